import PyProof.Rows.All
import Wide.All
import OpenK.AllK
import Wide.FinOn
import Lean
import KE.KIntText
import KE.KRevIter
import PyProof.StrLawsTight
import PyProof.StrLawsChain
import PyProof.Rows.CatFin
import PyProof.CollectIter
import PyProof.JoinWalk
import PyProof.Rows.StrDigitsNeg
import PyProof.Rows.StrJoinMade
import PyProof.Rows.StrBin
import KE.KLam
import KE.KNestM
import PyProof.EqAt
import PyProof.EqKinds
import PyProof.TupleCall
import PyProof.P3Eq
import PyProof.NeData
import PySem.Challenge.RW_sampleyard_k83_rows_refused
set_option Elab.async false
set_option linter.all false
set_option maxRecDepth 100000
noncomputable section
def Hd.said:PySem.W.OpenLaw.wellSaid PySem.Challenge.rw_sampleyard_k83_rows_refused=true:=by kernel_rfl
abbrev Vaa:=@decide_eq_false
abbrev Vab:=@beq_eq_false_iff_ne
abbrev Vac:=@PySem.Heap.lt_size
abbrev Vad:=@Nat.lt_of_lt_of_le
abbrev Vae:=@Nat.lt_irrefl
abbrev Vaf:=@Nat.ne_of_lt
abbrev Vag:=@PySem.W.hideAll_get
abbrev Vah:=@PySem.W.of_hideAll
abbrev Vai:=@List.mem_range
abbrev Vaj:=@PySem.W.hideAll_none
abbrev Vak:=@Nat.le_trans
abbrev Vam:=@List.filterMap_cons
abbrev Van:=@List.mem_cons_self
abbrev Vao:=@List.mem_cons_of_mem
abbrev Vap:=@PySem.Heap.get?_none_of_le
abbrev Vaq:=@List.mem_cons
abbrev Var:=@List.mem_append
abbrev Vas:=@List.mem_append_left
abbrev Vat:=@List.getElem?_eq_some_iff
abbrev Vau:=@List.getElem?_set_self
abbrev Vav:=@List.getElem?_set_ne
abbrev Vaw:=@Option.some.inj
abbrev Vax:=@PySem.wpAny_mono
abbrev Vay:=@Array.length_toList
abbrev Vaz:=@congrArg
abbrev VaA:=@PySem.wpAny_execs_nil
abbrev VaB:=@PySem.wpAny_execs_cons
abbrev VaC:=@PySem.wpAny_bind
abbrev VaD:=@PySem.wpAny_holding
abbrev VaE:=@PySem.wpAny_standAt
abbrev VaF:=@PySem.wpAny_passesOwn
abbrev VaG:=@Bool.false_ne_true
abbrev VaH:=@Nat.ne_of_gt
abbrev VaI:=@PySem.wpAny_pure
abbrev VaJ:=@PySem.Heap.get?_push_of_some
abbrev VaK:=@PySem.Heap.get?_push_size
abbrev VaL:=@Nat.le_refl
abbrev VaM:=@PyProof.Rows.callWith_type1
abbrev VaN:=@List.mem_filterMap
abbrev VaO:=@List.mem_append_right
abbrev VaP:=@PySem.sizeLine_eq
abbrev VaQ:=@List.size_toArray
abbrev VaR:=@beq_iff_eq
abbrev VaS:=@PySem.wpAny_loadPart
abbrev VaT:=@List.length_cons
abbrev VaU:=@PySem.W.looks_findIn
abbrev VaV:=@List.map_cons
abbrev VaW:=@List.length_map
abbrev VaX:=@PySem.Heap.size_push
abbrev VaY:=@Nat.lt_succ_self
abbrev VaZ:=@Nat.zero_le
abbrev Va0:=@PySem.W.kia_one
abbrev Va1:=@List.append_nil
abbrev Va2:=@PySem.wpAny_call
abbrev Va3:=@PySem.codeAny_mono
abbrev Va4:=@PySem.wpAny_Call_Name_kw
abbrev Va5:=@PySem.W.callWith_K
abbrev Va6:=@List.nodup_cons
abbrev Va7:=@List.length_take
abbrev Va8:=@PySem.mem_of_lookup
abbrev Va9:=@List.getElem?_append_right
abbrev Vba:=@List.getElem?_replicate
abbrev Vbb:=@List.getElem?_append_left
abbrev Vbc:=@List.getElem?_map
abbrev Vbd:=@List.mem_of_getElem?
abbrev Vbe:=@List.length_append
abbrev Vbf:=@List.length_replicate
abbrev Vbg:=@if_false
abbrev Vbh:=@if_true
abbrev Vbi:=@PySem.wpAny_field
abbrev Vbj:=@List.length_drop
abbrev Vbk:=@PyProof.Rows.slot_tuple_getitem
abbrev Vbl:=@PySem.wpAny_typeOf
abbrev Vbm:=@Bool.and_eq_true
abbrev Vbn:=@PySem.wpAny_newObj_type
abbrev Vbo:=@PySem.Heap.get?_update_self
abbrev Vbp:=@PySem.Heap.get?_update_other
abbrev Vbq:=@List.length_set
abbrev Vbr:=@PySem.typeIs_str
abbrev Vbs:=@PySem.call_meets
abbrev Vbt:=@decide_eq_true
abbrev Vbu:=@Nat.lt_of_le_of_lt
abbrev Vbv:=@List.lookup_cons
abbrev Vbw:=@Nat.lt_trans
abbrev Vbx:=@List.getElem?_drop
abbrev Vby:=@List.mem_map
abbrev Vbz:=@List.all_eq_true
abbrev VbA:=@Array.getElem?_eq_some_iff
abbrev VbB:=@PySem.F.excBase_ValueError
abbrev VbC:=@PySem.codeAny_call_builtin
abbrev VbD:=@PySem.Code.quiet_builtin
abbrev VbE:=@PySem.codeAny_builtin
abbrev VbF:=@PySem.W.looks_mroIn
abbrev VbG:=@List.drop_eq_getElem_cons
abbrev VbH:=@Bool.false_eq_true
abbrev VbI:=@List.drop_zero
abbrev VbJ:=@List.take_of_length_le
abbrev VbK:=@List.getElem?_eq_none
abbrev VbL:=@List.length_range
abbrev VbM:=@List.getElem?_eq_getElem
abbrev VbN:=@List.drop_eq_nil_of_le
abbrev VbO:=@List.map_map
abbrev VbP:=@List.append_assoc
abbrev VbQ:=@Nat.succ_le_succ
abbrev VbR:=@PySem.F.plainAttrs_list
abbrev VbS:=@PySem.wpAny_setField
abbrev VbT:=@PySem.Obj.data_mapFields
abbrev VbU:=@List.mem_singleton
abbrev VbV:=@List.mem_iff_getElem
abbrev VbW:=@List.map_append
abbrev VbX:=@List.pairwise_iff_getElem
abbrev VbY:=@Array.getElem?_eq_getElem
abbrev VbZ:=@List.getElem_mem
abbrev Vb0:=@Classical.byContradiction
abbrev Vb1:=@List.not_mem_nil
abbrev Vb2:=@Array.getElem?_toList
abbrev Vb3:=@PySem.wpAny_setState_of
abbrev Vb4:=@PySem.Around.under_plainId
abbrev Vb5:=@PySem.F.slot_str_startswith
abbrev Vb6:=@decide_eq_true_eq
abbrev Vb7:=@PySem.F.slot_str_split
abbrev Vb8:=@PySem.F.slot_str_join
abbrev Vb9:=@List.map_reverse
abbrev Vca:=@PySem.F.type_str_join
abbrev Vcb:=@Int.toNat_natCast
abbrev Vcc:=@PyProof.Rows.signs_ofString
abbrev Vcd:=@List.mem_of_mem_drop
abbrev Vce:=@List.mem_of_mem_take
abbrev Vcf:=@PySem.PassesOwn.leaving
abbrev Vcg:=@PySem.F.type_str_split
abbrev Vch:=@List.forall_mem_cons
abbrev Vci:=@PySem.W.mg_of
abbrev Vcj:=@PySem.W.mg_none_of
namespace L2
open PySem
def inClass(s:Stmt)(j:Nat):Stmt:=match s with
 | .ClassDef _ _ _ body _ _ _ _ _ _ _=>body.getD j (.Pass ⟨0,0,0,0⟩)
 | _=>.Pass ⟨0,0,0,0⟩
def Zeg(s:Stmt):Arguments:=match s with
 | .FunctionDef _ a _ _ _ _ _ _ _ _=>a
 | _=>{ posonlyargs:=[],args:=[],vararg:=none,kwonlyargs:=[],kw_defaults:=[],kwarg:=none,defaults:=[] }
def Zbn(s:Stmt):List Stmt:=match s with
 | .FunctionDef _ _ b _ _ _ _ _ _ _=>b
 | _=>[]
def Zac(s:Stmt):Scope:=match s with
 | .FunctionDef _ _ _ _ _ _ sc _ _ _=>sc
 | _=>{ kind:=.function,names:=[],isGenerator:=false,isCoroutine:=false }
end L2
namespace Hd
open PySem PySem.W L2
abbrev top(i:Nat):Stmt:=PySem.Challenge.pw_sampleyard_k83_rows_refused.main.body.getD i (.Pass ⟨0,0,0,0⟩)
def view:Program:={ PySem.Challenge.pw_sampleyard_k83_rows_refused with main:={ PySem.Challenge.pw_sampleyard_k83_rows_refused.main with body:=[top 0,top 2,top 3,top 4,top 5,top 6,top 7,top 9,top 10,top 11,top 13,top 15,top 16,top 17,top 18,top 19,top 21,top 23,top 24,top 25,top 26,top 27,top 29,top 30,top 31,top 33,top 34,top 35,top 36,top 37,top 38,top 39,top 40,top 42,top 43,top 44,top 45,top 46,top 47,top 48,top 49,top 50,top 51,top 52,top 53,top 54,top 55,top 56,top 57,top 58,top 59,top 60,top 61,top 62,top 63,top 64,top 65,top 66,top 67,top 68,top 69,top 71,top 72,top 73,top 74,top 75,top 76,top 77,top 78,top 79,top 80] } }
abbrev S(x:String):Str:=Str.ofString x
abbrev st(x:String)(t:Nat):Value:=.str (Str.ofString x) t
abbrev en(P:Params)(x:String)(t:Nat)(v:Value):DictEntry:=⟨PyData.keyHash P (Str.ofString x),.str (Str.ofString x) t,v⟩
abbrev fd(s:Stmt)(n q:String)(an:Option Addr)(d k c e m t:Value):Data:=.func { name:=Str.ofString n,qualname:=Str.ofString q,params:=Zeg s,body:=.stmts (Zbn s),scope:=Zac s,globals:=mainGlobals,closure:=[],defaults:=d,kwdefaults:=k,doc:=e,pyModule:=m,annotations:=an,code:=c,closureTuple:=t,builtins:=builtinsNs }
abbrev T(xs:Array Value):Obj:=⟨.type "tuple", none,.seq xs 0,#[]⟩
abbrev F(s:Stmt)(n q:String)(an:Option Addr)(d k c e m t:Value):Obj:=⟨.type "function", none,fd s n q an d k c e m t,#[]⟩
abbrev G(i:Nat)(n:String)(c:Nat)(m:String)(t:Nat):Obj:=F (top i) n n none .none .none (.ref c) .none (st m t) .none
abbrev D(es:List DictEntry)(n:Nat):Obj:=⟨.type "dict", none,.dict (List.toArray es) n,#[]⟩
abbrev C(n:String)(a:Nat)(q:String)(b c:Nat)(d e f g h:Int)(i:Value)(j:Bool)(k:Int)(l m o p r:Value)(s t:Int)(u:Nat):Obj:=⟨.type "code", none,.fields #[st n a,st q b,st "/claim/cut.py" c,.int d 0,.int e 0,.int f 0,.int g 0,.int h 0,i,.bool j,.int k 0,l,m,o,p,r,.int s 0,.int t 0,st "/claim/cut.py" u],#[]⟩
abbrev B(n:String)(a b c:Nat)(d e:Int)(i l o p r:Nat)(s:Int)(u:Nat):Obj:=C n a n b c d e 0 0 3 (.ref i) true 181 (.ref l) .none (.ref o) (.ref p) (.ref r) s d u
abbrev E(n:String)(a b c:Nat)(d e:Int)(i l r:Nat)(s:Int)(u:Nat):Obj:=C n a n b c d e 0 0 3 (.ref i) true 181 (.ref l) .none .none .none (.ref r) s d u
abbrev L(n:String)(b m:List Value)(a:Addr)(s:List Value)(sl:Array (Option Value)):Obj:=⟨.type "type", none,.cls { name:=Str.ofString n,bases:=b,mro:=m,ns:=a,qualname:=Str.ofString n,hasDict:=true,slotNames:=[],subclasses:=s,abstract:=false,collection:=none,hasDel:=false },sl⟩
def heap:Params->Frag:=λP =>
  (nat_lit 2,⟨.none,none,(.dict (List.toArray []) 0),#[]⟩)::
(nat_lit 3,(D [(en P "__name__" 165 (st "law_sampleyard_k83_rows_refused" 885)),(en P "__doc__" 166 .none),(en P "__package__" 167 .none),(en P "__loader__" 168 (.builtin "__main__.__loader__#opaque")),(en P "__spec__" 169 .none),(en P "__annotations__" 170 (.ref 6)),(en P "__builtins__" 171 (.ref 4)),(en P "__file__" 173 (st "/claim/cut.py" 172)),(en P "__cached__" 174 .none),(en P "_wall" 193 (.ref 21)),(en P "YardError" 213 (.ref 31)),(en P "BadTriangle" 229 (.ref 44)),(en P "BadThing" 245 (.ref 56)),(en P "BadFloor" 261 (.ref 68)),(en P "BadPattern" 277 (.ref 80)),(en P "NoRow" 302 (.ref 99)),(en P "is_whole" 311 (.ref 108)),(en P "is_between" 320 (.ref 115)),(en P "greatest_divisor" 331 (.ref 122)),(en P "is_fraction" 340 (.ref 129)),(en P "MOST_VALUES" 344 (.int (3) 343)),(en P "check_triangle" 352 (.ref 136)),(en P "is_corner" 358 (.ref 141)),(en P "are_values" 364 (.ref 146)),(en P "numbers_of" 371 (.ref 153)),(en P "check_before_eye" 381 (.ref 160)),(en P "MOST_CELLS" 385 (.int (64) 384)),(en P "MOST_SPOTS" 387 (.int (16) 386)),(en P "check_floor" 395 (.ref 167)),(en P "check_spots" 401 (.ref 172)),(en P "is_spot" 408 (.ref 179)),(en P "COUNTS" 416 (.ref 180)),(en P "check_pattern" 422 (.ref 185)),(en P "copied" 428 (.ref 190)),(en P "Thing" 466 (.ref 214)),(en P "Plain" 515 (.ref 256)),(en P "Shaded" 562 (.ref 296)),(en P "Patterned" 611 (.ref 336)),(en P "Glass" 669 (.ref 383)),(en P "check_values" 677 (.ref 392)),(en P "check_colour" 684 (.ref 399)),(en P "check_part" 691 (.ref 406)),(en P "FIGURES" 695 (st "0123456789" 694)),(en P "MOST_FIGURES" 697 (.int (30) 696)),(en P "number_word" 706 (.ref 413)),(en P "fraction_word" 713 (.ref 420)),(en P "read_number" 721 (.ref 427)),(en P "are_figures" 727 (.ref 432)),(en P "read_fraction" 736 (.ref 439)),(en P "words_behind" 745 (.ref 446)),(en P "just_words_behind" 755 (.ref 453)),(en P "numbers_behind" 761 (.ref 458)),(en P "thing_text" 767 (.ref 463)),(en P "head_words" 775 (.ref 470)),(en P "pattern_word" 781 (.ref 475)),(en P "corner_text" 787 (.ref 480)),(en P "read_thing" 793 (.ref 485)),(en P "check_text" 800 (.ref 492)),(en P "groups_of" 809 (.ref 499)),(en P "read_corner" 815 (.ref 504)),(en P "thing_of" 823 (.ref 511)),(en P "read_pattern" 829 (.ref 516)),(en P "scene_text" 835 (.ref 521)),(en P "pair_word" 842 (.ref 528)),(en P "read_scene" 848 (.ref 533)),(en P "read_at" 857 (.ref 540)),(en P "read_floor" 865 (.ref 547)),(en P "read_ground" 872 (.ref 554)),(en P "read_spots" 878 (.ref 559)),(en P "read_spot" 884 (.ref 564)),(en P "_law_mixed" 895 (.ref 571)),(en P "_law_things" 901 (.ref 576)),(en P "_law_rows" 909 (.ref 583)),(en P "_law_head" 915 (.ref 588)),(en P "_law_no_form" 926 (.ref 595)),(en P "_law_no_thing" 936 (.ref 602)),(en P "_law_caught" 947 (.ref 609)),(en P "_law_turned_about" 959 (.ref 616)),(en P "_law_spoilt" 970 (.ref 623)),(en P "law" 984 (.ref 630))] 80))::
(nat_lit 20,(B "_wall" 187 188 189 1 1 15 16 17 18 19 191 192))::
(nat_lit 21,(G 0 "_wall" 20 "__main__" 164))::
(nat_lit 22,(T #[(.type "ValueError")]))::
(nat_lit 30,(D [(en P "__module__" 203 (st "sampleyard.errors" 194)),(en P "__firstlineno__" 207 (.int (5) 206)),(en P "__static_attributes__" 208 (.ref 29)),(en P "__weakref__" 210 (.ref 32)),(en P "__doc__" 211 .none)] 3))::
(nat_lit 31,(L "YardError" [(.type "ValueError")] [(.ref 31),(.type "ValueError"),(.type "Exception"),(.type "BaseException"),(.type "object")] 30 [(.ref 44),(.ref 56),(.ref 68),(.ref 80),(.ref 99)] #[(some (.ref 22)),none,(some (st "YardError" 196)),(some (st "YardError" 204)),(some (.builtin "ValueError.__new__")),(some (.bool true))]))::
(nat_lit 32,⟨(.type "getset_descriptor"),none,(.fields #[(st "__weakref__" 209),(.ref 31),(.builtin "ExceptionGroup.__weakref__"),.none]),#[]⟩)::
(nat_lit 35,(T #[(.ref 31)]))::
(nat_lit 43,(D [(en P "__module__" 221 (st "sampleyard.errors" 194)),(en P "__firstlineno__" 225 (.int (7) 224)),(en P "__static_attributes__" 226 (.ref 42)),(en P "__doc__" 227 .none)] 2))::
(nat_lit 44,(L "BadTriangle" [(.ref 31)] [(.ref 44),(.ref 31),(.type "ValueError"),(.type "Exception"),(.type "BaseException"),(.type "object")] 43 [] #[(some (.ref 35)),none,(some (st "BadTriangle" 214)),(some (st "BadTriangle" 222)),(some (.builtin "ValueError.__new__")),(some (.bool true))]))::
(nat_lit 47,(T #[(.ref 31)]))::
(nat_lit 55,(D [(en P "__module__" 237 (st "sampleyard.errors" 194)),(en P "__firstlineno__" 241 (.int (9) 240)),(en P "__static_attributes__" 242 (.ref 54)),(en P "__doc__" 243 .none)] 2))::
(nat_lit 56,(L "BadThing" [(.ref 31)] [(.ref 56),(.ref 31),(.type "ValueError"),(.type "Exception"),(.type "BaseException"),(.type "object")] 55 [] #[(some (.ref 47)),none,(some (st "BadThing" 230)),(some (st "BadThing" 238)),(some (.builtin "ValueError.__new__")),(some (.bool true))]))::
(nat_lit 59,(T #[(.ref 31)]))::
(nat_lit 67,(D [(en P "__module__" 253 (st "sampleyard.errors" 194)),(en P "__firstlineno__" 257 (.int (11) 256)),(en P "__static_attributes__" 258 (.ref 66)),(en P "__doc__" 259 .none)] 2))::
(nat_lit 68,(L "BadFloor" [(.ref 31)] [(.ref 68),(.ref 31),(.type "ValueError"),(.type "Exception"),(.type "BaseException"),(.type "object")] 67 [] #[(some (.ref 59)),none,(some (st "BadFloor" 246)),(some (st "BadFloor" 254)),(some (.builtin "ValueError.__new__")),(some (.bool true))]))::
(nat_lit 71,(T #[(.ref 31)]))::
(nat_lit 79,(D [(en P "__module__" 269 (st "sampleyard.errors" 194)),(en P "__firstlineno__" 273 (.int (13) 272)),(en P "__static_attributes__" 274 (.ref 78)),(en P "__doc__" 275 .none)] 2))::
(nat_lit 80,(L "BadPattern" [(.ref 31)] [(.ref 80),(.ref 31),(.type "ValueError"),(.type "Exception"),(.type "BaseException"),(.type "object")] 79 [] #[(some (.ref 71)),none,(some (st "BadPattern" 262)),(some (st "BadPattern" 270)),(some (.builtin "ValueError.__new__")),(some (.bool true))]))::
(nat_lit 83,(T #[(.ref 31)]))::
(nat_lit 95,(C "__init__" 290 "NoRow.__init__" 291 292 17 2 0 0 3 (.ref 90) true 181 (.ref 91) .none (.ref 92) (.ref 93) (.ref 94) 295 17 296))::
(nat_lit 96,(F (inClass (top 7) 0) "__init__" "NoRow.__init__" none .none .none (.ref 95) .none (st "sampleyard.errors" 194) .none))::
(nat_lit 98,(D [(en P "__module__" 285 (st "sampleyard.errors" 194)),(en P "__firstlineno__" 289 (.int (15) 288)),(en P "__init__" 297 (.ref 96)),(en P "__static_attributes__" 299 (.ref 97)),(en P "__doc__" 300 .none)] 2))::
(nat_lit 99,(L "NoRow" [(.ref 31)] [(.ref 99),(.ref 31),(.type "ValueError"),(.type "Exception"),(.type "BaseException"),(.type "object")] 98 [] #[(some (.ref 83)),none,(some (st "NoRow" 278)),(some (st "NoRow" 286)),(some (.builtin "ValueError.__new__")),(some (.bool true))]))::
(nat_lit 107,(B "is_whole" 305 306 307 20 1 102 103 104 105 106 309 310))::
(nat_lit 108,(G 9 "is_whole" 107 "sampleyard.whole" 303))::
(nat_lit 114,(B "is_between" 312 313 314 22 3 109 110 111 112 113 318 319))::
(nat_lit 115,(G 10 "is_between" 114 "sampleyard.whole" 303))::
(nat_lit 121,(B "greatest_divisor" 321 322 323 24 1 116 117 118 119 120 329 330))::
(nat_lit 122,(G 11 "greatest_divisor" 121 "sampleyard.whole" 303))::
(nat_lit 128,(B "is_fraction" 334 335 336 34 1 123 124 125 126 127 338 339))::
(nat_lit 129,(G 13 "is_fraction" 128 "sampleyard.fractions" 332))::
(nat_lit 135,(B "check_triangle" 345 346 347 42 1 130 131 132 133 134 350 351))::
(nat_lit 136,(G 16 "check_triangle" 135 "sampleyard.corners" 341))::
(nat_lit 140,(E "is_corner" 353 354 355 50 1 137 138 139 356 357))::
(nat_lit 141,(G 17 "is_corner" 140 "sampleyard.corners" 341))::
(nat_lit 145,(E "are_values" 359 360 361 56 1 142 143 144 362 363))::
(nat_lit 146,(G 18 "are_values" 145 "sampleyard.corners" 341))::
(nat_lit 152,(B "numbers_of" 365 366 367 60 1 147 148 149 150 151 369 370))::
(nat_lit 153,(G 19 "numbers_of" 152 "sampleyard.corners" 341))::
(nat_lit 159,(B "check_before_eye" 374 375 376 63 1 154 155 156 157 158 379 380))::
(nat_lit 160,(G 21 "check_before_eye" 159 "sampleyard.edges" 372))::
(nat_lit 166,(B "check_floor" 388 389 390 70 2 161 162 163 164 165 393 394))::
(nat_lit 167,(G 25 "check_floor" 166 "sampleyard.paint" 382))::
(nat_lit 171,(E "check_spots" 396 397 398 73 1 168 169 170 399 400))::
(nat_lit 172,(G 26 "check_spots" 171 "sampleyard.paint" 382))::
(nat_lit 178,(B "is_spot" 402 403 404 80 1 173 174 175 176 177 406 407))::
(nat_lit 179,(G 27 "is_spot" 178 "sampleyard.paint" 382))::
(nat_lit 180,(T #[(.int (1) 411),(.int (2) 412),(.int (4) 413),(.int (8) 414),(.int (16) 415)]))::
(nat_lit 184,(E "check_pattern" 417 418 419 86 1 181 182 183 420 421))::
(nat_lit 185,(G 30 "check_pattern" 184 "sampleyard.patterns" 409))::
(nat_lit 189,(E "copied" 423 424 425 96 1 186 187 188 426 427))::
(nat_lit 190,(G 31 "copied" 189 "sampleyard.patterns" 409))::
(nat_lit 203,(C "__init__" 443 "Thing.__init__" 444 445 101 2 0 0 3 (.ref 198) true 181 (.ref 199) .none (.ref 200) (.ref 201) (.ref 202) 448 101 449))::
(nat_lit 204,(F (inClass (top 33) 0) "__init__" "Thing.__init__" none .none .none (.ref 203) .none (st "sampleyard.things" 429) .none))::
(nat_lit 210,(C "is_glass" 451 "Thing.is_glass" 452 453 106 1 0 0 3 (.ref 205) true 181 (.ref 206) .none (.ref 207) (.ref 208) (.ref 209) 455 106 456))::
(nat_lit 211,(F (inClass (top 33) 1) "is_glass" "Thing.is_glass" none .none .none (.ref 210) .none (st "sampleyard.things" 429) .none))::
(nat_lit 213,(D [(en P "__module__" 438 (st "sampleyard.things" 429)),(en P "__firstlineno__" 442 (.int (99) 441)),(en P "__init__" 450 (.ref 204)),(en P "is_glass" 457 (.ref 211)),(en P "__static_attributes__" 459 (.ref 212)),(en P "__dict__" 461 (.ref 215)),(en P "__weakref__" 463 (.ref 216)),(en P "__doc__" 464 .none)] 4))::
(nat_lit 214,(L "Thing" [(.type "object")] [(.ref 214),(.type "object")] 213 [(.ref 256),(.ref 296),(.ref 336),(.ref 383)] #[none,none,(some (st "Thing" 431)),(some (st "Thing" 439)),(some (.builtin "object.__new__")),(some (.bool true))]))::
(nat_lit 215,⟨(.type "getset_descriptor"),none,(.fields #[(st "__dict__" 460),(.ref 214),(.builtin "function.__dict__"),(.builtin "function.__dict__#set")]),#[]⟩)::
(nat_lit 216,⟨(.type "getset_descriptor"),none,(.fields #[(st "__weakref__" 462),(.ref 214),(.builtin "ExceptionGroup.__weakref__"),.none]),#[]⟩)::
(nat_lit 219,(T #[(.ref 214)]))::
(nat_lit 231,(C "__init__" 479 "Plain.__init__" 480 481 110 3 0 0 3 (.ref 226) true 181 (.ref 227) .none (.ref 228) (.ref 229) (.ref 230) 485 110 486))::
(nat_lit 232,(F (inClass (top 34) 0) "__init__" "Plain.__init__" none .none .none (.ref 231) .none (st "sampleyard.things" 429) .none))::
(nat_lit 238,(C "word" 488 "Plain.word" 489 490 115 1 0 0 3 (.ref 233) true 181 (.ref 234) .none (.ref 235) (.ref 236) (.ref 237) 492 115 493))::
(nat_lit 239,(F (inClass (top 34) 1) "word" "Plain.word" none .none .none (.ref 238) .none (st "sampleyard.things" 429) .none))::
(nat_lit 245,(C "colour_at" 495 "Plain.colour_at" 496 497 118 2 0 0 3 (.ref 240) true 181 (.ref 241) .none (.ref 242) (.ref 243) (.ref 244) 500 118 501))::
(nat_lit 246,(F (inClass (top 34) 2) "colour_at" "Plain.colour_at" none .none .none (.ref 245) .none (st "sampleyard.things" 429) .none))::
(nat_lit 252,(C "like" 503 "Plain.like" 504 505 121 2 0 0 3 (.ref 247) true 181 (.ref 248) .none (.ref 249) (.ref 250) (.ref 251) 508 121 509))::
(nat_lit 253,(F (inClass (top 34) 3) "like" "Plain.like" none .none .none (.ref 252) .none (st "sampleyard.things" 429) .none))::
(nat_lit 255,(D [(en P "__module__" 474 (st "sampleyard.things" 429)),(en P "__firstlineno__" 478 (.int (108) 477)),(en P "__init__" 487 (.ref 232)),(en P "word" 494 (.ref 239)),(en P "colour_at" 502 (.ref 246)),(en P "like" 510 (.ref 253)),(en P "__static_attributes__" 512 (.ref 254)),(en P "__doc__" 513 .none)] 2))::
(nat_lit 256,(L "Plain" [(.ref 214)] [(.ref 256),(.ref 214),(.type "object")] 255 [] #[(some (.ref 219)),none,(some (st "Plain" 467)),(some (st "Plain" 475)),(some (.builtin "object.__new__")),(some (.bool true))]))::
(nat_lit 259,(T #[(.ref 214)]))::
(nat_lit 271,(C "__init__" 528 "Shaded.__init__" 529 530 125 2 0 0 3 (.ref 266) true 181 (.ref 267) .none (.ref 268) (.ref 269) (.ref 270) 533 125 534))::
(nat_lit 272,(F (inClass (top 35) 0) "__init__" "Shaded.__init__" none .none .none (.ref 271) .none (st "sampleyard.things" 429) .none))::
(nat_lit 278,(C "word" 536 "Shaded.word" 537 538 129 1 0 0 3 (.ref 273) true 181 (.ref 274) .none (.ref 275) (.ref 276) (.ref 277) 540 129 541))::
(nat_lit 279,(F (inClass (top 35) 1) "word" "Shaded.word" none .none .none (.ref 278) .none (st "sampleyard.things" 429) .none))::
(nat_lit 285,(C "colour_at" 543 "Shaded.colour_at" 544 545 132 2 0 0 3 (.ref 280) true 181 (.ref 281) .none (.ref 282) (.ref 283) (.ref 284) 548 132 549))::
(nat_lit 286,(F (inClass (top 35) 2) "colour_at" "Shaded.colour_at" none .none .none (.ref 285) .none (st "sampleyard.things" 429) .none))::
(nat_lit 292,(C "like" 551 "Shaded.like" 552 553 135 2 0 0 3 (.ref 287) true 181 (.ref 288) .none (.ref 289) (.ref 290) (.ref 291) 556 135 557))::
(nat_lit 293,(F (inClass (top 35) 3) "like" "Shaded.like" none .none .none (.ref 292) .none (st "sampleyard.things" 429) .none))::
(nat_lit 295,(D [(en P "__module__" 523 (st "sampleyard.things" 429)),(en P "__firstlineno__" 527 (.int (123) 526)),(en P "__init__" 535 (.ref 272)),(en P "word" 542 (.ref 279)),(en P "colour_at" 550 (.ref 286)),(en P "like" 558 (.ref 293)),(en P "__static_attributes__" 559 (.ref 294)),(en P "__doc__" 560 .none)] 2))::
(nat_lit 296,(L "Shaded" [(.ref 214)] [(.ref 296),(.ref 214),(.type "object")] 295 [] #[(some (.ref 259)),none,(some (st "Shaded" 516)),(some (st "Shaded" 524)),(some (.builtin "object.__new__")),(some (.bool true))]))::
(nat_lit 299,(T #[(.ref 214)]))::
(nat_lit 311,(C "__init__" 575 "Patterned.__init__" 576 577 139 3 0 0 3 (.ref 306) true 181 (.ref 307) .none (.ref 308) (.ref 309) (.ref 310) 581 139 582))::
(nat_lit 312,(F (inClass (top 36) 0) "__init__" "Patterned.__init__" none .none .none (.ref 311) .none (st "sampleyard.things" 429) .none))::
(nat_lit 318,(C "word" 584 "Patterned.word" 585 586 145 1 0 0 3 (.ref 313) true 181 (.ref 314) .none (.ref 315) (.ref 316) (.ref 317) 588 145 589))::
(nat_lit 319,(F (inClass (top 36) 1) "word" "Patterned.word" none .none .none (.ref 318) .none (st "sampleyard.things" 429) .none))::
(nat_lit 325,(C "colour_at" 591 "Patterned.colour_at" 592 593 148 2 0 0 3 (.ref 320) true 181 (.ref 321) .none (.ref 322) (.ref 323) (.ref 324) 596 148 597))::
(nat_lit 326,(F (inClass (top 36) 2) "colour_at" "Patterned.colour_at" none .none .none (.ref 325) .none (st "sampleyard.things" 429) .none))::
(nat_lit 332,(C "like" 599 "Patterned.like" 600 601 151 2 0 0 3 (.ref 327) true 181 (.ref 328) .none (.ref 329) (.ref 330) (.ref 331) 604 151 605))::
(nat_lit 333,(F (inClass (top 36) 3) "like" "Patterned.like" none .none .none (.ref 332) .none (st "sampleyard.things" 429) .none))::
(nat_lit 335,(D [(en P "__module__" 570 (st "sampleyard.things" 429)),(en P "__firstlineno__" 574 (.int (137) 573)),(en P "__init__" 583 (.ref 312)),(en P "word" 590 (.ref 319)),(en P "colour_at" 598 (.ref 326)),(en P "like" 606 (.ref 333)),(en P "__static_attributes__" 608 (.ref 334)),(en P "__doc__" 609 .none)] 2))::
(nat_lit 336,(L "Patterned" [(.ref 214)] [(.ref 336),(.ref 214),(.type "object")] 335 [] #[(some (.ref 299)),none,(some (st "Patterned" 563)),(some (st "Patterned" 571)),(some (.builtin "object.__new__")),(some (.bool true))]))::
(nat_lit 339,(T #[(.ref 214)]))::
(nat_lit 351,(C "__init__" 624 "Glass.__init__" 625 626 155 4 0 0 3 (.ref 346) true 181 (.ref 347) .none (.ref 348) (.ref 349) (.ref 350) 631 155 632))::
(nat_lit 352,(F (inClass (top 37) 0) "__init__" "Glass.__init__" none .none .none (.ref 351) .none (st "sampleyard.things" 429) .none))::
(nat_lit 358,(C "word" 634 "Glass.word" 635 636 162 1 0 0 3 (.ref 353) true 181 (.ref 354) .none (.ref 355) (.ref 356) (.ref 357) 638 162 639))::
(nat_lit 359,(F (inClass (top 37) 1) "word" "Glass.word" none .none .none (.ref 358) .none (st "sampleyard.things" 429) .none))::
(nat_lit 365,(C "is_glass" 641 "Glass.is_glass" 642 643 165 1 0 0 3 (.ref 360) true 181 (.ref 361) .none (.ref 362) (.ref 363) (.ref 364) 645 165 646))::
(nat_lit 366,(F (inClass (top 37) 2) "is_glass" "Glass.is_glass" none .none .none (.ref 365) .none (st "sampleyard.things" 429) .none))::
(nat_lit 372,(C "colour_at" 648 "Glass.colour_at" 649 650 168 2 0 0 3 (.ref 367) true 181 (.ref 368) .none (.ref 369) (.ref 370) (.ref 371) 653 168 654))::
(nat_lit 373,(F (inClass (top 37) 3) "colour_at" "Glass.colour_at" none .none .none (.ref 372) .none (st "sampleyard.things" 429) .none))::
(nat_lit 379,(C "like" 656 "Glass.like" 657 658 171 2 0 0 3 (.ref 374) true 181 (.ref 375) .none (.ref 376) (.ref 377) (.ref 378) 661 171 662))::
(nat_lit 380,(F (inClass (top 37) 4) "like" "Glass.like" none .none .none (.ref 379) .none (st "sampleyard.things" 429) .none))::
(nat_lit 382,(D [(en P "__module__" 619 (st "sampleyard.things" 429)),(en P "__firstlineno__" 623 (.int (153) 622)),(en P "__init__" 633 (.ref 352)),(en P "word" 640 (.ref 359)),(en P "is_glass" 647 (.ref 366)),(en P "colour_at" 655 (.ref 373)),(en P "like" 663 (.ref 380)),(en P "__static_attributes__" 666 (.ref 381)),(en P "__doc__" 667 .none)] 2))::
(nat_lit 383,(L "Glass" [(.ref 214)] [(.ref 383),(.ref 214),(.type "object")] 382 [] #[(some (.ref 339)),none,(some (st "Glass" 612)),(some (st "Glass" 620)),(some (.builtin "object.__new__")),(some (.bool true))]))::
(nat_lit 391,(B "check_values" 670 671 672 173 2 386 387 388 389 390 675 676))::
(nat_lit 392,(G 38 "check_values" 391 "sampleyard.things" 429))::
(nat_lit 398,(B "check_colour" 678 679 680 176 1 393 394 395 396 397 682 683))::
(nat_lit 399,(G 39 "check_colour" 398 "sampleyard.things" 429))::
(nat_lit 405,(B "check_part" 685 686 687 179 1 400 401 402 403 404 689 690))::
(nat_lit 406,(G 40 "check_part" 405 "sampleyard.things" 429))::
(nat_lit 412,(B "number_word" 698 699 700 185 1 407 408 409 410 411 704 705))::
(nat_lit 413,(G 44 "number_word" 412 "sampleyard.texts" 692))::
(nat_lit 419,(B "fraction_word" 707 708 709 195 1 414 415 416 417 418 711 712))::
(nat_lit 420,(G 45 "fraction_word" 419 "sampleyard.texts" 692))::
(nat_lit 426,(B "read_number" 714 715 716 199 1 421 422 423 424 425 719 720))::
(nat_lit 427,(G 46 "read_number" 426 "sampleyard.texts" 692))::
(nat_lit 431,(E "are_figures" 722 723 724 204 1 428 429 430 725 726))::
(nat_lit 432,(G 47 "are_figures" 431 "sampleyard.texts" 692))::
(nat_lit 438,(B "read_fraction" 728 729 730 210 1 433 434 435 436 437 734 735))::
(nat_lit 439,(G 48 "read_fraction" 438 "sampleyard.texts" 692))::
(nat_lit 445,(B "words_behind" 737 738 739 218 2 440 441 442 443 444 743 744))::
(nat_lit 446,(G 49 "words_behind" 445 "sampleyard.texts" 692))::
(nat_lit 452,(B "just_words_behind" 746 747 748 223 3 447 448 449 450 451 753 754))::
(nat_lit 453,(G 50 "just_words_behind" 452 "sampleyard.texts" 692))::
(nat_lit 457,(E "numbers_behind" 756 757 758 228 3 454 455 456 759 760))::
(nat_lit 458,(G 51 "numbers_behind" 457 "sampleyard.texts" 692))::
(nat_lit 462,(E "thing_text" 762 763 764 230 1 459 460 461 765 766))::
(nat_lit 463,(G 52 "thing_text" 462 "sampleyard.texts" 692))::
(nat_lit 469,(B "head_words" 768 769 770 232 1 464 465 466 467 468 773 774))::
(nat_lit 470,(G 53 "head_words" 469 "sampleyard.texts" 692))::
(nat_lit 474,(E "pattern_word" 776 777 778 241 1 471 472 473 779 780))::
(nat_lit 475,(G 54 "pattern_word" 474 "sampleyard.texts" 692))::
(nat_lit 479,(E "corner_text" 782 783 784 243 1 476 477 478 785 786))::
(nat_lit 480,(G 55 "corner_text" 479 "sampleyard.texts" 692))::
(nat_lit 484,(E "read_thing" 788 789 790 245 1 481 482 483 791 792))::
(nat_lit 485,(G 56 "read_thing" 484 "sampleyard.texts" 692))::
(nat_lit 491,(B "check_text" 794 795 796 251 1 486 487 488 489 490 798 799))::
(nat_lit 492,(G 57 "check_text" 491 "sampleyard.texts" 692))::
(nat_lit 498,(B "groups_of" 801 802 803 254 1 493 494 495 496 497 807 808))::
(nat_lit 499,(G 58 "groups_of" 498 "sampleyard.texts" 692))::
(nat_lit 503,(E "read_corner" 810 811 812 262 1 500 501 502 813 814))::
(nat_lit 504,(G 59 "read_corner" 503 "sampleyard.texts" 692))::
(nat_lit 510,(B "thing_of" 816 817 818 267 2 505 506 507 508 509 821 822))::
(nat_lit 511,(G 60 "thing_of" 510 "sampleyard.texts" 692))::
(nat_lit 515,(E "read_pattern" 824 825 826 277 1 512 513 514 827 828))::
(nat_lit 516,(G 61 "read_pattern" 515 "sampleyard.texts" 692))::
(nat_lit 520,(E "scene_text" 830 831 832 279 1 517 518 519 833 834))::
(nat_lit 521,(G 62 "scene_text" 520 "sampleyard.texts" 692))::
(nat_lit 527,(B "pair_word" 836 837 838 282 1 522 523 524 525 526 840 841))::
(nat_lit 528,(G 63 "pair_word" 527 "sampleyard.texts" 692))::
(nat_lit 532,(E "read_scene" 843 844 845 284 1 529 530 531 846 847))::
(nat_lit 533,(G 64 "read_scene" 532 "sampleyard.texts" 692))::
(nat_lit 539,(B "read_at" 849 850 851 292 3 534 535 536 537 538 855 856))::
(nat_lit 540,(G 65 "read_at" 539 "sampleyard.texts" 692))::
(nat_lit 546,(B "read_floor" 858 859 860 299 1 541 542 543 544 545 863 864))::
(nat_lit 547,(G 66 "read_floor" 546 "sampleyard.texts" 692))::
(nat_lit 553,(B "read_ground" 866 867 868 303 1 548 549 550 551 552 870 871))::
(nat_lit 554,(G 67 "read_ground" 553 "sampleyard.texts" 692))::
(nat_lit 558,(E "read_spots" 873 874 875 305 1 555 556 557 876 877))::
(nat_lit 559,(G 68 "read_spots" 558 "sampleyard.texts" 692))::
(nat_lit 563,(E "read_spot" 879 880 881 309 1 560 561 562 882 883))::
(nat_lit 564,(G 69 "read_spot" 563 "sampleyard.texts" 692))::
(nat_lit 570,(B "_law_mixed" 887 888 889 312 2 565 566 567 568 569 893 894))::
(nat_lit 571,(G 71 "_law_mixed" 570 "law_sampleyard_k83_rows_refused" 885))::
(nat_lit 575,(E "_law_things" 896 897 898 318 1 572 573 574 899 900))::
(nat_lit 576,(G 72 "_law_things" 575 "law_sampleyard_k83_rows_refused" 885))::
(nat_lit 582,(B "_law_rows" 902 903 904 323 1 577 578 579 580 581 907 908))::
(nat_lit 583,(G 73 "_law_rows" 582 "law_sampleyard_k83_rows_refused" 885))::
(nat_lit 587,(E "_law_head" 910 911 912 328 2 584 585 586 913 914))::
(nat_lit 588,(G 74 "_law_head" 587 "law_sampleyard_k83_rows_refused" 885))::
(nat_lit 594,(B "_law_no_form" 916 917 918 338 1 589 590 591 592 593 924 925))::
(nat_lit 595,(G 75 "_law_no_form" 594 "law_sampleyard_k83_rows_refused" 885))::
(nat_lit 601,(B "_law_no_thing" 927 928 929 350 1 596 597 598 599 600 934 935))::
(nat_lit 602,(G 76 "_law_no_thing" 601 "law_sampleyard_k83_rows_refused" 885))::
(nat_lit 608,(B "_law_caught" 937 938 939 361 2 603 604 605 606 607 945 946))::
(nat_lit 609,(G 77 "_law_caught" 608 "law_sampleyard_k83_rows_refused" 885))::
(nat_lit 615,(B "_law_turned_about" 948 949 950 379 3 610 611 612 613 614 957 958))::
(nat_lit 616,(G 78 "_law_turned_about" 615 "law_sampleyard_k83_rows_refused" 885))::
(nat_lit 622,(B "_law_spoilt" 960 961 962 391 2 617 618 619 620 621 968 969))::
(nat_lit 623,(G 79 "_law_spoilt" 622 "law_sampleyard_k83_rows_refused" 885))::
(nat_lit 629,(B "law" 971 972 973 409 1 624 625 626 627 628 982 983))::
(nat_lit 630,(G 80 "law" 629 "law_sampleyard_k83_rows_refused" 885))::
[]
abbrev addrs:List Addr:=[2,3,20,21,22,30,31,32,35,43,44,47,55,56,59,67,68,71,79,80,83,95,96,98,99,107,108,114,115,121,122,128,129,135,136,140,141,145,146,152,153,159,160,166,167,171,172,178,179,180,184,185,189,190,203,204,210,211,213,214,215,216,219,231,232,238,239,245,246,252,253,255,256,259,271,272,278,279,285,286,292,293,295,296,299,311,312,318,319,325,326,332,333,335,336,339,351,352,358,359,365,366,372,373,379,380,382,383,391,392,398,399,405,406,412,413,419,420,426,427,431,432,438,439,445,446,452,453,457,458,462,463,469,470,474,475,479,480,484,485,491,492,498,499,503,504,510,511,515,516,520,521,527,528,532,533,539,540,546,547,553,554,558,559,563,564,570,571,575,576,582,583,587,588,594,595,601,602,608,609,615,616,622,623,629,630]
abbrev most:Nat:=9420
def ZdM(P:Params):addrs=(heap P).map (·.1):=rfl
abbrev hook:Hook:=kHook heap addrs ZdM
end Hd
namespace Hd
open PySem PySem.W PyProof.Rows
def Zfv(tb:String->Option Builtin)(p:Program)(w:World)(n₀:Nat)(ann:Option Value):Nat->SharedT->Thread->Option SharedT
 | 0,_,_=>none
 | n+1,s,t=>match through t with
  | true=>some s
  | false=>match stepOk n₀ ann t with
   | false=>none
   | true=>match stepT (denote tb) p w s t with
    | some (s',t')=>Zfv tb p w n₀ ann n s' t'
    | none=>none
def Zgq{tb:String->Option Builtin}{p:Program}{w:World}{n₀:Nat}{ann:Option Value}:∀{n:Nat} {s s':SharedT} {t:Thread},Zfv tb p w n₀ ann n s t=some s'->topRun tb p w n₀ ann n s.abs t=some s'.abs
 | 0,_,_,_,h=>by cases h
 | n+1,s,s',t,h=>by
  unfold Zfv at h;unfold topRun;cases he:through t with
  | true=>rw [he] at h;cases h;rfl
  | false =>
   rw [he] at h;cases hk:stepOk n₀ ann t with
   | false=>rw [hk] at h;cases h
   | true =>
    rw [hk] at h;cases hs:stepT (denote tb) p w s t with
    | none=>rw [hs] at h;cases h
    | some r=>obtain ⟨s₂,t₂⟩:=r;rw [hs] at h;rw [stepT_spec hs];exact Zgq h
def Zg5(p:Program)(w:World)(n₀:Nat)(ann:Option Value):Nat->SharedT->Thread->Option SharedT
 | 0,_,_=>none
 | n+1,s,t=>match through t with
  | true=>some s
  | false=>match Fast.tw6613529449190102663 n₀ ann t with
   | false=>none
   | true=>match Fast.tw10156331382660048174 (Fast.tw11892475500146522536 Fast.tw14364793385576792824) p w s t with
    | some (s',t')=>Zg5 p w n₀ ann n s' t'
    | none=>none
def Zgx(p:Program)(w:World)(n₀:Nat)(ann:Option Value):∀(n:Nat) (s:SharedT) (t:Thread),Zfv treeTable p w n₀ ann n s t=Zg5 p w n₀ ann n s t
 | 0,_,_=>rfl
 | n+1,s,t=>by
  unfold Zfv Zg5;rw [Fast.te6613529449190102663,Fast.te10156331382660048174,Fast.te11892475500146522536,Fast.te14364793385576792824];cases through t with
  | true=>rfl
  | false =>
   cases Fast.tw6613529449190102663 n₀ ann t with
   | false=>rfl
   | true =>
    cases Fast.tw10156331382660048174 (Fast.tw11892475500146522536 Fast.tw14364793385576792824) p w s t with
    | none=>rfl
    | some r =>
     obtain ⟨s',t'⟩:=r;have:=Zgx p w n₀ ann n s' t';rw [Fast.te14364793385576792824] at this;exact this
def ZjS(i:Nat)(t:BT):List Obj->BT
 | []=>t
 | o::r=>ZjS (i+1) (t.ins i o) r
def Zr3(w:World)(os:OsState):SharedT:=⟨ZjS 0 .nil (boot_heap w.params).objs.toList,(boot_heap w.params).objs.size,(boot_heap w.params).life,Array.mk [],boot_drawn,boot_toks,os⟩
def Zlf(w:World)(os:OsState):(Zr3 w os).abs=⟨boot_heap w.params,Array.mk [],boot_drawn,boot_toks,os⟩:=by kernel_rfl
def obsT(as:List Addr)(s:SharedT):List (Option Obj):=as.map λa=>match Nat.blt a s.n with
 | true=>alive ((s.tree.get a).getD default)
 | false=>none
def ZqP(as:List Addr)(s:SharedT):as.map s.abs.heap.get?=obsT as s:=by
 unfold obsT;refine List.map_congr_left λa _=>?_;show (absHeap s.tree s.n s.life).get? a=_;unfold Heap.get?;rw [absHeap_at];by_cases h:a<s.n
 ·rw [if_pos h,show Nat.blt a s.n=true from Nat.ble_eq.mpr h];generalize (s.tree.get a).getD default=o;obtain ⟨c,d,dt,sl⟩:=o;cases dt<;>rfl
 ·rw [if_neg h,show Nat.blt a s.n=false from Bool.eq_false_iff.mpr λz=>h (Nat.le_of_ble_eq_true z)]
def Zl0{p q:Program}{loose:List Str}{Xt:Shared->Bool}{α:Type}{Yf:Shared->α}{Yt:SharedT->α}{Ya:World->α}{N m₀:Nat}{ann:Option Value}{g0:Bool}(hY:∀s,Yf s.abs=Yt s)
  (e:opening p=plainProg p.main.scope.names) (hN:Nat.ble 600 N=true) (f:∀s,fenceModules? p s=some s)
  (hz:∀w:World,((boot_heap w.params).isNs mainGlobals,(boot_heap w.params).objs.size,(boot_heap w.params).nsMap mainGlobals "__annotations__")=(true,m₀,ann))
  (h:∀(w:World) (os:OsState),(Zg5 p w m₀ ann N (Zr3 w os) (topStub p)).map (λs=>((staticsOk (importedModules p.main.body) (boot_heap w.params) s.abs.heap&&namesBound p s.abs.heap&&gensDone s.abs&&laidKept (boot_heap w.params) s.abs.heap),Fast.tw4187177175401517315 q loose (importedModules p.main.body) Xt g0 s.abs,Yt s))=some (true,openGood q loose,Ya w)) :
  LeftO p q loose Xt Yf Ya N g0:=λw=>by
 obtain ⟨s,hs,hv⟩:=Option.map_eq_some_iff.mp (boot_open e hN f w);unfold openEnds;rw [hs];obtain ⟨hp,g,d,k,os⟩:=s;obtain ⟨rfl,rfl,rfl,rfl⟩ : hp=boot_heap w.params/\g=Array.mk []/\d=boot_drawn/\k=boot_toks:=by simpa using hv
 obtain ⟨s₁,h1,h2⟩:=Option.map_eq_some_iff.mp (h w os);rw [<-Zgx] at h1;rw [<-Fast.te4187177175401517315] at h2;have r:=Zgq h1;rw [Zlf] at r;obtain ⟨z1,z2,z3⟩ : _/\_/\_:=by simpa only [Prod.mk.injEq] using hz w
 obtain ⟨l1,l2,l3⟩ : _/\_/\_:=by simpa only [Prod.mk.injEq] using h2
 show (topFrom treeTable p w N ⟨boot_heap w.params,Array.mk [],boot_drawn,boot_toks,os⟩).map _=_;unfold topFrom;dsimp only;rw [z1]
 show (((topRun treeTable p w (boot_heap w.params).objs.size ((boot_heap w.params).nsMap mainGlobals "__annotations__") N ⟨boot_heap w.params,Array.mk [],boot_drawn,boot_toks,os⟩ (topStub p)).bind λs₁=>match staticsOk (importedModules p.main.body) (boot_heap w.params) s₁.heap&&namesBound p s₁.heap&&gensDone s₁&&laidKept (boot_heap w.params) s₁.heap with
   | true=>some s₁
   | false=>none).map _)=_
 rw [z2,z3,r]
 show ((match staticsOk (importedModules p.main.body) (boot_heap w.params) s₁.abs.heap&&namesBound p s₁.abs.heap&&gensDone s₁.abs&&laidKept (boot_heap w.params) s₁.abs.heap with
   | true=>some s₁.abs
   | false=>none).map _)=_
 rw [l1];show some (openSeen q loose (importedModules p.main.body) Xt g0 s₁.abs,Yf s₁.abs)=_;rw [l2,hY,l3]
set_option maxRecDepth 100000 in
set_option maxHeartbeats 0 in
def left:LeftO PySem.Challenge.pw_sampleyard_k83_rows_refused view [] (λs=>xlAt view [] s&&recOk (RowW.records PySem.Challenge.rw_sampleyard_k83_rows_refused.row.toRowW) s) (Hook.obs hook) (Hook.val hook) most :=
 Zl0 (ZqP addrs) (by kernel_rfl) (by decide) (λs=>by kernel_rfl) (m₀:=11) (ann:=some (.ref 6)) (λw=>by kernel_rfl) (λw os=>by kernel_rfl)
end Hd
namespace L2
open PySem PySem.Spec PyProof.Rows
abbrev Key:=Sum Int Str
def ZrH:Key->Value->Bool
 | .inl k,v=>Value.isInt k v
 | .inr x,v=>Value.isStrOf x v
def keyH(w:World):Key->Int
 | .inl k=>hashInt k
 | .inr x=>hashStr w x
def ZaV:∀{k:Key} {v:Value},ZrH k v=true->(∃i t,k=Sum.inl i/\v=Value.int i t)\/(∃x t,k=Sum.inr x/\v=Value.str x t)
 | .inl i,v,h=>by
  obtain ⟨t,e⟩:=Value.isInt_shape (k:=i) (v:=v) h;exact .inl ⟨i,t,rfl,e⟩
 | .inr x,v,h=>by
  obtain ⟨t,e⟩:=Value.isStrOf_shape (x:=x) (v:=v) h;exact .inr ⟨x,t,rfl,e⟩
def Zs2(a b:Int):decide ((Sum.inl a:Key)=Sum.inl b)=(a==b):=by
 by_cases e:a=b
 ·subst e;simp
 ·have h:¬(Sum.inl a:Key)=Sum.inl b:=λq=>e (Sum.inl.inj q);rw [Vaa h];exact (Vab.mpr e).symm
def Zr5(a b:Str):decide ((Sum.inr a:Key)=Sum.inr b)=decide (a=b):=by
 by_cases e:a=b
 ·subst e;simp
 ·have h:¬(Sum.inr a:Key)=Sum.inr b:=λq=>e (Sum.inr.inj q);rw [Vaa h,Vaa e]
def ZrF(a:Int)(b:Str):decide ((Sum.inl a:Key)=Sum.inr b)=false:=Vaa (λq=>nomatch q)
def ZsE(a:Str)(b:Int):decide ((Sum.inr a:Key)=Sum.inl b)=false:=Vaa (λq=>nomatch q)
def ZkP(prog:Program)(w:World):PySem.KeyKind prog w Key where
 is:=ZrH
 hash:=keyH w
 inj:=λv a b ha hb=>by
  rcases ZaV ha with ⟨i,t,rfl,rfl⟩ | ⟨x,t,rfl,rfl⟩
  ·rcases ZaV hb with ⟨j,u,rfl,e⟩ | ⟨y,u,rfl,e⟩
   ·injection e with e1 _;rw [e1]
   ·exact nomatch e
  ·rcases ZaV hb with ⟨j,u,rfl,e⟩ | ⟨y,u,rfl,e⟩
   ·exact nomatch e
   ·injection e with e1 _;rw [e1]
 byValue:=λk v h=>by
  rcases ZaV h with ⟨i,t,rfl,rfl⟩ | ⟨x,t,rfl,rfl⟩<;>rfl
 pyHash:=λhv h=>by
  rcases ZaV hv with ⟨i,t,rfl,rfl⟩ | ⟨x,t,rfl,rfl⟩
  ·exact wpAny_pyHash_int h
  ·exact wpAny_pyHash_str h
 eqBool:=λhu hv h=>by
  rcases ZaV hu with ⟨i,t,rfl,rfl⟩ | ⟨x,t,rfl,rfl⟩
  ·rcases ZaV hv with ⟨j,u,rfl,rfl⟩ | ⟨y,u,rfl,rfl⟩
   ·rw [Zs2] at h;exact wpAny_eqBool_int h
   ·rw [ZrF] at h;exact SeqAt.EqAt.int_str i t y u _ _ _ _ h
  ·rcases ZaV hv with ⟨j,u,rfl,rfl⟩ | ⟨y,u,rfl,rfl⟩
   ·rw [ZsE] at h;exact SeqAt.EqAt.str_int x t j u _ _ _ _ h
   ·rw [Zr5] at h;exact wpAny_eqBool_str h
 «strs»:=λk x t v h=>by
  rcases ZaV h with ⟨i,u,rfl,e⟩ | ⟨y,u,rfl,e⟩
  ·exact nomatch e
  ·injection e with e1 _
   subst e1;cases v<;>rfl
inductive V where
 | non | bl (b:Bool) | int (i:Int) | str (x:Str) | byt (b:Array UInt8) | flt (b:UInt64) | ref (a:Addr) | ty (n:String)
 deriving DecidableEq
def RelV:V->Value->Prop
 | .non,u=>u=Value.none
 | .bl b,u=>u=Value.bool b
 | .int i,u=>∃t,u=Value.int i t
 | .str x,u=>∃t,u=Value.str x t
 | .byt b,u=>∃t,u=Value.bytes b t
 | .flt b,u=>∃t,u=Value.float b t
 | .ref a,u=>u=Value.ref a
 | .ty n,u=>u=Value.type n
abbrev Vals:List V->List Value->Prop:=Paired RelV
def Vals.length{xs:List V}{us:List Value}(r:Vals xs us):xs.length=us.length:=Paired.length r
def Vals.get:∀{xs:List V} {us:List Value} {i:Nat} {x:V},Vals xs us->xs[i]?=some x->∃u,us[i]?=some u/\RelV x u
 | _,_,_,_,.nil,e=>by simp at e
 | _,_,0,_,.cons r _,e=>by simp at e;subst e;exact ⟨_,rfl,r⟩
 | _,_,i+1,x,.cons _ t,e=>by
  obtain ⟨u,h1,h2⟩:=Vals.get (i:=i) (x:=x) t (by simpa using e);exact ⟨u,by simpa using h1,h2⟩
def Vals.set{x:V}{u:Value}(r:RelV x u):∀{xs:List V} {us:List Value} (i:Nat),Vals xs us->Vals (xs.set i x) (us.set i u)
 | _,_,_,.nil=>.nil
 | _,_,0,.cons _ t=>.cons r t
 | _,_,i+1,.cons q t=>.cons q (Vals.set r i t)
def Vals.append:∀{xs ys:List V} {us ws:List Value},Vals xs us->Vals ys ws->Vals (xs++ys) (us++ws)
 | _,_,_,_,.nil,s=>s
 | _,_,_,_,.cons r t,s=>.cons r (Vals.append t s)
def Vals.take:∀{xs:List V} {us:List Value} (n:Nat),Vals xs us->Vals (xs.take n) (us.take n)
 | _,_,0,_=>.nil
 | _,_,_+1,.nil=>.nil
 | _,_,n+1,.cons r t=>.cons r (Vals.take n t)
def Vals.drop:∀{xs:List V} {us:List Value} (n:Nat),Vals xs us->Vals (xs.drop n) (us.drop n)
 | _,_,0,r=>r
 | _,_,_+1,.nil=>.nil
 | _,_,n+1,.cons _ t=>Vals.drop n t
def RelO:Option V->Option Value->Prop
 | some v,some u=>RelV v u
 | none,none=>True
 | _,_=>False
def KV{κ:Type}:List (κ×V)->List (κ×Value)->Prop:=Paired λ(p:κ×V) (q:κ×Value)=>p.1=q.1/\RelV p.2 q.2
def kV:Key->V
 | .inl i=>.int i
 | .inr x=>.str x
inductive HO where
 | lst (xs:List V)
 | tup (xs:List V)
 | dK (kvs:List (Key×V)) | dT (kvs:List (List Key×V))
 | set (S:Int->Bool) (n:Nat)
 | ins (C dx:Addr) (fs:List (Str×V))
 | own (x:Addr)
 | xd (fs:List (Str×V))
 | met (f x:Addr)
 | rng (lo hi:Int)
 | frz (o:Obj) (u:HO)
 | tbl (ps:Array Value)
 | ext (φ:Heap->Prop)
abbrev Hp:=Addr->Option HO
def upd(H:Hp)(a:Addr)(o:HO):Hp:=λb=>if b=a then some o else H b
def Zag{H:Hp}{a:Addr}{o:HO}:upd H a o a=some o:=by unfold upd;rw [if_pos rfl]
def Zae{H:Hp}{a b:Addr}{o:HO}(h:b≠a):upd H a o b=H b:=by unfold upd;rw [if_neg h]
def Zah{H:Hp}{a b:Addr}{o:HO}(h:H a=some o)(h':H b=none):a≠b:=by
 intro e;subst e;rw [h] at h';cases h'
section
variable(P:Program)(w:World)
def Zbt(H:Hp)(h:Heap)(a:Addr):HO->Prop
 | .lst xs=>xs.length<=sizeLine/\∃(its:List Value) (n:Nat),Vals xs its/\h.get? a=some { cls:=.type "list", data:=.seq its.toArray n }
 | .tup xs=>xs.length<=sizeLine/\∃its:List Value,Vals xs its/\IsTup h a its.toArray
 | .dK kvs=>kvs.length<=sizeLine/\(a==sysModules)=false/\∃vs,KV kvs vs/\h.DictOf (ZkP P w) a vs
 | .dT kvs=>kvs.length<=sizeLine/\(a==sysModules)=false/\∃xs:List (List Key×Addr×Value),
   Paired (λ(p:List Key×V) (q:List Key×Addr×Value)=>p.1=q.1/\H q.2.1=some (.tup (p.1.map kV))/\RelV p.2 q.2.2) kvs xs /\
   ∃o es ep,h.get? a=some o/\o.ExactDict/\o.data=.dict es ep/\es.toList=xs.map (entryOfKey (tupleKind (ZkP P w)))/\(xs.map (·.1)).Nodup
 | .set S n=>h.SetOf (intKind P w) a S n
 | .ins C dx fs=>H dx=some (.own a)/\fs.length<=1000/\dx≠a/\h.get? a=some (W.instObj C dx) /\
   ∃mA,h.Ns1 dx mA/\(∀f,RelO (fs.lookup f) (mA f))/\PySem.Within mA (fs.map (·.1))
 | .own _=>∃o,h.get? a=some o
 | .xd fs=>∃mA,h.Ns1 a mA/\∀f,RelO (fs.lookup f) (mA f)
 | .rng lo hi=>∃t u v,h.get? a=some { cls:=.type "range", data:=.fields #[.int lo t,.int hi u,.int 1 v] }
 | .frz o u=>h.get? a=some o/\Zbt H h a u
 | .tbl ps=>h.get? a=some { cls:=.none,data:=.fields ps }
 | .met f x=>h.get? a=some (W.methodObj (.ref f) (.ref x))
 | .ext φ=>φ h/\(∃o,h.get? a=some o)/\∀h1 h2:Heap,φ h1->(∀o,h1.get? a=some o->h2.get? a=some o)->φ h2
def HOk(H:Hp)(h:Heap):Prop:=∀a o,H a=some o->Zbt P w H h a o
end
section
variable{P:Program}{w:World}{H H':Hp}{h h':Heap}{a:Addr}{o:HO}
def Zbt.lt(x:Zbt P w H h a o):a<h.objs.size:=by
 cases o with
 | lst xs=>obtain ⟨_,_,_,_,e⟩:=x;exact Vac e
 | tup xs=>obtain ⟨_,_,_,p⟩:=x;exact p.lt
 | dK kvs=>obtain ⟨_,_,_,_,o,_,_,e,_⟩:=x;exact Vac e
 | dT kvs=>obtain ⟨_,_,_,_,o,_,_,e,_⟩:=x;exact Vac e
 | set S n=>obtain ⟨o,_,_,_,e,_⟩:=x;exact Vac e
 | ins C dx fs=>obtain ⟨_,_,_,e,_⟩:=x;exact Vac e
 | own y=>obtain ⟨_,e⟩:=x;exact Vac e
 | xd fs=>obtain ⟨_,⟨_,_,_,e,_⟩,_⟩:=x;exact Vac e
 | rng lo hi=>obtain ⟨_,_,_,e⟩:=x;exact Vac e
 | frz ob u=>obtain ⟨e,_⟩:=x;exact Vac e
 | tbl ps=>exact Vac (show h.get? a=some _ from x)
 | met f y=>exact Vac (show h.get? a=some _ from x)
 | ext φ=>obtain ⟨_,⟨_,e⟩,_⟩:=x;exact Vac e
def Paired.mapP{α β:Type}{F G:α->β->Prop}:∀{l₁:List α} {l₂:List β},Paired F l₁ l₂->(∀a b,F a b->G a b)->Paired G l₁ l₂
 | _,_,.nil,_=>.nil
 | _,_,.cons r t,f=>.cons (f _ _ r) (Paired.mapP t f)
def Zbt.stay(x:Zbt P w H h a o)(k:∀b u,(b=a\/H b=some (.own a))->h.get? b=some u->h'.get? b=some u)
  (ho:∀b,H b=some (.own a)->H' b=some (.own a)) (ht:∀b xs,H b=some (.tup xs)->H' b=some (.tup xs)):Zbt P w H' h' a o:=by
 induction o with
 | lst xs=>obtain ⟨z,its,n,r,e⟩:=x;exact ⟨z,its,n,r,k _ _ (.inl rfl) e⟩
 | tup xs=>obtain ⟨z,its,r,ob,e,c⟩:=x;exact ⟨z,its,r,ob,k _ _ (.inl rfl) e,c⟩
 | dK kvs=>obtain ⟨z,y,vs,r,ob,es,ep,e,c⟩:=x;exact ⟨z,y,vs,r,ob,es,ep,k _ _ (.inl rfl) e,c⟩
 | dT kvs =>
  obtain ⟨z,y,xs,r,ob,es,ep,e,c⟩:=x;exact ⟨z,y,xs,Paired.mapP r λp q z=>⟨z.1,ht _ _ z.2.1,z.2.2⟩,ob,es,ep,k _ _ (.inl rfl) e,c⟩
 | set S n=>obtain ⟨ob,es,ep,t,e,c⟩:=x;exact ⟨ob,es,ep,t,k _ _ (.inl rfl) e,c⟩
 | ins C dx fs =>
  obtain ⟨d,z,ne,e,mA,⟨od,es,ep,e2,c⟩,r⟩:=x;exact ⟨ho _ d,z,ne,k _ _ (.inl rfl) e,mA,⟨od,es,ep,k _ _ (.inr d) e2,c⟩,r⟩
 | own y=>obtain ⟨ob,e⟩:=x;exact ⟨ob,k _ _ (.inl rfl) e⟩
 | xd fs=>obtain ⟨mA,⟨od,es,ep,e,c⟩,r⟩:=x;exact ⟨mA,⟨od,es,ep,k _ _ (.inl rfl) e,c⟩,r⟩
 | rng lo hi=>obtain ⟨t,u,v,e⟩:=x;exact ⟨t,u,v,k _ _ (.inl rfl) e⟩
 | frz ob u ih=>obtain ⟨e,q⟩:=x;exact ⟨k _ _ (.inl rfl) e,ih q⟩
 | tbl ps =>
  have e:h.get? a=some { cls:=.none,data:=.fields ps }:=x;show h'.get? a=some { cls:=.none,data:=.fields ps };exact k a _ (.inl rfl) e
 | met f y =>
  have e:h.get? a=some (W.methodObj (.ref f) (.ref y)):=x;show h'.get? a=some (W.methodObj (.ref f) (.ref y));exact k a _ (.inl rfl) e
 | ext φ=>obtain ⟨p,⟨o,e⟩,st⟩:=x;exact ⟨st _ _ p λo q=>k _ _ (.inl rfl) q,⟨o,k _ _ (.inl rfl) e⟩,st⟩
def HOk.lt(x:HOk P w H h)(e:H a=some o):a<h.objs.size:=(x a o e).lt
def HOk.fresh(x:HOk P w H h)(e:h.objs.size<=a):H a=none:=by
 cases q:H a with
 | none=>rfl
 | some u=>exact absurd (Vad (x.lt q) e) (Vae _)
def HOk.kept(x:HOk P w H h)(k:∀b u,h.get? b=some u->h'.get? b=some u):HOk P w H h':=λa o e =>
 (x a o e).stay (λb u _ q=>k b u q) (λ_ q=>q) λ_ _ q=>q
def HOk.laid(x:HOk P w H h)(k:∀b u,h.get? b=some u->h'.get? b=some u)(hp:h.objs.size<=a)(new:Zbt P w (upd H a o) h' a o):HOk P w (upd H a o) h':=λb u e=>by
 have hn:=x.fresh hp;by_cases hb:b=a
 ·subst hb;rw [Zag] at e;cases e;exact new
 ·rw [Zae hb] at e;exact (x b u e).stay (λc v _ q=>k c v q) (λc q=>by rw [Zae (Zah q hn)];exact q) λc xs q=>by rw [Zae (Zah q hn)];exact q
end
def Rd(H:Hp)(a:Addr)(u:HO):Prop:=H a=some u\/∃o,H a=some (.frz o u)
def Rd.ok{P:Program}{w:World}{H:Hp}{h:Heap}{a:Addr}{u:HO}(r:Rd H a u)(x:HOk P w H h):Zbt P w H h a u:=by
 rcases r with r | ⟨o,r⟩
 ·exact x a u r
 ·obtain ⟨_,q⟩:=x a _ r;exact q
def Mut:Option HO->Prop
 | some (.lst _)=>True
 | some (.dK _)=>True
 | some (.dT _)=>True
 | some (.set _ _)=>True
 | some (.ins _ _ _)=>True
 | some (.ext _)=>True
 | _=>False
section
variable{P:Program}{w:World}{H:Hp}{h h':Heap}{x e:Addr}{o':HO}
def HOk.write(ok:HOk P w H h)(mu:Mut (H x))(he:e=x\/H e=some (.own x))(k:∀b u,b≠e->h.get? b=some u->h'.get? b=some u)(heo:∃u,h'.get? e=some u)
  (new:Zbt P w (upd H x o') h' x o'):HOk P w (upd H x o') h':=λb u q=>by
 have nown:∀c y,H c=some (.own y)->c≠x:=λc y r z=>by subst z;rw [r] at mu;exact mu
 have ntup:∀c xs,H c=some (.tup xs)->c≠x:=λc xs r z=>by subst z;rw [r] at mu;exact mu
 by_cases hb:b=x
 ·subst hb;rw [Zag] at q;cases q;exact new
 ·rw [Zae hb] at q;by_cases hbe:b=e
  ·have q':H b=some (.own x):=by
    rcases he with z | z
    ·exact absurd (hbe.trans z) hb
    ·rw [hbe];exact z
   rw [q] at q';cases q';obtain ⟨v,hv⟩:=heo;exact ⟨v,by rw [hbe];exact hv⟩
  ·refine (ok b u q).stay (λc v hc r=>k c v ?_ r) (λc r=>by rw [Zae (nown c b r)];exact r) λc xs r=>by rw [Zae (ntup c xs r)];exact r
   rcases hc with rfl | hc
   ·exact hbe
   ·rintro rfl;rcases he with z | z
    ·exact nown c b hc z
    ·rw [hc] at z;cases z;exact hb rfl
end
structure Un(fs ex:List Addr)(H H':Hp)(h h':Heap):Prop where
 keep:∀b o,h.get? b=some o->H b=none->b∉fs->b∉ex->h'.get? b=some o
 slot:∀b o,h.get? b=some o->H b=none->b∈fs->b∉ex->∃sl,h'.get? b=some { o with slots:=sl }
 free:∀b o,h.get? b=some o->H b=none->b∉ex->H' b=none
 there:∀b o,h.get? b=some o->b∉ex->∃o',h'.get? b=some o'
 tups:∀b xs,H b=some (.tup xs)->H' b=some (.tup xs)
 frzs:∀b o u,H b=some (.frz o u)->H' b=some (.frz o u)
 tbls:∀b ps,H b=some (.tbl ps)->∃more,H' b=some (.tbl (ps++more))
section
variable{fs fs' ex ex':List Addr}{H H1 H2:Hp}{h h1 h2 h':Heap}{a x e:Addr}{o:HO}
def Un.any(u:Un fs ex H H1 h h1){b:Addr}{ob:Obj}(q:h.get? b=some ob)(n:H b=none)(hx:b∉ex):∃sl,h1.get? b=some { ob with slots:=sl }:=by
 by_cases hb:b∈fs
 ·exact u.slot b ob q n hb hx
 ·exact ⟨ob.slots,u.keep b ob q n hb hx⟩
def Un.trans(a:Un fs ex H H1 h h1)(b:Un fs ex H1 H2 h1 h2):Un fs ex H H2 h h2 where
 keep:=λc ob q n hc hx=>b.keep c ob (a.keep c ob q n hc hx) (a.free c ob q n hx) hc hx
 slot:=λc ob q n hc hx=>by
  obtain ⟨sl,e1⟩:=a.slot c ob q n hc hx;obtain ⟨sl',e2⟩:=b.slot c _ e1 (a.free c ob q n hx) hc hx;exact ⟨sl',e2⟩
 free:=λc ob q n hx=>by
  obtain ⟨o',e1⟩:=a.there c ob q hx;exact b.free c o' e1 (a.free c ob q n hx) hx
 there:=λc ob q hx=>by
  obtain ⟨o',e1⟩:=a.there c ob q hx;exact b.there c o' e1 hx
 tups:=λc xs q=>b.tups c xs (a.tups c xs q)
 frzs:=λc ob xs q=>b.frzs c ob xs (a.frzs c ob xs q)
 tbls:=λc ps q=>by
  obtain ⟨m1,e1⟩:=a.tbls c ps q;obtain ⟨m2,e2⟩:=b.tbls c _ e1;exact ⟨m1++m2,by rw [e2,Array.append_assoc]⟩
def Un.kept(k:∀b u,h.get? b=some u->h'.get? b=some u):Un fs ex H H h h' :=
 ⟨λb ob q _ _ _=>k b ob q,λb ob q _ _ _=>⟨ob.slots,k b ob q⟩,λ_ _ _ n _=>n,λb ob q _=>⟨ob,k b ob q⟩,λ_ _ q=>q,λ_ _ _ q=>q,λ_ ps q=>⟨#[],by rw [q];simp⟩⟩
def Un.refl:Un fs ex H H h h:=Un.kept λ_ _ q=>q
def Un.laid(k:∀b u,h.get? b=some u->h'.get? b=some u)(hp:h.objs.size<=a)(hn:H a=none):Un fs ex H (upd H a o) h h' where
 keep:=λb u q _ _ _=>k b u q
 slot:=λb u q _ _ _=>⟨u.slots,k b u q⟩
 free:=λb u q n _=>by rw [Zae (Vaf (Vad (Vac q) hp))];exact n
 there:=λb u q _=>⟨u,k b u q⟩
 tups:=λb xs q=>by rw [Zae (Zah q hn)];exact q
 frzs:=λb u xs q=>by rw [Zae (Zah q hn)];exact q
 tbls:=λb ps q=>⟨#[],by rw [Zae (Zah q hn),q];simp⟩
def Un.write(mu:Mut (H x))(he:e=x\/H e=some (.own x))(k:∀b u,b≠e->h.get? b=some u->h'.get? b=some u)(heo:∃u,h'.get? e=some u):Un fs ex H (upd H x o) h h':=by
 have hx:∀b,H b=none->b≠x:=λb n z=>by subst z;rw [n] at mu;exact mu
 have hb:∀b,H b=none->b≠e:=λb n z=>by
  subst z;rcases he with r | r
  ·exact hx b n r
  ·rw [n] at r;cases r
 have hm:∀b u,H b=some u->¬Mut (some u)->b≠x:=λb u q nm z=>by subst z;rw [q] at mu;exact nm mu
 refine ⟨λb u q n _ _=>k b u (hb b n) q,λb u q n _ _=>⟨u.slots,k b u (hb b n) q⟩,λb u q n _=>by rw [Zae (hx b n)];exact n,λb u q _=>?_,
  λb xs q=>by rw [Zae (hm b _ q λz=>z)];exact q,λb u xs q=>by rw [Zae (hm b _ q λz=>z)];exact q,λb ps q=>⟨#[],by rw [Zae (hm b _ q λz=>z),q];simp⟩⟩
 by_cases hbe:b=e
 ·subst hbe;exact heo
 ·exact ⟨u,k b u hbe q⟩
def Un.mono(u:Un fs ex H H1 h h1)(hs:∀b∈fs,b∈fs')(hx:∀b∈ex,b∈ex'):Un fs' ex' H H1 h h1 :=
 ⟨λb ob q n hb he=>u.keep b ob q n (λz=>hb (hs b z)) λz=>he (hx b z),λ_ _ q n _ he=>u.any q n λz=>he (hx _ z),λb ob q n he=>u.free b ob q n λz=>he (hx b z),λb ob q he=>u.there b ob q λz=>he (hx b z),u.tups,u.frzs,u.tbls⟩
end
def trk(h:Heap)(H:Hp):List Addr:=(List.range h.objs.size).filter λa=>(H a).isSome
def hidT(h:Heap)(H:Hp):Heap:=W.hideAll h (trk h H)
def Zmf(h:Heap)(H:Hp):(hidT h H).objs.size=h.objs.size:=W.hideAll_size _ _
def ZmB{h:Heap}{H:Hp}{b:Addr}{o:Obj}(e:h.get? b=some o)(n:H b=none):(hidT h H).get? b=some o :=
 Vag _ e λhm=>by
  have q:(H b).isSome=true:=(List.mem_filter.mp hm).2;rw [n] at q;simp at q
def ZoF{h:Heap}{H:Hp}{b:Addr}{o:Obj}(e:(hidT h H).get? b=some o):h.get? b=some o/\H b=none:=by
 have e':h.get? b=some o:=Vah (trk h H) e;refine ⟨e',?_⟩;cases q:H b with
 | none=>rfl
 | some x =>
  have hm:b∈trk h H:=List.mem_filter.mpr ⟨Vai.mpr (Vac e'),by simp [q]⟩;have z:(hidT h H).get? b=none:=Vaj (trk h H) hm;rw [z] at e;cases e
structure Mod(K:W.Frag)(mg:Str->Option Value)(base:Heap):Prop where
 kin:K.In base
 glob:base.Ns mainGlobals mg
 blt:∃mb,base.Ns builtinsNs mb/\∀x:Str,x ≠ "__name__"->mb x=bootBuiltins x
 nolimit:base.NoLimit
structure Cx where
 prog:Program
 w:World
 K:W.Frag
 mg:Str->Option Value
 base:Heap
 A:Around
 N:List Str
 s₀:Shared
 H₀:Hp
 env:Env
 outer:List Env
 stack:List Env
 ex:List Addr
 fn:Str->Bool
 calm:Bool
 pn:List (Addr×Obj)
 xe:Value->Shared->Prop
def frs(l:List Env):List Addr:=l.filterMap (·.frame)
abbrev Cx.fs(X:Cx):List Addr:=frs X.outer
def Vis(sc:Scope)(x:Str):Prop:=sc.names.lookup x=some .local\/sc.names.lookup x=some .cell\/sc.names.lookup x=some .free
def Loc(sc:Scope)(x:Str):Prop:=sc.names.lookup x=some .local\/sc.names.lookup x=some .cell
def Look(env:Env)(h:Heap)(m:Str->Option Value)(x:Str)(u:Value):Prop :=
 (env.kindOf x=some .local/\m x=some u)\/((env.kindOf x=some .cell\/env.kindOf x=some .free)/\∃c,env.cells.lookup x=some c/\h.IsCell c (some u))
structure Cx.Ok(X:Cx):Prop where
 mod:Mod X.K X.mg X.base
 kind:X.env.scope.kind=.function
 glob:X.env.globals=mainGlobals
 blt:X.env.builtins=builtinsNs
 above:X.s₀.heap.objs.size<=X.env.locals
 inj:∀x y c,X.env.cells.lookup x=some c->X.env.cells.lookup y=some c->x=y
 has:∀x,(X.env.kindOf x=some .cell\/X.env.kindOf x=some .free)->∃c,X.env.cells.lookup x=some c
 cab:∀x c,X.fn x=true->X.env.cells.lookup x=some c->X.s₀.heap.objs.size<=c
 hd:X.calm=true->X.A.handled=none
 frames:X.A.frames=some X.stack
 stk:X.stack=X.outer\/(X.stack=X.env::X.outer/\X.env.frame=some X.env.locals)
 exf:∀b∈X.ex,b≠X.env.locals/\∀x c,X.env.cells.lookup x=some c->c≠b
 bs:∀b o,X.base.get? b=some o->X.s₀.heap.get? b=some o/\X.H₀ b=none
 bsz:X.base.objs.size<=X.s₀.heap.objs.size
 noex:∀b o,X.base.get? b=some o->b∉X.ex
 exfs:∀b∈X.ex,b∉X.fs
 funs:X.s₀.heap.FunFrames X.base X.outer
 frf:∀b∈X.fs,X.H₀ b=none
structure Inv(X:Cx)(pins:List (Addr×Obj))(σ:List (Option V))(H:Hp)(s:Shared):Prop where
 ok:X.Ok
 os:s.os=X.s₀.os
 bare:AllBare s.gens
 base:Un X.fs X.ex X.H₀ H X.s₀.heap s.heap
 loc:∃m,s.heap.Ns X.env.locals m/\∀(i:Nat) (x:Str) (v:V),X.N[i]?=some x->σ[i]?=some (some v)->Vis X.env.scope x->∃u,RelV v u/\Look X.env s.heap m x u
 cell:∀x c,X.env.cells.lookup x=some c->∃v,s.heap.IsCell c v
 free:H X.env.locals=none
 freeC:∀x c,X.env.cells.lookup x=some c->H c=none
 pin:∀p∈X.pn++pins,s.heap.get? p.1=some p.2/\H p.1=none/\p.1≠X.env.locals/\p.1∉X.fs/\∀v,p.2.data≠.cell v
 hok:HOk X.prog X.w H s.heap
 len:σ.length=X.N.length
section
variable{X:Cx}{pins:List (Addr×Obj)}{σ:List (Option V)}{H H':Hp}{s:Shared}{h':Heap}
def Cx.Ok.nofr(ok:X.Ok){b:Addr}{o:Obj}(e:X.base.get? b=some o):b∉X.fs:=λhb=>by
 have:=(ok.funs.mem hb).1;rw [e] at this;cases this
def Inv.bs(I:Inv X pins σ H s):∀b o,X.base.get? b=some o->s.heap.get? b=some o/\H b=none:=λb o e =>
 ⟨I.base.keep b o (I.ok.bs b o e).1 (I.ok.bs b o e).2 (I.ok.nofr e) (I.ok.noex b o e),I.base.free b o (I.ok.bs b o e).1 (I.ok.bs b o e).2 (I.ok.noex b o e)⟩
def Inv.bk(I:Inv X pins σ H s):∀b o,X.base.get? b=some o->s.heap.get? b=some o:=λb o e=>(I.bs b o e).1
def Inv.mod(I:Inv X pins σ H s):Mod X.K X.mg X.base:=I.ok.mod
def Inv.kIn(I:Inv X pins σ H s):X.K.In s.heap:=I.ok.mod.kin.keeps I.bk
def Inv.lt(I:Inv X pins σ H s):X.env.locals<s.heap.objs.size:=let ⟨_,hn,_⟩:=I.loc;hn.lt
def Inv.sz(I:Inv X pins σ H s):X.s₀.heap.objs.size<=s.heap.objs.size:=Vak I.ok.above (Nat.le_of_lt I.lt)
def Inv.nofs(I:Inv X pins σ H s){a:Addr}(h:s.heap.objs.size<=a):a∉X.fs:=λhb=>by
 obtain ⟨_,o,ho,_⟩:=I.ok.funs.mem hb;exact absurd (Vad (Vac ho) (Vak I.sz h)) (Vae _)
def Inv.cne(I:Inv X pins σ H s):∀x c,X.env.cells.lookup x=some c->c≠X.env.locals:=λx c e z=>by
 obtain ⟨v,o,ho,hd⟩:=I.cell x c e;obtain ⟨m,⟨o',es,ep,ho',hd',_⟩,_⟩:=I.loc;rw [z,ho'] at ho;cases ho;rw [hd'] at hd;cases hd
def Inv.funs(I:Inv X pins σ H s):s.heap.FunFrames X.base X.outer:=by
 have all:∀(l:List Env),(∀b∈frs l,b∈X.fs)->X.s₀.heap.FunFrames X.base l->s.heap.FunFrames X.base l:=by
  intro l
  induction l with
  | nil=>intro _ _;trivial
  | cons env r ih =>
   intro hs hl;obtain ⟨hk,⟨L,o,hf,hn,ho,hd⟩,hr⟩:=hl;have hL:L∈X.fs:=hs L (by unfold frs;rw [List.filterMap_cons,hf];exact List.mem_cons_self);obtain ⟨sl,e⟩:=I.base.slot L o ho (I.ok.frf L hL) hL λz=>I.ok.exfs L z hL;exact ⟨hk,⟨L,_,hf,hn,e,hd⟩,ih (λb hb=>hs b (by unfold frs;rw [List.filterMap_cons,hf];exact List.mem_cons_of_mem _ hb)) hr⟩
 exact all X.outer (λ_ hb=>hb) I.ok.funs
def Inv.stack(I:Inv X pins σ H s):s.heap.FunFrames X.base X.stack:=by
 rcases I.ok.stk with e | ⟨e,hf⟩
 ·rw [e];exact I.funs
 ·rw [e];obtain ⟨m,hn,_⟩:=I.loc;refine .cons (by rw [I.ok.kind];decide) hf hn ?_ I.funs;exact Vap (Vak I.ok.bsz I.ok.above)
def Inv.stkSub(I:Inv X pins σ H s):∀b∈frs X.stack,b∈X.env.locals::X.fs:=λb hb=>by
 rcases I.ok.stk with e | ⟨e,hf⟩
 ·rw [e] at hb;exact Vao _ hb
 ·rw [e] at hb;unfold frs at hb;rw [Vam,hf] at hb;exact hb
def Inv.stkFree(I:Inv X pins σ H s):∀b∈frs X.stack,H b=none:=λb hb=>by
 rcases Vaq.mp (I.stkSub b hb) with e | hb
 ·rw [e];exact I.free
 ·obtain ⟨_,o,ho,_⟩:=I.ok.funs.mem hb;exact I.base.free b o ho (I.ok.frf b hb) λz=>I.ok.exfs b z hb
def Inv.step{g':Array GenState}{t':Nat}{d':Drawn}{ch:List Addr}(I:Inv X pins σ H s)
  (hch:∀b∈ch,(b∈X.ex\/X.s₀.heap.objs.size<=b)/\b≠X.env.locals/\(∀x c,X.env.cells.lookup x=some c->c≠b)/\∀p∈X.pn++pins,p.1≠b)
  (keep:∀b o,b≠X.env.locals->b∉X.fs->b∉ch->s.heap.get? b=some o->H b=none->h'.get? b=some o)
  (slot:∀b o,b≠X.env.locals->b∈X.fs->b∉ch->s.heap.get? b=some o->H b=none->∃sl,h'.get? b=some { o with slots:=sl }) (free:∀b o,b∉ch->s.heap.get? b=some o->H b=none->H' b=none)
  (there:∀b o,b∉ch->s.heap.get? b=some o->∃o',h'.get? b=some o')
  (tups:∀b xs,H b=some (.tup xs)->H' b=some (.tup xs)) (frzs:∀b o u,H b=some (.frz o u)->H' b=some (.frz o u)) (tbls:∀b ps,H b=some (.tbl ps)->∃more,H' b=some (.tbl (ps++more)))
  (ns:∀m,s.heap.Ns X.env.locals m->h'.Ns X.env.locals m) (hok:HOk X.prog X.w H' h') (hg:AllBare g') :
  Inv X pins σ H' { s with heap:=h',gens:=g',drawn:=d',toks:=t' }:=by
 have neL:∀b o,X.s₀.heap.get? b=some o->b≠X.env.locals:=λb o e=>Vaf (Vad (Vac e) I.ok.above);have neC:∀b o,X.s₀.heap.get? b=some o->b∉X.ex->b∉ch:=λb o e hx hb=>by
  rcases (hch b hb).1 with z | z
  ·exact hx z
  ·exact absurd (Vad (Vac e) z) (Vae _)
 have cellK:∀x c,X.env.cells.lookup x=some c->∀v,s.heap.IsCell c v->h'.IsCell c v:=λx c e v ⟨o,ho,hd⟩=>by
  have nch:c∉ch:=λz=>(hch c z).2.2.1 x c e rfl;by_cases hc:c∈X.fs
  ·obtain ⟨sl,q⟩:=slot c o (I.cne x c e) hc nch ho (I.freeC x c e);exact ⟨_,q,hd⟩
  ·exact ⟨o,keep c o (I.cne x c e) hc nch ho (I.freeC x c e),hd⟩
 refine ⟨I.ok,I.os,hg,⟨λb o e n hb hx=>?_,λb o e n hb hx=>?_,λb o e n hx=>?_,λb o e hx=>?_,λb xs e=>tups b xs (I.base.tups b xs e),λb o xs e=>frzs b o xs (I.base.frzs b o xs e),λb ps e=>?_⟩,?_,λx c e=>?_,?_,λx c e=>?_,λp hp=>?_,hok,I.len⟩
 ·exact keep b o (neL b o e) hb (neC b o e hx) (I.base.keep b o e n hb hx) (I.base.free b o e n hx)
 ·obtain ⟨sl,e1⟩:=I.base.slot b o e n hb hx;obtain ⟨sl',e2⟩:=slot b _ (neL b o e) hb (neC b o e hx) e1 (I.base.free b o e n hx);exact ⟨sl',e2⟩
 ·obtain ⟨o',e1⟩:=I.base.there b o e hx;exact free b o' (neC b o e hx) e1 (I.base.free b o e n hx)
 ·obtain ⟨o',e1⟩:=I.base.there b o e hx;exact there b o' (neC b o e hx) e1
 ·obtain ⟨m1,e1⟩:=I.base.tbls b ps e;obtain ⟨m2,e2⟩:=tbls b _ e1;exact ⟨m1++m2,by rw [e2,Array.append_assoc]⟩
 ·obtain ⟨m,hn,hl⟩:=I.loc;refine ⟨m,ns m hn,λi x v e1 e2 e3=>?_⟩;obtain ⟨u,r,l⟩:=hl i x v e1 e2 e3;refine ⟨u,r,?_⟩;rcases l with l | ⟨k,c,e,z⟩
  ·exact .inl l
  ·exact .inr ⟨k,c,e,cellK x c e _ z⟩
 ·obtain ⟨v,z⟩:=I.cell x c e;exact ⟨v,cellK x c e v z⟩
 ·obtain ⟨m,⟨o,_,_,ho,_⟩,_⟩:=I.loc;exact free _ o (λz=>(hch _ z).2.1 rfl) ho I.free
 ·obtain ⟨v,o,ho,hd⟩:=I.cell x c e;exact free c o (λz=>(hch c z).2.2.1 x c e rfl) ho (I.freeC x c e)
 ·obtain ⟨e,n,ne,nf,d⟩:=I.pin p hp;have nch:p.1∉ch:=λz=>(hch p.1 z).2.2.2 p hp rfl;exact ⟨keep p.1 p.2 ne nf nch e n,free p.1 p.2 nch e n,ne,nf,d⟩
def Inv.un{t':Nat}(I:Inv X pins σ H s)(u:Un X.fs [] H H' s.heap h')(hok:HOk X.prog X.w H' h'):Inv X pins σ H' { s with heap:=h',toks:=t' }:=by
 obtain ⟨m,⟨o,es,ep,ho,r⟩,_⟩:=id I.loc;obtain ⟨sl,hL⟩:=u.any ho I.free (by simp)
 exact I.step (g':=s.gens) (d':=s.drawn) (ch:=[]) (λ_ z=>nomatch z) (λb o _ hb _ e n=>u.keep b o e n hb (by simp)) (λb o _ hb _ e n=>u.slot b o e n hb (by simp)) (λb o _ e n=>u.free b o e n (by simp)) (λb o _ e=>u.there b o e (by simp)) u.tups u.frzs u.tbls (λm' hm=>by
  obtain ⟨o',es',ep',ho',r'⟩:=hm;rw [ho] at ho';cases ho'
  exact ⟨_,es',ep',hL,r'⟩) hok I.bare
def Inv.call{g':Array GenState}{t':Nat}{d':Drawn}{ch:List Addr}(I:Inv X pins σ H s)(u:Un (frs X.stack) ch H H' s.heap h')(hok:HOk X.prog X.w H' h')(hg:AllBare g')
  (hch:∀b∈ch,(b∈X.ex\/X.s₀.heap.objs.size<=b)/\b≠X.env.locals/\(∀x c,X.env.cells.lookup x=some c->c≠b)/\∀p∈X.pn++pins,p.1≠b) :
  Inv X pins σ H' { s with heap:=h',gens:=g',drawn:=d',toks:=t' }:=by
 obtain ⟨m,⟨o,es,ep,ho,r⟩,_⟩:=id I.loc;obtain ⟨sl,hL⟩:=u.any ho I.free λz=>(hch _ z).2.1 rfl
 exact I.step (ch:=ch) hch (λb o hL hb hc e n=>u.keep b o e n (λz=>(Vaq.mp (I.stkSub b z)).elim hL hb) hc) (λb o _ _ hc e n=>u.any e n hc) (λb o hc e n=>u.free b o e n hc) (λb o hc e=>u.there b o e hc) u.tups u.frzs u.tbls (λm' hm=>by
  obtain ⟨o',es',ep',ho',r'⟩:=hm;rw [ho] at ho';cases ho'
  exact ⟨_,es',ep',hL,r'⟩) hok hg
def Inv.turned{t':Nat}{it:Addr}(I:Inv X pins σ H s)(k:∀b o,b≠it->s.heap.get? b=some o->h'.get? b=some o)(hn:H it=none)(hL:it≠X.env.locals)
  (h1:it∈X.ex\/X.s₀.heap.objs.size<=it) (h2:∀x c,X.env.cells.lookup x=some c->c≠it) (h3:∀p∈X.pn++pins,p.1≠it):Inv X pins σ H { s with heap:=h',toks:=t' }:=by
 have nit:∀b u,H b=some u->b≠it:=λb u e z=>by rw [z,hn] at e;cases e
 refine I.step (g':=s.gens) (d':=s.drawn) (ch:=[it]) (λb hb=>?_) (λb o _ _ hc e _=>k b o (λz=>hc (by simp [z])) e) (λb o _ _ hc e _=>⟨o.slots,k b o (λz=>hc (by simp [z])) e⟩) (λ_ _ _ _ n=>n)
  (λb o hc e=>⟨o,k b o (λz=>hc (by simp [z])) e⟩) (λ_ _ e=>e) (λ_ _ _ e=>e) (λb ps e=>⟨#[],by rw [e];simp⟩) (λm hm=>?_) (λb u e=>?_) I.bare
 ·have e:b=it:=by simpa using hb
  subst e;exact ⟨h1,hL,h2,h3⟩
 ·obtain ⟨o,es,ep,ho,r⟩:=hm;exact ⟨o,es,ep,k _ o (Ne.symm hL) ho,r⟩
 ·refine (I.hok b u e).stay (λc v hc q=>k c v ?_ q) (λ_ q=>q) λ_ _ q=>q;rcases hc with z | z
  ·rw [z];exact nit b u e
  ·exact nit c _ z
def Inv.tok(I:Inv X pins σ H s)(t:Nat):Inv X pins σ H { s with toks:=t }:=I.un (h':=s.heap) (t':=t) Un.refl I.hok
def Inv.kept{t':Nat}(I:Inv X pins σ H s)(k:∀b u,s.heap.get? b=some u->h'.get? b=some u):Inv X pins σ H { s with heap:=h',toks:=t' }:=I.un (Un.kept k) (I.hok.kept k)
def Inv.laid{a:Addr}{o:HO}{t':Nat}(I:Inv X pins σ H s)(k:∀b u,s.heap.get? b=some u->h'.get? b=some u)(hp:s.heap.objs.size<=a)(new:Zbt X.prog X.w (upd H a o) h' a o) :
  Inv X pins σ (upd H a o) { s with heap:=h',toks:=t' }:=I.un (Un.laid k hp (I.hok.fresh hp)) (I.hok.laid k hp new)
def Inv.write{x e:Addr}{o:HO}{t':Nat}(I:Inv X pins σ H s)(mu:Mut (H x))(he:e=x\/H e=some (.own x))(k:∀b u,b≠e->s.heap.get? b=some u->h'.get? b=some u)(heo:∃u,h'.get? e=some u)
  (new:Zbt X.prog X.w (upd H x o) h' x o):Inv X pins σ (upd H x o) { s with heap:=h',toks:=t' }:=I.un (Un.write mu he k heo) (I.hok.write mu he k heo new)
def Inv.weak{σ':List (Option V)}(I:Inv X pins σ H s)(hl:σ'.length=σ.length)(w:∀(i:Nat) v,σ'[i]?=some (some v)->σ[i]?=some (some v)):Inv X pins σ' H s :=
 ⟨I.ok,I.os,I.bare,I.base,let ⟨m,hn,hl'⟩:=I.loc;⟨m,hn,λi x v e1 e2 e3=>hl' i x v e1 (w i v e2) e3⟩,I.cell,I.free,I.freeC,I.pin,I.hok,hl.trans I.len⟩
def Inv.pins_of{pins':List (Addr×Obj)}(I:Inv X pins σ H s)(h:∀p∈pins',s.heap.get? p.1=some p.2/\H p.1=none/\p.1≠X.env.locals/\p.1∉X.fs/\∀v,p.2.data≠.cell v):Inv X pins' σ H s :=
 ⟨I.ok,I.os,I.bare,I.base,I.loc,I.cell,I.free,I.freeC,λp hp=>(Var.mp hp).elim (λz=>I.pin p (Vas _ z)) (h p),I.hok,I.len⟩
def ZgX{N:List Str}(hN:N.Nodup){i j:Nat}{x:Str}(a:N[i]?=some x)(b:N[j]?=some x):i=j:=by
 obtain ⟨h1,e1⟩:=Vat.mp a;obtain ⟨h2,e2⟩:=Vat.mp b;exact (List.getElem_inj hN).mp (e1.trans e2.symm)
def ZkS{M:Model}{A:Around}{E:Value->Shared->Prop}{i:Nat}{x:Str}{v:V}{u:Value}{Q:Unit->Shared->Prop}(I:Inv X pins σ H s)(hN:X.N.Nodup)(hi:X.N[i]?=some x)(hx:Loc X.env.scope x)(r:RelV v u)
  (h:∀s',Inv X pins (σ.set i (some v)) H s'->(∃a,Heap.SameBut a s.heap s'.heap/\(a=X.env.locals\/X.env.cells.lookup x=some a))->Q () s') (hf:X.fn x=true\/X.env.scope.names.lookup x=some .local:=by first | exact .inl rfl | exact .inr rfl | assumption):wpAny M A (storeName X.env x u) Q E s:=by
 obtain ⟨m,hn,hl⟩:=id I.loc;have hcls:(X.env.scope.kind==.class||(X.env.scope.kind==.module&&X.env.locals != X.env.globals))=false:=by rw [I.ok.kind];rfl
 have hiσ:i<σ.length:=by rw [I.len];exact (Vat.mp hi).1
 have cne:=I.cne;have tracked:∀{a:Addr} {h':Heap},(∃o,s.heap.get? a=some o/\H a=none)->Heap.SameBut a s.heap h'->HOk X.prog X.w H h':=λ{a h'} ha hs b ob e=>by
  obtain ⟨_,_,hfree⟩:=ha;refine (I.hok b ob e).stay (λc w' hc q=>(hs.2 c ?_).trans q) (λ_ q=>q) λ_ _ q=>q;rintro rfl;rcases hc with rfl | hc
  ·rw [hfree] at e;cases e
  ·rw [hfree] at hc;cases hc
 rcases hx with hk | hk
 ·refine wpAny_storeName_local hk hn (λh' hn' hs=>?_) hcls;obtain ⟨oL,_,_,hoL,_⟩:=id hn;refine h _ ⟨I.ok,I.os,I.bare,⟨λb o e n hb hx=>?_,λb o e n hb hx=>?_,I.base.free,λb o e hx=>?_,I.base.tups,I.base.frzs,I.base.tbls⟩,⟨_,hn',λj y v' e1 e2 e3=>?_⟩,λy c e=>?_,I.free,I.freeC,λp hp=>?_,tracked ⟨oL,hoL,I.free⟩ hs,by simpa using I.len⟩ ⟨_,hs,.inl rfl⟩
  ·exact (hs.2 b (Vaf (Vad (Vac e) I.ok.above))).trans (I.base.keep b o e n hb hx)
  ·obtain ⟨sl,e1⟩:=I.base.slot b o e n hb hx;exact ⟨sl,(hs.2 b (Vaf (Vad (Vac e) I.ok.above))).trans e1⟩
  ·obtain ⟨o',e1⟩:=I.base.there b o e hx;exact ⟨o',(hs.2 b (Vaf (Vad (Vac e) I.ok.above))).trans e1⟩
  ·by_cases hj:j=i
   ·subst hj;rw [hi] at e1;cases e1;rw [Vau hiσ] at e2;cases e2;exact ⟨u,r,.inl ⟨hk,by simp⟩⟩
   ·rw [Vav (Ne.symm hj)] at e2;obtain ⟨u',r',q⟩:=hl j y v' e1 e2 e3;refine ⟨u',r',?_⟩;rcases q with ⟨k,e⟩ | ⟨k,c,e,z⟩
    ·refine .inl ⟨k,?_⟩;have:y≠x:=λe=>hj (ZgX hN e1 (e▸hi));simp [this,e]
    ·exact .inr ⟨k,c,e,z.sameBut hs (cne y c e)⟩
  ·obtain ⟨w',z⟩:=I.cell y c e;exact ⟨w',z.sameBut hs (cne y c e)⟩
  ·obtain ⟨e,n,ne,nf,d⟩:=I.pin p hp;exact ⟨(hs.2 p.1 ne).trans e,n,ne,nf,d⟩
 ·have hfn:X.fn x=true:=by
   rcases hf with z | z
   ·exact z
   ·rw [z] at hk;cases hk
  obtain ⟨c,hc⟩:=I.ok.has x (.inl hk);obtain ⟨w',z⟩:=I.cell x c hc;refine wpAny_storeName_cell I.ok.kind hk hc z (λh' hc' hs=>?_);obtain ⟨oc,hoc,hocd⟩:=id z;refine h { s with heap:=h' } ⟨I.ok,I.os,I.bare,⟨λb o e n hb hx=>?_,λb o e n hb hx=>?_,I.base.free,λb o e hx=>?_,I.base.tups,I.base.frzs,I.base.tbls⟩,⟨m,hn.sameBut hs (Ne.symm (cne x c hc)),λj y v' e1 e2 e3=>?_⟩,λy c' e=>?_,I.free,I.freeC,λp hp=>?_,tracked ⟨oc,hoc,I.freeC x c hc⟩ hs,by simpa using I.len⟩ ⟨c,hs,.inr hc⟩
  ·exact (hs.2 b (Vaf (Vad (Vac e) (I.ok.cab x c hfn hc)))).trans (I.base.keep b o e n hb hx)
  ·obtain ⟨sl,e1⟩:=I.base.slot b o e n hb hx;exact ⟨sl,(hs.2 b (Vaf (Vad (Vac e) (I.ok.cab x c hfn hc)))).trans e1⟩
  ·obtain ⟨o',e1⟩:=I.base.there b o e hx;exact ⟨o',(hs.2 b (Vaf (Vad (Vac e) (I.ok.cab x c hfn hc)))).trans e1⟩
  ·by_cases hj:j=i
   ·subst hj;rw [hi] at e1;cases e1;rw [Vau hiσ] at e2;cases e2;exact ⟨u,r,.inr ⟨.inl hk,c,hc,hc'⟩⟩
   ·rw [Vav (Ne.symm hj)] at e2;obtain ⟨u',r',q⟩:=hl j y v' e1 e2 e3;refine ⟨u',r',?_⟩;rcases q with q | ⟨k,c',e,z'⟩
    ·exact .inl q
    ·refine .inr ⟨k,c',e,z'.sameBut hs ?_⟩;rintro rfl;exact hj (ZgX hN e1 (I.ok.inj _ _ _ e hc▸hi))
  ·by_cases hcc:c'=c
   ·subst hcc;exact ⟨_,hc'⟩
   ·obtain ⟨w2,z2⟩:=I.cell y c' e;exact ⟨w2,z2.sameBut hs hcc⟩
  ·obtain ⟨e,n,ne,nf,d⟩:=I.pin p hp;refine ⟨(hs.2 p.1 ?_).trans e,n,ne,nf,d⟩;intro q;rw [q,hoc] at e;have q':oc=p.2:=Vaw e;exact d w' (by rw [<-q'];exact hocd)
def Zfd{M:Model}{A:Around}{E:Value->Shared->Prop}{i:Nat}{x:Str}{v:V}{u:Value}{Q:Unit->Shared->Prop}(I:Inv X pins σ H s)(hN:X.N.Nodup)(hi:X.N[i]?=some x)(hx:Loc X.env.scope x)(r:RelV v u)
  (h:∀s',Inv X pins (σ.set i (some v)) H s'->Q () s') (hf:X.fn x=true\/X.env.scope.names.lookup x=some .local:=by first | exact .inl rfl | exact .inr rfl | assumption):wpAny M A (storeName X.env x u) Q E s :=
 ZkS I hN hi hx r (λs' I' _=>h s' I') hf
def Inv.call'{s':Shared}{ch:List Addr}(I:Inv X pins σ H s)(ho:s'.os=s.os)(u:Un (frs X.stack) ch H H' s.heap s'.heap)(hok:HOk X.prog X.w H' s'.heap)(hg:AllBare s'.gens)
  (hch:∀b∈ch,(b∈X.ex\/X.s₀.heap.objs.size<=b)/\b≠X.env.locals/\(∀x c,X.env.cells.lookup x=some c->c≠b)/\∀p∈X.pn++pins,p.1≠b):Inv X pins σ H' s':=by
 obtain ⟨h',g',d',t',o'⟩:=s';have e:o'=s.os:=ho;subst e;exact I.call (g':=g') (t':=t') (d':=d') u hok hg hch
end
abbrev XK:=Value->Option Addr->Hp->Prop
abbrev St:=List (Option V)
abbrev VK:=V->Hp->Prop
abbrev TE:=St->Hp->VK->Prop
abbrev TT:=St->Hp->(Bool->Hp->Prop)->Prop
abbrev TA:=St->Hp->(List V->Hp->Prop)->Prop
structure Ends where
 nx:St->Hp->Prop
 rt:VK
 bk:St->Hp->Prop:=λ_ _=>False
 ct:St->Hp->Prop:=λ_ _=>False
abbrev TS:=Ends->St->Hp->Prop
def EP(X:Cx)(pins:List (Addr×Obj))(σ:St)(Q:VK)(u:Value)(s':Shared):Prop:=∃v H',Inv X pins σ H' s'/\RelV v u/\Q v H'
def TP(X:Cx)(pins:List (Addr×Obj))(σ:St)(Q:Bool->Hp->Prop)(b:Bool)(s':Shared):Prop:=∃H',Inv X pins σ H' s'/\Q b H'
def AP(X:Cx)(pins:List (Addr×Obj))(σ:St)(Q:List V->Hp->Prop)(us:List Value)(s':Shared):Prop:=∃vs H',Inv X pins σ H' s'/\Vals vs us/\Q vs H'
def SP(X:Cx)(pins:List (Addr×Obj))(D:Ends)(f:Flow)(s':Shared):Prop :=
 match f with
 | .next=>∃σ' H',Inv X pins σ' H' s'/\D.nx σ' H'
 | .brk=>∃σ' H',Inv X pins σ' H' s'/\D.bk σ' H'
 | .cont=>∃σ' H',Inv X pins σ' H' s'/\D.ct σ' H'
 | .ret u=>∃v σ' H',Inv X pins σ' H' s'/\RelV v u/\D.rt v H'
def PE(X:Cx)(e:Expr)(t:TE):Prop :=
 ∀(pins:List (Addr×Obj)) (s:Shared) (σ:St) (H:Hp) (Q:VK),Inv X pins σ H s->t σ H Q->wpAny (model X.prog X.w) X.A (eval e X.env) (EP X pins σ Q) X.xe s
def PT(X:Cx)(e:Expr)(t:TT):Prop :=
 ∀(pins:List (Addr×Obj)) (s:Shared) (σ:St) (H:Hp) (Q:Bool->Hp->Prop),Inv X pins σ H s->t σ H Q->wpAny (model X.prog X.w) X.A (isTrue e X.env (eval e X.env)) (TP X pins σ Q) X.xe s
def PW(X:Cx)(e:Expr)(t:TT):Prop :=
 ∀(whole:Sem Value) (pins:List (Addr×Obj)) (s:Shared) (σ:St) (H:Hp) (Q:Bool->Hp->Prop),Inv X pins σ H s->t σ H Q->wpAny (model X.prog X.w) X.A (isTrue e X.env whole) (TP X pins σ Q) X.xe s
def PW.pt{X:Cx}{e:Expr}{t:TT}(h:PW X e t):PT X e t:=h _
def PA(X:Cx)(es:List Expr)(t:TA):Prop :=
 ∀(pos:Pos) (pins:List (Addr×Obj)) (s:Shared) (σ:St) (H:Hp) (Q:List V->Hp->Prop),Inv X pins σ H s->t σ H Q->wpAny (model X.prog X.w) X.A (spliced (backTo pos (starEach es X.env))) (AP X pins σ Q) X.xe s
def PS(X:Cx)(st:Stmt)(t:TS):Prop :=
 ∀(pins:List (Addr×Obj)) (s:Shared) (σ:St) (H:Hp) (D:Ends),Inv X pins σ H s->t D σ H->wpAny (model X.prog X.w) X.A (exec st X.env) (SP X pins D) X.xe s
def PSs(X:Cx)(st:List Stmt)(t:TS):Prop :=
 ∀(pins:List (Addr×Obj)) (s:Shared) (σ:St) (H:Hp) (D:Ends),Inv X pins σ H s->t D σ H->wpAny (model X.prog X.w) X.A (execs st X.env) (SP X pins D) X.xe s
def thn{α:Type}{t:Sem α}{Q Q':α->Shared->Prop}{M:Model}{A:Around}{E:Value->Shared->Prop}{s:Shared}(h:wpAny M A t Q E s)(hQ:∀a s,Q a s->Q' a s):wpAny M A t Q' E s:=Vax h hQ λ_ _ x=>x
section
variable{X:Cx}
def tVar(i:Nat):TE:=λσ H Q=>∃v,σ[i]?=some (some v)/\Q v H
def tC(v:V):TE:=λ_ H Q=>Q v H
def Zb0{i:Nat}{x:Str}{pos:Pos}(hN:X.N[i]?=some x)(hv:Vis X.env.scope x)(hd:(x==("__debug__" : Str))=false:=by decide)(hcd:(x==("__classdict__" : Str))=false:=by decide):PE X (.Name x pos) (tVar i):=by
 intro pins s σ H Q I h;obtain ⟨v,e,h⟩:=h;obtain ⟨m,hn,hl⟩:=I.loc;obtain ⟨u,r,l⟩:=hl i x v hN e hv;have fin:EP X pins σ Q u s:=⟨v,H,I,r,h⟩;rcases l with ⟨hk,hm⟩ | ⟨hk,c,hc,hcell⟩
 ·exact wpAny_Name (wpAny_loadName_local I.ok.kind hk hn hm fin) hd
 ·rcases hk with hk | hk
  ·exact wpAny_Name (wpAny_loadName_cell I.ok.kind hk hc hcell fin) hd
  ·exact wpAny_Name (wpAny_loadName_free I.ok.kind hk hc hcell fin hcd) hd
def Zoa{i j pos}:PE X (.Constant (.int i) j pos) (tC (.int i)):=λ_ _ _ H _ I h=>wpAny_Constant_int ⟨.int i,H,I.tok _,⟨_,rfl⟩,h⟩
def ZtX{b j pos}:PE X (.Constant (.bool b) j pos) (tC (.bl b)):=λ_ _ _ H _ I h=>Constant_bool ⟨.bl b,H,I,rfl,h⟩
def Zsa{j pos}:PE X (.Constant .none j pos) (tC .non):=λ_ _ _ H _ I h=>Constant_none ⟨.non,H,I,rfl,h⟩
def ZjA{x j pos}:PE X (.Constant (.str x) j pos) (tC (.str x)):=λ_ _ _ H _ I h=>Calls.Constant_str ⟨.str x,H,I.tok _,⟨_,rfl⟩,h⟩
def Gl(X:Cx)(x:Str):Prop:=X.env.kindOf x=some .globalImplicit
def ZcS{E:Value->Shared->Prop}{pins:List (Addr×Obj)}{s:Shared}{σ:St}{H:Hp}{x:Str}{u:Value}{pos:Pos}{Q:Value->Shared->Prop}(I:Inv X pins σ H s)(hg:Gl X x)(hm:X.mg x=some u)(h:Q u s)
  (hd:(x==("__debug__" : Str))=false:=by decide):wpAny (model X.prog X.w) X.A (eval (.Name x pos) X.env) Q E s :=
 Calls.Name_function_global I.ok.kind hg (Calls.loadGlobal_global (by rw [I.ok.glob];exact I.mod.glob.keeps I.bk) hm h) hd
def ZgM{E:Value->Shared->Prop}{pins:List (Addr×Obj)}{s:Shared}{σ:St}{H:Hp}{x:Str}{u:Value}{pos:Pos}{Q:Value->Shared->Prop}(I:Inv X pins σ H s)(hg:Gl X x)(hm:X.mg x=none)(hv:bootBuiltins x=some u)(h:Q u s)
  (hn:x ≠ "__name__" := by decide) (hd:(x==("__debug__" : Str))=false:=by decide):wpAny (model X.prog X.w) X.A (eval (.Name x pos) X.env) Q E s:=by
 obtain ⟨mb,h1,h2⟩:=I.mod.blt;exact Calls.Name_function_global I.ok.kind hg (Calls.loadGlobal_builtin (by rw [I.ok.glob];exact I.mod.glob.keeps I.bk) hm (by rw [I.ok.blt];exact h1.keeps I.bk) ((h2 x hn).trans hv) h) hd
def ZeM{x:Str}{v:V}{u:Value}{pos:Pos}(hg:Gl X x)(hm:X.mg x=some u)(r:RelV v u)(hd:(x==("__debug__" : Str))=false:=by decide):PE X (.Name x pos) (tC v) :=
 λ_ _ _ H _ I h=>ZcS I hg hm ⟨v,H,I,r,h⟩ hd
def Zpt{x:Str}{v:V}{u:Value}{pos:Pos}(hg:Gl X x)(hm:X.mg x=none)(hv:bootBuiltins x=some u)(r:RelV v u)(hn:x ≠ "__name__" := by decide)(hd:(x==("__debug__" : Str))=false:=by decide):PE X (.Name x pos) (tC v) :=
 λ_ _ _ H _ I h=>ZgM I hg hm hv ⟨v,H,I,r,h⟩ hn hd
variable{a b:Expr}{ta tb:TE}{pos:Pos}
def tB(t:TE):TT:=λσ H Q=>t σ H λx H1=>∃c,x=.bl c/\Q c H1
def ZqV{e:Expr}{t:TE}(h:PE X e t)(he:∀whole,isTrue e X.env whole=(do let v <-whole;standAt e.pos;holding [v] (truthy v)):=by intro _;rfl):PT X e (tB t):=by
 intro pins s σ H Q I hw;refine isTrue_plain (thn (h pins s σ H _ I hw) λv s1 ⟨x,H1,I1,r1,q1⟩=>?_) (he _);obtain ⟨d,rfl,q⟩:=q1;cases r1;exact wpAny_truthy_bool ⟨H1,I1,q⟩
variable{tA tB':TT}{rest:List Expr}
def tAnd(t u:TT):TT:=λσ H Q=>t σ H λc H1=>if c=true then u σ H1 Q else Q false H1
def tOr(t u:TT):TT:=λσ H Q=>t σ H λc H1=>if c=true then Q true H1 else u σ H1 Q
def tNot(t:TT):TT:=λσ H Q=>t σ H λc H1=>Q (!c) H1
def ZqQ(ha:PT X a tA):PW X (.BoolOp .And [a] pos) tA:=by
 intro wh pins s σ H Q I h;refine isTrue_and (thn (ha pins s σ H Q I h) λc s1 e=>?_);cases c with
 | true=>exact isTrue_and_nil e
 | false=>exact e
def ZrK(ha:PT X a tA):PW X (.BoolOp .Or [a] pos) tA:=by
 intro wh pins s σ H Q I h;refine isTrue_or (thn (ha pins s σ H Q I h) λc s1 e=>?_);cases c with
 | false=>exact isTrue_or_nil e
 | true=>exact e
def ZqR(ha:PT X a tA)(hb:PW X (.BoolOp .And (b::rest) pos) tB'):PW X (.BoolOp .And (a::b::rest) pos) (tAnd tA tB'):=by
 intro wh pins s σ H Q I h;refine isTrue_and (thn (ha pins s σ H _ I h) λc s1 ⟨H1,I1,q1⟩=>?_);cases c with
 | true=>exact hb wh pins s1 σ H1 Q I1 q1
 | false=>exact ⟨H1,I1,q1⟩
def Ztz(ha:PT X a tA)(hb:PW X (.BoolOp .Or (b::rest) pos) tB'):PW X (.BoolOp .Or (a::b::rest) pos) (tOr tA tB'):=by
 intro wh pins s σ H Q I h;refine isTrue_or (thn (ha pins s σ H _ I h) λc s1 ⟨H1,I1,q1⟩=>?_);cases c with
 | true=>exact ⟨H1,I1,q1⟩
 | false=>exact hb wh pins s1 σ H1 Q I1 q1
def ZsY(ha:PT X a tA):PT X (.UnaryOp .Not a pos) (tNot tA):=by
 intro pins s σ H Q I h;exact isTrue_not (ha pins s σ H (λc H1=>Q (!c) H1) I h)
def Zp7(ta tb:TE):TE:=λσ H Q=>ta σ H λx H1=>∃c,x=.bl c/\if c=true then tb σ H1 Q else Q (.bl false) H1
def Zqu(ta:TE):TE:=λσ H Q=>ta σ H λx H1=>∃c,x=.bl c/\Q (.bl (!c)) H1
def ZrY{op}{t:TE}(h:PE X a t):PE X (.BoolOp op [a] pos) t:=λpins s σ H Q I hw=>BoolOp_one (h pins s σ H Q I hw)
def Zq6(ha:PE X a ta)(hb:PE X (.BoolOp .And (b::rest) pos) tb):PE X (.BoolOp .And (a::b::rest) pos) (Zp7 ta tb):=by
 intro pins s σ H Q I h;refine BoolOp_and (thn (ha pins s σ H _ I h) λv s1 ⟨x,H1,I1,r1,q1⟩=>?_);obtain ⟨c,rfl,q1⟩:=q1;cases r1;refine wpAny_truthy_bool ?_;cases c with
 | true=>exact hb pins s1 σ H1 Q I1 q1
 | false=>exact ⟨.bl false,H1,I1,rfl,q1⟩
def ZrI(ha:PE X a ta):PE X (.UnaryOp .Not a pos) (Zqu ta):=by
 intro pins s σ H Q I h;refine UnaryOp_ (thn (ha pins s σ H _ I h) λv s1 ⟨x,H1,I1,r1,q1⟩=>?_);obtain ⟨c,rfl,q1⟩:=q1;cases r1;exact not_of (wpAny_truthy_bool ⟨.bl (!c),H1,I1,rfl,q1⟩)
def tIf(t:TT)(ta tb:TE):TE:=λσ H Q=>t σ H λc H1=>if c=true then ta σ H1 Q else tb σ H1 Q
def Zmv{c:Expr}(hc:PT X c tA)(ha:PE X a ta)(hb:PE X b tb):PE X (.IfExp c a b pos) (tIf tA ta tb):=by
 intro pins s σ H Q I h;refine wpAny_IfExp (thn (hc pins s σ H _ I h) λd s1 ⟨H1,I1,q1⟩=>?_);cases d with
 | true=>exact ha pins s1 σ H1 Q I1 q1
 | false=>exact hb pins s1 σ H1 Q I1 q1
end
def SqL(K:W.Frag)(H:Hp)(a:Addr)(xs:List V):Prop :=
 Rd H a (.lst xs) \/
  ∃(o:Obj) (its:Array Value) (n:Nat),K.lookup a=some o/\o.cls=.type "list"/\o.dict=none/\o.data=.seq its n/\its.size<=sizeLine/\Vals xs its.toList
def SqT(K:W.Frag)(H:Hp)(a:Addr)(xs:List V):Prop :=
 Rd H a (.tup xs) \/
  ∃(o:Obj) (its:Array Value) (n:Nat),K.lookup a=some o/\o.cls=.type "tuple"/\o.data=.seq its n/\its.size<=sizeLine/\Vals xs its.toList
def absV:Value->Option V
 | .none=>some .non
 | .bool b=>some (.bl b)
 | .int i _=>some (.int i)
 | .str x _=>some (.str x)
 | .bytes b _=>some (.byt b)
 | .float b _=>some (.flt b)
 | .ref a=>some (.ref a)
 | .type n=>some (.ty n)
 | _=>none
def RelV.abs{x:V}{u:Value}(r:RelV x u):absV u=some x:=by
 cases x with
 | non=>cases r;rfl
 | bl _=>cases r;rfl
 | int _=>obtain ⟨t,rfl⟩:=r;rfl
 | str _=>obtain ⟨t,rfl⟩:=r;rfl
 | byt _=>obtain ⟨t,rfl⟩:=r;rfl
 | flt _=>obtain ⟨t,rfl⟩:=r;rfl
 | ref _=>cases r;rfl
 | ty _=>cases r;rfl
def RelV.inj{x y:V}{u:Value}(r:RelV x u)(q:RelV y u):x=y:=Vaw (r.abs.symm.trans q.abs)
def Vals.inj:∀{xs ys:List V} {us:List Value},Vals xs us->Vals ys us->xs=ys
 | _,_,_,.nil,.nil=>rfl
 | _,_,_,.cons r t,.cons r' t'=>by rw [r.inj r',Vals.inj t t']
section
variable{X:Cx}{pins:List (Addr×Obj)}{σ:St}{H:Hp}{s:Shared}{a:Addr}{xs ys:List V}
def SqL.of{K:W.Frag}(h:H a=some (.lst xs)):SqL K H a xs:=.inl (.inl h)
def SqT.of{K:W.Frag}(h:H a=some (.tup xs)):SqT K H a xs:=.inl (.inl h)
def Inv.list(I:Inv X pins σ H s)(h:SqL X.K H a xs):∃its:List Value,Vals xs its/\PlainL s.heap a its.toArray/\xs.length<=sizeLine:=by
 rcases h with h | ⟨o,its,n,hk,hc,hd,hs,hz,r⟩
 ·obtain ⟨z,its,n,r,e⟩:=h.ok I.hok;exact ⟨its,r,⟨_,n,e,rfl,rfl,rfl⟩,z⟩
 ·refine ⟨its.toList,r,⟨o,n,I.kIn a o hk,hc,hd,by simpa using hs⟩,?_⟩;have e:=r.length;simp only [Vay] at e;omega
def Inv.tuple(I:Inv X pins σ H s)(h:SqT X.K H a xs):∃its:List Value,Vals xs its/\IsTup s.heap a its.toArray/\xs.length<=sizeLine:=by
 rcases h with h | ⟨o,its,n,hk,hc,hs,hz,r⟩
 ·obtain ⟨z,its,r,p⟩:=h.ok I.hok;exact ⟨its,r,p,z⟩
 ·refine ⟨its.toList,r,⟨o,I.kIn a o hk,hc,n,by simpa using hs⟩,?_⟩;have e:=r.length;simp only [Vay] at e;omega
def Inv.list_inj(I:Inv X pins σ H s)(h:SqL X.K H a xs)(h':SqL X.K H a ys):xs=ys:=by
 obtain ⟨its,r,⟨o,n,e,_,_,d⟩,_⟩:=I.list h;obtain ⟨its',r',⟨o',n',e',_,_,d'⟩,_⟩:=I.list h';rw [e] at e';cases e';rw [d] at d';injection d' with d1 _
 have:its=its':=by simpa using Vaz Array.toList d1
 subst this;exact r.inj r'
def Inv.tuple_inj(I:Inv X pins σ H s)(h:SqT X.K H a xs)(h':SqT X.K H a ys):xs=ys:=by
 obtain ⟨its,r,⟨o,e,_,n,d⟩,_⟩:=I.tuple h;obtain ⟨its',r',⟨o',e',_,n',d'⟩,_⟩:=I.tuple h';rw [e] at e';cases e';rw [d] at d';injection d' with d1 _
 have:its=its':=by simpa using Vaz Array.toList d1
 subst this;exact r.inj r'
end
abbrev Cx.wish(X:Cx)(E:Value->Shared->Prop):Cx:={ X with xe:=E }
abbrev Cx.nox(X:Cx):Cx:=X.wish λ_ _=>False
def Cx.Ok.wish{X:Cx}(ok:X.Ok)(E:Value->Shared->Prop):(X.wish E).Ok :=
 ⟨ok.mod,ok.kind,ok.glob,ok.blt,ok.above,ok.inj,ok.has,ok.cab,ok.hd,ok.frames,ok.stk,ok.exf,ok.bs,ok.bsz,ok.noex,ok.exfs,ok.funs,ok.frf⟩
def Cx.Ok.unwish{X:Cx}{E:Value->Shared->Prop}(ok:(X.wish E).Ok):X.Ok :=
 ⟨ok.mod,ok.kind,ok.glob,ok.blt,ok.above,ok.inj,ok.has,ok.cab,ok.hd,ok.frames,ok.stk,ok.exf,ok.bs,ok.bsz,ok.noex,ok.exfs,ok.funs,ok.frf⟩
section
variable{X:Cx}{pins:List (Addr×Obj)}{σ:St}{H:Hp}{s:Shared}{E:Value->Shared->Prop}
def Inv.wish(I:Inv X pins σ H s)(E:Value->Shared->Prop):Inv (X.wish E) pins σ H s:=⟨I.ok.wish E,I.os,I.bare,I.base,I.loc,I.cell,I.free,I.freeC,I.pin,I.hok,I.len⟩
def Inv.unwish(I:Inv (X.wish E) pins σ H s):Inv X pins σ H s:=⟨I.ok.unwish,I.os,I.bare,I.base,I.loc,I.cell,I.free,I.freeC,I.pin,I.hok,I.len⟩
end
section
variable{X:Cx}{st:Stmt}{rest:List Stmt}{t u:TS}{e:Expr}{te:TE}{pos:Pos}
def Zml:TS:=λD σ H=>D.nx σ H
def tSeq(t u:TS):TS:=λD σ H=>t { D with nx:=u D } σ H
def ZkL:PSs X [] Zml:=λ_ _ σ H _ I h=>VaA ⟨σ,H,I,h⟩
def ZcW(h1:PS X st t)(h2:PSs X rest u):PSs X (st::rest) (tSeq t u):=by
 intro pins s σ H D I h;refine VaB (thn (h1 pins s σ H { D with nx:=u D } I h) λf s1 q=>?_)
 cases f with
 | next =>
  obtain ⟨σ',H',I',q⟩:=q;exact h2 pins s1 σ' H' D I' q
 | ret v=>exact q
 | brk=>exact q
 | cont=>exact q
def Zd8(h1:PS X st t):PSs X [st] t:=by
 intro pins s σ H D I h;refine VaB (thn (h1 pins s σ H D I h) λf s1 q=>?_);cases f with
 | next=>exact VaA q
 | ret v=>exact q
 | brk=>exact q
 | cont=>exact q
def Inv.quiet{pins:List (Addr×Obj)}{σ:St}{H:Hp}{s:Shared}(I:Inv X pins σ H s):interactive X.env=false:=by simp [interactive,I.ok.kind]
def Zga(te:TE):TS:=λD σ H=>te σ H λ_ H1=>D.nx σ H1
def ZeI(he:PE X e te)(hs:swapsWith e none pos.line X.env=pure false:=by rfl):PS X (.Expr e pos) (Zga te):=by
 intro pins s σ H D I h;exact wpAny_Expr_any (thn (he pins s σ H _ I h) λv s1 ⟨x,H1,I1,r1,q1⟩=>⟨σ,H1,I1,q1⟩) I.quiet hs
def tRet(te:TE):TS:=λD σ H=>te σ H D.rt
def ZlO(he:PE X e te):PS X (.Return (some e) pos) (tRet te):=by
 intro pins s σ H D I h;exact wpAny_Return_some (thn (he pins s σ H _ I h) λv s1 ⟨x,H1,I1,r1,q1⟩=>⟨x,σ,H1,I1,r1,q1⟩)
def tIfS(c:TT)(t u:TS):TS:=λD σ H=>c σ H λb H1=>if b=true then t D σ H1 else u D σ H1
def Zrv{c:Expr}{a b:List Stmt}{tc:TT}(hc:PT X c tc)(ha:PSs X a t)(hb:PSs X b u):PS X (.If c a b pos) (tIfS tc t u):=by
 intro pins s σ H D I h;refine wpAny_If (thn (hc pins s σ H _ I h) λd s1 ⟨H1,I1,q1⟩=>?_);cases d with
 | true=>exact ha pins s1 σ H1 D I1 q1
 | false=>exact hb pins s1 σ H1 D I1 q1
end
abbrev TG:=V->St->Hp->(St->Hp->Prop)->Prop
abbrev TGs:=List V->St->Hp->(St->Hp->Prop)->Prop
def PG(X:Cx)(target:Expr)(t:TG):Prop :=
 ∀(pins:List (Addr×Obj)) (s:Shared) (σ:St) (H:Hp) (v:V) (u:Value) (Q:St->Hp->Prop),Inv X pins σ H s->RelV v u->t v σ H Q ->
  wpAny (model X.prog X.w) X.A (assign target X.env u) (λ_ s'=>∃σ' H',Inv X pins σ' H' s'/\Q σ' H') X.xe s
def PGs(X:Cx)(ts:List Expr)(t:TGs):Prop :=
 ∀(pins:List (Addr×Obj)) (s:Shared) (σ:St) (H:Hp) (vs:List V) (us:List Value) (Q:St->Hp->Prop),Inv X pins σ H s->Vals vs us->t vs σ H Q ->
  wpAny (model X.prog X.w) X.A (assignInOrder ((assignEach ts X.env).map (·.2)) us) (λ_ s'=>∃σ' H',Inv X pins σ' H' s'/\Q σ' H') X.xe s
abbrev TSet:=V->V->V->Hp->(Hp->Prop)->Prop
def PSet(X:Cx)(t:TSet):Prop :=
 ∀(pins:List (Addr×Obj)) (s:Shared) (σ:St) (H:Hp) (o i v:V) (ov iv u:Value) (Q:Hp->Prop),Inv X pins σ H s->RelV o ov->RelV i iv->RelV v u->t o i v H Q ->
  wpAny (model X.prog X.w) X.A (setItem ov iv u) (λ_ s'=>∃H',Inv X pins σ H' s'/\Q H') X.xe s
section
variable{X:Cx}{pos:Pos}
def ZdH(i:Nat):TG:=λv σ H Q=>Q (σ.set i (some v)) H
def Zlm{i:Nat}{x:Str}(hN:X.N.Nodup)(hi:X.N[i]?=some x)(hx:Loc X.env.scope x)(hf:X.fn x=true\/X.env.scope.names.lookup x=some .local:=by first | exact .inl rfl | exact .inr rfl | assumption):PG X (.Name x pos) (ZdH i):=by
 intro pins s σ H v u Q I r h;exact wpAny_assign_Name (Zfd I hN hi hx r (λs' I'=>⟨_,H,I',h⟩) hf)
def gNil:TGs:=λvs σ H Q=>vs=[]/\Q σ H
def Zqr(t:TG)(u:TGs):TGs:=λvs σ H Q=>∃v r,vs=v::r/\t v σ H λσ' H'=>u r σ' H' Q
def ZqK:PGs X [] gNil:=by
 intro pins s σ H vs us Q I r h;obtain ⟨e,h⟩:=h;subst e;cases r;exact assignInOrder_nil ⟨σ,H,I,h⟩
def Znc{e:Expr}{es:List Expr}{t:TG}{u:TGs}(h1:PG X e t)(h2:PGs X es u)
  (hs:(assignEach (e::es) X.env).map (·.2)=assign e X.env::(assignEach es X.env).map (·.2):=by rfl):PGs X (e::es) (Zqr t u):=by
 intro pins s σ H vs us Q I r h;obtain ⟨v,vr,e1,h⟩:=h;subst e1;cases r with
 | cons r rr =>
  rw [hs];refine assignInOrder_cons (thn (h1 pins s σ H _ _ _ I r h) λ_ s1 ⟨σ1,H1,I1,q1⟩=>?_);exact h2 pins s1 σ1 H1 _ _ Q I1 rr q1
def gTup(K:W.Frag)(n:Nat)(t:TGs):TG:=λv σ H Q=>∃a xs,v=.ref a/\SqT K H a xs/\xs.length=n/\t xs σ H Q
def Zsd{es:List Expr}{k:Nat}{t:TGs}{n:Nat}(hc:X.calm=true)(h:PGs X es t)
  (hn:(assignEach es X.env).length=n:=by rfl) (hst:(assignEach es X.env).findIdx? (·.1)=none:=by rfl):PG X (.Tuple es k pos) (gTup X.K n t):=by
 intro pins s σ H v u Q I r hw;obtain ⟨a,xs,e1,hq,hl,hw⟩:=hw;subst e1;cases r;obtain ⟨its,rv,ht,hz⟩:=I.tuple hq;refine assign_Tuple_tuple (I.ok.hd hc) ht (by simp [hn,<-hl,rv.length]) hst λh' hx=>?_;have I1:Inv X pins σ H { s with heap:=h' }:=I.kept (t':=s.toks) λb o e=>hx b o (Vaf (Vac e)) e
 exact h pins _ σ H xs _ Q I1 (by simpa using rv) hw
def gSub(to ti:TE)(t:TSet):TG:=λv σ H Q=>to σ H λo H1=>ti σ H1 λi H2=>t o i v H2 λH3=>Q σ H3
def ZsD{o i:Expr}{to ti:TE}{t:TSet}(ho:PE X o to)(hi:PE X i ti)(hs:PSet X t)
  (ha:∀v,assign (.Subscript o i pos) X.env v=(do
   let ov <-holding [v] (eval o X.env)
   let iv <-holding [v,ov] (eval i X.env)
   standAt pos
   holding [v,ov,iv] (setItem ov iv v)
   release [v,ov,iv] []):=by intro _;rfl):PG X (.Subscript o i pos) (gSub to ti t):=by
 intro pins s σ H v u Q I r h;rw [ha];refine VaC (VaD (thn (ho pins s σ H _ I h) λov s1 ⟨x,H1,I1,r1,q1⟩=>?_));refine VaC (VaD (thn (hi pins s1 σ H1 _ I1 q1) λiv s2 ⟨y,H2,I2,r2,q2⟩=>?_));refine VaC (VaE (VaC (VaD (thn (hs pins s2 σ H2 x y v ov iv u _ I2 r1 r2 r q2) λ_ s3 ⟨H3,I3,q3⟩=>?_))));exact wpAny_release ⟨σ,H3,I3,q3⟩
def tAsg(te:TE)(g:TG):TS:=λD σ H=>te σ H λx H1=>g x σ H1 D.nx
def Zn9{tg e:Expr}{te:TE}{g:TG}(he:PE X e te)(hg:PG X tg g)(hs:swapsWithSole [tg] e pos.line X.env=pure false:=by rfl)(hw:swappedStores [tg] e X.env=pure none:=by rfl)
  (h1:(assignEach [tg] X.env).map (·.2)=[assign tg X.env]:=by rfl):PS X (.Assign [tg] e pos) (tAsg te g):=by
 intro pins s σ H D I h;refine wpAny_Assign_stores (thn (he pins s σ H _ I h) λv s1 ⟨x,H1,I1,r1,q1⟩=>?_) hs hw;rw [h1];exact thn (hg pins s1 σ H1 x v _ I1 r1 q1) λ_ s2 q=>q
def Zih{i:Nat}{x:Str}{e:Expr}{te:TE}{pos':Pos}(hN:X.N.Nodup)(hi:X.N[i]?=some x)(hx:Loc X.env.scope x)(he:PE X e te)(hs:swapsWith e (some (.Name x pos')) pos.line X.env=pure false:=by rfl)(hf:X.fn x=true\/X.env.scope.names.lookup x=some .local:=by first | exact .inl rfl | exact .inr rfl | assumption) :
  PS X (.Assign [.Name x pos'] e pos) (tAsg te (ZdH i)):=by
 intro pins s σ H D I h;refine wpAny_Assign_Name (thn (he pins s σ H _ I h) λv s1 ⟨y,H1,I1,r1,q1⟩=>?_) hs;exact Zfd I1 hN hi hx r1 (λs2 I2=>⟨_,H1,I2,q1⟩) hf
end
section
variable{X:Cx}{pos:Pos}
def Zj0(c:TT)(tb:TS):TS:=λD σ H=>∃W:Nat->St->Hp->Prop,(∃m,W m σ H)/\∀m σ H,W m σ H ->
 c σ H λb H1=>if b=true then ∃N:St->Hp->Prop,(∀σ' H',N σ' H'->∃m',m'<m/\W m' σ' H')/\tb { D with nx:=N,ct:=N,bk:=D.nx } σ H1 else D.nx σ H1
def Znw{c:Expr}{body:List Stmt}{tc:TT}{tb:TS}(hp:PassesOwn (model X.prog X.w) X.A X.env X.xe)(hc:PT X c tc)(hb:PSs X body tb):PS X (.While c body [] pos) (Zj0 tc tb):=by
 intro pins s σ H D I h;obtain ⟨W,⟨m0,w0⟩,turn⟩:=h;refine wpAny_While (codeAny_whileLoop (λn s'=>∃σ' H',Inv X pins σ' H' s'/\W n σ' H') ?_ m0 ⟨σ,H,I,w0⟩);rintro n s1 ⟨σ1,H1,I1,w1⟩;refine VaF hp (thn (hc pins s1 σ1 H1 _ I1 (turn n σ1 H1 w1)) λb s2 ⟨H2,I2,q2⟩=>?_);cases b with
 | true =>
  obtain ⟨N,hN,q2⟩:=q2;rw [if_pos rfl];refine VaF hp (thn (hb pins s2 σ1 H2 _ I2 q2) λf s3 q3=>?_);cases f with
  | next =>
   obtain ⟨σ3,H3,I3,n3⟩:=q3;obtain ⟨m',hm,w3⟩:=hN σ3 H3 n3;exact ⟨m',hm,σ3,H3,I3,w3⟩
  | cont =>
   obtain ⟨σ3,H3,I3,n3⟩:=q3;obtain ⟨m',hm,w3⟩:=hN σ3 H3 n3;exact ⟨m',hm,σ3,H3,I3,w3⟩
  | brk=>exact q3
  | ret v=>exact q3
 | false =>
  rw [if_neg VaG];exact VaA ⟨σ1,H2,I2,q2⟩
end
structure It where
 go:Nat->Hp->Prop
 yld:Nat->Hp->V->Hp->Prop
 stop:Nat->Hp->Prop
def FpOk(X:Cx)(pins:List (Addr×Obj))(H:Hp)(b:Addr):Prop :=
 H b=none/\b≠X.env.locals/\b∉X.fs/\(b∈X.ex\/X.s₀.heap.objs.size<=b)/\(∀x c,X.env.cells.lookup x=some c->c≠b)/\∀p∈X.pn++pins,p.1≠b
def Inv.fpOk{X:Cx}{pins:List (Addr×Obj)}{σ:St}{H H':Hp}{s:Shared}{b:Addr}(I:Inv X pins σ H s)(hb:s.heap.objs.size<=b)(hn:H' b=none):FpOk X pins H' b:=by
 refine ⟨hn,VaH (Vad I.lt hb),I.nofs hb,.inr (Vak I.sz hb),λx c e z=>?_,λp hp z=>?_⟩
 ·obtain ⟨v,q⟩:=I.cell x c e;exact absurd (Vad q.lt (by rw [z];exact hb)) (Vae _)
 ·exact absurd (Vad (Vac (I.pin p hp).1) (by rw [z];exact hb)) (Vae _)
structure Turn(P:Program)(w:World)(K:W.Frag)(tg:Expr)(J:It)(fp:List Addr)(it:Addr)(tn:Nat->Heap->Prop):Prop where
 mem:it∈fp
 obj:∀i h,tn i h->∀b∈fp,∃o,h.get? b=some o/\∀v,o.data≠.cell v
 keep:∀i h h',tn i h->(∀b∈fp,∀o,h.get? b=some o->h'.get? b=some o)->tn i h'
 item:∀(X:Cx),X.prog=P->X.w=w->X.K=K->X.calm=true->∀(i:Nat) (pins:List (Addr×Obj)) (s:Shared) (σ:St) (H:Hp) (E:Value->Shared->Prop),Inv X pins σ H s->(∀b∈fp,FpOk X pins H b)->tn i s.heap->J.go i H ->
  wpAny (model P w) X.A (pyNext (.ref it)) (λr s1=>∃u,r=some u /\
   wpAny (model P w) X.A (letOwnedTupleGo tg (.ref it) u) (λ_ s2=>∃x H',Inv X pins σ H' s2/\RelV x u/\J.yld i H x H'/\tn (i+1) s2.heap/\∀b∈fp,H' b=none) E s1) E s
 done:∀(X:Cx),X.prog=P->X.w=w->X.K=K->X.calm=true->∀(i:Nat) (pins:List (Addr×Obj)) (s:Shared) (σ:St) (H:Hp) (E:Value->Shared->Prop),Inv X pins σ H s->(∀b∈fp,FpOk X pins H b)->tn i s.heap->J.stop i H ->
  wpAny (model P w) X.A (pyNext (.ref it)) (λr s1=>r=none/\Inv X pins σ H s1) E s
 self:∀(A:Around) (i:Nat) (s:Shared) (Q:Value->Shared->Prop) (E:Value->Shared->Prop),tn i s.heap->Q (.ref it) s->wpAny (model P w) A (pyIter (.ref it)) Q E s
abbrev TI:=St->Hp->(It->Hp->Prop)->Prop
def PIE(X:Cx)(pins:List (Addr×Obj))(σ:St)(tg:Expr)(R:It->Hp->Prop)(itv:Value)(s2:Shared):Prop :=
 ∃(it:Addr) (fp:List Addr) (tn:Nat->Heap->Prop) (J:It) (H':Hp),itv=.ref it/\Inv X pins σ H' s2/\Turn X.prog X.w X.K tg J fp it tn/\tn 0 s2.heap/\(∀b∈fp,FpOk X pins H' b)/\R J H'
def PI(X:Cx)(tg iter:Expr)(wi:TI):Prop :=
 ∀(pins:List (Addr×Obj)) (s:Shared) (σ:St) (H:Hp) (R:It->Hp->Prop),Inv X pins σ H s->wi σ H R ->
  wpAny (model X.prog X.w) X.A (eval iter X.env) (λv s1=>wpAny (model X.prog X.w) X.A (pyIter v) (PIE X pins σ tg R) X.xe s1) X.xe s
def ZmS{M:Model}{A:Around}{E:Value->Shared->Prop}{s:Shared}{tg:Expr}{it:Addr}{u:Value}{o:Obj}{n:String}{vs:Array Value}{Q:Unit->Shared->Prop}(ho:s.heap.get? it=some o)(hc:o.cls=.type n)(hd:o.data=.fields vs)
  (hn:["enumerate", "zip", "dict_itemiterator", "dict_reverseitemiterator", "odict_iterator", "itertools.zip_longest", "itertools.pairwise"].contains n=false) (hQ:Q () s):wpAny M A (letOwnedTupleGo tg (.ref it) u) Q E s:=by
 unfold letOwnedTupleGo;cases tg<;>first
  | exact VaI hQ
  | (cases u<;>first
    | exact VaI hQ
    | (refine VaC (wpAny_load ho ?_)
       rw [hc,hd];show wpAny M A (if (["enumerate", "zip", "dict_itemiterator", "dict_reverseitemiterator", "odict_iterator", "itertools.zip_longest", "itertools.pairwise"].contains n&&vs[0]?==some (rawInt _))=true then _ else _) Q E s
       rw [if_neg (by intro h;rw [hn,Bool.false_and] at h;cases h)]
       exact VaI hQ))
def Itl(K:W.Frag)(a:Addr):It :=
 ⟨λi H=>∃xs x,SqL K H a xs/\xs[i]?=some x,λi H x H'=>H'=H/\∀xs,SqL K H a xs->xs[i]?=some x,λi H=>∃xs,SqL K H a xs/\xs.length<=i⟩
def Itt(K:W.Frag)(a:Addr):It :=
 ⟨λi H=>∃xs x,SqT K H a xs/\xs[i]?=some x,λi H x H'=>H'=H/\∀xs,SqT K H a xs->xs[i]?=some x,λi H=>∃xs,SqT K H a xs/\xs.length<=i⟩
def Itr(lo:Int)(n:Nat):It:=⟨λi _=>i<n,λi H x H'=>H'=H/\x=.int (lo+i),λi _=>n<=i⟩
def Zk9{P:Program}{w:World}{K:W.Frag}{tg:Expr}(a it:Addr):Turn P w K tg (Itl K a) [it] it (λi h=>h.IsListIter it a i) where
 mem:=by simp
 obj:=λi h st b hb=>by
  have e:b=it:=by simpa using hb
  subst e;obtain ⟨o,e,c,d⟩:=st;exact ⟨o,e,λv z=>by rw [d] at z;cases z⟩
 keep:=λi h h' st k=>st.at λo e=>k it (by simp) o e
 item:=by
  intro X hP hw hK hc i pins s σ H E I hf st hg;subst hP hw hK;obtain ⟨xs,x,hq,hx⟩:=hg;obtain ⟨its,rv,p,hz⟩:=I.list hq;obtain ⟨u,hu,ru⟩:=rv.get hx;obtain ⟨f0,f1,f2,f3,f4,f5⟩:=hf it (by simp);refine wpAny_pyNext_list_item st p.isList (x:=u) (by simpa using hu) λh' st' sb=>?_;have I1:Inv X pins σ H { s with heap:=h' }:=I.turned (t':=s.toks) (λb o hb e=>(sb.2 b hb).trans e) f0 f1 f3 f4 f5
  obtain ⟨o,e,c,d⟩:=id st';exact ⟨u,rfl,ZmS (s:={ s with heap:=h' }) e c d (by decide) ⟨x,H,I1,ru,⟨rfl,λys hy=>by rw [I.list_inj hy hq];exact hx⟩,st',λb hb=>(hf b hb).1⟩⟩
 done:=by
  intro X hP hw hK hc i pins s σ H E I hf st hg;subst hP hw hK;obtain ⟨xs,hq,hx⟩:=hg;obtain ⟨its,rv,p,hz⟩:=I.list hq;obtain ⟨f0,f1,f2,f3,f4,f5⟩:=hf it (by simp);have hl:=rv.length;exact wpAny_pyNext_list_end (I.ok.hd hc) st p.isList (by simp;omega) λh' eb=>⟨rfl,I.turned (t':=s.toks) (λb o hb e=>eb b o hb e) f0 f1 f3 f4 f5⟩
 self:=λ_ _ _ _ _ st h=>wpAny_pyIter_listiter st h
def Zko{P:Program}{w:World}{K:W.Frag}{tg:Expr}(a it:Addr):Turn P w K tg (Itt K a) [it] it (λi h=>h.IsTupleIter it a i) where
 mem:=by simp
 obj:=λi h st b hb=>by
  have e:b=it:=by simpa using hb
  subst e;obtain ⟨o,e,c,d⟩:=st;exact ⟨o,e,λv z=>by rw [d] at z;cases z⟩
 keep:=λi h h' st k=>st.at λo e=>k it (by simp) o e
 item:=by
  intro X hP hw hK hc i pins s σ H E I hf st hg;subst hP hw hK;obtain ⟨xs,x,hq,hx⟩:=hg;obtain ⟨its,rv,p,hz⟩:=I.tuple hq;obtain ⟨u,hu,ru⟩:=rv.get hx;obtain ⟨f0,f1,f2,f3,f4,f5⟩:=hf it (by simp);refine wpAny_pyNext_tuple_item st (show s.heap.IsTuple a its.toArray from p) (x:=u) (by simpa using hu) λh' st' sb=>?_;have I1:Inv X pins σ H { s with heap:=h' }:=I.turned (t':=s.toks) (λb o hb e=>(sb.2 b hb).trans e) f0 f1 f3 f4 f5
  obtain ⟨o,e,c,d⟩:=id st';exact ⟨u,rfl,ZmS (s:={ s with heap:=h' }) e c d (by decide) ⟨x,H,I1,ru,⟨rfl,λys hy=>by rw [I.tuple_inj hy hq];exact hx⟩,st',λb hb=>(hf b hb).1⟩⟩
 done:=by
  intro X hP hw hK hc i pins s σ H E I hf st hg;subst hP hw hK;obtain ⟨xs,hq,hx⟩:=hg;obtain ⟨its,rv,p,hz⟩:=I.tuple hq;obtain ⟨f0,f1,f2,f3,f4,f5⟩:=hf it (by simp);have hl:=rv.length;exact wpAny_pyNext_tuple_end (I.ok.hd hc) st (show s.heap.IsTuple a its.toArray from p) (by simp;omega) λh' eb=>⟨rfl,I.turned (t':=s.toks) (λb o hb e=>eb b o hb e) f0 f1 f3 f4 f5⟩
 self:=λ_ _ _ _ _ st h=>wpAny_pyIter_tupleiter st h
def Zky{P:Program}{w:World}{K:W.Frag}{tg:Expr}(it:Addr)(lo:Int)(n:Nat):Turn P w K tg (Itr lo n) [it] it (λi h=>IsRangeIter h it (lo+(i:Nat)*1) ((n:Int) - (i:Nat)) 1) where
 mem:=by simp
 obj:=λi h st b hb=>by
  have e:b=it:=by simpa using hb
  subst e
  exact ⟨_,st,λv z=>by
   have z':Data.fields _=Data.cell v:=z
   cases z'⟩
 keep:=λi h h' st k=>k it (by simp) _ st
 item:=by
  intro X hP hw hK hc i pins s σ H E I hf st hg;subst hP hw hK;obtain ⟨f0,f1,f2,f3,f4,f5⟩:=hf it (by simp);have W:=Walks.range (prog:=X.prog) (w:=X.w) (I.ok.hd hc) it lo 1 n;refine W.item i s _ _ hg st λv h' tk hv st' kk=>?_;obtain ⟨t,rfl⟩:=hv;have I1:Inv X pins σ H { s with heap:=h',toks:=tk }:=I.turned (λb o hb e=>kk b o (by simpa using hb) e) f0 f1 f3 f4 f5
  refine ⟨_,rfl,ZmS (s:={ s with heap:=h',toks:=tk }) (n := "range_iterator") st' rfl rfl (by decide) ⟨.int (lo+i),H,I1,⟨t,?_⟩,⟨rfl,rfl⟩,st',λb hb=>(hf b hb).1⟩⟩
  rw [Int.mul_one]
 done:=by
  intro X hP hw hK hc i pins s σ H E I hf st hg;subst hP hw hK;obtain ⟨f0,f1,f2,f3,f4,f5⟩:=hf it (by simp);exact wpAny_pyNext_range_end (I.ok.hd hc) st (by have:n<=i:=hg;omega) λh' eb=>⟨rfl,I.turned (t':=s.toks) (λb o hb e=>eb b o hb e) f0 f1 f3 f4 f5⟩
 self:=λ_ _ _ _ _ st h=>wpAny_pyIter_rangeiter st h
section
variable{X:Cx}{tg:Expr}
def ZjB{pins:List (Addr×Obj)}{σ:St}{H:Hp}{s:Shared}{R:It->Hp->Prop}{E:Value->Shared->Prop}{lo hi:Int}{t u v:Tok}{tk:Nat}(I:Inv X pins σ H s)(h1:-(2^62)<=lo)(h2:lo<2^62)(h3:-(2^62)<=hi)(h4:hi<2^62)
  (q:R (Itr lo (hi - lo).toNat) H):wpAny (model X.prog X.w) X.A (pyIter (.ref s.heap.objs.size)) (PIE X pins σ tg R) E { s with heap:=s.heap.push { cls:=.type "range", data:=.fields #[.int lo t,.int hi u,.int 1 v] },toks:=tk }:=by
 refine wpAny_pyIter_range (IsRange.new ..) (small_one h1 h2 h3 h4) ?_;have I1:Inv X pins σ H { s with heap:=s.heap.push { cls:=.type "range", data:=.fields #[.int lo t,.int hi u,.int 1 v] },toks:=tk }:=I.kept λb o e=>VaJ _ e
 refine ⟨(s.heap.push { cls:=.type "range", data:=.fields #[.int lo t,.int hi u,.int 1 v] }).objs.size,[(s.heap.push { cls:=.type "range", data:=.fields #[.int lo t,.int hi u,.int 1 v] }).objs.size],_,_,H,rfl,
  I1.kept (t':=tk) λb o e=>VaJ _ e,Zky _ lo (hi - lo).toNat,?_,λb hb=>?_,q⟩
 ·have e1:lo+((0:Nat):Int)*1=lo:=by simp
  have e2:(((hi - lo).toNat:Nat):Int) - ((0:Nat):Int)=Builtin.Range.rangeSize lo hi 1:=by rw [rangeSize_one];split<;>omega
  show IsRangeIter _ _ (lo+((0:Nat):Int)*1) ((((hi - lo).toNat:Nat):Int) - ((0:Nat):Int)) 1;rw [e1,e2];exact VaK _ rfl
 ·have e:b=(s.heap.push { cls:=.type "range", data:=.fields #[.int lo t,.int hi u,.int 1 v] }).objs.size:=by simpa using hb
  subst e;exact I1.fpOk (VaL _) (I1.hok.fresh (VaL _))
def Zo1(ta:TA):TI:=λσ H R=>ta σ H λvs H1=>∃j:Int,vs=[.int j]/\-(2^62)<=j/\j<2^62/\R (Itr 0 j.toNat) H1
def ZoQ(ta:TA):TI:=λσ H R=>ta σ H λvs H1=>∃i j:Int,vs=[.int i,.int j]/\(-(2^62)<=i/\i<2^62/\-(2^62)<=j/\j<2^62)/\R (Itr i (j - i).toNat) H1
def ZlD{a:Expr}{ta:TA}{p pos:Pos}(hg:Gl X "range")(hm:X.mg "range"=none)(ha:PA X [a] ta)(hs:starEach [a] X.env=[(false,eval a X.env)]:=by rfl):PI X tg (.Call (.Name "range" p) [a] [] pos) (Zo1 ta):=by
 intro pins s σ H R I h;refine Call_ (ZgM I hg hm boot_range (VaM (thn (ha pos pins s σ H _ I h) λus s1 ⟨vs,H1,I1,r1,q1⟩=>?_) hs rfl));obtain ⟨j,e,q1,q2,q⟩:=q1;subst e;cases r1 with
 | cons r rr =>
  cases rr;obtain ⟨t,rfl⟩:=r;exact call_range_1 (ZjB I1 (by omega) (by omega) q1 q2 (by simpa using q))
def Zlx{a b:Expr}{ta:TA}{p pos:Pos}(hg:Gl X "range")(hm:X.mg "range"=none)(ha:PA X [a,b] ta)(hs:starEach [a,b] X.env=[(false,eval a X.env),(false,eval b X.env)]:=by rfl)(hs2:starEach [b] X.env=[(false,eval b X.env)]:=by rfl) :
  PI X tg (.Call (.Name "range" p) [a,b] [] pos) (ZoQ ta):=by
 intro pins s σ H R I h;refine Call_ (ZgM I hg hm boot_range (VaM (thn (ha pos pins s σ H _ I h) λus s1 ⟨vs,H1,I1,r1,q1⟩=>?_) (by rw [hs,hs2]) (by rw [hs2];rfl)));obtain ⟨i,j,e,⟨q1,q2,q3,q4⟩,q⟩:=q1;subst e;cases r1 with
 | cons r rr =>
  cases rr with
  | cons r' rr =>
   cases rr;obtain ⟨t,rfl⟩:=r;obtain ⟨t',rfl⟩:=r';exact call_range_2 (ZjB I1 q1 q2 q3 q4 q)
def tFor(wi:TI)(g:TG)(tb:TS):TS:=λD σ H=>wi σ H λJ H1=>∃W:Nat->Nat->St->Hp->Prop,(∃m,W 0 m σ H1)/\∀i m σ H,W i m σ H ->
 (J.stop i H/\D.nx σ H)\/(J.go i H/\∃N:St->Hp->Prop,(∀σ' H',N σ' H'->∃m',m'<m/\W (i+1) m' σ' H')/\∀x H',J.yld i H x H'->g x σ H' λσ2 H2=>tb { D with nx:=N,ct:=N,bk:=D.nx } σ2 H2)
def Zjs(fp:List Addr)(h:Heap):List (Addr×Obj):=fp.filterMap λb=>(h.get? b).map λo=>(b,o)
def ZbK{fp:List Addr}{h:Heap}{b:Addr}{o:Obj}(hb:b∈fp)(e:h.get? b=some o):(b,o)∈Zjs fp h:=VaN.mpr ⟨b,hb,by rw [e];rfl⟩
def Zlu{fp:List Addr}{h:Heap}{p:Addr×Obj}(hp:p∈Zjs fp h):p.1∈fp/\h.get? p.1=some p.2:=by
 obtain ⟨b,hb,e⟩:=VaN.mp hp;cases q:h.get? b with
 | none=>rw [q] at e;cases e
 | some o =>
  rw [q] at e;have e':(b,o)=p:=Vaw e;subst e';exact ⟨hb,q⟩
def Inv.pinned{pins:List (Addr×Obj)}{σ:St}{H:Hp}{s:Shared}{fp:List Addr}(I:Inv X pins σ H s)(hf:∀b∈fp,FpOk X pins H b)(ho:∀b∈fp,∃o,s.heap.get? b=some o/\∀v,o.data≠.cell v):Inv X (pins++Zjs fp s.heap) σ H s :=
 I.pins_of λp hp=>(Var.mp hp).elim (λz=>I.pin p (VaO _ z)) λz=>by
  obtain ⟨hb,e⟩:=Zlu z;obtain ⟨f0,f1,f2,_⟩:=hf p.1 hb;obtain ⟨o,e',d⟩:=ho p.1 hb;rw [e] at e';cases e';exact ⟨e,f0,f1,f2,d⟩
def Inv.unpinned{pins pl:List (Addr×Obj)}{σ:St}{H:Hp}{s:Shared}(I:Inv X (pins++pl) σ H s):Inv X pins σ H s:=I.pins_of λp hp=>I.pin p (VaO _ (Vas _ hp))
def ZnT{iter:Expr}{body:List Stmt}{wi:TI}{g:TG}{tb:TS}{pos:Pos}(hp:PassesOwn (model X.prog X.w) X.A X.env X.xe)(hc:X.calm=true)(hi:PI X tg iter wi)(hg:PG X tg g)(hb:PSs X body tb)
  (hs:∀x,foldedSetIterable iter X.env x=pure x:=by intro _;rfl):PS X (.For tg iter body [] pos) (tFor wi g tb):=by
 intro pins s σ H D I h;refine wpAny_For (thn (hi pins s σ H _ I h) λv s1 h1=>thn h1 λitv s2 h2=>?_) hs;obtain ⟨it,fp,tn,J,H2,e,I2,T,st2,f2,W,⟨m0,w0⟩,turn⟩:=h2;subst e;have stat:∀{H':Hp},(∀b∈fp,H' b=none)->∀b∈fp,FpOk X pins H' b:=λhn b hb=>⟨hn b hb,(f2 b hb).2⟩;refine codeAny_forLoop_any (λn s'=>∃i σ' H',Inv X pins σ' H' s'/\tn i s'.heap/\(∀b∈fp,H' b=none)/\W i n σ' H') ?_ m0 ⟨0,σ,H2,I2,st2,λb hb=>(f2 b hb).1,w0⟩;rintro n s3 ⟨i,σ3,H3,I3,st3,fr3,w3⟩;rcases turn i n σ3 H3 w3 with ⟨stop,qn⟩ | ⟨go,N,hN,step⟩
 ·refine VaF hp (thn (T.done X rfl rfl rfl hc i pins s3 σ3 H3 X.xe I3 (stat fr3) st3 stop) λr s4 ⟨hr,I4⟩=>?_);subst hr;exact VaA ⟨σ3,H3,I4,qn⟩
 ·refine VaF hp (thn (T.item X rfl rfl rfl hc i pins s3 σ3 H3 X.xe I3 (stat fr3) st3 go) λr s4 ⟨u,hr,h4⟩=>?_);subst hr;refine VaF hp (thn h4 λ_ s5 zq=>?_);obtain ⟨x,H5,I5,r5,y5,st5,fr5⟩:=zq;have I5':=I5.pinned (stat fr5) (T.obj _ _ st5);refine VaF hp (thn (hg _ s5 σ3 H5 x u _ I5' r5 (step x H5 y5)) λ_ s6 ⟨σ6,H6,I6,q6⟩=>?_);refine VaF hp (thn (hb _ s6 σ6 H6 _ I6 q6) λf s7 q7=>?_);have again:∀{σ7:St} {H7:Hp},Inv X (pins++Zjs fp s5.heap) σ7 H7 s7->N σ7 H7->∃m,m<n/\∃i σ' H',Inv X pins σ' H' s7/\tn i s7.heap/\(∀b∈fp,H' b=none)/\W i m σ' H':=λ{σ7 H7} I7 n7=>by
   obtain ⟨m',hm,w7⟩:=hN σ7 H7 n7;refine ⟨m',hm,i+1,σ7,H7,I7.unpinned,T.keep _ _ _ st5 λb hb o e=>(I7.pin (b,o) (VaO _ (VaO _ (ZbK hb e)))).1,λb hb=>?_,w7⟩;obtain ⟨o,e,d⟩:=T.obj _ _ st5 b hb;exact (I7.pin (b,o) (VaO _ (VaO _ (ZbK hb e)))).2.1
  cases f with
  | next=>obtain ⟨σ7,H7,I7,n7⟩:=q7;exact again I7 n7
  | cont=>obtain ⟨σ7,H7,I7,n7⟩:=q7;exact again I7 n7
  | brk=>obtain ⟨σ7,H7,I7,q7⟩:=q7;exact ⟨σ7,H7,I7.unpinned,q7⟩
  | ret v=>obtain ⟨x7,σ7,H7,I7,r7,q7⟩:=q7;exact ⟨x7,σ7,H7,I7.unpinned,r7,q7⟩
end
abbrev R2:=V->V->Hp->VK->Prop
def OpR(X:Cx)(f:Value->Value->Sem Value)(r:R2):Prop :=
 ∀(pins:List (Addr×Obj)) (s:Shared) (σ:St) (H:Hp) (x y:V) (v u:Value) (Q:VK),Inv X pins σ H s->RelV x v->RelV y u->r x y H Q ->
  wpAny (model X.prog X.w) X.A (f v u) (EP X pins σ Q) X.xe s
def UnR(X:Cx)(f:Value->Sem Value)(r:V->Hp->VK->Prop):Prop :=
 ∀(pins:List (Addr×Obj)) (s:Shared) (σ:St) (H:Hp) (x:V) (v:Value) (Q:VK),Inv X pins σ H s->RelV x v->r x H Q ->
  wpAny (model X.prog X.w) X.A (f v) (EP X pins σ Q) X.xe s
def ZdR(X:Cx)(f:Value)(r:List V->Hp->VK->Prop):Prop :=
 ∀(pins:List (Addr×Obj)) (s:Shared) (σ:St) (H:Hp) (xs:List V) (us:List Value) (Q:VK),Inv X pins σ H s->Vals xs us->r xs H Q ->
  wpAny (model X.prog X.w) X.A (call f us) (EP X pins σ Q) X.xe s
def tOp(r:R2)(ta tb:TE):TE:=λσ H Q=>ta σ H λx H1=>tb σ H1 λy H2=>r x y H2 Q
def tUn(r:V->Hp->VK->Prop)(ta:TE):TE:=λσ H Q=>ta σ H λx H1=>r x H1 Q
def rI(C:Int->Int->Prop)(g:Int->Int->V):R2:=λx y H Q=>∃i j,x=.int i/\y=.int j/\C i j/\Q (g i j) H
def rI0(g:Int->Int->V):R2:=λx y H Q=>∃i j,x=.int i/\y=.int j/\Q (g i j) H
def rU(g:Int->V):V->Hp->VK->Prop:=λx H Q=>∃i,x=.int i/\Q (g i) H
section
variable{X:Cx}{a b c:Expr}{ta tb tc:TE}{pos:Pos}
def binT(ha:PE X a ta)(hb:PE X b tb){pins:List (Addr×Obj)}{s:Shared}{σ:St}{H:Hp}{R:V->V->Hp->Prop}(I:Inv X pins σ H s)
  (h:ta σ H λx H1=>tb σ H1 λy H2=>R x y H2) {Q:Value->Shared->Prop} {f:Value->Value->Sem Value}
  (hf:∀v u s2 x y H2,Inv X pins σ H2 s2->RelV x v->RelV y u->R x y H2->wpAny (model X.prog X.w) X.A (f v u) Q X.xe s2) :
  wpAny (model X.prog X.w) X.A (eval a X.env) (λv s₁=>wpAny (model X.prog X.w) X.A (eval b X.env) (λu s₂=>wpAny (model X.prog X.w) X.A (f v u) Q X.xe s₂) X.xe s₁) X.xe s:=by
 refine thn (ha pins s σ H _ I h) λv s1 ⟨x,H1,I1,r1,q1⟩=>?_;refine thn (hb pins s1 σ H1 _ I1 q1) λu s2 ⟨y,H2,I2,r2,q2⟩=>?_;exact hf v u s2 x y H2 I2 r1 r2 q2
def Zq0{op:Operator}{r:R2}(ho:OpR X (binaryOp op) r)(ha:PE X a ta)(hb:PE X b tb):PE X (.BinOp a op b pos) (tOp r ta tb):=by
 intro pins s σ H Q I h;exact wpAny_BinOp (binT ha hb I h λv u s2 x y H2 I2 rx ry q=>ho pins s2 σ H2 x y v u Q I2 rx ry q)
def ZsR{op:UnaryOp}{r:V->Hp->VK->Prop}(ho:UnR X (unaryOp op) r)(ha:PE X a ta):PE X (.UnaryOp op a pos) (tUn r ta):=by
 intro pins s σ H Q I h;exact UnaryOp_ (thn (ha pins s σ H _ I h) λv s1 ⟨x,H1,I1,r1,q1⟩=>ho pins s1 σ H1 x v Q I1 r1 q1)
def opI{f:Value->Value->Sem Value}{C:Int->Int->Prop}{g:Int->Int->Int}
  (rule:∀(i j:Int) (t u:Tok) (s:Shared) (Q:Value->Shared->Prop) (E:Value->Shared->Prop),C i j->Q (.int (g i j) s.toks) { s with toks:=s.toks+1 }->wpAny (model X.prog X.w) X.A (f (.int i t) (.int j u)) Q E s) :
  OpR X f (rI C λi j=>.int (g i j)):=by
 intro pins s σ H x y v u Q I rx ry h;obtain ⟨i,j,rfl,rfl,hc,q⟩:=h;obtain ⟨t,rfl⟩:=rx;obtain ⟨t',rfl⟩:=ry;exact rule i j t t' s _ _ hc ⟨.int (g i j),H,I.tok _,⟨_,rfl⟩,q⟩
def opI0{f:Value->Value->Sem Value}{g:Int->Int->Int}
  (rule:∀(i j:Int) (t u:Tok) (s:Shared) (Q:Value->Shared->Prop) (E:Value->Shared->Prop),Q (.int (g i j) s.toks) { s with toks:=s.toks+1 }->wpAny (model X.prog X.w) X.A (f (.int i t) (.int j u)) Q E s) :
  OpR X f (rI0 λi j=>.int (g i j)):=by
 intro pins s σ H x y v u Q I rx ry h;obtain ⟨i,j,rfl,rfl,q⟩:=h;obtain ⟨t,rfl⟩:=rx;obtain ⟨t',rfl⟩:=ry;exact rule i j t t' s _ _ ⟨.int (g i j),H,I.tok _,⟨_,rfl⟩,q⟩
def opB0{f:Value->Value->Sem Value}{g:Int->Int->Bool}
  (rule:∀(i j:Int) (t u:Tok) (s:Shared) (Q:Value->Shared->Prop) (E:Value->Shared->Prop),Q (.bool (g i j)) s->wpAny (model X.prog X.w) X.A (f (.int i t) (.int j u)) Q E s) :
  OpR X f (rI0 λi j=>.bl (g i j)):=by
 intro pins s σ H x y v u Q I rx ry h;obtain ⟨i,j,rfl,rfl,q⟩:=h;obtain ⟨t,rfl⟩:=rx;obtain ⟨t',rfl⟩:=ry;exact rule i j t t' s _ _ ⟨.bl (g i j),H,I,rfl,q⟩
def CPow(i j:Int):Prop:=0<=j/\j<=1000000/\i.natAbs<2^64
def Zkc(k:Nat):(0:Int)<=2^k:=by
 rw [two_pow_cast];exact Int.natCast_nonneg _
def ZsC:OpR X (binaryOp .Add) (rI0 λi j=>.int (i+j)):=opI0 λ_ _ _ _ _ _ _ q=>add_int q
def ZsZ:OpR X (binaryOp .Sub) (rI0 λi j=>.int (i - j)):=opI0 λ_ _ _ _ _ _ _ q=>sub_int q
def ZpF:OpR X (binaryOp .Mod) (rI (λ_ j=>j≠0) λi j=>.int (i.fmod j)):=opI λ_ _ _ _ _ _ _ hc q=>mod_int' hc q
def Zsf:OpR X (binaryOp .Pow) (rI CPow λi j=>.int (i^j.toNat)):=opI λ_ _ _ _ _ _ _ hc q=>pow_int_small hc.1 hc.2.1 hc.2.2 q
def Zsp:OpR X (binaryOp .LShift) (rI CPow λi j=>.int (i*2^j.toNat)):=opI λ_ _ _ _ _ _ _ hc q=>lshift_int_small hc.1 hc.2.1 hc.2.2 q
def Zrk:OpR X (binaryOp .RShift) (rI (λ_ j=>0<=j) λi j=>.int (i/2^j.toNat)):=opI λi j _ _ _ _ _ hc q =>
 rshift_int hc (by rw [Int.fdiv_eq_ediv_of_nonneg i (Zkc _)];exact q)
def unI{f:Value->Sem Value}{g:Int->Int}
  (rule:∀(i:Int) (t:Tok) (s:Shared) (Q:Value->Shared->Prop) (E:Value->Shared->Prop),Q (.int (g i) s.toks) { s with toks:=s.toks+1 }->wpAny (model X.prog X.w) X.A (f (.int i t)) Q E s) :
  UnR X f (rU λi=>.int (g i)):=by
 intro pins s σ H x v Q I rx h;obtain ⟨i,rfl,q⟩:=h;obtain ⟨t,rfl⟩:=rx;exact rule i t s _ _ ⟨.int (g i),H,I.tok _,⟨_,rfl⟩,q⟩
def ZnO:UnR X (unaryOp .USub) (rU λi=>.int (-i)):=unI λ_ _ _ _ _ q=>neg_int q
end
section
variable{X:Cx}{a b c:Expr}{ta tb tc:TE}{pos:Pos}
def Zjp{pins:List (Addr×Obj)}{σ:St}{H:Hp}{s:Shared}{Q:VK}{k k':Bool}(I:Inv X pins σ H s)(q:Q (.bl k) H)(e:k=k'):EP X pins σ Q (.bool k') s:=by
 subst e;exact ⟨.bl k,H,I,rfl,q⟩
def Ztu:OpR X (compareOp .Lt) (rI0 λi j=>.bl (decide (i<j))):=opB0 λ_ _ _ _ _ _ _ q=>lt_int q
def Zr0:OpR X (compareOp .LtE) (rI0 λi j=>.bl (decide (i<=j))):=opB0 λ_ _ _ _ _ _ _ q=>le_int q
def Ztm:OpR X (compareOp .Gt) (rI0 λi j=>.bl (decide (j<i))):=opB0 λ_ _ _ _ _ _ _ q=>gt_int q
def ZrV:OpR X (compareOp .GtE) (rI0 λi j=>.bl (decide (j<=i))):=opB0 λ_ _ _ _ _ _ _ q=>ge_int q
def ZlW:OpR X (compareOp .In) (λx y H Q=>∃i j,x=.str i/\y=.str j/\Q (.bl (!(Builtin.Str.occurrences j i 0 j.length 1).isEmpty)) H):=by
 intro pins s σ H x y v u Q I rx ry h;obtain ⟨i,j,rfl,rfl,q⟩:=h;obtain ⟨t,rfl⟩:=rx;obtain ⟨t',rfl⟩:=ry;exact in_str (Zjp I q rfl)
def ZhQ:OpR X (compareOp .NotIn) (λx y H Q=>∃i j,x=.str i/\y=.str j/\Q (.bl (!(!(Builtin.Str.occurrences j i 0 j.length 1).isEmpty))) H):=by
 intro pins s σ H x y v u Q I rx ry h;obtain ⟨i,j,rfl,rfl,q⟩:=h;obtain ⟨t,rfl⟩:=rx;obtain ⟨t',rfl⟩:=ry;exact notIn_str (Zjp I q rfl)
def Zep(b:Expr){op:CmpOp}(h:op≠.In:=by decide)(h2:op≠.NotIn:=by decide):behindInMarks op b=false:=by
 have e1:(op==CmpOp.In)=false:=by cases op<;>first | rfl | exact absurd rfl h
 have e2:(op==CmpOp.NotIn)=false:=by cases op<;>first | rfl | exact absurd rfl h2
 cases b<;>simp [behindInMarks,e1,e2]
def ZpW{op:CmpOp}{r:R2}(ho:OpR X (compareOp op) r)(ha:PE X a ta)(hb:PE X b tb)(hm:behindInMarks op b=false):PE X (.Compare a [op] [b] pos) (tOp r ta tb):=by
 intro pins s σ H Q I h;exact wpAny_Compare1 (binT ha hb I h λv u s2 x y H2 I2 rx ry q=>ho pins s2 σ H2 x y v u Q I2 rx ry q) hm
def ZfO(t:TE):TT:=λσ H Q=>t σ H λx H'=>∃k,x=.bl k/\Q k H'
def ZoS{op:CmpOp}{r:R2}(ho:OpR X (compareOp op) r)(ha:PE X a ta)(hb:PE X b tb)(hm:behindInMarks op b=false):PT X (.Compare a [op] [b] pos) (ZfO (tOp r ta tb)):=by
 intro pins s σ H Q I h
 refine wpAny_isTrue_Compare1 (thn (ha pins s σ H _ I h) λv s1 ⟨x,H1,I1,r1,q1⟩=>thn (hb pins s1 σ H1 _ I1 q1) λu s2 ⟨y,H2,I2,r2,q2⟩ =>
  thn (ho pins s2 σ H2 x y v u _ I2 r1 r2 q2) λc s3 ⟨z,H3,I3,r3,k,e,q3⟩=>?_) hm
 subst e;cases r3;exact wpAny_truthy_bool ⟨H3,I3,q3⟩
def ZgG:(sizeLine:Nat)<2^63:=by rw [VaP];decide
def Zj9:OpR X (binaryOp .Add) (λx y H Q=>∃i j,x=.str i/\y=.str j/\i.length+j.length<=sizeLine/\Q (.str (i++j)) H):=by
 intro pins s σ H x y v u Q I rx ry h;obtain ⟨i,j,rfl,rfl,hz,q⟩:=h;obtain ⟨t,rfl⟩:=rx;obtain ⟨t',rfl⟩:=ry;exact add_str (λt' tk=>⟨.str (i++j),H,I.tok _,⟨_,rfl⟩,q⟩) hz
def vals1{x:V}{us:List Value}(r:Vals [x] us):∃u,us=[u]/\RelV x u:=by
 cases r with
 | cons r1 r2=>cases r2;exact ⟨_,rfl,r1⟩
def vals2{x y:V}{us:List Value}(r:Vals [x,y] us):∃u w',us=[u,w']/\RelV x u/\RelV y w':=by
 cases r with
 | cons r1 r2 =>
  cases r2 with
  | cons r3 r4=>cases r4;exact ⟨_,_,rfl,r1,r3⟩
def ZnJ:ZdR X (.builtin "abs") (λxs H Q=>∃i,xs=[.int i]/\Q (.int (if i<0 then -i else i)) H):=by
 intro pins s σ H xs us Q I r h;obtain ⟨i,rfl,q⟩:=h;obtain ⟨u,rfl,t,rfl⟩:=vals1 r;exact call_abs_int λu tk=>⟨.int (if i<0 then -i else i),H,I.tok _,⟨_,rfl⟩,q⟩
def ZhH:ZdR X (.type "str") (λxs H Q=>∃i,xs=[.int i]/\i.natAbs.log2<1920/\Q (.str (toString i)) H):=by
 intro pins s σ H xs us Q I r h;obtain ⟨i,rfl,hz,q⟩:=h;obtain ⟨u,rfl,t,rfl⟩:=vals1 r;exact PySem.P.str_of_int hz ⟨.str _,H,I.tok _,⟨_,rfl⟩,q⟩
def LenV(K:W.Frag)(x:V)(H:Hp)(n:Nat):Prop :=
 match x with
 | .str y=>y.length<=sizeLine/\n=y.length
 | .byt y=>y.size<=sizeLine/\n=y.size
 | .ref p=>(∃xs,SqL K H p xs/\n=xs.length)\/∃xs,SqT K H p xs/\n=xs.length
 | _=>False
def Zmq:ZdR X (.builtin "len") (λxs H Q=>∃x n,xs=[x]/\LenV X.K x H n/\Q (.int n) H):=by
 intro pins s σ H xs us Q I r h;obtain ⟨x,n,rfl,e,q⟩:=h;obtain ⟨u,rfl,rx⟩:=vals1 r;have hl:=ZgG;have hs:sizeLine=16777216:=VaP;cases x with
 | str y =>
  obtain ⟨t,rfl⟩:=rx;obtain ⟨hy,e'⟩ : y.length<=sizeLine/\n=y.length:=e;subst e';exact len_str (by omega) ⟨.int _,H,I.tok _,⟨_,rfl⟩,q⟩
 | byt y =>
  obtain ⟨t,rfl⟩:=rx;obtain ⟨hy,e'⟩ : y.size<=sizeLine/\n=y.size:=e;subst e';exact W.len_bytes (by omega) ⟨.int _,H,I.tok _,⟨_,rfl⟩,q⟩
 | ref p =>
  cases rx;have e':(∃xs,SqL X.K H p xs/\n=xs.length)\/∃xs,SqT X.K H p xs/\n=xs.length:=e;rcases e' with ⟨xs,hx,e'⟩ | ⟨xs,hx,e'⟩
  ·subst e';obtain ⟨its,r',pl,hz⟩:=I.list hx;have hlen:=r'.length;exact Calls.call_len_list pl.isList (by simp only [VaQ];omega) ⟨.int xs.length,H,I.tok _,⟨_,by simp only [VaQ];rw [hlen]⟩,q⟩
  ·subst e';obtain ⟨its,r',pl,hz⟩:=I.tuple hx;have hlen:=r'.length;exact len_tuple pl (by simp only [VaQ];omega) ⟨.int xs.length,H,I.tok _,⟨_,by simp only [VaQ];rw [hlen]⟩,q⟩
 | _=>exact (show False from e).elim
end
structure ObjM(h:Heap)(x dx C:Addr)(mA:Str->Option Value):Prop where
 obj:h.get? x=some (W.instObj C dx)
 ns:h.Ns1 dx mA
 ne:dx≠x
def Zit{h:Heap}{dx:Addr}{mA:Str->Option Value}(n:h.Ns1 dx mA):∃od,h.get? dx=some od/\∀name,W.lookIn name od=some (mA name):=by
 obtain ⟨o,es,ep,ho,hd,hk,_,hm⟩:=n;refine ⟨o,ho,λname=>?_⟩;have e:=hm name;unfold nsFind findBy at e;rw [<-Array.find?_toList] at e;unfold W.lookIn;rw [hd];dsimp only;split
 ·rename_i y q;rw [q] at e;exact Vaz some e
 ·rename_i q;rw [q] at e;have a:es.toList.any (·.refKey)=false:=by
   rw [List.any_eq_false];intro y hy;obtain ⟨z,t,hkey⟩:=hk y (Array.mem_toList_iff.mp hy);simp [DictEntry.refKey,hkey]
  have a':¬es.toList.any (·.refKey)=true:=by rw [a];exact VaG
  rw [if_neg a'];exact Vaz some e
def ObjM.look{h:Heap}{x dx C:Addr}{mA:Str->Option Value}(I:ObjM h x dx C mA):∃od,W.InstAt h x (W.instObj C dx) C (some od)/\∀name,W.lookIn name od=some (mA name) :=
 let ⟨od,ho,hl⟩:=Zit I.ns
 ⟨od,⟨I.obj,rfl,rfl,ho⟩,hl⟩
section
variable{prog:Program}{w:World}{A:Around}{E:Value->Shared->Prop}{s:Shared}{K:W.Frag}{x dx C f:Addr}{mA:Str->Option Value}{name:Str}{v:Value}
def ZoX{expr:Bool}{Q:Value->Shared->Prop}(X:K.In s.heap)(I:ObjM s.heap x dx C mA)(hg:W.plainGet K C name=true)(hh:W.hasDictIn K C=true)
  (ha:W.findIn K (.ref C) name=some none) (hv:mA name=some v) (hv':W.handedIn v=true) (h:Q v { s with toks:=s.toks+1 }) :
  wpAny (model prog w) A (getAttr (.ref x) name expr) Q E s:=by
 obtain ⟨od,J,hl⟩:=I.look;exact W.get_value X J (W.plainGet_of hg).1 (W.findObj_own hh ha rfl (by rw [hl,hv])) hv' h
def ZnI{pl:Sem Bool}{Q:Value×List Value->Shared->Prop}(X:K.In s.heap)(I:ObjM s.heap x dx C mA)(hg:W.plainGet K C name=true)
  (hf:W.findIn K (.ref C) name=some (some (.ref f))) (ht:W.isFn K (.ref f)=true) (hv:mA name=none) (h:Q (.ref f,[.ref x]) s) :
  wpAny (model prog w) A (getMethod (.ref x) name pl) Q E s:=by
 obtain ⟨od,J,hl⟩:=I.look;exact W.method_fn X J (W.plainGet_of hg).1 (W.plainGet_of hg).2 hf (VaR.mp ht) (by show (W.lookIn name od).map (·.isSome)=some false;rw [hl,hv];rfl) h
def ZpA{ns:List Str}{Q:Unit->Shared->Prop}(X:K.In s.heap)(I:ObjM s.heap x dx C mA)
  (hs:W.findIn K (.ref C) "__setattr__"=some (some (.builtin "object.__setattr__"))) (hp:W.plainOver K C=true) (ht:W.takerIn K C name=some none) (hh:W.hasDictIn K C=true)
  (hw:PySem.Within mA ns) (hsz:ns.length<=sizeLine)
  (h:∀h',ObjM h' x dx C (λy=>if y=name then some v else mA y)->Heap.SameBut dx s.heap h'->Q () { s with heap:=h',toks:=s.toks+2 }) :
  wpAny (model prog w) A (setAttr (.ref x) name v) Q E s:=by
 obtain ⟨od,J,hl⟩:=I.look;refine W.set_plain X J hs (W.osa_open (s:={ s with toks:=s.toks+1 }) (r:=none) X J hp ht λb=>?_)
 obtain ⟨cd,hc,hd'⟩:=W.any_some hh;have hx:s.heap.get? x=some ⟨.ref C,some dx,.plain,#[]⟩:=I.obj;refine VaC (VaI (VaC (VaC (VaS hx (VaC (W.Looks.here (s:={ s with toks:=s.toks+1 }) (W.looks_clsIn X hc) ?_))))))
 rw [hd'];refine VaI (a:=some dx) (VaC (VaI (VaC ?_)));refine wpAny_nsSet1 (s:={ s with toks:=s.toks+1 }) I.ns λh' hn2 hs2=>?_
 obtain ⟨oD,esD,epD,hoD,hdD,hcD⟩:=hn2.count (PySem.Within.cons name v hw);refine VaC (wpAny_lookBehind hoD (by rw [hdD];exact pastItsLine_dict (Vak hcD (by rw [VaT];omega))) ?_);exact VaI (h _ ⟨(hs2.2 _ (Ne.symm I.ne)).trans I.obj,hn2,I.ne⟩ hs2)
def ZmZ{R:Result->Shared->Prop}{vs:List Value}{kw:List (Str×Value)}(X:K.In s.heap)(hm:W.makesIn K C=true)
  (hi:W.findIn K (.ref C) "__init__"=some (some (.ref f))) (hf:W.typeIn K (.ref f)=some (.type "function"))
  (h:codeAny (model prog w) (A.under (.builtin "type.__call__" ⟨.ref C::vs,kw⟩)) (.call (.ref f) ⟨.ref (s.heap.objs.size+1)::vs,kw⟩) (W.InitBack (s.heap.objs.size+1) R)
   { s with heap:=(s.heap.push W.emptyDict).push (W.instObj C s.heap.objs.size) }) :
  codeAny (model prog w) A (.call (.ref C) ⟨vs,kw⟩) R s:=by
 obtain ⟨hh,g,d,t,os⟩:=s;exact W.make_core (W.makes_of X hm) (VaU X hi) (λself=>W.bind_fn X self hf) (.inl rfl) h
end
def putF(f:Str)(v:V):List (Str×V)->List (Str×V)
 | []=>[(f,v)]
 | (g,x)::r=>if g=f then (g,v)::r else (g,x)::putF f v r
def Zfq(f g:Str)(v:V):∀fs:List (Str×V),(putF f v fs).lookup g=if g=f then some v else fs.lookup g
 | []=>by
  show List.lookup g [(f,v)]=_;by_cases h:g=f
  ·have hb:(g==f)=true:=VaR.mpr h;simp only [List.lookup,hb,if_pos h]
  ·have hb:(g==f)=false:=Vab.mpr h;simp only [List.lookup,hb,if_neg h]
 | (k,x)::r=>by
  have ih:=Zfq f g v r;rw [show putF f v ((k,x)::r)=(if k=f then (k,v)::r else (k,x)::putF f v r) from rfl]
  by_cases hk:k=f
  ·rw [if_pos hk];by_cases h:g=k
   ·have hb:(g==k)=true:=VaR.mpr h;simp only [List.lookup,hb,if_pos (h.trans hk)]
   ·have hb:(g==k)=false:=Vab.mpr h;simp only [List.lookup,hb,if_neg (λe:g=f=>h (e.trans hk.symm))]
  ·rw [if_neg hk];by_cases h:g=k
   ·have hb:(g==k)=true:=VaR.mpr h;simp only [List.lookup,hb,if_neg (λe:g=f=>hk (h.symm.trans e))]
   ·have hb:(g==k)=false:=Vab.mpr h;simp only [List.lookup,hb];exact ih
def Zfs(f:Str)(v:V):∀fs:List (Str×V),f∈(putF f v fs).map (·.1)/\∀g,g∈fs.map (·.1)->g∈(putF f v fs).map (·.1)
 | []=>⟨by simp [putF],λg h=>by simp at h⟩
 | (k,x)::r=>by
  obtain ⟨i1,i2⟩:=Zfs f v r;rw [show putF f v ((k,x)::r)=(if k=f then (k,v)::r else (k,x)::putF f v r) from rfl]
  by_cases hk:k=f
  ·rw [if_pos hk];subst hk;exact ⟨by simp,λg h=>by simpa using h⟩
  ·rw [if_neg hk];refine ⟨?_,λg h=>?_⟩
   ·rw [VaV];exact Vao _ i1
   ·rw [VaV] at h ⊢;rcases Vaq.mp h with e | e
    ·exact Vaq.mpr (.inl e)
    ·exact Vao _ (i2 g e)
def Zfx(f:Str)(v:V):∀fs:List (Str×V),(putF f v fs).length<=fs.length+1
 | []=>by simp [putF]
 | (k,x)::r=>by
  have ih:=Zfx f v r;rw [show putF f v ((k,x)::r)=(if k=f then (k,v)::r else (k,x)::putF f v r) from rfl]
  by_cases hk:k=f
  ·rw [if_pos hk,VaT,VaT];omega
  ·rw [if_neg hk,VaT,VaT];omega
def RelO.some_of{v:V}{o:Option Value}(r:RelO (some v) o):∃u,o=some u/\RelV v u:=by
 cases o with
 | none=>exact (show False from r).elim
 | some u=>exact ⟨u,rfl,r⟩
def RelO.none_of{o:Option Value}(r:RelO none o):o=none:=by
 cases o with
 | none=>rfl
 | some u=>exact (show False from r).elim
def Zim{v:V}{u:Value}(r:RelV v u):W.handedIn u=true:=by
 cases v with
 | non=>cases (show u=Value.none from r);rfl
 | bl b=>cases (show u=Value.bool b from r);rfl
 | int i=>obtain ⟨t,e⟩:=(show ∃t,u=Value.int i t from r);cases e;rfl
 | str x=>obtain ⟨t,e⟩:=(show ∃t,u=Value.str x t from r);cases e;rfl
 | byt b=>obtain ⟨t,e⟩:=(show ∃t,u=Value.bytes b t from r);cases e;rfl
 | flt b=>obtain ⟨t,e⟩:=(show ∃t,u=Value.float b t from r);cases e;rfl
 | ref a=>cases (show u=Value.ref a from r);rfl
 | ty n=>cases (show u=Value.type n from r);rfl
section
variable{P:Program}{w:World}{H H':Hp}{h h':Heap}{a C dx:Addr}{fs fs':List (Str×V)}
def Zhj(hok:HOk P w H h)(e:H a=some (.ins C dx fs)):∃mA,ObjM h a dx C mA/\(∀f,RelO (fs.lookup f) (mA f))/\PySem.Within mA (fs.map (·.1))/\fs.length<=1000/\H dx=some (.own a):=by
 obtain ⟨d,z,ne,ob,mA,n,r,q⟩:=(show Zbt P w H h a (.ins C dx fs) from hok a _ e);exact ⟨mA,⟨ob,n,ne⟩,r,q,z,d⟩
end
structure Cls(K:W.Frag)(C:Addr):Prop where
 pg:W.plainGet K C Str.empty=true
 hd:W.hasDictIn K C=true
 po:W.plainOver K C=true
 sa:W.findIn K (.ref C) "__setattr__"=some (some (.builtin "object.__setattr__"))
def Cls.get{K:W.Frag}{C:Addr}(c:Cls K C)(f:Str):W.plainGet K C f=true:=c.pg
def Zdh(K:W.Frag)(C:Addr)(f:Str):Prop:=W.findIn K (.ref C) f=some none
def Zdh.taker{K:W.Frag}{C:Addr}{f:Str}(n:Zdh K C f):W.takerIn K C f=some none:=by
 unfold W.takerIn;rw [show W.findIn K (.ref C) f=some none from n];rfl
structure Meth(K:W.Frag)(C:Addr)(m:Str)(f:Addr):Prop where
 at_:W.findIn K (.ref C) m=some (some (.ref f))
 fn:W.isFn K (.ref f)=true
 kp:W.keepIn K (.ref f)=true
section
variable{X:Cx}{pins:List (Addr×Obj)}{σ:St}{H:Hp}{s:Shared}{a C dx:Addr}{fs:List (Str×V)}{f:Str}{v:V}{A:Around}{E:Value->Shared->Prop}
def Zkh{b:Bool}{Q:Value->Shared->Prop}(I:Inv X pins σ H s)(e:H a=some (.ins C dx fs))(c:Cls X.K C)(n:Zdh X.K C f)(l:fs.lookup f=some v)
  (h:∀u s',Inv X pins σ H s'->RelV v u->Q u s'):wpAny (model X.prog X.w) A (getAttr (.ref a) f b) Q E s:=by
 obtain ⟨mA,O,r,_,_,_⟩:=Zhj I.hok e;obtain ⟨u,hu,ru⟩:=RelO.some_of (v:=v) (o:=mA f) (by rw [<-l];exact r f);exact ZoX I.kIn O (c.get f) c.hd n hu (Zim ru) (h u _ (I.tok _) ru)
def Zkw{m:Str}{g:Addr}{pl:Sem Bool}{Q:Value×List Value->Shared->Prop}(I:Inv X pins σ H s)(e:H a=some (.ins C dx fs))(c:Cls X.K C)(k:Meth X.K C m g)(l:fs.lookup m=none)
  (h:Q (.ref g,[.ref a]) s):wpAny (model X.prog X.w) A (getMethod (.ref a) m pl) Q E s:=by
 obtain ⟨mA,O,r,_,_,_⟩:=Zhj I.hok e;have hn:mA m=none:=RelO.none_of (by rw [<-l];exact r m);exact ZnI I.kIn O (c.get m) k.at_ k.fn hn h
def Zj7{y:V}{u:Value}{Q:Unit->Shared->Prop}(I:Inv X pins σ H s)(e:H a=some (.ins C dx fs))(c:Cls X.K C)(n:Zdh X.K C f)(hl:fs.length<1000)(ry:RelV y u)
  (h:∀s',Inv X pins σ (upd H a (.ins C dx (putF f y fs))) s'->Q () s'):wpAny (model X.prog X.w) A (setAttr (.ref a) f u) Q E s:=by
 obtain ⟨mA,O,r,wi,_,ho⟩:=Zhj I.hok e;have hz:(fs.map (·.1)).length<=sizeLine:=by rw [VaW,VaP];omega
 refine ZpA I.kIn O c.sa c.po n.taker c.hd wi hz λh' O' sb=>h _ ?_;have hd:∃o,h'.get? dx=some o:=let ⟨o,_,_,e',_⟩:=O'.ns;⟨o,e'⟩;refine I.write (x:=a) (e:=dx) (by rw [e];exact True.intro) (.inr ho) (λb q hb z=>(sb.2 b hb).trans z) hd ?_;refine ⟨by rw [Zae O.ne];exact ho,?_,O.ne,O'.obj,_,O'.ns,λg=>?_,λg hg=>?_⟩
 ·have:=Zfx f y fs;omega
 ·show RelO ((putF f y fs).lookup g) (if g=f then some u else mA g)
  rw [Zfq];by_cases q:g=f
  ·rw [if_pos q,if_pos q];exact ry
  ·rw [if_neg q,if_neg q];exact r g
 ·by_cases q:g=f
  ·rw [q];exact (Zfs f y fs).1
  ·refine (Zfs f y fs).2 g (wi g λz=>hg ?_);show (if g=f then some u else mA g)=none
   rw [if_neg q];exact z
def Inv.made(I:Inv X pins σ H s):Inv X pins σ (upd (upd H s.heap.objs.size (.own (s.heap.objs.size+1))) (s.heap.objs.size+1) (.ins C s.heap.objs.size []))
  { s with heap:=(s.heap.push W.emptyDict).push (W.instObj C s.heap.objs.size) }:=by
 have e1:(s.heap.push W.emptyDict).get? s.heap.objs.size=some W.emptyDict:=VaK s.heap rfl;have e2:((s.heap.push W.emptyDict).push (W.instObj C s.heap.objs.size)).get? (s.heap.objs.size+1)=some (W.instObj C s.heap.objs.size):=by
  have:=VaK (s.heap.push W.emptyDict) (o:=W.instObj C s.heap.objs.size) rfl;rwa [VaX] at this
 have e3:(s.heap.push W.emptyDict).Ns s.heap.objs.size (λ_=>none):=⟨W.emptyDict,#[],_,e1,rfl,(λe he=>absurd he (by simp)),λ_=>rfl⟩;have I1:=I.laid (a:=s.heap.objs.size) (o:=.own (s.heap.objs.size+1)) (h':=s.heap.push W.emptyDict) (t':=s.toks) (λb u q=>VaJ _ q) (VaL _) ⟨_,e1⟩;refine I1.laid (a:=s.heap.objs.size+1) (o:=.ins C s.heap.objs.size []) (t':=s.toks) (λb u q=>VaJ _ q) (Nat.le_of_eq (VaX _ _)) ?_;have ne:s.heap.objs.size≠s.heap.objs.size+1:=Vaf (VaY _);refine ⟨by rw [Zae ne,Zag],VaZ _,ne,e2,λ_=>none,(Heap.Ns1.of_empty e3).at λo q=>VaJ _ q,λ_=>True.intro,λy hy=>absurd rfl hy⟩
def ZlJ{prog:Program}{w:World}{env:Env}{e:Expr}{f:Str}{pos:Pos}{s:Shared}{Q:Value->Shared->Prop}(hb:attributeBase e f env (eval e env)=eval e env)
  (h:wpAny (model prog w) A (eval e env) (λo s₁=>wpAny (model prog w) A (getAttr o f true) Q E s₁) E s):wpAny (model prog w) A (eval (.Attribute e f pos) env) Q E s :=
 Attribute_any_ h (by rw [arm_eval_Attribute,hb])
end
def tFld(K:W.Frag)(ta:TE)(f:Str):TE:=λσ H Q=>ta σ H λx H1=>∃a C dx fs v,x=.ref a/\H1 a=some (.ins C dx fs)/\Cls K C/\Zdh K C f/\fs.lookup f=some v/\Q v H1
def sFld(K:W.Frag)(ta tv:TE)(f:Str):TS:=λD σ H=>tv σ H λy H1=>ta σ H1 λx H2=>∃a C dx fs,x=.ref a/\H2 a=some (.ins C dx fs)/\Cls K C/\Zdh K C f/\fs.length<1000 /\
 D.nx σ (upd H2 a (.ins C dx (putF f y fs)))
section
variable{X:Cx}{o e value:Expr}{f:Str}{pos pos' tpos:Pos}{ta tv:TE}
def Zsy(he:PE X e ta)(hb:attributeBase e f X.env (eval e X.env)=eval e X.env):PE X (.Attribute e f pos) (tFld X.K ta f):=by
 intro pins s σ H Q I h;refine ZlJ hb (thn (he pins s σ H _ I h) λu s1 zq=>?_);obtain ⟨x,H1,I1,rx,a,C,dx,fs,v,ex,ea,c,n,l,q⟩:=zq;subst ex;obtain rfl:u=Value.ref a:=rx;exact Zkh I1 ea c n l λu' s2 I2 ru=>⟨v,H1,I2,ru,q⟩
def Zos(ha:PE X o ta)(hv:PE X value tv)(hs:swapsWith value (some (.Attribute o f pos')) pos.line X.env=pure false):PS X (.Assign [.Attribute o f pos'] value pos) (sFld X.K ta tv f):=by
 intro pins s σ H D I h;refine plainObj_wpAny_Assign_Attribute (thn (hv pins s σ H _ I h) λu s1 ⟨y,H1,I1,ry,q⟩=>thn (ha pins s1 σ H1 _ I1 q) λov s2 zq=>?_) hs;obtain ⟨x,H2,I2,rx,a,C,dx,fs,ex,ea,c,n,l,q2⟩:=zq;subst ex;obtain rfl:ov=Value.ref a:=rx;exact Zj7 I2 ea c n l ry λs3 I3=>⟨σ,_,I3,q2⟩
end
section
variable{X:Cx}{pins:List (Addr×Obj)}{σ:St}{H:Hp}{s:Shared}{A:Around}{E:Value->Shared->Prop}{Q:Value->Shared->Prop}{c:Value}{b:Bool}
inductive TyOf(K:W.Frag)(H:Hp):V->Value->Prop where
 | non:TyOf K H .non (.type "NoneType")
 | bl (x:Bool):TyOf K H (.bl x) (.type "bool")
 | int (i:Int):TyOf K H (.int i) (.type "int")
 | str (x:Str):TyOf K H (.str x) (.type "str")
 | flt (x:UInt64):TyOf K H (.flt x) (.type "float")
 | lst {a:Addr} {xs:List V} (e:H a=some (.lst xs)):TyOf K H (.ref a) (.type "list")
 | frz {a:Addr} {o:Obj} {xs:List V} (e:H a=some (.frz o (.lst xs))):TyOf K H (.ref a) (.type "list")
 | tup {a:Addr} {xs:List V} (e:H a=some (.tup xs)):TyOf K H (.ref a) (.type "tuple")
 | dK {a:Addr} {kvs:List (Key×V)} (e:H a=some (.dK kvs)):TyOf K H (.ref a) (.type "dict")
 | dT {a:Addr} {kvs:List (List Key×V)} (e:H a=some (.dT kvs)):TyOf K H (.ref a) (.type "dict")
 | ins {a C dx:Addr} {fs:List (Str×V)} (e:H a=some (.ins C dx fs)) (cl:Cls K C) (ha:W.findIn K (.ref C) "__class__"=some (some (.builtin "object.__class__")))
   (hn:W.specialIn K (.builtin "object.__class__") "__get__"=some (some (.builtin "getset_descriptor.__get__"))) (htk:W.takesIn K (.builtin "object.__class__")=some true)
   (hm:W.mroIn K C (.type "object")=some true):TyOf K H (.ref a) (.ref C)
def Zem{x:V}{u t:Value}(I:Inv X pins σ H s)(rx:RelV x u)(ty:TyOf X.K H x t)(e:W.kitOne X.K t c=some b)(h:∀tk,Q (.bool b) { s with toks:=tk }) :
  wpAny (model X.prog X.w) A (call (.builtin "isinstance") [u,c]) Q E s:=by
 cases ty with
 | non=>cases (show u=Value.none from rx);exact Va0 W.kitx_none I.kIn True.intro e (λz=>nomatch z) h
 | bl y=>cases (show u=Value.bool y from rx);exact Va0 W.kitx_bool I.kIn True.intro e (λz=>nomatch z) h
 | int i=>obtain ⟨t,q⟩:=(show ∃t,u=Value.int i t from rx);cases q;exact Va0 W.kitx_int I.kIn True.intro e (λz=>nomatch z) h
 | str y=>obtain ⟨t,q⟩:=(show ∃t,u=Value.str y t from rx);cases q;exact Va0 W.kitx_str I.kIn True.intro e (λz=>nomatch z) h
 | flt y=>obtain ⟨t,q⟩:=(show ∃t,u=Value.float y t from rx);cases q;exact Va0 W.kitx_float I.kIn True.intro e (λz=>nomatch z) h
 | @lst a xs ea =>
  cases (show u=Value.ref a from rx);obtain ⟨_,_,n,_,h1⟩:=(show Zbt X.prog X.w H s.heap a (.lst xs) from I.hok a _ ea);exact Va0 W.kitx_list I.kIn ⟨_,h1,rfl⟩ e (λz=>nomatch z) h
 | @frz a ob xs ea =>
  cases (show u=Value.ref a from rx);obtain ⟨_,_,_,n,_,h1⟩:=(show Zbt X.prog X.w H s.heap a (.frz ob (.lst xs)) from I.hok a _ ea);exact Va0 W.kitx_list I.kIn ⟨_,h1,rfl⟩ e (λz=>nomatch z) h
 | @tup a xs ea =>
  cases (show u=Value.ref a from rx);obtain ⟨_,_,_,p⟩:=(show Zbt X.prog X.w H s.heap a (.tup xs) from I.hok a _ ea);obtain ⟨o,h1,h2,_⟩:=p;exact Va0 W.kitx_tuple I.kIn ⟨o,h1,h2⟩ e (λz=>nomatch z) h
 | @dK a kvs ea =>
  cases (show u=Value.ref a from rx);obtain ⟨_,_,vs,_,p⟩:=(show Zbt X.prog X.w H s.heap a (.dK kvs) from I.hok a _ ea);obtain ⟨o,es,ep,h1,h2,_⟩:=p;exact Va0 W.kitx_dict I.kIn ⟨o,h1,h2.1⟩ e (λz=>nomatch z) h
 | @dT a kvs ea =>
  cases (show u=Value.ref a from rx);obtain ⟨_,_,xs,_,o,es,ep,h1,h2,_⟩:=(show Zbt X.prog X.w H s.heap a (.dT kvs) from I.hok a _ ea);exact Va0 W.kitx_dict I.kIn ⟨o,h1,h2.1⟩ e (λz=>nomatch z) h
 | @ins a C dx fs ea cl ha hn htk hm =>
  cases (show u=Value.ref a from rx);obtain ⟨mA,O,_⟩:=Zhj I.hok ea;obtain ⟨od,J,_⟩:=O.look;exact Va0 (W.kitx_own (cl.get _) cl.hd ha hn htk hm) I.kIn J e (λz=>nomatch z) h
end
structure Room(k:Nat)(A:Around):Prop where
 hd:A.handled=none
 dp:A.depth+3*k+5<recursionLimit
 un:A.units+16*k+200<cLine
def Room.mono{j k:Nat}{A:Around}(r:Room k A)(h:j<=k):Room j A:=⟨r.hd,by have:=r.dp;omega,by have:=r.un;omega⟩
def Room.deeper{k:Nat}{A:Around}(r:Room (k+1) A)(env:Env):Room k (A.deeper env) :=
 ⟨r.hd,by have:=r.dp;show A.depth+1+3*k+5<_;omega,by have:=r.un;show A.units+3+16*k+200<_;omega⟩
def Zj4{A:Around}{C:Addr}{us:List Value}{kw:List (Str×Value)}:(A.under (.builtin "type.__call__" ⟨.ref C::us,kw⟩)).depth=A.depth+1:=by
 first | rfl | simp [Around.under,Code.weight,Code.isCreation,Code.isGuard,Code.isCaller,Code.frames,Code.isFrame,guardIds]
def Zj6{A:Around}{C:Addr}{us:List Value}{kw:List (Str×Value)}:(A.under (.builtin "type.__call__" ⟨.ref C::us,kw⟩)).units=A.units+1:=by
 first | rfl | simp [Around.under,Code.cUnits,Code.frames,Code.isFrame]
def Room.make{k:Nat}{A:Around}(r:Room (k+1) A)(C:Addr)(us:List Value)(kw:List (Str×Value)):Room k (A.under (.builtin "type.__call__" ⟨.ref C::us,kw⟩)) :=
 ⟨r.hd,by have:=r.dp;rw [Zj4];omega,by have:=r.un;rw [Zj6];omega⟩
def Room.depth{k:Nat}{A:Around}(r:Room k A):A.depth<recursionLimit:=by have:=r.dp;omega
def Room.units{k:Nat}{A:Around}(r:Room k A):A.units+64<cLine:=by have:=r.un;omega
def tNil:TA:=λ_ H Q=>Q [] H
def ZdD(ta:TE)(tr:TA):TA:=λσ H Q=>ta σ H λx H1=>tr σ H1 λxs H2=>Q (x::xs) H2
section
variable{X:Cx}{e:Expr}{es:List Expr}{te:TE}{t:TA}{pos:Pos}
def Zcu:PA X [] tNil:=λ_ _ _ _ H Q I h=>Calls.spliced_nil ⟨[],H,I,.nil,h⟩
def ZbG(ha:PE X e te)(hr:PA X es t)(hs:starEach (e::es) X.env=(false,eval e X.env)::starEach es X.env:=by rfl):PA X (e::es) (ZdD te t):=by
 intro pos pins s σ H Q I h;rw [hs];show wpAny _ _ (spliced ((false,eval e X.env)::backTo pos (starEach es X.env))) _ _ s;refine Calls.spliced_cons (thn (ha pins s σ H _ I h) λu s1 ⟨x,H1,I1,r1,q1⟩=>?_);exact thn (hr pos pins s1 σ H1 _ I1 q1) λus s2 ⟨xs,H2,I2,r2,q2⟩=>⟨x::xs,H2,I2,.cons r1 r2,q2⟩
def tTup(t:TA):TE:=λσ H Q=>t σ H λxs H1=>xs.length<=sizeLine/\∀p,H1 p=none->Q (.ref p) (upd H1 p (.tup xs))
def tLst(t:TA):TE:=λσ H Q=>t σ H λxs H1=>xs.length<=sizeLine/\∀p,H1 p=none->Q (.ref p) (upd H1 p (.lst xs))
def Zse{x1}(h:PA X es t):PE X (.Tuple es x1 pos) (tTup t):=by
 intro pins s σ H Q I hq;refine wpAny_Tuple_spliced (thn (h pos pins s σ H _ I hq) λus s1 ⟨xs,H1,I1,r,z,q⟩=>⟨by rw [<-r.length];exact z,?_⟩);have hf:H1 s1.heap.objs.size=none:=I1.hok.fresh (VaL _);refine ⟨.ref s1.heap.objs.size,upd H1 s1.heap.objs.size (.tup xs),I1.laid (t':=s1.toks) (λb u e=>VaJ _ e) (VaL _) ?_,rfl,q _ hf⟩;exact ⟨z,us,r,⟨_,VaK _ rfl,rfl,_,rfl⟩⟩
def Zij(h:PA X es t):PE X (.List es pos) (tLst t):=by
 intro pins s σ H Q I hq;refine wpAny_List_spliced (thn (h pos pins s σ H _ I hq) λus s1 ⟨xs,H1,I1,r,z,q⟩=>⟨by rw [<-r.length];exact z,?_⟩);have hf:H1 s1.heap.objs.size=none:=I1.hok.fresh (VaL _);refine ⟨.ref s1.heap.objs.size,upd H1 s1.heap.objs.size (.lst xs),I1.laid (t':=s1.toks) (λb u e=>VaJ _ e) (VaL _) ?_,rfl,q _ hf⟩;exact ⟨z,us,0,r,VaK _ rfl⟩
end
abbrev Sp:=List V->Hp->VK->XK->Prop
abbrev CXT:=List Env->Hp->Shared->XK->Value->Shared->Prop
structure Env0(P:Program)(w:World)(K:W.Frag)(mg:Str->Option Value)(base:Heap)(A:Around)(outer:List Env)(s:Shared)(H:Hp):Prop where
 frames:A.frames=some outer
 mod:Mod K mg base
 bs:∀b o,base.get? b=some o->s.heap.get? b=some o/\H b=none
 bsz:base.objs.size<=s.heap.objs.size
 funs:s.heap.FunFrames base outer
 frf:∀b∈frs outer,H b=none
 hok:HOk P w H s.heap
 bare:AllBare s.gens
def CE(outer:List Env)(P:Program)(w:World)(H:Hp)(s:Shared)(Q:VK)(u:Value)(s':Shared):Prop :=
 ∃v H',s'.os=s.os/\AllBare s'.gens/\Un (frs outer) [] H H' s.heap s'.heap/\HOk P w H' s'.heap/\RelV v u/\Q v H'
def CR(CX:CXT)(outer:List Env)(P:Program)(w:World)(H:Hp)(s:Shared)(Q:VK)(E:XK)(r:Result)(s':Shared):Prop :=
 match r with
 | .ok (.ret u)=>CE outer P w H s Q u s'
 | .ok _=>False
 | .error e=>CX outer H s E e s'
structure FnOk(P:Program)(w:World)(K:W.Frag)(mg:Str->Option Value)(base:Heap)(CX:CXT)(k:Nat)(f:Addr)(fd:FuncData)(ps:List Str)(sp:Sp):Prop where
 len:∀vs H Q E,sp vs H Q E->vs.length=ps.length
 run:∀(A:Around) (outer:List Env) (s:Shared) (H:Hp) (args:Args) (us:List Value) (vs:List V) (Q:VK) (E:XK),Room k A->Env0 P w K mg base A outer s H->BindsTo s fd args (ps.zip us)->Vals vs us->sp vs H Q E ->
  codeAny (model P w) A (.call (.ref f) args) (CR CX outer P w H s Q E) s
def FnOk.mono{P:Program}{w:World}{K:W.Frag}{mg:Str->Option Value}{base:Heap}{CX:CXT}{j k:Nat}{f:Addr}{fd:FuncData}{ps:List Str}{sp:Sp}(F:FnOk P w K mg base CX j f fd ps sp)(h:j<=k) :
  FnOk P w K mg base CX k f fd ps sp:=⟨F.len,λA outer s H args us vs Q E hr=>F.run A outer s H args us vs Q E (hr.mono h)⟩
def FnOk.imp{P:Program}{w:World}{K:W.Frag}{mg:Str->Option Value}{base:Heap}{CX:CXT}{k:Nat}{f:Addr}{fd:FuncData}{ps:List Str}{sp sp':Sp}(F:FnOk P w K mg base CX k f fd ps sp)
  (h:∀vs H Q E,sp' vs H Q E->sp vs H Q E):FnOk P w K mg base CX k f fd ps sp' :=
 ⟨λvs H Q E q=>F.len vs H Q E (h _ _ _ _ q),λA outer s H args us vs Q E hr he hb hv hs=>F.run A outer s H args us vs Q E hr he hb hv (h _ _ _ _ hs)⟩
def Env0.make{P:Program}{w:World}{K:W.Frag}{mg:Str->Option Value}{base:Heap}{A:Around}{outer:List Env}{s:Shared}{H:Hp}(e:Env0 P w K mg base A outer s H)(C:Addr)(us:List Value)(kw:List (Str×Value)) :
  Env0 P w K mg base (A.under (.builtin "type.__call__" ⟨.ref C::us,kw⟩)) outer s H:=⟨by first | exact e.frames | (simpa [Around.under,Code.envs,Code.isFrame,pushEnvs] using e.frames),e.mod,e.bs,e.bsz,e.funs,e.frf,e.hok,e.bare⟩
section
variable{X:Cx}{pins:List (Addr×Obj)}{σ:St}{H:Hp}{s s':Shared}
def Inv.env0(I:Inv X pins σ H s):Env0 X.prog X.w X.K X.mg X.base X.A X.stack s H :=
 ⟨I.ok.frames,I.ok.mod,I.bs,Vak I.ok.bsz I.sz,I.stack,I.stkFree,I.hok,I.bare⟩
def Inv.after{Q:VK}{u:Value}(I:Inv X pins σ H s)(h:CE X.stack X.prog X.w H s Q u s'):EP X pins σ Q u s':=by
 obtain ⟨v,H',os,bare,un,hok,r,q⟩:=h;obtain ⟨hh,g,d,t,os'⟩:=s';obtain rfl:os'=s.os:=os;exact ⟨v,H',I.call (h':=hh) (g':=g) (d':=d) (t':=t) (ch:=[]) un hok bare (λb z=>absurd z (by simp)),r,q⟩
end
def ZhM(sp:Sp)(dvs:List V)(E:XK)(t:TA):TE:=λσ H Q=>t σ H λvs H1=>sp (vs++dvs) H1 Q E
def Zpa(C:Addr)(sp:Sp)(dvs:List V)(E:XK)(t:TA):TE:=λσ H Q=>t σ H λvs H1=>∀x dx,H1 x=none->H1 dx=none->dx≠x ->
 sp (.ref x::(vs++dvs)) (upd (upd H1 dx (.own x)) x (.ins C dx [])) (λv H2=>v=.non/\Q (.ref x) H2) E
def Binds(K:W.Frag)(fd:FuncData)(ps:List Str)(ds:List Value):Prop :=
 ∀(s:Shared) (us:List Value),K.In s.heap->(us++ds).length=ps.length->BindsTo s fd ⟨us,[]⟩ (ps.zip (us++ds))
def Binds.all{K:W.Frag}{fd:FuncData}{ps:List Str}(h:∀us:List Value,us.length=ps.length->bindArgs fd ⟨us,[]⟩=pure (ps.zip us)):Binds K fd ps []:=λs us _ hl=>by
 rw [Va1] at hl ⊢;exact .of_eq (h us hl)
def ZbX(CX:CXT)(X:Cx)(E:XK):Prop:=∀(pins:List (Addr×Obj)) (σ:St) (H:Hp) (s:Shared) (e:Value) (s':Shared),Inv X pins σ H s->CX X.stack H s E e s'->X.xe e s'
section
variable{X:Cx}{CX:CXT}{k:Nat}{f C:Addr}{fd:FuncData}{ps:List Str}{sp:Sp}{dvs:List V}{ds:List Value}{E:XK}{x m:Str}{p pos apos:Pos}{e o:Expr}{es:List Expr}{ta:TE}{t:TA}
def ZlC{pins:List (Addr×Obj)}{σ:St}{H:Hp}{s:Shared}{Q:VK}{us:List Value}{vs:List V}(F:FnOk X.prog X.w X.K X.mg X.base CX k f fd ps sp)(hr:Room k X.A)(hb:Binds X.K fd ps ds)(hd:Vals dvs ds)(hx:ZbX CX X E)
  (I:Inv X pins σ H s) (r:Vals vs us) (h:sp (vs++dvs) H Q E):wpAny (model X.prog X.w) X.A (call (.ref f) us) (EP X pins σ Q) X.xe s:=by
 have r2:Vals (vs++dvs) (us++ds):=r.append hd;have hl:(us++ds).length=ps.length:=by rw [<-r2.length];exact F.len _ _ _ _ h
 refine Va2 (Va3 (F.run X.A X.stack s H ⟨us,[]⟩ (us++ds) (vs++dvs) Q E hr I.env0 (hb s us I.kIn hl) r2 h) λr s' hq=>?_);cases r with
 | error e=>exact hx pins σ H s e s' I hq
 | ok fl =>
  cases fl with
  | ret u=>exact I.after hq
  | next=>exact False.elim hq
  | brk=>exact False.elim hq
  | cont=>exact False.elim hq
def Zlv(F:FnOk X.prog X.w X.K X.mg X.base CX k f fd ps sp)(hr:Room k X.A)(hg:Gl X x)(hm:X.mg x=some (.ref f))(hk:W.keepIn X.K (.ref f)=true)(hb:Binds X.K fd ps ds)(hd:Vals dvs ds)(hx:ZbX CX X E)
  (ha:PA X (e::es) t) (hdb:(x==("__debug__" : Str))=false:=by decide) (he:starEach (e::es) X.env=(false,eval e X.env)::starEach es X.env:=by rfl) (hpl:(backTo pos (starEach es X.env)).any (·.1)=false:=by rfl) :
  PE X (.Call (.Name x p) (e::es) [] pos) (ZhM sp dvs E t):=by
 intro pins s σ H Q I h;refine Va4 (ZcS I hg hm ?_ hdb);refine Va5 (h₀:=X.base) I.ok.mod.kin hk (thn (ha pos pins s σ H _ I h) λus s1 ⟨vs,H1,I1,r,q⟩=>⟨I1.kIn,?_⟩) he hpl;exact ZlC F hr hb hd hx I1 r q
structure Mk(K:W.Frag)(C f:Addr):Prop where
 makes:W.makesIn K C=true
 init:W.findIn K (.ref C) "__init__"=some (some (.ref f))
 fn:W.isFn K (.ref f)=true
 kp:W.keepIn K (.ref C)=true
def Zmz{pins:List (Addr×Obj)}{σ:St}{H:Hp}{s:Shared}{Q:VK}{us:List Value}{vs:List V}(M:Mk X.K C f)(F:FnOk X.prog X.w X.K X.mg X.base CX k f fd ps sp)(hr:Room (k+1) X.A)(hb:Binds X.K fd ps ds)(hd:Vals dvs ds)
  (hx:ZbX CX X E) (I:Inv X pins σ H s) (r:Vals vs us)
  (h:∀x dx,H x=none->H dx=none->dx≠x->sp (.ref x::(vs++dvs)) (upd (upd H dx (.own x)) x (.ins C dx [])) (λv H2=>v=.non/\Q (.ref x) H2) E) :
  wpAny (model X.prog X.w) X.A (call (.ref C) us) (EP X pins σ Q) X.xe s:=by
 have hq:=h (s.heap.objs.size+1) s.heap.objs.size (I.hok.fresh (Nat.le_succ _)) (I.hok.fresh (VaL _)) (Vaf (VaY _));have I2:=Inv.made (C:=C) I;have r2:Vals (V.ref (s.heap.objs.size+1)::(vs++dvs)) (Value.ref (s.heap.objs.size+1)::(us++ds)):=.cons rfl (r.append hd);have hl:(Value.ref (s.heap.objs.size+1)::us++ds).length=ps.length:=by
  have e:=r2.length;rw [F.len _ _ _ _ hq] at e;exact e.symm
 refine Va2 (ZmZ (f:=f) I.kIn M.makes M.init (VaR.mp M.fn) (Va3 (F.run _ X.stack _ _ ⟨Value.ref (s.heap.objs.size+1)::us,[]⟩ (Value.ref (s.heap.objs.size+1)::(us++ds)) _ _ E (hr.make C us [])
  (I2.env0.make C us []) (hb _ (Value.ref (s.heap.objs.size+1)::us) I2.kIn hl) r2 hq) λr s' hq'=>?_))
 cases r with
 | error e=>exact hx pins σ _ _ e s' I2 hq'
 | ok fl =>
  cases fl with
  | ret u =>
   obtain ⟨v,H',I3,rv,ev,q3⟩:=I2.after hq';subst ev;exact ⟨rv,⟨V.ref (s.heap.objs.size+1),H',I3,rfl,q3⟩⟩
  | next=>exact False.elim hq'
  | brk=>exact False.elim hq'
  | cont=>exact False.elim hq'
def Zpd(M:Mk X.K C f)(F:FnOk X.prog X.w X.K X.mg X.base CX k f fd ps sp)(hr:Room (k+1) X.A)(hg:Gl X x)(hm:X.mg x=some (.ref C))(hb:Binds X.K fd ps ds)(hd:Vals dvs ds)(hx:ZbX CX X E)
  (ha:PA X (e::es) t) (hdb:(x==("__debug__" : Str))=false:=by decide) (he:starEach (e::es) X.env=(false,eval e X.env)::starEach es X.env:=by rfl) (hpl:(backTo pos (starEach es X.env)).any (·.1)=false:=by rfl) :
  PE X (.Call (.Name x p) (e::es) [] pos) (Zpa C sp dvs E t):=by
 intro pins s σ H Q I h;refine Va4 (ZcS I hg hm ?_ hdb);refine Va5 (h₀:=X.base) I.ok.mod.kin M.kp (thn (ha pos pins s σ H _ I h) λus s1 ⟨vs,H1,I1,r,q⟩=>⟨I1.kIn,?_⟩) he hpl;exact Zmz M F hr hb hd hx I1 r q
end
structure Zaf(N P:List Str)(sc:Scope):Prop where
 kind:sc.kind=.function
 co:sc.isCoroutine=false
 gen:sc.isGenerator=false
 nd:N.Nodup
 pre:N.take P.length=P
 par:∀x∈P,sc.names.lookup x=some .local\/sc.names.lookup x=some .cell
 nofree:∀y∈sc.names,y.2≠.free
def ZhK{kindOf:Str->Option NameKind}{x:Str}:∀{binds:List (Str×Value)} {m:Str->Option Value},(∀v,(x,v)∉binds)->bindL kindOf binds m x=m x
 | [],_,_=>rfl
 | (n,v)::r,m,h=>by
  unfold bindL;rw [ZhK λw hw=>h w (Vao _ hw)];split
  ·have:x≠n:=by rintro rfl;exact h v Van
   simp [this]
  ·rfl
def Zir{kindOf:Str->Option NameKind}{x:Str}:∀{binds:List (Str×Value)} {m:Str->Option Value},(∀v,(x,v)∉binds)->bindC kindOf binds m x=m x
 | [],_,_=>rfl
 | (n,v)::r,m,h=>by
  unfold bindC;rw [Zir λw hw=>h w (Vao _ hw)];split
  ·rfl
  ·have:x≠n:=by rintro rfl;exact h v Van
   simp [this]
def ZhW{kindOf:Str->Option NameKind}{x:Str}{v:Value}:∀{P:List Str} {vs:List Value} {i:Nat} {m:Str->Option Value},P.Nodup->P[i]?=some x->vs[i]?=some v->kindOf x=some .local ->
  bindL kindOf (P.zip vs) m x=some v
 | [],_,_,_,_,h,_,_=>by simp at h
 | _::_,[],_,_,_,_,h,_=>by simp at h
 | p::P,w::vs,0,m,nd,h1,h2,hk=>by
  simp at h1 h2;subst h1;subst h2;show bindL kindOf ((p,w)::P.zip vs) m p=_;unfold bindL;rw [ZhK λv hv=>(Va6.mp nd).1 (List.of_mem_zip hv).1,if_pos hk];simp
 | p::P,w::vs,i+1,m,nd,h1,h2,hk=>by
  show bindL kindOf ((p,w)::P.zip vs) m x=_;unfold bindL;exact ZhW (i:=i) (Va6.mp nd).2 (by simpa using h1) (by simpa using h2) hk
def Zik{kindOf:Str->Option NameKind}{x:Str}{v:Value}:∀{P:List Str} {vs:List Value} {i:Nat} {m:Str->Option Value},P.Nodup->P[i]?=some x->vs[i]?=some v->kindOf x≠some .local ->
  bindC kindOf (P.zip vs) m x=some v
 | [],_,_,_,_,h,_,_=>by simp at h
 | _::_,[],_,_,_,_,h,_=>by simp at h
 | p::P,w::vs,0,m,nd,h1,h2,hk=>by
  simp at h1 h2;subst h1;subst h2;show bindC kindOf ((p,w)::P.zip vs) m p=_;unfold bindC;rw [Zir λv hv=>(Va6.mp nd).1 (List.of_mem_zip hv).1,if_neg hk];simp
 | p::P,w::vs,i+1,m,nd,h1,h2,hk=>by
  show bindC kindOf ((p,w)::P.zip vs) m x=_;unfold bindC;exact Zik (i:=i) (Va6.mp nd).2 (by simpa using h1) (by simpa using h2) hk
def start(N:List Str)(vs:List V):St:=vs.map some++List.replicate (N.length - vs.length) none
def cxOf(CX:CXT)(P:Program)(w:World)(K:W.Frag)(mg:Str->Option Value)(base:Heap)(N:List Str)(qual:Str)(scope:Scope)(f:Addr)(cd:Value)(A:Around)(outer:List Env)(s:Shared)(H:Hp)(E:XK):Cx where
 prog:=P
 w:=w
 K:=K
 mg:=mg
 base:=base
 A:=A.deeper (envOfC qual scope s.heap.objs.size f cd)
 N:=N
 s₀:=s
 H₀:=H
 env:=envOfC qual scope s.heap.objs.size f cd
 outer:=outer
 stack:=envOfC qual scope s.heap.objs.size f cd::outer
 ex:=[]
 calm:=true
 fn:=λ_=>true
 pn:=[]
 xe:=λe s'=>wpAny (model P w) (A.deeper (envOfC qual scope s.heap.objs.size f cd)) (leaving (envOfC qual scope s.heap.objs.size f cd) e) (λ_ s''=>CX outer H s E e s'') (λe' s''=>CX outer H s E e' s'') s'
def Zjt{sc:Scope}{n:Nat}{x:Str}(h:sc.names.lookup x=some .cell):∃c,(cellsFrom n sc.names []).lookup x=some c:=by
 have q:=W.cellsFrom_some sc.names n [] (.inl h);exact Option.isSome_iff_exists.mp q
def ZhR{CX:CXT}{P:Program}{w:World}{K:W.Frag}{mg:Str->Option Value}{base:Heap}{N ps:List Str}{qual:Str}{scope:Scope}{f:Addr}{cd:Value}{A:Around}{outer:List Env}{s s1:Shared}{H:Hp}{E:XK}{us:List Value}{vs:List V}
  (S:Zaf N ps scope) (hd:A.handled=none) (e0:Env0 P w K mg base A outer s H) (hl:vs.length=ps.length) (r:Vals vs us)
  (x:InCallC s s.heap.objs.size (bindL (envOfC qual scope s.heap.objs.size f cd).kindOf (ps.zip us) λ_=>none) (cellsFrom (s.heap.objs.size+1) scope.names []) (bindC (envOfC qual scope s.heap.objs.size f cd).kindOf (ps.zip us) λ_=>none) s1) :
  Inv (cxOf CX P w K mg base N qual scope f cd A outer s H E) [] (start N vs) H s1:=by
 have hpl:ps.length<=N.length:=by have:=Vaz List.length S.pre;rw [Va7] at this;omega
 obtain ⟨h1,tk,rfl,hk⟩:=x.done;have noA:∀b:Addr,b∉(cxOf CX P w K mg base N qual scope f cd A outer s H E).ex:=λb z=>absurd (show b∈([]:List Addr) from z) (by simp)
 refine ⟨⟨e0.mod,S.kind,rfl,rfl,VaL _,λy z c h1 h2=>?_,λy hy=>?_,λy c _ h=>?_,λ_=>hd,Around.frames_deeper e0.frames,.inr ⟨rfl,rfl⟩,λb z=>absurd z (noA b),e0.bs,e0.bsz,λb _ _=>noA b,λb z=>absurd z (noA b),e0.funs,e0.frf⟩,
  rfl,e0.bare,Un.kept hk,⟨_,x.toInCall.ns,λi y v h1 h2 h3=>?_⟩,λy c h=>⟨_,x.cell y c h⟩,e0.hok.fresh (VaL _),λy c h=>?_,λp hp=>absurd (show p∈([]:List (Addr×Obj)) from hp) (by simp),e0.hok.kept hk,?_⟩
 ·exact name_of_addr x.apart (Va8 h1) (Va8 h2)
 ·have hy:scope.names.lookup y=some .cell\/scope.names.lookup y=some .free:=hy;rcases hy with hy | hy
  ·exact Zjt hy
  ·exact absurd rfl (S.nofree _ (Va8 hy))
 ·exact Nat.le_of_lt (x.above y c (Va8 h))
 ·have hi:i<vs.length:=by
   unfold start at h2;by_cases hi:i<vs.length
   ·exact hi
   ·rw [Va9 (by simpa using hi)] at h2;rw [Vba] at h2;split at h2<;>cases h2
  have ha:vs[i]?=some v:=by
   unfold start at h2;rw [Vbb (by simpa using hi),Vbc] at h2;cases e:vs[i]? with
   | none=>rw [e] at h2;cases h2
   | some a=>rw [e] at h2;cases h2;rfl
  obtain ⟨u,hu,rv⟩:=r.get ha;have hp:ps[i]?=some y:=by
   rw [<-S.pre,List.getElem?_take_of_lt (by omega)];exact h1
  have ndP:ps.Nodup:=by rw [<-S.pre];exact S.nd.sublist (List.take_sublist _ _)
  refine ⟨u,rv,?_⟩;rcases S.par y (Vbd hp) with k | k
  ·exact .inl ⟨k,ZhW ndP hp hu k⟩
  ·obtain ⟨c,e⟩:=Zjt (n:=s.heap.objs.size+1) k;refine .inr ⟨.inl k,c,e,?_⟩;have q:=x.cell y c e;rw [Zik ndP hp hu (by show scope.names.lookup y≠_;rw [k];decide)] at q;exact q
 ·exact e0.hok.fresh (Nat.le_of_lt (x.above y c (Va8 h)))
 ·unfold start;show _=N.length;rw [Vbe,VaW,Vbf];omega
def ZmE{CX:CXT}{P:Program}{w:World}{K:W.Frag}{mg:Str->Option Value}{base:Heap}{k:Nat}{f:Addr}{name qual:Str}{params:Arguments}{body:List Stmt}{scope:Scope}{dV kV doc pm cdv ct oc:Value}{an od:Option Addr}
  {osl:Array (Option Value)} {N ps:List Str} {sp:Sp} (lk:K.lookup f=some ⟨oc,od,.func (W.fnOf name qual params body scope dV kV doc pm an cdv ct),osl⟩) (hcd:W.codeIn K cdv qual=true) (S:Zaf N ps scope)
  (len:∀vs H Q E,sp vs H Q E->vs.length=ps.length)
  (hbody:∀(A:Around) (outer:List Env) (s:Shared) (H:Hp) (vs:List V) (Q:VK) (E:XK),Room k (A.deeper (envOfC qual scope s.heap.objs.size f cdv))->sp vs H Q E ->
   ∃t,PSs (cxOf CX P w K mg base N qual scope f cdv A outer s H E) body t/\t { nx:=λ_ H'=>Q .non H',rt:=Q } (start N vs) H) :
  FnOk P w K mg base CX (k+1) f (W.fnOf name qual params body scope dV kV doc pm an cdv ct) ps sp:=by
 refine ⟨len,λA outer s H args us vs Q E hr e0 hb r hsp=>?_⟩;have hl:=len _ _ _ _ hsp;have KX:K.In s.heap:=e0.mod.kin.keeps λb o e=>(e0.bs b o e).1;have lim:s.heap.NoLimit:=e0.mod.nolimit.keeps λb o e=>(e0.bs b o e).1;have hkind:∀y∈ps.zip us,scope.names.lookup y.1=some .local\/(scope.names.lookup y.1=some .cell/\((cellsFrom (s.heap.objs.size+1) scope.names []).lookup y.1).isSome=true):=λ⟨n,v⟩ hy=>by
  rcases S.par n (List.of_mem_zip hy).1 with q | q
  ·exact .inl q
  ·exact .inr ⟨q,W.cellsFrom_some _ _ _ (.inl q)⟩
 refine codeAny_call_function hr.depth (KX _ _ lk) rfl S.co S.gen rfl (W.codeRec_of KX hcd) (hb _ _ _ _ ?_);refine wpAny_newFunctionEnv_cells S.kind hkind λenv he s1 x=>?_;subst he;refine ⟨lim.keeps x.toInCall.keep,codeAny_func ?_⟩;obtain ⟨t,ht,hq⟩:=hbody A outer s H vs Q E (hr.deeper _) hsp;have I:Inv (cxOf CX P w K mg base N qual scope f cdv A outer s H E) [] (start N vs) H s1:=ZhR S hr.hd e0 hl r x;refine Vax (ht [] s1 (start N vs) H _ I hq) (λfl s' hs=>?_) λe s' hs=>hs;have fin:∀{σ':St} {H':Hp} {v:V} {u:Value},Inv (cxOf CX P w K mg base N qual scope f cdv A outer s H E) [] σ' H' s'->RelV v u->Q v H'->CE outer P w H s Q u s' :=
  λ{σ' H' v u} J rv q=>⟨v,H',J.os,J.bare,J.base,J.hok,rv,q⟩
 cases fl with
 | ret u =>
  obtain ⟨v,σ',H',J,rv,q⟩:=hs;exact fin J rv q
 | next =>
  obtain ⟨σ',H',J,q⟩:=hs;exact fin (v:=V.non) (u:=Value.none) J rfl q
 | brk =>
  obtain ⟨_,_,_,q⟩:=hs;exact False.elim q
 | cont =>
  obtain ⟨_,_,_,q⟩:=hs;exact False.elim q
section
variable{X:Cx}{x:Str}{p pos:Pos}{e:Expr}{es:List Expr}{t:TA}{id T:String}{r:List V->Hp->VK->Prop}
def tCB(r:List V->Hp->VK->Prop)(t:TA):TE:=λσ H Q=>t σ H λvs H1=>r vs H1 Q
def ZjE(hc:ZdR X (.builtin id) r)(hg:Gl X x)(hm:X.mg x=none)(hv:bootBuiltins x=some (.builtin id))(ha:PA X (e::es) t)(hn:x ≠ "__name__" := by decide)(hdb:(x==("__debug__" : Str))=false:=by decide)
  (he:starEach (e::es) X.env=(false,eval e X.env)::starEach es X.env:=by rfl) (hpl:(backTo pos (starEach es X.env)).any (·.1)=false:=by rfl):PE X (.Call (.Name x p) (e::es) [] pos) (tCB r t):=by
 intro pins s σ H Q I h;refine Va4 (ZgM I hg hm hv ?_ hn hdb);exact PyProof.Rows.callWith_builtin1 (thn (ha pos pins s σ H _ I h) λus s1 ⟨vs,H1,I1,r1,q1⟩=>hc pins s1 σ H1 vs us Q I1 r1 q1) he hpl
def ZfM(hc:ZdR X (.type T) r)(hg:Gl X x)(hm:X.mg x=none)(hv:bootBuiltins x=some (.type T))(ha:PA X (e::es) t)(hn:x ≠ "__name__" := by decide)(hdb:(x==("__debug__" : Str))=false:=by decide)
  (he:starEach (e::es) X.env=(false,eval e X.env)::starEach es X.env:=by rfl) (hpl:(backTo pos (starEach es X.env)).any (·.1)=false:=by rfl):PE X (.Call (.Name x p) (e::es) [] pos) (tCB r t):=by
 intro pins s σ H Q I h;refine Va4 (ZgM I hg hm hv ?_ hn hdb);exact VaM (thn (ha pos pins s σ H _ I h) λus s1 ⟨vs,H1,I1,r1,q1⟩=>hc pins s1 σ H1 vs us Q I1 r1 q1) he hpl
end
end L2
namespace HT
open PySem PyProof.Rows
section
open PySem.SeqAt
open PySem.AutoSeq1 (wpAny_loadPart')
open PySem.MeetsSeq PySem.MeetsSeq2 PySem.MeetsSeq3
end
section
variable{prog:Program}{w:World}{A:Around}{E:Value->Shared->Prop}{s:Shared}
def Zps{t b:Addr}{vs ws:List Value}{Q:Value->Shared->Prop}(ht:IsTup s.heap t vs.toArray)(hb:IsTup s.heap b ws.toArray)(hv:vs≠[])
  (h1:ws=[]->Q (.ref t) s) (h2:ws≠[]->Q (.ref s.heap.objs.size) { s with heap:=s.heap.push { cls:=.type "tuple", data:=.seq (vs++ws).toArray } })
  (hsz:vs.length+ws.length<=sizeLine):wpAny (model prog w) A (binaryOp .Add (.ref t) (.ref b)) Q E s:=by
 obtain ⟨⟨cls,dd,data,sl⟩,ho,hc,n,hd⟩:=id ht;obtain ⟨⟨cls2,dd2,data2,sl2⟩,ho2,hc2,n2,hd2⟩:=id hb;simp only at hc hd hc2 hd2;subst hc hd hc2 hd2;have e:vs.toArray++ws.toArray=(vs++ws).toArray:=by simp
 by_cases hw:ws=[]
 ·exact concat_meets ⟨_,ho,rfl⟩ ⟨_,ho2,rfl⟩ noFill_tuple_add seq_tuple_add PySem.F.slot_tuple_add PySem.F.entry_tuple_add (PySem.F.args_tuple_add_2 _ _)
   (tuple_addW1 t b vs.toArray ws.toArray n n2 dd dd2 sl sl2 (by simpa using hv) (by simp [hw])) ⟨ho,ho2,h1 hw⟩
 ·refine concat_meets ⟨_,ho,rfl⟩ ⟨_,ho2,rfl⟩ noFill_tuple_add seq_tuple_add PySem.F.slot_tuple_add PySem.F.entry_tuple_add (PySem.F.args_tuple_add_2 _ _)
   (tuple_addW2 t b vs.toArray ws.toArray n n2 dd dd2 sl sl2 (by simpa using hv) (by simpa using hw) (by rw [VaQ,VaQ];exact hsz)) ⟨ho,ho2,?_⟩
  rw [e];exact h2 hw
def sIx(n d:Nat):Option Int->Nat
 | none=>d
 | some v=>if v<0 then (v+(n:Int)).toNat else min v.toNat n
def Zrx(n d:Nat)(hd:d<=n)(o:Option Int):sIx n d o<=n:=by
 cases o with
 | none=>exact hd
 | some v =>
  show (if v<0 then (v+(n:Int)).toNat else min v.toNat n)<=n
  by_cases hv:v<0
  ·rw [if_pos hv];omega
  ·rw [if_neg hv];exact Nat.min_le_right _ _
def Zlj(v:Int)(n d:Nat):(if v<0 then max (v+(n:Int)) 0 else min v (n:Int))=((sIx n d (some v):Nat):Int):=by
 show (if v<0 then max (v+(n:Int)) 0 else min v (n:Int))=(((if v<0 then (v+(n:Int)).toNat else min v.toNat n):Nat):Int)
 by_cases hv:v<0
 ·simp only [if_pos hv];omega
 ·simp only [if_neg hv];omega
def Zkb(lo hi:Option Int)(n:Nat):Builtin.Slice.sliceAdjust lo hi 1 (n:Int)=(((sIx n 0 lo:Nat):Int),((sIx n n hi:Nat):Int)):=by
 have h1:¬((1:Int)<0):=by omega
 unfold Builtin.Slice.sliceAdjust;simp only [h1,Vbg];refine Prod.ext ?_ ?_
 ·cases lo with
  | none=>rfl
  | some v=>exact Zlj v n 0
 ·cases hi with
  | none=>rfl
  | some v=>exact Zlj v n n
def Zkn(i j:Nat):Builtin.Slice.slicePlaces (i:Int) (j:Int) 1=j - i:=by
 unfold Builtin.Slice.slicePlaces;have h1:(1:Int)>0:=by omega
 simp only [h1,Vbh,Int.ediv_one];split<;>omega
def ZgH{v:Value}{o:Option Int}{Q:Option Int->Shared->Prop}(p:IsPart v o)(h:Q o s):wpAny (model prog w) A (Builtin.Slice.slicePartIndex v) Q E s:=by
 cases p with
 | none=>exact slicePart_none h
 | int i t=>exact slicePart_int h
def Zc6{sl:Addr}{vl vu:Value}{lo hi:Option Int}{n:Nat}{Q:Int×Int×Nat->Shared->Prop}(hs:s.heap.IsSliceOf sl vl vu .none)(pl:IsPart vl lo)(pu:IsPart vu hi)
  (h:Q (((sIx n 0 lo:Nat):Int),1,sIx n n hi - sIx n 0 lo) s):wpAny (model prog w) A (Builtin.Slice.sliceApplied (.ref sl) (pure (n:Int))) Q E s:=by
 obtain ⟨os,hos,hcs,hds⟩:=id hs;unfold Builtin.Slice.sliceApplied Builtin.Slice.sliceFields;refine VaC (VaC (Vbi hos hds (x:=vl) rfl (VaC (Vbi hos hds (x:=vu) rfl (VaC (Vbi hos hds (x:=.none) rfl (VaI ?_)))))));refine VaC (slicePart_none ?_);show wpAny _ _ (if ((1:Int)==0)=true then _ else _) _ _ s
 rw [if_neg (by decide)];refine VaC (ZgH pl (VaC (ZgH pu (VaC (VaI ?_)))));show wpAny _ _ (match Builtin.Slice.sliceAdjust lo hi 1 (n:Int) with | (lo,hi)=>pure (lo,(1:Int),Builtin.Slice.slicePlaces lo hi 1)) _ _ s
 rw [Zkb lo hi n];show wpAny _ _ (pure (((sIx n 0 lo:Nat):Int),(1:Int),Builtin.Slice.slicePlaces ((sIx n 0 lo:Nat):Int) ((sIx n n hi:Nat):Int) 1)) _ _ s;rw [Zkn];exact VaI h
def Znj(xs:Array Value)(i k:Nat):((List.range k).filterMap λ(m:Nat)=>xs[((i:Int)+(m:Int)*1).toNat]?).toArray=((xs.toList.drop i).take k).toArray:=by
 have e:(λ(m:Nat)=>xs[((i:Int)+(m:Int)*1).toNat]?)=λm=>xs[i+m]?:=by
  funext m;have:((i:Int)+(m:Int)*1).toNat=i+m:=by omega
  rw [this]
 rw [e];have:=pick_run xs i k;rw [List.filterMap_map] at this;have e2:((λx=>xs[x]?) ∘ λx=>i+x)=λm=>xs[i+m]?:=rfl;rw [e2] at this;rw [this]
def ZeT{t sl:Addr}{items:Array Value}{vl vu:Value}{lo hi:Option Int}{Q:Value->Shared->Prop}(ht:IsTup s.heap t items)(hs:s.heap.IsSliceOf sl vl vu .none)(pl:IsPart vl lo)(pu:IsPart vu hi)
  (hw:¬(sIx items.size 0 lo=0/\sIx items.size items.size hi=items.size))
  (h:Q (.ref s.heap.objs.size) { s with heap:=s.heap.push { cls:=.type "tuple", data:=.seq ((items.toList.drop (sIx items.size 0 lo)).take (sIx items.size items.size hi - sIx items.size 0 lo)).toArray } })
  (hsz:items.size<=sizeLine):wpAny (model prog w) A (getItem (.ref t) (.ref sl)) Q E s:=by
 have htake:sizeOk (.seq ((items.toList.drop (sIx items.size 0 lo)).take (sIx items.size items.size hi - sIx items.size 0 lo)).toArray):=by
  show ((items.toList.drop (sIx items.size 0 lo)).take (sIx items.size items.size hi - sIx items.size 0 lo)).toArray.size<=sizeLine;rw [VaQ,Va7,Vbj,Vay];omega
 have hj:sIx items.size items.size hi<=items.size:=Zrx _ _ (VaL _) hi;obtain ⟨os,hos,hcs,hds⟩:=id hs;have hTs:s.TypeIs (.ref sl) "slice" := ⟨os,hos,hcs⟩;unfold getItem
 try with_reducible refine VaD ?_
 first | refine VaC (VaI ?_) | skip
 refine VaC (wpAny_sequenceKey ht.typeIs (by decide) ?_)
 refine VaC (wpAny_callSpecial?_slot (name:=Str.ofString "__getitem__") ht.typeIs Vbk
  (wpAny_call_entry Vbk ht.typeIs entry_tuple_getitem ?_ (args_tuple_getitem _ _)))
 show wpAny _ _ (Builtin.Tuple.tupleItemsOf (.ref t) >>= _) _ _ s;refine VaC (tupleItemsOf_ ht ?_);refine VaC (Vbl hTs ?_);rw [if_pos (by decide)];refine VaC (Zc6 hs pl pu ?_);have hno:¬((((sIx items.size 0 lo:Nat):Int)==0&&(1:Int)==1&&(sIx items.size items.size hi - sIx items.size 0 lo)==items.size)=true):=by
  intro q;rw [Vbm,Vbm] at q;have q1:((sIx items.size 0 lo:Nat):Int)=0:=eq_of_beq q.1.1;have q2:sIx items.size items.size hi - sIx items.size 0 lo=items.size:=eq_of_beq q.2;exact hw ⟨by omega,by omega⟩
 show wpAny _ _ (if (((sIx items.size 0 lo:Nat):Int)==0&&(1:Int)==1&&(sIx items.size items.size hi - sIx items.size 0 lo)==items.size)=true then _ else _) _ _ s
 rw [if_neg hno,Znj]
 first
  | exact VaC (m:=Builtin.Tuple.tupleExact _) (Vbn (VaI ⟨_,rfl,VaI h⟩) htake)
  | exact VaC (m:=Builtin.Tuple.tupleExact _) (Vbn (VaC (VaI (VaI ⟨_,rfl,VaI h⟩))) htake)
  | exact VaC (VaC (m:=Builtin.Tuple.tupleExact _) (Vbn (VaI (VaI ⟨_,rfl,VaI h⟩)) htake))
  | exact VaC (VaC (m:=Builtin.Tuple.tupleExact _) (Vbn (VaI ⟨_,rfl,VaI h⟩) htake))
end
end HT
namespace L2
open PySem PySem.Spec PyProof.Rows
abbrev TO:=St->Hp->(Option Int->Hp->Prop)->Prop
def PO(X:Cx)(e:Option Expr)(t:TO):Prop :=
 ∀(pins:List (Addr×Obj)) (s:Shared) (σ:St) (H:Hp) (Q:Option Int->Hp->Prop),Inv X pins σ H s->t σ H Q ->
  wpAny (model X.prog X.w) X.A (evalPart e X.env) (λu s'=>∃o H',Inv X pins σ H' s'/\IsPart u o/\Q o H') X.xe s
def ZiO:TO:=λ_ H Q=>Q none H
def ZpG(t:TE):TO:=λσ H Q=>t σ H λx H1=>∃i,x=.int i/\Q (some i) H1
section
variable{X:Cx}{e:Expr}{te:TE}{lo hi:Option Expr}{tl th:TO}{pos p2:Pos}
def Zp5:PO X none ZiO:=by
 intro pins s σ H Q I h;rw [evalPart_none];exact VaI ⟨none,H,I,.none,h⟩
def Zpj(h:PE X e te):PO X (some e) (ZpG te):=by
 intro pins s σ H Q I hw;rw [evalPart_some];refine thn (h pins s σ H _ I hw) λu s1 ⟨x,H1,I1,r1,q1⟩=>?_;obtain ⟨i,rfl,q⟩:=q1;obtain ⟨t,rfl⟩:=r1;exact ⟨some i,H1,I1,.int i t,q⟩
def SlR(X:Cx)(r:V->Option Int->Option Int->Hp->VK->Prop):Prop :=
 ∀(pins:List (Addr×Obj)) (s:Shared) (σ:St) (H:Hp) (x:V) (v vl vu:Value) (lo hi:Option Int) (sl:Addr) (Q:VK),Inv X pins σ H s->RelV x v->s.heap.IsSliceOf sl vl vu .none->IsPart vl lo->IsPart vu hi->r x lo hi H Q ->
  ∃T id,typeLookup (.type T) "__getitem__"=pure (some (.builtin id))/\s.TypeIs v T/\wpAny (model X.prog X.w) X.A (getItem v (.ref sl)) (EP X pins σ Q) X.xe s
def SlR.or{r r':V->Option Int->Option Int->Hp->VK->Prop}(h:SlR X r)(h':SlR X r'):SlR X (λx lo hi H Q=>r x lo hi H Q\/r' x lo hi H Q):=by
 intro pins s σ H x v vl vu lo hi sl Q I rx hs pl pu q;rcases q with q | q
 ·exact h pins s σ H x v vl vu lo hi sl Q I rx hs pl pu q
 ·exact h' pins s σ H x v vl vu lo hi sl Q I rx hs pl pu q
def tSl(r:V->Option Int->Option Int->Hp->VK->Prop)(te:TE)(tl th:TO):TE:=λσ H Q=>te σ H λx H1=>tl σ H1 λl H2=>th σ H2 λu H3=>r x l u H3 Q
def ZjF{r:V->Option Int->Option Int->Hp->VK->Prop}(hr:SlR X r)(he:PE X e te)(hl:PO X lo tl)(hu:PO X hi th):PE X (.Subscript e (.Slice lo hi none p2) pos) (tSl r te tl th):=by
 intro pins s σ H Q I h;refine Subscript_ (thn (he pins s σ H _ I h) λv s1 ⟨x,H1,I1,r1,q1⟩=>?_);refine wpAny_Slice (thn (hl pins s1 σ H1 _ I1 q1) λvl s2 ⟨l,H2,I2,pl,q2⟩=>thn (hu pins s2 σ H2 _ I2 q2) λvu s3 ⟨u,H3,I3,pu,q3⟩=>?_);rw [evalPart_none];refine VaI ?_;have I4:Inv X pins σ H3 { s3 with heap:=s3.heap.push { cls:=.type "slice", data:=.fields #[vl,vu,.none] } }:=I3.kept (t':=s3.toks) λb ob q=>VaJ _ q
 obtain ⟨T,id,hT,ht,hg⟩:=hr pins { s3 with heap:=s3.heap.push { cls:=.type "slice", data:=.fields #[vl,vu,.none] } } σ H3 x v vl vu l u s3.heap.objs.size Q I4 r1 (Heap.IsSliceOf.new ..) pl pu q3;show wpAny (model X.prog X.w) X.A (subscriptTail e (.Slice lo hi none p2) v (.ref s3.heap.objs.size)) (EP X pins σ Q) X.xe { s3 with heap:=s3.heap.push { cls:=.type "slice", data:=.fields #[vl,vu,.none] } }
 exact tail_any (ops:=[.ref s3.heap.objs.size,v]) ht hT hg (by with_unfolding_all rfl)
def cutV(xs:List V)(lo hi:Option Int):List V:=(xs.drop (HT.sIx xs.length 0 lo)).take (HT.sIx xs.length xs.length hi - HT.sIx xs.length 0 lo)
def Zfw(xs:List V)(lo hi:Option Int):(cutV xs lo hi).length<=xs.length:=by
 unfold cutV;rw [Va7,Vbj];omega
def rSlT(K:W.Frag):V->Option Int->Option Int->Hp->VK->Prop:=λx lo hi H Q=>∃a xs,x=.ref a/\SqT K H a xs /\
 ¬(HT.sIx xs.length 0 lo=0/\HT.sIx xs.length xs.length hi=xs.length)/\∀p,H p=none->Q (.ref p) (upd H p (.tup (cutV xs lo hi)))
def Zr1:SlR X (rSlT X.K):=by
 intro pins s σ H x v vl vu lo hi sl Q I rx hs pl pu h;obtain ⟨a,xs,rfl,hx,hw,q⟩:=h;cases rx;obtain ⟨its,r,ht,hz⟩:=I.tuple hx;have hlen:its.toArray.size=xs.length:=by rw [VaQ];exact r.length.symm
 refine ⟨"tuple", _,PyProof.Rows.slot_tuple_getitem.lookup,ht.typeIs,?_⟩;refine HT.ZeT ht hs pl pu (by rw [hlen];exact hw) ?_ (by rw [hlen];exact hz);rw [hlen];refine ⟨.ref s.heap.objs.size,_,I.laid (t':=s.toks) (o:=.tup (cutV xs lo hi)) (λb ob q=>VaJ _ q) (VaL _) ?_,rfl,q _ (I.hok.fresh (VaL _))⟩;exact ⟨Vak (Zfw xs lo hi) hz,_,(r.drop (HT.sIx xs.length 0 lo)).take (HT.sIx xs.length xs.length hi - HT.sIx xs.length 0 lo),IsTup.new _ _⟩
def Zua(K:W.Frag):R2:=λx y H Q=>∃a b xs ys,x=.ref a/\y=.ref b/\SqT K H a xs/\SqT K H b ys/\xs≠[]/\xs.length+ys.length<=sizeLine /\
 (ys=[]->Q (.ref a) H)/\(ys≠[]->∀p,H p=none->Q (.ref p) (upd H p (.tup (xs++ys))))
def Vals.nil_iff{xs:List V}{us:List Value}(r:Vals xs us):us=[]↔xs=[]:=by
 cases r with
 | nil=>simp
 | cons _ _=>simp
def Zph:OpR X (binaryOp .Add) (Zua X.K):=by
 intro pins s σ H x y v u Q I rx ry h;obtain ⟨a,b,xs,ys,rfl,rfl,ha,hb,hx,hz,q1,q2⟩:=h;cases rx;cases ry;obtain ⟨its,r1,p1,_⟩:=I.tuple ha;obtain ⟨its2,r2,p2,_⟩:=I.tuple hb;refine HT.Zps p1 p2 (λz=>hx (r1.nil_iff.mp z)) (λz=>⟨.ref a,H,I,rfl,q1 (r2.nil_iff.mp z)⟩) (λz=>?_) (by rw [<-r1.length,<-r2.length];exact hz);refine ⟨.ref s.heap.objs.size,_,I.laid (t':=s.toks) (o:=.tup (xs++ys)) (λb ob q=>VaJ _ q) (VaL _) ?_,rfl,q2 (λw=>z (r2.nil_iff.mpr w)) _ (I.hok.fresh (VaL _))⟩;exact ⟨by rw [Vbe];exact hz,_,r1.append r2,IsTup.new _ _⟩
end
def ixN(n:Nat)(i:Int):Option Nat:=if 0<=i then (if i<n then some i.toNat else none) else if -(n:Int)<=i then some (i+n).toNat else none
def atI{α:Type}(xs:List α)(i:Int):Option α:=(ixN xs.length i).bind λj=>xs[j]?
def Zmh{n:Nat}{i:Int}{j:Nat}(h:ixN n i=some j):seqIndex? i n=some j/\j<n/\-(n:Int)<=i/\i<n:=by
 unfold ixN at h;by_cases h0:0<=i
 ·rw [if_pos h0] at h;by_cases h1:i<n
  ·rw [if_pos h1] at h;have e:i.toNat=j:=Vaw h;exact ⟨by rw [seqIndex_of h0 h1,e],by omega,by omega,h1⟩
  ·rw [if_neg h1] at h;cases h
 ·rw [if_neg h0] at h;by_cases h1:-(n:Int)<=i
  ·rw [if_pos h1] at h;have e:(i+n).toNat=j:=Vaw h;exact ⟨by rw [seqIndex_neg (by omega) h1,e],by omega,h1,by omega⟩
  ·rw [if_neg h1] at h;cases h
def ZlI{α:Type}{xs:List α}{i:Int}{v:α}(h:atI xs i=some v):∃j,seqIndex? i xs.length=some j/\xs[j]?=some v/\j<xs.length/\-(xs.length:Int)<=i/\i<xs.length:=by
 unfold atI at h;cases e:ixN xs.length i with
 | none=>rw [e] at h;cases h
 | some j =>
  rw [e] at h;obtain ⟨h1,h2,h3,h4⟩:=Zmh e;exact ⟨j,h1,h,h2,h3,h4⟩
def ZlV(b:Expr):Prop:=∀o i,subscripted b false o i=operate [o,i] (getItem o i)
def IxR(X:Cx)(r:R2):Prop :=
 ∀(value slice:Expr) (pins:List (Addr×Obj)) (s:Shared) (σ:St) (H:Hp) (x y:V) (v u:Value) (Q:VK),Inv X pins σ H s->RelV x v->RelV y u->r x y H Q ->
  subscripted slice false v u=operate [v,u] (getItem v u)->wpAny (model X.prog X.w) X.A (subscriptTail value slice v u) (EP X pins σ Q) X.xe s
def MtR(X:Cx)(id:String)(r:V->List V->Hp->VK->Prop):Prop :=
 ∀(pins:List (Addr×Obj)) (s:Shared) (σ:St) (H:Hp) (x:V) (xs:List V) (v:Value) (us:List Value) (Q:VK),Inv X pins σ H s->RelV x v->Vals xs us->r x xs H Q ->
  wpAny (model X.prog X.w) X.A (call (.builtin id) (v::us)) (EP X pins σ Q) X.xe s
section
variable{X:Cx}{a b:Expr}{ta tb:TE}{pos:Pos}
def IxR.or{r r':R2}(h:IxR X r)(h':IxR X r'):IxR X (λx y H Q=>r x y H Q\/r' x y H Q):=by
 intro value slice pins s σ H x y v u Q I rx ry q hs;rcases q with q | q
 ·exact h value slice pins s σ H x y v u Q I rx ry q hs
 ·exact h' value slice pins s σ H x y v u Q I rx ry q hs
def Zss{r:R2}(hr:IxR X r)(ha:PE X a ta)(hb:PE X b tb)(hs:ZlV b):PE X (.Subscript a b pos) (tOp r ta tb):=by
 intro pins s σ H Q I h;exact Subscript_ (binT ha hb I h λv u s2 x y H2 I2 rx ry q=>hr a b pins s2 σ H2 x y v u Q I2 rx ry q (hs _ _))
def rIxL(K:W.Frag):R2:=λx y H Q=>∃p xs i v,x=.ref p/\y=.int i/\SqL K H p xs/\atI xs i=some v/\Q v H
def rIxT(K:W.Frag):R2:=λx y H Q=>∃p xs i v,x=.ref p/\y=.int i/\SqT K H p xs/\atI xs i=some v/\Q v H
def Zk1:IxR X (rIxL X.K):=by
 intro value slice pins s σ H x y v u Q I rx ry h hs;obtain ⟨p,xs,i,z,rfl,rfl,hq,he,q⟩:=h;cases rx;obtain ⟨t,rfl⟩:=ry;obtain ⟨its,r,pl,hz⟩:=I.list hq;obtain ⟨j,h1,h2,h3,h4,h5⟩:=ZlI he;obtain ⟨w,ew,rw'⟩:=r.get h2;have hl:=r.length;have hn:=ZgG;have fin:EP X pins σ Q w s:=⟨z,H,I,rw',q⟩;by_cases h0:0<=i
 ·have hj:i.toNat=j:=by
   rw [seqIndex_of h0 h5] at h1;exact Vaw h1
  exact item_listR pl.isList h0 (by omega) (by rw [hj];simpa using ew) fin hs
 ·have hj:(i+(its.toArray.size:Int)).toNat=j:=by
   rw [seqIndex_neg (by omega) h4] at h1;rw [VaQ,<-hl];exact Vaw h1
  exact subscriptTail_builtinR (x:=w) pl.isList.typeIs slot_list_getitem.lookup
   (wpAny_getItem_list_neg (Q:=λr s'=>r=w/\EP X pins σ Q r s') pl.isList (by omega) (by rw [VaQ]<;>omega) (by omega) (by rw [hj];simpa using ew) ⟨rfl,fin⟩) hs
def Zoo:IxR X (rIxT X.K):=by
 intro value slice pins s σ H x y v u Q I rx ry h hs;obtain ⟨p,xs,i,z,rfl,rfl,hq,he,q⟩:=h;cases rx;obtain ⟨t,rfl⟩:=ry;obtain ⟨its,r,pl,hz⟩:=I.tuple hq;obtain ⟨j,h1,h2,h3,h4,h5⟩:=ZlI he;obtain ⟨w,ew,rw'⟩:=r.get h2;have hl:=r.length;have hn:=ZgG;have fin:EP X pins σ Q w s:=⟨z,H,I,rw',q⟩;exact subscriptTail_builtinR (x:=w) pl.typeIs slot_tuple_getitem.lookup
  (getItem_tuple (j:=j) (Q:=λr s'=>r=w/\EP X pins σ Q r s') pl (by omega) (by omega) (by rw [VaQ,<-hl];exact h1) (by simpa using ew) ⟨rfl,fin⟩) hs
def Zkl(its:List Value)(n j:Nat)(u:Value):Obj.mapSeq (·.setIfInBounds j u) { cls:=.type "list", data:=.seq its.toArray n }={ cls:=.type "list", data:=.seq (its.set j u).toArray n }:=by
 simp [Obj.mapSeq]
def Inv.lst{pins:List (Addr×Obj)}{σ:St}{H:Hp}{s:Shared}{p:Addr}{xs:List V}(I:Inv X pins σ H s)(h:H p=some (.lst xs)) :
  ∃(its:List Value) (n:Nat),Vals xs its/\s.heap.get? p=some { cls:=.type "list", data:=.seq its.toArray n }/\xs.length<=sizeLine:=by
 obtain ⟨z,its,n,r,e⟩:=I.hok p _ h;exact ⟨its,n,r,e,z⟩
def Inv.lstUpd{pins:List (Addr×Obj)}{σ:St}{H:Hp}{s:Shared}{p:Addr}{xs ys:List V}{its its':List Value}{n n':Nat}{f:Obj->Obj}(I:Inv X pins σ H s)(h:H p=some (.lst xs))
  (ho:s.heap.get? p=some { cls:=.type "list", data:=.seq its.toArray n }) (hf:f { cls:=.type "list", data:=.seq its.toArray n }={ cls:=.type "list", data:=.seq its'.toArray n' }) (r:Vals ys its') (hz:ys.length<=sizeLine) (t:Nat) :
  Inv X pins σ (upd H p (.lst ys)) { s with heap:=s.heap.update p f,toks:=t }:=by
 have e:(s.heap.update p f).get? p=some { cls:=.type "list", data:=.seq its'.toArray n' }:=by
  rw [Vbo f ho (by rw [hf]<;>rfl),hf]
 refine I.write (x:=p) (e:=p) (by rw [h];trivial) (.inl rfl) (λb u hb q=>(Vbp _ _ (Ne.symm hb)).trans q) ⟨_,e⟩ ?_;exact ⟨hz,its',n',r,e⟩
def ZiQ:V->V->V->Hp->(Hp->Prop)->Prop:=λo i v H Q=>∃p xs k j,o=.ref p/\i=.int k/\H p=some (.lst xs)/\ixN xs.length k=some j/\Q (upd H p (.lst (xs.set j v)))
def set_list:PSet X ZiQ:=by
 intro pins s σ H o i v ov iv u Q I ro ri rv h;obtain ⟨p,xs,k,j,rfl,rfl,hp,hj,q⟩:=h;cases ro;obtain ⟨t,rfl⟩:=ri;obtain ⟨its,n,r,ho,hz⟩:=I.lst hp;obtain ⟨h1,h2,h3,h4⟩:=Zmh hj;have hl:=r.length;have hn:=ZgG;have I':Inv X pins σ (upd H p (.lst (xs.set j v))) { s with heap:=s.heap.update p (Obj.mapSeq (·.setIfInBounds j u)) } :=
  I.lstUpd hp ho (Zkl its n j u) (r.set rv j) (by rw [Vbq];exact hz) s.toks
 by_cases h0:0<=k
 ·have hk:k.toNat=j:=by
   rw [seqIndex_of h0 h4] at h1;exact Vaw h1
  exact W.ki_setAt ho h0 (by omega) (by rw [VaQ,<-hl];exact h4) (by rw [hk];exact ⟨_,I',q⟩)
 ·have hk:(k+(its.toArray.size:Int)).toNat=j:=by
   rw [seqIndex_neg (by omega) h3] at h1;rw [VaQ,<-hl];exact Vaw h1
  exact W.ki_setBack ho (by omega) (by rw [VaQ,<-hl];exact h3) (by omega) (by rw [hk];exact ⟨_,I',q⟩)
def Ziy(lo hi:Option Int)(n:Nat):(sliceBounds lo hi none n).1=((HT.sIx n 0 lo:Nat):Int)/\(sliceBounds lo hi none n).2.1=((HT.sIx n n hi:Nat):Int)/\(sliceBounds lo hi none n).2.2=1:=by
 refine ⟨?_,?_,rfl⟩
 ·cases lo with
  | none=>simp [sliceBounds,HT.sIx]
  | some i =>
   simp only [sliceBounds,HT.sIx,Option.getD_none,show (1:Int)>0 by decide,Vbh];by_cases h:i<0
   ·simp only [h,Vbh]<;>omega
   ·simp only [h,Vbg]<;>omega
 ·cases hi with
  | none=>simp [sliceBounds,HT.sIx]
  | some i =>
   simp only [sliceBounds,HT.sIx,Option.getD_none,show (1:Int)>0 by decide,Vbh];by_cases h:i<0
   ·simp only [h,Vbh]<;>omega
   ·simp only [h,Vbg]<;>omega
def Zhx(its:List Value)(lo hi:Option Int):slicePick its.toArray lo hi none=((its.drop (HT.sIx its.length 0 lo)).take (HT.sIx its.length its.length hi - HT.sIx its.length 0 lo)).toArray:=by
 obtain ⟨h1,h2,h3⟩:=Ziy lo hi its.toArray.size;unfold slicePick;rw [h1,h2,h3];simp only [sliceRange_one,pick_run,VaQ]<;>rfl
def rSlL(K:W.Frag):V->Option Int->Option Int->Hp->VK->Prop:=λx lo hi H Q=>∃a xs,x=.ref a/\SqL K H a xs/\∀p,H p=none->Q (.ref p) (upd H p (.lst (cutV xs lo hi)))
def Zo0:SlR X (rSlL X.K):=by
 intro pins s σ H x v vl vu lo hi sl Q I rx hs pl pu h;obtain ⟨a,xs,rfl,hx,q⟩:=h;cases rx;obtain ⟨its,r,ht,hz⟩:=I.list hx;have hlen:=r.length;refine ⟨"list", _,slot_list_getitem.lookup,ht.isList.typeIs,?_⟩;refine wpAny_getItem_list_slice ht.isList hs pl pu .none (by simp) ?_ (by rw [VaQ]<;>omega);rw [Zhx,<-hlen];refine ⟨.ref s.heap.objs.size,_,I.laid (t':=s.toks) (o:=.lst (cutV xs lo hi)) (λb ob q=>VaJ _ q) (VaL _) ?_,rfl,q _ (I.hok.fresh (VaL _))⟩;exact ⟨Vak (Zfw xs lo hi) hz,_,0,(r.drop (HT.sIx xs.length 0 lo)).take (HT.sIx xs.length xs.length hi - HT.sIx xs.length 0 lo),VaK _ rfl⟩
def Ziv:ZdR X (.builtin "len") (λxs H Q=>∃p ys,xs=[.ref p]/\(SqL X.K H p ys\/SqT X.K H p ys)/\Q (.int ys.length) H):=by
 intro pins s σ H xs us Q I r h;obtain ⟨p,ys,rfl,hq,q⟩:=h;obtain ⟨u,rfl,rx⟩:=vals1 r;cases rx;have hn:=ZgG;rcases hq with hq | hq
 ·obtain ⟨its,r',pl,hz⟩:=I.list hq;have hlen:=r'.length;exact Calls.call_len_list pl.isList (by simp only [VaQ]<;>omega) ⟨.int ys.length,H,I.tok _,⟨s.toks+1,by rw [VaQ,hlen]⟩,q⟩
 ·obtain ⟨its,r',pl,hz⟩:=I.tuple hq;have hlen:=r'.length;exact len_tuple pl (by simp only [VaQ]<;>omega) ⟨.int ys.length,H,I.tok _,⟨s.toks+1,by rw [VaQ,hlen]⟩,q⟩
def Ze1:ZdR X (.type "list") (λxs H Q=>∃p ys,xs=[.ref p]/\(SqL X.K H p ys\/SqT X.K H p ys)/\∀l,H l=none->Q (.ref l) (upd H l (.lst ys))):=by
 intro pins s σ H xs us Q I r h;obtain ⟨p,ys,rfl,hq,q⟩:=h;obtain ⟨u,rfl,rx⟩:=vals1 r;cases rx;have fin:∀(its:List Value),Vals ys its->ys.length<=sizeLine->∀(h':Heap) (c':Nat),(∀b o',s.heap.get? b=some o'->h'.get? b=some o') ->
   h'.get? s.heap.objs.size=some { cls:=.type "list", dict:=none,data:=.seq its.toArray c',slots:=#[] }->EP X pins σ Q (.ref s.heap.objs.size) { s with heap:=h' }:=λits r' hz h' c' kp e =>
  ⟨.ref s.heap.objs.size,_,I.laid (t':=s.toks) kp (VaL _) (show Zbt X.prog X.w _ h' _ (.lst ys) from ⟨hz,its,c',r',e⟩),rfl,q _ (I.hok.fresh (VaL _))⟩
 rcases hq with hq | hq
 ·obtain ⟨its,r',pl,hz⟩:=I.list hq;have hlen:=r'.length;obtain ⟨o,ho,hc,n,hd⟩:=pl.isList;exact call_list_seq p (.inl rfl) ho hc hd (λh' c' kp e=>fin its r' hz h' c' kp e) (by simp only [VaQ]<;>omega)
 ·obtain ⟨its,r',pl,hz⟩:=I.tuple hq;have hlen:=r'.length;obtain ⟨o,ho,hc,n,hd⟩:=pl;exact call_list_seq p (.inr rfl) ho hc hd (λh' c' kp e=>fin its r' hz h' c' kp e) (by simp only [VaQ]<;>omega)
def Zcx:ZdR X (.type "tuple") (λxs H Q=>∃p ys,xs=[.ref p]/\((SqL X.K H p ys/\∀l,H l=none->Q (.ref l) (upd H l (.tup ys)))\/(SqT X.K H p ys/\Q (.ref p) H))):=by
 intro pins s σ H xs us Q I r h;obtain ⟨p,ys,rfl,h⟩:=h;obtain ⟨u,rfl,rx⟩:=vals1 r;cases rx;rcases h with ⟨hq,q⟩ | ⟨hq,q⟩
 ·obtain ⟨its,r',pl,hz⟩:=I.list hq;have hlen:=r'.length;refine call_tuple_list pl.isList (λh' kp=>?_) (by simp only [VaQ]<;>omega);have I1:Inv X pins σ H { s with heap:=h' }:=I.kept (t':=s.toks) kp
  have I2:Inv X pins σ (upd H h'.objs.size (.tup ys)) { s with heap:=h'.push { cls:=.type "tuple", data:=.seq its.toArray } } :=
   I1.laid (t':=s.toks) (λb o e=>VaJ _ e) (VaL _) (show Zbt X.prog X.w _ _ _ (.tup ys) from ⟨hz,its,r',IsTup.new _ _⟩)
  exact ⟨.ref h'.objs.size,_,I2,rfl,q _ (I1.hok.fresh (VaL _))⟩
 ·obtain ⟨its,r',pl,hz⟩:=I.tuple hq;exact call_tuple_same pl ⟨.ref p,H,I,rfl,q⟩
def tyV(K:W.Frag)(T:String)(x:V)(H:Hp):Prop:=match x with
 | .str _=>T = "str"
 | .int _=>T = "int"
 | .ref p=>(T = "list"/\∃xs,SqL K H p xs)\/(T = "tuple"/\∃o,K.lookup p=some o/\o.cls=.type "tuple"/\o.dict=none) \/
   (T = "dict"/\((∃kvs,H p=some (.dK kvs))\/∃kvs,H p=some (.dT kvs)))\/(T = "set"/\∃S n,H p=some (.set S n))
 | _=>False
def ZsS{pins:List (Addr×Obj)}{σ:St}{H:Hp}{s:Shared}{T:String}{x:V}{v:Value}(I:Inv X pins σ H s)(r:RelV x v)(ty:tyV X.K T x H) :
  s.TypeIs v T/\∀a,v=.ref a->∃ob,s.heap.get? a=some ob/\ob.dict=none:=by
 cases x with
 | str z =>
  obtain ⟨t,rfl⟩:=r;cases (show T = "str" from ty);exact ⟨Vbr s z t,λ_ e=>nomatch e⟩
 | int i =>
  obtain ⟨t,rfl⟩:=r;cases (show T = "int" from ty);exact ⟨typeIs_int s i t,λ_ e=>nomatch e⟩
 | ref p =>
  cases r;rcases ty with ⟨rfl,xs,hq⟩ | ⟨rfl,o,hk,hc,hd⟩ | ⟨rfl,hk⟩ | ⟨rfl,S,n,hk⟩
  ·obtain ⟨its,_,pl,_⟩:=I.list hq;refine ⟨pl.isList.typeIs,λa e=>?_⟩;cases e;obtain ⟨o,n,e,c,hd,_⟩:=pl;exact ⟨o,e,hd⟩
  ·refine ⟨⟨o,I.kIn p o hk,hc⟩,λa e=>?_⟩;cases e;exact ⟨o,I.kIn _ o hk,hd⟩
  ·have z:∃o,s.heap.get? p=some o/\o.ExactDict:=by
    rcases hk with ⟨kvs,hk⟩ | ⟨kvs,hk⟩
    ·obtain ⟨_,_,_,_,o,_,_,e,ex,_⟩:=I.hok p _ hk;exact ⟨o,e,ex⟩
    ·obtain ⟨_,_,_,_,o,_,_,e,ex,_⟩:=I.hok p _ hk;exact ⟨o,e,ex⟩
   obtain ⟨o,e,ex⟩:=z;refine ⟨⟨o,e,ex.1⟩,λa e2=>?_⟩;cases e2;exact ⟨o,e,ex.2.1⟩
  ·obtain ⟨o,_,_,_,e,ex,_⟩:=I.hok p _ hk;refine ⟨⟨o,e,ex.1⟩,λa e2=>?_⟩;cases e2;exact ⟨o,e,ex.2.1⟩
 | _=>exact False.elim ty
def tBM(K:W.Frag)(T:String)(r:V->List V->Hp->VK->Prop)(to:TE)(t:TA):TE:=λσ H Q=>to σ H λx H1=>tyV K T x H1/\t σ H1 λxs H2=>r x xs H2 Q
variable{o e:Expr}{es:List Expr}{to:TE}{t:TA}{name:Str}{apos cpos:Pos}{T id:String}{r:V->List V->Hp->VK->Prop}
def Zj3(pa:PlainAttrs T)(slot:Slot T name id)(hty:typeOf (.builtin id)=pure (.type "method_descriptor"))(hm:MtR X id r)(ho:PE X o to)(ha:PA X (e::es) t)
  (hbase:attributeBase o name X.env (eval o X.env)=eval o X.env:=by rfl)
  (hfew:((backTo cpos (starEach (e::es) X.env)).all (λx=>!x.1)&&(backToKw cpos (keywordEach [] X.env)).all (λx=>x.1.isSome)
   && decide ((e::es).length+([]:List Keyword).length+(if ([]:List Keyword).isEmpty then 0 else 1)<30))=true:=by rfl)
  (hline:(apos.endLine==cpos.line)=true:=by rfl) (hs:starEach (e::es) X.env=(false,eval e X.env)::starEach es X.env:=by rfl) (hplain:(backTo cpos (starEach es X.env)).any (·.1)=false:=by rfl) :
  PE X (.Call (.Attribute o name apos) (e::es) [] cpos) (tBM X.K T r to t):=by
 intro pins s σ H Q I h;refine wpAny_Call_method_late hbase hfew hline rfl (thn (ho pins s σ H _ I h) λv s1 ⟨x,H1,I1,r1,ty,q1⟩=>?_);obtain ⟨h1,h2⟩:=ZsS I1 r1 ty;refine ⟨T,id,pa,slot,hty,h1,h2,?_⟩;have hA:=ha cpos pins s1 σ H1 _ I1 q1;rw [hs] at hA ⊢;refine Calls.callWith_builtin (by show (false||(backTo cpos (starEach es X.env)).any (·.1))=false;rw [hplain]<;>rfl) (Calls.evalArgs_plain ?_);exact thn hA λus s2 ⟨vs,H2,I2,r2,q2⟩=>hm pins s2 σ H2 x vs v us Q I2 r1 r2 q2
end
def MtM(X:Cx)(id:String)(r:V->List V->Hp->VK->Prop):Prop :=
 ∀(pins:List (Addr×Obj)) (s:Shared) (σ:St) (H:Hp) (x:V) (xs:List V) (v:Value) (us:List Value) (Q:VK),Inv X pins σ H s->RelV x v->Vals xs us->r x xs H Q ->
  wpAny (model X.prog X.w) X.A (call (.builtin id) (v::us)) (EP X pins σ Q) X.xe s
def Vals.one:∀{x:V} {us:List Value},Vals [x] us->∃u,us=[u]/\RelV x u
 | _,_,.cons r .nil=>⟨_,rfl,r⟩
section
variable{X:Cx}{pins:List (Addr×Obj)}{σ:St}{H:Hp}{s:Shared}{l b:Addr}{xs ys zs:List V}
def Inv.lset{its its':List Value}{n:Nat}{f:Array Value->Array Value}{t':Nat}(I:Inv X pins σ H s)(hH:H l=some (.lst xs))
  (e:s.heap.get? l=some { cls:=.type "list", data:=.seq its.toArray n }) (hf:f its.toArray=its'.toArray) (hv:Vals ys its') (hz:ys.length<=sizeLine) :
  Inv X pins σ (upd H l (.lst ys)) { s with heap:=s.heap.update l (Obj.mapSeq f),toks:=t' }:=by
 have q:=PySem.IsL.update e f;rw [hf] at q;refine I.write (x:=l) (e:=l) (by rw [hH];exact trivial) (.inl rfl) (λb' u hb hu=>(Vbp s.heap (Obj.mapSeq f) (Ne.symm hb)).trans hu) ⟨_,q⟩ ?_;exact ⟨hz,its',_,hv,q⟩
def Inv.lnew{its:List Value}{t':Nat}(I:Inv X pins σ H s)(hv:Vals ys its)(hz:ys.length<=sizeLine) :
  Inv X pins σ (upd H s.heap.objs.size (.lst ys)) { s with heap:=s.heap.push { cls:=.type "list", data:=.seq its.toArray },toks:=t' } :=
 I.laid (λ_ _ q=>VaJ _ q) (VaL _) ⟨hz,its,0,hv,VaK _ rfl⟩
def Inv.fresh(I:Inv X pins σ H s):H s.heap.objs.size=none:=I.hok.fresh (VaL _)
def Inv.lstM(I:Inv X pins σ H s)(hH:H l=some (.lst xs)):xs.length<=sizeLine/\∃(its:List Value) (n:Nat),Vals xs its/\xs.length=its.length/\s.heap.get? l=some { cls:=.type "list", data:=.seq its.toArray n }:=by
 obtain ⟨z,its,n,r,e⟩:=I.hok l _ hH;exact ⟨z,its,n,r,r.length,e⟩
end
section
variable{X:Cx}
def Zdu:V->List V->Hp->VK->Prop:=λx vs H Q=>∃l xs y,x=.ref l/\vs=[y]/\H l=some (.lst xs)/\xs.length<sizeLine/\Q .non (upd H l (.lst (xs++[y])))
def ZfW:MtM X "list.append" Zdu:=by
 intro pins s σ H x vs v us Q I rx rv h;obtain ⟨l,xs,y,rfl,rfl,hH,hz,q⟩:=h;cases rx;obtain ⟨u,rfl,ru⟩:=rv.one;obtain ⟨z,its,n,r,hl,e⟩:=I.lstM hH;refine Vbs F.slot_list_append ⟨_,e,rfl⟩ F.entry_list_append (F.args_list_append_2 _ _) (PySem.list_append l its.toArray n u (by rw [VaQ];omega)) ⟨e,?_⟩;refine ⟨.non,_,I.lset (its':=its++[u]) hH e (by simp) (r.append (.cons ru .nil)) ?_,rfl,q⟩;rw [Vbe,List.length_singleton];omega
end
section
variable{prog:Program}{w:World}{A:Around}{E:Value->Shared->Prop}{s:Shared}
set_option maxRecDepth 100000 in
end
end L2
namespace Att
open PySem PySem.W PySem.Calls PyProof.Rows
def ZfF{P:Params}{h:Heap}:∀(ns:List Int) (vs:List Value),WellAll P h vs (ns.map WData.int)->IntsAre vs ns:=by
 intro ns
 induction ns with
 | nil =>
  intro vs w;rw [List.map_nil] at w;cases w;exact .nil
 | cons n ns ih =>
  intro vs w;rw [VaV] at w;cases w with
  | cons a b =>
   cases a;exact .cons _ _ (ih _ b)
def Zk5{l:OpenLaw}{n:Nat}(hn:l.most=some n){P:Params}{h:Heap}{args:List WData}{vals:List Value}
  (hpre:l.row.toRowW.claim.pre args=true) (hwl:WellAll P h vals args) :
  ∃a vs ns,vals=[Value.ref a]/\args=[WData.list (ns.map WData.int)]/\h.get? a=some { cls:=.type "list", data:=.seq vs.toArray }/\IntsAre vs ns/\ns.length<=n:=by
 have hsh:WShape.hasAll [] args [.list .int]=true:=(pre_splitW hpre).1;have hc:l.pre.holds [] { args:=args }=true:=(pre_splitW hpre).2;obtain ⟨d,r,rfl,h1,h2⟩:=hasAllW_cons hsh;obtain rfl:=hasAllW_nil h2;obtain ⟨xs,rfl,h3⟩:=hasW_list h1;obtain ⟨ns,rfl⟩:=items_int h3;have hlen:ns.length<=n:=by
  unfold OpenLaw.pre at hc;have h4:(WTm.not (.lt (.lit (.int (n:Int))) (.len (.arg 0)))).holds [] { args:=[.list (ns.map .int)] }=true:=by
   have h4:=(holds_andW hc).1;rw [hn] at h4;exact h4
  have h5:=condW_of h4 (w_not (w_lt w_lit (w_len_list (w_arg rfl))));rw [VaW] at h5;refine Nat.le_of_not_lt λq=>?_;have q':(n:Int)<((ns.length:Nat):Int):=by omega
  first
   | (rw [Vbt q'] at h5;exact absurd h5 (by decide))
   | (simp at h5;omega)
 cases hwl with
 | cons w1 w2 =>
  cases w2;cases w1 with
  | list ho hall=>exact ⟨_,_,ns,rfl,rfl,ho,ZfF ns _ hall,hlen⟩
def Zme(l:OpenLaw)(args:List WData):l.row.toRowW.claim.post args (.bool true) args=true :=
 postW_of (r:=l.row.toRowW) (X:=(true==true))
  (show WShape.has [] (.bool true) .bool=true by first | rfl | decide | simp [WShape.has,WShape.arms,WShape.armsAll])
  (show (WTm.eq .res (.lit (.bool true))).value [] { args:=args,res:=some (.bool true),after:=args }=some (.bool (true==true)) from w_eq_bool (w_res rfl) w_lit) rfl
def ZiN{l:OpenLaw}{n:Nat}{q:Program}{loose:List Str}{XP:(Str->Option Value)->Heap->Prop}{YP:World->Heap->Prop}{d:DefRec}
  (hn:l.most=some n) (hdf:d.params.defaults=[])
  (call:∀(w:World) (s₀ s₁:Shared) (mg mb:Str->Option Value) (fa:Addr) (o:Obj) (pm cd doc:Value) (a:Addr) (vs:List Value) (ns:List Int),
   Ground q loose [] XP w s₀ mg mb s₁.heap->YP w s₁.heap ->
   s₁.heap.get? fa=some o->o.data=.func (docDef d.name d.params d.body d.scope pm cd doc)->s₁.heap.CodeRec cd d.name->mg d.name=some (.ref fa) ->
   s₁.heap.get? a=some { cls:=.type "list", data:=.seq vs.toArray }->IntsAre vs ns->ns.length<=n->s₁.gens=#[] ->
   codeAny (model l.prog w) callerA (.call (.ref fa) ⟨[.ref a],[]⟩) (λr s'=>r=.ok (.ret (.bool true))/\OldK s₁.heap s'.heap/\s'.os=s₁.os/\AllBare s'.gens) s₁) :
  WalkO q loose XP YP l.row.toRowW d [] (λf vs=>PySem.call f vs):=by
 intro w s₀ s₁ mg mb G Y fa o pm cd doc dV kV ho hd hcd hD hmg hg args vals as hpre hlay hrd hwl hlo;obtain rfl:dV=.none:=Dflts.none hD hdf;obtain rfl:kV=.none:=Dflts.noKw hD;obtain ⟨a,vs,ns,rfl,rfl,hobj,hints,hlen⟩:=Zk5 hn hpre hwl;refine enter_call (Va3 (call w s₀ s₁ mg mb fa o pm cd doc a vs ns G Y ho (fd_plain hd) hcd hmg hobj hints hlen hg) λr s' hq=>?_);obtain ⟨rfl,h2,h3,h4⟩:=hq;exact ⟨.inl ⟨.bool true,.bool true,[],rfl,λ_=>rfl,.bool true,Zme l _,λ_=>⟨List.Pairwise.nil,λ_ hm=>(nomatch hm)⟩⟩,h2,h3,h4⟩
end Att
namespace L2
open PySem PySem.Spec PyProof.Rows
def Zig:∀{vs:List Value} {ns:List Int},IntsAre vs ns->Vals (ns.map V.int) vs
 | _,_,.nil=>.nil
 | _,_,.cons n t h=>.cons ⟨t,rfl⟩ (Zig h)
def Only(H:Hp):Prop:=∀b,H b=none\/∃o xs,H b=some (.frz o (.lst xs))
def ZmV{P:Program}{w:World}{K:W.Frag}{mg mb:Str->Option Value}{CX:CXT}{k:Nat}{fa a:Addr}{fd:FuncData}{x:Str}{sp:Sp}{s₁:Shared}{vs:List Value}{ns:List Int}
  (KX:K.In s₁.heap) (hns:s₁.heap.Ns mainGlobals mg) (hb:s₁.heap.Ns builtinsNs mb) (hbb:∀x:Str,x ≠ "__name__"->mb x=bootBuiltins x) (hlim:s₁.heap.NoLimit) (hg:s₁.gens=#[])
  (ha:s₁.heap.get? a=some { cls:=.type "list", data:=.seq vs.toArray }) (hi:IntsAre vs ns) (hl:ns.length<=sizeLine) (hr:Room k callerA)
  (F:∀base:Heap,K.In base->base.Ns mainGlobals mg->FnOk P w K mg base CX k fa fd [x] sp) (hbind:∀(s:Shared) (u:Value),BindsTo s fd ⟨[u],[]⟩ [(x,u)])
  (hsp:∀H:Hp,Only H->SqL K H a (ns.map V.int)->sp [.ref a] H (λv _=>v=.bl true) λ_ _ _=>False)
  (hCX:∀H e s',CX [] H s₁ (λ_ _ _=>False) e s'->False) :
  codeAny (model P w) callerA (.call (.ref fa) ⟨[.ref a],[]⟩) (λr s'=>r=.ok (.ret (.bool true))/\OldK s₁.heap s'.heap/\s'.os=s₁.os/\AllBare s'.gens) s₁:=by
 have rv:=Zig hi;have lenV:=hi.length;have core:∀H:Hp,Only H->SqL K H a (ns.map V.int)->HOk P w H s₁.heap->(∀b,H b≠none->b=a)->(H a≠none->K.lookup a=none) ->
   codeAny (model P w) callerA (.call (.ref fa) ⟨[.ref a],[]⟩) (λr s'=>r=.ok (.ret (.bool true))/\OldK s₁.heap s'.heap/\s'.os=s₁.os/\AllBare s'.gens) s₁:=by
  intro H hO hS hok hA hK;have base_of:∀{b:Addr} {o:Obj},s₁.heap.get? b=some o->H b=none->(hidT s₁.heap H).get? b=some o:=λe n=>ZmB e n;have noA:∀{b:Addr} {o:Obj} {es:Array DictEntry} {ep:Nat},s₁.heap.get? b=some o->o.data=.dict es ep->H b=none:=λ{b o es ep} e d=>by
   cases q:H b with
   | none=>rfl
   | some u =>
    have e':b=a:=hA b (by rw [q];simp);subst e';rw [ha] at e;cases e;have d':Data.seq vs.toArray _=Data.dict es ep:=d;cases d'
  have nsK:∀{b:Addr} {m:Str->Option Value},s₁.heap.Ns b m->(hidT s₁.heap H).Ns b m:=λ{b m} ⟨o,es,ep,e,d,r⟩=>⟨o,es,ep,base_of e (noA e d),d,r⟩
  have hKb:K.In (hidT s₁.heap H):=λb o e=>base_of (KX b o e) (by
   cases q:H b with
   | none=>rfl
   | some u =>
    have e':b=a:=hA b (by rw [q];simp);subst e'
    rw [hK (by rw [q];simp)] at e;cases e)
  have hM:Mod K mg (hidT s₁.heap H):=⟨hKb,nsK hns,⟨mb,nsK hb,hbb⟩,let ⟨mc,h1,h2⟩:=hlim;⟨mc,nsK h1,h2⟩⟩;have e0:Env0 P w K mg (hidT s₁.heap H) callerA [] s₁ H:=⟨rfl,hM,λb o e=>ZoF e,Nat.le_of_eq (Zmf _ _),trivial,λb hb=>absurd (show b∈([]:List Addr) from hb) (by simp),hok,.of_eq hg⟩;refine Va3 ((F _ hKb (nsK hns)).run callerA [] s₁ H ⟨[.ref a],[]⟩ [.ref a] [.ref a] _ _ hr e0 (hbind s₁ (.ref a)) (.cons rfl .nil) (hsp H hO hS)) λr s' h=>?_;cases r with
  | error e=>exact (hCX H e s' h).elim
  | ok fl =>
   cases fl with
   | next=>exact False.elim h
   | brk=>exact False.elim h
   | cont=>exact False.elim h
   | ret u =>
    obtain ⟨v,H',os,bare,un,hok',r',q⟩:=h;have q':v=.bl true:=q;subst q';obtain rfl:u=Value.bool true:=r';refine ⟨rfl,OldK.of_keep λb o e=>?_,os,bare⟩;cases q:H b with
    | none=>exact un.keep b o e q (by intro z;exact absurd (show b∈([]:List Addr) from z) (by simp)) (by simp)
    | some u =>
     rcases hO b with z | ⟨ob,xs,z⟩
     ·rw [q] at z;cases z
     ·have z2:=un.frzs b ob _ z;obtain ⟨e1,_⟩:=hok b _ z;obtain ⟨e2,_⟩:=hok' b _ z2;rw [e] at e1;cases e1;exact e2
 cases hk:K.lookup a with
 | some o =>
  have e:=KX a o hk;rw [ha] at e;cases e;refine core (λ_=>none) (λ_=>.inl rfl) (.inr ⟨_,vs.toArray,_,hk,rfl,rfl,rfl,by rw [VaQ,lenV];exact hl,by simpa using rv⟩) (λb u z=>by have z':(none:Option HO)=some u:=z;cases z') (λb z=>absurd rfl z) λz=>absurd rfl z
 | none =>
  refine core (λb=>if b=a then some (.frz { cls:=.type "list", data:=.seq vs.toArray } (.lst (ns.map V.int))) else none) (λb=>?_) (.inl (.inr ⟨{ cls:=.type "list", data:=.seq vs.toArray },if_pos rfl⟩)) (λb u z=>?_) (λb z=>?_) λ_=>hk
  ·by_cases hb:b=a
   ·exact .inr ⟨_,_,if_pos hb⟩
   ·exact .inl (if_neg hb)
  ·by_cases hb:b=a
   ·have z':=(if_pos hb).symm.trans z;cases z';subst hb;exact ⟨ha,by rw [VaW];exact hl,vs,_,rv,ha⟩
   ·have z':=(if_neg hb).symm.trans z;cases z'
  ·by_cases hb:b=a
   ·exact hb
   ·exact absurd (if_neg hb) z
def ZpB{l:W.OpenLaw}{n k:Nat}{q:Program}{loose:List Str}{XP:(Str->Option Value)->Heap->Prop}{YP:World->Heap->Prop}{d:DefRec}{K:Params->W.Frag}{CX:World->CXT}{sp:World->Sp}{x:Str}
  (hn:l.most=some n) (hn2:n<=sizeLine) (hdf:d.params.defaults=[]) (hr:Room k callerA)
  (hY:∀(w:World) (h:Heap),YP w h->(K w.params).In h)
  (F:∀(w:World) (mg:Str->Option Value) (fa:Addr) (h:Heap),(K w.params).In h->h.Ns mainGlobals mg->mg d.name=some (.ref fa) ->
   ∃fd:FuncData,(∀(s:Shared) (u:Value),BindsTo s fd ⟨[u],[]⟩ [(x,u)]) /\
    ∀base:Heap,(K w.params).In base->base.Ns mainGlobals mg->FnOk l.prog w (K w.params) mg base (CX w) k fa fd [x] (sp w))
  (hsp:∀(w:World) (H:Hp) (a:Addr) (ns:List Int),ns.length<=n->Only H->SqL (K w.params) H a (ns.map V.int)->sp w [.ref a] H (λv _=>v=.bl true) λ_ _ _=>False)
  (hCX:∀(w:World) (H:Hp) (s:Shared) (e:Value) (s':Shared),CX w [] H s (λ_ _ _=>False) e s'->False) :
  W.WalkO q loose XP YP l.row.toRowW d [] (λf vs=>PySem.call f vs):=by
 refine Att.ZiN hn hdf λw s₀ s₁ mg mb fa o pm cd doc a vs ns G Y ho hd hcd hmg hobj hints hlen hg=>?_;have KX:=hY w _ Y;obtain ⟨fd,hb,hF⟩:=F w mg fa _ KX G.T.g hmg;exact ZmV KX G.T.g G.T.b G.T.builtins G.T.nolimit hg hobj hints (Vak hlen hn2) hr hF hb (λH hO hS=>hsp w H a ns hlen hO hS) λH e s'=>hCX w H s₁ e s'
abbrev E0:XK:=λ_ _ _=>False
structure Fun(K:W.Frag)(x qual:Str)(st:Stmt)(f:Addr)(fd:FuncData):Prop where
 ex:∃(oc:Value) (od:Option Addr) (kV doc pm:Value) (an:Option Addr) (cdv ct:Value) (osl:Array (Option Value)),
  fd=W.fnOf x qual (Zeg st) (Zbn st) (Zac st) .none kV doc pm an cdv ct/\K.lookup f=some ⟨oc,od,.func fd,osl⟩/\W.codeIn K cdv qual=true
 kp:W.keepIn K (.ref f)=true
section
variable{P:Program}{w:World}{K:W.Frag}{mg:Str->Option Value}{base:Heap}
def Fun.binds{x qual:Str}{st:Stmt}{f:Addr}{fd:FuncData}{ps:List Str}(F:Fun K x qual st f fd)
  (h:∀(kV doc pm:Value) (an:Option Addr) (cdv ct:Value) (us:List Value),us.length=ps.length->bindArgs (W.fnOf x qual (Zeg st) (Zbn st) (Zac st) .none kV doc pm an cdv ct) ⟨us,[]⟩=pure (ps.zip us)):Binds K fd ps []:=by
 obtain ⟨oc,od,kV,doc,pm,an,cdv,ct,osl,rfl,lk,hcd⟩:=F.ex;exact .all (h kV doc pm an cdv ct)
def Ze4{x qual:Str}{st:Stmt}{f:Addr}{oc:Value}{od an:Option Addr}{osl:Array (Option Value)}{kV doc pm cdv ct:Value}(l:K.lookup f=some ⟨oc,od,.func (W.fnOf x qual (Zeg st) (Zbn st) (Zac st) .none kV doc pm an cdv ct),osl⟩)
  (c:W.codeIn K cdv qual=true) (k:W.keepIn K (.ref f)=true):Fun K x qual st f (W.fnOf x qual (Zeg st) (Zbn st) (Zac st) .none kV doc pm an cdv ct):=⟨⟨oc,od,kV,doc,pm,an,cdv,ct,osl,rfl,l,c⟩,k⟩
end
def Zk6{n:Nat}(h:n<=1000):n<sizeLine:=Vbu h (by decide)
def Same(H H':Hp):Prop:=∀b o,H b=some o->H' b=some o
def Same.refl(H:Hp):Same H H:=λ_ _ h=>h
def Same.trans{H H1 H2:Hp}(a:Same H H1)(b:Same H1 H2):Same H H2:=λc o h=>b c o (a c o h)
def Same.free{H H':Hp}(e:Same H H'){l:Addr}(h:H' l=Option.none):H l=Option.none:=by
 cases q:H l with
 | none=>rfl
 | some o =>
  rw [e l o q] at h;cases h
def Same.seq{K:W.Frag}{H H':Hp}{a:Addr}{xs:List V}(e:Same H H')(h:SqL K H a xs):SqL K H' a xs:=by
 rcases h with (h | ⟨o,h⟩) | h
 ·exact .inl (.inl (e _ _ h))
 ·exact .inl (.inr ⟨o,e _ _ h⟩)
 ·exact .inr h
end L2
set_option maxHeartbeats 4000000
namespace L2
open PySem PySem.Spec PyProof.Rows
section
variable{X:Cx}
def ZoI:OpR X (binaryOp .Mult) (rI IntMulOk λi j=>.int (i*j)):=opI λ_ _ _ _ _ _ _ hc q=>mul_int q hc
def Zp2(_ j:Int):Prop:=j≠0/\j.natAbs.log2<9000
def ZmL:OpR X (binaryOp .FloorDiv) (rI Zp2 λi j=>.int (i.fdiv j)):=opI λ_ _ _ _ _ _ _ hc q=>floordiv_int hc.1 q (.inl (PyProof.noPylong_of_log2 hc.2))
def Zsz{n:String}{x:Str}{pos:Pos}(hg:Gl X x)(hm:X.mg x=none)(hv:bootBuiltins x=some (.type n))(hn:x ≠ "__name__" := by decide)(hd:(x==("__debug__" : Str))=false:=by decide):PE X (.Name x pos) (tC (.ty n)) :=
 Zpt hg hm hv rfl hn hd
end
def ZrX:bootBuiltins "abs"=some (.builtin "abs"):=by decide +kernel
def ZhT:bootBuiltins "all"=some (.builtin "all"):=by decide +kernel
def ZaO:bootBuiltins "isinstance"=some (.builtin "isinstance"):=by decide +kernel
def Zk4:bootBuiltins "len"=some (.builtin "len"):=by decide +kernel
def Zoq:bootBuiltins "int"=some (.type "int"):=by decide +kernel
def Zqq:bootBuiltins "bool"=some (.type "bool"):=by decide +kernel
def Zfg:bootBuiltins "tuple"=some (.type "tuple"):=by decide +kernel
def ZgR:bootBuiltins "list"=some (.type "list"):=by decide +kernel
def Zoi:bootBuiltins "str"=some (.type "str"):=by decide +kernel
def Zg7:bootBuiltins "ValueError"=some (.type "ValueError"):=by decide +kernel
def Zmx(K:W.Frag)(t:Value):W.kitOne K t t=some true:=by
 unfold W.kitOne;rw [if_pos (beq_self_eq_true t)]
def ZqU(K:W.Frag){T U:String}{b:Bool}(hne:(Value.type T==Value.type U)=false)(hm:W.kitMeta U=true)(h:(fastBuiltinMro T).map (·.contains (Value.type U))=some b):W.kitOne K (.type T) (.type U)=some b:=by
 unfold W.kitOne;rw [if_neg (by rw [hne];exact VaG)];show (if W.kitMeta U=true then _ else none)=_
 rw [if_pos hm];exact h
mutual
inductive DV(K:W.Frag)(H:Hp):V->PyData->Prop
 | non:DV K H .non .none
 | bl (b:Bool):DV K H (.bl b) (.bool b)
 | int (i:Int):DV K H (.int i) (.int i)
 | str (x:Str):DV K H (.str x) (.str x)
 | tup {a:Addr} {xs:List V} {ds:List PyData} (h:SqT K H a xs) (r:DVs K H xs ds):DV K H (.ref a) (.tuple ds)
 | lst {a:Addr} {xs:List V} {ds:List PyData} (h:SqL K H a xs) (r:DVs K H xs ds):DV K H (.ref a) (.list ds)
inductive DVs(K:W.Frag)(H:Hp):List V->List PyData->Prop
 | nil:DVs K H [] []
 | cons {x:V} {xs:List V} {d:PyData} {ds:List PyData} (h:DV K H x d) (r:DVs K H xs ds):DVs K H (x::xs) (d::ds)
end
section
variable{X:Cx}{pins:List (Addr×Obj)}{σ:St}{H:Hp}{s:Shared}
mutual
def DV.reads(I:Inv X pins σ H s):∀{x:V} {d:PyData} {u:Value},DV X.K H x d->RelV x u->∃as,Reads s.heap u d as
 | _,_,_,.non,r=>by cases r;exact ⟨_,.none⟩
 | _,_,_,.bl b,r=>by cases r;exact ⟨_,.bool b⟩
 | _,_,_,.int i,r=>by obtain ⟨t,rfl⟩:=r;exact ⟨_,.int i t⟩
 | _,_,_,.str i,r=>by obtain ⟨t,rfl⟩:=r;exact ⟨_,.str i t⟩
 | _,_,_,.tup h q,r=>by
  cases r;obtain ⟨its,rv,⟨o,h1,h2,n,h3⟩,_⟩:=I.tuple h;obtain ⟨as,ra⟩:=DVs.reads I q rv;exact ⟨_,.tuple h1 h2 h3 (by simpa using ra)⟩
 | _,_,_,.lst h q,r=>by
  cases r;obtain ⟨its,rv,pl,_⟩:=I.list h;obtain ⟨o,h1,h2,n,h3⟩:=pl.isList;obtain ⟨as,ra⟩:=DVs.reads I q rv;exact ⟨_,.list h1 h2 h3 (by simpa using ra)⟩
def DVs.reads(I:Inv X pins σ H s):∀{xs:List V} {ds:List PyData} {us:List Value},DVs X.K H xs ds->Vals xs us->∃as,ReadsAll s.heap us ds as
 | _,_,_,.nil,r=>by cases r;exact ⟨_,.nil⟩
 | _,_,_,.cons h q,r=>by
  cases r with
  | cons r1 r2 =>
   obtain ⟨as,ra⟩:=DV.reads I h r1;obtain ⟨bs,rb⟩:=DVs.reads I q r2;exact ⟨_,.cons ra rb⟩
end
end
section
variable{X:Cx}
def rEqD(K:W.Frag)(f:Bool->Bool):R2:=λx y H Q=>∃dx dy,DV K H x dx/\DV K H y dy/\dx.canLay0=true/\dy.canLay0=true/\dx.depth<=60/\Q (.bl (f (PyData.eqv dx dy))) H
def Zow(hu:X.A.units+64<cLine):OpR X (compareOp .Eq) (rEqD X.K id):=by
 intro pins s σ H x y v u Q I rx ry h;obtain ⟨dx,dy,h1,h2,h3,h4,h5,q⟩:=h;obtain ⟨as,ra⟩:=h1.reads I rx;obtain ⟨bs,rb⟩:=h2.reads I ry;exact PySem.SeqAt.compareEq_reads ra rb h3 h4 (by omega) (Zjp I q rfl)
def Zru(hu:X.A.units+64<cLine):OpR X (compareOp .NotEq) (rEqD X.K not):=by
 intro pins s σ H x y v u Q I rx ry h;obtain ⟨dx,dy,h1,h2,h3,h4,h5,q⟩:=h;obtain ⟨as,ra⟩:=h1.reads I rx;obtain ⟨bs,rb⟩:=h2.reads I ry;exact PySem.SeqAt.compareNe_reads ra rb h3 h4 (by omega) (Zjp I q rfl)
end
structure Def(K:W.Frag)(mg:Str->Option Value)(x:Str)(st:Stmt)(ps:List Str):Prop where
 ex:∃(f:Addr) (fd:FuncData),Fun K x x st f fd/\Binds K fd ps []/\mg x=some (.ref f)
def ZaE{H:Hp}{p:Addr}(h:H p=none)(o:HO):Same H (upd H p o):=λb u q=>by rw [Zae (Zah q h)];exact q
end L2
namespace L2
open PySem
end L2
namespace L2
end L2
namespace L2
open PySem PySem.Spec PyProof.Rows
def Zop(ts:List Expr)(env:Env):Sem Bool:=match ts with
 | []=>pure true
 | c::_=>isTrue c env (eval c env)
def ZhJ(elt target iter:Expr)(scope:Scope)(pos:Pos)(it acc:Value)(env:Env) :
  compTurn (.ListComp elt [⟨target,iter,[],0⟩] scope pos) 0 it acc env=(standAt iter.pos >>= λ_=>pyNext it >>= λr=>match r with
   | none=>pure (.done .next)
   | some v=>letOwnedTupleGo target it v >>= λ_=>assign target env v >>= λ_ =>
    (eval elt env >>= λx=>call (.builtin "list.append") [acc,x] >>= λ_=>pure ()) >>= λ_ =>
     again (.compLoop (.ListComp elt [⟨target,iter,[],0⟩] scope pos) 0 it acc env)):=by rfl
def ZiW(elt target iter c:Expr)(scope:Scope)(pos:Pos)(it acc:Value)(env:Env) :
  compTurn (.ListComp elt [⟨target,iter,[c],0⟩] scope pos) 0 it acc env=(standAt iter.pos >>= λ_=>pyNext it >>= λr=>match r with
   | none=>pure (.done .next)
   | some v=>letOwnedTupleGo target it v >>= λ_=>assign target env v >>= λ_ =>
    (forIn [c] true λ(c:Expr) (s:Bool)=>if s=true then (isTrue c env (eval c env) >>= λok=>pure (ForInStep.yield ok)) else pure (ForInStep.yield s)) >>= λs=>if s=true then
     (eval elt env >>= λx=>call (.builtin "list.append") [acc,x] >>= λ_=>pure ()) >>= λ_ =>
      again (.compLoop (.ListComp elt [⟨target,iter,[c],0⟩] scope pos) 0 it acc env)
     else again (.compLoop (.ListComp elt [⟨target,iter,[c],0⟩] scope pos) 0 it acc env)):=by rfl
def ZhO{prog:Program}{w:World}{A:Around}{R:Result->Shared->Prop}{s:Shared}{elt target iter:Expr}{ts:List Expr}{scope:Scope}{pos:Pos}{it acc:Value}{env:Env}(hts:ts.length<=1)(I:Nat->Shared->Prop)
  (turn:∀n s,I n s->wpAny (model prog w) A (pyNext it) (λr s₁=>match r with
   | none=>R (.ok .next) s₁
   | some v=>wpAny (model prog w) A (letOwnedTupleGo target it v) (λ_ s₁'=>wpAny (model prog w) A (assign target env v) (λ_ s₂=>wpAny (model prog w) A (Zop ts env) (λb s₂'=>if b=true then wpAny (model prog w) A (eval elt env) (λx s₃ =>
     wpAny (model prog w) A (call (.builtin "list.append") [acc,x]) (λ_ s₄=>∃m,m<n/\I m s₄) (notedBy (model prog w) A env λe s'=>R (.error e) s') s₃)
     (notedBy (model prog w) A env λe s'=>R (.error e) s') s₂' else ∃m,m<n/\I m s₂') (notedBy (model prog w) A env λe s'=>R (.error e) s') s₂) (notedBy (model prog w) A env λe s'=>R (.error e) s') s₁') (notedBy (model prog w) A env λe s'=>R (.error e) s') s₁) (notedBy (model prog w) A env λe s'=>R (.error e) s') s)
  (n:Nat) (h:I n s) :
  codeAny (model prog w) A (.compLoop (.ListComp elt [⟨target,iter,ts,0⟩] scope pos) 0 it acc env) R s:=by
 refine codeAny_loop rfl I (λn s hI=>?_) n h;show wpAny _ _ ((compTurn (.ListComp elt [⟨target,iter,ts,0⟩] scope pos) 0 it acc env).onRaise (λx=>do noteFrame x env;theTreesLotGoes x)) _ _ s
 refine wpAny_noted ?_
 match ts,hts with
 | [],_ =>
  rw [ZhJ];refine VaC (VaE (VaC (Vax (turn n s hI) (λr s₁ h₁=>?_) λ_ _ h'=>h')));cases r with
  | none=>exact VaI h₁
  | some v =>
   refine VaC (Vax h₁ (λ_ s₁' h₁'=>?_) λ_ _ h'=>h');refine VaC (Vax h₁' (λ_ s₂ h₂=>?_) λ_ _ h'=>h');show wpAny _ _ ((pure true:Sem Bool) >>= λb=>if b=true then ((eval elt env >>= λx=>call (.builtin "list.append") [acc,x] >>= λ_=>pure ()) >>= λ_=>again (.compLoop (.ListComp elt [⟨target,iter,[],0⟩] scope pos) 0 it acc env)) else again (.compLoop (.ListComp elt [⟨target,iter,[],0⟩] scope pos) 0 it acc env)) _ _ s₂
   refine VaC (Vax h₂ (λb s₂' h₂'=>?_) λ_ _ h'=>h');cases b with
   | true =>
    rw [if_pos rfl] at h₂' ⊢;exact VaC (VaC (Vax h₂' (λx s₃ h₃=>VaC (Vax h₃ (λ_ s₄ h₄=>VaI (VaI ⟨rfl,h₄⟩)) λ_ _ h'=>h')) λ_ _ h'=>h'))
   | false =>
    rw [if_neg VaG] at h₂' ⊢;exact VaI ⟨rfl,h₂'⟩
 | [c],_ =>
  rw [ZiW];refine VaC (VaE (VaC (Vax (turn n s hI) (λr s₁ h₁=>?_) λ_ _ h'=>h')));cases r with
  | none=>exact VaI h₁
  | some v =>
   refine VaC (Vax h₁ (λ_ s₁' h₁'=>?_) λ_ _ h'=>h');refine VaC (Vax h₁' (λ_ s₂ h₂=>?_) λ_ _ h'=>h');rw [List.forIn_cons];refine VaC (VaC ?_);rw [if_pos rfl];refine VaC (Vax h₂ (λb s₂' h₂'=>VaI ?_) λ_ _ h'=>h');show wpAny _ _ (forIn [] b _) _ _ _;rw [List.forIn_nil];refine VaI ?_;cases b with
   | true =>
    rw [if_pos rfl] at h₂' ⊢;exact VaC (VaC (Vax h₂' (λx s₃ h₃=>VaC (Vax h₃ (λ_ s₄ h₄=>VaI (VaI ⟨rfl,h₄⟩)) λ_ _ h'=>h')) λ_ _ h'=>h'))
   | false =>
    rw [if_neg VaG] at h₂' ⊢;exact VaI ⟨rfl,h₂'⟩
def Zfj:∀(names:List (Str×NameKind)) (h:Heap) (acc:List (Str×Addr)) (n:Str) (c:Addr),(n,c)∈PySem.cellsFrom h.objs.size names acc->(n,c)∈acc\/((PySem.pushCells h names).IsCell c none/\h.objs.size<=c)
 | [],_,_,_,_,hm=>.inl hm
 | (name,kind)::r,h,acc,n,c,hm=>by
  unfold PySem.cellsFrom at hm;unfold PySem.pushCells;split at hm
  ·rename_i hk;rw [if_pos hk];have hm':(n,c)∈PySem.cellsFrom (h.push { cls:=.type "cell", data:=.cell none }).objs.size r ((name,h.objs.size)::acc):=by rw [VaX];exact hm
   rcases Zfj r (h.push { cls:=.type "cell", data:=.cell none }) ((name,h.objs.size)::acc) n c hm' with z | ⟨z1,z2⟩
   ·rcases Vaq.mp z with e | z
    ·cases e;exact .inr ⟨⟨_,PySem.pushCells_keeps r _ _ _ (VaK _ rfl),rfl⟩,VaL _⟩
    ·exact .inl z
   ·rw [VaX] at z2;exact .inr ⟨z1,by omega⟩
  ·rename_i hk;rw [if_neg hk];exact Zfj r h acc n c hm
def ZfD:∀(names:List (Str×NameKind)) (k:Nat) (acc:List (Str×Addr)),(∀n c,(n,c)∈acc->c<k)->(∀n n' c,(n,c)∈acc->(n',c)∈acc->n=n')->∀n n' c,(n,c)∈PySem.cellsFrom k names acc->(n',c)∈PySem.cellsFrom k names acc->n=n'
 | [],_,_,_,hi,n,n',c,h1,h2=>hi n n' c h1 h2
 | (name,kind)::r,k,acc,hl,hi,n,n',c,h1,h2=>by
  unfold PySem.cellsFrom at h1 h2;split at h1
  ·rename_i hk;rw [if_pos hk] at h2;refine ZfD r (k+1) ((name,k)::acc) (λm d hm=>?_) (λm m' d hm hm'=>?_) n n' c h1 h2
   ·rcases Vaq.mp hm with e | hm
    ·cases e;exact VaY _
    ·exact Nat.lt_succ_of_lt (hl m d hm)
   ·rcases Vaq.mp hm with e | hm<;>rcases Vaq.mp hm' with e' | hm'
    ·cases e;cases e';rfl
    ·cases e;exact absurd (hl _ _ hm') (Vae _)
    ·cases e';exact absurd (hl _ _ hm) (Vae _)
    ·exact hi m m' d hm hm'
  ·rename_i hk;rw [if_neg hk] at h2;exact ZfD r k acc hl hi n n' c h1 h2
def Zfy{x:Str}:∀(names:List (Str×NameKind)) (k:Nat) (acc:List (Str×Addr)),(∀y∈names,y.2=.cell->y.1≠x)->(PySem.cellsFrom k names acc).lookup x=acc.lookup x
 | [],_,_,_=>rfl
 | (name,kind)::r,k,acc,h=>by
  unfold PySem.cellsFrom;split
  ·rename_i hk;rw [Zfy r (k+1) _ λy hy=>h y (Vao _ hy)];have ne:name≠x:=h (name,kind) Van (by simpa using hk);rw [Vbv,beq_false_of_ne (Ne.symm ne)]
  ·exact Zfy r k acc λy hy=>h y (Vao _ hy)
def ZeP{x:Str}:∀(names:List (Str×NameKind)) (k:Nat) (acc:List (Str×Addr)),((acc.lookup x).isSome=true\/(x,NameKind.cell)∈names)->((PySem.cellsFrom k names acc).lookup x).isSome=true
 | [],_,_,h=>by
  rcases h with h | h
  ·exact h
  ·cases h
 | (name,kind)::r,k,acc,h=>by
  unfold PySem.cellsFrom;split
  ·rename_i hk;refine ZeP r (k+1) _ ?_;by_cases e:x=name
   ·subst e;exact .inl (by simp)
   ·rcases h with h | h
    ·exact .inl (by rw [Vbv,beq_false_of_ne e];exact h)
    ·rcases Vaq.mp h with z | h
     ·cases z;exact absurd rfl e
     ·exact .inr h
  ·rename_i hk;refine ZeP r k acc ?_;rcases h with h | h
   ·exact .inl h
   ·rcases Vaq.mp h with z | h
    ·cases z;exact absurd rfl hk
    ·exact .inr h
def Zj2{M:Model}{A:Around}{E:Value->Shared->Prop}{s:Shared}{scope:Scope}{globals:Addr}{closure:List (Str×Addr)}{qual:Str}{func:Option Addr}{code:Value}{outer:Env}{builtins:Addr}{Q:Env->Shared->Prop}
  (hQ:∀h',h'.Ns s.heap.objs.size (λ_=>none)->(∀b o,s.heap.get? b=some o->h'.get? b=some o)->(∀n c,(n,c)∈PySem.cellsFrom (s.heap.objs.size+1) scope.names closure->(n,c)∈closure\/(h'.IsCell c none/\s.heap.objs.size+1<=c)) ->
   Q (newEnv scope s.heap.objs.size globals (PySem.cellsFrom (s.heap.objs.size+1) scope.names closure) qual func code (some outer) builtins) { s with heap:=h' }) :
  wpAny M A (newFunctionEnv scope globals closure [] qual func code (some outer) builtins) Q E s:=by
 simp only [newFunctionEnv,Option.isSome_some,Vbh];refine VaC (wpAny_alloc ?_);refine VaC (wpAny_layCells _ (λname kind cells=>by cases hkc:kind==NameKind.cell<;>simp [hkc]) _ _ _ _ ?_);rw [show ({ s with heap:=s.heap.push { cls:=.type "dict", data:=.dict #[] } }:Shared).heap.objs.size=s.heap.objs.size+1 from VaX ..]
 rw [List.forIn_nil];refine VaC (VaI (VaI ?_));refine hQ _ ((Heap.Ns.new s.heap (.type "dict")).keeps (PySem.pushCells_keeps _ _)) (λb o e=>PySem.pushCells_keeps _ _ b o (VaJ _ e)) λn c hm=>?_;have z:=Zfj scope.names (s.heap.push { cls:=.type "dict", data:=.dict #[] }) closure n c (by rw [VaX];exact hm);rwa [VaX] at z
def PTs(X:Cx)(ts:List Expr)(tt:TT):Prop :=
 ∀(pins:List (Addr×Obj)) (s:Shared) (σ:St) (H:Hp) (Q:Bool->Hp->Prop),Inv X pins σ H s->tt σ H Q->wpAny (model X.prog X.w) X.A (Zop ts X.env) (TP X pins σ Q) X.xe s
def tYes:TT:=λ_ H Q=>Q true H
def Zqe{X:Cx}:PTs X [] tYes:=λ_ _ _ H _ I h=>VaI ⟨H,I,h⟩
def ZaU(X:Cx)(N:List Str)(scope:Scope)(cl:List (Str×Addr))(C:Addr)(s₂:Shared)(H₂:Hp)(fp:List Addr)(pn:List (Addr×Obj)):Cx :=
 { X with N:=N,s₀:=s₂,H₀:=H₂,env:=compEnvC scope (PySem.cellsFrom (C+1) scope.names cl) C X.env,outer:=X.stack,ex:=fp,fn:=λx=>scope.names.lookup x==some .cell,pn:=pn,xe:=λ_ _=>False }
def Zkj(X:Cx)(sc:Scope)(cl:List (Str×Addr)):List (Str×Nat)->Prop
 | []=>True
 | p::r=>(X.N[p.2]?=some p.1/\X.env.scope.names.lookup p.1=some .cell/\(sc.names.lookup p.1=some .cell)/\∃c,cl.lookup p.1=some c/\X.env.cells.lookup p.1=some c)/\Zkj X sc cl r
def Zkj.get{X:Cx}{sc:Scope}{cl:List (Str×Addr)}:∀{cap:List (Str×Nat)} {j:Nat} {p:Str×Nat},Zkj X sc cl cap->cap[j]?=some p ->
  X.N[p.2]?=some p.1/\X.env.scope.names.lookup p.1=some .cell/\(sc.names.lookup p.1=some .cell)/\∃c,cl.lookup p.1=some c/\X.env.cells.lookup p.1=some c
 | [],_,_,_,e=>by simp at e
 | _::_,0,_,h,e=>by simp at e;subst e;exact h.1
 | _::_,j+1,_,h,e=>Zkj.get (j:=j) h.2 (by simpa using e)
def capt(σ:St)(cap:List (Str×Nat)):St:=cap.map λp=>(σ[p.2]?).join
def st0(own:List Str)(σ:St)(cap:List (Str×Nat)):St:=List.replicate own.length none++capt σ cap
def ZcP(J:It)(g:TG)(tt:TT)(te:TE)(own:List Str)(cap:List (Str×Nat))(σ:St)(Q:VK)(H1:Hp):Prop:=∃W:Nat->Nat->List V->Hp->Prop,(∃m,W 0 m [] H1)/\∀i m acc H,W i m acc H->acc.length<=sizeLine /\
 ((J.stop i H/\∀p,H p=none->Q (.ref p) (upd H p (.lst acc))) \/
  (J.go i H/\∀x H',J.yld i H x H'->g x (st0 own σ cap) H' λσ2 H2=>σ2.drop own.length=capt σ cap/\tt σ2 H2 λb H3=>if b=true then te σ2 H3 λv H4=>acc.length<sizeLine/\∃m',m'<m/\W (i+1) m' (acc++[v]) H4 else ∃m',m'<m/\W (i+1) m' acc H3))
abbrev Fam(α:Type):=Addr->Shared->Hp->List Addr->List (Addr×Obj)->α
def ZeB(wi:TI)(g:Fam TG)(tt:Fam TT)(te:Fam TE)(own:List Str)(cap:List (Str×Nat)):TE:=λσ H Q=>wi σ H λJ H1=>∀C s H2 fp pn,ZcP J (g C s H2 fp pn) (tt C s H2 fp pn) (te C s H2 fp pn) own cap σ Q H1
structure Zcv(X:Cx)(own:List Str)(cap:List (Str×Nat))(scope:Scope)(cl:List (Str×Addr)):Prop where
 clos:closureFor scope X.env=pure cl
 kind:scope.kind=.function
 nown:∀x c,(x,c)∈cl->∀y∈scope.names,y.2=.cell->y.1≠x
 locals:∀y∈scope.names,y.2=.local->scope.names.lookup y.1=some .local
 sub:∀x c,(x,c)∈cl->X.env.cells.lookup x=some c
 has:∀k x,((relabel scope X.env).names.lookup x=some .cell\/(relabel scope X.env).names.lookup x=some .free)->∃c,(PySem.cellsFrom k scope.names cl).lookup x=some c
 cap:Zkj X (relabel scope X.env) cl cap
section
variable{X:Cx}{own:List Str}{cap:List (Str×Nat)}{scope:Scope}{cl:List (Str×Addr)}{pins:List (Addr×Obj)}{σ:St}{H:Hp}{s:Shared}{fp:List Addr}{tg:Expr}{J:It}{it:Addr}{tn:Nat->Heap->Prop}
def ZlA{i:Nat}{v:V}(e:(st0 own σ cap)[i]?=some (some v)):∃j p,i=own.length+j/\cap[j]?=some p/\σ[p.2]?=some (some v):=by
 unfold st0 at e;by_cases hi:i<own.length
 ·rw [Vbb (by simpa using hi),Vba,if_pos hi] at e;cases e
 ·rw [Va9 (by simpa using hi),Vbf] at e;unfold capt at e;rw [Vbc] at e;cases q:cap[i - own.length]? with
  | none=>rw [q] at e;cases e
  | some p =>
   rw [q] at e;have e':(σ[p.2]?).join=some v:=Vaw e;refine ⟨i - own.length,p,by omega,q,?_⟩;cases z:σ[p.2]? with
   | none=>rw [z] at e';cases e'
   | some o=>rw [z] at e';have e2:o=some v:=e';rw [e2]
def Inv.comp(I:Inv X pins σ H s)(O:Zcv X own cap scope cl)(T:Turn X.prog X.w X.K tg J fp it tn)(st:tn 0 s.heap)(f:∀b∈fp,FpOk X pins H b){C:Addr}{h':Heap}{t':Nat}{m:Str->Option Value}(hC:s.heap.objs.size<=C)
  (k:∀b o,s.heap.get? b=some o->h'.get? b=some o) (hn:h'.Ns C m) (hx:∀n c,(n,c)∈PySem.cellsFrom (C+1) scope.names cl->(n,c)∈cl\/(h'.IsCell c none/\C+1<=c)) :
  Inv (ZaU X (own++cap.map (·.1)) scope cl C s H fp (X.pn++pins)) [] (st0 own σ cap) H { s with heap:=h',toks:=t' }:=by
 have neC:∀{b:Addr} {o:Obj},s.heap.get? b=some o->b≠C:=λe=>Vaf (Vad (Vac e) hC);have cellC:∀x c,(x,c)∈cl->∃v,s.heap.IsCell c v:=λx c e=>I.cell x c (O.sub x c e);have ltC:∀x c,(x,c)∈cl->c<C+1:=λx c e=>by
  obtain ⟨v,o,ho,_⟩:=cellC x c e;exact Nat.lt_succ_of_le (Nat.le_of_lt (Vad (Vac ho) hC))
 have nefp:∀b∈fp,b≠C:=λb hb=>by
  obtain ⟨o,e,_⟩:=T.obj _ _ st b hb;exact neC e
 refine ⟨⟨I.ok.mod,O.kind,I.ok.glob,I.ok.blt,hC,λx y c e1 e2=>ZfD scope.names (C+1) cl ltC (λn n' c h1 h2=>I.ok.inj n n' c (O.sub n c h1) (O.sub n' c h2)) x y c (Va8 e1) (Va8 e2),O.has (C+1),λx c e1 e2=>?_,I.ok.hd,I.ok.frames,.inl rfl,λb hb=>⟨nefp b hb,λx c e=>?_⟩,I.bs,Vak I.ok.bsz I.sz,λb o e hb=>?_,λb hb z=>?_,I.stack,I.stkFree⟩,
  rfl,I.bare,Un.kept k,⟨m,hn,λi x v e1 e2 e3=>?_⟩,λx c e=>?_,?_,λx c e=>?_,λp hp=>?_,I.hok.kept k,?_⟩
 ·have e1':scope.names.lookup x=some .cell:=by simpa [ZaU] using e1
  rcases hx x c (Va8 e2) with z | ⟨_,z⟩
  ·exact absurd rfl (O.nown x c z (x,.cell) (Va8 e1') rfl)
  ·exact Vak hC (Nat.le_of_succ_le z)
 ·rcases hx x c (Va8 e) with z | ⟨_,z⟩
  ·exact (f b hb).2.2.2.2.1 x c (O.sub x c z)
  ·obtain ⟨o,eo,_⟩:=T.obj _ _ st b hb;exact VaH (Vad (Vad (Vac eo) hC) (Nat.le_of_succ_le z))
 ·rcases (f b hb).2.2.2.1 with z | z
  ·exact I.ok.noex b o e z
  ·exact absurd (Vad (Vac (I.ok.bs b o e).1) z) (Vae _)
 ·rcases Vaq.mp (I.stkSub b z) with q | q
  ·exact (f b hb).2.1 q
  ·exact (f b hb).2.2.1 q
 ·obtain ⟨j,p,rfl,hp,hs⟩:=ZlA e2;obtain ⟨c1,c2,c3,c,c4,c5⟩:=O.cap.get hp;have e1':(own++cap.map (·.1))[own.length+j]?=some x:=e1;rw [Va9 (Nat.le_add_right _ _),Nat.add_sub_cancel_left,Vbc,hp] at e1';have ex:p.1=x:=Vaw e1';subst ex;obtain ⟨m2,_,hl⟩:=I.loc;obtain ⟨u,r,l⟩:=hl p.2 p.1 v c1 hs (.inr (.inl c2));refine ⟨u,r,.inr ⟨.inl c3,c,(Zfy scope.names (C+1) cl λy hy hk=>O.nown p.1 c (Va8 c4) y hy hk).trans c4,?_⟩⟩;rcases l with ⟨z,_⟩ | ⟨_,c',z,⟨o,ho,hd⟩⟩
  ·have z':X.env.scope.names.lookup p.1=some .local:=z;rw [c2] at z';cases z'
  ·rw [c5] at z;cases z;exact ⟨o,k _ _ ho,hd⟩
 ·rcases hx x c (Va8 e) with z | ⟨z,_⟩
  ·obtain ⟨v,o,ho,hd⟩:=cellC x c z;exact ⟨v,o,k _ _ ho,hd⟩
  ·exact ⟨none,z⟩
 ·exact I.hok.fresh hC
 ·rcases hx x c (Va8 e) with z | ⟨_,z⟩
  ·exact I.freeC x c (O.sub x c z)
  ·exact I.hok.fresh (Vak hC (Nat.le_of_succ_le z))
 ·have hp':p∈X.pn++pins:=by simpa [ZaU] using hp
  obtain ⟨e,n,ne,nf,d⟩:=I.pin p hp';exact ⟨k _ _ e,n,neC e,λz=>(Vaq.mp (I.stkSub p.1 z)).elim ne nf,d⟩
 ·show (st0 own σ cap).length=(own++cap.map (·.1)).length;unfold st0 capt;simp
def Cx.Ok.rexe{X:Cx}{xe:Value->Shared->Prop}(o:X.Ok):({ X with xe:=xe }:Cx).Ok:=by
 cases o;constructor<;>assumption
def Inv.rexe{X:Cx}{pins:List (Addr×Obj)}{σ:St}{H:Hp}{s:Shared}{xe:Value->Shared->Prop}(I:Inv X pins σ H s):Inv { X with xe:=xe } pins σ H s:=by
 obtain ⟨ok,i1,i2,i3,i4,i5,i6,i7,i8,i9,i10⟩:=I;exact ⟨ok.rexe,i1,i2,i3,i4,i5,i6,i7,i8,i9,i10⟩
def Zaq(xf:Addr->Shared->Hp->List Addr->Value->Shared->Prop)(X:Cx)(N:List Str)(scope:Scope)(cl:List (Str×Addr))(C:Addr)(s₂:Shared)(H₂:Hp)(fp:List Addr)(pn:List (Addr×Obj)):Cx:={ ZaU X N scope cl C s₂ H₂ fp pn with xe:=xf C s₂ H₂ fp }
def ZfP{xf:Addr->Shared->Hp->List Addr->Value->Shared->Prop}{elt iter:Expr}{ts:List Expr}{pos:Pos}{gF:Fam TG}{ttF:Fam TT}{teF:Fam TE}{E:Value->Shared->Prop}(O:Zcv X own cap scope cl)(hc:X.calm=true)
  (hgF:∀C s H fp pn,PG (Zaq xf X (own++cap.map (·.1)) scope cl C s H fp pn) tg (gF C s H fp pn)) (htF:∀C s H fp pn,PTs (Zaq xf X (own++cap.map (·.1)) scope cl C s H fp pn) ts (ttF C s H fp pn)) (heF:∀C s H fp pn,PE (Zaq xf X (own++cap.map (·.1)) scope cl C s H fp pn) elt (teF C s H fp pn)) (hts:ts.length<=1)
  (I2:Inv X pins σ H s) (T:Turn X.prog X.w X.K tg J fp it tn) (st2:tn 0 s.heap) (f2:∀b∈fp,FpOk X pins H b) {Q:VK}
  (hw:∀C s H2 fp pn,ZcP J (gF C s H2 fp pn) (ttF C s H2 fp pn) (teF C s H2 fp pn) own cap σ Q H)
  {R:Value->Addr->Result->Shared->Prop}
  (fin:∀(D C:Addr) (H':Hp) (s':Shared) (m:Str->Option Value),s.heap.objs.size<=C->s'.heap.Ns C m->H' C=none ->
   (∀h',Heap.SameBut C s'.heap h'->Inv X pins σ H' { s' with heap:=h' })->Q (.ref D) H'->R (.ref D) C (.ok .next) s')
  (hexc:∀(D C:Addr) (cells:List (Str×Addr)) (e:Value) (s':Shared),s.heap.objs.size<=C->xf C s H fp e s'->notedBy (model X.prog X.w) X.A (compEnvC scope cells C X.env) (λe s'=>R (.ref D) C (.error e) s') e s') :
  wpAny (model X.prog X.w) X.A (newList []) (λacc s₃=>wpAny (model X.prog X.w) X.A (newFunctionEnv scope X.env.globals cl [] X.env.qual none .none (some X.env)) (λcenv s₄ =>
   codeAny (model X.prog X.w) X.A (.compStart (.ListComp elt [⟨tg,iter,ts,0⟩] scope pos) 0 (.ref it) acc { cenv with scope:=relabel scope X.env }) (R acc cenv.locals) s₄) E s₃) E s:=by
 refine Vbn (Zj2 (λh₁ hns₁ hk₁ hx₁=>?_));dsimp only at hns₁ hk₁ hx₁ ⊢;generalize hHh:s.heap.push { cls:=.type "list", dict:=none,data:=.seq ([]:List Value).toArray }=Hh at hns₁ hk₁ hx₁ ⊢;have hCs:Hh.objs.size=s.heap.objs.size+1:=by rw [<-hHh,VaX]
 generalize hCC:Hh.objs.size=C at hns₁ hx₁ hCs ⊢;generalize hDD:s.heap.objs.size=D at hCs ⊢;have ltDC:D<C:=by omega
 have hDC:D≠C:=Vaf ltDC;have hsD:s.heap.objs.size<=D:=Nat.le_of_eq hDD;have hsC:s.heap.objs.size<=C:=by omega
 have ltS:∀{b:Addr} {o:Obj},s.heap.get? b=some o->b<D:=λe=>by rw [<-hDD];exact Vac e
 have old:∀b o,s.heap.get? b=some o->h₁.get? b=some o:=λb o e=>by
  refine hk₁ b o ?_;rw [<-hHh];exact VaJ _ e
 have hD0:h₁.PlainList D #[]:=by
  have z:Hh.get? D=some { cls:=.type "list", dict:=none,data:=.seq ([]:List Value).toArray }:=by
   rw [<-hHh,<-hDD];exact VaK _ rfl
  exact ⟨_,hk₁ D _ z⟩
 obtain ⟨W,⟨m0,w0⟩,turn⟩:=hw C s H fp (X.pn++pins);have hg:=hgF C s H fp (X.pn++pins);have ht:=htF C s H fp (X.pn++pins);have he:=heF C s H fp (X.pn++pins);have I':Inv (Zaq xf X (own++cap.map (·.1)) scope cl C s H fp (X.pn++pins)) [] (st0 own σ cap) H { s with heap:=h₁,toks:=s.toks }:=(I2.comp (t':=s.toks) O T st2 f2 hsC old hns₁ hx₁).rexe
 have cne:∀x c,(PySem.cellsFrom (C+1) scope.names cl).lookup x=some c->(∃v,s.heap.IsCell c v/\X.env.cells.lookup x=some c)\/C<c:=λx c e=>by
  rcases hx₁ x c (Va8 e) with z | ⟨_,z⟩
  ·obtain ⟨v,hv⟩:=I2.cell x c (O.sub x c z);exact .inl ⟨v,hv,O.sub x c z⟩
  ·exact .inr z
 have st':tn 0 h₁:=T.keep _ _ _ st2 λb hb o e=>old b o e;have nofr:∀{a:Addr},s.heap.objs.size<=a->a∉frs X.stack:=λ{a} ha z=>by
  rcases Vaq.mp (I2.stkSub a z) with q | q
  ·exact absurd (Vad I2.lt ha) (by rw [q];exact Vae _)
  ·exact I2.nofs ha q
 have ltfp:∀b∈fp,b<D:=λb hb=>by
  obtain ⟨o,e,_⟩:=T.obj _ _ st2 b hb;exact ltS e
 have fpk:∀{H3:Hp} {objD:Obj},(∀b∈fp,H3 b=none)->∀b∈fp,FpOk (Zaq xf X (own++cap.map (·.1)) scope cl C s H fp (X.pn++pins)) [(D,objD)] H3 b:=λ{H3 objD} hn b hb=>by
  obtain ⟨_,f1,f3,f4,f5,f6⟩:=f2 b hb;have lb:=ltfp b hb;refine ⟨hn b hb,(Vaf (Vbw lb ltDC)),λz=>?_,.inl hb,λx c e=>?_,λp hp=>?_⟩
  ·rcases Vaq.mp (I2.stkSub b z) with q | q
   ·exact f1 q
   ·exact f3 q
  ·rcases cne x c e with ⟨_,_,z⟩ | z
   ·exact f5 x c z
   ·exact VaH (Vbw lb (Vbw ltDC z))
  ·rcases Var.mp hp with z | z
   ·exact f6 p z
   ·have z':p=(D,objD):=by simpa using z
    subst z';exact VaH lb
 have loop:∀s₃:Shared,s₃={ s with heap:=h₁ } ->
   codeAny (model X.prog X.w) X.A (.compLoop (.ListComp elt [⟨tg,iter,ts,0⟩] scope pos) 0 (.ref it) (.ref D) (compEnvC scope (PySem.cellsFrom (C+1) scope.names cl) C X.env)) (R (.ref D) C) s₃:=by
  rintro s₃ rfl
  refine ZhO hts (λn s'=>∃(i:Nat) (acc:List V) (its:List Value) (H':Hp),Inv (Zaq xf X (own++cap.map (·.1)) scope cl C s H fp (X.pn++pins)) [] (st0 own σ cap) H' s'/\tn i s'.heap/\(∀b∈fp,H' b=none)/\H' D=none /\
   s'.heap.PlainList D its.toArray/\Vals acc its/\W i n acc H') ?_ m0 ⟨0,[],[],H,I',st',λb hb=>(f2 b hb).1,I2.hok.fresh hsD,hD0,.nil,w0⟩
  rintro n s3 ⟨i,acc,its,H3,I3,st3,fr3,nD,⟨nn,hD⟩,rv,w3⟩;obtain ⟨hlen,hturn⟩:=turn i n acc H3 w3;have lenV:=rv.length;have pinD:∀{s5:Shared} {H5:Hp},s5.heap.get? D=some { cls:=.type "list", data:=.seq its.toArray nn }->H5 D=none->∀p∈[(D,({ cls:=.type "list", data:=.seq its.toArray nn }:Obj))],s5.heap.get? p.1=some p.2/\H5 p.1=none/\p.1≠C/\p.1∉frs X.stack/\∀v,p.2.data≠.cell v:=by
   intro s5 H5 e1 e2 p hp;have z':p=(D,({ cls:=.type "list", data:=.seq its.toArray nn }:Obj)):=by simpa using hp
   subst z';exact ⟨e1,e2,hDC,nofr hsD,λv z=>by cases z⟩
  have I3p:Inv (Zaq xf X (own++cap.map (·.1)) scope cl C s H fp (X.pn++pins)) [(D,{ cls:=.type "list", data:=.seq its.toArray nn })] (st0 own σ cap) H3 s3:=I3.pins_of (pinD hD nD);rcases hturn with ⟨stop,qn⟩ | ⟨go,step⟩
  ·refine Vax (T.done (Zaq xf X (own++cap.map (·.1)) scope cl C s H fp (X.pn++pins)) rfl rfl rfl hc i _ s3 _ H3 (λ_ _=>False) I3p (fpk fr3) st3 stop) (λr s4 h4=>?_) (λ_ _ z=>z.elim);obtain ⟨hr,I4⟩:=h4;subst hr;obtain ⟨m4,hm4,_⟩:=I4.loc;have hD4:=(I4.pin (D,{ cls:=.type "list", data:=.seq its.toArray nn }) (VaO _ (by simp))).1;have nC:H3 C=none:=I4.free;refine fin D C (upd H3 D (.lst acc)) s4 m4 hsC hm4 (by rw [Zae (Ne.symm hDC)];exact nC) (λh' sb=>?_) (qn D nD);have kc:∀b o,b≠C->s4.heap.get? b=some o->h'.get? b=some o:=λb o hb e=>sb.extBut b o hb e;have neD:∀{b:Addr} {o:Obj},s.heap.get? b=some o->b≠D:=λe=>Vaf (ltS e);have neC:∀{b:Addr} {o:Obj},s.heap.get? b=some o->b≠C:=λe=>Vaf (Vbw (ltS e) ltDC);refine I2.call' (s':={ s4 with heap:=h' }) (ch:=fp) I4.os ⟨?_,?_,?_,?_,?_,?_,?_⟩ (λa o e=>?_) I4.bare (λb hb=>?_)
   ·exact λb o e n hb hx=>kc b o (neC e) (I4.base.keep b o e n hb hx)
   ·intro b o e n hb hx;obtain ⟨sl,q⟩:=I4.base.slot b o e n hb hx;exact ⟨sl,kc b _ (neC e) q⟩
   ·intro b o e n hx;rw [Zae (neD e)];exact I4.base.free b o e n hx
   ·intro b o e hx;obtain ⟨o',q⟩:=I4.base.there b o e hx;exact ⟨o',kc b _ (neC e) q⟩
   ·intro b xs e;have q:=I4.base.tups b xs e;rw [Zae (Zah q nD)];exact q
   ·intro b o u e;have q:=I4.base.frzs b o u e;rw [Zae (Zah q nD)];exact q
   ·intro b ps e;obtain ⟨more,q⟩:=I4.base.tbls b ps e;exact ⟨more,by rw [Zae (Zah q nD)];exact q⟩
   ·by_cases ha:a=D
    ·subst ha;rw [Zag] at e;cases e;exact ⟨hlen,its,nn,rv,kc _ _ hDC hD4⟩
    ·rw [Zae ha] at e;refine (I4.hok a o e).stay (λb u hb q=>kc b u ?_ q) (λb q=>?_) (λb xs q=>?_)
     ·rcases hb with rfl | hb
      ·exact Zah e nC
      ·exact Zah hb nC
     ·rw [Zae (Zah q nD)];exact q
     ·rw [Zae (Zah q nD)];exact q
   ·obtain ⟨_,f1,_,f4,f5,f6⟩:=f2 b hb;exact ⟨f4,f1,f5,f6⟩
  ·refine Vax (T.item (Zaq xf X (own++cap.map (·.1)) scope cl C s H fp (X.pn++pins)) rfl rfl rfl hc i _ s3 _ H3 (λ_ _=>False) I3p (fpk fr3) st3 go) (λr s4 h4=>?_) (λ_ _ z=>z.elim);obtain ⟨u,hr,h4⟩:=h4;subst hr;refine Vax h4 (λ_ s5 h5=>?_) (λ_ _ z=>z.elim);obtain ⟨x,H5,I5,r5,y5,st5,fr5⟩:=h5;have I5':=I5.pinned (fpk fr5) (T.obj _ _ st5);refine Vax (hg _ s5 _ H5 x u _ I5' r5 (step x H5 y5)) (λ_ s6 h6=>?_) (λe s' z=>hexc D C _ e s' hsC z);obtain ⟨σ6,H6,I6,e6,q6⟩:=h6;refine Vax (ht _ s6 σ6 H6 _ I6 q6) (λbb s6' h6'=>?_) (λe s' z=>hexc D C _ e s' hsC z);obtain ⟨H6',I6',q6'⟩:=h6';have stay:∀{H7:Hp} {s7:Shared},Inv (Zaq xf X (own++cap.map (·.1)) scope cl C s H fp (X.pn++pins)) [] σ6 H7 s7->Inv (Zaq xf X (own++cap.map (·.1)) scope cl C s H fp (X.pn++pins)) [] (st0 own σ cap) H7 s7:=λ{H7 s7} I8=>by
    refine I8.weak (I'.len.trans I8.len.symm) (λj v e=>?_);obtain ⟨l,p,rfl,hp,hs⟩:=ZlA e;have q:(σ6.drop own.length)[l]?=some (some v):=by
     rw [e6];unfold capt;rw [Vbc,hp];show some ((σ[p.2]?).join)=_;rw [hs];rfl
    rwa [Vbx] at q
   cases bb with
   | false =>
    rw [if_neg VaG] at q6' ⊢;obtain ⟨m',hm,w7⟩:=q6';obtain ⟨hD7,nD7,_⟩:=I6'.pin (D,{ cls:=.type "list", data:=.seq its.toArray nn }) (VaO _ (by simp));have st7:tn (i+1) s6'.heap:=T.keep _ _ _ st5 λb hb o e=>(I6'.pin (b,o) (VaO _ (VaO _ (ZbK hb e)))).1;have fr7:∀b∈fp,H6' b=none:=λb hb=>by
     obtain ⟨o,e,_⟩:=T.obj _ _ st5 b hb;exact (I6'.pin (b,o) (VaO _ (VaO _ (ZbK hb e)))).2.1
    exact ⟨m',hm,i+1,acc,its,H6',stay (I6'.pins_of λp hp=>nomatch hp),st7,fr7,nD7,⟨nn,hD7⟩,rv,w7⟩
   | true =>
   rw [if_pos rfl] at q6' ⊢;refine Vax (he _ s6' σ6 H6' _ I6' q6') (λy s7 h7=>?_) (λe s' z=>hexc D C _ e s' hsC z);obtain ⟨v,H7,I7,r7,hl7,m',hm,w7⟩:=h7;obtain ⟨hD7,nD7,_⟩:=I7.pin (D,{ cls:=.type "list", data:=.seq its.toArray nn }) (VaO _ (by simp));have st7:tn (i+1) s7.heap:=T.keep _ _ _ st5 λb hb o e=>(I7.pin (b,o) (VaO _ (VaO _ (ZbK hb e)))).1;have fr7:∀b∈fp,H7 b=none:=λb hb=>by
    obtain ⟨o,e,_⟩:=T.obj _ _ st5 b hb;exact (I7.pin (b,o) (VaO _ (VaO _ (ZbK hb e)))).2.1
   refine wpAny_list_append_plain (l:=D) (items:=its.toArray) ⟨nn,hD7⟩ (λh8 hp8 hs8=>?_) (by rw [VaQ];omega);have I7w:Inv (Zaq xf X (own++cap.map (·.1)) scope cl C s H fp (X.pn++pins)) [] σ6 H7 s7:=I7.pins_of λp hp=>nomatch hp;have I8:Inv (Zaq xf X (own++cap.map (·.1)) scope cl C s H fp (X.pn++pins)) [] σ6 H7 { s7 with heap:=h8 }:=by
    refine I7w.turned (t':=s7.toks) (it:=D) (λb o hb e=>hs8.extBut b o hb e) nD7 hDC (.inr hsD) (λx c e=>?_) (λp hp=>?_)
    ·rcases cne x c e with ⟨v,⟨o,ho,_⟩,_⟩ | z
     ·exact Vaf (ltS ho)
     ·exact VaH (Vbw ltDC z)
    ·have hp':p∈X.pn++pins:=by simpa [Zaq,ZaU] using hp
     exact Vaf (ltS (I2.pin p hp').1)
   have I9:=stay I8;refine ⟨m',hm,i+1,acc++[v],its++[y],H7,I9,T.keep _ _ _ st7 (λb hb o e=>hs8.extBut b o (Vaf (ltfp b hb)) e),fr7,nD7,?_,rv.append (.cons r7 .nil),w7⟩;simpa using hp8
 exact codeAny_compStart_list (loop _ rfl) (T.self X.A 0 _ _ _ st' (loop _ rfl))
def Zmw{elt iter:Expr}{ts:List Expr}{pos:Pos}{gF:Fam TG}{ttF:Fam TT}{teF:Fam TE}{E:Value->Shared->Prop}(O:Zcv X own cap scope cl)(hc:X.calm=true)
  (hgF:∀C s H fp pn,PG (ZaU X (own++cap.map (·.1)) scope cl C s H fp pn) tg (gF C s H fp pn)) (htF:∀C s H fp pn,PTs (ZaU X (own++cap.map (·.1)) scope cl C s H fp pn) ts (ttF C s H fp pn)) (heF:∀C s H fp pn,PE (ZaU X (own++cap.map (·.1)) scope cl C s H fp pn) elt (teF C s H fp pn)) (hts:ts.length<=1)
  (I2:Inv X pins σ H s) (T:Turn X.prog X.w X.K tg J fp it tn) (st2:tn 0 s.heap) (f2:∀b∈fp,FpOk X pins H b) {Q:VK}
  (hw:∀C s H2 fp pn,ZcP J (gF C s H2 fp pn) (ttF C s H2 fp pn) (teF C s H2 fp pn) own cap σ Q H)
  {R:Value->Addr->Result->Shared->Prop}
  (fin:∀(D C:Addr) (H':Hp) (s':Shared) (m:Str->Option Value),s.heap.objs.size<=C->s'.heap.Ns C m->H' C=none ->
   (∀h',Heap.SameBut C s'.heap h'->Inv X pins σ H' { s' with heap:=h' })->Q (.ref D) H'->R (.ref D) C (.ok .next) s') :
  wpAny (model X.prog X.w) X.A (newList []) (λacc s₃=>wpAny (model X.prog X.w) X.A (newFunctionEnv scope X.env.globals cl [] X.env.qual none .none (some X.env)) (λcenv s₄ =>
   codeAny (model X.prog X.w) X.A (.compStart (.ListComp elt [⟨tg,iter,ts,0⟩] scope pos) 0 (.ref it) acc { cenv with scope:=relabel scope X.env }) (R acc cenv.locals) s₄) E s₃) E s :=
 ZfP (xf:=λ_ _ _ _ _ _=>False) O hc hgF htF heF hts I2 T st2 f2 hw fin λ_ _ _ _ _ _ z=>z.elim
def ZlF{elt iter:Expr}{pos:Pos}{wi:TI}{ts:List Expr}{g:Fam TG}{tt:Fam TT}{te:Fam TE}(hi:PI X tg iter wi)(O:Zcv X own cap scope cl)(hc:X.calm=true)
  (hg:∀C s H fp pn,PG (ZaU X (own++cap.map (·.1)) scope cl C s H fp pn) tg (g C s H fp pn)) (ht:∀C s H fp pn,PTs (ZaU X (own++cap.map (·.1)) scope cl C s H fp pn) ts (tt C s H fp pn)) (he:∀C s H fp pn,PE (ZaU X (own++cap.map (·.1)) scope cl C s H fp pn) elt (te C s H fp pn)) (hts:ts.length<=1)
  (hs:∀x,foldedSetIterable iter X.env x=pure x:=by intro _;rfl):PE X (.ListComp elt [⟨tg,iter,ts,0⟩] scope pos) (ZeB wi g tt te own cap):=by
 intro pins s σ H Q I h;rw [eval_ListComp];refine wpAny_comprehension_free (use:=none) rfl hs O.clos O.kind O.locals (thn (hi pins s σ H _ I h) λxv s₁ h₁=>thn h₁ λitv s₂ h₂=>?_);obtain ⟨it,fp,tn,J,H2,rfl,I2,T,st2,f2,hw⟩:=h₂;refine Zmw (R:=λacc C=>compPost (model X.prog X.w) X.A X.xe none (EP X pins σ Q) acc C) O hc hg ht he hts I2 T st2 f2 hw ?_;intro D C H' s' m hC hn hH IV q;exact ⟨m,hn,λh' sb=>⟨.ref D,H',IV h' sb,rfl,q⟩⟩
end
def Zfb(scope out:Scope):List (Str×NameKind):=scope.names.map λ(n,k)=>if (k==.free&&out.kind==.function&&out.names.lookup n==some .cell) then (n,.cell) else (n,k)
def ZkV(scope out:Scope)(cn:List Str):Bool :=
 scope.names.all (λy=>y.2 != .cell||!cn.contains y.1)&&scope.names.all (λy=>y.2 != .local||scope.names.lookup y.1==some .local)&&(Zfb scope out).all (λy=>!(y.2==.cell||y.2==.free)||cn.contains y.1||scope.names.contains (y.1,.cell))&&cn.all (λn=>out.names.lookup n==some .cell&&(Zfb scope out).lookup n==some .cell)
def ZlQ(X:Cx):List (Str×Addr)->Prop
 | []=>True
 | p::r=>X.env.cells.lookup p.1=some p.2/\ZlQ X r
def ZlQ.mem{X:Cx}:∀{cl:List (Str×Addr)} {p:Str×Addr},ZlQ X cl->p∈cl->X.env.cells.lookup p.1=some p.2
 | _::_,_,h,.head _=>h.1
 | _::_,_,h,.tail _ m=>ZlQ.mem h.2 m
def CapN(X:Cx):List (Str×Nat)->Prop
 | []=>True
 | p::r=>X.N[p.2]?=some p.1/\CapN X r
def ZfJ{α:Type}{x:Str}:∀{l:List (Str×α)},x∈l.map (·.1)->∃c,l.lookup x=some c
 | [],h=>by simp at h
 | (y,c)::r,h=>by
  by_cases e:x=y
  ·subst e;exact ⟨c,by simp⟩
  ·have h':x∈r.map (·.1):=by
    rcases Vby.mp h with ⟨p,hp,rfl⟩;rcases Vaq.mp hp with rfl | hp
    ·exact absurd rfl e
    ·exact Vby.mpr ⟨p,hp,rfl⟩
   obtain ⟨d,hd⟩:=ZfJ (l:=r) h';exact ⟨d,by rw [Vbv,beq_false_of_ne e];exact hd⟩
def Zcv.of{X:Cx}{own:List Str}{cap:List (Str×Nat)}{scope:Scope}{cl:List (Str×Addr)}(clos:closureFor scope X.env=pure cl)(kind:scope.kind=.function)(chk:ZkV scope X.env.scope (cap.map (·.1))=true)
  (names:cl.map (·.1)=cap.map (·.1)) (sub:ZlQ X cl) (capn:CapN X cap):Zcv X own cap scope cl:=by
 unfold ZkV at chk;simp only [Vbm,Vbz] at chk;obtain ⟨⟨⟨h1,h2⟩,h3⟩,h4⟩:=chk;have sub':∀x c,cl.lookup x=some c->X.env.cells.lookup x=some c:=λx c e=>sub.mem (Va8 e);have capk:∀(l:List (Str×Nat)),(∀p∈l,p.1∈cap.map (·.1))->CapN X l->Zkj X (relabel scope X.env) cl l:=by
  intro l
  induction l with
  | nil=>exact λ_ _=>trivial
  | cons p r ih =>
   intro hm hn;have hp:=hm p Van;have hq:=h4 p.1 hp;have e1:X.env.scope.names.lookup p.1=some .cell:=by simpa using hq.1
   have e2:(Zfb scope X.env.scope).lookup p.1=some .cell:=by simpa using hq.2
   obtain ⟨c,hc⟩:=ZfJ (l:=cl) (x:=p.1) (by rw [names];exact hp);exact ⟨⟨hn.1,e1,e2,c,hc,sub' _ _ hc⟩,ih (λq hq=>hm q (Vao _ hq)) hn.2⟩
 refine ⟨clos,kind,λx c hm y hy hk=>?_,λy hy e=>?_,λx c hm=>sub.mem hm,λk x hx=>?_,capk cap (λp hp=>Vby.mpr ⟨p,hp,rfl⟩) capn⟩
 ·have:=h1 y hy;rw [hk] at this;rintro rfl;have hc:y.1∈cap.map (·.1):=by rw [<-names];exact Vby.mpr ⟨_,hm,rfl⟩
  simp at this;simp at hc;obtain ⟨a,ha⟩:=hc;exact this a ha
 ·have:=h2 y hy;rw [e] at this;simpa using this
 ·have fin:∀k',(Zfb scope X.env.scope).lookup x=some k'->(k'=.cell\/k'=.free)->∃c,(PySem.cellsFrom k scope.names cl).lookup x=some c:=by
   intro k' e hk;have:=h3 _ (Va8 e);refine Option.isSome_iff_exists.mp (ZeP scope.names k cl ?_);have this':x∈cap.map (·.1)\/(x,NameKind.cell)∈scope.names:=by
    rcases hk with rfl | rfl
    ·simpa using this
    ·simpa using this
   rcases this' with z | z
   ·obtain ⟨c,hc⟩:=ZfJ (l:=cl) (x:=x) (by rw [names];exact z);exact .inl (by rw [hc];rfl)
   ·exact .inr z
  rcases hx with e | e
  ·exact fin _ e (.inl rfl)
  ·exact fin _ e (.inr rfl)
end L2
namespace L2
open PySem PySem.Spec PyProof.Rows PySem.Calls
structure Sk(o o':Obj):Prop where
 d:o'.dict=o.dict
 f:∀vs,o.data=.fields vs->∃vs':Array Value,o'.data=.fields vs'/\vs'[2]?=vs[2]?
def Sk.refl(o:Obj):Sk o o:=⟨rfl,λvs e=>⟨vs,e,rfl⟩⟩
def Sk.trans{a b c:Obj}(x:Sk a b)(y:Sk b c):Sk a c:=⟨y.d.trans x.d,λvs e=>by
 obtain ⟨v1,e1,q1⟩:=x.f vs e;obtain ⟨v2,e2,q2⟩:=y.f v1 e1
 exact ⟨v2,e2,q2.trans q1⟩⟩
def KD(h h':Heap):Prop:=∀(b:Nat) (o:Obj),h.objs[b]?=some o->∃o':Obj,h'.objs[b]?=some o'/\Sk o o'
def KD.refl(h:Heap):KD h h:=λ_ o e=>⟨o,e,.refl o⟩
def KD.trans{a b c:Heap}(x:KD a b)(y:KD b c):KD a c:=λk o e=>by
 obtain ⟨o1,e1,d1⟩:=x k o e;obtain ⟨o2,e2,d2⟩:=y k o1 e1;exact ⟨o2,e2,d1.trans d2⟩
def KD.push(h:Heap)(o:Obj):KD h (h.push o):=λb u e=>by
 obtain ⟨objs,l⟩:=h;refine ⟨u,?_,.refl u⟩;show (objs.push o)[b]?=some u;have e:objs[b]?=some u:=e;have hb:=(VbA.mp e).1;rw [Array.getElem?_push,if_neg (by omega)];exact e
def KD.update(h:Heap)(a:Addr){f:Obj->Obj}(hf:∀o,Sk o (f o)):KD h (h.update a f):=λb u e=>by
 obtain ⟨objs,l⟩:=h;have e:objs[b]?=some u:=e;show ∃o',(objs.modify a f)[b]?=some o'/\_;rw [Array.getElem?_modify];by_cases q:a=b
 ·rw [if_pos q,e];exact ⟨f u,rfl,hf u⟩
 ·rw [if_neg q];exact ⟨u,e,.refl u⟩
def Zjx{h:Heap}{a:Addr}{o:Obj}(e:h.get? a=some o):h.objs[a]?=some o:=by
 unfold Heap.get? at e;split at e
 ·cases e
 ·exact e
def KD.at{h h':Heap}(x:KD h h'){a:Addr}{o o':Obj}(e:h.get? a=some o)(e':h'.get? a=some o'):Sk o o':=by
 obtain ⟨o1,e1,d1⟩:=x a o (Zjx e);rw [Zjx e'] at e1;cases e1;exact d1
def Dk{α:Type}:Sem α->Prop
 | .pure _=>True
 | .raise _=>True
 | .unsupported _=>True
 | .finish _=>True
 | .rule _ k=>Dk (k ())
 | .at _ k=>Dk (k ())
 | .load _ _ k=>∀o,Dk (k o)
 | .update _ _ f k=>(∀o,Sk o (f o))/\Dk (k ())
 | .loadIfAlive _ k=>∀o,Dk (k o)
 | .point _ k=>Dk (k ())
 | .alloc _ k=>∀a,Dk (k a)
 | .fresh k=>∀t,Dk (k t)
 | .ask k=>∀x,Dk (k x)
 | .choose _ _ k=>∀n,Dk (k n)
 | .handled _ k=>∀x,Dk (k x)
 | .stack k=>∀l,Dk (k l)
 | .thread k=>∀n,Dk (k n)
 | .register _ _=>True
 | _=>False
def Ztl{α:Type}{M:Model}{Γ:PySem.Ctx}:∀(t:Sem α) {Q:α->Pos->Shared->Prop} {E:Value->Pos->Shared->Prop} {p:Pos} {s:Shared},Dk t->Sem.wp M Γ t Q E p s ->
  Sem.wp M Γ t (λa p' s'=>Q a p' s'/\KD s.heap s'.heap) (λe p' s'=>E e p' s'/\KD s.heap s'.heap) p s:=by
 intro t
 induction t with
 | pure a=>intro Q E p s _ h;exact ⟨h,.refl _⟩
 | raise e=>intro Q E p s _ h;exact ⟨h,.refl _⟩
 | unsupported w=>intro Q E p s _ h;exact h
 | finish e=>intro Q E p s _ h;exact h
 | rule t k ih=>intro Q E p s d h;exact ih () d h
 | «at» q k ih=>intro Q E p s d h;exact ih () d h
 | load a q k ih=>intro Q E p s d h;obtain ⟨o,e,h⟩:=h;exact ⟨o,e,ih o (d o) h⟩
 | update a q f k ih =>
  intro Q E p s d h;refine ⟨h.1,?_⟩;have z:=ih () d.2 h.2;exact Sem.wp_mono _ _ _ (λ_ _ _ x=>⟨x.1,(KD.update _ _ d.1).trans x.2⟩) (λ_ _ _ x=>⟨x.1,(KD.update _ _ d.1).trans x.2⟩) _ _ z
 | alloc o k ih =>
  intro Q E p s d h;exact Sem.wp_mono _ _ _ (λ_ _ _ x=>⟨x.1,(KD.push _ _).trans x.2⟩) (λ_ _ _ x=>⟨x.1,(KD.push _ _).trans x.2⟩) _ _ (ih _ (d _) h)
 | loadIfAlive a k ih=>intro Q E p s d h;exact ih _ (d _) h
 | point l k ih=>intro Q E p s d h;exact ih () d h
 | register a k ih=>intro Q E p s d h;exact h
 | fresh k ih=>intro Q E p s d h;exact ih _ (d _) h
 | ask k ih=>intro Q E p s d h;exact ih _ (d _) h
 | choose src n k ih=>intro Q E p s d h;exact ⟨h.1,ih _ (d _) h.2⟩
 | handled o k ih=>intro Q E p s d h;exact ih _ (d _) h
 | stack k ih=>intro Q E p s d h;exact ih _ (d _) h
 | thread k ih=>intro Q E p s d h;exact ih _ (d _) h
 | _=>intro Q E p s d h;exact d.elim
def Zez{α:Type}{M:Model}{A:Around}{t:Sem α}{Q:α->Shared->Prop}{E:Value->Shared->Prop}{s:Shared}(d:Dk t)(h:wpAny M A t Q E s):wpAny M A t (λa s'=>Q a s'/\KD s.heap s'.heap) (λe s'=>E e s'/\KD s.heap s'.heap) s :=
 λΓ p hg=>Ztl t d (h Γ p hg)
def Dk.bind{α β:Type}:∀{t:Sem α} {k:α->Sem β},Dk t->(∀a,Dk (k a))->Dk (t >>= k):=by
 intro t;show ∀{k:α->Sem β},Dk t->(∀a,Dk (k a))->Dk (Sem.bind t k)
 induction t with
 | pure a=>intro k _ h;exact h a
 | raise e=>intro k _ h;trivial
 | unsupported w=>intro k _ h;trivial
 | finish e=>intro k _ h;trivial
 | rule t k ih=>intro k d h;exact ih () d h
 | «at» q k ih=>intro k d h;exact ih () d h
 | load a q k ih=>intro k d h o;exact ih o (d o) h
 | update a q f k ih=>intro k d h;exact ⟨d.1,ih () d.2 h⟩
 | alloc o k ih=>intro k d h a;exact ih a (d a) h
 | loadIfAlive a k ih=>intro k d h o;exact ih o (d o) h
 | point l k ih=>intro k d h;exact ih () d h
 | register a k ih=>intro k d h;trivial
 | fresh k ih=>intro k d h o;exact ih o (d o) h
 | ask k ih=>intro k d h o;exact ih o (d o) h
 | choose src n k ih=>intro k d h o;exact ih o (d o) h
 | handled o k ih=>intro k d h o;exact ih o (d o) h
 | stack k ih=>intro k d h o;exact ih o (d o) h
 | thread k ih=>intro k d h o;exact ih o (d o) h
 | _=>intro k d h;exact d.elim
def ZiL(a:Addr):Dk (load a):=λ_=>trivial
def Zg9:Dk stack:=λ_=>trivial
def Zid(a:Addr){f:Obj->Obj}(hf:∀o,Sk o (f o)):Dk (update a f):=⟨hf,trivial⟩
def ZmW(o:Obj):Dk (alloc o):=λ_=>trivial
def ZiH(v:Value):Dk (fieldsOf v):=by
 unfold fieldsOf;split
 ·refine Dk.bind (ZiL _) λo=>?_;split
  ·trivial
  ·trivial
 ·trivial
def Zfh(v:Value)(i:Nat):Dk (field v i):=by
 unfold field;refine Dk.bind (ZiH v) λo=>?_;split
 ·trivial
 ·trivial
def Zhb{i:Nat}(hi:i≠2)(v:Value)(o:Obj):Sk o (Obj.mapFields (·.setIfInBounds i v) o):=by
 obtain ⟨c,d,dt,sl⟩:=o;refine ⟨by cases dt<;>rfl,λvs e=>?_⟩;have e:dt=.fields vs:=e;subst e;exact ⟨vs.setIfInBounds i v,rfl,by rw [Array.getElem?_setIfInBounds_ne hi]⟩
def Zpk(a:Addr){i:Nat}(hi:i≠2)(v:Value):Dk (updateField a i v):=by
 unfold updateField;refine Dk.bind (ZiL _) λo=>?_;split
 ·split
  ·exact Zid _ (Zhb hi _)
  ·trivial
 ·trivial
def Zec(e:Value){i:Nat}(hi:i≠2)(v:Value):Dk (setField e i v):=by
 unfold setField;split
 ·exact Zpk _ hi _
 ·trivial
def ZdE(e:Value)(f:Option Addr):Dk (setFlight e f):=by
 unfold setFlight;refine Dk.bind (Zfh _ _) λo=>?_;split
 ·exact Zec _ (by decide) _
 ·trivial
def Zju:∀l:List Env,Dk (readyFrames l)
 | []=>trivial
 | env::outer=>by
  unfold readyFrames;split
  ·refine Dk.bind (ZiL _) λo=>?_;split
   ·trivial
   ·refine Dk.bind ?_ λb=>Dk.bind ?_ λk=>Dk.bind (Zid _ λo=>⟨rfl,λvs e=>⟨vs,e,rfl⟩⟩) λ_=>Zju outer
    ·unfold behindIsImport;split
     ·trivial
     ·split
      ·trivial
      ·exact Dk.bind (Zfh _ _) λ_=>trivial
    ·unfold keptBack;split
     ·split
      ·trivial
      ·unfold underTheClaimsCaller;exact Dk.bind (Dk.bind Zg9 λ_=>trivial) λ_=>trivial
     ·trivial
  ·trivial
def Zj8(env:Env):Dk (PySem.frameOf env):=by
 unfold PySem.frameOf frameEnvs;refine Dk.bind (Dk.bind Zg9 λ_=>trivial) λl=>Dk.bind ?_ λo=>?_
 ·unfold frameObject;split
  ·trivial
  ·exact Dk.bind (Zju _) λ_=>trivial
 ·split
  ·trivial
  ·trivial
def Zmn(a b c d e:Value)(l:List Value):Dk (EntryCells.newEntry a b c d e l):=by
 unfold EntryCells.newEntry newFields;generalize ([a,b,c,d,e]++_)=vs;unfold newObj newObjAsIs;have fin:Dk (alloc { cls:=Value.type "traceback", data:=Data.fields vs.toArray } >>= λa=>(pure (Value.ref a):Sem Value)):=Dk.bind (ZmW _) λ_=>trivial;by_cases h:vs.toArray.size>sizeLine+2
 ·show Dk (if vs.toArray.size>sizeLine+2 then _ else _)
  rw [if_pos h];trivial
 ·show Dk (if vs.toArray.size>sizeLine+2 then _ else _)
  rw [if_neg h];exact fin
def Zg2(e:Value)(env:Env):Dk (noteFrame e env):=by
 unfold noteFrame;split
 ·refine Dk.bind (Zfh _ _) λo=>?_;have fin:Dk (do setField e 1 (<-EntryCells.newEntry o (<-PySem.frameOf env) .none (rawInt ‹Addr›) .none (<-entryPlaceOf ‹Addr› (o != .none)))):=by
   refine Dk.bind (Zj8 _) λ_=>Dk.bind ?_ λ_=>Dk.bind (Zmn _ _ _ _ _ _) λ_=>Zec _ (by decide) _;unfold entryPlaceOf;refine Dk.bind Zg9 λ_=>?_;split
   ·trivial
   ·trivial
  split
  ·refine Dk.bind (Zfh _ _) λ_=>?_;split
   ·trivial
   ·exact Dk.bind (Zec _ (by decide) _) λ_=>fin
  ·exact fin
 ·trivial
def ZdJ(env:Env)(e:Value):Dk (leaving env e):=Dk.bind (Zg2 _ _) λ_=>ZdE _ _
end L2
namespace L2
open PySem PySem.Spec PyProof.Rows
def Zbt.there{P:Program}{w:World}{H:Hp}{h:Heap}{a:Addr}{o:HO}(x:Zbt P w H h a o):∃ob,h.get? a=some ob:=by
 cases o with
 | lst xs=>obtain ⟨_,_,_,_,e⟩:=x;exact ⟨_,e⟩
 | tup xs=>obtain ⟨_,_,_,o,e,_⟩:=x;exact ⟨_,e⟩
 | dK kvs=>obtain ⟨_,_,_,_,o,_,_,e,_⟩:=x;exact ⟨_,e⟩
 | dT kvs=>obtain ⟨_,_,_,_,o,_,_,e,_⟩:=x;exact ⟨_,e⟩
 | set S n=>obtain ⟨o,_,_,_,e,_⟩:=x;exact ⟨_,e⟩
 | ins C dx fs=>obtain ⟨_,_,_,e,_⟩:=x;exact ⟨_,e⟩
 | own y=>obtain ⟨_,e⟩:=x;exact ⟨_,e⟩
 | xd fs=>obtain ⟨_,⟨_,_,_,e,_⟩,_⟩:=x;exact ⟨_,e⟩
 | rng lo hi=>obtain ⟨_,_,_,e⟩:=x;exact ⟨_,e⟩
 | frz ob u=>obtain ⟨e,_⟩:=x;exact ⟨_,e⟩
 | tbl ps=>exact ⟨_,(show h.get? a=some _ from x)⟩
 | met f y=>exact ⟨_,(show h.get? a=some _ from x)⟩
 | ext φ=>obtain ⟨_,⟨_,e⟩,_⟩:=x;exact ⟨_,e⟩
def HOk.free{P:Program}{w:World}{H:Hp}{h:Heap}(x:HOk P w H h){a:Addr}(e:h.get? a=none):H a=none:=by
 cases q:H a with
 | none=>rfl
 | some o =>
  obtain ⟨ob,z⟩:=(x a o q).there;rw [e] at z;cases z
structure Fly(P:Program)(w:World)(l:List Env)(H H':Hp)(s s':Shared)(x:Addr)(cls:Value):Prop where
 os:s'.os=s.os
 bare:AllBare s'.gens
 un:Un (frs l) [] H H' s.heap s'.heap
 hok:HOk P w H' s'.heap
 frf:∀b∈frs l,H' b=none
 free:H' x=none
 ex:∃(B:Heap) (a0:Value),Heap.FlyingW B l x cls a0 s'.heap/\∀b o,s'.heap.get? b=some o->(H' b≠none\/∃o',s.heap.get? b=some o')->b∉frs l->B.get? b=some o
def ZiE{P:Program}{w:World}{l l':List Env}{H H':Hp}{s s':Shared}{x:Addr}{cls a0:Value}{B h':Heap}(os:s'.os=s.os)(bare:AllBare s'.gens)(un:Un (frs l) [] H H' s.heap s'.heap)(hok:HOk P w H' s'.heap)
  (frf:∀b∈frs l,H' b=none) (nf:∀b∈frs l,∃o,s'.heap.get? b=some o/\∀vs,o.data≠.fields vs)
  (cov:∀b o,s'.heap.get? b=some o->(H' b≠none\/∃o',s.heap.get? b=some o')->b∉frs l->B.get? b=some o)
  (sub:∀b∈frs l',b∈frs l) (new:∀b∈frs l,b∉frs l'->s.heap.get? b=none) (fl:Heap.FlyingW B l' x cls a0 h') (sm:s'.heap.UpToSlots h') (free:H' x=none) :
  Fly P w l' H H' s { s' with heap:=h' } x cls:=by
 have stay:∀b o,s'.heap.get? b=some o->(H' b≠none\/∃o',s.heap.get? b=some o')->b∉frs l->h'.get? b=some o:=λb o e q hb=>fl.1 b o (cov b o e q hb);have out:∀{b:Addr} {o:Obj},s.heap.get? b=some o->b∉frs l'->b∉frs l:=λ{b o} e hb z=>by
  rw [new b z hb] at e;cases e
 refine ⟨os,bare,⟨λb o e n hb hx=>?_,λb o e n hb hx=>?_,un.free,λb o e hx=>?_,un.tups,un.frzs,un.tbls⟩,λa o e=>?_,λb hb=>frf b (sub b hb),free,B,a0,fl,λb o e q hb=>?_⟩
 ·exact stay b o (un.keep b o e n (out e hb) hx) (.inr ⟨o,e⟩) (out e hb)
 ·obtain ⟨sl,q⟩:=un.slot b o e n (sub b hb) hx;obtain ⟨o1,q1,d1⟩:=nf b (sub b hb);rw [q] at q1;cases q1;obtain ⟨sl',q2⟩:=sm b _ q d1;exact ⟨sl',q2⟩
 ·obtain ⟨o',q⟩:=un.there b o e hx;by_cases hb:b∈frs l
  ·obtain ⟨o1,q1,d1⟩:=nf b hb;obtain ⟨sl',q2⟩:=sm b _ q1 d1;exact ⟨_,q2⟩
  ·exact ⟨o',stay b o' q (.inr ⟨o,e⟩) hb⟩
 ·refine (hok a o e).stay (λb u hb q=>?_) (λ_ q=>q) λ_ _ q=>q;have tr:H' b≠none:=by
   rcases hb with rfl | hb
   ·rw [e];simp
   ·rw [hb];simp
  exact stay b u q (.inl tr) λz=>tr (frf b z)
 ·have hb':b∉frs l:=by
   intro z;rcases q with q | ⟨o',q⟩
   ·exact q (frf b z)
   ·exact out q hb z
  have ⟨o1,q1⟩ : ∃o1,s'.heap.get? b=some o1:=by
   rcases q with q | ⟨o',q⟩
   ·cases z:H' b with
    | none=>exact absurd z q
    | some u=>exact (hok b u z).there
   ·exact un.there b o' q (by simp)
  have c:=cov b o1 q1 q hb';have z:=fl.1 b o1 c;have e':h'.get? b=some o:=e;rw [e'] at z;cases z;exact c
def Fly.moved{P:Program}{w:World}{l:List Env}{H H':Hp}{s s':Shared}{x:Addr}{cls:Value}(F:Fly P w l H H' s s' x cls){B h':Heap}{a0:Value}
  (fl0:Heap.FlyingW B l x cls a0 s'.heap) (cov:∀b o,s'.heap.get? b=some o->(H' b≠none\/∃o',s.heap.get? b=some o')->b∉frs l->B.get? b=some o) (fl:Heap.FlyingW B l x cls a0 h') (sm:s'.heap.UpToSlots h') :
  Fly P w l H H' s { s' with heap:=h' } x cls :=
 ZiE F.os F.bare F.un F.hok F.frf (λb hb=>(fl0.2.2.1.mem hb).2) cov (λ_ hb=>hb) (λ_ h1 h2=>absurd h1 h2) fl sm F.free
section
variable{X:Cx}{pins:List (Addr×Obj)}{σ:St}{H H':Hp}{s s':Shared}{x:Addr}{cls:Value}
def Inv.unStack(I:Inv X pins σ H s)(hex:X.ex=[])(hfs:∀b∈X.fs,b∈frs X.stack):Un (frs X.stack) [] X.H₀ H X.s₀.heap s.heap:=I.base.mono hfs (by rw [hex];exact λ_ z=>z)
def Inv.sub(I:Inv X pins σ H s):∀b∈X.fs,b∈frs X.stack:=λb hb=>by
 rcases I.ok.stk with e | ⟨e,hf⟩
 ·rw [e];exact hb
 ·rw [e];unfold frs;rw [Vam,hf];exact Vao _ hb
def Inv.flyOut(I:Inv X pins σ H s)(hex:X.ex=[])(F:Fly X.prog X.w X.stack H H' s s' x cls){B h':Heap}{a0:Value}(fl0:Heap.FlyingW B X.stack x cls a0 s'.heap)
  (cov:∀b o,s'.heap.get? b=some o->(H' b≠none\/∃o',s.heap.get? b=some o')->b∉frs X.stack->B.get? b=some o) (fl:Heap.FlyingW B X.outer x cls a0 h') (sm:s'.heap.UpToSlots h') :
  Fly X.prog X.w X.outer X.H₀ H' X.s₀ { s' with heap:=h' } x cls:=by
 refine ZiE (F.os.trans I.os) F.bare ((I.unStack hex I.sub).trans F.un) F.hok F.frf (λb hb=>(fl0.2.2.1.mem hb).2) (λb o e q hb=>cov b o e (q.imp id λ⟨o',z⟩=>I.base.there b o' z (by rw [hex];simp)) hb) I.sub (λb h1 h2=>?_) fl sm F.free;rcases Vaq.mp (I.stkSub b h1) with e | e
 ·rw [e];exact Vap I.ok.above
 ·exact absurd e h2
end
def CtxN(x:Addr)(h:Heap):Prop:=∃(ox:Obj) (vs:Array Value),h.get? x=some ox/\ox.data=.fields vs/\vs[2]?=some .none
def CtxN.on{x:Addr}{h h':Heap}(k:CtxN x h)(kd:KD h h')(ht:∃ox,h'.get? x=some ox):CtxN x h':=by
 obtain ⟨ox,vs,e1,e2,e3⟩:=k;obtain ⟨ox',e1'⟩:=ht;obtain ⟨vs',q3,q4⟩:=(kd.at e1 e1').f vs e2;exact ⟨ox',vs',e1',q3,q4.trans e3⟩
def Zgb(p:Option Addr)(x:Addr)(H':Hp)(h0 h:Heap):Prop:=(p=none->CtxN x h)/\∀n:Nat,p=some n->∃(ox:Obj) (d:Addr) (m:Str->Option Value),h.get? x=some ox/\ox.dict=some d/\h.Ns1 d m/\(∀g,RelO (([("at", V.int ((n/2:Nat):Int))]:List (Str×V)).lookup g) (m g))/\H' d=none/\h0.get? d=none/\d≠x/\(n%2=0->∃vs:Array Value,ox.data=.fields vs/\vs[2]?=some .none)
def Zgb.no{x:Addr}{H':Hp}{h0 h:Heap}(k:CtxN x h):Zgb none x H' h0 h:=⟨λ_=>k,λ_ z=>by cases z⟩
def ZhE{h h':Heap}{a:Addr}{m:Str->Option Value}(x:h.UpToSlots h')(hn:h.Ns1 a m):h'.Ns1 a m:=by
 obtain ⟨o,es,ep,ho,hd,r⟩:=hn;obtain ⟨sl,hs⟩:=x a o ho λvs q=>by rw [hd] at q;cases q
 exact ⟨_,es,ep,hs,hd,r⟩
def Zgb.on{p:Option Addr}{x:Addr}{H':Hp}{h0 h1 h h':Heap}(k:Zgb p x H' h0 h)(kd:KD h h')(sm:h.UpToSlots h')(ht:∃ox,h'.get? x=some ox)(h01:∀b o,h1.get? b=some o->∃o',h0.get? b=some o'):Zgb p x H' h1 h':=⟨λe=>(k.1 e).on kd ht,λn e=>by
 obtain ⟨ox,d,m,e1,e2,e3,e4,e5,e6,e7,e8⟩:=k.2 n e;obtain ⟨ox',e1'⟩:=ht;refine ⟨ox',d,m,e1',(kd.at e1 e1').d.trans e2,ZhE sm e3,e4,e5,?_,e7,λz=>?_⟩
 rotate_left
 ·obtain ⟨vs,q1,q2⟩:=e8 z;obtain ⟨vs',q3,q4⟩:=(kd.at e1 e1').f vs q1;exact ⟨vs',q3,q4.trans q2⟩
 cases q:h1.get? d with
 | none=>rfl
 | some o =>
  obtain ⟨o',z⟩:=h01 d o q
  rw [e6] at z;cases z⟩
def CXR(P:Program)(w:World):CXT:=λouter H s E e s'=>∃(x:Addr) (cls:Value) (p:Option Addr) (H':Hp),e=.ref x/\Fly P w outer H H' s s' x cls/\Zgb p x H' s.heap s'.heap/\E cls p H'
section
variable{P:Program}{w:World}{K:W.Frag}{mg:Str->Option Value}{base:Heap}{N:List Str}{qual:Str}{scope:Scope}{f:Addr}{cd:Value}{A:Around}{outer:List Env}{s₀:Shared}{H₀:Hp}{E:XK}
def ZaM:ZbX (CXR P w) (cxOf (CXR P w) P w K mg base N qual scope f cd A outer s₀ H₀ E) E:=by
 intro pins σ H s e s' I h;obtain ⟨x,cls,p,H',rfl,F,py,q⟩:=h;obtain ⟨B,a0,fl,cov⟩:=F.ex;show wpAny (model P w) (A.deeper (envOfC qual scope s₀.heap.objs.size f cd)) (leaving (envOfC qual scope s₀.heap.objs.size f cd) (.ref x)) _ _ s';refine Vax (Zez (ZdJ _ _) (wpAny_leaves_onW (Q:=λ_ s2=>∃h',s2={ s' with heap:=h' }/\Heap.FlyingW B outer x cls a0 h'/\s'.heap.UpToSlots h') I.ok.frames rfl fl λh' fl' sm=>⟨h',rfl,fl',sm⟩)) (λ_ s2 z=>?_) λ_ _ z=>z.1
 obtain ⟨⟨h',rfl,fl',sm⟩,kd⟩:=z;exact ⟨x,cls,p,H',rfl,I.flyOut rfl F fl cov fl' sm,py.on kd sm (let ⟨o,e,_⟩:=fl'.there;⟨o,e⟩) (λb o e=>I.base.there b o e (λz=>nomatch z)),q⟩
end
abbrev Zc7:List Value:=[.type "ValueError", .type "Exception", .type "BaseException", .type "object"]
def ZrL{K:W.Frag}{h₀:Heap}{mg:Str->Option Value}{x:Str}{C:Addr}{bmB:List Value}{newId:String}(X:K.In h₀)(m:mg x=some (.ref C))(q:W.excIn K C bmB newId=true):OwnCls x C bmB newId mg h₀:=by
 refine ⟨m,?_⟩;unfold W.excIn at q;split at q
 ·rename_i dd cd sl ho;split at q
  ·rename_i C' bm k0 k1 k2 k3 n k5 hm hs;simp only [Vbm,VaR,Bool.not_eq_true'] at q;obtain ⟨⟨⟨⟨⟨rfl,rfl⟩,hdel⟩,ht⟩,hok⟩,hni⟩:=q;obtain ⟨nm,bs,mro,ns,qn,hd,sn,sub,ab,col,del⟩:=cd;dsimp only at hm hdel hok hni;subst hm hdel;have hsl:sl=#[k0,k1,k2,k3,some (.builtin n),k5]:=by
    obtain ⟨l⟩:=sl;simp only at hs;rw [hs]
   subst hsl;exact ⟨bm,ns,nm,qn,bs,hd,sn,sub,ab,col,dd,k0,k1,k2,k3,k5,_,X _ _ ho,.of_isNs (W.isNs_of_in X hok),W.nsMap_none_of_in X hok hni,W.tail_of_in X ht⟩
  ·cases q
 ·cases q
section
variable{X:Cx}{pins:List (Addr×Obj)}{σ:St}{H:Hp}{s:Shared}
def Inv.flyMade(I:Inv X pins σ H s)(hex:X.ex=[])(hst:X.stack=X.env::X.outer)(hfr:X.env.frame=some X.env.locals){x:Addr}{cls:Value}{args:List Value}{s1:Shared}{h1:Heap}(e1:s1={ s with heap:=h1,toks:=s1.toks })(hx:Heap.MadeExcOf s.heap h1 x cls args)
  {Q:Unit->Shared->Prop} {E:Value->Shared->Prop} (k:∀s2,Fly X.prog X.w X.outer X.H₀ H X.s₀ s2 x cls->CtxN x s2.heap->Q () s2):wpAny (model X.prog X.w) X.A (leaving X.env (.ref x)) Q E s1:=by
 have hin:∀env∈X.stack,∀b,env.frame=some b->b∈frs X.stack:=λenv he b hb=>VaN.mpr ⟨env,he,hb⟩;have hh1:s1.heap=h1:=by rw [e1]
 refine Vax (Zez (ZdJ _ _) (wpAny_leaves_madeW (Q:=λ_ s2=>∃(h2:Heap) (t:Addr),s2={ s1 with heap:=h2 }/\Heap.FlyingW (W.hideAll s.heap (frs X.stack)) X.outer x cls (.ref t) h2/\s1.heap.UpToSlots h2) (base:=W.hideAll s.heap (frs X.stack)) (h:=s.heap) (outer:=X.outer) (by rw [<-hst];exact I.ok.frames) hfr (λb o q=>Vah _ q) (by rw [<-hst];exact W.funFrames_hide I.stack hin) (by rw [hh1];exact hx) λh2 t fl _ _ sm=>⟨h2,t,rfl,fl,sm⟩)) (λ_ s2 z=>?_) λ_ _ z=>z.1
 obtain ⟨⟨h2,t,rfl,fl,sm⟩,kd⟩:=z;refine k _ ?_ (CtxN.on (by rw [hh1];exact let ⟨t,e,_⟩:=hx.there;⟨_,_,e,rfl,rfl⟩) kd (let ⟨o,e,_⟩:=fl.there;⟨o,e⟩));have F:Fly X.prog X.w X.outer X.H₀ H X.s₀ { s with heap:=h2 } x cls:=by
  refine ZiE (B:=W.hideAll s.heap (frs X.stack)) I.os I.bare (I.unStack hex I.sub) I.hok I.stkFree (λb hb=>(I.stack.mem hb).2) (λb o e _ hb=>Vag _ e hb) I.sub (λb h1 h2=>?_) fl ((Heap.UpToSlots.of_keeps hx.keeps).trans (by rw [<-hh1];exact sm)) (I.hok.free hx.new);rcases Vaq.mp (I.stkSub b h1) with e | e
  ·rw [e];exact Vap I.ok.above
  ·exact absurd e h2
 refine ⟨?_,?_,F.un,F.hok,F.frf,F.free,F.ex⟩
 ·rw [e1];exact I.os
 ·rw [e1];exact I.bare
end
section
variable{P:Program}{w:World}{K:W.Frag}{mg:Str->Option Value}{base:Heap}{N:List Str}{qual:Str}{scope:Scope}{f:Addr}{cd:Value}{A:Around}{outer:List Env}{s₀:Shared}{H₀:Hp}{E:XK}
def Zoc(E:XK)(C:Addr)(te:TA):TS:=λ_ σ H=>te σ H λvs H1=>vs.length<=1000/\E (.ref C) none H1
def Zmm{x:Str}{C:Addr}{np cpos pos:Pos}{e:Expr}{es:List Expr}{t:TA}(hg:Gl (cxOf (CXR P w) P w K mg base N qual scope f cd A outer s₀ H₀ E) x)(hm:mg x=some (.ref C))(hq:W.excIn K C Zc7 "ValueError.__new__"=true)
  (ha:PA (cxOf (CXR P w) P w K mg base N qual scope f cd A outer s₀ H₀ E) (e::es) t) (hd:(x==("__debug__" : Str))=false:=by decide)
  (he:starEach (e::es) (cxOf (CXR P w) P w K mg base N qual scope f cd A outer s₀ H₀ E).env=(false,eval e (cxOf (CXR P w) P w K mg base N qual scope f cd A outer s₀ H₀ E).env)::starEach es (cxOf (CXR P w) P w K mg base N qual scope f cd A outer s₀ H₀ E).env:=by rfl)
  (hpl:(backTo cpos (starEach es (cxOf (CXR P w) P w K mg base N qual scope f cd A outer s₀ H₀ E).env)).any (·.1)=false:=by rfl) :
  PS (cxOf (CXR P w) P w K mg base N qual scope f cd A outer s₀ H₀ E) (.Raise (some (.Call (.Name x np) (e::es) [] cpos)) none pos) (Zoc E C t):=by
 intro pins s σ H D I h;obtain ⟨tl,Nn,nm,q,bs,hdct,sn,sub,ab,col,dd,k0,k1,k2,k3,k5,mN,hC,hN,hni,T⟩:=(ZrL I.mod.kin hm hq).obj;refine wpAny_Raise_call_subU (C:=C) (nm:=nm) (q:=q) (N:=Nn) (bs:=bs) (bm:=tl) (hdct:=hdct) (sn:=sn) (sub:=sub) (ab:=ab) (col:=col) (dd:=dd) (k0:=k0) (k1:=k1) (k2:=k2) (k3:=k3) (k5:=k5)
  VbB (bmB:=Zc7) (by decide +kernel) VbB (mN:=mN) (T.hasType PySem.F.excBase_ValueError.hasBase) (I.ok.hd rfl) (by rw [he];show (false||(backTo cpos (starEach es _)).any (·.1))=false;rw [hpl];rfl) hni (ZcS I hg hm ⟨rfl,?_⟩ hd)
 have hw:=ha cpos pins s σ H _ I h;rw [he] at hw ⊢;refine Calls.evalArgs_plain (Vax hw (λus s2 z=>?_) λ_ _ y=>y);obtain ⟨vs,H2,I2,rv,hl,q2⟩:=z;refine ⟨rfl,by rw [<-rv.length];exact Nat.le_of_lt (Zk6 hl),I2.bk _ _ hC,hN.keeps I2.bk,T.keeps I2.bk,λh' ex hx=>?_⟩;exact I2.flyMade rfl rfl rfl rfl hx λs3 F cx=>⟨ex,.ref C,none,H2,rfl,F,.no cx,q2⟩
end
def ExcAt(a:Addr)(C:Value)(h:Heap):Prop:=∃ob,h.get? a=some ob/\ob.cls=C
def exO(a:Addr)(C:Value):HO:=.ext (ExcAt a C)
end L2
namespace L2
open PySem PySem.Spec PyProof.Rows PySem.Calls
def ZrM{P:Program}{w:World}{H:Hp}{h:Heap}{a:Addr}{C:Value}(e:ExcAt a C h):Zbt P w H h a (exO a C) :=
 ⟨e,e.imp λ_ z=>z.1,λ_ _ ⟨o,q,c⟩ k=>⟨o,k o q,c⟩⟩
def ExcAt.ty{M:Model}{h:Heap}{a:Addr}{C:Value}(e:ExcAt a C h):W.Looks M h (typeOf (.ref a)) C:=by
 obtain ⟨o,h1,h2⟩:=e;exact h2▸(W.Looks.ld h1).andThen .now
structure Zgo(K:W.Frag)(D:Addr):Prop where
 g:W.findIn K (.ref D) "__getattribute__"=some (some (.builtin "BaseException.__getattribute__"))
 n:W.findIn K (.ref D) "__getattr__"=some none
 b:W.mroIn K D (.type "BaseException")=some true
 d:W.hasDictIn K D=true
 f:W.findIn K (.ref D) "__class__"=some (some (.builtin "object.__class__"))
 s:W.specialIn K (.builtin "object.__class__") "__get__"=some (some (.builtin "getset_descriptor.__get__"))
 t:W.takesIn K (.builtin "object.__class__")=some true
 m:W.mroIn K D (.type "object")=some true
section
open PySem.Builtin PySem.Builtin.ObjectAttr PySem.Builtin.Getset_descriptor PySem.W
variable{prog:Program}{w:World}{A:Around}{E:Value->Shared->Prop}{s:Shared}{K:W.Frag}{x D:Addr}{name:Str}{M:Model}{h:Heap}
def Znz{a g v:Value}(XI:K.In h)(ha:W.findIn K (.ref D) name=some (some a))(hg:W.specialIn K a "__get__"=some (some g))(ht:W.takesIn K a=some true):W.Looks M h (find v (.ref D) name) (.bind g a):=by
 have q1:=VaU (M:=M) XI ha;have q2:W.Looks M h (getOf (some a)) (some g):=W.looks_specialIn XI hg;have q3:W.Looks M h (dataDescriptor? (some a) (some g)) (some (g,a)):=(W.looks_takesIn (M:=M) XI ht).andThen .now;exact q1.andThen (q2.andThen (q3.andThen (W.Looks.tag .now)))
def Zjz{nameV:Value}{Q:Unit->Shared->Prop}{hh:Heap}{gg:Array GenState}{dd:Drawn}{tt:Nat}{os:OsState}(t0:Looks M hh (typeOf (.ref x)) (.ref D))(t5:Looks M hh (isSubtype (.ref D) (.type "BaseException")) true)(hq:Q () ⟨hh,gg,dd,tt,os⟩) :
  wpAny M A (checkBuiltinCall "BaseException.__getattribute__" ⟨[.ref x,nameV],[]⟩) Q E ⟨hh,gg,dd,tt,os⟩:=by
 have hk:builtinKind "BaseException.__getattribute__"=some .slot:=by decide +kernel
 have hsp:splitId "BaseException.__getattribute__"=some ("BaseException", "__getattribute__"):=by decide +kernel
 have hargs:=F.args_bexc_ga (.ref x) nameV;simp only [checkBuiltinCall,hk,hsp];refine VaC ?_;unfold isInstance;refine VaC (t0.at (t5.at ?_))
 repeat (first | wp_step)
 exact hq
def ZnH{tk:Tok}{Q:Fin->Shared->Prop}{hh:Heap}{gg:Array GenState}{dd:Drawn}{tt:Nat}{os:OsState}(t0:Looks (model prog w) hh (typeOf (.ref x)) (.ref D))
  (t2:Looks (model prog w) hh (find (.ref x) (.ref D) "__class__") (.bind (.builtin "getset_descriptor.__get__") (.builtin "object.__class__"))) (t4:Looks (model prog w) hh (isSubtype (.ref D) (.type "object")) true) (hq:Q (.done (.ret (.ref D))) ⟨hh,gg,dd,tt,os⟩) :
  wpAny (model prog w) A (Builtin.«object.__getattribute__» ⟨[.ref x,.str "__class__" tk],[]⟩) Q E ⟨hh,gg,dd,tt,os⟩:=by
 unfold Builtin.«object.__getattribute__»;refine VaC (VaI (VaC (VaI (VaC (t0.at (VaC (t2.at ?_)))))));show wpAny _ _ (bindTo (.builtin "getset_descriptor.__get__") (.builtin "object.__class__") (.ref x) (.ref D)) _ _ _;unfold bindTo
 repeat (first | with_reducible refine VaC ?_ | with_reducible refine VaD ?_)
 refine Va2 (VbC KF.slot_gs.plain KF.entry_gs (KF.slot_gs.check _ _ _ _ _ _ _ _ KF.type_class (KF.args_gs _ _ _) ?_));unfold Builtin.«getset_descriptor.__get__» descrGet;rw [dga_obj];refine VaC (VaI ?_);unfold descrGetter descrCheckInstance descrNameAndClass isInstance;simp only [KF.owner_class]
 repeat lk
 refine ⟨VbD _ (by decide +kernel),VbE KF.entry_class ?_⟩;unfold Builtin.«object.__class__» shownTypeOf
 repeat lk
 exact hq
def ZlR{Q:Option Value->Shared->Prop}(XI:K.In s.heap)(I:ExcAt x (.ref D) s.heap)(C:Zgo K D)(hQ:Q (some (.ref D)) { s with toks:=s.toks+1 }):wpAny (model prog w) A (getAttr? (.ref x) "__class__") Q E s:=by
 obtain ⟨hh,gg,dd,tt,os⟩:=s;have t0:=I.ty (M:=model prog w);have t1:=VaU (M:=model prog w) XI C.g;have t2:=Znz (M:=model prog w) (v:=.ref x) XI C.f C.s C.t;have t3:=VaU (M:=model prog w) XI C.n;have t4:=VbF (M:=model prog w) XI C.m;have t5:=VbF (M:=model prog w) XI C.b;have t6:=(F.excAttr_ValueError.ga).bind (.ref x);unfold getAttr? getAttrBy? getAttrBy;refine VaC (wpAny_mkText (VaC (wpAny_attempt (VaD (VaC (t0.at (VaC (t1.at ?_))))))));show wpAny _ _ (getAttrByItsOwn (.ref x) (.str "__class__" tt) (.ref D) (.builtin "BaseException.__getattribute__") false false) _ _ _;unfold getAttrByItsOwn hookBefore callGetattribute boundAndCalled;rw [if_pos (show onTheHeap (Value.ref D)=true from rfl)];refine VaC (t3.at (VaC (wpAny_attempt (VaD ?_))));rw [if_neg (show ¬(false&&onTheHeap (Value.builtin "BaseException.__getattribute__"))=true from VaG),t6];refine VaC (VaI (Va2 ?_));refine VbC F.excAttr_ValueError.ga.plain F.entry_bexc_ga (Zjz t0 t5 (ZnH t0 t2 t4 ?_));exact handed_on rfl (VaI hQ)
def ZjU(C:Zgo K D):KitX K (.ref x) (.ref D) (ExcAt x (.ref D)) where
 ty:=λ_ _ _ I=>I.ty
 it:=λ_ _ XI _=>by
  obtain ⟨cd,hc,_⟩:=any_some C.d;unfold clsIn at hc;split at hc
  ·rename_i c1 c2 c3 c4 ho;intro _ _ _ _ k q;unfold isType loadHead;exact VaC (VaS (k _ _ (XI _ _ ho)) (VaI q))
  ·cases hc
 ne:=λh tp dd its n sl XI htp=>by
  obtain ⟨cd,hc,_⟩:=any_some C.d;refine Bool.eq_false_iff.mpr λq=>?_;have e:D=tp:=Value.ref.inj (VaR.mp q);subst e;unfold clsIn at hc;split at hc
  ·rename_i c1 c2 c3 c4 ho;have z:=(XI _ _ ho).symm.trans htp;cases z
  ·cases hc
 ca:=λXI I k=>ZlR XI I C k
end
def Cx.inX(X:Cx)(e:Addr):Cx:={ X with A:=X.A.mark (some (.ref e)),calm:=false,xe:=λ_ _=>False }
section
variable{X:Cx}{pins:List (Addr×Obj)}{σ:St}{H H':Hp}{s s':Shared}{x:Addr}{cls:Value}
def Cx.Ok.inX(ok:X.Ok)(e:Addr):(X.inX e).Ok :=
 ⟨ok.mod,ok.kind,ok.glob,ok.blt,ok.above,ok.inj,ok.has,ok.cab,(λz=>nomatch z),ok.frames,ok.stk,ok.exf,ok.bs,ok.bsz,ok.noex,ok.exfs,ok.funs,ok.frf⟩
def Inv.inX(I:Inv X pins σ H s)(e:Addr):Inv (X.inX e) pins σ H s:=⟨I.ok.inX e,I.os,I.bare,I.base,I.loc,I.cell,I.free,I.freeC,I.pin,I.hok,I.len⟩
def Inv.outX{e:Addr}(I:Inv (X.inX e) pins σ H s)(ok:X.Ok):Inv X pins σ H s:=⟨ok,I.os,I.bare,I.base,I.loc,I.cell,I.free,I.freeC,I.pin,I.hok,I.len⟩
def Inv.goes{M:Model}{A:Around}{E:Value->Shared->Prop}{i:Nat}{n:Str}{pos:Pos}{Q:Unit->Shared->Prop}(I:Inv X pins σ H s)(hN:X.N.Nodup)(hi:X.N[i]?=some n)(hk:X.env.kindOf n=some .local)
  (h:∀s',Inv X pins (σ.set i none) H s'->Q () s'):wpAny M A (do bindName X.env n .none;unbindBehindTheSuite X.env n pos) Q E s:=by
 obtain ⟨m,hn,hl⟩:=id I.loc;have hcls:(X.env.scope.kind==.class||(X.env.scope.kind==.module&&X.env.locals != X.env.globals))=false:=by rw [I.ok.kind];rfl
 have hiσ:i<σ.length:=by rw [I.len];exact (Vat.mp hi).1
 have cne:=I.cne;obtain ⟨oL,_,_,hoL,_⟩:=id hn;refine wpAny_nameGoes_keeps hk hn hcls λh' v hn' hs=>?_;have low:∀b o,X.s₀.heap.get? b=some o->b≠X.env.locals:=λb o e=>Vaf (Vad (Vac e) I.ok.above);refine h _ ⟨I.ok,I.os,I.bare,⟨λb o e n hb hx=>?_,λb o e n hb hx=>?_,I.base.free,λb o e hx=>?_,I.base.tups,I.base.frzs,I.base.tbls⟩,⟨_,hn',λj y v' e1 e2 e3=>?_⟩,λy c e=>?_,I.free,I.freeC,λp hp=>?_,λb ob e=>?_,by simpa using I.len⟩
 ·exact (hs.2 b (low b o e)).trans (I.base.keep b o e n hb hx)
 ·obtain ⟨sl,e1⟩:=I.base.slot b o e n hb hx;exact ⟨sl,(hs.2 b (low b o e)).trans e1⟩
 ·obtain ⟨o',e1⟩:=I.base.there b o e hx;exact ⟨o',(hs.2 b (low b o e)).trans e1⟩
 ·by_cases hj:j=i
  ·subst hj;rw [Vau hiσ] at e2;cases e2
  ·rw [Vav (Ne.symm hj)] at e2;obtain ⟨u',r',q⟩:=hl j y v' e1 e2 e3;refine ⟨u',r',?_⟩;rcases q with ⟨k,e⟩ | ⟨k,c,e,z⟩
   ·refine .inl ⟨k,?_⟩;have ny:y≠n:=λe=>hj (ZgX hN e1 (e▸hi));simp [ny,e]
   ·exact .inr ⟨k,c,e,z.sameBut hs (cne y c e)⟩
 ·obtain ⟨w',z⟩:=I.cell y c e;exact ⟨w',z.sameBut hs (cne y c e)⟩
 ·obtain ⟨e,n,ne,nf,d⟩:=I.pin p hp;exact ⟨(hs.2 p.1 ne).trans e,n,ne,nf,d⟩
 ·refine (I.hok b ob e).stay (λc w' hc q=>(hs.2 c ?_).trans q) (λ_ q=>q) λ_ _ q=>q;rintro rfl;rcases hc with rfl | hc
  ·rw [I.free] at e;cases e
  ·rw [I.free] at hc;cases hc
def Inv.landed(I:Inv X pins σ H s)(F:Fly X.prog X.w X.stack H H' s s' x cls):Inv X pins σ H' s':=I.call' (ch:=[]) F.os F.un F.hok F.bare λ_ z=>nomatch z
def Inv.caught(I:Inv X pins σ H s)(F:Fly X.prog X.w X.stack H H' s s' x cls):Inv X pins σ (upd H' x (exO x cls)) s':=by
 obtain ⟨B,a0,fl,cov⟩:=F.ex;have ex:ExcAt x cls s'.heap:=fl.there;have nx:s.heap.get? x=none:=by
  cases q:s.heap.get? x with
  | none=>rfl
  | some o =>
   obtain ⟨ob,q2,_⟩:=ex;have nf:x∉frs X.stack:=λz=>by
    obtain ⟨_,o',z1,z2⟩:=fl.2.2.1.mem z;obtain ⟨_,_,_,oe,vs,T,oT,ts,he,_,hd,_⟩:=fl;rw [he] at z1;cases z1;exact z2 _ hd
   have z:=cov x ob q2 (.inr ⟨o,q⟩) nf;rw [fl.2.1] at z;cases z
 have old:∀b o,s.heap.get? b=some o->b≠x:=λb o e z=>by rw [z,nx] at e;cases e
 have trk:∀b o,H' b=some o->b≠x:=λb o e z=>by rw [z,F.free] at e;cases e
 refine I.call' (ch:=[]) F.os ⟨F.un.keep,F.un.slot,λb o e n hx=>?_,F.un.there,λb xs e=>?_,λb o u e=>?_,λb ps e=>?_⟩ (λb o e=>?_) F.bare λ_ z=>nomatch z
 ·rw [Zae (old b o e)];exact F.un.free b o e n hx
 ·have z:=F.un.tups b xs e;rw [Zae (trk b _ z)];exact z
 ·have z:=F.un.frzs b o u e;rw [Zae (trk b _ z)];exact z
 ·obtain ⟨more,z⟩:=F.un.tbls b ps e;exact ⟨more,by rw [Zae (trk b _ z)];exact z⟩
 ·by_cases hb:b=x
  ·subst hb;rw [Zag] at e;cases e;exact ZrM ex
  ·rw [Zae hb] at e;exact (F.hok b o e).stay (λ_ _ _ r=>r) (λc r=>by rw [Zae (trk c _ r)];exact r) λc xs r=>by rw [Zae (trk c _ r)];exact r
end
section
variable{M:Model}{A:Around}{E:Value->Shared->Prop}{s:Shared}{base:Heap}{env:Env}{outer l:List Env}{L e:Addr}{cls a0:Value}{Q:Unit->Shared->Prop}
def Zic(hfr:A.frames=some (env::outer))(hf:env.frame=some L)(hfl:Heap.FlyingW base (env::outer) e cls a0 s.heap)
  (hQ:∀h',Heap.HeldW base (env::outer) e cls a0 L h'->s.heap.UpToSlots h'->KD s.heap h'->Q () { s with heap:=h' }):wpAny M A (noteFrame (.ref e) env) Q E s :=
 Vax (Zez (Zg2 _ _) (wpAny_looks_onW (Q:=λ_ s2=>∃h',s2={ s with heap:=h' }/\Heap.HeldW base (env::outer) e cls a0 L h'/\s.heap.UpToSlots h') (E:=E) hfr hf hfl λh' x1 x2=>⟨h',rfl,x1,x2⟩))
  (λ_ _ ⟨⟨h',z,x1,x2⟩,kd⟩=>by subst z;exact hQ h' x1 x2 kd) λ_ _ z=>z.1
def Zog(hh:Heap.HeldW base l e cls a0 L s.heap)(hQ:∀h',Heap.FlyingW base l e cls a0 h'->s.heap.UpToSlots h'->KD s.heap h'->Q () { s with heap:=h' }):wpAny M A (setFlight (.ref e) none) Q E s :=
 Vax (Zez (ZdE _ _) (wpAny_landsW (Q:=λ_ s2=>∃h',s2={ s with heap:=h' }/\Heap.FlyingW base l e cls a0 h'/\s.heap.UpToSlots h') (E:=E) hh λh' x1 x2=>⟨h',rfl,x1,x2⟩))
  (λ_ _ ⟨⟨h',z,x1,x2⟩,kd⟩=>by subst z;exact hQ h' x1 x2 kd) λ_ _ z=>z.1
def ZnW(hh:Heap.FlyingW base l e cls a0 s.heap)(hQ:∀h',Heap.FlyingW base l e cls a0 h'->s.heap.UpToSlots h'->KD s.heap h'->Q () { s with heap:=h' }):wpAny M A (setFlight (.ref e) none) Q E s :=
 Vax (Zez (ZdE _ _) (lands_againW (Q:=λ_ s2=>∃h',s2={ s with heap:=h' }/\Heap.FlyingW base l e cls a0 h'/\s.heap.UpToSlots h') (E:=E) hh λh' x1 x2=>⟨h',rfl,x1,x2⟩))
  (λ_ _ ⟨⟨h',z,x1,x2⟩,kd⟩=>by subst z;exact hQ h' x1 x2 kd) λ_ _ z=>z.1
end
def Zh3(a:Addr)(C:Value)(d:Addr)(h:Heap):Prop:=∃ob,h.get? a=some ob/\ob.cls=C/\ob.dict=some d/\∃vs,ob.data=.fields vs
def exC(a:Addr)(C:Value)(d:Addr):HO:=.ext (Zh3 a C d)
def ZsP{P:Program}{w:World}{H:Hp}{h:Heap}{a d:Addr}{C:Value}(e:Zh3 a C d h):Zbt P w H h a (exC a C d) :=
 ⟨e,e.imp λ_ z=>z.1,λ_ _ ⟨o,q,c⟩ k=>⟨o,k o q,c⟩⟩
def trkX(p:Option Addr)(x d:Addr)(cls:Value)(H:Hp):Hp:=match p with
 | none=>upd H x (exO x cls)
 | some n=>upd (upd H x (exC x cls d)) d (.xd [("at", .int (((show Nat from n)/2:Nat):Int))])
section
variable{X:Cx}{pins:List (Addr×Obj)}{σ:St}{H H':Hp}{s s':Shared}{x:Addr}{cls:Value}
def Inv.caughtP{p:Option Addr}(I:Inv X pins σ H s)(F:Fly X.prog X.w X.stack H H' s s' x cls)(py:Zgb p x H' s.heap s'.heap):∃d,(p.isSome=true->H' d=none/\d≠x)/\Inv X pins σ (trkX p x d cls H') s':=by
 cases p with
 | none=>exact ⟨0,(λz=>by cases z),I.caught F⟩
 | some n =>
  obtain ⟨ox,d,m,e1,e2,e3,e4,e5,e6,e7,_⟩:=py.2 n rfl;refine ⟨d,λ_=>⟨e5,e7⟩,?_⟩;obtain ⟨B,a0,fl,cov⟩:=F.ex;have ex:Zh3 x cls d s'.heap:=by
   obtain ⟨ob,vs,z1,z2,z3,_⟩:=fl.first;rw [e1] at z1;cases z1;exact ⟨ox,e1,z2,e2,vs,z3⟩
  have nx:s.heap.get? x=none:=by
   cases q:s.heap.get? x with
   | none=>rfl
   | some o =>
    obtain ⟨ob,q2,_⟩:=ex;have nf:x∉frs X.stack:=λz=>by
     obtain ⟨_,o',z1,z2⟩:=fl.2.2.1.mem z;obtain ⟨_,_,_,oe,vs,T,oT,ts,he,_,hd,_⟩:=fl;rw [he] at z1;cases z1;exact z2 _ hd
    have z:=cov x ob q2 (.inr ⟨o,q⟩) nf;rw [fl.2.1] at z;cases z
  have old:∀b o,s.heap.get? b=some o->b≠x:=λb o e z=>by rw [z,nx] at e;cases e
  have oldd:∀b o,s.heap.get? b=some o->b≠d:=λb o e z=>by rw [z,e6] at e;cases e
  have trk:∀b o,H' b=some o->b≠x:=λb o e z=>by rw [z,F.free] at e;cases e
  have trkd:∀b o,H' b=some o->b≠d:=λb o e z=>by rw [z,e5] at e;cases e
  refine I.call' (ch:=[]) F.os ⟨F.un.keep,F.un.slot,λb o e n hx=>?_,F.un.there,λb xs e=>?_,λb o u e=>?_,λb ps e=>?_⟩ (λb o e=>?_) F.bare λ_ z=>nomatch z
  ·unfold trkX;dsimp only;rw [Zae (oldd b o e),Zae (old b o e)];exact F.un.free b o e n hx
  ·have z:=F.un.tups b xs e;unfold trkX;dsimp only;rw [Zae (trkd b _ z),Zae (trk b _ z)];exact z
  ·have z:=F.un.frzs b o u e;unfold trkX;dsimp only;rw [Zae (trkd b _ z),Zae (trk b _ z)];exact z
  ·obtain ⟨more,z⟩:=F.un.tbls b ps e;exact ⟨more,by unfold trkX;dsimp only;rw [Zae (trkd b _ z),Zae (trk b _ z)];exact z⟩
  ·unfold trkX at e;dsimp only at e;by_cases hd:b=d
   ·subst hd;rw [Zag] at e;cases e;exact ⟨m,e3,e4⟩
   ·rw [Zae hd] at e;by_cases hb:b=x
    ·subst hb;rw [Zag] at e;cases e;exact ZsP ex
    ·rw [Zae hb] at e;exact (F.hok b o e).stay (λ_ _ _ r=>r) (λc r=>by unfold trkX;dsimp only;rw [Zae (trkd c _ r),Zae (trk c _ r)];exact r) λc xs r=>by unfold trkX;dsimp only;rw [Zae (trkd c _ r),Zae (trk c _ r)];exact r
end
def offI(i:Nat)(D:Ends):Ends:={ nx:=λσ H=>D.nx (σ.set i none) H,rt:=D.rt,bk:=λσ H=>D.bk (σ.set i none) H,ct:=λσ H=>D.ct (σ.set i none) H }
end L2
namespace L2
open PySem PySem.Spec PyProof.Rows
def Zl2(l:Addr)(items:Array Value)(n:Nat)(sl:Array (Option Value))(b:Addr)(items2:Array Value)(n2:Nat)(sl2:Array (Option Value))(hc0:items.size+items2.size<=sizeLine) :
  Meets (Builtin.«list.__add__» ⟨[.ref l,.ref b],[]⟩) (λ_ R s=>s.heap.get? l=some { cls:=.type "list", dict:=none,data:=.seq items n,slots:=sl }/\s.heap.get? b=some { cls:=.type "list", dict:=none,data:=.seq items2 n2,slots:=sl2 }/\R (.ok (.ret (Value.ref s.heap.objs.size))) { s with heap:=s.heap.push { cls:=Value.type "list", data:=Data.seq (items++items2) },toks:=s.toks }) :=
 .of_wp λprog w A R s h=>by obtain ⟨hp,g,d,tk,os⟩:=s;obtain ⟨hl,hb,h⟩:=h;have f1:=AutoSeq1.idx_int;have f2:=AutoSeq1.sub_tuple_tuple;have f3:=AutoSeq1.sub_list_list;have f4:=AutoSeq1.sub_tuple_list;have f5:=AutoSeq1.sub_list_tuple;wp_walk using AutoSeq1.wpAny_loadPart' hl,AutoSeq1.wpAny_loadPart' hb;exact ⟨_,rfl,h⟩
section
variable{X:Cx}
def ZmP{pins:List (Addr×Obj)}{s:Shared}{σ:St}{H:Hp}{l b:Addr}{xs zs:List V}{Q:VK}(I:Inv X pins σ H s)(hH:SqL X.K H l xs)(hB:SqL X.K H b zs)(hz:xs.length+zs.length<=sizeLine)(q:∀p,H p=none->Q (.ref p) (upd H p (.lst (xs++zs)))) :
  wpAny (model X.prog X.w) X.A (binaryOp .Add (.ref l) (.ref b)) (EP X pins σ Q) X.xe s:=by
 obtain ⟨its,r,⟨⟨c1,d1,t1,sl1⟩,n,e,h1,h2,h3⟩,z⟩:=I.list hH;obtain ⟨its2,r2,⟨⟨c2,d2,t2,sl2⟩,n2,e2,g1,g2,g3⟩,z2⟩:=I.list hB;simp only at h1 h2 h3 g1 g2 g3;subst h1 h2 h3 g1 g2 g3;refine concat_meets ⟨_,e,rfl⟩ ⟨_,e2,rfl⟩ noFill_list_add seq_list_add F.slot_list_add F.entry_list_add (F.args_list_add_2 _ _) (Zl2 l its.toArray n sl1 b its2.toArray n2 sl2 (by rw [VaQ,VaQ,<-r.length,<-r2.length];exact hz)) ⟨e,e2,?_⟩;have ea:its.toArray++its2.toArray=(its++its2).toArray:=by simp
 rw [ea];exact ⟨.ref _,_,I.lnew (t':=s.toks) (r.append r2) (by rw [Vbe];exact hz),rfl,q _ I.fresh⟩
def Zni{pins:List (Addr×Obj)}{s:Shared}{σ:St}{H:Hp}{a b:Addr}{xs ys:List V}{Q:VK}(I:Inv X pins σ H s)(ha:SqT X.K H a xs)(hb:SqT X.K H b ys)(hz:xs.length+ys.length<=sizeLine)(q0:xs=[]->Q (.ref b) H)
  (q1:xs≠[]->ys=[]->Q (.ref a) H) (q2:xs≠[]->ys≠[]->∀p,H p=none->Q (.ref p) (upd H p (.tup (xs++ys)))) :
  wpAny (model X.prog X.w) X.A (binaryOp .Add (.ref a) (.ref b)) (EP X pins σ Q) X.xe s:=by
 by_cases hx:xs=[]
 ·obtain ⟨its,r1,p1,_⟩:=I.tuple ha;obtain ⟨its2,r2,p2,_⟩:=I.tuple hb;have hi:its=[]:=r1.nil_iff.mpr hx;subst hi;obtain ⟨⟨cls,dd,data,sl⟩,ho,hc,n,hd⟩:=id p1;obtain ⟨⟨cls2,dd2,data2,sl2⟩,ho2,hc2,n2,hd2⟩:=id p2;simp only at hc hd hc2 hd2;subst hc hd hc2 hd2;exact concat_meets ⟨_,ho,rfl⟩ ⟨_,ho2,rfl⟩ noFill_tuple_add seq_tuple_add PySem.F.slot_tuple_add PySem.F.entry_tuple_add (PySem.F.args_tuple_add_2 _ _)
   (tuple_addW0 a b ([]:List Value).toArray its2.toArray n n2 dd dd2 sl sl2 rfl) ⟨ho,ho2,⟨.ref b,H,I,rfl,q0 hx⟩⟩
 ·exact Zph pins s σ H (.ref a) (.ref b) _ _ Q I rfl rfl ⟨a,b,xs,ys,rfl,rfl,ha,hb,hx,hz,q1 hx,q2 hx⟩
end
end L2
namespace HT
open PySem PyProof.Rows
section
variable{prog:Program}{w:World}{A:Around}{E:Value->Shared->Prop}{s:Shared}
def Zef{t sl:Addr}{items:Array Value}{vl vu:Value}{lo hi:Option Int}{Q:Value->Shared->Prop}(ht:IsTup s.heap t items)(hs:s.heap.IsSliceOf sl vl vu .none)(pl:IsPart vl lo)(pu:IsPart vu hi)
  (hw:sIx items.size 0 lo=0/\sIx items.size items.size hi=items.size) (h:Q (.ref t) s):wpAny (model prog w) A (getItem (.ref t) (.ref sl)) Q E s:=by
 obtain ⟨os,hos,hcs,hds⟩:=id hs;have hTs:s.TypeIs (.ref sl) "slice" := ⟨os,hos,hcs⟩;unfold getItem
 try with_reducible refine VaD ?_
 first | refine VaC (VaI ?_) | skip
 refine VaC (wpAny_sequenceKey ht.typeIs (by decide) ?_)
 refine VaC (wpAny_callSpecial?_slot (name:=Str.ofString "__getitem__") ht.typeIs Vbk
  (wpAny_call_entry Vbk ht.typeIs entry_tuple_getitem ?_ (args_tuple_getitem _ _)))
 show wpAny _ _ (Builtin.Tuple.tupleItemsOf (.ref t) >>= _) _ _ s;refine VaC (tupleItemsOf_ ht ?_);refine VaC (Vbl hTs ?_);rw [if_pos (by decide)];refine VaC (Zc6 hs pl pu ?_);have hyes:(((sIx items.size 0 lo:Nat):Int)==0&&(1:Int)==1&&(sIx items.size items.size hi - sIx items.size 0 lo)==items.size)=true:=by
  rw [hw.1,hw.2];simp
 show wpAny _ _ (if (((sIx items.size 0 lo:Nat):Int)==0&&(1:Int)==1&&(sIx items.size items.size hi - sIx items.size 0 lo)==items.size)=true then _ else _) _ _ s
 rw [if_pos hyes]
 first
  | exact VaC (VaC (Vbl ht.typeIs (VaI (by rw [if_pos (by decide)];exact VaC (wpAny_rule (VaI ⟨_,rfl,VaI h⟩))))))
  | (refine VaC (m:=Builtin.Tuple.tupleIsExact _) (VaC (Vbl ht.typeIs (VaI ?_)))
     rw [if_pos (by decide)]
     trace_state
     exact VaC (wpAny_rule (VaI ⟨_,rfl,VaI h⟩)))
end
end HT
namespace L2
open PySem PySem.Spec PyProof.Rows
section
variable{prog:Program}{w:World}{A:Around}{E:Value->Shared->Prop}{s:Shared}
def ZhS{it t:Addr}{items:Array Value}(hne:t≠it):∀(n i:Nat) (s:Shared) (Q:List Value->Shared->Prop),s.heap.IsListIter it t i->s.heap.IsList t items->i+n<=items.size ->
  (∀h',h'.IsListIter it t (i+n)->Heap.SameBut it s.heap h'->Q ((items.toList.drop i).take n) { s with heap:=h' })->wpAny (model prog w) A (draw (.ref it) n) Q E s
 | 0,i,s,Q,hit,_,_,hQ=>by
  show wpAny _ _ (pure []) Q E s;exact VaI (by simpa using hQ s.heap hit (Heap.SameBut.refl ..))
 | n+1,i,s,Q,hit,ht,hle,hQ=>by
  have hlt:i<items.size:=by omega
  show wpAny _ _ (pyNext (.ref it) >>= _) Q E s;refine VaC (wpAny_pyNext_list_item hit ht (x:=items[i]) (by simp [hlt]) λh₁ hit₁ hs₁=>?_);refine VaC (VaD (ZhS hne n (i+1) _ _ hit₁ (ht.extBut hs₁.extBut hne) (by omega) λh₂ hit₂ hs₂=>VaI ?_));have hd:items.toList.drop i=items[i]::items.toList.drop (i+1):=by simp [VbG,hlt]
  have:=hQ h₂ (by rw [show i+(n+1)=i+1+n by omega];exact hit₂) (hs₁.trans hs₂);rw [hd,List.take_succ_cons] at this;exact this
def Ze8{t:Addr}{items:Array Value}{Q:List Value->Shared->Prop}(hh:A.handled=none)(ht:s.heap.IsList t items)
  (hQ:∀h',Heap.ExtBut s.heap.objs.size s.heap h'->Q items.toList { s with heap:=h' }):wpAny (model prog w) A (unpackItems (.ref t) items.size none) Q E s:=by
 have hlt:t≠s.heap.objs.size:=by obtain ⟨o,ho,_⟩:=ht;exact Vaf (Vac ho)
 unfold unpackItems;refine VaC ?_
 ·unfold notIterableAtAll;refine VaC (wpAny_specialOf ht.typeIs F.slot_list_iter.lookup ?_);refine VaI ?_;simp only [VbH,Vbg];refine VaC (VaD (wpAny_pyIter_list ht ?_));refine VaC (VaD (ZhS hlt items.size 0 _ _ ⟨_,VaK _ rfl,rfl,rfl⟩ (ht.push _) (by omega) λh₁ hit₁ hs₁=>?_));have hall:List.take items.size (List.drop 0 items.toList)=items.toList:=by
   rw [VbI];exact VbJ (by simp)
  rw [hall];rw [if_neg (by simp)];have ht₁:h₁.IsList t items:=(ht.push _).extBut hs₁.extBut hlt;refine VaC (VaD (wpAny_pyNext_list_end hh hit₁ ht₁ (by simp) λh₂ he₂=>?_));simp only [Option.isSome_none,VbH,Vbg];refine VaI (hQ h₂ λb o hb e=>he₂ b o hb (hs₁.extBut b o hb (VaJ _ e)))
def ZeL{env:Env}{elts:List Expr}{x1}{pos:Pos}{t:Addr}{items:Array Value}{Q:Unit->Shared->Prop}(hh:A.handled=none)(ht:s.heap.IsList t items)
  (hn:(assignEach elts env).length=items.size) (hstar:(assignEach elts env).findIdx? (·.1)=none)
  (h:∀h',Heap.ExtBut s.heap.objs.size s.heap h'->wpAny (model prog w) A (assignInOrder ((assignEach elts env).map (·.2)) items.toList) Q E { s with heap:=h' }) :
  wpAny (model prog w) A (assign (.Tuple elts x1 pos) env (.ref t)) Q E s:=by
 rw [assign_Tuple];refine VaC (VaE ?_);unfold unpack;rw [hn,hstar];exact VaC (VaD (Ze8 hh ht h))
end
end L2
namespace Dl
open PySem
inductive D where
 | non | bl (b:Bool) | int (i:Int) | str (x:Str) | ty (n:String) | cls (c:Str)
 | tup (xs:List D) | lst (xs:List D) | exc (c:Str) | ins (c:Str) (ns:List Str) (vs:List D)
def tagX(n:Nat)(c:Str):Str:=⟨((0x110000+n)::c.cps.toList).toArray⟩
def pay(c:Str):Option Nat:=match c.cps.toList with
 | k::_=>if 0x110000<=k then some (k - 0x110000) else none
 | []=>none
def clsOf(c:Str):Str:=match c.cps.toList with
 | k::r=>if 0x110000<=k then ⟨r.toArray⟩ else c
 | []=>c
def ZiI(n:Nat)(c:Str):pay (tagX n c)=some n:=by
 unfold pay tagX;simp
def ZfG(n:Nat)(c:Str):clsOf (tagX n c)=c:=by
 unfold clsOf tagX;simp
inductive Res(α:Type) where
 | ok (a:α) | ex (c:Str) | bad
def Res.bind{α β:Type}:Res α->(α->Res β)->Res β
 | .ok a,f=>f a
 | .ex c,_=>.ex c
 | .bad,_=>.bad
def Za0{α β:Type}(a:α)(f:α->Res β):(Res.ok a).bind f=f a:=rfl
inductive Cl where
 | no | im (d:D) | ow (ds:List D)
abbrev Ev:=List Cl
abbrev ME:=Ev->Res D
abbrev MB:=Ev->Res Bool
abbrev MA:=Ev->Res (List D)
def getC:Option Cl->Res D
 | some (.im d)=>.ok d
 | _=>.bad
def v(i:Nat):ME:=λρ=>getC ρ[i]?
def c(d:D):ME:=λ_=>.ok d
def o1(f:D->Res D)(a:ME):ME:=λρ=>(a ρ).bind f
def o2(f:D->D->Res D)(a b:ME):ME:=λρ=>(a ρ).bind λx=>(b ρ).bind λy=>f x y
def yaa:MA:=λ_=>.ok []
def Zaa(a:ME)(r:MA):MA:=λρ=>(a ρ).bind λx=>(r ρ).bind λxs=>.ok (x::xs)
def on(f:List D->Res D)(a:MA):ME:=λρ=>(a ρ).bind f
def mtp(a:MA):ME:=λρ=>(a ρ).bind λxs=>.ok (.tup xs)
def mls(a:MA):ME:=λρ=>(a ρ).bind λxs=>.ok (.lst xs)
def tru:D->Res Bool
 | .bl b=>.ok b
 | _=>.bad
def trb(a:ME):MB:=λρ=>(a ρ).bind tru
def bAnd(a b:MB):MB:=λρ=>(a ρ).bind λx=>if x=true then b ρ else .ok false
def bOr(a b:MB):MB:=λρ=>(a ρ).bind λx=>if x=true then .ok true else b ρ
def bNot(a:MB):MB:=λρ=>(a ρ).bind λx=>.ok (!x)
def eAnd(a b:ME):ME:=λρ=>(trb a ρ).bind λx=>if x=true then b ρ else .ok (.bl false)
def eNot(a:ME):ME:=λρ=>(trb a ρ).bind λx=>.ok (.bl (!x))
def ife(t:MB)(a b:ME):ME:=λρ=>(t ρ).bind λx=>if x=true then a ρ else b ρ
def Zgc(a b:Int):Bool:=decide (a.natAbs<2^64)||decide (b.natAbs<2^64)||decide (a.natAbs.log2+b.natAbs.log2<100000000)
def LIM:Nat:=1000000
def yac:D->D->Res D
 | .int a,.int b=>.ok (.int (a+b))
 | .lst a,.lst b=>if a.length+b.length<=LIM then .ok (.lst (a++b)) else .bad
 | .tup a,.tup b=>if a.length+b.length<=LIM then .ok (.tup (a++b)) else .bad
 | .str a,.str b=>if a.length+b.length<=LIM then .ok (.str (a++b)) else .bad
 | _,_=>.bad
def ii(f:Int->Int->Res D):D->D->Res D
 | .int a,.int b=>f a b
 | _,_=>.bad
def iSub(a b:Int):Res D:=.ok (.int (a - b))
def iMul(a b:Int):Res D:=if Zgc a b=true then .ok (.int (a*b)) else .bad
def iMod(a b:Int):Res D:=if 0<b then .ok (.int (a%b)) else if b=0 then .bad else .ok (.int (a.fmod b))
def iDiv(a b:Int):Res D:=if b.natAbs.log2<9000 then (if 0<b then .ok (.int (a/b)) else if b=0 then .bad else .ok (.int (a.fdiv b))) else .bad
def iPow(a b:Int):Res D:=if 0<=b/\b<=1000000/\a.natAbs<2^64 then .ok (.int (a^b.toNat)) else .bad
def iShl(a b:Int):Res D:=if 0<=b/\b<=1000000/\a.natAbs<2^64 then .ok (.int (a*2^b.toNat)) else .bad
def iShr(a b:Int):Res D:=if 0<=b then .ok (.int (a/2^b.toNat)) else .bad
def iLt(a b:Int):Res D:=.ok (.bl (decide (a<b)))
def iLe(a b:Int):Res D:=.ok (.bl (decide (a<=b)))
def iGt(a b:Int):Res D:=.ok (.bl (decide (b<a)))
def iGe(a b:Int):Res D:=.ok (.bl (decide (b<=a)))
abbrev dSub:=ii iSub
abbrev ydk:=ii iMul
abbrev ybY:=ii iMod
abbrev ydd:=ii iDiv
abbrev dPow:=ii iPow
abbrev dShl:=ii iShl
abbrev dShr:=ii iShr
abbrev dLt:=ii iLt
abbrev dLe:=ii iLe
abbrev dGt:=ii iGt
abbrev dGe:=ii iGe
def dNeg:D->Res D
 | .int a=>.ok (.int (-a))
 | _=>.bad
mutual
def eqD:D->D->Bool
 | .non,.non=>true
 | .bl a,.bl b=>a==b
 | .bl a,.int j=>(if a then 1 else 0)==j
 | .int i,.bl b=>i==(if b then 1 else 0)
 | .int i,.int j=>i==j
 | .str x,.str y=>x==y
 | .lst xs,.lst ys=>eqDs xs ys
 | .tup xs,.tup ys=>eqDs xs ys
 | _,_=>false
def eqDs:List D->List D->Bool
 | [],[]=>true
 | x::xs,y::ys=>eqD x y&&eqDs xs ys
 | _,_=>false
end
mutual
def plain:Nat->D->Bool
 | _,.non=>true
 | _,.bl _=>true
 | _,.int _=>true
 | _,.str x=>x.cps.all (·<0x110000)
 | k+1,.tup xs=>Zaz k xs
 | k+1,.lst xs=>Zaz k xs
 | _,_=>false
def Zaz:Nat->List D->Bool
 | _,[]=>true
 | k,x::xs=>plain k x&&Zaz k xs
end
def dEq(x y:D):Res D:=if plain 50 x&&plain 50 y then .ok (.bl (eqD x y)) else .bad
def dNe(x y:D):Res D:=if plain 50 x&&plain 50 y then .ok (.bl (!eqD x y)) else .bad
def inD(x:D)(ys:List D):Bool:=ys.any λy=>eqD y x
def seqD:D->Res (List D)
 | .lst ys=>.ok ys
 | .tup ys=>.ok ys
 | _=>.bad
def dNin(x y:D):Res D:=(seqD y).bind λys=>if plain 50 x&&Zaz 50 ys then .ok (.bl (!inD x ys)) else .bad
def at_{α:Type}(xs:List α)(i:Int):Option α:=if 0<=i then xs[i.toNat]? else if -(xs.length:Int)<=i then xs[(i+xs.length).toNat]? else none
def ofO{α:Type}:Option α->Res α
 | some a=>.ok a
 | none=>.bad
def dIx:D->D->Res D
 | .lst xs,.int i=>ofO (at_ xs i)
 | .tup xs,.int i=>ofO (at_ xs i)
 | _,_=>.bad
def cutAt(n d:Nat):Option Int->Nat
 | none=>d
 | some i=>if i<0 then (i+n).toNat else min i.toNat n
def cutL(xs:List D)(lo hi:Option Int):List D:=(xs.drop (cutAt xs.length 0 lo)).take (cutAt xs.length xs.length hi - cutAt xs.length 0 lo)
def dCut(x:D)(lo hi:Option Int):Res D:=match x with
 | .lst xs=>.ok (.lst (cutL xs lo hi))
 | .tup xs=>.ok (.tup (cutL xs lo hi))
 | _=>.bad
def pno:Ev->Res (Option Int):=λ_=>.ok none
def optI:D->Res (Option Int)
 | .int i=>.ok (some i)
 | _=>.bad
def pso(a:ME):Ev->Res (Option Int):=λρ=>(a ρ).bind optI
def cut(a:ME)(lo hi:Ev->Res (Option Int)):ME:=λρ=>(a ρ).bind λx=>(lo ρ).bind λl=>(hi ρ).bind λh=>dCut x l h
def bLen:List D->Res D
 | [.lst xs]=>.ok (.int xs.length)
 | [.tup xs]=>.ok (.int xs.length)
 | _=>.bad
def bAbs:List D->Res D
 | [.int i]=>.ok (.int (if i<0 then -i else i))
 | _=>.bad
def bTup:List D->Res D
 | [.lst xs]=>.ok (.tup xs)
 | [.tup xs]=>.ok (.tup xs)
 | _=>.bad
def bLst:List D->Res D
 | [.lst xs]=>.ok (.lst xs)
 | [.tup xs]=>.ok (.lst xs)
 | _=>.bad
def Zjw:D->Option String
 | .non=>some "NoneType"
 | .bl _=>some "bool"
 | .int _=>some "int"
 | .str _=>some "str"
 | .tup _=>some "tuple"
 | .lst _=>some "list"
 | _=>none
def isTy(t n:String):Bool:=t==n||(t == "bool"&&n == "int")
def ZjK:List String:=["int", "bool", "str", "tuple", "list", "dict"]
def bIsi:List D->Res D
 | [x,.ty n]=>if ZjK.contains n=true then (ofO (Zjw x)).bind λt=>.ok (.bl (isTy t n)) else .bad
 | _=>.bad
def bools:List D->Res (List Bool)
 | []=>.ok []
 | d::r=>match d with
  | .bl b=>(bools r).bind λbs=>.ok (b::bs)
  | _=>.bad
def bAll:List D->Res D
 | [d]=>match d with
  | .lst xs=>(bools xs).bind λbs=>.ok (.bl (bs.all id))
  | _=>.bad
 | _=>.bad
def oneX(tc:List (Str×Str×Bool))(tt:List (Str×String×Bool))(c:Str):D->Res Bool
 | .cls k=>ofO ((tc.find? λe=>e.1==c&&e.2.1==k).map (·.2.2))
 | .ty n=>ofO ((tt.find? λe=>e.1==c&&e.2.1==n).map (·.2.2))
 | _=>.bad
def anyX(tc:List (Str×Str×Bool))(tt:List (Str×String×Bool))(c:Str):List D->Res Bool
 | []=>.ok false
 | k::r=>(oneX tc tt c k).bind λb=>if b=true then .ok true else anyX tc tt c r
def askX(tc:List (Str×Str×Bool))(tt:List (Str×String×Bool))(c:Str):D->Res D
 | .tup []=>.bad
 | .tup (k::ks)=>(anyX tc tt c (k::ks)).bind λb=>.ok (.bl b)
 | k=>(oneX tc tt c k).bind λb=>.ok (.bl b)
def bIsX(tc:List (Str×Str×Bool))(tt:List (Str×String×Bool)):List D->Res D
 | [d,k]=>match d with
  | .exc c=>askX tc tt (clsOf c) k
  | _=>.bad
 | _=>.bad
abbrev MI:=Ev->Res (List D)
def items:D->Res (List D)
 | .lst xs=>.ok xs
 | .tup xs=>.ok xs
 | _=>.bad
def iv(a:ME):MI:=λρ=>(a ρ).bind items
def Zbe(lo:Int)(n:Nat):List D:=(List.range n).map λ(k:Nat)=>D.int (lo+(k:Int))
def rng1:List D->Res (List D)
 | [.int j]=>if -1000000000<=j/\j<=1000000000 then .ok (Zbe 0 j.toNat) else .bad
 | _=>.bad
def r1(a:MA):MI:=λρ=>(a ρ).bind rng1
def rng2:List D->Res (List D)
 | [.int i,.int j]=>if (-1000000000<=i/\i<=1000000000)/\(-1000000000<=j/\j<=1000000000) then .ok (Zbe i (j - i).toNat) else .bad
 | _=>.bad
def r2(a:MA):MI:=λρ=>(a ρ).bind rng2
abbrev MG:=D->Ev->Res Ev
abbrev MGs:=List D->Ev->Res Ev
def gN(i:Nat):MG:=λd ρ=>.ok (ρ.set i (.im d))
def gs0:MGs:=λds ρ=>match ds with
 | []=>.ok ρ
 | _=>.bad
def gs1(g:MG)(r:MGs):MGs:=λds ρ=>match ds with
 | d::ds=>(g d ρ).bind λρ'=>r ds ρ'
 | []=>.bad
def gU(n:Nat)(g:MGs):MG:=λd ρ=>(items d).bind λxs=>if xs.length=n then g xs ρ else .bad
def imOf:Option Cl->Cl
 | some (.im d)=>.im d
 | _=>.no
def yar(ρ:Ev):List Nat->Ev
 | []=>[]
 | j::r=>imOf ρ[j]?::yar ρ r
def noA:Nat->Ev->Ev
 | 0,e=>e
 | k+1,e=>.no::noA k e
def Zak(g:MG)(t:MB)(e:ME)(ρ0:Ev):List D->Res (List D)
 | []=>.ok []
 | x::r=>(g x ρ0).bind λρ1=>(t ρ1).bind λb=>if b=true then (e ρ1).bind λy=>(Zak g t e ρ0 r).bind λys=>.ok (y::ys) else Zak g t e ρ0 r
def yes:MB:=λ_=>.ok true
def noEx{α:Type}:Res α->Res α
 | .ex _=>.bad
 | r=>r
def comp(it:MI)(own:Nat)(cap:List Nat)(g:MG)(t:MB)(e:ME):ME:=λρ=>(it ρ).bind λxs =>
 if xs.length<=LIM then (noEx (Zak g t e (noA own (yar ρ cap)) xs)).bind λys=>.ok (.lst ys) else .bad
inductive Fl where
 | nx (ρ:Ev) | rt (d:D) | bk (ρ:Ev) | ct (ρ:Ev)
abbrev MS:=Ev->Res Fl
def nop:MS:=λρ=>.ok (.nx ρ)
def goOn(b:MS):Fl->Res Fl
 | .nx ρ=>b ρ
 | f=>.ok f
def sq(a b:MS):MS:=λρ=>(a ρ).bind (goOn b)
def st(i:Nat)(e:ME):MS:=λρ=>(e ρ).bind λd=>.ok (.nx (ρ.set i (.im d)))
def lstO:D->Res (List D)
 | .lst xs=>.ok xs
 | _=>.bad
def stO(i:Nat)(e:ME):MS:=λρ=>(e ρ).bind λd=>(lstO d).bind λxs=>.ok (.nx (ρ.set i (.ow xs)))
def getO:Option Cl->Res (List D)
 | some (.ow xs)=>.ok xs
 | _=>.bad
def frz(i:Nat)(m:MS):MS:=λρ=>(getO ρ[i]?).bind λxs=>m (ρ.set i (.im (.lst xs)))
def app(i:Nat)(e:ME):MS:=λρ=>(getO ρ[i]?).bind λxs=>(e ρ).bind λd=>if xs.length<LIM then .ok (.nx (ρ.set i (.ow (xs++[d])))) else .bad
def asg(g:MG)(e:ME):MS:=λρ=>(e ρ).bind λd=>(g d ρ).bind λρ'=>.ok (.nx ρ')
def drp(e:ME):MS:=λρ=>(e ρ).bind λ_=>.ok (.nx ρ)
def ret(e:ME):MS:=λρ=>(e ρ).bind λd=>.ok (.rt d)
def ifs(t:MB)(a b:MS):MS:=λρ=>(t ρ).bind λx=>if x=true then a ρ else b ρ
def rse(c:Str)(a:MA):MS:=λρ=>(a ρ).bind λ_=>.ex c
def endT(i:Nat):Res Fl->Res Fl
 | .ok (.nx ρ)=>.ok (.nx (ρ.set i .no))
 | .ok (.bk ρ)=>.ok (.bk (ρ.set i .no))
 | .ok (.ct ρ)=>.ok (.ct (ρ.set i .no))
 | .ok (.rt d)=>.ok (.rt d)
 | _=>.bad
def Zov(hits:List Str)(i:Nat)(b:MS)(ρ:Ev):Res D->Res Fl
 | .ok _=>.ok (.nx ρ)
 | .ex c=>if hits.contains (clsOf c)=true then endT i (b (ρ.set i (.im (.exc c)))) else .bad
 | .bad=>.bad
def turn(k:MS):Fl->Res Fl
 | .nx ρ=>k ρ
 | .ct ρ=>k ρ
 | .bk ρ=>.ok (.nx ρ)
 | .rt d=>.ok (.rt d)
def ZeN(g:MG)(b:MS):List D->MS
 | [],ρ=>.ok (.nx ρ)
 | x::r,ρ=>(g x ρ).bind λρ1=>(b ρ1).bind (turn (ZeN g b r))
def for_(it:MI)(g:MG)(b:MS):MS:=λρ=>(it ρ).bind λxs=>ZeN g b xs ρ
def whGo(t:MB)(b:MS):Nat->MS
 | 0,_=>.bad
 | n+1,ρ=>(t ρ).bind λx=>if x=true then (b ρ).bind (turn (whGo t b n)) else .ok (.nx ρ)
def absC:Cl->Nat
 | .im (.int i)=>i.natAbs
 | _=>0
def fuel(ρ:Ev):Nat:=(ρ.map absC).sum+1
def whl(n:Ev->Nat)(t:MB)(b:MS):MS:=λρ=>whGo t b (n ρ) ρ
def evF:List D->Nat->Ev
 | [],k=>noA k []
 | d::r,k=>.im d::evF r (k - 1)
def ev0(n:Nat)(ds:List D):Ev:=evF ds n
def ZjH:∀(k:Nat) (e:Ev),noA k e=List.replicate k .no++e
 | 0,_=>rfl
 | k+1,e=>by rw [noA,ZjH k e,List.replicate_succ,List.cons_append]
def Zg4(ρ:Ev):∀cap:List Nat,yar ρ cap=cap.map λj=>imOf ρ[j]?
 | []=>rfl
 | j::r=>by rw [yar,Zg4 ρ r,VaV]
def Zh5:∀(ds:List D) (n:Nat),ev0 n ds=ds.map .im++List.replicate (n - ds.length) .no
 | [],n=>by show noA n []=_;rw [ZjH];simp
 | d::r,n=>by
  have ih:=Zh5 r (n - 1);show .im d::ev0 (n - 1) r=_;rw [ih,VaV,List.cons_append,VaT,Nat.sub_sub,Nat.add_comm 1]
def endOf:Fl->Res D
 | .rt d=>.ok d
 | .nx _=>.ok .non
 | _=>.bad
def fn(n:Nat)(b:MS)(ds:List D):Res D:=(b (ev0 n ds)).bind endOf
end Dl
namespace L2.Ds
open PySem PySem.Spec PyProof.Rows Dl
def XcO(H:Hp)(a:Addr)(cls:Value)(d:Addr)(p:Option Addr):Prop:=match p with
 | none=>H a=some (exO a cls)
 | some n=>H a=some (exC a cls d)/\H d=some (.xd [("at", .int (((show Nat from n)/2:Nat):Int))])
def XcO.same{H H':Hp}{a d:Addr}{cls:Value}{p:Option Addr}(h:XcO H a cls d p)(e:∀b o,H b=some o->(∀xs,o≠.lst xs)->H' b=some o):XcO H' a cls d p:=by
 cases p with
 | none=>exact e _ _ h λ_ z=>by cases z
 | some n=>exact ⟨e _ _ h.1 (λ_ z=>by cases z),e _ _ h.2 (λ_ z=>by cases z)⟩
def XcO.ext{H:Hp}{a d:Addr}{cls:Value}{p:Option Addr}(h:XcO H a cls d p):∃φ,H a=some (.ext φ)/\∀g,φ g->ExcAt a cls g:=by
 cases p with
 | none=>exact ⟨_,h,λ_ z=>z⟩
 | some n=>exact ⟨_,h.1,λ_ ⟨o,z1,z2,_⟩=>⟨o,z1,z2⟩⟩
mutual
inductive Rp(K:W.Frag)(mg:Str->Option Value)(H:Hp):V->D->Prop
 | non:Rp K mg H .non .non
 | bl (b:Bool):Rp K mg H (.bl b) (.bl b)
 | int (i:Int):Rp K mg H (.int i) (.int i)
 | str (x:Str):Rp K mg H (.str x) (.str x)
 | ty (n:String):Rp K mg H (.ty n) (.ty n)
 | cls {c:Str} {C:Addr} (h:mg c=some (.ref C)):Rp K mg H (.ref C) (.cls c)
 | tup {a:Addr} {xs:List V} {ds:List D} (h:SqT K H a xs) (r:Rps K mg H xs ds):Rp K mg H (.ref a) (.tup ds)
 | lst {a:Addr} {xs:List V} {ds:List D} (h:SqL K H a xs) (r:Rps K mg H xs ds):Rp K mg H (.ref a) (.lst ds)
 | exc {c:Str} {C a d:Addr} (m:mg (clsOf c)=some (.ref C)) (h:XcO H a (.ref C) d (pay c)):Rp K mg H (.ref a) (.exc c)
 | ins {c:Str} {C a dx:Addr} {fs:List (Str×V)} {xs:List V} {vs:List D} (m:mg c=some (.ref C)) (h:H a=some (.ins C dx fs)) (o:H dx=some (.own a)) (e:fs.map (·.2)=xs) (r:Rps K mg H xs vs):Rp K mg H (.ref a) (.ins c (fs.map (·.1)) vs)
inductive Rps(K:W.Frag)(mg:Str->Option Value)(H:Hp):List V->List D->Prop
 | nil:Rps K mg H [] []
 | cons {x:V} {xs:List V} {d:D} {ds:List D} (h:Rp K mg H x d) (r:Rps K mg H xs ds):Rps K mg H (x::xs) (d::ds)
end
section
variable{K:W.Frag}{mg:Str->Option Value}{H H':Hp}
def Zax{a:Addr}{xs:List V}(e:Same H H')(h:SqT K H a xs):SqT K H' a xs:=by
 rcases h with (h | ⟨o,h⟩) | h
 ·exact .inl (.inl (e _ _ h))
 ·exact .inl (.inr ⟨o,e _ _ h⟩)
 ·exact .inr h
mutual
def Rp.same(e:Same H H'):∀{x:V} {d:D},Rp K mg H x d->Rp K mg H' x d
 | _,_,.non=>.non
 | _,_,.bl b=>.bl b
 | _,_,.int i=>.int i
 | _,_,.str x=>.str x
 | _,_,.ty n=>.ty n
 | _,_,.cls h=>.cls h
 | _,_,.tup h r=>.tup (Zax e h) (Rps.same e r)
 | _,_,.lst h r=>.lst (e.seq h) (Rps.same e r)
 | _,_,.exc m h=>.exc m (h.same λb o z _=>e b o z)
 | _,_,.ins m h o q r=>.ins m (e _ _ h) (e _ _ o) q (Rps.same e r)
def Rps.same(e:Same H H'):∀{xs:List V} {ds:List D},Rps K mg H xs ds->Rps K mg H' xs ds
 | _,_,.nil=>.nil
 | _,_,.cons h r=>.cons (Rp.same e h) (Rps.same e r)
end
def Rps.length:∀{xs:List V} {ds:List D},Rps K mg H xs ds->xs.length=ds.length
 | _,_,.nil=>rfl
 | _,_,.cons _ r=>Vaz (·+1) (Rps.length r)
def Rps.get:∀{xs:List V} {ds:List D} {i:Nat} {d:D},Rps K mg H xs ds->ds[i]?=some d->∃x,xs[i]?=some x/\Rp K mg H x d
 | _,_,_,_,.nil,e=>by simp at e
 | _,_,0,_,.cons h _,e=>by simp at e;subst e;exact ⟨_,rfl,h⟩
 | _,_,i+1,_,.cons _ r,e=>by
  obtain ⟨x,h1,h2⟩:=Rps.get (i:=i) r (by simpa using e);exact ⟨x,by simpa using h1,h2⟩
def Rps.app{ys:List V}{es:List D}(q:Rps K mg H ys es):∀{xs:List V} {ds:List D},Rps K mg H xs ds->Rps K mg H (xs++ys) (ds++es)
 | _,_,.nil=>q
 | _,_,.cons h r=>.cons h (Rps.app q r)
def Rps.rev:∀{xs:List V} {ds:List D},Rps K mg H xs ds->Rps K mg H xs.reverse ds.reverse
 | _,_,.nil=>.nil
 | _,_,.cons h r=>by
  rw [List.reverse_cons,List.reverse_cons];exact Rps.app (.cons h .nil) (Rps.rev r)
def Rps.drop:∀{xs:List V} {ds:List D} (n:Nat),Rps K mg H xs ds->Rps K mg H (xs.drop n) (ds.drop n)
 | _,_,0,r=>r
 | _,_,_+1,.nil=>.nil
 | _,_,n+1,.cons _ r=>Rps.drop n r
def Rps.take:∀{xs:List V} {ds:List D} (n:Nat),Rps K mg H xs ds->Rps K mg H (xs.take n) (ds.take n)
 | _,_,0,_=>.nil
 | _,_,_+1,.nil=>.nil
 | _,_,n+1,.cons h r=>.cons h (Rps.take n r)
def Rps.one{xs:List V}{d:D}(h:Rps K mg H xs [d]):∃x,xs=[x]/\Rp K mg H x d:=by
 cases h with | cons h r=>cases r;exact ⟨_,rfl,h⟩
def Rps.two{xs:List V}{d e:D}(h:Rps K mg H xs [d,e]):∃x y,xs=[x,y]/\Rp K mg H x d/\Rp K mg H y e:=by
 cases h with | cons h r=>obtain ⟨_,rfl,g⟩:=Rps.one r;exact ⟨_,_,rfl,h,g⟩
end
structure Gr(F H F' H':Hp):Prop where
 f:Same F F'
 s:Same F' H'
 o:∀a o,F a=none->H a=some o->F' a=none/\H' a=some o
 z:∀a o u,F' a=some (.frz o u)->F a=some (.frz o u)
def Gr.refl{F H:Hp}(s:Same F H):Gr F H F H:=⟨Same.refl _,s,λ_ _ h1 h2=>⟨h1,h2⟩,λ_ _ _ h=>h⟩
def Gr.trans{F H F1 H1 F2 H2:Hp}(g:Gr F H F1 H1)(h:Gr F1 H1 F2 H2):Gr F H F2 H2:=⟨g.f.trans h.f,h.s,λa o h1 h2=>let ⟨q1,q2⟩:=g.o a o h1 h2;h.o a o q1 q2,λa o u e=>g.z a o u (h.z a o u e)⟩
def ZnB{F H:Hp}{p:Addr}{o:HO}(s:Same F H):Same (upd F p o) (upd H p o):=λb u e=>by
 by_cases hb:b=p
 ·subst hb;rw [Zag] at e ⊢;exact e
 ·rw [Zae hb] at e ⊢;exact s b u e
def ZiR{F:Hp}{p a:Addr}{o:HO}{o':Obj}{u:HO}(nz:∀o' u,o≠.frz o' u)(e:upd F p o a=some (.frz o' u)):F a=some (.frz o' u):=by
 by_cases ne:a=p
 ·subst ne;rw [Zag] at e;exact absurd (Vaw e) (nz o' u)
 ·rw [Zae ne] at e;exact e
def Gr.new{F H:Hp}{p:Addr}(s:Same F H)(h:H p=none)(o:HO)(nz:∀o' u,o≠.frz o' u:=by intro _ _ z;cases z):Gr F H (upd F p o) (upd H p o) :=
 ⟨ZaE (s.free h) o,ZnB s,λa u h1 h2=>by
  have ne:a≠p:=Zah h2 h;rw [Zae ne,Zae ne];exact ⟨h1,h2⟩,λa o' u e=>by
  by_cases ne:a=p
  ·subst ne;rw [Zag] at e;exact absurd (Vaw e) (nz o' u)
  ·rw [Zae ne] at e;exact e⟩
def Zsn{F H:Hp}{x d:Addr}{cls:Value}{p:Option Addr}(s:Same F H)(hx:H x=none)(hd:p.isSome=true->H d=none/\d≠x):∃F',Gr F H F' (trkX p x d cls H)/\XcO F' x cls d p:=by
 cases p with
 | none=>exact ⟨_,Gr.new s hx _,Zag⟩
 | some n =>
  obtain ⟨h1,h2⟩:=hd rfl;have g1:=Gr.new s hx (exC x cls d);have g2:=Gr.new g1.s (p:=d) (by rw [Zae h2];exact h1) (.xd [("at", .int (((show Nat from n)/2:Nat):Int))]);exact ⟨_,g1.trans g2,by rw [Zae (Ne.symm h2)];exact Zag,Zag⟩
structure Rep(K:W.Frag)(mg:Str->Option Value)(F0 H0 F H:Hp)(σ:St)(ρ:Ev):Prop where
 g:Gr F0 H0 F H
 len:σ.length=ρ.length
 im:∀(i:Nat) (d:D),ρ[i]?=some (.im d)->∃x,σ[i]?=some (some x)/\Rp K mg F x d
 ow:∀(i:Nat) (ds:List D),ρ[i]?=some (.ow ds)->∃a xs,σ[i]?=some (some (.ref a))/\H0 a=none/\F a=none/\H a=some (.lst xs)/\Rps K mg F xs ds
 ne:∀(i j:Nat) (ds es:List D) (a:Addr),ρ[i]?=some (.ow ds)->ρ[j]?=some (.ow es)->σ[i]?=some (some (.ref a))->σ[j]?=some (some (.ref a))->i=j
section
variable{K:W.Frag}{mg:Str->Option Value}{F0 H0 F H F' H':Hp}{σ:St}{ρ:Ev}
def Rep.gr(r:Rep K mg F0 H0 F H σ ρ)(g:Gr F H F' H'):Rep K mg F0 H0 F' H' σ ρ:=by
 refine ⟨r.g.trans g,r.len,λi d e=>?_,λi ds e=>?_,r.ne⟩
 ·obtain ⟨x,h1,h2⟩:=r.im i d e;exact ⟨x,h1,h2.same g.f⟩
 ·obtain ⟨a,xs,h1,h2,h3,h4,h5⟩:=r.ow i ds e;obtain ⟨q1,q2⟩:=g.o a _ h3 h4;exact ⟨a,xs,h1,h2,q1,q2,h5.same g.f⟩
def ZaC{α:Type}{l:List α}{i j:Nat}{x y:α}(h:(l.set i x)[j]?=some y):(i=j/\y=x/\i<l.length)\/(i≠j/\l[j]?=some y):=by
 rw [List.getElem?_set] at h;by_cases e:i=j
 ·rw [if_pos e] at h;split at h
  ·exact .inl ⟨e,(Vaw h).symm,by assumption⟩
  ·cases h
 ·rw [if_neg e] at h;exact .inr ⟨e,h⟩
def ZgC{α:Type}{l:List α}{i:Nat}{x:α}(h:i<l.length):(l.set i x)[i]?=some x:=by
 rw [List.getElem?_set,if_pos rfl,if_pos h]
def Za4{α:Type}{l:List α}{i j:Nat}{x:α}(h:i≠j):(l.set i x)[j]?=l[j]?:=by
 rw [List.getElem?_set,if_neg h]
def Rep.set{x:V}{d:D}(r:Rep K mg F0 H0 F H σ ρ)(i:Nat)(h:Rp K mg F x d):Rep K mg F0 H0 F H (σ.set i (some x)) (ρ.set i (.im d)):=by
 refine ⟨r.g,by rw [Vbq,Vbq];exact r.len,λj e q=>?_,λj ds q=>?_,λj k ds es a q1 q2 q3 q4=>?_⟩
 ·rcases ZaC q with ⟨rfl,z,l⟩ | ⟨hij,q⟩
  ·cases z;exact ⟨x,ZgC (by rw [r.len];exact l),h⟩
  ·rw [Za4 hij];exact r.im j e q
 ·rcases ZaC q with ⟨_,z,_⟩ | ⟨hij,q⟩
  ·cases z
  ·rw [Za4 hij];exact r.ow j ds q
 ·rcases ZaC q1 with ⟨_,z,_⟩ | ⟨h1,q1⟩
  ·cases z
  ·rcases ZaC q2 with ⟨_,z,_⟩ | ⟨h2,q2⟩
   ·cases z
   ·rw [Za4 h1] at q3;rw [Za4 h2] at q4;exact r.ne j k ds es a q1 q2 q3 q4
def Rep.own{a:Addr}{xs:List V}{ds:List D}(r:Rep K mg F0 H0 F H σ ρ)(i:Nat)(hn:H a=none)(h:Rps K mg F xs ds):Rep K mg F0 H0 F (upd H a (.lst xs)) (σ.set i (some (.ref a))) (ρ.set i (.ow ds)):=by
 have fa:F a=none:=r.g.s.free hn;have h0a:H0 a=none:=by
  cases q:H0 a with
  | none=>rfl
  | some o =>
   cases q2:F0 a with
   | none=>rw [(r.g.o a o q2 q).2] at hn;cases hn
   | some u=>rw [r.g.f a u q2] at fa;cases fa
 have nea:∀{j:Nat} {es:List D} {b:Addr},ρ[j]?=some (.ow es)->σ[j]?=some (some (.ref b))->b≠a:=λ{j es b} q1 q2=>by
  obtain ⟨b',xs',h1,_,_,h4,_⟩:=r.ow j es q1;rw [q2] at h1;cases h1;exact Zah h4 hn
 refine ⟨⟨r.g.f,λb o e=>?_,λb o e1 e2=>?_,r.g.z⟩,by rw [Vbq,Vbq];exact r.len,λj e q=>?_,λj es q=>?_,λj k es ts b q1 q2 q3 q4=>?_⟩
 ·rw [Zae (Zah e fa)];exact r.g.s b o e
 ·rw [Zae (Zah e2 h0a)];exact r.g.o b o e1 e2
 ·rcases ZaC q with ⟨_,z,_⟩ | ⟨hij,q⟩
  ·cases z
  ·rw [Za4 hij];exact r.im j e q
 ·rcases ZaC q with ⟨rfl,z,l⟩ | ⟨hij,q⟩
  ·cases z;exact ⟨a,xs,ZgC (by rw [r.len];exact l),h0a,fa,Zag,h⟩
  ·rw [Za4 hij];obtain ⟨b,ys,h1,h2,h3,h4,h5⟩:=r.ow j es q;exact ⟨b,ys,h1,h2,h3,by rw [Zae (Zah h4 hn)];exact h4,h5⟩
 ·rcases ZaC q1 with ⟨rfl,_,l1⟩ | ⟨h1,q1⟩
  ·rcases ZaC q2 with ⟨rfl,_,_⟩ | ⟨h2,q2⟩
   ·rfl
   ·rw [ZgC (by rw [r.len];exact l1)] at q3;rw [Za4 h2] at q4;cases q3;exact absurd rfl (nea q2 q4)
  ·rcases ZaC q2 with ⟨rfl,_,l2⟩ | ⟨h2,q2⟩
   ·rw [ZgC (by rw [r.len];exact l2)] at q4;rw [Za4 h1] at q3;cases q4;exact absurd rfl (nea q1 q3)
   ·rw [Za4 h1] at q3;rw [Za4 h2] at q4;exact r.ne j k es ts b q1 q2 q3 q4
def Rep.app{i:Nat}{x:V}{d:D}{ds:List D}{a:Addr}{xs:List V}(r:Rep K mg F0 H0 F H σ ρ)(e:ρ[i]?=some (.ow ds))(e2:σ[i]?=some (some (.ref a)))(e3:H a=some (.lst xs))(e4:H0 a=none)(e5:F a=none)(hr:Rps K mg F xs ds)(h:Rp K mg F x d) :
  Rep K mg F0 H0 F (upd H a (.lst (xs++[x]))) σ (ρ.set i (.ow (ds++[d]))):=by
 have li:i<ρ.length:=(Vat.mp e).1;refine ⟨⟨r.g.f,λb o q=>?_,λb o q1 q2=>?_,r.g.z⟩,by rw [Vbq];exact r.len,λj u q=>?_,λj es q=>?_,λj k es ts b q1 q2 q3 q4=>?_⟩
 ·rw [Zae (Zah q e5)];exact r.g.s b o q
 ·rw [Zae (Zah q2 e4)];exact r.g.o b o q1 q2
 ·rcases ZaC q with ⟨_,z,_⟩ | ⟨_,q⟩
  ·cases z
  ·exact r.im j u q
 ·rcases ZaC q with ⟨rfl,z,l⟩ | ⟨hij,q⟩
  ·cases z;exact ⟨a,_,e2,e4,e5,Zag,Rps.app (.cons h .nil) hr⟩
  ·obtain ⟨b,ys,h1,h2,h3,h4,h5⟩:=r.ow j es q;have nb:b≠a:=by
    rintro rfl;exact hij (r.ne i j ds es b e q e2 h1)
   exact ⟨b,ys,h1,h2,h3,by rw [Zae nb];exact h4,h5⟩
 ·have o1:∃es',ρ[j]?=some (.ow es'):=by
   rcases ZaC q1 with ⟨rfl,_,_⟩ | ⟨_,q⟩
   ·exact ⟨_,e⟩
   ·exact ⟨_,q⟩
  have o2:∃es',ρ[k]?=some (.ow es'):=by
   rcases ZaC q2 with ⟨rfl,_,_⟩ | ⟨_,q⟩
   ·exact ⟨_,e⟩
   ·exact ⟨_,q⟩
  obtain ⟨_,o1⟩:=o1;obtain ⟨_,o2⟩:=o2;exact r.ne j k _ _ b o1 o2 q3 q4
def Rep.frz{i:Nat}{ds:List D}(r:Rep K mg F0 H0 F H σ ρ)(e:ρ[i]?=some (.ow ds)):∃F',Same F F'/\Rep K mg F0 H0 F' H σ (ρ.set i (.im (.lst ds))):=by
 obtain ⟨a,xs,e2,e4,e5,e3,hr⟩:=r.ow i ds e;have sF:Same F (upd F a (.lst xs)):=ZaE e5 _;refine ⟨upd F a (.lst xs),sF,⟨r.g.f.trans sF,λb o q=>?_,λb o q1 q2=>?_,λb o u q=>r.g.z b o u (ZiR (λ_ _ z=>by cases z) q)⟩,by rw [Vbq];exact r.len,λj u q=>?_,λj es q=>?_,λj k es ts b q1 q2 q3 q4=>?_⟩
 ·by_cases hb:b=a
  ·subst hb;rw [Zag] at q;cases q;exact e3
  ·rw [Zae hb] at q;exact r.g.s b o q
 ·rw [Zae (Zah q2 e4)];exact r.g.o b o q1 q2
 ·rcases ZaC q with ⟨rfl,z,_⟩ | ⟨_,q⟩
  ·cases z;exact ⟨.ref a,e2,.lst (SqL.of Zag) (hr.same sF)⟩
  ·obtain ⟨x,h1,h2⟩:=r.im j u q;exact ⟨x,h1,h2.same sF⟩
 ·rcases ZaC q with ⟨_,z,_⟩ | ⟨hij,q⟩
  ·cases z
  ·obtain ⟨b,ys,h1,h2,h3,h4,h5⟩:=r.ow j es q;have nb:b≠a:=by
    rintro rfl;exact hij (r.ne i j ds es b e q e2 h1)
   exact ⟨b,ys,h1,h2,by rw [Zae nb];exact h3,h4,h5.same sF⟩
 ·rcases ZaC q1 with ⟨_,z,_⟩ | ⟨_,q1⟩
  ·cases z
  ·rcases ZaC q2 with ⟨_,z,_⟩ | ⟨_,q2⟩
   ·cases z
   ·exact r.ne j k es ts b q1 q2 q3 q4
end
def Ans{α β:Type}(mg:Str->Option Value)(E:XK)(R:Hp->β->α->Prop)(F H:Hp)(r:Res α)(w:(β->Hp->Prop)->Prop):Prop :=
 match r with
 | .ok a=>∀Q:β->Hp->Prop,(∀F' H' b,Gr F H F' H'->R F' b a->Q b H')->w Q
 | .ex c=>∀Q:β->Hp->Prop,(∀F' H' C,Gr F H F' H'->mg (clsOf c)=some (.ref C)->E (.ref C) (pay c) H')->w Q
 | .bad=>True
section
variable{α β γ δ:Type}{mg:Str->Option Value}{E:XK}{R:Hp->β->α->Prop}{R':Hp->δ->γ->Prop}{F H:Hp}
def Ans.ret{a:α}{b:β}{w:(β->Hp->Prop)->Prop}(s:Same F H)(r:R F b a)(h:∀Q:β->Hp->Prop,Q b H->w Q):Ans mg E R F H (.ok a) w:=λQ q=>h Q (q F H b (.refl s) r)
def Ans.bindE{r:Res α}{w:(β->Hp->Prop)->Prop}{k:α->Res γ}{w':β->Hp->(δ->Hp->Prop)->Prop}(h1:Ans mg E R F H r w)(h2:∀a,r=.ok a->∀F1 H1 b,Gr F H F1 H1->R F1 b a->Ans mg E R' F1 H1 (k a) (w' b H1)) :
  Ans mg E R' F H (r.bind k) (λQ=>w λb H1=>w' b H1 Q):=by
 cases r with
 | ok a =>
  show Ans mg E R' F H (k a) _;have h2':=h2 a rfl;generalize k a=r2 at h2';cases r2 with
  | ok d=>exact λQ q=>h1 _ λF1 H1 b g rb=>h2' F1 H1 b g rb Q λF2 H2 e g2 re=>q F2 H2 e (g.trans g2) re
  | ex c=>exact λQ q=>h1 _ λF1 H1 b g rb=>h2' F1 H1 b g rb Q λF2 H2 C g2 hc=>q F2 H2 C (g.trans g2) hc
  | bad=>trivial
 | ex c=>exact λQ q=>h1 _ q
 | bad=>trivial
def Ans.bind{r:Res α}{w:(β->Hp->Prop)->Prop}{k:α->Res γ}{w':β->Hp->(δ->Hp->Prop)->Prop}(h1:Ans mg E R F H r w)(h2:∀F1 H1 b a,Gr F H F1 H1->R F1 b a->Ans mg E R' F1 H1 (k a) (w' b H1)) :
  Ans mg E R' F H (r.bind k) (λQ=>w λb H1=>w' b H1 Q):=h1.bindE λa _ F1 H1 b g q=>h2 F1 H1 b a g q
end
def AnsS(K:W.Frag)(mg:Str->Option Value)(E:XK)(F0 H0 F:Hp)(r:Res Fl)(w:Ends->Prop):Prop :=
 match r with
 | .ok (.nx ρ)=>∀D:Ends,(∀F' H' σ',Same F F'->Rep K mg F0 H0 F' H' σ' ρ->D.nx σ' H')->w D
 | .ok (.bk ρ)=>∀D:Ends,(∀F' H' σ',Same F F'->Rep K mg F0 H0 F' H' σ' ρ->D.bk σ' H')->w D
 | .ok (.ct ρ)=>∀D:Ends,(∀F' H' σ',Same F F'->Rep K mg F0 H0 F' H' σ' ρ->D.ct σ' H')->w D
 | .ok (.rt d)=>∀D:Ends,(∀F' H' x,Gr F0 H0 F' H'->Rp K mg F' x d->D.rt x H')->w D
 | .ex c=>∀D:Ends,(∀F' H' C,Gr F0 H0 F' H'->mg (clsOf c)=some (.ref C)->E (.ref C) (pay c) H')->w D
 | .bad=>True
abbrev RB:Hp->Bool->Bool->Prop:=λ_ b b'=>b=b'
abbrev RO:Hp->Option Int->Option Int->Prop:=λ_ b b'=>b=b'
def SE(K:W.Frag)(mg:Str->Option Value)(E:XK)(t:TE)(m:ME):Prop:=∀F0 H0 F H σ ρ,Rep K mg F0 H0 F H σ ρ->Ans mg E (Rp K mg) F H (m ρ) (t σ H)
def STt(K:W.Frag)(mg:Str->Option Value)(E:XK)(t:TT)(m:MB):Prop:=∀F0 H0 F H σ ρ,Rep K mg F0 H0 F H σ ρ->Ans mg E RB F H (m ρ) (t σ H)
def SA(K:W.Frag)(mg:Str->Option Value)(E:XK)(t:TA)(m:MA):Prop:=∀F0 H0 F H σ ρ,Rep K mg F0 H0 F H σ ρ->Ans mg E (Rps K mg) F H (m ρ) (t σ H)
def SO(K:W.Frag)(mg:Str->Option Value)(E:XK)(t:TO)(m:Ev->Res (Option Int)):Prop:=∀F0 H0 F H σ ρ,Rep K mg F0 H0 F H σ ρ->Ans mg E RO F H (m ρ) (t σ H)
def SS(K:W.Frag)(mg:Str->Option Value)(E:XK)(t:TS)(m:MS):Prop:=∀F0 H0 F H σ ρ,Rep K mg F0 H0 F H σ ρ->AnsS K mg E F0 H0 F (m ρ) (λD=>t D σ H)
def AnsG(K:W.Frag)(mg:Str->Option Value)(F0 H0 F:Hp)(n:Nat)(σ:St)(r:Res Ev)(w:(St->Hp->Prop)->Prop):Prop :=
 match r with
 | .ok ρ'=>∀Q:St->Hp->Prop,(∀F' H' σ',Same F F'->Rep K mg F0 H0 F' H' σ' ρ'->σ'.drop n=σ.drop n->Q σ' H')->w Q
 | _=>True
def SG(K:W.Frag)(mg:Str->Option Value)(n:Nat)(t:TG)(g:MG):Prop:=∀F0 H0 F H σ ρ x d,Rep K mg F0 H0 F H σ ρ->Rp K mg F x d->AnsG K mg F0 H0 F n σ (g d ρ) (t x σ H)
def SGs(K:W.Frag)(mg:Str->Option Value)(n:Nat)(t:TGs)(g:MGs):Prop:=∀F0 H0 F H σ ρ xs ds,Rep K mg F0 H0 F H σ ρ->Rps K mg F xs ds->AnsG K mg F0 H0 F n σ (g ds ρ) (t xs σ H)
def ItOk(K:W.Frag)(mg:Str->Option Value)(F:Hp)(J:It)(ds:List D):Prop:=∀F' H',Same F F'->Same F' H'->∀i:Nat,
 (∀d,ds[i]?=some d->J.go i H'/\∀x H'',J.yld i H' x H''->∃F'',Gr F' H' F'' H''/\Rp K mg F'' x d)/\(ds.length<=i->J.stop i H')
def SI(K:W.Frag)(mg:Str->Option Value)(E:XK)(t:TI)(m:MI):Prop:=∀F0 H0 F H σ ρ,Rep K mg F0 H0 F H σ ρ->Ans mg E (ItOk K mg) F H (m ρ) (t σ H)
def OpD(K:W.Frag)(mg:Str->Option Value)(r:R2)(f:D->D->Res D):Prop:=∀(E:XK) F H x y dx dy,Same F H->Rp K mg F x dx->Rp K mg F y dy->Ans mg E (Rp K mg) F H (f dx dy) (r x y H)
def UnD(K:W.Frag)(mg:Str->Option Value)(r:V->Hp->VK->Prop)(f:D->Res D):Prop:=∀(E:XK) F H x dx,Same F H->Rp K mg F x dx->Ans mg E (Rp K mg) F H (f dx) (r x H)
def CallD(K:W.Frag)(mg:Str->Option Value)(r:List V->Hp->VK->Prop)(f:List D->Res D):Prop:=∀(E:XK) F H xs ds,Same F H->Rps K mg F xs ds->Ans mg E (Rp K mg) F H (f ds) (r xs H)
section
variable{K:W.Frag}{mg:Str->Option Value}{E:XK}{ta tb tc:TE}{ma mb mc:ME}{sa sb:TT}{na nb:MB}
def Rep.ss{F0 H0 F H:Hp}{σ:St}{ρ:Ev}(r:Rep K mg F0 H0 F H σ ρ):Same F H:=r.g.s
def se_v(i:Nat):SE K mg E (tVar i) (v i):=by
 intro F0 H0 F H σ ρ r;unfold v getC;split
 ·next d h =>
  obtain ⟨x,h1,h2⟩:=r.im i d h;exact .ret r.ss h2 λQ q=>⟨x,h1,q⟩
 ·trivial
def se_c{x:V}{d:D}(h:∀F,Rp K mg F x d):SE K mg E (tC x) (c d):=λ_ _ F _ _ _ r=>.ret r.ss (h F) λ_ q=>q
def ZmY{r:R2}{f:D->D->Res D}(hf:OpD K mg r f)(ha:SE K mg E ta ma)(hb:SE K mg E tb mb):SE K mg E (tOp r ta tb) (o2 f ma mb):=by
 intro F0 H0 F H σ ρ rr;refine (ha F0 H0 F H σ ρ rr).bind λF1 H1 x dx g1 rx=>?_;refine (hb F0 H0 F1 H1 σ ρ (rr.gr g1)).bind λF2 H2 y dy g2 ry=>?_;exact hf E F2 H2 x y dx dy g2.s (rx.same g2.f) ry
def ZsV{r:V->Hp->VK->Prop}{f:D->Res D}(hf:UnD K mg r f)(ha:SE K mg E ta ma):SE K mg E (tUn r ta) (o1 f ma):=by
 intro F0 H0 F H σ ρ rr;exact (ha F0 H0 F H σ ρ rr).bind λF1 H1 x dx g1 rx=>hf E F1 H1 x dx g1.s rx
def Zn5:SA K mg E tNil yaa:=λ_ _ _ _ _ _ r=>.ret r.ss .nil λ_ q=>q
def ZoB{t:TA}{m:MA}(ha:SE K mg E ta ma)(hr:SA K mg E t m):SA K mg E (ZdD ta t) (Zaa ma m):=by
 intro F0 H0 F H σ ρ rr;refine (ha F0 H0 F H σ ρ rr).bind λF1 H1 x dx g1 rx=>?_;refine (hr F0 H0 F1 H1 σ ρ (rr.gr g1)).bind λF2 H2 xs ds g2 rs=>?_;exact .ret g2.s (.cons (rx.same g2.f) rs) λ_ q=>q
def ZqS{r:List V->Hp->VK->Prop}{f:List D->Res D}{t:TA}{m:MA}(hf:CallD K mg r f)(ha:SA K mg E t m):SE K mg E (tCB r t) (on f m):=by
 intro F0 H0 F H σ ρ rr;exact (ha F0 H0 F H σ ρ rr).bind λF1 H1 x dx g1 rx=>hf E F1 H1 x dx g1.s rx
def Zdm{α:Type}{R:Hp->V->α->Prop}{F H:Hp}{a:α}{o:HO}{w:VK->Prop}(s:Same F H)(hr:∀p,H p=none->R (upd F p o) (.ref p) a)(h:∀Q:VK,(∀p,H p=none->Q (.ref p) (upd H p o))->w Q)(nz:∀o' u,o≠.frz o' u:=by intro _ _ z;cases z):Ans mg E R F H (.ok a) w :=
 λQ q=>h Q λp hp=>q (upd F p o) (upd H p o) (.ref p) (.new s hp o nz) (hr p hp)
def SAn(n:Nat)(m:MA):Prop:=∀ρ ds,m ρ=.ok ds->ds.length=n
def ZkK:SAn 0 yaa:=λρ ds h=>by cases h;rfl
def Znh{n:Nat}{m:MA}(h:SAn n m):SAn (n+1) (Zaa ma m):=λρ ds e=>by
 unfold Zaa at e;cases ea:ma ρ with
 | ok x =>
  rw [ea] at e;cases em:m ρ with
  | ok xs =>
   have e':(m ρ).bind (λxs=>Res.ok (x::xs))=.ok ds:=e;rw [em] at e';have e2:Res.ok (x::xs)=.ok ds:=e';cases e2;exact Vaz (·+1) (h ρ xs em)
  | ex c =>
   have e':(m ρ).bind (λxs=>Res.ok (x::xs))=.ok ds:=e;rw [em] at e';cases e'
  | bad =>
   have e':(m ρ).bind (λxs=>Res.ok (x::xs))=.ok ds:=e;rw [em] at e';cases e'
 | ex c=>rw [ea] at e;cases e
 | bad=>rw [ea] at e;cases e
def ZrU{t:TA}{m:MA}{n:Nat}(ha:SA K mg E t m)(hl:SAn n m)(hn:n<=sizeLine):SE K mg E (tTup t) (mtp m):=by
 intro F0 H0 F H σ ρ rr;have h:=ha F0 H0 F H σ ρ rr;unfold mtp;cases e:m ρ with
 | ok ds =>
  rw [e] at h;exact λQ q=>h _ λF' H' xs g rs=>⟨by rw [rs.length,hl ρ ds e];exact hn,λp hp=>q _ _ _ (g.trans (.new g.s hp _)) (.tup (SqT.of Zag) (rs.same (ZaE (g.s.free hp) _)))⟩
 | ex c =>
  rw [e] at h;exact λQ q=>h _ q
 | bad=>trivial
def Zr7{t:TA}{m:MA}{n:Nat}(ha:SA K mg E t m)(hl:SAn n m)(hn:n<=sizeLine):SE K mg E (tLst t) (mls m):=by
 intro F0 H0 F H σ ρ rr;have h:=ha F0 H0 F H σ ρ rr;unfold mls;cases e:m ρ with
 | ok ds =>
  rw [e] at h;exact λQ q=>h _ λF' H' xs g rs=>⟨by rw [rs.length,hl ρ ds e];exact hn,λp hp=>q _ _ _ (g.trans (.new g.s hp _)) (.lst (SqL.of Zag) (rs.same (ZaE (g.s.free hp) _)))⟩
 | ex c =>
  rw [e] at h;exact λQ q=>h _ q
 | bad=>trivial
def st_b(ha:SE K mg E ta ma):STt K mg E (L2.tB ta) (trb ma):=by
 intro F0 H0 F H σ ρ rr;refine (ha F0 H0 F H σ ρ rr).bind λF1 H1 x dx g1 rx=>?_;cases dx with
 | bl b=>cases rx;exact .ret g1.s rfl λQ q=>⟨b,rfl,q⟩
 | _=>trivial
def Zqj(ha:SE K mg E ta ma):STt K mg E (ZfO ta) (trb ma):=st_b ha
def ZrR(ha:STt K mg E sa na)(hb:STt K mg E sb nb):STt K mg E (tAnd sa sb) (bAnd na nb):=by
 intro F0 H0 F H σ ρ rr;refine (ha F0 H0 F H σ ρ rr).bind λF1 H1 x dx g1 rx=>?_;cases (show x=dx from rx);cases x with
 | true =>
  have z:=hb F0 H0 F1 H1 σ ρ (rr.gr g1);simp only [Vbh];exact z
 | false =>
  simp only [VbH,Vbg];exact Ans.ret (R:=RB) g1.s rfl λQ q=>q
def Zt5(ha:STt K mg E sa na)(hb:STt K mg E sb nb):STt K mg E (tOr sa sb) (bOr na nb):=by
 intro F0 H0 F H σ ρ rr;refine (ha F0 H0 F H σ ρ rr).bind λF1 H1 x dx g1 rx=>?_;cases (show x=dx from rx);cases x with
 | true =>
  simp only [Vbh];exact Ans.ret (R:=RB) g1.s rfl λQ q=>q
 | false =>
  have z:=hb F0 H0 F1 H1 σ ρ (rr.gr g1);simp only [VbH,Vbg];exact z
def ZqX(ha:STt K mg E sa na):STt K mg E (tNot sa) (bNot na):=by
 intro F0 H0 F H σ ρ rr;refine (ha F0 H0 F H σ ρ rr).bind λF1 H1 x dx g1 rx=>?_;cases (show x=dx from rx);exact Ans.ret (R:=RB) g1.s rfl λQ q=>q
def Zrh(ha:SE K mg E ta ma)(hb:SE K mg E tb mb):SE K mg E (Zp7 ta tb) (eAnd ma mb):=by
 intro F0 H0 F H σ ρ rr;have z:=(st_b ha F0 H0 F H σ ρ rr).bind (R':=Rp K mg) (k:=λx=>if x=true then mb ρ else .ok (D.bl false)) (w':=λc H1 Q=>if c=true then tb σ H1 Q else Q (V.bl false) H1) λF1 H1 x dx g1 rx=>by
  cases (show x=dx from rx);cases x with
  | true =>
   have z:=hb F0 H0 F1 H1 σ ρ (rr.gr g1);simp only [Vbh];exact z
  | false =>
   simp only [VbH,Vbg];exact Ans.ret (R:=Rp K mg) g1.s (.bl false) λQ q=>q
 exact z
def ZsM(ha:SE K mg E ta ma):SE K mg E (Zqu ta) (eNot ma):=by
 intro F0 H0 F H σ ρ rr;exact (st_b ha F0 H0 F H σ ρ rr).bind (R':=Rp K mg) (k:=λx=>.ok (D.bl (!x))) (w':=λc H1 Q=>Q (V.bl (!c)) H1) λF1 H1 x dx g1 rx=>by
  cases (show x=dx from rx);exact Ans.ret (R:=Rp K mg) g1.s (.bl _) λQ q=>q
def Zr9(hc:STt K mg E sa na)(ha:SE K mg E ta ma)(hb:SE K mg E tb mb):SE K mg E (tIf sa ta tb) (ife na ma mb):=by
 intro F0 H0 F H σ ρ rr;refine (hc F0 H0 F H σ ρ rr).bind λF1 H1 x dx g1 rx=>?_;cases (show x=dx from rx);cases x with
 | true =>
  have z:=ha F0 H0 F1 H1 σ ρ (rr.gr g1);simp only [Vbh];exact z
 | false =>
  have z:=hb F0 H0 F1 H1 σ ρ (rr.gr g1);simp only [VbH,Vbg];exact z
end
section
variable{K:W.Frag}{mg:Str->Option Value}{E:XK}
def Zox{r:R2}{f:Int->Int->Res D}(h:∀(E:XK) F H a b,Same F H->Ans mg E (Rp K mg) F H (f a b) (r (.int a) (.int b) H)):OpD K mg r (ii f):=by
 intro E F H x y dx dy s rx ry;unfold ii;split
 ·cases rx;cases ry;exact h E F H _ _ s
 ·trivial
def ZkB{C:Int->Int->Prop}{g:Int->Int->V}{f:Int->Int->Res D}(h:∀a b,(∃d,f a b=.ok d/\C a b/\∀F,Rp K mg F (g a b) d)\/f a b=.bad):OpD K mg (rI C g) (ii f):=by
 refine Zox λE F H a b s=>?_;rcases h a b with ⟨d,e,hc,hr⟩ | e
 ·rw [e];exact .ret s (hr F) λQ q=>⟨a,b,rfl,rfl,hc,q⟩
 ·rw [e];trivial
def Zh6{g:Int->Int->V}{f:Int->Int->Res D}(h:∀a b,(∃d,f a b=.ok d/\∀F,Rp K mg F (g a b) d)\/f a b=.bad):OpD K mg (rI0 g) (ii f):=by
 refine Zox λE F H a b s=>?_;rcases h a b with ⟨d,e,hr⟩ | e
 ·rw [e];exact .ret s (hr F) λQ q=>⟨a,b,rfl,rfl,q⟩
 ·rw [e];trivial
def Zpl:OpD K mg (rI0 λi j=>.int (i - j)) dSub:=Zh6 λ_ _=>.inl ⟨_,rfl,λ_=>.int _⟩
def Zsg:OpD K mg (rI0 λi j=>.bl (decide (i<j))) dLt:=Zh6 λ_ _=>.inl ⟨_,rfl,λ_=>.bl _⟩
def Zob:OpD K mg (rI0 λi j=>.bl (decide (i<=j))) dLe:=Zh6 λ_ _=>.inl ⟨_,rfl,λ_=>.bl _⟩
def Zq7:OpD K mg (rI0 λi j=>.bl (decide (j<i))) dGt:=Zh6 λ_ _=>.inl ⟨_,rfl,λ_=>.bl _⟩
def Zn8:OpD K mg (rI0 λi j=>.bl (decide (j<=i))) dGe:=Zh6 λ_ _=>.inl ⟨_,rfl,λ_=>.bl _⟩
def ZpM:OpD K mg (rI (λ_ j=>j≠0) λi j=>.int (i.fmod j)) ybY:=ZkB λa b=>by
 unfold iMod;by_cases h1:0<b
 ·rw [if_pos h1];exact .inl ⟨_,rfl,by omega,λ_=>by rw [Int.fmod_eq_emod_of_nonneg a (by omega)];exact .int _⟩
 ·rw [if_neg h1];by_cases h2:b=0
  ·rw [if_pos h2];exact .inr rfl
  ·rw [if_neg h2];exact .inl ⟨_,rfl,h2,λ_=>.int _⟩
def ZoM:OpD K mg (rI Zp2 λi j=>.int (i.fdiv j)) ydd:=ZkB λa b=>by
 unfold iDiv;by_cases h0:b.natAbs.log2<9000
 ·rw [if_pos h0];by_cases h1:0<b
  ·rw [if_pos h1];exact .inl ⟨_,rfl,⟨by omega,h0⟩,λ_=>by rw [Int.fdiv_eq_ediv_of_nonneg a (by omega)];exact .int _⟩
  ·rw [if_neg h1];by_cases h2:b=0
   ·rw [if_pos h2];exact .inr rfl
   ·rw [if_neg h2];exact .inl ⟨_,rfl,⟨h2,h0⟩,λ_=>.int _⟩
 ·rw [if_neg h0];exact .inr rfl
def Zpo:OpD K mg (rI CPow λi j=>.int (i^j.toNat)) dPow:=ZkB λa b=>by
 unfold iPow;by_cases h:0<=b/\b<=1000000/\a.natAbs<2^64
 ·rw [if_pos h];exact .inl ⟨_,rfl,h,λ_=>.int _⟩
 ·rw [if_neg h];exact .inr rfl
def ZqB:OpD K mg (rI CPow λi j=>.int (i*2^j.toNat)) dShl:=ZkB λa b=>by
 unfold iShl;by_cases h:0<=b/\b<=1000000/\a.natAbs<2^64
 ·rw [if_pos h];exact .inl ⟨_,rfl,h,λ_=>.int _⟩
 ·rw [if_neg h];exact .inr rfl
def Zp4:OpD K mg (rI (λ_ j=>0<=j) λi j=>.int (i/2^j.toNat)) dShr:=ZkB λa b=>by
 unfold iShr;by_cases h:0<=b
 ·rw [if_pos h];exact .inl ⟨_,rfl,h,λ_=>.int _⟩
 ·rw [if_neg h];exact .inr rfl
def Zqf{r:V->Hp->VK->Prop}(h:∀i H Q,Q (.int (-i)) H->r (.int i) H Q):UnD K mg r dNeg:=by
 intro E F H x dx s rx;unfold dNeg;split
 ·cases rx;exact .ret s (.int _) λQ q=>h _ _ _ q
 ·trivial
def ZsB(K:W.Frag):R2:=λx y H Q=>∃l b xs zs,x=.ref l/\y=.ref b/\SqL K H l xs/\SqL K H b zs/\xs.length+zs.length<=sizeLine/\∀p,H p=none->Q (.ref p) (upd H p (.lst (xs++zs)))
def Zs8(K:W.Frag):R2:=λx y H Q=>∃a b xs ys,x=.ref a/\y=.ref b/\SqT K H a xs/\SqT K H b ys/\xs.length+ys.length<=sizeLine /\
 (xs=[]->Q (.ref b) H)/\(xs≠[]->ys=[]->Q (.ref a) H)/\(xs≠[]->ys≠[]->∀p,H p=none->Q (.ref p) (upd H p (.tup (xs++ys))))
def Zuf:R2:=λx y H Q=>∃i j:Str,x=.str i/\y=.str j/\i.length+j.length<=sizeLine/\Q (.str (i++j)) H
def ZlS(K:W.Frag):R2:=λx y H Q=>rI0 (λi j=>.int (i+j)) x y H Q\/ZsB K x y H Q\/Zs8 K x y H Q\/Zuf x y H Q
def Zdl{n:Nat}(h:n<=LIM):n<=sizeLine:=Vak h (by decide)
def Zqz:OpD K mg (ZlS K) yac:=by
 intro E F H x y dx dy s rx ry;unfold yac;split
 ·cases rx;cases ry;exact .ret s (.int _) λQ q=>.inl ⟨_,_,rfl,rfl,q⟩
 ·next as bs =>
  by_cases h:as.length+bs.length<=LIM
  ·rw [if_pos h];cases rx with
   | lst ha ra =>
    cases ry with
    | lst hb rb =>
     refine Zdm s (o:=.lst _) (λp hp=>.lst (SqL.of Zag) ((Rps.app rb ra).same (ZaE (s.free hp) _))) λQ q=>.inr (.inl ⟨_,_,_,_,rfl,rfl,s.seq ha,s.seq hb,?_,q⟩);rw [ra.length,rb.length];exact Zdl h
  ·rw [if_neg h];trivial
 ·next as bs =>
  by_cases h:as.length+bs.length<=LIM
  ·rw [if_pos h];cases rx with
   | tup ha ra =>
    cases ry with
    | tup hb rb =>
     rename_i a xs b ys;have hl:xs.length+ys.length<=sizeLine:=by rw [ra.length,rb.length];exact Zdl h
     intro Q q;refine .inr (.inr (.inl ⟨a,b,xs,ys,rfl,rfl,Zax s ha,Zax s hb,hl,λe=>?_,λ_ e=>?_,λ_ _ p hp=>?_⟩))
     ·subst e;cases ra;exact q F H _ (.refl s) (.tup hb rb)
     ·subst e;cases rb;rw [Va1] at q;exact q F H _ (.refl s) (.tup ha ra)
     ·exact q _ _ _ (.new s hp _) (.tup (SqT.of Zag) ((Rps.app rb ra).same (ZaE (s.free hp) _)))
  ·rw [if_neg h];trivial
 ·next a b =>
  by_cases h:a.length+b.length<=LIM
  ·rw [if_pos h];cases rx;cases ry;exact .ret s (.str _) λQ q=>.inr (.inr (.inr ⟨_,_,rfl,rfl,Zdl h,q⟩))
  ·rw [if_neg h];trivial
 ·trivial
def ZnR{F:Hp}{xs:List V}{ds:List D}{i:Int}{d:D}(r:Rps K mg F xs ds)(h:at_ ds i=some d):∃x,atI xs i=some x/\Rp K mg F x d:=by
 have hl:=r.length;unfold at_ at h;unfold atI ixN;by_cases h0:0<=i
 ·rw [if_pos h0] at h;obtain ⟨x,e,rx⟩:=r.get h;have lt:i.toNat<xs.length:=(Vat.mp e).1;exact ⟨x,by rw [if_pos h0,if_pos (by omega)];exact e,rx⟩
 ·rw [if_neg h0] at h;by_cases h1:-(ds.length:Int)<=i
  ·rw [if_pos h1] at h;obtain ⟨x,e,rx⟩:=r.get h;exact ⟨x,by rw [if_neg h0,if_pos (by omega),hl];exact e,rx⟩
  ·rw [if_neg h1] at h;cases h
def rIxD(K:W.Frag):R2:=λx y H Q=>rIxL K x y H Q\/rIxT K x y H Q
def Zst:OpD K mg (rIxD K) dIx:=by
 intro E F H x y dx dy s rx ry;unfold dIx;split
 ·next ds i =>
  cases e:at_ ds i with
  | none=>trivial
  | some d =>
   cases rx with
   | lst ha ra =>
    cases ry;obtain ⟨z,e1,rz⟩:=ZnR ra e;exact Ans.ret s rz λQ q=>.inl ⟨_,_,_,_,rfl,rfl,s.seq ha,e1,q⟩
 ·next ds i =>
  cases e:at_ ds i with
  | none=>trivial
  | some d =>
   cases rx with
   | tup ha ra =>
    cases ry;obtain ⟨z,e1,rz⟩:=ZnR ra e;exact Ans.ret s rz λQ q=>.inr ⟨_,_,_,_,rfl,rfl,Zax s ha,e1,q⟩
 ·trivial
def ZjC(n d:Nat)(o:Option Int):cutAt n d o=HT.sIx n d o:=by cases o<;>rfl
def ZlU{F:Hp}{xs:List V}{ds:List D}(r:Rps K mg F xs ds)(lo hi:Option Int):Rps K mg F (cutV xs lo hi) (cutL ds lo hi):=by
 unfold cutV cutL;simp only [ZjC,r.length];exact (r.drop _).take _
def rSlU(K:W.Frag):V->Option Int->Option Int->Hp->VK->Prop:=λx lo hi H Q=>∃a xs,x=.ref a/\SqT K H a xs /\
 ((HT.sIx xs.length 0 lo=0/\HT.sIx xs.length xs.length hi=xs.length)->Q (.ref a) H)/\(¬(HT.sIx xs.length 0 lo=0/\HT.sIx xs.length xs.length hi=xs.length)->∀p,H p=none->Q (.ref p) (upd H p (.tup (cutV xs lo hi))))
def rSlD(K:W.Frag):V->Option Int->Option Int->Hp->VK->Prop:=λx lo hi H Q=>rSlL K x lo hi H Q\/rSlU K x lo hi H Q
def Zso{ta:TE}{ma:ME}{tl th:TO}{ml mh:Ev->Res (Option Int)}(ha:SE K mg E ta ma)(hl:SO K mg E tl ml)(hh:SO K mg E th mh):SE K mg E (tSl (rSlD K) ta tl th) (cut ma ml mh):=by
 intro F0 H0 F H σ ρ rr;refine (ha F0 H0 F H σ ρ rr).bind λF1 H1 x dx g1 rx=>?_;refine (hl F0 H0 F1 H1 σ ρ (rr.gr g1)).bind λF2 H2 l l' g2 e2=>?_;cases (show l=l' from e2);refine (hh F0 H0 F2 H2 σ ρ ((rr.gr g1).gr g2)).bind λF3 H3 h h' g3 e3=>?_;cases (show h=h' from e3);have rx':=rx.same (g2.f.trans g3.f);unfold dCut;split
 ·cases rx' with
  | lst hx r =>
   refine Zdm g3.s (o:=.lst _) (λp hp=>.lst (SqL.of Zag) ((ZlU r l h).same (ZaE (g3.s.free hp) _))) λQ q=>.inl ⟨_,_,rfl,g3.s.seq hx,q⟩
 ·cases rx' with
  | tup hx r =>
   rename_i ds a xs;intro Q q;refine .inr ⟨a,xs,rfl,Zax g3.s hx,λe=>?_,λ_ p hp=>q _ _ _ (.new g3.s hp _) (.tup (SqT.of Zag) ((ZlU r l h).same (ZaE (g3.s.free hp) _)))⟩;have ec:cutL ds l h=ds:=by
    unfold cutL;simp only [ZjC,<-r.length,e.1,e.2];rw [VbI,Nat.sub_zero,r.length,List.take_length]
   rw [ec] at q;exact q F3 H3 _ (.refl g3.s) (.tup hx r)
 ·trivial
def Zo8:SO K mg E ZiO pno:=λ_ _ _ _ _ _ r=>Ans.ret (R:=RO) r.ss rfl λ_ q=>q
def Zpr{ta:TE}{ma:ME}(ha:SE K mg E ta ma):SO K mg E (ZpG ta) (pso ma):=by
 intro F0 H0 F H σ ρ rr;refine (ha F0 H0 F H σ ρ rr).bind λF1 H1 x dx g1 rx=>?_;cases dx with
 | int i=>cases rx;exact Ans.ret (R:=RO) g1.s rfl λQ q=>⟨i,rfl,q⟩
 | _=>trivial
def Zlq:CallD K mg (λxs H Q=>∃p ys,xs=[.ref p]/\(SqL K H p ys\/SqT K H p ys)/\Q (.int ys.length) H) bLen:=by
 intro E F H xs ds s r;unfold bLen;split
 ·obtain ⟨x,rfl,rx⟩:=r.one;cases rx with
  | lst h q=>rw [<-q.length];exact .ret s (.int _) λQ q=>⟨_,_,rfl,.inl (s.seq h),q⟩
 ·obtain ⟨x,rfl,rx⟩:=r.one;cases rx with
  | tup h q=>rw [<-q.length];exact .ret s (.int _) λQ q=>⟨_,_,rfl,.inr (Zax s h),q⟩
 ·trivial
def Zmi:CallD K mg (λxs H Q=>∃i,xs=[.int i]/\Q (.int (if i<0 then -i else i)) H) bAbs:=by
 intro E F H xs ds s r;unfold bAbs;split
 ·obtain ⟨x,rfl,rx⟩:=r.one;cases rx;exact .ret s (.int _) λQ q=>⟨_,rfl,q⟩
 ·trivial
def Zek:CallD K mg (λxs H Q=>∃p ys,xs=[.ref p]/\((SqL K H p ys/\∀l,H l=none->Q (.ref l) (upd H l (.tup ys)))\/(SqT K H p ys/\Q (.ref p) H))) bTup:=by
 intro E F H xs ds s r;unfold bTup;split
 ·obtain ⟨x,rfl,rx⟩:=r.one;cases rx with
  | lst h q=>exact Zdm s (o:=.tup _) (λp hp=>.tup (SqT.of Zag) (q.same (ZaE (s.free hp) _))) λQ z=>⟨_,_,rfl,.inl ⟨s.seq h,z⟩⟩
 ·obtain ⟨x,rfl,rx⟩:=r.one;cases rx with
  | tup h q=>exact .ret s (.tup h q) λQ z=>⟨_,_,rfl,.inr ⟨Zax s h,z⟩⟩
 ·trivial
def Zkq:CallD K mg (λxs H Q=>∃p ys,xs=[.ref p]/\(SqL K H p ys\/SqT K H p ys)/\∀l,H l=none->Q (.ref l) (upd H l (.lst ys))) bLst:=by
 intro E F H xs ds s r;unfold bLst;split
 ·obtain ⟨x,rfl,rx⟩:=r.one;cases rx with
  | lst h q=>exact Zdm s (o:=.lst _) (λp hp=>.lst (SqL.of Zag) (q.same (ZaE (s.free hp) _))) λQ z=>⟨_,_,rfl,.inl (s.seq h),z⟩
 ·obtain ⟨x,rfl,rx⟩:=r.one;cases rx with
  | tup h q=>exact Zdm s (o:=.lst _) (λp hp=>.lst (SqL.of Zag) (q.same (ZaE (s.free hp) _))) λQ z=>⟨_,_,rfl,.inr (Zax s h),z⟩
 ·trivial
def spD(K:W.Frag)(mg:Str->Option Value)(n:Nat)(m:List D->Res D):Sp:=λvs H Q E=>vs.length=n/\∃F ds,Same F H/\Rps K mg F vs ds/\m ds≠.bad /\
 (∀d,m ds=.ok d->∀F' H' x,Gr F H F' H'->Rp K mg F' x d->Q x H')/\(∀c,m ds=.ex c->∀F' H' C,Gr F H F' H'->mg (clsOf c)=some (.ref C)->E (.ref C) (pay c) H')
def Zjq{n:Nat}{m:List D->Res D}{F H:Hp}{vs:List V}{ds:List D}(s:Same F H)(r:Rps K mg F vs ds)(hl:ds.length=n):Ans mg E (Rp K mg) F H (m ds) (λQ=>spD K mg n m vs H Q E):=by
 have hv:vs.length=n:=r.length.trans hl;cases e:m ds with
 | ok d =>
  intro Q q;refine ⟨hv,F,ds,s,r,λz=>?_,λd' e'=>?_,λc e'=>?_⟩
  ·rw [e] at z;cases z
  ·rw [e] at e';cases e';exact q
  ·rw [e] at e';cases e'
 | ex c =>
  intro Q q;refine ⟨hv,F,ds,s,r,λz=>?_,λd' e'=>?_,λc e'=>?_⟩
  ·rw [e] at z;cases z
  ·rw [e] at e';cases e'
  ·rw [e] at e';cases e';exact q
 | bad=>trivial
def Zpp{n:Nat}{m:List D->Res D}{t:TA}{ma:MA}(ha:SA K mg E t ma)(hl:SAn n ma):SE K mg E (ZhM (spD K mg n m) [] E t) (on m ma):=by
 intro F0 H0 F H σ ρ rr;refine (ha F0 H0 F H σ ρ rr).bindE (w':=λvs H1 Q=>spD K mg n m (vs++[]) H1 Q E) λds e F1 H1 vs g1 rs=>?_;have z:=Zjq (E:=E) (m:=m) g1.s rs (hl ρ ds e);simp only [Va1];exact z
end
section
variable{K:W.Frag}{mg:Str->Option Value}{E:XK}{ta:TE}{ma:ME}{F0 H0 F H:Hp}
def AnsS.mono{F1:Hp}{r:Res Fl}{w:Ends->Prop}(s:Same F F1)(h:AnsS K mg E F0 H0 F1 r w):AnsS K mg E F0 H0 F r w:=by
 cases r with
 | ok f =>
  cases f with
  | nx ρ=>exact λD q=>h D λF' H' σ' s' r'=>q F' H' σ' (s.trans s') r'
  | bk ρ=>exact λD q=>h D λF' H' σ' s' r'=>q F' H' σ' (s.trans s') r'
  | ct ρ=>exact λD q=>h D λF' H' σ' s' r'=>q F' H' σ' (s.trans s') r'
  | rt d=>exact h
 | ex c=>exact h
 | bad=>trivial
def Ans.stm{α β:Type}{R:Hp->β->α->Prop}{r:Res α}{w:(β->Hp->Prop)->Prop}{k:α->Res Fl}{w':β->Hp->Ends->Prop}(h1:Ans mg E R F H r w)(g0:Gr F0 H0 F H)(h2:∀a,r=.ok a->∀F1 H1 b,Gr F H F1 H1->R F1 b a->AnsS K mg E F0 H0 F1 (k a) (w' b H1)) :
  AnsS K mg E F0 H0 F (r.bind k) (λD=>w λb H1=>w' b H1 D):=by
 cases r with
 | ok a =>
  show AnsS K mg E F0 H0 F (k a) _;have h2':=λF1 H1 b (g:Gr F H F1 H1) q=>(h2 a rfl F1 H1 b g q).mono g.f;generalize k a=r2 at h2';cases r2 with
  | ok f =>
   cases f with
   | nx ρ=>exact λD q=>h1 _ λF1 H1 b g rb=>h2' F1 H1 b g rb D q
   | bk ρ=>exact λD q=>h1 _ λF1 H1 b g rb=>h2' F1 H1 b g rb D q
   | ct ρ=>exact λD q=>h1 _ λF1 H1 b g rb=>h2' F1 H1 b g rb D q
   | rt d=>exact λD q=>h1 _ λF1 H1 b g rb=>h2' F1 H1 b g rb D q
  | ex c=>exact λD q=>h1 _ λF1 H1 b g rb=>h2' F1 H1 b g rb D q
  | bad=>trivial
 | ex c=>exact λD q=>h1 _ λF1 H1 C g hc=>q F1 H1 C (g0.trans g) hc
 | bad=>trivial
def Ztb:SS K mg E Zml nop:=λ_ _ _ _ _ _ r D q=>q _ _ _ (Same.refl _) r
def Zry{t u:TS}{m n:MS}(h1:SS K mg E t m)(h2:SS K mg E u n):SS K mg E (tSeq t u) (sq m n):=by
 intro F0 H0 F H σ ρ rr;have h:=h1 F0 H0 F H σ ρ rr;unfold sq;cases e:m ρ with
 | ok f =>
  rw [e] at h;cases f with
  | nx ρ' =>
   show AnsS K mg E F0 H0 F (n ρ') _;have h2':=λF1 H1 σ1 (s:Same F F1) r1=>(h2 F0 H0 F1 H1 σ1 ρ' r1).mono s;generalize n ρ'=r2 at h2';cases r2 with
   | ok f =>
    cases f with
    | nx ρ=>exact λD q=>h _ λF1 H1 σ1 s r1=>h2' F1 H1 σ1 s r1 D q
    | bk ρ=>exact λD q=>h _ λF1 H1 σ1 s r1=>h2' F1 H1 σ1 s r1 D q
    | ct ρ=>exact λD q=>h _ λF1 H1 σ1 s r1=>h2' F1 H1 σ1 s r1 D q
    | rt d=>exact λD q=>h _ λF1 H1 σ1 s r1=>h2' F1 H1 σ1 s r1 D q
   | ex c=>exact λD q=>h _ λF1 H1 σ1 s r1=>h2' F1 H1 σ1 s r1 D q
   | bad=>trivial
  | bk ρ'=>exact λD q=>h _ q
  | ct ρ'=>exact λD q=>h _ q
  | rt d=>exact λD q=>h _ q
 | ex c=>rw [e] at h;exact λD q=>h _ q
 | bad=>trivial
def ZoZ(ha:SE K mg E ta ma):SS K mg E (Zga ta) (drp ma):=by
 intro F0 H0 F H σ ρ rr;exact (ha F0 H0 F H σ ρ rr).stm (w':=λ_ H1 D=>D.nx σ H1) rr.g λd _ F1 H1 x g1 rx=>λD q=>q F1 H1 σ (Same.refl _) (rr.gr g1)
def Zsx(ha:SE K mg E ta ma):SS K mg E (tRet ta) (ret ma):=by
 intro F0 H0 F H σ ρ rr;exact (ha F0 H0 F H σ ρ rr).stm (w':=λx H1 D=>D.rt x H1) rr.g λd _ F1 H1 x g1 rx=>λD q=>q F1 H1 x (rr.g.trans g1) rx
def Zug{sc:TT}{nc:MB}{t u:TS}{m n:MS}(hc:STt K mg E sc nc)(h1:SS K mg E t m)(h2:SS K mg E u n):SS K mg E (tIfS sc t u) (ifs nc m n):=by
 intro F0 H0 F H σ ρ rr;refine (hc F0 H0 F H σ ρ rr).stm (w':=λb H1 D=>if b=true then t D σ H1 else u D σ H1) rr.g λb _ F1 H1 x g1 rx=>?_
 cases (show x=b from rx);cases b with
 | true =>
  have z:=h1 F0 H0 F1 H1 σ ρ (rr.gr g1);simp only [Vbh];exact z
 | false =>
  have z:=h2 F0 H0 F1 H1 σ ρ (rr.gr g1);simp only [VbH,Vbg];exact z
def Zi4{α:Type}{l:List α}{i n:Nat}{x:α}(h:i<n):(l.set i x).drop n=l.drop n:=by
 rw [List.drop_set,if_pos h]
def ZpH{i n:Nat}(h:i<n):SG K mg n (ZdH i) (gN i):=λ_ _ _ _ _ _ _ _ r rx _ q=>q _ _ _ (Same.refl _) (r.set i rx) (Zi4 h)
def ZoT{n:Nat}:SGs K mg n gNil gs0:=by
 intro F0 H0 F H σ ρ xs ds r rs;unfold gs0;split
 ·cases rs;exact λQ q=>⟨rfl,q _ _ _ (Same.refl _) r rfl⟩
 ·trivial
def Zm8{n:Nat}{t:TG}{u:TGs}{g:MG}{gs:MGs}(h1:SG K mg n t g)(h2:SGs K mg n u gs):SGs K mg n (Zqr t u) (gs1 g gs):=by
 intro F0 H0 F H σ ρ xs ds r rs;unfold gs1;cases rs with
 | nil=>trivial
 | cons rx rs =>
  rename_i x xs d ds;have h:=h1 F0 H0 F H σ ρ x d r rx;show AnsG K mg F0 H0 F n σ ((g d ρ).bind λρ'=>gs ds ρ') _;cases e:g d ρ with
  | ok ρ' =>
   rw [e] at h;show AnsG K mg F0 H0 F n σ (gs ds ρ') _;cases e2:gs ds ρ' with
   | ok ρ'' =>
    refine λQ q=>⟨x,xs,rfl,h _ λF1 H1 σ1 s1 r1 d1=>?_⟩;have h':=h2 F0 H0 F1 H1 σ1 ρ' xs ds r1 (rs.same s1);rw [e2] at h';exact h' _ λF2 H2 σ2 s2 r2 d2=>q F2 H2 σ2 (s1.trans s2) r2 (d2.trans d1)
   | ex c=>trivial
   | bad=>trivial
  | ex c=>trivial
  | bad=>trivial
def gLst(K:W.Frag)(n:Nat)(t:TGs):TG:=λv σ H Q=>∃a xs,v=.ref a/\SqL K H a xs/\xs.length=n/\t xs σ H Q
def gSeq(K:W.Frag)(n:Nat)(t:TGs):TG:=λv σ H Q=>gTup K n t v σ H Q\/gLst K n t v σ H Q
def Zr2{n k:Nat}{t:TGs}{g:MGs}(h:SGs K mg n t g):SG K mg n (gSeq K k t) (gU k g):=by
 intro F0 H0 F H σ ρ x d r rx;unfold gU items;split
 ·next ds =>
  show AnsG K mg F0 H0 F n σ (if ds.length=k then g ds ρ else .bad) _
  by_cases hl:ds.length=k
  ·rw [if_pos hl];cases rx with
   | lst ha ra =>
    have h':=h F0 H0 F H σ ρ _ _ r ra;cases e:g ds ρ with
    | ok ρ' =>
     rw [e] at h';exact λQ q=>.inr ⟨_,_,rfl,r.ss.seq ha,ra.length.trans hl,h' Q q⟩
    | ex c=>trivial
    | bad=>trivial
  ·rw [if_neg hl];trivial
 ·next ds =>
  show AnsG K mg F0 H0 F n σ (if ds.length=k then g ds ρ else .bad) _
  by_cases hl:ds.length=k
  ·rw [if_pos hl];cases rx with
   | tup ha ra =>
    have h':=h F0 H0 F H σ ρ _ _ r ra;cases e:g ds ρ with
    | ok ρ' =>
     rw [e] at h';exact λQ q=>.inl ⟨_,_,rfl,Zax r.ss ha,ra.length.trans hl,h' Q q⟩
    | ex c=>trivial
    | bad=>trivial
  ·rw [if_neg hl];trivial
 ·trivial
def Zrb{n:Nat}{t:TG}{g:MG}(ha:SE K mg E ta ma)(hg:SG K mg n t g)(hx:∀d ρ c,g d ρ≠.ex c):SS K mg E (tAsg ta t) (asg g ma):=by
 intro F0 H0 F H σ ρ rr;refine (ha F0 H0 F H σ ρ rr).stm (w':=λx H1 D=>t x σ H1 D.nx) rr.g λd _ F1 H1 x g1 rx=>?_;have h:=hg F0 H0 F1 H1 σ ρ x d (rr.gr g1) rx;cases e:g d ρ with
 | ok ρ' =>
  rw [e] at h;exact λD q=>h _ λF' H' σ' s r' _=>q F' H' σ' s r'
 | ex c=>exact absurd e (hx d ρ c)
 | bad=>trivial
def ZnL{i:Nat}(ha:SE K mg E ta ma):SS K mg E (tAsg ta (ZdH i)) (st i ma):=by
 intro F0 H0 F H σ ρ rr;exact (ha F0 H0 F H σ ρ rr).stm (w':=λx H1 D=>D.nx (σ.set i (some x)) H1) rr.g λd _ F1 H1 x g1 rx=>λD q=>q F1 H1 _ (Same.refl _) ((rr.gr g1).set i rx)
def Zsc{i:Nat}{t:TS}{m:MS}(h:SS K mg E t m):SS K mg E t (frz i m):=by
 intro F0 H0 F H σ ρ rr;unfold frz getO;split
 ·next xs e =>
  show AnsS K mg E F0 H0 F (m (ρ.set i (.im (.lst xs)))) _;obtain ⟨F',s,r'⟩:=rr.frz e;exact (h F0 H0 F' H σ _ r').mono s
 ·trivial
def Zq1{i:Nat}(ha:SE K mg E ta ma)(hty:∀H a xs,H a=some (.lst xs)->tyV K "list" (.ref a) H):SS K mg E (Zga (tBM K "list" Zdu (tVar i) (ZdD ta tNil))) (app i ma):=by
 intro F0 H0 F H σ ρ rr;unfold app getO;split
 ·next ds e =>
  show AnsS K mg E F0 H0 F ((ma ρ).bind λd=>if ds.length<LIM then .ok (.nx (ρ.set i (.ow (ds++[d])))) else .bad) _
  obtain ⟨a,xs,e2,e4,e5,e3,hr⟩:=rr.ow i ds e;have hl:xs.length=ds.length:=hr.length;have h:=(ha F0 H0 F H σ ρ rr).stm (K:=K) (k:=λd=>if ds.length<LIM then .ok (.nx (ρ.set i (.ow (ds++[d])))) else .bad) (w':=λx H2 D=>Zdu (.ref a) [x] H2 λ_ H3=>D.nx σ H3) rr.g λd _ F1 H1 x g1 rx=>?_
  ·generalize ((ma ρ).bind λd=>if ds.length<LIM then Res.ok (Fl.nx (ρ.set i (.ow (ds++[d])))) else .bad)=res at h
   have fin:∀D:Ends,(ta σ H λx H2=>Zdu (.ref a) [x] H2 λ_ H3=>D.nx σ H3)->Zga (tBM K "list" Zdu (tVar i) (ZdD ta tNil)) D σ H:=λD z=>⟨.ref a,e2,hty H a xs e3,z⟩;cases res with
   | ok f =>
    cases f with
    | nx ρ=>exact λD q=>fin D (h D q)
    | bk ρ=>exact λD q=>fin D (h D q)
    | ct ρ=>exact λD q=>fin D (h D q)
    | rt d=>exact λD q=>fin D (h D q)
   | ex c=>exact λD q=>fin D (h D q)
   | bad=>trivial
  ·by_cases hlim:ds.length<LIM
   ·simp only [hlim,Vbh];have r1:=rr.gr g1;obtain ⟨q1,q2⟩:=g1.o a _ e5 e3;exact λD q=>⟨a,xs,x,rfl,rfl,q2,by rw [hl];exact Vad hlim (by decide),q F1 _ σ (Same.refl _) (r1.app e e2 q2 e4 q1 (hr.same g1.f) rx)⟩
   ·simp only [hlim,Vbg];trivial
 ·trivial
def iSeq(K:W.Frag)(tl:TE):TI:=λσ H R=>tl σ H λx H1=>∃a,x=.ref a/\(((∃xs,SqL K H1 a xs)/\R (Itl K a) H1)\/((∃xs,SqT K H1 a xs)/\R (Itt K a) H1))
def Ztd{a:Addr}{xs:List V}{ds:List D}(h:SqL K F a xs)(r:Rps K mg F xs ds):ItOk K mg F (Itl K a) ds:=by
 intro F' H' s1 s2 i;have hq:SqL K H' a xs:=(s1.trans s2).seq h;refine ⟨λd e=>?_,λhl=>⟨xs,hq,by rw [r.length];exact hl⟩⟩;obtain ⟨x,e1,rx⟩:=r.get e;refine ⟨⟨xs,x,hq,e1⟩,λy H'' q=>?_⟩;obtain ⟨rfl,q⟩:=q;have e2:=q xs hq;rw [e1] at e2;cases e2;exact ⟨F',.refl s2,rx.same s1⟩
def Zq5{a:Addr}{xs:List V}{ds:List D}(h:SqT K F a xs)(r:Rps K mg F xs ds):ItOk K mg F (Itt K a) ds:=by
 intro F' H' s1 s2 i;have hq:SqT K H' a xs:=Zax (s1.trans s2) h;refine ⟨λd e=>?_,λhl=>⟨xs,hq,by rw [r.length];exact hl⟩⟩;obtain ⟨x,e1,rx⟩:=r.get e;refine ⟨⟨xs,x,hq,e1⟩,λy H'' q=>?_⟩;obtain ⟨rfl,q⟩:=q;have e2:=q xs hq;rw [e1] at e2;cases e2;exact ⟨F',.refl s2,rx.same s1⟩
def Zom(lo:Int)(n:Nat):ItOk K mg F (Itr lo n) (Zbe lo n):=by
 intro F' H' s1 s2 i;unfold Zbe;refine ⟨λd e=>?_,λhl=>?_⟩
 ·rw [Vbc] at e;have hi:i<n:=by
   rcases Nat.lt_or_ge i n with z | z
   ·exact z
   ·rw [VbK (by rw [VbL];exact z)] at e;cases e
  rw [List.getElem?_range hi] at e;cases e;refine ⟨hi,λy H'' q=>?_⟩;obtain ⟨rfl,rfl⟩:=q;exact ⟨F',.refl s2,.int _⟩
 ·rw [VaW,VbL] at hl;exact hl
def ZsW(ha:SE K mg E ta ma):SI K mg E (iSeq K ta) (iv ma):=by
 intro F0 H0 F H σ ρ rr;refine (ha F0 H0 F H σ ρ rr).bind λF1 H1 x dx g1 rx=>?_;cases dx with
 | lst ds =>
  cases rx with
  | lst h r=>exact Ans.ret (R:=ItOk K mg) g1.s (Ztd h r) λQ q=>⟨_,rfl,.inl ⟨⟨_,g1.s.seq h⟩,q⟩⟩
 | tup ds =>
  cases rx with
  | tup h r=>exact Ans.ret (R:=ItOk K mg) g1.s (Zq5 h r) λQ q=>⟨_,rfl,.inr ⟨⟨_,Zax g1.s h⟩,q⟩⟩
 | _=>trivial
def ZtQ{t:TA}{m:MA}(ha:SA K mg E t m):SI K mg E (Zo1 t) (r1 m):=by
 intro F0 H0 F H σ ρ rr;refine (ha F0 H0 F H σ ρ rr).bind λF1 H1 xs ds g1 rs=>?_;unfold rng1;split
 ·next j =>
  by_cases h:-1000000000<=j/\j<=1000000000
  ·rw [if_pos h];obtain ⟨x,rfl,rx⟩:=rs.one;cases rx;exact Ans.ret (R:=ItOk K mg) g1.s (Zom 0 _) λQ q=>⟨j,rfl,by omega,by omega,q⟩
  ·rw [if_neg h];trivial
 ·trivial
def ZtE{t:TA}{m:MA}(ha:SA K mg E t m):SI K mg E (ZoQ t) (r2 m):=by
 intro F0 H0 F H σ ρ rr;refine (ha F0 H0 F H σ ρ rr).bind λF1 H1 xs ds g1 rs=>?_;unfold rng2;split
 ·next i j =>
  by_cases h:(-1000000000<=i/\i<=1000000000)/\(-1000000000<=j/\j<=1000000000)
  ·rw [if_pos h];obtain ⟨x,y,rfl,rx,ry⟩:=rs.two;cases rx;cases ry;exact Ans.ret (R:=ItOk K mg) g1.s (Zom i _) λQ q=>⟨i,j,rfl,by omega,q⟩
  ·rw [if_neg h];trivial
 ·trivial
def Zsk{wi:TI}{mi:MI}{n:Nat}{t:TG}{g:MG}{u:TS}{m:MS}(hi:SI K mg E wi mi)(hg:SG K mg n t g)(hx:∀d ρ c,g d ρ≠.ex c)(hb:SS K mg E u m):SS K mg E (tFor wi t u) (for_ mi g m):=by
 intro F0 H0 F H σ ρ rr
 refine (hi F0 H0 F H σ ρ rr).stm (w':=λJ H1 D=>∃W:Nat->Nat->St->Hp->Prop,(∃m,W 0 m σ H1)/\∀i m σ H,W i m σ H ->
  (J.stop i H/\D.nx σ H)\/(J.go i H/\∃N:St->Hp->Prop,(∀σ' H',N σ' H'->∃m',m'<m/\W (i+1) m' σ' H')/\∀x H',J.yld i H x H'->t x σ H' λσ2 H2=>u { D with nx:=N,ct:=N,bk:=D.nx } σ2 H2)) rr.g λds _ F1 H1 J g1 jo=>?_
 have r1:=rr.gr g1;have key:∀(D:Ends) (res:Res Fl),res≠.bad->(∀ρ',res=.ok (.nx ρ')->∀F' H' σ',Same F1 F'->Rep K mg F0 H0 F' H' σ' ρ'->D.nx σ' H')->(∀ρ',res=.ok (.bk ρ')->∀F' H' σ',Same F1 F'->Rep K mg F0 H0 F' H' σ' ρ'->D.bk σ' H') ->
   (∀ρ',res=.ok (.ct ρ')->∀F' H' σ',Same F1 F'->Rep K mg F0 H0 F' H' σ' ρ'->D.ct σ' H')->(∀d,res=.ok (.rt d)->∀F' H' x,Gr F0 H0 F' H'->Rp K mg F' x d->D.rt x H') ->
   (∀c,res=.ex c->∀F' H' C,Gr F0 H0 F' H'->mg (clsOf c)=some (.ref C)->E (.ref C) (pay c) H')->ZeN g m ds ρ=res ->
   ∃W:Nat->Nat->St->Hp->Prop,(∃m,W 0 m σ H1)/\∀i m σ H,W i m σ H ->
    (J.stop i H/\D.nx σ H)\/(J.go i H/\∃N:St->Hp->Prop,(∀σ' H',N σ' H'->∃m',m'<m/\W (i+1) m' σ' H')/\∀x H',J.yld i H x H'->t x σ H' λσ2 H2=>u { D with nx:=N,ct:=N,bk:=D.nx } σ2 H2):=by
  intro D res hbad qn qb qc qr qe e0;refine ⟨λi k σ' H'=>k=ds.length - i/\i<=ds.length/\∃ρ' F',Same F1 F'/\Rep K mg F0 H0 F' H' σ' ρ'/\ZeN g m (ds.drop i) ρ'=res,⟨ds.length,by simp,VaZ _,ρ,F1,Same.refl _,r1,e0⟩,?_⟩;rintro i k σ' H' ⟨rfl,hi',ρ',F',s1,r',e⟩;by_cases hlt:i<ds.length
  ·refine .inr ?_;have hd:ds[i]?=some ds[i]:=VbM hlt;obtain ⟨go,yl⟩:=(jo F' H' s1 r'.ss i).1 _ hd;rw [VbG hlt] at e;refine ⟨go,λσ2 H2=>∃ρ2 F2,Same F1 F2/\Rep K mg F0 H0 F2 H2 σ2 ρ2/\ZeN g m (ds.drop (i+1)) ρ2=res,λσ2 H2 ⟨ρ2,F2,s2,r2,e2⟩=>⟨ds.length - (i+1),by omega,rfl,hlt,ρ2,F2,s2,r2,e2⟩,λx H2 y=>?_⟩;obtain ⟨F2,g2,rx⟩:=yl x H2 y;have r2:=r'.gr g2;have hG:=hg F0 H0 F2 H2 σ' ρ' x _ r2 rx;have e':(g ds[i] ρ').bind (λρ1=>(m ρ1).bind (turn (ZeN g m (ds.drop (i+1)))))=res:=e;cases eg:g ds[i] ρ' with
   | ok ρ1 =>
    rw [eg] at e' hG;refine hG _ λF3 H3 σ3 s3 r3 _=>?_;have hB:=hb F0 H0 F3 H3 σ3 ρ1 r3;have sF:Same F1 F3:=s1.trans (g2.f.trans s3);have e2:(m ρ1).bind (turn (ZeN g m (ds.drop (i+1))))=res:=e';cases em:m ρ1 with
    | ok f =>
     rw [em] at e2 hB;cases f with
     | nx ρ2=>exact hB _ λF4 H4 σ4 s4 r4=>⟨ρ2,F4,sF.trans s4,r4,e2⟩
     | ct ρ2=>exact hB _ λF4 H4 σ4 s4 r4=>⟨ρ2,F4,sF.trans s4,r4,e2⟩
     | bk ρ2=>exact hB _ λF4 H4 σ4 s4 r4=>qn ρ2 e2.symm F4 H4 σ4 (sF.trans s4) r4
     | rt d=>exact hB _ λF4 H4 y g4 ry=>qr d e2.symm F4 H4 y g4 ry
    | ex c =>
     rw [em] at e2 hB;exact hB _ λF4 H4 C g4 hc=>qe c e2.symm F4 H4 C g4 hc
    | bad=>rw [em] at e2;exact absurd e2.symm hbad
   | ex c=>exact absurd eg (hx _ _ c)
   | bad=>rw [eg] at e';exact absurd e'.symm hbad
  ·have hi2:i=ds.length:=by omega
   subst hi2;rw [VbN (VaL _)] at e;exact .inl ⟨(jo F' H' s1 r'.ss _).2 (VaL _),qn ρ' e.symm F' H' σ' s1 r'⟩
 cases e:ZeN g m ds ρ with
 | ok f =>
  cases f with
  | nx ρ2=>exact λD q=>key D _ (λz=>by cases z) (λ_ z=>by cases z;exact q) (λ_ z=>by cases z) (λ_ z=>by cases z) (λ_ z=>by cases z) (λ_ z=>by cases z) e
  | bk ρ2=>exact λD q=>key D _ (λz=>by cases z) (λ_ z=>by cases z) (λ_ z=>by cases z;exact q) (λ_ z=>by cases z) (λ_ z=>by cases z) (λ_ z=>by cases z) e
  | ct ρ2=>exact λD q=>key D _ (λz=>by cases z) (λ_ z=>by cases z) (λ_ z=>by cases z) (λ_ z=>by cases z;exact q) (λ_ z=>by cases z) (λ_ z=>by cases z) e
  | rt d=>exact λD q=>key D _ (λz=>by cases z) (λ_ z=>by cases z) (λ_ z=>by cases z) (λ_ z=>by cases z) (λ_ z=>by cases z;exact q) (λ_ z=>by cases z) e
 | ex c=>exact λD q=>key D _ (λz=>by cases z) (λ_ z=>by cases z) (λ_ z=>by cases z) (λ_ z=>by cases z) (λ_ z=>by cases z) (λ_ z=>by cases z;exact q) e
 | bad=>trivial
def ZmH{n:Ev->Nat}{sc:TT}{nc:MB}{u:TS}{m:MS}(hc:STt K mg E sc nc)(hb:SS K mg E u m):SS K mg E (Zj0 sc u) (whl n nc m):=by
 intro F0 H0 F H σ ρ rr;have key:∀(D:Ends) (res:Res Fl),res≠.bad->(∀ρ',res=.ok (.nx ρ')->∀F' H' σ',Same F F'->Rep K mg F0 H0 F' H' σ' ρ'->D.nx σ' H')->(∀ρ',res=.ok (.bk ρ')->∀F' H' σ',Same F F'->Rep K mg F0 H0 F' H' σ' ρ'->D.bk σ' H') ->
   (∀ρ',res=.ok (.ct ρ')->∀F' H' σ',Same F F'->Rep K mg F0 H0 F' H' σ' ρ'->D.ct σ' H')->(∀d,res=.ok (.rt d)->∀F' H' x,Gr F0 H0 F' H'->Rp K mg F' x d->D.rt x H') ->
   (∀c,res=.ex c->∀F' H' C,Gr F0 H0 F' H'->mg (clsOf c)=some (.ref C)->E (.ref C) (pay c) H')->whGo nc m (n ρ) ρ=res->Zj0 sc u D σ H:=by
  intro D res hbad qn qb qc qr qe e0;refine ⟨λk σ' H'=>∃ρ' F',Same F F'/\Rep K mg F0 H0 F' H' σ' ρ'/\whGo nc m k ρ'=res,⟨n ρ,ρ,F,Same.refl _,rr,e0⟩,?_⟩;rintro k σ' H' ⟨ρ',F',s1,r',e⟩;cases k with
  | zero=>exact absurd e.symm hbad
  | succ k =>
   have e':(nc ρ').bind (λx=>if x=true then (m ρ').bind (turn (whGo nc m k)) else .ok (.nx ρ'))=res:=e
   have hC:=hc F0 H0 F' H' σ' ρ' r';cases ec:nc ρ' with
   | ok b =>
    rw [ec] at e' hC;refine hC _ λF2 H2 b' g2 eb=>?_;cases (show b'=b from eb);have r2:=r'.gr g2;cases b with
    | true =>
     rw [if_pos rfl];have hB:=hb F0 H0 F2 H2 σ' ρ' r2;have e2:(m ρ').bind (turn (whGo nc m k))=res:=e';refine ⟨λσ3 H3=>∃ρ3 F3,Same F F3/\Rep K mg F0 H0 F3 H3 σ3 ρ3/\whGo nc m k ρ3=res,λσ3 H3 h=>⟨k,VaY _,h⟩,?_⟩;have sF:Same F F2:=s1.trans g2.f;cases em:m ρ' with
     | ok f =>
      rw [em] at e2 hB;cases f with
      | nx ρ2=>exact hB _ λF4 H4 σ4 s4 r4=>⟨ρ2,F4,sF.trans s4,r4,e2⟩
      | ct ρ2=>exact hB _ λF4 H4 σ4 s4 r4=>⟨ρ2,F4,sF.trans s4,r4,e2⟩
      | bk ρ2=>exact hB _ λF4 H4 σ4 s4 r4=>qn ρ2 e2.symm F4 H4 σ4 (sF.trans s4) r4
      | rt d=>exact hB _ λF4 H4 y g4 ry=>qr d e2.symm F4 H4 y g4 ry
     | ex c =>
      rw [em] at e2 hB;exact hB _ λF4 H4 C g4 hc=>qe c e2.symm F4 H4 C g4 hc
     | bad=>rw [em] at e2;exact absurd e2.symm hbad
    | false =>
     rw [if_neg VaG];have e2:Res.ok (Fl.nx ρ')=res:=e';exact qn ρ' e2.symm F2 H2 σ' (s1.trans g2.f) r2
   | ex c =>
    rw [ec] at e' hC;exact hC _ λF4 H4 C g4 hc=>qe c e'.symm F4 H4 C (r'.g.trans g4) hc
   | bad=>rw [ec] at e';exact absurd e'.symm hbad
 unfold whl;cases e:whGo nc m (n ρ) ρ with
 | ok f =>
  cases f with
  | nx ρ2=>exact λD q=>key D _ (λz=>by cases z) (λ_ z=>by cases z;exact q) (λ_ z=>by cases z) (λ_ z=>by cases z) (λ_ z=>by cases z) (λ_ z=>by cases z) e
  | bk ρ2=>exact λD q=>key D _ (λz=>by cases z) (λ_ z=>by cases z) (λ_ z=>by cases z;exact q) (λ_ z=>by cases z) (λ_ z=>by cases z) (λ_ z=>by cases z) e
  | ct ρ2=>exact λD q=>key D _ (λz=>by cases z) (λ_ z=>by cases z) (λ_ z=>by cases z) (λ_ z=>by cases z;exact q) (λ_ z=>by cases z) (λ_ z=>by cases z) e
  | rt d=>exact λD q=>key D _ (λz=>by cases z) (λ_ z=>by cases z) (λ_ z=>by cases z) (λ_ z=>by cases z) (λ_ z=>by cases z;exact q) (λ_ z=>by cases z) e
 | ex c=>exact λD q=>key D _ (λz=>by cases z) (λ_ z=>by cases z) (λ_ z=>by cases z) (λ_ z=>by cases z) (λ_ z=>by cases z) (λ_ z=>by cases z;exact q) e
 | bad=>trivial
end
section
variable{K:W.Frag}{mg:Str->Option Value}{E:XK}{F0 H0 F H:Hp}{σ:St}{ρ:Ev}
def Rep.inner{own:List Str}{cap:List (Str×Nat)}{Fb Hb:Hp}(r:Rep K mg F0 H0 F H σ ρ)(gb:Gr Fb Hb F H):Rep K mg Fb Hb F H (st0 own σ cap) (noA own.length (yar ρ (cap.map (·.2)))):=by
 have key:∀(i:Nat) (cl:Cl),(noA own.length (yar ρ (cap.map (·.2))))[i]?=some cl->cl=.no\/∃j p d,i=own.length+j/\cap[j]?=some p/\ρ[p.2]?=some (.im d)/\cl=.im d:=by
  intro i cl e;rw [ZjH,Zg4] at e;by_cases hi:i<own.length
  ·rw [Vbb (by simpa using hi),Vba,if_pos hi] at e;cases e;exact .inl rfl
  ·rw [Va9 (by simpa using hi),Vbf] at e;rw [VbO,Vbc] at e;cases q:cap[i - own.length]? with
   | none=>rw [q] at e;cases e
   | some p =>
    rw [q] at e;have e':imOf ρ[p.2]?=cl:=Vaw e;unfold imOf at e';split at e'
    ·next d h=>exact .inr ⟨i - own.length,p,d,by omega,q,h,e'.symm⟩
    ·exact .inl e'.symm
 refine ⟨gb,?_,λi d e=>?_,λi ds e=>?_,λi j ds es a e=>?_⟩
 ·rw [ZjH,Zg4];unfold st0 capt;simp
 ·rcases key i _ e with z | ⟨j,p,d',rfl,hp,hρ,z⟩
  ·cases z
  ·cases z;obtain ⟨x,hx,rx⟩:=r.im p.2 d hρ;refine ⟨x,?_,rx⟩;unfold st0 capt;rw [Va9 (by simp),Vbf,Nat.add_sub_cancel_left,Vbc,hp];show some ((σ[p.2]?).join)=_;rw [hx];rfl
 ·rcases key i _ e with z | ⟨j,p,d',rfl,hp,hρ,z⟩<;>cases z
 ·rcases key i _ e with z | ⟨j,p,d',rfl,hp,hρ,z⟩<;>cases z
def Zhn{own:List Str}{cap:List (Str×Nat)}:(st0 own σ cap).drop own.length=capt σ cap:=by
 unfold st0;rw [List.drop_append_of_le_length (by simp),List.drop_of_length_le (by simp)];rfl
def ZoD{t:TG}{g:MG}{tt:TT}{nt:MB}{te:TE}{me:ME}{own:List Str}{cap:List (Str×Nat)}{J:It}{ds ys:List D}(r:Rep K mg F0 H0 F H σ ρ)(jo:ItOk K mg F J ds)(hg:SG K mg own.length t g)(ht:STt K mg E0 tt nt)(he:SE K mg E0 te me)
  (hl:ds.length<=LIM) (e0:Dl.Zak g nt me (noA own.length (yar ρ (cap.map (·.2)))) ds=.ok ys) (Q:VK) (q:∀F' H' xs,Gr F H F' H'->Rps K mg F' xs ys->xs.length<=sizeLine->∀p,H' p=none->Q (.ref p) (upd H' p (.lst xs))) :
  ZcP J t tt te own cap σ Q H:=by
 refine ⟨λi k acc H'=>k=ds.length - i/\i<=ds.length/\acc.length<=i/\∃F' zs rs,Gr F H F' H'/\Rps K mg F' acc zs/\Dl.Zak g nt me (noA own.length (yar ρ (cap.map (·.2)))) (ds.drop i)=.ok rs/\zs++rs=ys,
  ⟨ds.length,by simp,VaZ _,VaL _,F,[],ys,.refl r.ss,.nil,e0,rfl⟩,?_⟩
 rintro i k acc H' ⟨rfl,hi,ha,F',zs,rs,g1,r1,e1,e2⟩;have la:acc.length<=LIM:=Vak ha (Vak hi hl);refine ⟨Zdl la,?_⟩;by_cases hlt:i<ds.length
 ·refine .inr ?_;have hd:ds[i]?=some ds[i]:=VbM hlt;obtain ⟨go,yl⟩:=(jo F' H' g1.f g1.s i).1 _ hd;rw [VbG hlt] at e1;refine ⟨go,λx H2 y=>?_⟩;obtain ⟨F2,g2,rx⟩:=yl x H2 y;have rr:=(r.gr (g1.trans g2)).inner (own:=own) (cap:=cap) (g1.trans g2);have hG:=hg F H F2 H2 _ _ x _ rr rx;have e':(g ds[i] (noA own.length (yar ρ (cap.map (·.2))))).bind (λρ1=>(nt ρ1).bind λb=>if b=true then (me ρ1).bind λy=>(Dl.Zak g nt me (noA own.length (yar ρ (cap.map (·.2)))) (ds.drop (i+1))).bind λys=>.ok (y::ys) else Dl.Zak g nt me (noA own.length (yar ρ (cap.map (·.2)))) (ds.drop (i+1)))=.ok rs:=e1
  cases eg:g ds[i] (noA own.length (yar ρ (cap.map (·.2)))) with
  | ok ρ1 =>
   rw [eg] at e' hG;refine hG _ λF3 H3 σ3 s3 r3 d3=>⟨d3.trans Zhn,?_⟩;have hT:=ht F H F3 H3 σ3 ρ1 r3;have sF:Same F' F3:=g2.f.trans s3;have e3:(nt ρ1).bind (λb=>if b=true then (me ρ1).bind λy=>(Dl.Zak g nt me (noA own.length (yar ρ (cap.map (·.2)))) (ds.drop (i+1))).bind λys=>.ok (y::ys) else Dl.Zak g nt me (noA own.length (yar ρ (cap.map (·.2)))) (ds.drop (i+1)))=.ok rs:=e'
   cases et:nt ρ1 with
   | ok b =>
    rw [et] at e3 hT;refine hT _ λF4 H4 b' g4 eb=>?_;cases (show b'=b from eb);cases b with
    | true =>
     rw [if_pos rfl];have e4:(me ρ1).bind (λy=>(Dl.Zak g nt me (noA own.length (yar ρ (cap.map (·.2)))) (ds.drop (i+1))).bind λys=>.ok (y::ys))=.ok rs:=e3;have hE:=he F H F4 H4 σ3 ρ1 (r3.gr g4);cases em:me ρ1 with
     | ok y' =>
      rw [em] at e4 hE;refine hE _ λF5 H5 u g5 ru=>⟨Vbu la (by decide),ds.length - (i+1),by omega,rfl,hlt,by rw [Vbe];show acc.length+1<=i+1;omega,?_⟩;have e5:(Dl.Zak g nt me (noA own.length (yar ρ (cap.map (·.2)))) (ds.drop (i+1))).bind (λys=>.ok (y'::ys))=.ok rs:=e4;cases ec:Dl.Zak g nt me (noA own.length (yar ρ (cap.map (·.2)))) (ds.drop (i+1)) with
      | ok rs' =>
       rw [ec] at e5;have e6:Res.ok (y'::rs')=.ok rs:=e5;cases e6;exact ⟨F5,zs++[y'],rs',r3.g.trans (g4.trans g5),Rps.app (.cons ru .nil) (r1.same (sF.trans (g4.f.trans g5.f))),rfl,by rw [VbP];exact e2⟩
      | ex c=>rw [ec] at e5;cases e5
      | bad=>rw [ec] at e5;cases e5
     | ex c=>rw [em] at e4;cases e4
     | bad=>rw [em] at e4;cases e4
    | false =>
     rw [if_neg VaG];have e4:Dl.Zak g nt me (noA own.length (yar ρ (cap.map (·.2)))) (ds.drop (i+1))=.ok rs:=e3;exact ⟨ds.length - (i+1),by omega,rfl,hlt,by omega,F4,zs,rs,r3.g.trans g4,r1.same (sF.trans g4.f),e4,e2⟩
   | ex c=>rw [et] at e3;cases e3
   | bad=>rw [et] at e3;cases e3
  | ex c=>rw [eg] at e';cases e'
  | bad=>rw [eg] at e';cases e'
 ·have hi2:i=ds.length:=by omega
  subst hi2;rw [VbN (VaL _)] at e1;cases e1;rw [Va1] at e2;subst e2;exact .inl ⟨(jo F' H' g1.f g1.s _).2 (VaL _),q F' H' acc g1 r1 (Zdl la)⟩
def Zqv{wi:TI}{mi:MI}{t:Fam TG}{g:MG}{tt:Fam TT}{nt:MB}{te:Fam TE}{me:ME}{own:List Str}{cap:List (Str×Nat)}(hi:SI K mg E wi mi)(hg:∀C s H fp pn,SG K mg own.length (t C s H fp pn) g)(ht:∀C s H fp pn,STt K mg E0 (tt C s H fp pn) nt)(he:∀C s H fp pn,SE K mg E0 (te C s H fp pn) me) :
  SE K mg E (ZeB wi t tt te own cap) (comp mi own.length (cap.map (·.2)) g nt me):=by
 intro F0 H0 F H σ ρ rr;refine (hi F0 H0 F H σ ρ rr).bind (w':=λJ H1 Q=>∀C s H2 fp pn,ZcP J (t C s H2 fp pn) (tt C s H2 fp pn) (te C s H2 fp pn) own cap σ Q H1) λF1 H1 J ds g1 jo=>?_;by_cases hl:ds.length<=LIM
 ·rw [if_pos hl];cases e:Dl.Zak g nt me (noA own.length (yar ρ (cap.map (·.2)))) ds with
  | ok ys=>exact λQ q C s H2 fp pn=>ZoD (rr.gr g1) jo (hg C s H2 fp pn) (ht C s H2 fp pn) (he C s H2 fp pn) hl e Q λF' H' xs g2 rs _ p hp=>q _ _ _ (g2.trans (.new g2.s hp _)) (.lst (SqL.of Zag) (rs.same (ZaE (g2.s.free hp) _)))
  | ex c=>trivial
  | bad=>trivial
 ·rw [if_neg hl];trivial
end
structure DE(X:Cx)(E:XK)(e:Expr)(t:TE)(m:ME):Prop where
 p:PE X e t
 s:SE X.K X.mg E t m
structure DT(X:Cx)(E:XK)(e:Expr)(t:TT)(m:MB):Prop where
 p:PT X e t
 s:STt X.K X.mg E t m
structure DW(X:Cx)(E:XK)(e:Expr)(t:TT)(m:MB):Prop where
 p:PW X e t
 s:STt X.K X.mg E t m
structure DA(X:Cx)(E:XK)(n:Nat)(es:List Expr)(t:TA)(m:MA):Prop where
 p:PA X es t
 s:SA X.K X.mg E t m
 n:SAn n m
structure DO(X:Cx)(E:XK)(e:Option Expr)(t:TO)(m:Ev->Res (Option Int)):Prop where
 p:PO X e t
 s:SO X.K X.mg E t m
structure DS(X:Cx)(E:XK)(st:Stmt)(t:TS)(m:MS):Prop where
 p:PS X st t
 s:SS X.K X.mg E t m
structure DSs(X:Cx)(E:XK)(st:List Stmt)(t:TS)(m:MS):Prop where
 p:PSs X st t
 s:SS X.K X.mg E t m
structure DG(X:Cx)(n:Nat)(e:Expr)(t:TG)(g:MG):Prop where
 p:PG X e t
 s:SG X.K X.mg n t g
 x:∀d ρ c,g d ρ≠.ex c
structure DGs(X:Cx)(n:Nat)(es:List Expr)(t:TGs)(g:MGs):Prop where
 p:PGs X es t
 s:SGs X.K X.mg n t g
 x:∀d ρ c,g d ρ≠.ex c
structure DI(X:Cx)(E:XK)(tg e:Expr)(t:TI)(m:MI):Prop where
 p:PI X tg e t
 s:SI X.K X.mg E t m
section
variable{X:Cx}{E:XK}{a b e c':Expr}{es:List Expr}{ta tb tc te:TE}{ma mb mc me:ME}{sa sb:TT}{na nb:MB}{t:TA}{m:MA}{pos:Pos}{n:Nat}
def d_v(i:Nat){x:Str}(hN:X.N[i]?=some x:=by rfl)(hv:Vis X.env.scope x:=by first | exact Or.inl rfl | exact Or.inr (Or.inl rfl) | exact Or.inr (Or.inr rfl))(hd:(x==("__debug__" : Str))=false:=by decide)
  (hcd:(x==("__classdict__" : Str))=false:=by decide):DE X E (.Name x pos) (tVar i) (v i):=⟨Zb0 hN hv hd hcd,se_v i⟩
def ZbA{i j}:DE X E (.Constant (.int i) j pos) (tC (.int i)) (c (.int i)):=⟨Zoa,se_c λ_=>.int _⟩
def ydi{i j}:DE X E (.Constant (.bool i) j pos) (tC (.bl i)) (c (.bl i)):=⟨ZtX,se_c λ_=>.bl _⟩
def ZtP{j}:DE X E (.Constant .none j pos) (tC .non) (c .non):=⟨Zsa,se_c λ_=>.non⟩
def ZaL{i j}:DE X E (.Constant (.str i) j pos) (tC (.str i)) (c (.str i)):=⟨ZjA,se_c λ_=>.str _⟩
def ydn{k:String}{x:Str}(hg:Gl X x)(hm:X.mg x=none)(hv:bootBuiltins x=some (.type k))(hn:x ≠ "__name__" := by decide)(hd:(x==("__debug__" : Str))=false:=by decide):DE X E (.Name x pos) (tC (.ty k)) (c (.ty k)) :=
 ⟨Zsz hg hm hv hn hd,se_c λ_=>.ty _⟩
def ydq{x:Str}{i:Int}{tk:Tok}(hg:Gl X x)(hm:X.mg x=some (.int i tk))(hd:(x==("__debug__" : Str))=false:=by decide):DE X E (.Name x pos) (tC (.int i)) (c (.int i)):=⟨ZeM hg hm ⟨_,rfl⟩ hd,se_c λ_=>.int _⟩
def Zhu{op:Operator}{r:R2}{f:D->D->Res D}(ho:OpR X (binaryOp op) r)(hf:OpD X.K X.mg r f)(ha:DE X E a ta ma)(hb:DE X E b tb mb):DE X E (.BinOp a op b pos) (tOp r ta tb) (o2 f ma mb):=⟨Zq0 ho ha.p hb.p,ZmY hf ha.s hb.s⟩
def Znx{op:CmpOp}{r:R2}{f:D->D->Res D}(ho:OpR X (compareOp op) r)(hf:OpD X.K X.mg r f)(ha:DE X E a ta ma)(hb:DE X E b tb mb)(hm:behindInMarks op b=false):DE X E (.Compare a [op] [b] pos) (tOp r ta tb) (o2 f ma mb):=⟨ZpW ho ha.p hb.p hm,ZmY hf ha.s hb.s⟩
def ZeZ{op:CmpOp}{r:R2}{f:D->D->Res D}(ho:OpR X (compareOp op) r)(hf:OpD X.K X.mg r f)(ha:DE X E a ta ma)(hb:DE X E b tb mb)(hm:behindInMarks op b=false):DT X E (.Compare a [op] [b] pos) (ZfO (tOp r ta tb)) (trb (o2 f ma mb)):=⟨ZoS ho ha.p hb.p hm,Zqj (ZmY hf ha.s hb.s)⟩
def OpR.or{f:Value->Value->Sem Value}{r r':R2}(h:OpR X f r)(h':OpR X f r'):OpR X f (λx y H Q=>r x y H Q\/r' x y H Q):=by
 intro pins s σ H x y v u Q I rx ry q;rcases q with q | q
 ·exact h pins s σ H x y v u Q I rx ry q
 ·exact h' pins s σ H x y v u Q I rx ry q
def Zqh:OpR X (binaryOp .Add) (ZsB X.K):=by
 intro pins s σ H x y v u Q I rx ry h;obtain ⟨l,b,xs,zs,rfl,rfl,hH,hB,hz,q⟩:=h;cases rx;cases ry;exact ZmP I hH hB hz q
def Zqw:OpR X (binaryOp .Add) (Zs8 X.K):=by
 intro pins s σ H x y v u Q I rx ry h;obtain ⟨a,b,xs,ys,rfl,rfl,ha,hb,hz,q0,q1,q2⟩:=h;cases rx;cases ry;exact Zni I ha hb hz q0 q1 q2
def Zln:OpR X (binaryOp .Add) (ZlS X.K):=OpR.or ZsC (OpR.or Zqh (OpR.or Zqw Zj9))
def ZfK(ha:DE X E a ta ma)(hb:DE X E b tb mb):DE X E (.BinOp a .Add b pos) (tOp (ZlS X.K) ta tb) (o2 yac ma mb):=Zhu Zln Zqz ha hb
def Zto(ha:DE X E a ta ma)(hb:DE X E b tb mb):DE X E (.BinOp a .Sub b pos) (tOp (rI0 λi j=>V.int (i - j)) ta tb) (o2 dSub ma mb):=Zhu ZsZ Zpl ha hb
def ZqT{a b:Int}(h:Zgc a b=true):IntMulOk a b:=by
 have h':(a.natAbs<2^64\/b.natAbs<2^64)\/a.natAbs.log2+b.natAbs.log2<100000000:=by simpa [Zgc] using h
 rcases h' with (h' | h') | h'
 ·exact .of_left (intBits_le_iff.mpr h')
 ·exact .of_right (intBits_le_iff.mpr h')
 ·have la:a.natAbs<2^(a.natAbs.log2+1):=Nat.lt_log2_self;have lb:b.natAbs<2^(b.natAbs.log2+1):=Nat.lt_log2_self;exact IntMulOk.of_le (intBits_le_iff.mpr la) (intBits_le_iff.mpr lb) (by omega)
def ZpP{K:W.Frag}{mg:Str->Option Value}:OpD K mg (rI IntMulOk λi j=>.int (i*j)) ydk:=ZkB λa b=>by
 unfold iMul;by_cases h:Zgc a b=true
 ·rw [if_pos h];exact .inl ⟨_,rfl,ZqT h,λ_=>.int _⟩
 ·rw [if_neg h];exact .inr rfl
def ZtZ(ha:DE X E a ta ma)(hb:DE X E b tb mb):DE X E (.BinOp a .Mult b pos) (tOp (rI IntMulOk λi j=>V.int (i*j)) ta tb) (o2 ydk ma mb):=Zhu ZoI ZpP ha hb
def Zra(ha:DE X E a ta ma)(hb:DE X E b tb mb):DE X E (.BinOp a .Mod b pos) (tOp (rI (λ_ j=>j≠0) λi j=>V.int (i.fmod j)) ta tb) (o2 ybY ma mb):=Zhu ZpF ZpM ha hb
def ZtH(ha:DE X E a ta ma)(hb:DE X E b tb mb):DE X E (.BinOp a .FloorDiv b pos) (tOp (rI Zp2 λi j=>V.int (i.fdiv j)) ta tb) (o2 ydd ma mb):=Zhu ZmL ZoM ha hb
def Zt6(ha:DE X E a ta ma)(hb:DE X E b tb mb):DE X E (.BinOp a .Pow b pos) (tOp (rI CPow λi j=>V.int (i^j.toNat)) ta tb) (o2 dPow ma mb):=Zhu Zsf Zpo ha hb
def ZtU(ha:DE X E a ta ma)(hb:DE X E b tb mb):DE X E (.BinOp a .LShift b pos) (tOp (rI CPow λi j=>V.int (i*2^j.toNat)) ta tb) (o2 dShl ma mb):=Zhu Zsp ZqB ha hb
def Zum(ha:DE X E a ta ma)(hb:DE X E b tb mb):DE X E (.BinOp a .RShift b pos) (tOp (rI (λ_ j=>0<=j) λi j=>V.int (i/2^j.toNat)) ta tb) (o2 dShr ma mb):=Zhu Zrk Zp4 ha hb
def Zrp(ha:DE X E a ta ma):DE X E (.UnaryOp .USub a pos) (tUn (rU λi=>V.int (-i)) ta) (o1 dNeg ma):=⟨ZsR ZnO ha.p,ZsV (Zqf λ_ _ _ q=>⟨_,rfl,q⟩) ha.s⟩
def ydy(ha:DE X E a ta ma)(hb:DE X E b tb mb):DE X E (.Compare a [.LtE] [b] pos) (tOp (rI0 λi j=>V.bl (decide (i<=j))) ta tb) (o2 dLe ma mb):=Znx Zr0 Zob ha hb (Zep _)
def ydz(ha:DE X E a ta ma)(hb:DE X E b tb mb):DE X E (.Compare a [.GtE] [b] pos) (tOp (rI0 λi j=>V.bl (decide (j<=i))) ta tb) (o2 dGe ma mb):=Znx ZrV Zn8 ha hb (Zep _)
def Zti(ha:DE X E a ta ma)(hb:DE X E b tb mb):DT X E (.Compare a [.Lt] [b] pos) (ZfO (tOp (rI0 λi j=>V.bl (decide (i<j))) ta tb)) (trb (o2 dLt ma mb)):=ZeZ Ztu Zsg ha hb (Zep _)
def Zt1(ha:DE X E a ta ma)(hb:DE X E b tb mb):DT X E (.Compare a [.LtE] [b] pos) (ZfO (tOp (rI0 λi j=>V.bl (decide (i<=j))) ta tb)) (trb (o2 dLe ma mb)):=ZeZ Zr0 Zob ha hb (Zep _)
def Znb(ha:DE X E a ta ma)(hb:DE X E b tb mb):DT X E (.Compare a [.Gt] [b] pos) (ZfO (tOp (rI0 λi j=>V.bl (decide (j<i))) ta tb)) (trb (o2 dGt ma mb)):=ZeZ Ztm Zq7 ha hb (Zep _)
def Zui(ha:DE X E a ta ma)(hb:DE X E b tb mb):DT X E (.Compare a [.GtE] [b] pos) (ZfO (tOp (rI0 λi j=>V.bl (decide (j<=i))) ta tb)) (trb (o2 dGe ma mb)):=ZeZ ZrV Zn8 ha hb (Zep _)
mutual
def pyD:D->PyData
 | .non=>.none
 | .bl b=>.bool b
 | .int i=>.int i
 | .str x=>.str x
 | .tup xs=>.tuple (pyDs xs)
 | .lst xs=>.list (pyDs xs)
 | _=>.none
def pyDs:List D->List PyData
 | []=>[]
 | x::r=>pyD x::pyDs r
end
mutual
def Zgz:∀x y:D,∀k l,Dl.plain k x=true->Dl.plain l y=true->eqD x y=PyData.eqv (pyD x) (pyD y)
 | .non,y,_,_,_,hy=>by cases y<;>first | rfl | (simp [Dl.plain] at hy)
 | .bl _,y,_,_,_,hy=>by cases y<;>first | rfl | (simp [Dl.plain] at hy)
 | .int _,y,_,_,_,hy=>by cases y<;>first | rfl | (simp [Dl.plain] at hy)
 | .str _,y,_,_,_,hy=>by cases y<;>first | rfl | (simp [Dl.plain] at hy)
 | .tup xs,y,k,l,hx,hy=>by
  cases y<;>first | rfl | (simp [Dl.plain] at hy;done) | skip
  rename_i ys;cases k with
  | zero=>simp [Dl.plain] at hx
  | succ k =>
   cases l with
   | zero=>simp [Dl.plain] at hy
   | succ l=>exact Zi7 xs ys k l (by simpa [Dl.plain] using hx) (by simpa [Dl.plain] using hy)
 | .lst xs,y,k,l,hx,hy=>by
  cases y<;>first | rfl | (simp [Dl.plain] at hy;done) | skip
  rename_i ys;cases k with
  | zero=>simp [Dl.plain] at hx
  | succ k =>
   cases l with
   | zero=>simp [Dl.plain] at hy
   | succ l=>exact Zi7 xs ys k l (by simpa [Dl.plain] using hx) (by simpa [Dl.plain] using hy)
 | .ty _,_,k,_,hx,_=>by cases k<;>simp [Dl.plain] at hx
 | .cls _,_,k,_,hx,_=>by cases k<;>simp [Dl.plain] at hx
 | .exc _,_,k,_,hx,_=>by cases k<;>simp [Dl.plain] at hx
 | .ins _ _ _,_,k,_,hx,_=>by cases k<;>simp [Dl.plain] at hx
def Zi7:∀xs ys:List D,∀k l,Dl.Zaz k xs=true->Dl.Zaz l ys=true->eqDs xs ys=PyData.eqvAll (pyDs xs) (pyDs ys)
 | [],[],_,_,_,_=>rfl
 | [],_::_,_,_,_,_=>rfl
 | _::_,[],_,_,_,_=>rfl
 | x::xs,y::ys,k,l,hx,hy=>by
  have h1:Dl.plain k x=true/\Dl.Zaz k xs=true:=by simpa [Dl.Zaz] using hx
  have h2:Dl.plain l y=true/\Dl.Zaz l ys=true:=by simpa [Dl.Zaz] using hy
  show (eqD x y&&eqDs xs ys)=(PyData.eqv (pyD x) (pyD y)&&PyData.eqvAll (pyDs xs) (pyDs ys));rw [Zgz x y k l h1.1 h2.1,Zi7 xs ys k l h1.2 h2.2]
end
mutual
def Zb5:∀(x:D) (k:Nat),Dl.plain k x=true->(pyD x).canLay0=true/\(pyD x).depth<=k
 | .non,_,_=>⟨rfl,VaZ _⟩
 | .bl _,_,_=>⟨rfl,VaZ _⟩
 | .int _,_,_=>⟨rfl,VaZ _⟩
 | .str x,_,h=>⟨by simpa [Dl.plain,pyD,PyData.canLay0,PyData.strOk] using h,VaZ _⟩
 | .tup xs,0,h=>by simp [Dl.plain] at h
 | .lst xs,0,h=>by simp [Dl.plain] at h
 | .tup xs,k+1,h=>by
  obtain ⟨h1,h2⟩:=Zcm xs k (by simpa [Dl.plain] using h);exact ⟨h1,VbQ h2⟩
 | .lst xs,k+1,h=>by
  obtain ⟨h1,h2⟩:=Zcm xs k (by simpa [Dl.plain] using h);exact ⟨h1,VbQ h2⟩
 | .ty _,k,h=>by cases k<;>simp [Dl.plain] at h
 | .cls _,k,h=>by cases k<;>simp [Dl.plain] at h
 | .exc _,k,h=>by cases k<;>simp [Dl.plain] at h
 | .ins _ _ _,k,h=>by cases k<;>simp [Dl.plain] at h
def Zcm:∀(xs:List D) (k:Nat),Dl.Zaz k xs=true->PyData.canLayAll0 (pyDs xs)=true/\PyData.depthAll (pyDs xs)<=k
 | [],_,_=>⟨rfl,VaZ _⟩
 | x::xs,k,h=>by
  have h':Dl.plain k x=true/\Dl.Zaz k xs=true:=by simpa [Dl.Zaz] using h
  obtain ⟨a1,a2⟩:=Zb5 x k h'.1;obtain ⟨b1,b2⟩:=Zcm xs k h'.2;refine ⟨?_,Nat.max_le.mpr ⟨a2,b2⟩⟩;show (PyData.canLay0 (pyD x)&&PyData.canLayAll0 (pyDs xs))=true;rw [a1,b1];rfl
end
mutual
def Zis{K:W.Frag}{mg:Str->Option Value}{F:Hp}:∀{x:V} {d:D} {k:Nat},Rp K mg F x d->Dl.plain k d=true->DV K F x (pyD d)
 | _,_,_,.non,_=>.non
 | _,_,_,.bl b,_=>.bl b
 | _,_,_,.int b,_=>.int b
 | _,_,_,.str b,_=>.str b
 | _,_,0,.tup h r,p=>by simp [Dl.plain] at p
 | _,_,0,.lst h r,p=>by simp [Dl.plain] at p
 | _,_,k+1,.tup h r,p=>.tup h (ZeW r (by simpa [Dl.plain] using p))
 | _,_,k+1,.lst h r,p=>.lst h (ZeW r (by simpa [Dl.plain] using p))
 | _,_,k,.ty _,p=>by cases k<;>simp [Dl.plain] at p
 | _,_,k,.cls _,p=>by cases k<;>simp [Dl.plain] at p
 | _,_,k,.exc _ _,p=>by cases k<;>simp [Dl.plain] at p
 | _,_,k,.ins _ _ _ _ _,p=>by cases k<;>simp [Dl.plain] at p
def ZeW{K:W.Frag}{mg:Str->Option Value}{F:Hp}:∀{xs:List V} {ds:List D} {k:Nat},Rps K mg F xs ds->Dl.Zaz k ds=true->DVs K F xs (pyDs ds)
 | _,_,_,.nil,_=>.nil
 | _,_,k,.cons h r,p=>by
  have p':=(show Dl.plain k _=true/\Dl.Zaz k _=true by simpa [Dl.Zaz] using p);exact .cons (Zis h p'.1) (ZeW r p'.2)
end
mutual
def Zdn{K:W.Frag}{F H:Hp}(s:Same F H):∀{x:V} {d:PyData},DV K F x d->DV K H x d
 | _,_,.non=>.non
 | _,_,.bl b=>.bl b
 | _,_,.int b=>.int b
 | _,_,.str b=>.str b
 | _,_,.tup h r=>.tup (Zax s h) (ZdN s r)
 | _,_,.lst h r=>.lst (s.seq h) (ZdN s r)
def ZdN{K:W.Frag}{F H:Hp}(s:Same F H):∀{xs:List V} {ds:List PyData},DVs K F xs ds->DVs K H xs ds
 | _,_,.nil=>.nil
 | _,_,.cons h r=>.cons (Zdn s h) (ZdN s r)
end
def ZnS{K:W.Frag}{mg:Str->Option Value}:OpD K mg (rEqD K id) dEq:=by
 intro E F H x y dx dy s rx ry;unfold dEq;by_cases h:(Dl.plain 50 dx&&Dl.plain 50 dy)=true
 ·rw [if_pos h];have h':Dl.plain 50 dx=true/\Dl.plain 50 dy=true:=by simpa using h
  obtain ⟨a1,a2⟩:=Zb5 dx 50 h'.1;obtain ⟨b1,b2⟩:=Zb5 dy 50 h'.2;exact .ret s (.bl _) λQ q=>⟨_,_,Zdn s (Zis rx h'.1),Zdn s (Zis ry h'.2),a1,b1,Vak a2 (by decide),by rw [<-Zgz dx dy 50 50 h'.1 h'.2];exact q⟩
 ·rw [if_neg h];trivial
def Zsl{K:W.Frag}{mg:Str->Option Value}:OpD K mg (rEqD K not) dNe:=by
 intro E F H x y dx dy s rx ry;unfold dNe;by_cases h:(Dl.plain 50 dx&&Dl.plain 50 dy)=true
 ·rw [if_pos h];have h':Dl.plain 50 dx=true/\Dl.plain 50 dy=true:=by simpa using h
  obtain ⟨a1,a2⟩:=Zb5 dx 50 h'.1;obtain ⟨b1,b2⟩:=Zb5 dy 50 h'.2;exact .ret s (.bl _) λQ q=>⟨_,_,Zdn s (Zis rx h'.1),Zdn s (Zis ry h'.2),a1,b1,Vak a2 (by decide),by rw [<-Zgz dx dy 50 50 h'.1 h'.2];exact q⟩
 ·rw [if_neg h];trivial
def ydA{k:Nat}(hr:Room k X.A)(ha:DE X E a ta ma)(hb:DE X E b tb mb):DE X E (.Compare a [.Eq] [b] pos) (tOp (rEqD X.K id) ta tb) (o2 dEq ma mb):=Znx (Zow hr.units) ZnS ha hb (Zep _)
def Zlw{k:Nat}(hr:Room k X.A)(ha:DE X E a ta ma)(hb:DE X E b tb mb):DT X E (.Compare a [.Eq] [b] pos) (ZfO (tOp (rEqD X.K id) ta tb)) (trb (o2 dEq ma mb)):=ZeZ (Zow hr.units) ZnS ha hb (Zep _)
def ZiS{k:Nat}(hr:Room k X.A)(ha:DE X E a ta ma)(hb:DE X E b tb mb):DT X E (.Compare a [.NotEq] [b] pos) (ZfO (tOp (rEqD X.K not) ta tb)) (trb (o2 dNe ma mb)):=ZeZ (Zru hr.units) Zsl ha hb (Zep _)
def ydo(ha:DE X E a ta ma)(hb:DE X E b tb mb)(hs:ZlV b:=by exact λ_ _=>rfl):DE X E (.Subscript a b pos) (tOp (rIxD X.K) ta tb) (o2 dIx ma mb):=⟨Zss (IxR.or Zk1 Zoo) ha.p hb.p hs,ZmY Zst ha.s hb.s⟩
def Zey(ha:DE X E a ta ma)(he:∀whole,isTrue a X.env whole=(do let v <-whole;standAt a.pos;holding [v] (truthy v)):=by intro _;rfl):DT X E a (L2.tB ta) (trb ma):=⟨ZqV ha.p he,st_b ha.s⟩
def Zpu(ha:DT X E a sa na):DW X E (.BoolOp .And [a] pos) sa na:=⟨ZqQ ha.p,ha.s⟩
def ZfB(ha:DT X E a sa na):DW X E (.BoolOp .Or [a] pos) sa na:=⟨ZrK ha.p,ha.s⟩
def Zou{rest:List Expr}(ha:DT X E a sa na)(hb:DW X E (.BoolOp .And (b::rest) pos) sb nb):DW X E (.BoolOp .And (a::b::rest) pos) (tAnd sa sb) (bAnd na nb):=⟨ZqR ha.p hb.p,ZrR ha.s hb.s⟩
def ZhC{rest:List Expr}(ha:DT X E a sa na)(hb:DW X E (.BoolOp .Or (b::rest) pos) sb nb):DW X E (.BoolOp .Or (a::b::rest) pos) (tOr sa sb) (bOr na nb):=⟨Ztz ha.p hb.p,Zt5 ha.s hb.s⟩
def DW.dt(h:DW X E a sa na):DT X E a sa na:=⟨h.p.pt,h.s⟩
def ZgB(ha:DT X E a sa na):DT X E (.UnaryOp .Not a pos) (tNot sa) (bNot na):=⟨ZsY ha.p,ZqX ha.s⟩
def Zuc{op}(ha:DE X E a ta ma):DE X E (.BoolOp op [a] pos) ta ma:=⟨ZrY ha.p,ha.s⟩
def Zt4{rest:List Expr}(ha:DE X E a ta ma)(hb:DE X E (.BoolOp .And (b::rest) pos) tb mb):DE X E (.BoolOp .And (a::b::rest) pos) (Zp7 ta tb) (eAnd ma mb):=⟨Zq6 ha.p hb.p,Zrh ha.s hb.s⟩
def ZtO(ha:DE X E a ta ma):DE X E (.UnaryOp .Not a pos) (Zqu ta) (eNot ma):=⟨ZrI ha.p,ZsM ha.s⟩
def ZrP(hc:DT X E c' sa na)(ha:DE X E a ta ma)(hb:DE X E b tb mb):DE X E (.IfExp c' a b pos) (tIf sa ta tb) (ife na ma mb):=⟨Zmv hc.p ha.p hb.p,Zr9 hc.s ha.s hb.s⟩
def Zan:DA X E 0 [] tNil yaa:=⟨Zcu,Zn5,ZkK⟩
def Zad(ha:DE X E e te me)(hr:DA X E n es t m)(hs:starEach (e::es) X.env=(false,eval e X.env)::starEach es X.env:=by rfl):DA X E (n+1) (e::es) (ZdD te t) (Zaa me m):=⟨ZbG ha.p hr.p hs,ZoB ha.s hr.s,Znh hr.n⟩
def ZqJ{x1}(h:DA X E n es t m)(hn:n<=sizeLine:=by decide):DE X E (.Tuple es x1 pos) (tTup t) (mtp m):=⟨Zse h.p,ZrU h.s h.n hn⟩
def Zkx(h:DA X E n es t m)(hn:n<=sizeLine:=by decide):DE X E (.List es pos) (tLst t) (mls m):=⟨Zij h.p,Zr7 h.s h.n hn⟩
def ycY{id:String}{r:List V->Hp->VK->Prop}{f:List D->Res D}{x:Str}{p:Pos}(hc:ZdR X (.builtin id) r)(hf:CallD X.K X.mg r f)(hg:Gl X x)(hm:X.mg x=none)(hv:bootBuiltins x=some (.builtin id))(ha:DA X E n (e::es) t m)(hn:x ≠ "__name__" := by decide)(hdb:(x==("__debug__" : Str))=false:=by decide)
  (he:starEach (e::es) X.env=(false,eval e X.env)::starEach es X.env:=by rfl) (hpl:(backTo pos (starEach es X.env)).any (·.1)=false:=by rfl):DE X E (.Call (.Name x p) (e::es) [] pos) (tCB r t) (on f m):=⟨ZjE hc hg hm hv ha.p hn hdb he hpl,ZqS hf ha.s⟩
def ydp{T:String}{r:List V->Hp->VK->Prop}{f:List D->Res D}{x:Str}{p:Pos}(hc:ZdR X (.type T) r)(hf:CallD X.K X.mg r f)(hg:Gl X x)(hm:X.mg x=none)(hv:bootBuiltins x=some (.type T))(ha:DA X E n (e::es) t m)(hn:x ≠ "__name__" := by decide)(hdb:(x==("__debug__" : Str))=false:=by decide)
  (he:starEach (e::es) X.env=(false,eval e X.env)::starEach es X.env:=by rfl) (hpl:(backTo pos (starEach es X.env)).any (·.1)=false:=by rfl):DE X E (.Call (.Name x p) (e::es) [] pos) (tCB r t) (on f m):=⟨ZfM hc hg hm hv ha.p hn hdb he hpl,ZqS hf ha.s⟩
structure Cal(P:Program)(w:World)(K:W.Frag)(mg:Str->Option Value)(base:Heap)(n:Nat)(x:Str)(ps:List Str)(m:List D->Res D):Prop where
 ex:∃(f:Addr) (fd:FuncData),FnOk P w K mg base (CXR P w) n f fd ps (spD K mg ps.length m)/\Binds K fd ps []/\W.keepIn K (.ref f)=true/\mg x=some (.ref f)
def ZbY{k l:Nat}{x:Str}{ps:List Str}{f:List D->Res D}{p:Pos}(C:Cal X.prog X.w X.K X.mg X.base k x ps f)(hr:Room l X.A)(hn:k<=l)(hg:Gl X x)(hx:ZbX (CXR X.prog X.w) X E)(ha:DA X E n (e::es) t m)(hps:ps.length=n:=by rfl)
  (hdb:(x==("__debug__" : Str))=false:=by decide) (he:starEach (e::es) X.env=(false,eval e X.env)::starEach es X.env:=by rfl) (hpl:(backTo pos (starEach es X.env)).any (·.1)=false:=by rfl) :
  DE X E (.Call (.Name x p) (e::es) [] pos) (ZhM (spD X.K X.mg ps.length f) [] E t) (on f m):=by
 obtain ⟨g,fd,F,b,kp,hm⟩:=C.ex;exact ⟨Zlv F (hr.mono hn) hg hm kp b .nil hx ha.p hdb he hpl,by rw [hps];exact Zpp ha.s ha.n⟩
def ZrB{N:List Str}{scope:Scope}{cl:List (Str×Addr)}{C:Addr}{s:Shared}{H:Hp}{fp:List Addr}{pn:List (Addr×Obj)}:ZbX (CXR X.prog X.w) (ZaU X N scope cl C s H fp pn) E0:=by
 intro pins σ H s e s' I h;obtain ⟨_,_,_,_,_,_,_,q⟩:=h;exact q.elim
end
section
variable{X:Cx}{E:XK}{a b e c' tg:Expr}{es:List Expr}{ta tb tc te:TE}{ma mb mc me:ME}{sa sb:TT}{na nb:MB}{t:TA}{m:MA}{pos:Pos}{n:Nat}
def Zpy:SlR X (rSlU X.K):=by
 intro pins s σ H x v vl vu lo hi sl Q I rx hs pl pu h;obtain ⟨a,xs,rfl,hx,q1,q2⟩:=h;by_cases hw:HT.sIx xs.length 0 lo=0/\HT.sIx xs.length xs.length hi=xs.length
 ·cases rx;obtain ⟨its,r,ht,hz⟩:=I.tuple hx;have hlen:its.toArray.size=xs.length:=by rw [VaQ];exact r.length.symm
  exact ⟨"tuple", _,PyProof.Rows.slot_tuple_getitem.lookup,ht.typeIs,HT.Zef ht hs pl pu (by rw [hlen];exact hw) ⟨.ref a,H,I,rfl,q1 hw⟩⟩
 ·exact Zr1 pins s σ H (.ref a) v vl vu lo hi sl Q I rx hs pl pu ⟨a,xs,rfl,hx,hw,q2 hw⟩
def ZgQ:DO X E none ZiO pno:=⟨Zp5,Zo8⟩
def Zht(h:DE X E a ta ma):DO X E (some a) (ZpG ta) (pso ma):=⟨Zpj h.p,Zpr h.s⟩
def Zud{lo hi:Option Expr}{tl th:TO}{ml mh:Ev->Res (Option Int)}{p2:Pos}(ha:DE X E a ta ma)(hl:DO X E lo tl ml)(hh:DO X E hi th mh):DE X E (.Subscript a (.Slice lo hi none p2) pos) (tSl (rSlD X.K) ta tl th) (cut ma ml mh) :=
 ⟨ZjF (SlR.or Zo0 Zpy) ha.p hl.p hh.p,Zso ha.s hl.s hh.s⟩
def Zqx{K:W.Frag}{d:D}{tn n:String}(ht:Zjw d=some tn)(hn:ZjK.contains n=true):W.kitOne K (.type tn) (.type n)=some (isTy tn n):=by
 have hn':n = "int"\/n = "bool"\/n = "str"\/n = "tuple"\/n = "list"\/n = "dict" := by
  simpa [ZjK] using hn
 have ht':tn = "NoneType"\/tn = "bool"\/tn = "int"\/tn = "str"\/tn = "tuple"\/tn = "list" := by
  cases d<;>simp [Zjw] at ht<;>subst ht<;>simp
 rcases ht' with rfl | rfl | rfl | rfl | rfl | rfl<;>rcases hn' with rfl | rfl | rfl | rfl | rfl | rfl <;>
  first
  | exact Zmx K _
  | exact ZqU K (by decide +kernel) (by decide +kernel) (by decide +kernel)
def rIsi(K:W.Frag):List V->Hp->VK->Prop:=λxs H Q=>∃x n tn b,xs=[x,.ty n]/\W.kitOne K (.type tn) (.type n)=some b/\Q (.bl b) H /\
 ((x=.non/\tn = "NoneType")\/(∃y,x=.bl y/\tn = "bool")\/(∃y,x=.int y/\tn = "int")\/(∃y,x=.str y/\tn = "str")\/(∃a xs,x=.ref a/\SqT K H a xs/\tn = "tuple")\/(∃a xs,x=.ref a/\SqL K H a xs/\tn = "list"))
def Zip:ZdR X (.builtin "isinstance") (rIsi X.K):=by
 intro pins s σ H xs us Q I r h;obtain ⟨x,n,tn,bb,rfl,e,q,h⟩:=h;obtain ⟨u,w',rfl,r1,r2⟩:=vals2 r;cases r2;have fin:∀tk,EP X pins σ Q (.bool bb) { s with toks:=tk }:=λtk=>⟨.bl bb,H,I.tok _,rfl,q⟩
 rcases h with ⟨rfl,rfl⟩ | ⟨y,rfl,rfl⟩ | ⟨y,rfl,rfl⟩ | ⟨y,rfl,rfl⟩ | ⟨a,xs,rfl,hq,rfl⟩ | ⟨a,xs,rfl,hq,rfl⟩
 ·exact Zem I r1 .non e fin
 ·exact Zem I r1 (.bl y) e fin
 ·exact Zem I r1 (.int y) e fin
 ·exact Zem I r1 (.str y) e fin
 ·cases r1;obtain ⟨its,_,⟨o,h1,h2,_⟩,_⟩:=I.tuple hq;exact Va0 W.kitx_tuple I.kIn ⟨o,h1,h2⟩ e (λz=>nomatch z) fin
 ·cases r1;obtain ⟨its,_,⟨o,_,h1,h2,_⟩,_⟩:=I.list hq;exact Va0 W.kitx_list I.kIn ⟨o,h1,h2⟩ e (λz=>nomatch z) fin
def Zin{K:W.Frag}{mg:Str->Option Value}:CallD K mg (rIsi K) bIsi:=by
 intro E F H xs ds s r;unfold bIsi;split
 ·next d nm =>
  obtain ⟨x,y,rfl,rx,ry⟩:=r.two;cases ry;by_cases hn:ZjK.contains nm=true
  ·rw [if_pos hn];cases e:Zjw d with
   | none=>trivial
   | some tn =>
    have k:=Zqx (K:=K) e hn;show Ans mg E (Rp K mg) F H (.ok (.bl (isTy tn nm))) _;refine .ret s (.bl _) λQ q=>⟨x,nm,tn,_,rfl,k,q,?_⟩;cases rx with
    | non=>cases e;exact .inl ⟨rfl,rfl⟩
    | bl y=>cases e;exact .inr (.inl ⟨y,rfl,rfl⟩)
    | int y=>cases e;exact .inr (.inr (.inl ⟨y,rfl,rfl⟩))
    | str y=>cases e;exact .inr (.inr (.inr (.inl ⟨y,rfl,rfl⟩)))
    | ty y=>cases e
    | cls y=>cases e
    | exc y h=>cases e
    | ins m h o q r=>cases e
    | tup h r=>cases e;exact .inr (.inr (.inr (.inr (.inl ⟨_,_,rfl,Zax s h,rfl⟩))))
    | lst h r=>cases e;exact .inr (.inr (.inr (.inr (.inr ⟨_,_,rfl,s.seq h,rfl⟩))))
  ·rw [if_neg hn];trivial
 ·trivial
def ZkC{i:Nat}{x:Str}(hN:X.N.Nodup)(hi:X.N[i]?=some x)(hx:Loc X.env.scope x)(hl:i<n)(hf:X.fn x=true\/X.env.scope.names.lookup x=some .local:=by first | exact .inl rfl | exact .inr rfl | assumption):DG X n (.Name x pos) (ZdH i) (gN i) :=
 ⟨Zlm hN hi hx hf,ZpH hl,λ_ _ _ h=>by cases h⟩
def Zqg:DGs X n [] gNil gs0:=⟨ZqK,ZoT,λd ρ c h=>by
 unfold gs0 at h
 split at h<;>cases h⟩
def Zmt{t:TG}{u:TGs}{g:MG}{gs:MGs}(h1:DG X n e t g)(h2:DGs X n es u gs)(hs:(assignEach (e::es) X.env).map (·.2)=assign e X.env::(assignEach es X.env).map (·.2):=by rfl):DGs X n (e::es) (Zqr t u) (gs1 g gs) :=
 ⟨Znc h1.p h2.p hs,Zm8 h1.s h2.s,λd ρ c h=>by
  unfold gs1 at h;split at h
  ·next d' ds =>
   cases eg:g d' ρ with
   | ok ρ' =>
    rw [eg] at h;exact h2.x ds ρ' c h
   | ex c'=>exact h1.x d' ρ c' eg
   | bad=>rw [eg] at h;cases h
  ·cases h⟩
def Zs1{k:Nat}{u:TGs}{g:MGs}{j:Nat}(hc:X.calm=true)(h:DGs X n es u g)(hn:(assignEach es X.env).length=j:=by rfl)(hst:(assignEach es X.env).findIdx? (·.1)=none:=by rfl):DG X n (.Tuple es k pos) (gSeq X.K j u) (gU j g):=by
 refine ⟨?_,Zr2 h.s,λd ρ c hh=>?_⟩
 ·intro pins s σ H v w Q I r hw;rcases hw with hw | hw
  ·exact Zsd hc h.p hn hst pins s σ H v w Q I r hw
  ·obtain ⟨a,xs,e1,hq,hl,hw⟩:=hw;subst e1;cases r;obtain ⟨its,rv,ht,hz⟩:=I.list hq;refine ZeL (I.ok.hd hc) ht.isList (by simp [hn,<-hl,rv.length]) hst λh' hx=>?_;have I1:Inv X pins σ H { s with heap:=h' }:=I.kept (t':=s.toks) λb o e=>hx b o (Vaf (Vac e)) e
   exact h.p pins _ σ H xs _ Q I1 (by simpa using rv) hw
 ·unfold gU at hh;cases ei:items d with
  | ok xs =>
   rw [ei] at hh;have hh':(if xs.length=j then g xs ρ else .bad)=.ex c:=hh
   split at hh'
   ·exact h.x xs ρ c hh'
   ·cases hh'
  | ex c'=>unfold items at ei;split at ei<;>cases ei
  | bad=>rw [ei] at hh;cases hh
def Zb2(h:DE X E a ta ma):DI X E tg a (iSeq X.K ta) (iv ma):=by
 refine ⟨?_,ZsW h.s⟩;intro pins s σ H R I hw;refine thn (h.p pins s σ H _ I hw) λv s1 ⟨x,H1,I1,r1,q1⟩=>?_;obtain ⟨p,rfl,q1⟩:=q1;cases r1;rcases q1 with ⟨⟨xs,hq⟩,q⟩ | ⟨⟨xs,hq⟩,q⟩
 ·obtain ⟨its,rv,pl,hz⟩:=I1.list hq;refine wpAny_pyIter_list pl.isList ?_;refine ⟨s1.heap.objs.size,[s1.heap.objs.size],_,_,H1,rfl,I1.kept (t':=s1.toks) λb o e=>VaJ _ e,Zk9 p _,⟨_,VaK _ rfl,rfl,rfl⟩,λb hb=>?_,q⟩;have e:b=s1.heap.objs.size:=by simpa using hb
  subst e;exact I1.fpOk (VaL _) (I1.hok.fresh (VaL _))
 ·obtain ⟨its,rv,pl,hz⟩:=I1.tuple hq;refine wpAny_pyIter_tuple (show s1.heap.IsTuple p its.toArray from pl) ?_;refine ⟨s1.heap.objs.size,[s1.heap.objs.size],_,_,H1,rfl,I1.kept (t':=s1.toks) λb o e=>VaJ _ e,Zko p _,⟨_,VaK _ rfl,rfl,rfl⟩,λb hb=>?_,q⟩;have e:b=s1.heap.objs.size:=by simpa using hb
  subst e;exact I1.fpOk (VaL _) (I1.hok.fresh (VaL _))
def Zuj{p:Pos}(hg:Gl X "range")(hm:X.mg "range"=none)(ha:DA X E n [a] t m)(hs:starEach [a] X.env=[(false,eval a X.env)]:=by rfl):DI X E tg (.Call (.Name "range" p) [a] [] pos) (Zo1 t) (r1 m):=⟨ZlD hg hm ha.p hs,ZtQ ha.s⟩
def Zt7{p:Pos}(hg:Gl X "range")(hm:X.mg "range"=none)(ha:DA X E n [a,b] t m)(hs:starEach [a,b] X.env=[(false,eval a X.env),(false,eval b X.env)]:=by rfl)(hs2:starEach [b] X.env=[(false,eval b X.env)]:=by rfl) :
  DI X E tg (.Call (.Name "range" p) [a,b] [] pos) (ZoQ t) (r2 m):=⟨Zlx hg hm ha.p hs hs2,ZtE ha.s⟩
end
structure DTs(X:Cx)(E:XK)(ts:List Expr)(t:TT)(m:MB):Prop where
 p:PTs X ts t
 s:STt X.K X.mg E t m
section
variable{X:Cx}{E:XK}{a b e c' tg iter elt:Expr}{es ts:List Expr}{ta tb tc te:TE}{ma mb mc me:ME}{sa sb:TT}{na nb:MB}{t:TA}{m:MA}{pos spos pos':Pos}{n i j:Nat}{x y:Str}
def Zrg{K:W.Frag}{mg:Str->Option Value}{E:XK}:STt K mg E tYes yes:=λ_ _ _ _ _ _ r=>Ans.ret (R:=RB) r.ss rfl λ_ q=>q
def ZpO:DTs X E [] tYes yes:=⟨Zqe,Zrg⟩
def Zcq{own:List Str}{cap:List (Str×Nat)}{scope:Scope}{cl:List (Str×Addr)}{wi:TI}{mi:MI}{g:Fam TG}{gm:MG}{tt:Fam TT}{tf:Fam TE}(hi:DI X E tg iter wi mi)(O:Zcv X own cap scope cl)(hc:X.calm=true)
  (hg:∀C s H fp pn,DG (ZaU X (own++cap.map (·.1)) scope cl C s H fp pn) own.length tg (g C s H fp pn) gm) (ht:∀C s H fp pn,DTs (ZaU X (own++cap.map (·.1)) scope cl C s H fp pn) E0 ts (tt C s H fp pn) na)
  (he:∀C s H fp pn,DE (ZaU X (own++cap.map (·.1)) scope cl C s H fp pn) E0 elt (tf C s H fp pn) me) (hts:ts.length<=1:=by decide) (hs:∀x,foldedSetIterable iter X.env x=pure x:=by intro _;rfl) :
  DE X E (.ListComp elt [⟨tg,iter,ts,0⟩] scope pos) (ZeB wi g tt tf own cap) (comp mi own.length (cap.map (·.2)) gm na me) :=
 ⟨ZlF hi.p O hc (λC s H fp pn=>(hg C s H fp pn).p) (λC s H fp pn=>(ht C s H fp pn).p) (λC s H fp pn=>(he C s H fp pn).p) hts hs,
  Zqv hi.s (λC s H fp pn=>(hg C s H fp pn).s) (λC s H fp pn=>(ht C s H fp pn).s) (λC s H fp pn=>(he C s H fp pn).s)⟩
def ZbD(hN:X.N.Nodup)(hi:X.N[i]?=some x)(hx:Loc X.env.scope x)(he:DE X E e te me)(hs:swapsWith e (some (.Name x pos')) spos.line X.env=pure false:=by rfl)(hf:X.fn x=true\/X.env.scope.names.lookup x=some .local:=by first | exact .inl rfl | exact .inr rfl | assumption) :
  DS X E (.Assign [.Name x pos'] e spos) (tAsg te (ZdH i)) (st i me):=⟨Zih hN hi hx he.p hs hf,ZnL he.s⟩
def ZsI{g:TG}{gm:MG}(he:DE X E e te me)(hg:DG X 1000 tg g gm)(hs:swapsWithSole [tg] e spos.line X.env=pure false:=by rfl)(hw:swappedStores [tg] e X.env=pure none:=by rfl)
  (h1:(assignEach [tg] X.env).map (·.2)=[assign tg X.env]:=by rfl):DS X E (.Assign [tg] e spos) (tAsg te g) (asg gm me):=⟨Zn9 he.p hg.p hs hw h1,Zrb he.s hg.s hg.x⟩
def ZsT(he:DE X E e te me)(hs:swapsWith e none spos.line X.env=pure false:=by rfl):DS X E (.Expr e spos) (Zga te) (drp me):=⟨ZeI he.p hs,ZoZ he.s⟩
def ZaJ(he:DE X E e te me):DS X E (.Return (some e) spos) (tRet te) (ret me):=⟨ZlO he.p,Zsx he.s⟩
def Zgw{st:Stmt}{u:TS}{k:MS}(h:DS X E st u k):DS X E st u (frz i k):=⟨h.p,Zsc h.s⟩
def Zav:DSs X E [] Zml nop:=⟨ZkL,Ztb⟩
def Zaj{st:Stmt}{u:TS}{k:MS}(h:DS X E st u k):DSs X E [st] u k:=⟨Zd8 h.p,h.s⟩
def Zab{st:Stmt}{rest:List Stmt}{u u':TS}{k k':MS}(h:DS X E st u k)(h':DSs X E rest u' k'):DSs X E (st::rest) (tSeq u u') (sq k k'):=⟨ZcW h.p h'.p,Zry h.s h'.s⟩
def Za5{as bs:List Stmt}{u u':TS}{k k':MS}(hc:DT X E c' sa na)(ha:DSs X E as u k)(hb:DSs X E bs u' k'):DS X E (.If c' as bs spos) (tIfS sa u u') (ifs na k k'):=⟨Zrv hc.p ha.p hb.p,Zug hc.s ha.s hb.s⟩
def ZjG{body:List Stmt}{wi:TI}{mi:MI}{g:TG}{gm:MG}{u:TS}{k:MS}(hp:PassesOwn (model X.prog X.w) X.A X.env X.xe)(hc:X.calm=true)(hi:DI X E tg iter wi mi)(hg:DG X 1000 tg g gm)(hb:DSs X E body u k)
  (hs:∀x,foldedSetIterable iter X.env x=pure x:=by intro _;rfl):DS X E (.For tg iter body [] spos) (tFor wi g u) (for_ mi gm k):=⟨ZnT hp hc hi.p hg.p hb.p hs,Zsk hi.s hg.s hg.x hb.s⟩
def ZnN{body:List Stmt}{u:TS}{k:MS}{fu:Ev->Nat}(hp:PassesOwn (model X.prog X.w) X.A X.env X.xe)(hc:DT X E c' sa na)(hb:DSs X E body u k):DS X E (.While c' body [] spos) (Zj0 sa u) (whl fu na k):=⟨Znw hp hc.p hb.p,ZmH hc.s hb.s⟩
end
section
variable{P:Program}{w:World}{K:W.Frag}{mg:Str->Option Value}{base:Heap}{N ps:List Str}{qual x:Str}{scope:Scope}{f:Addr}{cd:Value}{A:Around}{outer:List Env}{s₀:Shared}{H₀:Hp}{E:XK}{t:TA}{m:MA}{n:Nat}
def Zie{C:Addr}{np cpos pos:Pos}{e:Expr}{es:List Expr}(hg:Gl (cxOf (CXR P w) P w K mg base N qual scope f cd A outer s₀ H₀ E) x)(hm:mg x=some (.ref C))(hq:W.excIn K C Zc7 "ValueError.__new__"=true)
  (ha:DA (cxOf (CXR P w) P w K mg base N qual scope f cd A outer s₀ H₀ E) E n (e::es) t m) (hn:n<=1000:=by decide) (hd:(x==("__debug__" : Str))=false:=by decide)
  (he:starEach (e::es) (cxOf (CXR P w) P w K mg base N qual scope f cd A outer s₀ H₀ E).env=(false,eval e (cxOf (CXR P w) P w K mg base N qual scope f cd A outer s₀ H₀ E).env)::starEach es (cxOf (CXR P w) P w K mg base N qual scope f cd A outer s₀ H₀ E).env:=by rfl)
  (hpl:(backTo cpos (starEach es (cxOf (CXR P w) P w K mg base N qual scope f cd A outer s₀ H₀ E).env)).any (·.1)=false:=by rfl) (hcx:clsOf x=x:=by decide +kernel) (hpx:pay x=none:=by decide +kernel) :
  DS (cxOf (CXR P w) P w K mg base N qual scope f cd A outer s₀ H₀ E) E (.Raise (some (.Call (.Name x np) (e::es) [] cpos)) none pos) (Zoc E C t) (rse x m):=by
 refine ⟨Zmm hg hm hq ha.p hd he hpl,?_⟩;intro F0 H0 F H σ ρ rr;refine (ha.s F0 H0 F H σ ρ rr).stm (w':=λvs H1 _=>vs.length<=1000/\E (.ref C) none H1) rr.g λds ed F1 H1 vs g1 rs=>?_
 exact λD q=>⟨by rw [rs.length,ha.n ρ ds ed];exact hn,by
  have z:=q F1 H1 C (rr.g.trans g1) (by rw [hcx];exact hm);rw [hpx] at z
  exact z⟩
def Zft{F H:Hp}{vs:List V}{ds:List D}(s:Same F H)(r:Rps K mg F vs ds):Rep K mg F H F H (start N vs) (ev0 N.length ds):=by
 have hl:=r.length;have key:∀(i:Nat) (c:Cl),(ev0 N.length ds)[i]?=some c->c=.no\/∃d,ds[i]?=some d/\c=.im d:=by
  intro i c e;rw [Zh5] at e;by_cases hi:i<ds.length
  ·rw [Vbb (by simpa using hi),Vbc,VbM hi] at e;exact .inr ⟨ds[i],VbM hi,(Vaw e).symm⟩
  ·rw [Va9 (by simpa using hi),Vba] at e;split at e
   ·exact .inl (Vaw e).symm
   ·cases e
 refine ⟨.refl s,?_,λi d e=>?_,λi ds' e=>?_,λi j ds' es' a e=>?_⟩
 ·rw [Zh5];unfold start;simp [hl]
 ·rcases key i _ e with z | ⟨d',e1,z⟩
  ·cases z
  ·cases z;obtain ⟨v,e2,rv⟩:=r.get e1;refine ⟨v,?_,rv⟩;have hi:i<vs.length:=(Vat.mp e2).1;unfold start;rw [Vbb (by simpa using hi),Vbc,e2];rfl
 ·rcases key i _ e with z | ⟨d',e1,z⟩<;>cases z
 ·rcases key i _ e with z | ⟨d',e1,z⟩<;>cases z
def okD{st:Stmt}{fd:FuncData}{k:Nat}{mb:MS}(F:Fun K x x st f fd)(S:Zaf N ps (Zac st))
  (h:∀(cdv:Value) (A:Around) (outer:List Env) (s:Shared) (H:Hp) (E:XK),Room k (A.deeper (envOfC x (Zac st) s.heap.objs.size f cdv))->∃t,DSs (cxOf (CXR P w) P w K mg base N x (Zac st) f cdv A outer s H E) E (Zbn st) t mb) :
  FnOk P w K mg base (CXR P w) (k+1) f fd ps (spD K mg ps.length (fn N.length mb)):=by
 obtain ⟨oc,od,kV,doc,pm,an,cdv,ct,osl,rfl,lk,hcd⟩:=F.ex;refine ZmE lk hcd S (λvs H Q E q=>q.1) λA outer s H vs Q E hr hsp=>?_;obtain ⟨t,hd⟩:=h cdv A outer s H E hr;refine ⟨t,hd.p,?_⟩;obtain ⟨_,F0,ds,s0,rs,hb,hok,hex⟩:=hsp;have z:=hd.s F0 H F0 H (start N vs) (ev0 N.length ds) (Zft s0 rs);unfold fn at hb hok hex;cases e:mb (ev0 N.length ds) with
 | ok fl =>
  rw [e] at z hb hok hex;cases fl with
  | nx ρ=>exact z _ λF' H' σ' _ r'=>hok .non rfl F' H' .non r'.g .non
  | rt d=>exact z _ λF' H' v g rv=>hok d rfl F' H' v g rv
  | bk ρ=>exact absurd rfl hb
  | ct ρ=>exact absurd rfl hb
 | ex c =>
  rw [e] at z hex;exact z _ λF' H' C g hc=>hex c rfl F' H' C g hc
 | bad=>rw [e] at hb;exact absurd rfl hb
def _root_.L2.Def.cal{st:Stmt}{k:Nat}{mb:MS}(D:Def K mg x st ps)(S:Zaf N ps (Zac st))
  (h:∀(f:Addr) (cdv:Value) (A:Around) (outer:List Env) (s:Shared) (H:Hp) (E:XK),Room k (A.deeper (envOfC x (Zac st) s.heap.objs.size f cdv))->∃t,DSs (cxOf (CXR P w) P w K mg base N x (Zac st) f cdv A outer s H E) E (Zbn st) t mb) :
  Cal P w K mg base (k+1) x ps (fn N.length mb):=by
 obtain ⟨f,fd,F,b,hm⟩:=D.ex;exact ⟨f,fd,okD F S (h f),b,F.kp,hm⟩
end
def ZsQ{P:Program}{w:World}{l:List Env}{H:Hp}{s s':Shared}{e:Value}(h:CXR P w l H s (λ_ _ _=>False) e s'):False:=by
 obtain ⟨_,_,_,_,_,_,_,q⟩:=h;exact q
def Zm0(K:W.Frag):Sp:=λvs H Q _=>∃(a:Addr) (ns:List Int),vs=[.ref a]/\SqL K H a (ns.map V.int)/\ns.length<=63/\∀H',Q (.bl true) H'
def Zi9{K:W.Frag}{mg:Str->Option Value}{H:Hp}:∀ns:List Int,Rps K mg H (ns.map V.int) (ns.map D.int)
 | []=>.nil
 | n::r=>.cons (.int n) (Zi9 r)
def Zrs{K:W.Frag}{mg:Str->Option Value}{m:List D->Res D}(h:∀ns:List Int,ns.length<=63->m [.lst (ns.map .int)]=.ok (.bl true)):∀vs H Q E,Zm0 K vs H Q E->spD K mg 1 m vs H Q E:=by
 rintro vs H Q E ⟨a,ns,rfl,hS,hl,q⟩;have e:=h ns hl;refine ⟨rfl,H,_,Same.refl _,.cons (.lst hS (Zi9 ns)) .nil,λz=>?_,λd e'=>?_,λc e'=>?_⟩
 ·rw [e] at z;cases z
 ·rw [e] at e';cases e';intro F' H' x _ rx;cases rx;exact q H'
 ·rw [e] at e';cases e'
def ZqD{X:Cx}{N:List Str}{scope:Scope}{cl:List (Str×Addr)}{C':Addr}{s:Shared}{H:Hp}{fp:List Addr}{pn:List (Addr×Obj)}{e:Expr}{es:List Expr}{t:TA}{m:MA}{n k l:Nat}{x:Str}{ps:List Str}{f:List D->Res D}{p pos:Pos}
  (C:Cal X.prog X.w X.K X.mg X.base k x ps f) (hr:Room l X.A) (hn:k<=l) (hg:Gl (ZaU X N scope cl C' s H fp pn) x) (ha:DA (ZaU X N scope cl C' s H fp pn) E0 n (e::es) t m) (hps:ps.length=n:=by rfl)
  (hdb:(x==("__debug__" : Str))=false:=by decide) (he:starEach (e::es) (ZaU X N scope cl C' s H fp pn).env=(false,eval e (ZaU X N scope cl C' s H fp pn).env)::starEach es (ZaU X N scope cl C' s H fp pn).env:=by rfl)
  (hpl:(backTo pos (starEach es (ZaU X N scope cl C' s H fp pn).env)).any (·.1)=false:=by rfl) :
  DE (ZaU X N scope cl C' s H fp pn) E0 (.Call (.Name x p) (e::es) [] pos) (ZhM (spD X.K X.mg ps.length f) [] E0 t) (on f m) :=
 ZbY (X:=ZaU X N scope cl C' s H fp pn) C hr hn hg ZrB ha hps hdb he hpl
section
variable{X:Cx}{E:XK}
def all_range:∀bs:List Bool,((List.range bs.length).all λi=>bs.getD i true)=bs.all id
 | []=>rfl
 | b::r=>by
  rw [VaT,List.range_succ_eq_map,List.all_cons,List.all_map,List.all_cons,<-all_range r];rfl
def ZgO:∀(bs:List Bool) (its:List Value),Vals (bs.map V.bl) its->its=bs.map Value.bool
 | [],_,.nil=>rfl
 | b::r,_,.cons h t=>by
  cases h;rw [VaV,ZgO r _ t]
def rAll(K:W.Frag):List V->Hp->VK->Prop:=λxs H Q=>∃(a:Addr) (bs:List Bool),xs=[.ref a]/\SqL K H a (bs.map V.bl)/\Q (.bl (bs.all id)) H
def Zdc(hc:X.calm=true):ZdR X (.builtin "all") (rAll X.K):=by
 intro pins s σ H xs us Q I r h;obtain ⟨a,bs,rfl,hq,q⟩:=h;obtain ⟨u,rfl,r1⟩:=vals1 r;cases r1;obtain ⟨its,rv,pl,hz⟩:=I.list hq;obtain rfl:=ZgO bs its rv;have la:a<s.heap.objs.size:=by
  obtain ⟨o,_,ho,_⟩:=pl;exact Vac ho
 refine call_all_walk (wpAny_pyIter_list pl.isList ?_);refine ⟨s.heap.objs.size,_,_,_,_,_,λi=>bs.getD i true,rfl,Walks.list (A:=X.A.in1) (I.ok.hd hc) s.heap.objs.size a (Vaf la) (bs.map Value.bool).toArray,⟨⟨_,VaK _ rfl,rfl,rfl⟩,?_⟩,?_,λh' tk k=>?_⟩
 ·exact pl.isList.at λo e=>VaJ _ e
 ·intro i v s2 Q2 E2 hP hQ;have e:v=.bool (bs.getD i true):=by
   rw [List.getElem?_toArray,Vbc] at hP;cases q:bs[i]? with
   | none=>rw [q] at hP;cases hP
   | some b =>
    rw [q] at hP;cases hP;rw [List.getD_eq_getElem?_getD,q];rfl
  subst e;exact VaI hQ
 ·have e:(List.range (bs.map Value.bool).toArray.size).all (λi=>bs.getD i true)=bs.all id:=by
   rw [VaQ,VaW];exact all_range bs
  rw [e];exact ⟨.bl (bs.all id),H,I.kept λb o z=>k b o (by simp;exact Vaf (Vac z)) (VaJ _ z),rfl,q⟩
def Zji{K:W.Frag}{mg:Str->Option Value}{F:Hp}:∀{xs:List V} {ds:List D} {bs:List Bool},Rps K mg F xs ds->bools ds=.ok bs->xs=bs.map V.bl
 | _,_,_,.nil,e=>by cases e;rfl
 | _,_,bs,.cons (d:=d) (ds:=ds) h r,e=>by
  unfold bools at e;cases d with
  | bl b =>
   cases q:bools ds with
   | ok bs' =>
    simp only [q,Res.bind] at e;cases e;cases h;rw [VaV,Zji r q]
   | ex c=>simp only [q,Res.bind] at e;cases e
   | bad=>simp only [q,Res.bind] at e;cases e
  | _=>cases e
def Zi8{c:Str}:∀ds:List D,bools ds≠.ex c
 | [],h=>by cases h
 | d::r,h=>by
  unfold bools at h;cases d with
  | bl b =>
   cases q:bools r with
   | ok bs'=>simp only [q,Res.bind] at h;cases h
   | ex c'=>exact Zi8 r q
   | bad=>simp only [q,Res.bind] at h;cases h
  | _=>cases h
def Zc8{K:W.Frag}{mg:Str->Option Value}:CallD K mg (rAll K) bAll:=by
 intro E F H xs ds s r;unfold bAll;split
 ·next d =>
  obtain ⟨x,rfl,rx⟩:=r.one;cases d with
  | lst es =>
   cases rx with
   | lst h rs =>
    show Ans mg E (Rp K mg) F H ((bools es).bind λbs=>.ok (.bl (bs.all id))) _;cases q:bools es with
    | ok bs =>
     have e:=Zji rs q;subst e;exact Ans.ret s (.bl _) λQ z=>⟨_,bs,rfl,s.seq h,z⟩
    | ex c=>exact absurd q (Zi8 es)
    | bad=>trivial
  | _=>trivial
 ·trivial
def Zlr{x:Str}{C:Addr}{pos:Pos}(hg:Gl X x)(hm:X.mg x=some (.ref C))(hd:(x==("__debug__" : Str))=false:=by decide):DE X E (.Name x pos) (tC (.ref C)) (c (.cls x)):=⟨ZeM hg hm rfl hd,se_c λ_=>.cls hm⟩
structure TabOk(K:W.Frag)(mg:Str->Option Value)(tc:List (Str×Str×Bool))(tt:List (Str×String×Bool)):Prop where
 c:∀e∈tc,∃D C,mg e.1=some (.ref D)/\mg e.2.1=some (.ref C)/\Zgo K D/\W.kitOne K (.ref D) (.ref C)=some e.2.2
 t:∀e∈tt,∃D,mg e.1=some (.ref D)/\Zgo K D/\W.kitOne K (.ref D) (.type e.2.1)=some e.2.2
def rIsX(K:W.Frag):List V->Hp->VK->Prop:=λxs H Q=>∃a D y b,xs=[.ref a,y]/\(∃φ,H a=some (.ext φ)/\∀g,φ g->ExcAt a (.ref D) g)/\Zgo K D/\Q (.bl b) H /\
 ((∀u,RelV y u->W.kitOne K (.ref D) u=some b)\/∃tp ys,y=.ref tp/\SqT K H tp ys/\∀us,Vals ys us->W.kitAny K (.ref D) us=some b)
def ZdI:ZdR X (.builtin "isinstance") (rIsX X.K):=by
 intro pins s σ H xs us Q I r h;obtain ⟨a,D,y,bb,rfl,hH,C,q,h⟩:=h;obtain ⟨u,w',rfl,r1,r2⟩:=vals2 r;cases r1;obtain ⟨φ,hH,hφ⟩:=hH;have ex:ExcAt a (.ref D) s.heap:=hφ _ (show _/\_ from I.hok a _ hH).1;have fin:∀tk,EP X pins σ Q (.bool bb) { s with toks:=tk }:=λtk=>⟨.bl bb,H,I.tok _,rfl,q⟩
 rcases h with h | ⟨tp,ys,rfl,hq,h⟩
 ·exact Va0 (ZjU C) I.kIn ex (h _ r2) (λz=>nomatch z) fin
 ·cases r2;obtain ⟨its,rv,⟨o,h1,h2,n,h3⟩,_⟩:=I.tuple hq;obtain ⟨oc,od,oda,osl⟩:=o;dsimp only at h2 h3;subst h2 h3;exact W.kia_tup (ZjU C) I.kIn ex h1 (h _ rv) (λz=>nomatch z) fin
def Zoz{K:W.Frag}{mg:Str->Option Value}{F:Hp}{tc:List (Str×Str×Bool)}{tt:List (Str×String×Bool)}(T:TabOk K mg tc tt){c:Str}{C:Addr}(hm:mg c=some (.ref C)){y:V}{k:D}{b:Bool}(ry:Rp K mg F y k)(e:oneX tc tt c k=.ok b) :
  Zgo K C/\∀u,RelV y u->W.kitOne K (.ref C) u=some b:=by
 cases k with
 | cls k =>
  cases ry with
  | cls hk =>
   have e:ofO ((tc.find? λe=>e.1==c&&e.2.1==k).map (·.2.2))=.ok b:=e;cases q:tc.find? λe=>e.1==c&&e.2.1==k with
   | none=>rw [q] at e;cases e
   | some en =>
    rw [q] at e;cases e;have hp:=List.find?_some q;have hmem:=List.mem_of_find?_eq_some q;rw [Vbm,VaR,VaR] at hp;obtain ⟨D',C',m1,m2,co,kk⟩:=T.c en hmem;rw [hp.1,hm] at m1;rw [hp.2,hk] at m2;cases m1;cases m2;exact ⟨co,λu r=>by cases r;exact kk⟩
 | ty n =>
  cases ry with
  | ty =>
   have e:ofO ((tt.find? λe=>e.1==c&&e.2.1==n).map (·.2.2))=.ok b:=e;cases q:tt.find? λe=>e.1==c&&e.2.1==n with
   | none=>rw [q] at e;cases e
   | some en =>
    rw [q] at e;cases e;have hp:=List.find?_some q;have hmem:=List.mem_of_find?_eq_some q;rw [Vbm,VaR,VaR] at hp;obtain ⟨D',m1,co,kk⟩:=T.t en hmem;rw [hp.1,hm] at m1;cases m1;exact ⟨co,λu r=>by cases r;rw [<-hp.2];exact kk⟩
 | _=>cases e
def ZkD{tc:List (Str×Str×Bool)}{tt:List (Str×String×Bool)}{c c':Str}(k:D):oneX tc tt c k≠.ex c':=by
 intro h;unfold oneX at h;split at h
 ·cases q:(tc.find? λe=>e.1==c&&e.2.1==‹Str›).map (·.2.2)<;>rw [q] at h<;>cases h
 ·cases q:(tt.find? λe=>e.1==c&&e.2.1==‹String›).map (·.2.2)<;>rw [q] at h<;>cases h
 ·cases h
def ZnU{K:W.Frag}{mg:Str->Option Value}{F:Hp}{tc:List (Str×Str×Bool)}{tt:List (Str×String×Bool)}(T:TabOk K mg tc tt){c:Str}{C:Addr}(hm:mg c=some (.ref C)):∀{ys:List V} {ks:List D} {b:Bool},Rps K mg F ys ks->anyX tc tt c ks=.ok b ->
  (ks≠[]->Zgo K C)/\∀us,Vals ys us->W.kitAny K (.ref C) us=some b
 | _,_,b,.nil,e=>by
  cases e;exact ⟨λz=>absurd rfl z,λus r=>by cases r;rfl⟩
 | _,_,b,.cons (d:=d) (ds:=ds) h r,e=>by
  unfold anyX at e;cases q:oneX tc tt c d with
  | ok b1 =>
   rw [q] at e;obtain ⟨co,k1⟩:=Zoz T hm h q;refine ⟨λ_=>co,λus ru=>?_⟩;cases ru with
   | cons r1 r2 =>
    unfold W.kitAny;rw [k1 _ r1];cases b1 with
    | true=>cases e;rfl
    | false=>exact (ZnU T hm r e).2 _ r2
  | ex c'=>exact absurd q (ZkD d)
  | bad=>rw [q] at e;cases e
def Zoh{tc:List (Str×Str×Bool)}{tt:List (Str×String×Bool)}{c c':Str}:∀ks:List D,anyX tc tt c ks≠.ex c'
 | [],h=>by cases h
 | k::r,h=>by
  unfold anyX at h;cases q:oneX tc tt c k with
  | ok b1 =>
   rw [q] at h;cases b1 with
   | true=>cases h
   | false=>exact Zoh r h
  | ex c'=>exact ZkD k q
  | bad=>rw [q] at h;cases h
def Zco{K:W.Frag}{mg:Str->Option Value}{tc:List (Str×Str×Bool)}{tt:List (Str×String×Bool)}(T:TabOk K mg tc tt):CallD K mg (rIsX K) (bIsX tc tt):=by
 intro E F H xs ds s r;unfold bIsX;split
 ·next d k =>
  obtain ⟨x,y,rfl,rx,ry⟩:=r.two;cases d with
  | exc c =>
   cases rx with
   | @exc _ C' a' _ hm hx0 =>
    have hx:=(hx0.same (H':=H) λb o z _=>s b o z).ext;show Ans mg E (Rp K mg) F H (askX tc tt (clsOf c) k) _;generalize clsOf c=c at hm ⊢;have gen:∀k',Rp K mg F y k'->askX tc tt c k'=(oneX tc tt c k').bind (λb=>.ok (.bl b))->Ans mg E (Rp K mg) F H (askX tc tt c k') (rIsX K [.ref a',y] H):=by
     intro k' rk e;rw [e];cases q:oneX tc tt c k' with
     | ok b =>
      obtain ⟨co,k1⟩:=Zoz T hm rk q;exact Ans.ret s (.bl _) λQ z=>⟨_,_,y,b,rfl,hx,co,z,.inl k1⟩
     | ex c'=>exact absurd q (ZkD k')
     | bad=>trivial
    cases k with
    | tup ks =>
     cases ry with
     | tup hq rq =>
      cases ks with
      | nil=>trivial
      | cons k0 kr =>
       show Ans mg E (Rp K mg) F H ((anyX tc tt c (k0::kr)).bind λb=>.ok (.bl b)) _;cases q:anyX tc tt c (k0::kr) with
       | ok b =>
        obtain ⟨co,k1⟩:=ZnU T hm rq q;exact Ans.ret s (.bl _) λQ z=>⟨_,_,_,b,rfl,hx,co (by simp),z,.inr ⟨_,_,rfl,Zax s hq,k1⟩⟩
       | ex c'=>exact absurd q (Zoh _)
       | bad=>trivial
    | _=>exact gen _ ry rfl
  | _=>trivial
 ·trivial
end
section
variable{K:W.Frag}{mg:Str->Option Value}{F0 H0 F H:Hp}{σ:St}{ρ:Ev}
def Rep.unset(r:Rep K mg F0 H0 F H σ ρ)(i:Nat):Rep K mg F0 H0 F H (σ.set i none) (ρ.set i .no):=by
 refine ⟨r.g,by rw [Vbq,Vbq];exact r.len,λj e q=>?_,λj ds q=>?_,λj k ds es a q1 q2 q3 q4=>?_⟩
 ·rcases ZaC q with ⟨_,z,_⟩ | ⟨hij,q⟩
  ·cases z
  ·rw [Za4 hij];exact r.im j e q
 ·rcases ZaC q with ⟨_,z,_⟩ | ⟨hij,q⟩
  ·cases z
  ·rw [Za4 hij];exact r.ow j ds q
 ·rcases ZaC q1 with ⟨_,z,_⟩ | ⟨h1,q1⟩
  ·cases z
  ·rcases ZaC q2 with ⟨_,z,_⟩ | ⟨h2,q2⟩
   ·cases z
   ·rw [Za4 h1] at q3;rw [Za4 h2] at q4;exact r.ne j k ds es a q1 q2 q3 q4
end
section
variable{K:W.Frag}{mg:Str->Option Value}{E:XK}{i:Nat}
def ZqG{t:TA}{m:MA}{n:Nat}(ha:SA K mg E t m)(hl:SAn n m)(hn:n<=sizeLine):SS K mg E (tAsg (tLst t) (ZdH i)) (stO i (mls m)):=by
 intro F0 H0 F H σ ρ rr;have h:=ha F0 H0 F H σ ρ rr;unfold stO mls;cases e:m ρ with
 | ok ds =>
  rw [e] at h;exact λD q=>h _ λF' H' xs g rs=>⟨by rw [rs.length,hl ρ ds e];exact hn,λp hp=>q F' _ _ g.f ((rr.gr g).own i hp rs)⟩
 | ex c =>
  rw [e] at h;exact λD q=>h _ λF' H' C g hC=>q F' H' C (rr.g.trans g) hC
 | bad=>trivial
end
section
variable{X:Cx}{E:XK}{a b e c' tg iter elt:Expr}{es ts:List Expr}{ta tb tc te:TE}{ma mb mc me:ME}{sa sb:TT}{na nb:MB}{t:TA}{m:MA}{pos spos pos':Pos}{n i j:Nat}{x y:Str}
def ZoN(hN:X.N.Nodup)(hi:X.N[i]?=some x)(hx:Loc X.env.scope x)(ha:DA X E n es t m)(hn:n<=sizeLine:=by decide)(hs:swapsWith (.List es pos) (some (.Name x pos')) spos.line X.env=pure false:=by rfl)(hf:X.fn x=true\/X.env.scope.names.lookup x=some .local:=by first | exact .inl rfl | exact .inr rfl | assumption) :
  DS X E (.Assign [.Name x pos'] (.List es pos) spos) (tAsg (tLst t) (ZdH i)) (stO i (mls m)):=⟨Zih hN hi hx (Zij ha.p) hs hf,ZqG ha.s ha.n hn⟩
def ZlG(i:Nat){np apos cpos:Pos}(he:DE X E e te me)(hN:X.N[i]?=some x:=by rfl)(hv:Vis X.env.scope x:=by first | exact Or.inl rfl | exact Or.inr (Or.inl rfl) | exact Or.inr (Or.inr rfl))(hd:(x==("__debug__" : Str))=false:=by decide)
  (hcd:(x==("__classdict__" : Str))=false:=by decide) (hbase:attributeBase (.Name x np) "append" X.env (eval (.Name x np) X.env)=eval (.Name x np) X.env:=by rfl)
  (hfew:((backTo cpos (starEach [e] X.env)).all (λx=>!x.1)&&(backToKw cpos (keywordEach [] X.env)).all (λx=>x.1.isSome)
   && decide ([e].length+([]:List Keyword).length+(if ([]:List Keyword).isEmpty then 0 else 1)<30))=true:=by rfl)
  (hline:(apos.endLine==cpos.line)=true:=by rfl) (hs:starEach [e] X.env=(false,eval e X.env)::starEach [] X.env:=by rfl) (hplain:(backTo cpos (starEach [] X.env)).any (·.1)=false:=by rfl)
  (hsw:swapsWith (.Call (.Attribute (.Name x np) "append" apos) [e] [] cpos) none spos.line X.env=pure false:=by rfl) :
  DS X E (.Expr (.Call (.Attribute (.Name x np) "append" apos) [e] [] cpos) spos) (Zga (tBM X.K "list" Zdu (tVar i) (ZdD te tNil))) (app i me) :=
 ⟨ZeI (Zj3 VbR PySem.F.slot_list_append PySem.F.type_list_append ZfW (Zb0 hN hv hd hcd) (ZbG he.p Zcu hs) hbase hfew hline hs hplain) hsw,
  Zq1 he.s λH a xs h=>.inl ⟨rfl,xs,SqL.of h⟩⟩
end
end L2.Ds
namespace L2
open PySem PySem.Spec PyProof.Rows PySem.Calls
end L2
namespace L2.Ds
open PySem PySem.Spec PyProof.Rows Dl
section
variable{K:W.Frag}{mg:Str->Option Value}
def del(F:Hp)(a:Addr):Hp:=λb=>if b=a then none else F b
def ZjY{F:Hp}{a:Addr}:del F a a=none:=if_pos rfl
def Zgr{F:Hp}{a b:Addr}(h:b≠a):del F a b=F b:=if_neg h
end
section
variable{X:Cx}{pins:List (Addr×Obj)}{σ:St}{H:Hp}{s:Shared}
mutual
def ZnZ(I:Inv X pins σ H s):∀{x:V} {d d':PyData},DV X.K H x d->DV X.K H x d'->d=d'
 | _,_,_,.non,.non=>rfl
 | _,_,_,.bl _,.bl _=>rfl
 | _,_,_,.int _,.int _=>rfl
 | _,_,_,.str _,.str _=>rfl
 | _,_,_,.tup h q,.tup h' q'=>by
  have e:=I.tuple_inj h h';subst e;rw [ZiJ I q q']
 | _,_,_,.lst h q,.lst h' q'=>by
  have e:=I.list_inj h h';subst e;rw [ZiJ I q q']
 | _,_,_,.tup h q,.lst h' q'=>by
  obtain ⟨_,_,⟨o,e1,e2,_⟩,_⟩:=I.tuple h;obtain ⟨_,_,⟨o',_,e1',e2',_⟩,_⟩:=I.list h';rw [e1] at e1';cases e1';rw [e2] at e2';simp at e2'
 | _,_,_,.lst h q,.tup h' q'=>by
  obtain ⟨_,_,⟨o,e1,e2,_⟩,_⟩:=I.tuple h';obtain ⟨_,_,⟨o',_,e1',e2',_⟩,_⟩:=I.list h;rw [e1] at e1';cases e1';rw [e2] at e2';simp at e2'
def ZiJ(I:Inv X pins σ H s):∀{xs:List V} {ds ds':List PyData},DVs X.K H xs ds->DVs X.K H xs ds'->ds=ds'
 | _,_,_,.nil,.nil=>rfl
 | _,_,_,.cons h r,.cons h' r'=>by rw [ZnZ I h h',ZiJ I r r']
end
def hitE(X:Cx)(H:Hp)(dx:PyData)(u:Value):Bool:=@decide (∃y d,RelV y u/\DV X.K H y d/\PyData.eqv d dx=true) (Classical.propDecidable _)
def ZfQ(I:Inv X pins σ H s){dx d:PyData}{u:Value}{y:V}(r:RelV y u)(h:DV X.K H y d):hitE X H dx u=PyData.eqv d dx:=by
 unfold hitE;cases e:PyData.eqv d dx with
 | true=>exact @Vbt _ (Classical.propDecidable _) ⟨y,d,r,h,e⟩
 | false =>
  refine @Vaa _ (Classical.propDecidable _) ?_;rintro ⟨y',d',r',h',e'⟩;have ey:=r.inj r';subst ey;rw [ZnZ I h h',e'] at e;cases e
def ZiT(I:Inv X pins σ H s){dx:PyData}:∀{ys:List V} {its:List Value} {ds:List PyData},Vals ys its->DVs X.K H ys ds->its.any (hitE X H dx)=ds.any λd=>PyData.eqv d dx
 | _,_,_,.nil,.nil=>rfl
 | _,_,_,.cons r1 r2,.cons h1 h2=>by rw [List.any_cons,List.any_cons,ZiT I r2 h2,ZfQ I r1 h1]
def ZkW(I:Inv X pins σ H s):∀{ys:List V} {its:List Value} {ds:List PyData} {u:Value},Vals ys its->DVs X.K H ys ds->PyData.canLayAll0 ds=true->u∈its->∃y d,RelV y u/\DV X.K H y d/\d.canLay0=true
 | _,_,_,_,.nil,.nil,_,hu=>by cases hu
 | _,_,_,u,.cons r1 r2,.cons h1 h2,hc,hu=>by
  have hc':=(show PyData.canLay0 _=true/\PyData.canLayAll0 _=true by simpa [PyData.canLayAll0] using hc);rcases Vaq.mp hu with rfl | hu
  ·exact ⟨_,_,r1,h1,hc'.1⟩
  ·exact ZkW I r2 h2 hc'.2 hu
def rInD(K:W.Frag)(f:Bool->Bool):R2:=λx y H Q=>∃a ys dx dys,y=.ref a/\(SqL K H a ys\/SqT K H a ys)/\DV K H x dx/\DVs K H ys dys/\dx.canLay0=true/\PyData.canLayAll0 dys=true/\dx.depth<=50/\Q (.bl (f (dys.any λd=>PyData.eqv d dx))) H
end
section
variable{X:Cx}{E:XK}
def Zqm(hu:X.A.units+64<cLine):OpR X (compareOp .NotIn) (rInD X.K not):=by
 intro pins s σ H x y v u Q I rx ry h;obtain ⟨a,ys,dx,dys,rfl,hq,h1,h2,h3,h4,h5,q⟩:=h;cases ry;obtain ⟨bs,rb⟩:=h1.reads I rx;have eq:∀{its:List Value},Vals ys its->∀u,u∈its.toArray->PySem.SeqAt.EqAt X.A.in1 s u v (hitE X H dx u):=λ{its} rv u hm=>by
  obtain ⟨y',d',r',h',c'⟩:=ZkW I rv h2 h4 (by simpa using hm);obtain ⟨as,ra⟩:=h'.reads I r';rw [ZfQ I r' h'];exact PySem.SeqAt.eqAt_reads d' dx X.A.in1 s u v as bs ra rb c' h3 (by show X.A.units+1+_<_;omega)
 rcases hq with hq | hq
 ·obtain ⟨its,rv,pl,hz⟩:=I.list hq;refine PySem.SeqAt.notIn_listAt (hitE X H dx) pl.isList (eq rv) ?_;have e:its.toArray.any (hitE X H dx)=dys.any λd=>PyData.eqv d dx:=by rw [List.any_toArray];exact ZiT I rv h2
  rw [e];exact ⟨.bl _,H,I,rfl,q⟩
 ·obtain ⟨its,rv,pl,hz⟩:=I.tuple hq;refine PySem.SeqAt.notIn_tupleAt (hitE X H dx) (show s.heap.IsTuple a its.toArray from pl) (eq rv) ?_;have e:its.toArray.any (hitE X H dx)=dys.any λd=>PyData.eqv d dx:=by rw [List.any_toArray];exact ZiT I rv h2
  rw [e];exact ⟨.bl _,H,I,rfl,q⟩
def Zn7(x:D)(k:Nat)(hx:Dl.plain k x=true):∀(ys:List D) (l:Nat),Dl.Zaz l ys=true->((pyDs ys).any λd=>PyData.eqv d (pyD x))=inD x ys
 | [],_,_=>rfl
 | y::r,l,h=>by
  have h':Dl.plain l y=true/\Dl.Zaz l r=true:=by simpa [Dl.Zaz] using h
  show (PyData.eqv (pyD y) (pyD x)||(pyDs r).any _)=(eqD y x||inD x r);rw [Zn7 x k hx r l h'.2,<-Zgz y x l k h'.1 hx]
def ZpE{K:W.Frag}{mg:Str->Option Value}{f:Bool->Bool}{E:XK}{F H:Hp}{x y:V}{dx dy:D}(s:Same F H)(rx:Rp K mg F x dx)(ry:Rp K mg F y dy) :
  Ans mg E (Rp K mg) F H ((seqD dy).bind λys=>if Dl.plain 50 dx&&Dl.Zaz 50 ys then .ok (.bl (f (inD dx ys))) else .bad) (rInD K f x y H):=by
 have fin:∀(a:Addr) (ws:List V) (ys:List D),y=.ref a->(SqL K H a ws\/SqT K H a ws)->Rps K mg F ws ys->Ans mg E (Rp K mg) F H (if Dl.plain 50 dx&&Dl.Zaz 50 ys then .ok (.bl (f (inD dx ys))) else .bad) (rInD K f x y H):=by
  rintro a ws ys rfl hq rs;by_cases hp:(Dl.plain 50 dx&&Dl.Zaz 50 ys)=true
  ·rw [if_pos hp];rw [Vbm] at hp;obtain ⟨c1,c2⟩:=Zb5 dx 50 hp.1;obtain ⟨c3,_⟩:=Zcm ys 50 hp.2;refine Ans.ret s (.bl _) λQ q=>⟨a,ws,pyD dx,pyDs ys,rfl,hq,Zdn s (Zis rx hp.1),ZdN s (ZeW rs hp.2),c1,c3,c2,?_⟩;rw [Zn7 dx 50 hp.1 ys 50 hp.2];exact q
  ·rw [if_neg hp];trivial
 cases dy with
 | lst ys =>
  cases ry with
  | lst h r=>exact fin _ _ ys rfl (.inl (s.seq h)) r
 | tup ys =>
  cases ry with
  | tup h r=>exact fin _ _ ys rfl (.inr (Zax s h)) r
 | _=>trivial
def ZpQ{K:W.Frag}{mg:Str->Option Value}:OpD K mg (rInD K not) dNin:=λ_ _ _ _ _ _ _ s rx ry=>ZpE (f:=not) s rx ry
variable{a b:Expr}{ta tb:TE}{ma mb:ME}{pos:Pos}
def Zl8{k:Nat}(hr:Room k X.A)(ha:DE X E a ta ma)(hb:DE X E b tb mb)(hm:behindInMarks .NotIn b=false:=by rfl):DT X E (.Compare a [.NotIn] [b] pos) (ZfO (tOp (rInD X.K not) ta tb)) (trb (o2 dNin ma mb)):=ZeZ (Zqm hr.units) ZpQ ha hb hm
end
end L2.Ds
namespace Dl
open PySem
def mLst(f:List D->D->Res D)(a b:ME):ME:=λρ=>(a ρ).bind λx=>(lstO x).bind λxs=>(b ρ).bind λy=>f xs y
def cntD(xs:List D)(y:D):Res D:=if (plain 50 y&&Zaz 50 xs)=true then .ok (.int ((xs.countP λx=>eqD x y:Nat):Int)) else .bad
def idxD(xs:List D)(y:D):Res D:=if (plain 50 y&&Zaz 50 xs)=true then (ofO (xs.findIdx? λx=>eqD x y)).bind λk=>.ok (.int (k:Int)) else .bad
def ixP(n:Nat)(i:Int):Option Nat:=if 0<=i then (if i<n then some i.toNat else none) else if -(n:Int)<=i then some (i+n).toNat else none
def intO:D->Res Int
 | .int i=>.ok i
 | _=>.bad
def seti(i:Nat)(k e:ME):MS:=λρ=>(e ρ).bind λd=>(getO ρ[i]?).bind λxs=>(k ρ).bind λu=>(intO u).bind λj=>(ofO (ixP xs.length j)).bind λm=>.ok (.nx (ρ.set i (.ow (xs.set m d))))
end Dl
namespace L2.Ds
open PySem PySem.Spec PyProof.Rows Dl
section
variable{X:Cx}{pins:List (Addr×Obj)}{σ:St}{H:Hp}{s:Shared}
def Zi0(I:Inv X pins σ H s){dx:PyData}:∀{ys:List V} {its:List Value} {ds:List PyData},Vals ys its->DVs X.K H ys ds->∀(m:Nat) (u:Value),its[m]?=some u->∃d,ds[m]?=some d/\hitE X H dx u=PyData.eqv d dx
 | _,_,_,.nil,.nil,_,_,e=>by simp at e
 | _,_,_,.cons r1 r2,.cons h1 h2,0,u,e=>by
  simp at e;subst e;exact ⟨_,rfl,ZfQ I r1 h1⟩
 | _,_,_,.cons r1 r2,.cons h1 h2,m+1,u,e=>by
  obtain ⟨d,q1,q2⟩:=Zi0 I r2 h2 m u (by simpa using e);exact ⟨d,by simpa using q1,q2⟩
def Zma(I:Inv X pins σ H s){dx:PyData}:∀{ys:List V} {its:List Value} {ds:List PyData},Vals ys its->DVs X.K H ys ds->its.countP (hitE X H dx)=ds.countP λd=>PyData.eqv d dx
 | _,_,_,.nil,.nil=>rfl
 | _,_,_,.cons r1 r2,.cons h1 h2=>by rw [List.countP_cons,List.countP_cons,Zma I r2 h2,ZfQ I r1 h1]
def Zl7{K:W.Frag}{H:Hp}:∀{ys:List V} {ds:List PyData},DVs K H ys ds->ys.length=ds.length
 | _,_,.nil=>rfl
 | _,_,.cons _ r=>Vaz (·+1) (Zl7 r)
def ZoW(K:W.Frag):V->List V->Hp->VK->Prop:=λx vs H Q=>∃a ys y dy dys,x=.ref a/\vs=[y]/\SqL K H a ys/\DV K H y dy/\DVs K H ys dys/\dy.canLay0=true/\PyData.canLayAll0 dys=true/\dy.depth<=50/\Q (.int ((dys.countP λd=>PyData.eqv d dy:Nat):Int)) H
def At1(dys:List PyData)(dy:PyData)(j:Nat):Prop:=(∃d,dys[j]?=some d/\PyData.eqv d dy=true)/\∀m,m<j->∃d,dys[m]?=some d/\PyData.eqv d dy=false
def Zqy(K:W.Frag):V->List V->Hp->VK->Prop:=λx vs H Q=>∃a ys y dy dys j,x=.ref a/\vs=[y]/\SqL K H a ys/\DV K H y dy/\DVs K H ys dys/\dy.canLay0=true/\PyData.canLayAll0 dys=true/\dy.depth<=50/\At1 dys dy j/\Q (.int (j:Int)) H
def Zn3(I:Inv X pins σ H s)(hu:X.A.units+64<cLine){y:V}{u:Value}{dy:PyData}{ys:List V}{dys:List PyData}{its:List Value}(ry:RelV y u)(h1:DV X.K H y dy)(h2:DVs X.K H ys dys)(h3:dy.canLay0=true)(h4:PyData.canLayAll0 dys=true)(h5:dy.depth<=50)(rv:Vals ys its) :
  ∀v,v∈its.toArray->PySem.SeqAt.EqAt X.A.in1 s v u (hitE X H dy v):=λv hm=>by
 obtain ⟨bs,rb⟩:=h1.reads I ry;obtain ⟨y',d',r',h',c'⟩:=ZkW I rv h2 h4 (by simpa using hm);obtain ⟨as,ra⟩:=h'.reads I r';rw [ZfQ I r' h'];exact PySem.SeqAt.eqAt_reads d' dy X.A.in1 s v u as bs ra rb c' h3 (by show X.A.units+1+_<_;omega)
def ZoG(I:Inv X pins σ H s){dy:PyData}{ys:List V}{dys:List PyData}{its:List Value}{j:Nat}(h2:DVs X.K H ys dys)(rv:Vals ys its)(h:At1 dys dy j) :
  ∃hj:j<its.toArray.size,hitE X H dy its.toArray[j]=true/\∀m (hm:m<its.toArray.size),m<j->hitE X H dy its.toArray[m]=false:=by
 obtain ⟨⟨d,e1,e2⟩,no⟩:=h;have hj:j<dys.length:=(Vat.mp e1).1;have hl:=rv.length;have hl2:=Zl7 h2;have hj':j<its.toArray.size:=by rw [VaQ];omega
 refine ⟨hj',?_,λm hm hmj=>?_⟩
 ·obtain ⟨d',q1,q2⟩:=Zi0 I rv h2 (dx:=dy) j its.toArray[j] (by simpa using hj');rw [e1] at q1;cases q1;rw [q2,e2]
 ·obtain ⟨d',q1,q2⟩:=Zi0 I rv h2 (dx:=dy) m its.toArray[m] (by simpa using hm);obtain ⟨d'',e3,e4⟩:=no m hmj;rw [e3] at q1;cases q1;rw [q2,e4]
end
section
variable{X:Cx}{E:XK}
def Zmb(hu:X.A.units+64<cLine):MtR X "list.count" (ZoW X.K):=by
 intro pins s σ H x vs v us Q I rx rv h;obtain ⟨a,ys,y,dy,dys,rfl,rfl,hq,h1,h2,h3,h4,h5,q⟩:=h;cases rx;obtain ⟨u,rfl,ru⟩:=rv.one;obtain ⟨its,ri,⟨o,n,e,oc,od,os⟩,hz⟩:=I.list hq;obtain ⟨cl,di,da,sl⟩:=o;cases oc;cases od;cases os;refine Vbs PySem.F.slot_list_count ⟨_,e,rfl⟩ PySem.F.entry_list_count (PySem.F.args_list_count_2 _ _) (PySem.SeqAt.list_countAt a its.toArray n none sl u (hitE X H dy)) ⟨e,Zn3 I hu ru h1 h2 h3 h4 h5 ri,?_⟩;have ec:its.toArray.toList.countP (hitE X H dy)=dys.countP λd=>PyData.eqv d dy:=Zma I ri h2;rw [ec];exact ⟨.int _,H,I.tok _,⟨_,rfl⟩,q⟩
def ZkR(hu:X.A.units+64<cLine):MtR X "list.index" (Zqy X.K):=by
 intro pins s σ H x vs v us Q I rx rv h;obtain ⟨a,ys,y,dy,dys,j,rfl,rfl,hq,h1,h2,h3,h4,h5,h6,q⟩:=h;cases rx;obtain ⟨u,rfl,ru⟩:=rv.one;obtain ⟨its,ri,⟨o,n,e,oc,od,os⟩,hz⟩:=I.list hq;obtain ⟨cl,di,da,sl⟩:=o;cases oc;cases od;cases os;obtain ⟨hj,hit,hno⟩:=ZoG I h2 ri h6;have hsm:(j:Int)<2^63 - 1:=by
  have hn:=ZgG;have hl:=ri.length;rw [VaQ] at hj;omega
 refine Vbs PySem.F.slot_list_index ⟨_,e,rfl⟩ PySem.F.entry_list_index (PySem.F.args_list_index_2 _ _) (PySem.SeqAt.list_indexAt a its.toArray n none sl u (hitE X H dy) j hj hsm hit hno) ⟨e,Zn3 I hu ru h1 h2 h3 h4 h5 ri,?_⟩;exact ⟨.int _,H,I.tok _,⟨_,rfl⟩,q⟩
end
section
variable{K:W.Frag}{mg:Str->Option Value}{E:XK}{ta tb te:TE}{ma mb me:ME}{F0 H0 F H:Hp}
def Zn2(x:D)(k:Nat)(hx:Dl.plain k x=true):∀(ys:List D) (l:Nat),Dl.Zaz l ys=true->((pyDs ys).countP λd=>PyData.eqv d (pyD x))=ys.countP λy=>eqD y x
 | [],_,_=>rfl
 | y::r,l,h=>by
  have h':Dl.plain l y=true/\Dl.Zaz l r=true:=by simpa [Dl.Zaz] using h
  show (pyD y::pyDs r).countP _=_;rw [List.countP_cons,List.countP_cons,Zn2 x k hx r l h'.2,<-Zgz y x l k h'.1 hx]
def Zmg(x:D)(k:Nat)(hx:Dl.plain k x=true):∀(ys:List D) (l:Nat),Dl.Zaz l ys=true->∀(m:Nat) (y:D),ys[m]?=some y->∃d,(pyDs ys)[m]?=some d/\PyData.eqv d (pyD x)=eqD y x
 | [],_,_,_,_,e=>by simp at e
 | z::r,l,h,0,y,e=>by
  have h':Dl.plain l z=true/\Dl.Zaz l r=true:=by simpa [Dl.Zaz] using h
  simp at e;subst e;exact ⟨pyD z,rfl,(Zgz z x l k h'.1 hx).symm⟩
 | z::r,l,h,m+1,y,e=>by
  have h':Dl.plain l z=true/\Dl.Zaz l r=true:=by simpa [Dl.Zaz] using h
  obtain ⟨d,q1,q2⟩:=Zmg x k hx r l h'.2 m y (by simpa using e);exact ⟨d,by show (pyD z::pyDs r)[m+1]?=_;simpa using q1,q2⟩
def Zri{x:D}{ys:List D}{j:Nat}(hx:Dl.plain 50 x=true)(hy:Dl.Zaz 50 ys=true)(e:(ys.findIdx? λy=>eqD y x)=some j):At1 (pyDs ys) (pyD x) j:=by
 obtain ⟨hj,h1,h2⟩:=List.findIdx?_eq_some_iff_getElem.mp e;refine ⟨?_,λm hm=>?_⟩
 ·obtain ⟨d,q1,q2⟩:=Zmg x 50 hx ys 50 hy j ys[j] (VbM hj);exact ⟨d,q1,by rw [q2];exact h1⟩
 ·obtain ⟨d,q1,q2⟩:=Zmg x 50 hx ys 50 hy m ys[m] (VbM (by omega));exact ⟨d,q1,by rw [q2];simpa using h2 m hm⟩
def Zl5{r:V->List V->Hp->VK->Prop}{f:List D->D->Res D}(hf:∀(F H:Hp) (a:Addr) (ws:List V) (ys:List D) (y:V) (dy:D),Same F H->SqL K F a ws->Rps K mg F ws ys->Rp K mg F y dy->Ans mg E (Rp K mg) F H (f ys dy) (r (.ref a) [y] H))
  (ha:SE K mg E ta ma) (hb:SE K mg E tb mb):SE K mg E (tBM K "list" r ta (ZdD tb tNil)) (mLst f ma mb):=by
 intro F0 H0 F H σ ρ rr;refine (ha F0 H0 F H σ ρ rr).bind λF1 H1 x dx g1 rx=>?_;cases dx with
 | lst ys =>
  cases rx with
  | lst h q =>
   show Ans mg E (Rp K mg) F1 H1 ((mb ρ).bind λy=>f ys y) _;have w:=(hb F0 H0 F1 H1 σ ρ (rr.gr g1)).bind (k:=λy=>f ys y) (w':=λy H2 Q=>r (.ref _) [y] H2 Q) λF2 H2 y dy g2 ry=>hf F2 H2 _ _ ys y dy g2.s (g2.f.seq h) (q.same g2.f) ry;generalize ((mb ρ).bind λy=>f ys y)=res at w;cases res with
   | ok d=>exact λQ q'=>⟨.inl ⟨rfl,_,g1.s.seq h⟩,w Q q'⟩
   | ex c=>exact λQ q'=>⟨.inl ⟨rfl,_,g1.s.seq h⟩,w Q q'⟩
   | bad=>trivial
 | _=>trivial
def ZsX(F H:Hp)(a:Addr)(ws:List V)(ys:List D)(y:V)(dy:D)(s:Same F H)(h:SqL K F a ws)(q:Rps K mg F ws ys)(ry:Rp K mg F y dy):Ans mg E (Rp K mg) F H (cntD ys dy) (ZoW K (.ref a) [y] H):=by
 unfold cntD;by_cases hp:(Dl.plain 50 dy&&Dl.Zaz 50 ys)=true
 ·rw [if_pos hp];rw [Vbm] at hp;obtain ⟨c1,c2⟩:=Zb5 dy 50 hp.1;obtain ⟨c3,_⟩:=Zcm ys 50 hp.2;refine Ans.ret s (.int _) λQ q'=>⟨a,ws,y,pyD dy,pyDs ys,rfl,rfl,s.seq h,Zdn s (Zis ry hp.1),ZdN s (ZeW q hp.2),c1,c3,c2,?_⟩;rw [Zn2 dy 50 hp.1 ys 50 hp.2];exact q'
 ·rw [if_neg hp];trivial
def Zq9(F H:Hp)(a:Addr)(ws:List V)(ys:List D)(y:V)(dy:D)(s:Same F H)(h:SqL K F a ws)(q:Rps K mg F ws ys)(ry:Rp K mg F y dy):Ans mg E (Rp K mg) F H (idxD ys dy) (Zqy K (.ref a) [y] H):=by
 unfold idxD;by_cases hp:(Dl.plain 50 dy&&Dl.Zaz 50 ys)=true
 ·rw [if_pos hp];rw [Vbm] at hp;obtain ⟨c1,c2⟩:=Zb5 dy 50 hp.1;obtain ⟨c3,_⟩:=Zcm ys 50 hp.2;cases e:ys.findIdx? λx=>eqD x dy with
  | none=>trivial
  | some j=>exact Ans.ret (R:=Rp K mg) s (.int _) λQ q'=>⟨a,ws,y,pyD dy,pyDs ys,j,rfl,rfl,s.seq h,Zdn s (Zis ry hp.1),ZdN s (ZeW q hp.2),c1,c3,c2,Zri hp.1 hp.2 e,q'⟩
 ·rw [if_neg hp];trivial
def Rep.put{σ:St}{ρ:Ev}{i:Nat}{ds es:List D}{a:Addr}{xs ys:List V}(r:Rep K mg F0 H0 F H σ ρ)(e:ρ[i]?=some (.ow ds))(e2:σ[i]?=some (some (.ref a)))(e3:H a=some (.lst xs))(e4:H0 a=none)(e5:F a=none)(hr:Rps K mg F ys es) :
  Rep K mg F0 H0 F (upd H a (.lst ys)) σ (ρ.set i (.ow es)):=by
 refine ⟨⟨r.g.f,λb o q=>?_,λb o q1 q2=>?_,r.g.z⟩,by rw [Vbq];exact r.len,λj u q=>?_,λj es q=>?_,λj k es ts b q1 q2 q3 q4=>?_⟩
 ·rw [Zae (Zah q e5)];exact r.g.s b o q
 ·rw [Zae (Zah q2 e4)];exact r.g.o b o q1 q2
 ·rcases ZaC q with ⟨_,z,_⟩ | ⟨_,q⟩
  ·cases z
  ·exact r.im j u q
 ·rcases ZaC q with ⟨rfl,z,l⟩ | ⟨hij,q⟩
  ·cases z;exact ⟨a,_,e2,e4,e5,Zag,hr⟩
  ·obtain ⟨b,ys,h1,h2,h3,h4,h5⟩:=r.ow j es q;have nb:b≠a:=by
    rintro rfl;exact hij (r.ne i j ds es b e q e2 h1)
   exact ⟨b,ys,h1,h2,h3,by rw [Zae nb];exact h4,h5⟩
 ·have o1:∃es',ρ[j]?=some (.ow es'):=by
   rcases ZaC q1 with ⟨rfl,_,_⟩ | ⟨_,q⟩
   ·exact ⟨_,e⟩
   ·exact ⟨_,q⟩
  have o2:∃es',ρ[k]?=some (.ow es'):=by
   rcases ZaC q2 with ⟨rfl,_,_⟩ | ⟨_,q⟩
   ·exact ⟨_,e⟩
   ·exact ⟨_,q⟩
  obtain ⟨_,o1⟩:=o1;obtain ⟨_,o2⟩:=o2;exact r.ne j k _ _ b o1 o2 q3 q4
def Rps.setAt{y:V}{d:D}(hy:Rp K mg F y d):∀{xs:List V} {ds:List D} (j:Nat),Rps K mg F xs ds->Rps K mg F (xs.set j y) (ds.set j d)
 | _,_,_,.nil=>by simp;exact .nil
 | _,_,0,.cons _ r=>.cons hy r
 | _,_,j+1,.cons h r=>.cons h (Rps.setAt hy j r)
def Ztq:Dl.ixP=L2.ixN:=rfl
def Zp9{i:Nat}(ha:SE K mg E ta ma)(hb:SE K mg E tb mb):SS K mg E (tAsg ta (gSub (tVar i) tb ZiQ)) (seti i mb ma):=by
 intro F0 H0 F H σ ρ rr;refine (ha F0 H0 F H σ ρ rr).stm (w':=λx H1 D=>gSub (tVar i) tb ZiQ x σ H1 D.nx) rr.g λd _ F1 H1 x g1 rx=>?_;have r1:=rr.gr g1;unfold getO;split
 ·next ds e =>
  obtain ⟨a,xs,e2,e4,e5,e3,hr⟩:=r1.ow i ds e;have h:=(hb F0 H0 F1 H1 σ ρ r1).stm (K:=K) (k:=λu=>(intO u).bind λj=>(ofO (Dl.ixP ds.length j)).bind λm=>Res.ok (Fl.nx (ρ.set i (.ow (ds.set m d))))) (w':=λy H2 D=>ZiQ (.ref a) y x H2 λH3=>D.nx σ H3) r1.g λu _ F2 H2 y g2 ry=>?_
  ·have fin:∀D:Ends,(tb σ H1 λy H2=>ZiQ (.ref a) y x H2 λH3=>D.nx σ H3)->gSub (tVar i) tb ZiQ x σ H1 D.nx:=λD z=>⟨.ref a,e2,z⟩;show AnsS K mg E F0 H0 F1 ((mb ρ).bind λu=>(intO u).bind λj=>(ofO (Dl.ixP ds.length j)).bind λm=>Res.ok (Fl.nx (ρ.set i (.ow (ds.set m d))))) _;generalize ((mb ρ).bind λu=>(intO u).bind λj=>(ofO (Dl.ixP ds.length j)).bind λm=>Res.ok (Fl.nx (ρ.set i (.ow (ds.set m d)))))=res at h;cases res with
   | ok f =>
    cases f with
    | nx ρ=>exact λD q=>fin D (h D q)
    | bk ρ=>exact λD q=>fin D (h D q)
    | ct ρ=>exact λD q=>fin D (h D q)
    | rt d=>exact λD q=>fin D (h D q)
   | ex c=>exact λD q=>fin D (h D q)
   | bad=>trivial
  ·cases u with
   | int k =>
    cases ry;show AnsS K mg E F0 H0 F2 ((ofO (Dl.ixP ds.length k)).bind λm=>Res.ok (Fl.nx (ρ.set i (.ow (ds.set m d))))) _;cases ek:Dl.ixP ds.length k with
    | none=>trivial
    | some m =>
     have r2:=r1.gr g2;obtain ⟨q1,q2⟩:=g2.o a _ e5 e3;have hr1:=hr.same g2.f;exact λD q=>⟨a,xs,k,m,rfl,rfl,q2,by rw [hr.length,<-Ztq];exact ek,q F2 _ σ (Same.refl _) (r2.put e e2 q2 e4 q1 (Rps.setAt (rx.same g2.f) m hr1))⟩
   | _=>trivial
 ·trivial
end
section
variable{X:Cx}{E:XK}{k i:Nat}{o e k' a b c' d':Expr}{to te tk ta tb tc td:TE}{mo me mk ma mb mc md:ME}{x:Str}{np apos cpos spos pos spos':Pos}
def Zuk(hr:Room k X.A)(ho:DE X E o to mo)(he:DE X E e te me)(hbase:attributeBase o "count" X.env (eval o X.env)=eval o X.env:=by rfl)
  (hfew:((backTo cpos (starEach [e] X.env)).all (λx=>!x.1)&&(backToKw cpos (keywordEach [] X.env)).all (λx=>x.1.isSome)
   && decide ([e].length+([]:List Keyword).length+(if ([]:List Keyword).isEmpty then 0 else 1)<30))=true:=by rfl)
  (hline:(apos.endLine==cpos.line)=true:=by rfl) (hs:starEach [e] X.env=(false,eval e X.env)::starEach [] X.env:=by rfl) (hplain:(backTo cpos (starEach [] X.env)).any (·.1)=false:=by rfl) :
  DE X E (.Call (.Attribute o "count" apos) [e] [] cpos) (tBM X.K "list" (ZoW X.K) to (ZdD te tNil)) (mLst cntD mo me) :=
 ⟨Zj3 VbR PySem.F.slot_list_count PySem.F.type_list_count (Zmb hr.units) ho.p (ZbG he.p Zcu hs) hbase hfew hline hs hplain,Zl5 ZsX ho.s he.s⟩
def ZpV(hr:Room k X.A)(ho:DE X E o to mo)(he:DE X E e te me)(hbase:attributeBase o "index" X.env (eval o X.env)=eval o X.env:=by rfl)
  (hfew:((backTo cpos (starEach [e] X.env)).all (λx=>!x.1)&&(backToKw cpos (keywordEach [] X.env)).all (λx=>x.1.isSome)
   && decide ([e].length+([]:List Keyword).length+(if ([]:List Keyword).isEmpty then 0 else 1)<30))=true:=by rfl)
  (hline:(apos.endLine==cpos.line)=true:=by rfl) (hs:starEach [e] X.env=(false,eval e X.env)::starEach [] X.env:=by rfl) (hplain:(backTo cpos (starEach [] X.env)).any (·.1)=false:=by rfl) :
  DE X E (.Call (.Attribute o "index" apos) [e] [] cpos) (tBM X.K "list" (Zqy X.K) to (ZdD te tNil)) (mLst idxD mo me) :=
 ⟨Zj3 VbR PySem.F.slot_list_index PySem.F.type_list_index (ZkR hr.units) ho.p (ZbG he.p Zcu hs) hbase hfew hline hs hplain,Zl5 Zq9 ho.s he.s⟩
def ZfN(i:Nat)(hk:DE X E k' tk mk)(he:DE X E e te me)(hN:X.N[i]?=some x:=by rfl)(hv:Vis X.env.scope x:=by first | exact Or.inl rfl | exact Or.inr (Or.inl rfl) | exact Or.inr (Or.inr rfl))(hd:(x==("__debug__" : Str))=false:=by decide)
  (hcd:(x==("__classdict__" : Str))=false:=by decide)
  (ha:∀v,assign (.Subscript (.Name x np) k' pos) X.env v=(do
   let ov <-holding [v] (eval (.Name x np) X.env)
   let iv <-holding [v,ov] (eval k' X.env)
   standAt pos
   holding [v,ov,iv] (setItem ov iv v)
   release [v,ov,iv] []):=by intro _;rfl)
  (hs:swapsWithSole [.Subscript (.Name x np) k' pos] e spos.line X.env=pure false:=by rfl) (hw:swappedStores [.Subscript (.Name x np) k' pos] e X.env=pure none:=by rfl) :
  DS X E (.Assign [.Subscript (.Name x np) k' pos] e spos) (tAsg te (gSub (tVar i) tk ZiQ)) (seti i mk me) :=
 ⟨Zn9 he.p (ZsD (Zb0 hN hv hd hcd) hk.p set_list ha) hs hw,Zp9 he.s hk.s⟩
end
end L2.Ds
namespace L2
open PySem PySem.Spec PyProof.Rows
end L2
namespace L2.Ds
open PySem PySem.Spec PyProof.Rows Dl
end L2.Ds
namespace Dl
open PySem
def bCal(f:List D->Res D)(a:MA):ME:=λρ=>(noEx (a ρ)).bind f
def bIf(n:MB)(a b:ME):ME:=λρ=>(noEx (n ρ)).bind λk=>if k=true then a ρ else b ρ
def Zmc(e:ME)(hits:List Str)(i:Nat)(b:MS):MS:=λρ=>Zov hits i b ρ (e ρ)
end Dl
namespace L2
open PySem PySem.Spec PyProof.Rows PySem.Calls
abbrev TB:=St->Hp->(Hp->Prop)->XK->Prop
def PB(X:Cx)(body:List Stmt)(t:TB):Prop :=
 ∀(pins:List (Addr×Obj)) (s:Shared) (σ:St) (H:Hp) (N:Hp->Prop) (XE:XK),Inv X pins σ H s->t σ H N XE->wpAny (model X.prog X.w) X.A (execs body X.env) (λf s'=>f=.next/\∃H2,Inv X pins σ H2 s'/\N H2) (λev s'=>∃s1 H1 a cls p H',ev=.ref a/\Inv X pins σ H1 s1/\Fly X.prog X.w X.stack H1 H' s1 s' a cls/\Zgb p a H' s1.heap s'.heap/\XE cls p H') s
def tbC(sp:Sp)(t:TA):TB:=λσ H N XE=>t σ H λvs H1=>sp vs H1 (λ_ H2=>N H2) λcls p H2=>XE cls p H2
def tbI(tc:TT)(t u:TB):TB:=λσ H N XE=>tc σ H λb H1=>if b=true then t σ H1 N XE else u σ H1 N XE
def ZmD(tb:TB)(hit:Value->Prop)(i:Nat)(u:Addr->TS):TS:=λD σ H=>tb σ H (λH2=>D.nx σ H2) λcls p H2=>hit cls/\∀x d,H2 x=none->(p.isSome=true->H2 d=none/\d≠x)->u x (offI i D) (σ.set i (some (.ref x))) (trkX p x d cls H2)
section
variable{X:Cx}{k i:Nat}{x y n:Str}{Cy fa:Addr}{fd:FuncData}{ps:List Str}{sp:Sp}{t:TA}{tb tb':TB}{tc:TT}{u:Addr->TS}{e c:Expr}{es:List Expr}{p yp cpos epos hpos pos:Pos}{b₀:Stmt}{suite body bd be:List Stmt}
def ZqH(F:FnOk X.prog X.w X.K X.mg X.base (CXR X.prog X.w) k fa fd ps sp)(hr:Room k X.A)(hg:Gl X x)(hm:X.mg x=some (.ref fa))(hk:W.keepIn X.K (.ref fa)=true)(hb:Binds X.K fd ps [])
  (ha:PA X.nox (e::es) t)
  (hdb:(x==("__debug__" : Str))=false) (hsw:swapsWith (.Call (.Name x p) (e::es) [] cpos) none epos.line X.env=pure false)
  (he:starEach (e::es) X.env=(false,eval e X.env)::starEach es X.env) (hpl:(backTo cpos (starEach es X.env)).any (·.1)=false) :
  PB X [.Expr (.Call (.Name x p) (e::es) [] cpos) epos] (tbC sp t):=by
 intro pins s σ H N XE I h;refine VaB (wpAny_Expr_any ?_ I.quiet hsw);refine Va4 (ZcS I hg hm ?_ hdb);refine Va5 (h₀:=X.base) I.ok.mod.kin hk (Vax (ha cpos pins s σ H _ (I.wish _) h) (λus s1 ⟨vs,H1,I1',r,q⟩=>⟨I1'.unwish.kIn,?_⟩) λ_ _ z=>z.elim) he hpl;have I1:=I1'.unwish;have hl:(us++[]).length=ps.length:=by rw [Va1,<-r.length];exact F.len _ _ _ _ q
 have hb1:=hb s1 us I1.kIn hl;rw [Va1] at hb1;refine Va2 (Va3 (F.run X.A X.stack s1 H1 ⟨us,[]⟩ us vs _ _ hr I1.env0 hb1 r q) λrr s' hq=>?_);cases rr with
 | ok fl =>
  cases fl with
  | ret v =>
   obtain ⟨v',H2,I2,_,q2⟩:=I1.after hq;exact VaA ⟨rfl,H2,I2,q2⟩
  | next=>exact False.elim hq
  | brk=>exact False.elim hq
  | cont=>exact False.elim hq
 | error ev =>
  obtain ⟨a,cls,p,H',rfl,Fl,py,kk⟩:=hq;exact ⟨s1,H1,a,cls,p,H',rfl,I1,Fl,py,kk⟩
def Zue(hc:PT X.nox c tc)(h1:PB X bd tb)(h2:PB X be tb'):PB X [.If c bd be pos] (tbI tc tb tb'):=by
 intro pins s σ H N XE I h;refine VaB (wpAny_If (Vax (hc pins s σ H _ (I.wish _) h) (λd s1 ⟨H1,I1',q1⟩=>?_) λ_ _ z=>z.elim));have I1:=I1'.unwish;cases d with
 | true=>exact Vax (h1 pins s1 σ H1 N XE I1 q1) (λf s' ⟨hf,H2,I2,q⟩=>by subst hf;exact VaA ⟨rfl,H2,I2,q⟩) λ_ _ z=>z
 | false=>exact Vax (h2 pins s1 σ H1 N XE I1 q1) (λf s' ⟨hf,H2,I2,q⟩=>by subst hf;exact VaA ⟨rfl,H2,I2,q⟩) λ_ _ z=>z
def Zqn(hst:X.stack=X.env::X.outer)(hfr:X.env.frame=some X.env.locals)(hB:PB X body tb)(hgy:Gl X y)(hmy:X.mg y=some (.ref Cy))(hN:X.N.Nodup)(hi:X.N[i]?=some n)(hlo:X.env.kindOf n=some .local)(hnl:X.env.scope.names.lookup n=some .local)(hs:∀a,PSs (X.inX a) (b₀::suite) (u a))
  (hdy:(y==("__debug__" : Str))=false) :
  PS X (.Try body [.ExceptHandler (some (.Name y yp)) (some n) (b₀::suite) hpos] [] [] pos) (ZmD tb (λcls=>W.exmOne X.K cls (.ref Cy)=some true) i u):=by
 intro pins s σ H D I h;refine wpAny_Try_except (Vax (hB pins s σ H _ _ I h) (λf s' ⟨hf,H2,I2,q⟩=>?_) λev s' zq=>?_)
 ·subst hf;exact VaA ⟨σ,H2,I2,q⟩
 ·obtain ⟨s1,H1,a,cls,p,H',hev,I1,Fl,py,hit,kk⟩:=zq;subst hev;obtain ⟨B,a0,fl,cov⟩:=Fl.ex;have fl':Heap.FlyingW B (X.env::X.outer) a cls a0 s'.heap:=hst▸fl;refine Zic (by rw [I.ok.frames,hst]) hfr fl' λh1 held sm1 kd1=>?_;refine Zog held λh2 fl2 sm2 kd2=>?_;have F2:=Fl.moved fl cov (hst.symm▸fl2) (sm1.trans sm2);have I2:=I1.landed F2;refine wpAny_handleBy_cons (codeAny_handlers_test ?_) (by intro q;cases q);refine ZcS (X:=X.inX a) (I2.inX a) hgy hmy ?_ hdy;have LT:W.Looks (model X.prog X.w) h2 (typeOf (.ref a)) cls:=ExcAt.ty (show ExcAt a cls h2 from fl2.there);refine (W.exm_one (show X.K.In h2 from I2.kIn) LT hit).here ?_;refine codeAny_handlers_suite_as ?_;refine ZnW fl2 λh3 fl3 sm3 kd3=>?_;have F3:=Fl.moved fl cov (hst.symm▸fl3) ((sm1.trans sm2).trans sm3);obtain ⟨dx,hdx,I3⟩:=I1.caughtP F3 (py.on ((kd1.trans kd2).trans kd3) ((sm1.trans sm2).trans sm3) (let ⟨o,e,_⟩:=fl3.there;⟨o,e⟩) λ_ o e=>⟨o,e⟩);refine Zfd (X:=X.inX a) (v:=.ref a) (I3.inX a) hN hi (.inl hnl) rfl (λs4 I4=>?_) (.inr hnl);refine Vax (hs a pins s4 _ _ _ I4 (kk a dx F3.free hdx)) (λf s5 q5=>?_) λ_ _ z=>False.elim z;have fin:∀{σ':St} {H5:Hp} {Q:Unit->Shared->Prop},Inv (X.inX a) pins σ' H5 s5->(∀s',Inv X pins (σ'.set i none) H5 s'->Q () s')->wpAny (model X.prog X.w) X.A (do bindName X.env n .none;unbindBehindTheSuite X.env n hpos) Q X.xe s5:=λI5 g=>(I5.outX I.ok).goes hN hi hlo g
  cases f with
  | next =>
   obtain ⟨σ',H5,I5,q⟩:=q5;exact fin I5 λs6 I6=>⟨_,H5,I6,q⟩
  | brk =>
   obtain ⟨σ',H5,I5,q⟩:=q5;exact fin I5 λs6 I6=>⟨_,H5,I6,q⟩
  | cont =>
   obtain ⟨σ',H5,I5,q⟩:=q5;exact fin I5 λs6 I6=>⟨_,H5,I6,q⟩
  | ret v =>
   obtain ⟨v',σ',H5,I5,r5,q⟩:=q5;exact fin I5 λs6 I6=>⟨v',_,H5,I6,r5,q⟩
end
end L2
namespace L2.Ds
open PySem PySem.Spec PyProof.Rows PySem.Calls Dl
def SB(K:W.Frag)(mg:Str->Option Value)(t:TB)(m:ME):Prop:=∀F0 H0 F H σ ρ,Rep K mg F0 H0 F H σ ρ->match m ρ with
 | .ok _=>∀(N:Hp->Prop) (XE:XK),(∀F' H',Gr F H F' H'->N H')->t σ H N XE
 | .ex c=>∀(N:Hp->Prop) (XE:XK),(∀F' H' C,Gr F H F' H'->mg (clsOf c)=some (.ref C)->XE (.ref C) (pay c) H')->t σ H N XE
 | .bad=>True
structure DB(X:Cx)(body:List Stmt)(t:TB)(m:ME):Prop where
 p:PB X body t
 s:SB X.K X.mg t m
section
variable{K:W.Frag}{mg:Str->Option Value}
def Zqa{n:Nat}{f:List D->Res D}{t:TA}{m:MA}(ha:SA K mg E0 t m)(hn:∀ρ ds,m ρ=.ok ds->ds.length=n):SB K mg (tbC (spD K mg n f) t) (bCal f m):=by
 intro F0 H0 F H σ ρ rr;have h:=ha F0 H0 F H σ ρ rr;unfold bCal;cases e:m ρ with
 | ex c=>trivial
 | bad=>trivial
 | ok ds =>
  rw [e] at h;show match f ds with | .ok _=>_ | .ex c=>_ | .bad=>_
  cases ef:f ds with
  | bad=>trivial
  | ok d =>
   exact λN XE q=>h _ λF1 H1 vs g1 rs=>⟨by rw [rs.length];exact hn ρ ds e,F1,ds,g1.s,rs,(by rw [ef];intro z;cases z),(λd' _ F' H' x g' _=>q F' H' (g1.trans g')),λc z=>by rw [ef] at z;cases z⟩
  | ex c =>
   refine λN XE q=>h _ λF1 H1 vs g1 rs=>⟨by rw [rs.length];exact hn ρ ds e,F1,ds,g1.s,rs,(by rw [ef];intro z;cases z),(λd' z=>by rw [ef] at z;cases z),λc' z F2 H2 C g2 hC=>?_⟩;rw [ef] at z;cases z;exact q _ _ C (g1.trans g2) hC
def Ztn{tc:TT}{nc:MB}{t u:TB}{a b:ME}(hc:STt K mg E0 tc nc)(h1:SB K mg t a)(h2:SB K mg u b):SB K mg (tbI tc t u) (bIf nc a b):=by
 intro F0 H0 F H σ ρ rr;have h:=hc F0 H0 F H σ ρ rr;unfold bIf;cases e:nc ρ with
 | ex c=>trivial
 | bad=>trivial
 | ok k =>
  rw [e] at h;show match (if k=true then a ρ else b ρ) with | .ok _=>_ | .ex c=>_ | .bad=>_
  cases k with
  | true =>
   rw [if_pos rfl];have z:=λF1 H1 (g1:Gr F H F1 H1)=>h1 F0 H0 F1 H1 σ ρ (rr.gr g1);cases ea:a ρ with
   | bad=>trivial
   | ok d =>
    rw [ea] at z;exact λN XE q=>h _ λF1 H1 x g1 rx=>by
     cases (show x=true from rx);exact z F1 H1 g1 N XE λF' H' g'=>q F' H' (g1.trans g')
   | ex c =>
    rw [ea] at z;exact λN XE q=>h _ λF1 H1 x g1 rx=>by
     cases (show x=true from rx);exact z F1 H1 g1 N XE λF' H' C g'=>q F' H' C (g1.trans g')
  | false =>
   rw [if_neg VaG];have z:=λF1 H1 (g1:Gr F H F1 H1)=>h2 F0 H0 F1 H1 σ ρ (rr.gr g1);cases ea:b ρ with
   | bad=>trivial
   | ok d =>
    rw [ea] at z;exact λN XE q=>h _ λF1 H1 x g1 rx=>by
     cases (show x=false from rx);exact z F1 H1 g1 N XE λF' H' g'=>q F' H' (g1.trans g')
   | ex c =>
    rw [ea] at z;exact λN XE q=>h _ λF1 H1 x g1 rx=>by
     cases (show x=false from rx);exact z F1 H1 g1 N XE λF' H' C g'=>q F' H' C (g1.trans g')
def ZoJ{E:XK}{i:Nat}{tb:TB}{m:ME}{hits:List Str}{hit:Value->Prop}{u:Addr->TS}{b:MS}(ha:SB K mg tb m)
  (hh:∀c∈hits,∀C,mg c=some (.ref C)->hit (.ref C)) (hb:∀a,SS K mg E0 (u a) b):SS K mg E (ZmD tb hit i u) (Zmc m hits i b):=by
 intro F0 H0 F H σ ρ rr;have h:=ha F0 H0 F H σ ρ rr;unfold Zmc;cases em:m ρ with
 | bad=>trivial
 | ok d =>
  rw [em] at h;exact λD q=>h _ _ λF' H' g=>q F' H' σ g.f (rr.gr g)
 | ex c =>
  rw [em] at h;show AnsS K mg E F0 H0 F (if hits.contains (clsOf c)=true then endT i (b (ρ.set i (.im (.exc c)))) else .bad) _
  by_cases hc:hits.contains (clsOf c)=true
  ·rw [if_pos hc];have key:∀(D:Ends),(∀(a:Addr) F' H' σ',Same F F'->Rep K mg F0 H0 F' H' σ' (ρ.set i (.im (.exc c)))->u a (offI i D) σ' H')->ZmD tb hit i u D σ H:=by
    intro D q;refine h _ _ λF2 H2 C g hC=>?_;refine ⟨hh (clsOf c) (by simpa using hc) C hC,λx d hx hd=>?_⟩;obtain ⟨F3,gn,xc⟩:=Zsn (cls:=.ref C) g.s hx hd;exact q x _ _ _ (g.f.trans gn.f) (((rr.gr g).gr gn).set i (.exc hC xc))
   have hB:=λ(a:Addr) F' H' σ' (r':Rep K mg F0 H0 F' H' σ' (ρ.set i (.im (.exc c))))=>hb a F0 H0 F' H' σ' _ r';cases es:b (ρ.set i (.im (.exc c))) with
   | ok fl =>
    rw [es] at hB;cases fl with
    | nx ρ2=>exact λD q=>key D λa F' H' σ' s' r'=>hB a F' H' σ' r' _ λF3 H3 σ3 s3 r3=>q F3 H3 _ (s'.trans s3) (r3.unset i)
    | bk ρ2=>exact λD q=>key D λa F' H' σ' s' r'=>hB a F' H' σ' r' _ λF3 H3 σ3 s3 r3=>q F3 H3 _ (s'.trans s3) (r3.unset i)
    | ct ρ2=>exact λD q=>key D λa F' H' σ' s' r'=>hB a F' H' σ' r' _ λF3 H3 σ3 s3 r3=>q F3 H3 _ (s'.trans s3) (r3.unset i)
    | rt d=>exact λD q=>key D λa F' H' σ' s' r'=>hB a F' H' σ' r' _ λF3 H3 x g3 rx=>q F3 H3 x g3 rx
   | ex c'=>trivial
   | bad=>trivial
  ·rw [if_neg hc];trivial
end
section
variable{X:Cx}{E:XK}{k l i j:Nat}{x y n:Str}{Cy:Addr}{ps:List Str}{f:List D->Res D}{t:TA}{tb tb':TB}{tc:TT}{nc:MB}{m:MA}{ma mb:ME}{u:Addr->TS}{b:MS}{e c:Expr}{es:List Expr}{p yp cpos epos hpos pos:Pos}{b₀:Stmt}{suite body bd be:List Stmt}{hits:List Str}
def Zlo(C:Cal X.prog X.w X.K X.mg X.base k x ps f)(hr:Room l X.A)(hn:k<=l)(hg:Gl X x)(ha:DA X.nox E0 j (e::es) t m)
  (hps:ps.length=j:=by rfl) (hdb:(x==("__debug__" : Str))=false:=by decide) (hsw:swapsWith (.Call (.Name x p) (e::es) [] cpos) none epos.line X.env=pure false:=by rfl)
  (he:starEach (e::es) X.env=(false,eval e X.env)::starEach es X.env:=by rfl) (hpl:(backTo cpos (starEach es X.env)).any (·.1)=false:=by rfl) :
  DB X [.Expr (.Call (.Name x p) (e::es) [] cpos) epos] (tbC (spD X.K X.mg ps.length f) t) (bCal f m):=by
 obtain ⟨fa,fd,F,bi,kp,hm⟩:=C;exact ⟨ZqH (F.mono hn) hr hg hm kp bi ha.p hdb hsw he hpl,Zqa ha.s λρ ds z=>by rw [hps];exact ha.n ρ ds z⟩
def ZtD(hc:DT X.nox E0 c tc nc)(h1:DB X bd tb ma)(h2:DB X be tb' mb):DB X [.If c bd be pos] (tbI tc tb tb') (bIf nc ma mb):=⟨Zue hc.p h1.p h2.p,Ztn hc.s h1.s h2.s⟩
def Zp8(hst:X.stack=X.env::X.outer)(hfr:X.env.frame=some X.env.locals)(hB:DB X body tb ma)(hgy:Gl X y)(hmy:X.mg y=some (.ref Cy))
  (hh:∀c∈hits,∃D,X.mg c=some (.ref D)/\W.exmOne X.K (.ref D) (.ref Cy)=some true) (hN:X.N.Nodup) (hi:X.N[i]?=some n) (hlo:X.env.kindOf n=some .local) (hnl:X.env.scope.names.lookup n=some .local) (hs:∀a,DSs (X.inX a) E0 (b₀::suite) (u a) b)
  (hdy:(y==("__debug__" : Str))=false:=by decide) :
  DS X E (.Try body [.ExceptHandler (some (.Name y yp)) (some n) (b₀::suite) hpos] [] [] pos) (ZmD tb (λcls=>W.exmOne X.K cls (.ref Cy)=some true) i u) (Zmc ma hits i b):=by
 refine ⟨Zqn hst hfr hB.p hgy hmy hN hi hlo hnl (λa=>(hs a).p) hdy,?_⟩;refine ZoJ hB.s (λc hc D hD=>?_) λa=>(hs a).s;obtain ⟨D',m1,q⟩:=hh c hc;rw [hD] at m1;cases m1;exact q
end
end L2.Ds
namespace Dl
open PySem
end Dl
namespace L2
open PySem PySem.Spec PyProof.Rows
end L2
namespace L2.Ds
open PySem PySem.Spec PyProof.Rows PySem.Calls Dl
def GTup(K:W.Frag)(mg:Str->Option Value)(x:Str)(ns:List Int):Prop:=∃(a:Addr) (o:Obj) (its:Array Value) (n:Nat),mg x=some (.ref a)/\K.lookup a=some o/\o.cls=.type "tuple"/\o.data=.seq its n/\its.size<=sizeLine/\Vals (ns.map V.int) its.toList
def ZhI{K:W.Frag}{mg:Str->Option Value}{F:Hp}:∀ns:List Int,Rps K mg F (ns.map V.int) (ns.map D.int)
 | []=>.nil
 | n::r=>.cons (.int n) (ZhI r)
section
variable{X:Cx}{E:XK}{a b c e tg:Expr}{es:List Expr}{t:TA}{m:MA}{n:Nat}{tb:TE}{mb:ME}{pos p lpos:Pos}
def Zoy{x:Str}{ns:List Int}{A:Addr}{o:Obj}{its:Array Value}{n:Nat}(hg:Gl X x)(hm:X.mg x=some (.ref A))(h1:X.K.lookup A=some o)(h2:o.cls=.type "tuple")(h3:o.data=.seq its n)(h4:its.size<=sizeLine)(h5:Vals (ns.map V.int) its.toList)(hd:(x==("__debug__" : Str))=false:=by decide) :
  DE X E (.Name x pos) (tC (.ref A)) (Dl.c (.tup (ns.map .int))):=⟨ZeM hg hm rfl hd,se_c λ_=>.tup (.inr ⟨o,its,n,h1,h2,h3,h4,h5⟩) (ZhI ns)⟩
end
end L2.Ds
namespace Dl
open PySem
end Dl
namespace L2.Ds
open PySem PySem.Spec PyProof.Rows PySem.Calls Dl
end L2.Ds
namespace Dl
open PySem
end Dl
namespace L2.Ds
open PySem PySem.Spec PyProof.Rows Dl
end L2.Ds
namespace Dl
open PySem
def ZdQ(it:MI)(own:Nat)(cap:List Nat)(g:MG)(t:MB)(e:ME):ME:=λρ=>(it ρ).bind λxs =>
 if xs.length<=LIM then (Zak g t e (noA own (yar ρ cap)) xs).bind λys=>.ok (.lst ys) else .bad
end Dl
namespace L2
open PySem PySem.Spec PyProof.Rows
section
variable{M:Model}{A:Around}{E:Value->Shared->Prop}{s:Shared}{B:Heap}{env cenv:Env}{outer l:List Env}{L e:Addr}{cls a0 fl:Value}
def Zgy{h h' B':Heap}{C:Addr}(sB:∀b o,B'.get? b=some o->B.get? b=some o)(k:∀b o,b≠C->h.get? b=some o->h'.get? b=some o):∀{l:List Env},C∉frs l->h.FunFrames B l->h'.FunFrames B' l
 | [],_,_=>trivial
 | v::r,hC,⟨h1,⟨L,o,h2,h3,h4,h5⟩,h6⟩=>by
  have nC:L≠C/\C∉frs r:=by
   unfold frs at hC ⊢;rw [Vam,h2] at hC;exact ⟨λz=>hC (z▸Van),λz=>hC (Vao _ z)⟩
  refine ⟨h1,⟨L,o,h2,?_,k L o nC.1 h4,h5⟩,Zgy sB k nC.2 h6⟩;cases q:B'.get? L with
  | none=>rfl
  | some u=>rw [sB L u q] at h3;cases h3
def Ze7{Q:Unit->Shared->Prop}(hfr:A.frames=some (env::outer))(hf:env.frame=some L)(hkb:B.StaysIn s.heap)(hen:B.get? e=none)(hl:s.heap.FunFrames B (env::outer))(ht:s.heap.TracedAtW B e cls a0 fl)
  (hQ:∀h',Heap.FlyingW B outer e cls a0 h'->s.heap.UpToSlots h'->Q () { s with heap:=h' }):wpAny M A (leaving env (.ref e)) Q E s:=by
 by_cases hfl:fl=rawInt L
 ·subst hfl;unfold leaving;refine VaC (wpAny_noteFrame_againW hf ht ?_);refine wpAny_landsW (L:=L) ⟨hkb,hen,hl,ht⟩ λh' x1 sm=>?_;obtain ⟨k1,k2,⟨_,_,k3⟩,k4⟩:=x1;exact hQ h' ⟨k1,k2,k3,k4⟩ sm
 ·obtain ⟨oe,vs,T,oT,ts,he,⟨hcls,h0⟩,hd,h1,hnT,hTe,hT,hdT,h3⟩:=ht;subst hcls;have away:∀b,b≠T->(s.heap.update T (Obj.mapFields (·.setIfInBounds 3 Value.none))).get? b=s.heap.get? b:=λb hb=>Vbp _ _ (Ne.symm hb);have neT:∀b o,s.heap.get? b=some o->(∀vs,o.data≠.fields vs)->b≠T:=λb o hb hnf q=>by
   rw [q,hT] at hb;cases hb;exact hnf ts hdT
  unfold leaving noteFrame;simp only [hf];refine VaC (VaC (Vbi he hd h1 ?_));rw [if_pos (show (Value.ref T != Value.none)=true from by simp)];refine VaC (Vbi hT hdT h3 ?_);rw [if_neg (show ¬((fl==rawInt L)=true) from by simpa using hfl)];refine VaC (VbS hT hdT (VbA.mp h3).1 ?_);refine wpAny_newEntryW hfr (hl.of_keeps λb o hb hnf=>⟨o,(away b (neT b o hb hnf)).trans hb,rfl⟩) hf ((away e (Ne.symm hTe)).trans he) (λb o hbo=>(away b λq=>by rw [q,hnT] at hbo;cases hbo).trans (hkb b o hbo)) hen hd (VbA.mp h1).1 h0 λh' x=>?_;obtain ⟨x1,⟨_,_,x2⟩,x3,x4⟩:=x;exact hQ h' ⟨x1,hen,x2,x3⟩ λb o hb hnf=>x4 b o ((away b (neT b o hb hnf)).trans hb) hnf
def Zcp{Q:Unit->Shared->Prop}(hfr:A.frames=some (env::outer))(hf:env.frame=some L)(hkb:B.StaysIn s.heap)(hen:B.get? e=none)(hl:s.heap.FunFrames B (env::outer))(ht:s.heap.TracedAtW B e cls a0 fl)
  (hQ:∀h',Heap.FlyingW B outer e cls a0 h'->s.heap.UpToSlots h'->KD s.heap h'->Q () { s with heap:=h' }):wpAny M A (leaving env (.ref e)) Q E s :=
 Vax (Zez (ZdJ _ _) (Ze7 (Q:=λ_ s2=>∃h',s2={ s with heap:=h' }/\Heap.FlyingW B outer e cls a0 h'/\s.heap.UpToSlots h') (E:=E) hfr hf hkb hen hl ht λh' x1 x2=>⟨h',rfl,x1,x2⟩))
  (λ_ _ ⟨⟨h',z,x1,x2⟩,kd⟩=>by subst z;exact hQ h' x1 x2 kd) λ_ _ z=>z.1
def ZfT{what:String}(hkb:B.StaysIn s.heap)(hl:s.heap.FunFrames B l)(ht:s.heap.TracedAtW B e cls a0 fl)
  (h:∀h' fl',B.StaysIn h'->h'.FunFrames B l->h'.TracedAtW B e cls a0 fl'->(∀b o,s.heap.get? b=some o->(∀vs,o.data≠.fields vs)->h'.get? b=some o)->KD s.heap h'->E (.ref e) { s with heap:=h' }) :
  wpAny M A (PySem.passOn what (.ref e) cenv:Sem Value) (λ_ _=>False) E s:=by
 obtain ⟨oe,vs,T,oT,ts,he,hcls,hd,h1,hnT,hTe,hT,hdT,h3⟩:=ht;have sz:3<ts.size:=(VbA.mp h3).1;have away:∀b,b≠T->(s.heap.update T (Obj.mapFields (·.setIfInBounds 3 (cenv.frame.elim Value.none λf=>rawInt f)))).get? b=s.heap.get? b:=λb hb=>Vbp _ _ (Ne.symm hb);have neT:∀b o,s.heap.get? b=some o->(∀vs,o.data≠.fields vs)->b≠T:=λb o hb hnf q=>by
  rw [q,hT] at hb;cases hb;exact hnf ts hdT
 unfold PySem.passOn;refine VaC (Vbi he hd h1 ?_);rw [if_neg (show ¬((Value.ref T==Value.none)=true) from by simp)];refine VaC ?_;unfold setFlight;refine VaC (Vbi he hd h1 ?_);rw [if_pos (show (Value.ref T != Value.none)=true from by simp)];refine VbS hT hdT sz ?_;refine wpAny_throw ?_;refine h _ (cenv.frame.elim Value.none λf=>rawInt f) (λb o hbo=>(away b λq=>by rw [q,hnT] at hbo;cases hbo).trans (hkb b o hbo)) (hl.of_keeps λb o hb hnf=>⟨o,(away b (neT b o hb hnf)).trans hb,rfl⟩) ?_ (λb o hb hnf=>(away b (neT b o hb hnf)).trans hb) (KD.update _ _ (Zhb (by decide) _));exact ⟨oe,vs,T,_,_,(away e (Ne.symm hTe)).trans he,hcls,hd,h1,hnT,hTe,Vbo _ hT (Obj.isFreed_of_fields (VbT hdT _)),VbT hdT _,by simp [sz]⟩
end
structure FlyA(ff:Value)(P:Program)(w:World)(l:List Env)(H H':Hp)(s s':Shared)(x:Addr)(cls:Value):Prop where
 os:s'.os=s.os
 bare:AllBare s'.gens
 un:Un (frs l) [] H H' s.heap s'.heap
 hok:HOk P w H' s'.heap
 frf:∀b∈frs l,H' b=none
 free:H' x=none
 ex:∃(B:Heap) (a0:Value),(B.StaysIn s'.heap/\B.get? x=none/\s'.heap.FunFrames B l/\s'.heap.TracedAtW B x cls a0 ff)/\∀b o,s'.heap.get? b=some o->(H' b≠none\/∃o',s.heap.get? b=some o')->b∉frs l->B.get? b=some o
def CXA(P:Program)(w:World):CXT:=λouter H s E e s'=>∃(x:Addr) (cls:Value) (p:Option Addr) (H':Hp) (ff:Value),e=.ref x/\FlyA ff P w outer H H' s s' x cls/\Zgb p x H' s.heap s'.heap/\E cls p H'
def CXR.a{P:Program}{w:World}{l:List Env}{H:Hp}{s s':Shared}{E:XK}{e:Value}(h:CXR P w l H s E e s'):CXA P w l H s E e s':=by
 obtain ⟨x,cls,p,H',rfl,F,py,q⟩:=h;exact ⟨x,cls,p,H',.none,rfl,⟨F.os,F.bare,F.un,F.hok,F.frf,F.free,F.ex⟩,py,q⟩
def ZnC{M:Model}{A:Around}{E:Value->Shared->Prop}{s:Shared}{B:Heap}{env:Env}{outer:List Env}{L e:Addr}{cls a0 fl:Value}{Q:Unit->Shared->Prop}(hfr:A.frames=some (env::outer))(hf:env.frame=some L)(hkb:B.StaysIn s.heap)(hen:B.get? e=none)(hl:s.heap.FunFrames B (env::outer))(ht:s.heap.TracedAtW B e cls a0 fl)
  (hQ:∀h',Heap.HeldW B (env::outer) e cls a0 L h'->s.heap.UpToSlots h'->KD s.heap h'->Q () { s with heap:=h' }):wpAny M A (noteFrame (.ref e) env) Q E s:=by
 refine Vax (Zez (Zg2 _ _) (Q:=λ_ s2=>∃h',s2={ s with heap:=h' }/\Heap.HeldW B (env::outer) e cls a0 L h'/\s.heap.UpToSlots h') (E:=E) ?_) (λ_ _ ⟨⟨h',z,x1,x2⟩,kd⟩=>by subst z;exact hQ h' x1 x2 kd) λ_ _ z=>z.1
 by_cases hfl:fl=rawInt L
 ·subst hfl;exact wpAny_noteFrame_againW hf ht ⟨s.heap,rfl,⟨hkb,hen,hl,ht⟩,λb o z _=>⟨o.slots,z⟩⟩
 ·obtain ⟨oe,vs,T,oT,ts,he,⟨hcls,h0⟩,hd,h1,hnT,hTe,hT,hdT,h3⟩:=ht;subst hcls;have away:∀b,b≠T->(s.heap.update T (Obj.mapFields (·.setIfInBounds 3 Value.none))).get? b=s.heap.get? b:=λb hb=>Vbp _ _ (Ne.symm hb);have neT:∀b o,s.heap.get? b=some o->(∀vs,o.data≠.fields vs)->b≠T:=λb o hb hnf q=>by
   rw [q,hT] at hb;cases hb;exact hnf ts hdT
  unfold noteFrame;simp only [hf];refine VaC (Vbi he hd h1 ?_);rw [if_pos (show (Value.ref T != Value.none)=true from by simp)];refine VaC (Vbi hT hdT h3 ?_);rw [if_neg (show ¬((fl==rawInt L)=true) from by simpa using hfl)];refine VaC (VbS hT hdT (VbA.mp h3).1 ?_);refine wpAny_entryW hfr (hl.of_keeps λb o hb hnf=>⟨o,(away b (neT b o hb hnf)).trans hb,rfl⟩) hf ((away e (Ne.symm hTe)).trans he) (λb o hbo=>(away b λq=>by rw [q,hnT] at hbo;cases hbo).trans (hkb b o hbo)) hen hd (VbA.mp h1).1 h0 λh' x=>?_;obtain ⟨x1,x2,x3,x4⟩:=x;exact ⟨h',rfl,⟨x1,hen,x2,x3⟩,λb o hb hnf=>x4 b o ((away b (neT b o hb hnf)).trans hb) hnf⟩
def ZkU{P:Program}{w:World}{l l':List Env}{H H':Hp}{s s':Shared}{x:Addr}{cls a0:Value}{B h':Heap}(os:s'.os=s.os)(bare:AllBare s'.gens)(un:Un (frs l) [] H H' s.heap s'.heap)(hok:HOk P w H' s'.heap)
  (frf:∀b∈frs l,H' b=none) (nf:∀b∈frs l,∃o,s'.heap.get? b=some o/\∀vs,o.data≠.fields vs)
  (cov:∀b o,s'.heap.get? b=some o->(H' b≠none\/∃o',s.heap.get? b=some o')->b∉frs l->B.get? b=some o)
  (sub:∀b∈frs l',b∈frs l) (new:∀b∈frs l,b∉frs l'->s.heap.get? b=none) {ff:Value} (fl:B.StaysIn h'/\B.get? x=none/\h'.FunFrames B l'/\h'.TracedAtW B x cls a0 ff) (sm:∀b∈frs l,∀o,s'.heap.get? b=some o->(∀vs,o.data≠.fields vs)->∃sl,h'.get? b=some { o with slots:=sl }) (free:H' x=none) :
  FlyA ff P w l' H H' s { s' with heap:=h' } x cls:=by
 have stay:∀b o,s'.heap.get? b=some o->(H' b≠none\/∃o',s.heap.get? b=some o')->b∉frs l->h'.get? b=some o:=λb o e q hb=>fl.1 b o (cov b o e q hb);have out:∀{b:Addr} {o:Obj},s.heap.get? b=some o->b∉frs l'->b∉frs l:=λ{b o} e hb z=>by
  rw [new b z hb] at e;cases e
 refine ⟨os,bare,⟨λb o e n hb hx=>?_,λb o e n hb hx=>?_,un.free,λb o e hx=>?_,un.tups,un.frzs,un.tbls⟩,λa o e=>?_,λb hb=>frf b (sub b hb),free,B,a0,fl,λb o e q hb=>?_⟩
 ·exact stay b o (un.keep b o e n (out e hb) hx) (.inr ⟨o,e⟩) (out e hb)
 ·obtain ⟨sl,q⟩:=un.slot b o e n (sub b hb) hx;obtain ⟨o1,q1,d1⟩:=nf b (sub b hb);rw [q] at q1;cases q1;obtain ⟨sl',q2⟩:=sm b (sub b hb) _ q d1;exact ⟨sl',q2⟩
 ·obtain ⟨o',q⟩:=un.there b o e hx;by_cases hb:b∈frs l
  ·obtain ⟨o1,q1,d1⟩:=nf b hb;obtain ⟨sl',q2⟩:=sm b hb _ q1 d1;exact ⟨_,q2⟩
  ·exact ⟨o',stay b o' q (.inr ⟨o,e⟩) hb⟩
 ·refine (hok a o e).stay (λb u hb q=>?_) (λ_ q=>q) λ_ _ q=>q;have tr:H' b≠none:=by
   rcases hb with rfl | hb
   ·rw [e];simp
   ·rw [hb];simp
  exact stay b u q (.inl tr) λz=>tr (frf b z)
 ·have hb':b∉frs l:=by
   intro z;rcases q with q | ⟨o',q⟩
   ·exact q (frf b z)
   ·exact out q hb z
  have ⟨o1,q1⟩ : ∃o1,s'.heap.get? b=some o1:=by
   rcases q with q | ⟨o',q⟩
   ·cases z:H' b with
    | none=>exact absurd z q
    | some u=>exact (hok b u z).there
   ·exact un.there b o' q (by simp)
  have c:=cov b o1 q1 q hb';have z:=fl.1 b o1 c;have e':h'.get? b=some o:=e;rw [e'] at z;cases z;exact c
def xfE(E:XK)(X:Cx):Addr->Shared->Hp->List Addr->Value->Shared->Prop:=λC s H fp e s'=>∃H6 s6,s6.os=s.os/\Un (frs X.stack) fp H H6 s.heap s6.heap/\(∃m,s6.heap.Ns C m)/\H6 C=none/\CXA X.prog X.w X.stack H6 s6 E e s'
def ZpY{X:Cx}{E:XK}{N:List Str}{scope:Scope}{cl:List (Str×Addr)}{C:Addr}{s:Shared}{H:Hp}{fp:List Addr}{pn:List (Addr×Obj)}:ZbX (CXR X.prog X.w) (Zaq (xfE E X) X N scope cl C s H fp pn) E:=by
 intro pins σ H6 s6 e s' I h;obtain ⟨m,hn,_⟩:=I.loc;exact ⟨H6,s6,I.os,I.base,⟨m,hn⟩,I.free,h.a⟩
section
variable{X:Cx}{E:XK}{pins:List (Addr×Obj)}{σ:St}{H:Hp}{s s7:Shared}{fp:List Addr}{scope:Scope}{cells:List (Str×Addr)}{C:Addr}{e acc:Value}{use:Option (Value->Sem Unit)}{Q:Value->Shared->Prop}
def Un.strip{fs ex ex':List Addr}{H H1:Hp}{h h1:Heap}(u:Un fs ex H H1 h h1)(n:∀b∈ex,h.get? b=none\/b∈ex'):Un fs ex' H H1 h h1:=by
 have no:∀{b:Addr} {o:Obj},h.get? b=some o->b∉ex'->b∉ex:=λ{b o} e q z=>by
  rcases n b z with z | z
  ·rw [z] at e;cases e
  ·exact q z
 exact ⟨λb o e q1 q2 q=>u.keep b o e q1 q2 (no e q),λb o e q1 q2 q=>u.slot b o e q1 q2 (no e q),λb o e q1 q=>u.free b o e q1 (no e q),λb o e q=>u.there b o e (no e q),u.tups,u.frzs,u.tbls⟩
def Un.hide{fs ex:List Addr}{H H1:Hp}{h h1:Heap}{C:Addr}(u:Un fs ex H H1 h h1)(n:h.get? C=none):Un fs ex H H1 h (W.hideAll h1 [C]):=by
 have ne:∀{b:Addr} {o:Obj},h.get? b=some o->b∉[C]:=λ{b o} e z=>by rw [VbU.mp z,n] at e;cases e
 exact ⟨λb o e q1 q2 q3=>Vag _ (u.keep b o e q1 q2 q3) (ne e),λb o e q1 q2 q3=>(u.slot b o e q1 q2 q3).imp λ_ z=>Vag _ z (ne e),u.free,λb o e q=>(u.there b o e q).imp λ_ z=>Vag _ z (ne e),u.tups,u.frzs,u.tbls⟩
def Un.ofHide{fs ex:List Addr}{H H1:Hp}{h h1:Heap}{l:List Addr}(u:Un fs ex H H1 h h1):Un fs ex H H1 (W.hideAll h l) h1 :=
 ⟨λb o e=>u.keep b o (Vah _ e),λb o e=>u.slot b o (Vah _ e),λb o e=>u.free b o (Vah _ e),λb o e=>u.there b o (Vah _ e),u.tups,u.frzs,u.tbls⟩
def ZnK{env0:Env}{outer0:List Env}{L0:Addr}(hst:X.stack=env0::outer0)(hfr:env0.frame=some L0)(hf0:X.env.frame=some L0)
  (I:Inv X pins σ H s) (hC:s.heap.objs.size<=C) (h:xfE E X C s H fp e s7)
  (K:∀s',(∃H6 s6,s6.os=s.os/\Un (frs X.stack) fp H H6 s.heap s6.heap/\CXA X.prog X.w X.stack H6 s6 E e s')->X.xe e s') :
  notedBy (model X.prog X.w) X.A (compEnvC scope cells C X.env) (λe s'=>compPost (model X.prog X.w) X.A X.xe use Q acc C (.error e) s') e s7:=by
 obtain ⟨H6,s6,os6,un6,⟨m,oc,es,ep,ho,hd,hk⟩,fC,x,cls,p,H',ff,rfl,F,py,q⟩:=h;obtain ⟨B,a0,⟨fl1,fl2,fl3,fl4⟩,cov⟩:=F.ex;have nfC:C∉frs X.stack:=λz=>by
  rcases Vaq.mp (I.stkSub C z) with q | q
  ·exact absurd (Vad I.lt hC) (by rw [q];exact Vae _)
  ·exact I.nofs hC q
 have C7:s7.heap.get? C=some oc:=F.un.keep C oc ho fC nfC (by simp);have nC7:H' C=none:=F.un.free C oc ho fC (by simp);have C0:s.heap.get? C=none:=Vap hC;have ns7:s7.heap.Ns C m:=⟨oc,es,ep,C7,hd,hk⟩;have en:noteFrame (.ref x) (compEnvC scope cells C X.env)=noteFrame (.ref x) env0:=by
  unfold noteFrame PySem.frameOf;rw [show (compEnvC scope cells C X.env).frame=env0.frame from hf0.trans hfr.symm]
 show wpAny _ _ (noteFrame (.ref x) (compEnvC scope cells C X.env)) _ _ s7;rw [en];refine ZnC (outer:=outer0) (by rw [<-hst];exact I.ok.frames) hfr fl1 fl2 (by rw [<-hst];exact fl3) fl4 λh8 held sm8 kd8=>?_;obtain ⟨k1,k2,k3,k4⟩:=held;refine ⟨m,sm8.ns ns7,λh9 sb cenv' _=>?_⟩;have kb9:∀b o,b≠C->h8.get? b=some o->h9.get? b=some o:=λb o hb z=>sb.extBut b o hb z;obtain ⟨sl8,C8⟩:=sm8 C oc C7 λvs z=>by rw [hd] at z;cases z
 have neF:∀{b:Addr} {o:Obj} {vs:Array Value},h8.get? b=some o->o.data=.fields vs->b≠C:=λ{b o vs} z1 z2 z3=>by
  rw [z3,C8] at z1;cases z1;have z2':oc.data=.fields vs:=z2;rw [hd] at z2';cases z2'
 have hide:∀b o,(W.hideAll B [C]).get? b=some o->B.get? b=some o:=λb o z=>Vah _ z;have hideC:∀b o,(W.hideAll B [C]).get? b=some o->b≠C:=λb o z1 z2=>by
  rw [z2,Vaj [C] (by simp)] at z1;cases z1
 have t9:h9.TracedAtW (W.hideAll B [C]) x cls a0 (rawInt L0):=by
  obtain ⟨oe,vs,T,oT,ts,he,hc,hd,h1,hnT,hTe,hT,hdT,h3⟩:=k4;refine ⟨oe,vs,T,oT,ts,kb9 _ _ (neF he hd) he,hc,hd,h1,?_,hTe,kb9 _ _ (neF hT hdT) hT,hdT,h3⟩;cases z:(W.hideAll B [C]).get? T with
  | none=>rfl
  | some u=>rw [hide _ _ z] at hnT;cases hnT
 have st9:(W.hideAll B [C]).StaysIn h9:=λb o z=>kb9 b o (hideC b o z) (k1 b o (hide b o z));have en9:(W.hideAll B [C]).get? x=none:=by
  cases z:(W.hideAll B [C]).get? x with
  | none=>rfl
  | some u=>rw [hide _ _ z] at k2;cases k2
 have f9:h9.FunFrames (W.hideAll B [C]) X.stack:=Zgy hide kb9 nfC (by rw [hst];exact k3);refine ZfT (l:=X.stack) st9 f9 t9 λh10 fl' st10 f10 t10 sm10 kd10=>?_;obtain ⟨o8,x8,_⟩:=Heap.TracedAtW.there k4;have x9:=kb9 x o8 (let ⟨oe,vs,_,_,_,he,_,hd',_⟩:=k4;neF (vs:=vs) x8 (by rw [he] at x8;cases x8;exact hd')) x8;obtain ⟨o10,x10,_⟩:=t10.there;refine K _ ⟨H6,{ s6 with heap:=W.hideAll s6.heap [C] },os6,un6.hide C0,x,cls,p,H',fl',rfl,?_,⟨λe=>?_,λn e=>?_⟩,q⟩
 ·refine ZkU (l:=X.stack) (l':=X.stack) (s:={ s6 with heap:=W.hideAll s6.heap [C] }) (s':=s7) F.os F.bare F.un.ofHide F.hok F.frf (λb hb=>(fl3.mem hb).2) (B:=W.hideAll B [C]) (a0:=a0) (λb o z1 z2 z3=>?_) (λ_ z=>z) (λb h1 h2=>absurd h1 h2) ⟨st10,en9,f10,t10⟩ (λb hb o z1 z2=>?_) F.free
  ·have nb:b≠C:=by
    rintro rfl;rcases z2 with z2 | ⟨o',z2⟩
    ·exact z2 nC7
    ·rw [show (W.hideAll s6.heap [b]).get? b=none from Vaj [b] (by simp)] at z2;cases z2
   exact Vag _ (cov b o z1 (z2.imp id λ⟨o',z⟩=>⟨o',Vah _ z⟩) z3) (by simpa using nb)
  ·have nb:b≠C:=λz=>nfC (z▸hb);obtain ⟨sl,w8⟩:=sm8 b o z1 z2;exact ⟨sl,sm10 b _ (kb9 b _ nb w8) z2⟩
 ·obtain ⟨ox,vs,e1,q1,q2⟩:=py.1 e;obtain ⟨vs',q3,q4⟩:=((kd8.at e1 x8).trans (kd10.at x9 x10)).f vs q1;exact ⟨o10,vs',x10,q3,q4.trans q2⟩
 ·obtain ⟨ox,d,m',e1,e2,e3,e4,e5,e6,e7,e8⟩:=py.2 n e;have nd:d≠C:=λz=>by rw [z,ho] at e6;cases e6
  obtain ⟨od,esd,epd,hod,hdd,rd⟩:=e3;have ndf:∀{o:Obj},o.data=.dict esd epd->∀vs,o.data≠.fields vs:=λz vs q=>by rw [z] at q;cases q
  obtain ⟨sl8,d8⟩:=sm8 d od hod (ndf hdd);have d10:=sm10 d _ (kb9 d _ nd d8) (ndf (o:={ od with slots:=sl8 }) hdd)
  have sk:=(kd8.at e1 x8).trans (kd10.at x9 x10);refine ⟨o10,d,m',x10,sk.d.trans e2,⟨_,esd,epd,d10,hdd,rd⟩,e4,e5,?_,e7,λz=>?_⟩
  rotate_left
  ·obtain ⟨vs,q1,q2⟩:=e8 z;obtain ⟨vs',q3,q4⟩:=sk.f vs q1;exact ⟨vs',q3,q4.trans q2⟩
  ·cases z:(W.hideAll s6.heap [C]).get? d with
   | none=>rfl
   | some o=>rw [Vah _ z] at e6;cases e6
end
section
variable{X:Cx}{own:List Str}{cap:List (Str×Nat)}{scope:Scope}{cl:List (Str×Addr)}{pins:List (Addr×Obj)}{σ:St}{H:Hp}{s:Shared}{fp:List Addr}{tg:Expr}{J:It}{it:Addr}{tn:Nat->Heap->Prop}{E:XK}
structure ZfE(X:Cx)(E:XK):Prop where
 hst:X.stack=X.env::X.outer
 hfr:X.env.frame=some X.env.locals
 hex:X.ex=[]
 hxe:X.xe=λe s'=>wpAny (model X.prog X.w) X.A (leaving X.env e) (λ_ s''=>CXR X.prog X.w X.outer X.H₀ X.s₀ E e s'') (λe' s''=>CXR X.prog X.w X.outer X.H₀ X.s₀ E e' s'') s'
structure BlkX(X:Cx)(E:XK):Prop where
 ex:∃(env0:Env) (outer0:List Env) (L0:Addr),X.stack=env0::outer0/\env0.frame=some L0/\X.env.frame=some L0
 pass:∀{pins:List (Addr×Obj)} {σ:St} {H:Hp} {s:Shared} {fp:List Addr} {e:Value} {s':Shared},Inv X pins σ H s->(∀a∈fp,FpOk X pins H a)->(∃H6 s6,s6.os=s.os/\Un (frs X.stack) fp H H6 s.heap s6.heap/\CXA X.prog X.w X.stack H6 s6 E e s')->X.xe e s'
def BlkX.out(b:BlkX X E){C:Addr}{e acc:Value}{s7:Shared}{cells:List (Str×Addr)}{use:Option (Value->Sem Unit)}{Q:Value->Shared->Prop}(I:Inv X pins σ H s)(f2:∀a∈fp,FpOk X pins H a)(hC:s.heap.objs.size<=C)(h:xfE E X C s H fp e s7) :
  notedBy (model X.prog X.w) X.A (compEnvC scope cells C X.env) (λe s'=>compPost (model X.prog X.w) X.A X.xe use Q acc C (.error e) s') e s7:=by
 obtain ⟨env0,outer0,L0,h1,h2,h3⟩:=b.ex;exact ZnK h1 h2 h3 I hC h λs' h=>b.pass I f2 h
def ZfE.blk(b:ZfE X E):BlkX X E:=by
 refine ⟨⟨_,_,_,b.hst,b.hfr,b.hfr⟩,λ{pins σ H s fp e s'} I f2 h=>?_⟩;have fpn:∀a∈fp,X.s₀.heap.objs.size<=a:=λa ha=>(f2 a ha).2.2.2.1.resolve_left λq=>by rw [b.hex] at q;cases q
 obtain ⟨H6,s6,os6,un6,x,cls,p,H',ff,rfl,F,py,q⟩:=h;obtain ⟨B,a0,⟨fl1,fl2,fl3,fl4⟩,cov⟩:=F.ex;rw [b.hxe];have no:∀b' o,X.s₀.heap.get? b'=some o->∃o',s6.heap.get? b'=some o':=λb' o z=>by
  obtain ⟨o1,w1⟩:=I.base.there b' o z (by rw [b.hex];simp);exact un6.there b' o1 w1 λhb=>by rw [Vap (fpn b' hb)] at z;cases z
 refine Zcp (by rw [<-b.hst];exact I.ok.frames) b.hfr fl1 fl2 (by rw [<-b.hst];exact fl3) fl4 λh11 fl11 sm11 kd11=>?_;refine ⟨x,cls,p,H',rfl,?_,py.on kd11 sm11 (let ⟨o,e,_⟩:=fl11.there;⟨o,e⟩) no,q⟩;have un:Un (frs X.stack) [] X.H₀ H' X.s₀.heap s'.heap:=by
  refine Un.strip (ex:=fp) ?_ λb hb=>.inl (Vap (fpn b hb));exact ((I.base.mono I.sub (by rw [b.hex];simp)).trans un6).trans (F.un.mono (λ_ z=>z) (by simp))
 have G:=ZkU (l:=X.stack) (s':=s') (F.os.trans (os6.trans I.os)) F.bare un F.hok F.frf (λb hb=>(fl3.mem hb).2) (B:=B) (a0:=a0) (λb o z1 z2 z3=>cov b o z1 (z2.imp id λ⟨o',z⟩=>no b o' z) z3) I.sub (λb h1 h2=>by
  rcases Vaq.mp (I.stkSub b h1) with e | e
  ·rw [e];exact Vap I.ok.above
  ·exact absurd e h2) fl11 (λb hb o z1 z2=>sm11 b o z1 z2) F.free
 exact ⟨G.os,G.bare,G.un,G.hok,G.frf,G.free,G.ex⟩
def Znp{N:List Str}{C:Addr}{pn:List (Addr×Obj)}(b:ZfE X E):BlkX (Zaq (xfE E X) X N scope cl C s H fp pn) E:=by
 refine ⟨⟨_,_,_,b.hst,b.hfr,b.hfr⟩,λ{pins σ H1 s1 fp1 e s'} I f2 h=>?_⟩;obtain ⟨H6,s6,os6,un6,cx⟩:=h;obtain ⟨m,⟨oc,es,ep,ho,hd,hk⟩,_⟩:=I.loc;have ho:s1.heap.get? C=some oc:=ho;have nC:C∉fp1:=λz=>(f2 C z).2.1 rfl;have nfC:C∉frs X.stack:=λz=>by
  obtain ⟨_,o,z1,_⟩:=I.ok.funs.mem (show C∈frs X.stack from z);cases (Vap I.ok.above).symm.trans z1
 refine ⟨H6,s6,os6.trans I.os,?_,⟨m,oc,es,ep,un6.keep C oc ho I.free nfC nC,hd,hk⟩,un6.free C oc ho I.free nC,cx⟩;refine Un.strip (ex:=fp++fp1) ((I.base.mono I.sub λ_ z=>Vas fp1 z).trans (un6.mono (λ_ z=>z) λ_ z=>VaO fp z)) λb hb=>?_;rcases Var.mp hb with z | z
 ·exact .inr z
 ·exact ((f2 b z).2.2.2.1).elim .inr λq=>.inl (Vap q)
def Zmo{elt iter:Expr}{pos:Pos}{wi:TI}{ts:List Expr}{g:Fam TG}{tt:Fam TT}{te:Fam TE}(b:BlkX X E)(hi:PI X tg iter wi)(O:Zcv X own cap scope cl)(hc:X.calm=true)
  (hg:∀C s H fp pn,PG (Zaq (xfE E X) X (own++cap.map (·.1)) scope cl C s H fp pn) tg (g C s H fp pn)) (ht:∀C s H fp pn,PTs (Zaq (xfE E X) X (own++cap.map (·.1)) scope cl C s H fp pn) ts (tt C s H fp pn)) (he:∀C s H fp pn,PE (Zaq (xfE E X) X (own++cap.map (·.1)) scope cl C s H fp pn) elt (te C s H fp pn)) (hts:ts.length<=1)
  (hs:∀x,foldedSetIterable iter X.env x=pure x:=by intro _;rfl):PE X (.ListComp elt [⟨tg,iter,ts,0⟩] scope pos) (ZeB wi g tt te own cap):=by
 intro pins s σ H Q I h;rw [eval_ListComp];refine wpAny_comprehension_free (use:=none) rfl hs O.clos O.kind O.locals (thn (hi pins s σ H _ I h) λxv s₁ h₁=>thn h₁ λitv s₂ h₂=>?_);obtain ⟨it,fp,tn,J,H2,rfl,I2,T,st2,f2,hw⟩:=h₂;refine ZfP (xf:=xfE E X) (R:=λacc C=>compPost (model X.prog X.w) X.A X.xe none (EP X pins σ Q) acc C) O hc hg ht he hts I2 T st2 f2 hw ?_ ?_
 ·intro D C H' s' m hC hn hH IV q;exact ⟨m,hn,λh' sb=>⟨.ref D,H',IV h' sb,rfl,q⟩⟩
 ·intro D C cells e s' hC z;exact b.out I2 f2 hC z
end
end L2
namespace L2.Ds
open PySem PySem.Spec PyProof.Rows Dl
section
variable{K:W.Frag}{mg:Str->Option Value}{E:XK}{F0 H0 F H:Hp}{σ:St}{ρ:Ev}
def Zm5{t:TG}{g:MG}{tt:TT}{nt:MB}{te:TE}{me:ME}{own:List Str}{cap:List (Str×Nat)}{J:It}{ds ys:List D}(r:Rep K mg F0 H0 F H σ ρ)(jo:ItOk K mg F J ds)(hg:SG K mg own.length t g)(ht:STt K mg E tt nt)(he:SE K mg E te me)
  (hl:ds.length<=LIM) (e0:Dl.Zak g nt me (noA own.length (yar ρ (cap.map (·.2)))) ds=.ok ys) (Q:VK) (q:∀F' H' xs,Gr F H F' H'->Rps K mg F' xs ys->xs.length<=sizeLine->∀p,H' p=none->Q (.ref p) (upd H' p (.lst xs))) :
  ZcP J t tt te own cap σ Q H:=by
 refine ⟨λi k acc H'=>k=ds.length - i/\i<=ds.length/\acc.length<=i/\∃F' zs rs,Gr F H F' H'/\Rps K mg F' acc zs/\Dl.Zak g nt me (noA own.length (yar ρ (cap.map (·.2)))) (ds.drop i)=.ok rs/\zs++rs=ys,
  ⟨ds.length,by simp,VaZ _,VaL _,F,[],ys,.refl r.ss,.nil,e0,rfl⟩,?_⟩
 rintro i k acc H' ⟨rfl,hi,ha,F',zs,rs,g1,r1,e1,e2⟩;have la:acc.length<=LIM:=Vak ha (Vak hi hl);refine ⟨Zdl la,?_⟩;by_cases hlt:i<ds.length
 ·refine .inr ?_;have hd:ds[i]?=some ds[i]:=VbM hlt;obtain ⟨go,yl⟩:=(jo F' H' g1.f g1.s i).1 _ hd;rw [VbG hlt] at e1;refine ⟨go,λx H2 y=>?_⟩;obtain ⟨F2,g2,rx⟩:=yl x H2 y;have rr:=(r.gr (g1.trans g2)).inner (own:=own) (cap:=cap) (g1.trans g2);have hG:=hg F H F2 H2 _ _ x _ rr rx;have e':(g ds[i] (noA own.length (yar ρ (cap.map (·.2))))).bind (λρ1=>(nt ρ1).bind λb=>if b=true then (me ρ1).bind λy=>(Dl.Zak g nt me (noA own.length (yar ρ (cap.map (·.2)))) (ds.drop (i+1))).bind λys=>.ok (y::ys) else Dl.Zak g nt me (noA own.length (yar ρ (cap.map (·.2)))) (ds.drop (i+1)))=.ok rs:=e1
  cases eg:g ds[i] (noA own.length (yar ρ (cap.map (·.2)))) with
  | ok ρ1 =>
   rw [eg] at e' hG;refine hG _ λF3 H3 σ3 s3 r3 d3=>⟨d3.trans Zhn,?_⟩;have hT:=ht F H F3 H3 σ3 ρ1 r3;have sF:Same F' F3:=g2.f.trans s3;have e3:(nt ρ1).bind (λb=>if b=true then (me ρ1).bind λy=>(Dl.Zak g nt me (noA own.length (yar ρ (cap.map (·.2)))) (ds.drop (i+1))).bind λys=>.ok (y::ys) else Dl.Zak g nt me (noA own.length (yar ρ (cap.map (·.2)))) (ds.drop (i+1)))=.ok rs:=e'
   cases et:nt ρ1 with
   | ok b =>
    rw [et] at e3 hT;refine hT _ λF4 H4 b' g4 eb=>?_;cases (show b'=b from eb);cases b with
    | true =>
     rw [if_pos rfl];have e4:(me ρ1).bind (λy=>(Dl.Zak g nt me (noA own.length (yar ρ (cap.map (·.2)))) (ds.drop (i+1))).bind λys=>.ok (y::ys))=.ok rs:=e3;have hE:=he F H F4 H4 σ3 ρ1 (r3.gr g4);cases em:me ρ1 with
     | ok y' =>
      rw [em] at e4 hE;refine hE _ λF5 H5 u g5 ru=>⟨Vbu la (by decide),ds.length - (i+1),by omega,rfl,hlt,by rw [Vbe];show acc.length+1<=i+1;omega,?_⟩;have e5:(Dl.Zak g nt me (noA own.length (yar ρ (cap.map (·.2)))) (ds.drop (i+1))).bind (λys=>.ok (y'::ys))=.ok rs:=e4;cases ec:Dl.Zak g nt me (noA own.length (yar ρ (cap.map (·.2)))) (ds.drop (i+1)) with
      | ok rs' =>
       rw [ec] at e5;have e6:Res.ok (y'::rs')=.ok rs:=e5;cases e6;exact ⟨F5,zs++[y'],rs',r3.g.trans (g4.trans g5),Rps.app (.cons ru .nil) (r1.same (sF.trans (g4.f.trans g5.f))),rfl,by rw [VbP];exact e2⟩
      | ex c=>rw [ec] at e5;cases e5
      | bad=>rw [ec] at e5;cases e5
     | ex c=>rw [em] at e4;cases e4
     | bad=>rw [em] at e4;cases e4
    | false =>
     rw [if_neg VaG];have e4:Dl.Zak g nt me (noA own.length (yar ρ (cap.map (·.2)))) (ds.drop (i+1))=.ok rs:=e3;exact ⟨ds.length - (i+1),by omega,rfl,hlt,by omega,F4,zs,rs,r3.g.trans g4,r1.same (sF.trans g4.f),e4,e2⟩
   | ex c=>rw [et] at e3;cases e3
   | bad=>rw [et] at e3;cases e3
  | ex c=>rw [eg] at e';cases e'
  | bad=>rw [eg] at e';cases e'
 ·have hi2:i=ds.length:=by omega
  subst hi2;rw [VbN (VaL _)] at e1;cases e1;rw [Va1] at e2;subst e2;exact .inl ⟨(jo F' H' g1.f g1.s _).2 (VaL _),q F' H' acc g1 r1 (Zdl la)⟩
def Znk{t:TG}{g:MG}{tt:TT}{nt:MB}{te:TE}{me:ME}{own:List Str}{cap:List (Str×Nat)}{J:It}{ds:List D}{c:Str}(r:Rep K mg F0 H0 F H σ ρ)(jo:ItOk K mg F J ds)(hg:SG K mg own.length t g)(hgx:∀d ρ c,g d ρ≠.ex c)(ht:STt K mg E tt nt)(he:SE K mg E te me)
  (hl:ds.length<=LIM) (e0:Dl.Zak g nt me (noA own.length (yar ρ (cap.map (·.2)))) ds=.ex c) (Q:VK) (q:∀F' H' C,Gr F H F' H'->mg (clsOf c)=some (.ref C)->E (.ref C) (pay c) H') :
  ZcP J t tt te own cap σ Q H:=by
 refine ⟨λi k acc H'=>k=ds.length - i/\i<=ds.length/\acc.length<=i/\∃F',Gr F H F' H'/\Dl.Zak g nt me (noA own.length (yar ρ (cap.map (·.2)))) (ds.drop i)=.ex c,
  ⟨ds.length,by simp,VaZ _,VaL _,F,.refl r.ss,e0⟩,?_⟩
 rintro i k acc H' ⟨rfl,hi,ha,F',g1,e1⟩;have la:acc.length<=LIM:=Vak ha (Vak hi hl);refine ⟨Zdl la,?_⟩;by_cases hlt:i<ds.length
 case neg =>
  rw [VbN (by omega)] at e1;cases e1
 refine .inr ?_;have hd:ds[i]?=some ds[i]:=VbM hlt;obtain ⟨go,yl⟩:=(jo F' H' g1.f g1.s i).1 _ hd;rw [VbG hlt] at e1;refine ⟨go,λx H2 y=>?_⟩;obtain ⟨F2,g2,rx⟩:=yl x H2 y;have rr:=(r.gr (g1.trans g2)).inner (own:=own) (cap:=cap) (g1.trans g2);have hG:=hg F H F2 H2 _ _ x _ rr rx;have e':(g ds[i] (noA own.length (yar ρ (cap.map (·.2))))).bind (λρ1=>(nt ρ1).bind λb=>if b=true then (me ρ1).bind λy=>(Dl.Zak g nt me (noA own.length (yar ρ (cap.map (·.2)))) (ds.drop (i+1))).bind λys=>.ok (y::ys) else Dl.Zak g nt me (noA own.length (yar ρ (cap.map (·.2)))) (ds.drop (i+1)))=.ex c:=e1
 cases eg:g ds[i] (noA own.length (yar ρ (cap.map (·.2)))) with
 | bad=>rw [eg] at e';cases e'
 | ex c'=>exact absurd eg (hgx _ _ _)
 | ok ρ1 =>
  rw [eg] at e' hG;refine hG _ λF3 H3 σ3 s3 r3 d3=>⟨d3.trans Zhn,?_⟩;have hT:=ht F H F3 H3 σ3 ρ1 r3;have e3:(nt ρ1).bind (λb=>if b=true then (me ρ1).bind λy=>(Dl.Zak g nt me (noA own.length (yar ρ (cap.map (·.2)))) (ds.drop (i+1))).bind λys=>.ok (y::ys) else Dl.Zak g nt me (noA own.length (yar ρ (cap.map (·.2)))) (ds.drop (i+1)))=.ex c:=e'
  cases et:nt ρ1 with
  | bad=>rw [et] at e3;cases e3
  | ex c' =>
   rw [et] at e3 hT;cases (show Res.ex c'=.ex c from e3);exact hT _ λF4 H4 C g4 hC=>q F4 H4 C (r3.g.trans g4) hC
  | ok b =>
   rw [et] at e3 hT;refine hT _ λF4 H4 b' g4 eb=>?_;cases (show b'=b from eb);cases b with
   | false =>
    rw [if_neg VaG];exact ⟨ds.length - (i+1),by omega,rfl,hlt,by omega,F4,r3.g.trans g4,e3⟩
   | true =>
    rw [if_pos rfl];have e4:(me ρ1).bind (λy=>(Dl.Zak g nt me (noA own.length (yar ρ (cap.map (·.2)))) (ds.drop (i+1))).bind λys=>.ok (y::ys))=.ex c:=e3;have hE:=he F H F4 H4 σ3 ρ1 (r3.gr g4);cases em:me ρ1 with
    | bad=>rw [em] at e4;cases e4
    | ex c' =>
     rw [em] at e4 hE;cases (show Res.ex c'=.ex c from e4);exact hE _ λF5 H5 C g5 hC=>q F5 H5 C (r3.g.trans (g4.trans g5)) hC
    | ok y' =>
     rw [em] at e4 hE;have e5:(Dl.Zak g nt me (noA own.length (yar ρ (cap.map (·.2)))) (ds.drop (i+1))).bind (λys=>.ok (y'::ys))=.ex c:=e4;refine hE _ λF5 H5 u g5 ru=>⟨Vbu la (by decide),ds.length - (i+1),by omega,rfl,hlt,by rw [Vbe];show acc.length+1<=i+1;omega,F5,r3.g.trans (g4.trans g5),?_⟩;cases ec:Dl.Zak g nt me (noA own.length (yar ρ (cap.map (·.2)))) (ds.drop (i+1)) with
     | ok rs=>rw [ec] at e5;cases e5
     | bad=>rw [ec] at e5;cases e5
     | ex c' =>
      rw [ec] at e5;exact e5
def Zjr{wi:TI}{mi:MI}{t:Fam TG}{g:MG}{tt:Fam TT}{nt:MB}{te:Fam TE}{me:ME}{own:List Str}{cap:List (Str×Nat)}(hi:SI K mg E wi mi)(hg:∀C s H fp pn,SG K mg own.length (t C s H fp pn) g)(hgx:∀d ρ c,g d ρ≠.ex c)(ht:∀C s H fp pn,STt K mg E (tt C s H fp pn) nt)(he:∀C s H fp pn,SE K mg E (te C s H fp pn) me) :
  SE K mg E (ZeB wi t tt te own cap) (ZdQ mi own.length (cap.map (·.2)) g nt me):=by
 intro F0 H0 F H σ ρ rr;refine (hi F0 H0 F H σ ρ rr).bind (w':=λJ H1 Q=>∀C s H2 fp pn,ZcP J (t C s H2 fp pn) (tt C s H2 fp pn) (te C s H2 fp pn) own cap σ Q H1) λF1 H1 J ds g1 jo=>?_;by_cases hl:ds.length<=LIM
 ·rw [if_pos hl];cases e:Dl.Zak g nt me (noA own.length (yar ρ (cap.map (·.2)))) ds with
  | ok ys=>exact λQ q C s H2 fp pn=>Zm5 (rr.gr g1) jo (hg C s H2 fp pn) (ht C s H2 fp pn) (he C s H2 fp pn) hl e Q λF' H' xs g2 rs _ p hp=>q _ _ _ (g2.trans (.new g2.s hp _)) (.lst (SqL.of Zag) (rs.same (ZaE (g2.s.free hp) _)))
  | ex c=>exact λQ q C s H2 fp pn=>Znk (rr.gr g1) jo (hg C s H2 fp pn) hgx (ht C s H2 fp pn) (he C s H2 fp pn) hl e Q λF' H' C g2 hC=>q F' H' C g2 hC
  | bad=>trivial
 ·rw [if_neg hl];trivial
end
section
variable{X:Cx}{E:XK}{tg iter elt:Expr}{ts:List Expr}{me:ME}{na:MB}{pos:Pos}
def ZfA{own:List Str}{cap:List (Str×Nat)}{scope:Scope}{cl:List (Str×Addr)}{wi:TI}{mi:MI}{g:Fam TG}{gm:MG}{tt:Fam TT}{tf:Fam TE}(b:BlkX X E)(hi:DI X E tg iter wi mi)(O:Zcv X own cap scope cl)(hc:X.calm=true)
  (hg:∀C s H fp pn,DG (Zaq (xfE E X) X (own++cap.map (·.1)) scope cl C s H fp pn) own.length tg (g C s H fp pn) gm) (ht:∀C s H fp pn,DTs (Zaq (xfE E X) X (own++cap.map (·.1)) scope cl C s H fp pn) E ts (tt C s H fp pn) na)
  (he:∀C s H fp pn,DE (Zaq (xfE E X) X (own++cap.map (·.1)) scope cl C s H fp pn) E elt (tf C s H fp pn) me) (hts:ts.length<=1:=by decide) (hs:∀x,foldedSetIterable iter X.env x=pure x:=by intro _;rfl) :
  DE X E (.ListComp elt [⟨tg,iter,ts,0⟩] scope pos) (ZeB wi g tt tf own cap) (ZdQ mi own.length (cap.map (·.2)) gm na me) :=
 ⟨Zmo b hi.p O hc (λC s H fp pn=>(hg C s H fp pn).p) (λC s H fp pn=>(ht C s H fp pn).p) (λC s H fp pn=>(he C s H fp pn).p) hts hs,
  Zjr hi.s (λC s H fp pn=>(hg C s H fp pn).s) (hg 0 X.s₀ (λ_=>none) [] []).x (λC s H fp pn=>(ht C s H fp pn).s) (λC s H fp pn=>(he C s H fp pn).s)⟩
def Zld{X:Cx}{E:XK}{N:List Str}{scope:Scope}{cl:List (Str×Addr)}{C':Addr}{s:Shared}{H:Hp}{fp:List Addr}{pn:List (Addr×Obj)}{e:Expr}{es:List Expr}{t:TA}{m:MA}{n k l:Nat}{x:Str}{ps:List Str}{f:List D->Res D}{p pos:Pos}
  (C:Cal X.prog X.w X.K X.mg X.base k x ps f) (hr:Room l X.A) (hn:k<=l) (hg:Gl (Zaq (xfE E X) X N scope cl C' s H fp pn) x) (ha:DA (Zaq (xfE E X) X N scope cl C' s H fp pn) E n (e::es) t m) (hps:ps.length=n:=by rfl)
  (hdb:(x==("__debug__" : Str))=false:=by decide) (he:starEach (e::es) (Zaq (xfE E X) X N scope cl C' s H fp pn).env=(false,eval e (Zaq (xfE E X) X N scope cl C' s H fp pn).env)::starEach es (Zaq (xfE E X) X N scope cl C' s H fp pn).env:=by rfl)
  (hpl:(backTo pos (starEach es (Zaq (xfE E X) X N scope cl C' s H fp pn).env)).any (·.1)=false:=by rfl) :
  DE (Zaq (xfE E X) X N scope cl C' s H fp pn) E (.Call (.Name x p) (e::es) [] pos) (ZhM (spD X.K X.mg ps.length f) [] E t) (on f m) :=
 ZbY (X:=Zaq (xfE E X) X N scope cl C' s H fp pn) C hr hn hg ZpY ha hps hdb he hpl
end
end L2.Ds
namespace Dl
open PySem
def dFld(cs:List Str)(f:Str):D->Res D
 | .ins c ns vs=>if cs.contains c=true then ofO ((ns.zip vs).lookup f) else .bad
 | _=>.bad
def badS:MS:=λ_=>.bad
end Dl
namespace L2.Ds
open PySem PySem.Spec PyProof.Rows Dl
def ZeU(K:W.Frag)(mg:Str->Option Value)(cs:List Str)(f:Str):Prop:=∀c,cs.contains c=true->∀C,mg c=some (.ref C)->Cls K C/\Zdh K C f
def rFld(K:W.Frag)(f:Str):V->Hp->VK->Prop:=λx H Q=>∃a C dx fs v,x=.ref a/\H a=some (.ins C dx fs)/\Cls K C/\Zdh K C f/\fs.lookup f=some v/\Q v H
section
variable{K:W.Frag}{mg:Str->Option Value}
def ZgJ{F:Hp}{f:Str}{d:D}:∀{fs:List (Str×V)} {vs:List D},Rps K mg F (fs.map (·.2)) vs->((fs.map (·.1)).zip vs).lookup f=some d->∃v,fs.lookup f=some v/\Rp K mg F v d
 | [],_,_,e=>by simp at e
 | (n,x)::r,[],q,_=>nomatch q
 | (n,x)::r,d0::vs,.cons h q,e=>by
  rw [VaV,List.zip_cons_cons,Vbv] at e;rw [Vbv];cases z:f==n with
  | true =>
   rw [show (f==(n,x).fst)=true from z] at e;cases e;exact ⟨x,rfl,h⟩
  | false =>
   rw [show (f==(n,x).fst)=false from z] at e;exact ZgJ q e
def Zpm{cs:List Str}{f:Str}(T:ZeU K mg cs f):UnD K mg (rFld K f) (dFld cs f):=by
 intro E F H x dx s rx;cases dx with
 | ins c ns vs =>
  show Ans mg E (Rp K mg) F H (if cs.contains c=true then ofO ((ns.zip vs).lookup f) else .bad) _
  by_cases hc:cs.contains c=true
  ·rw [if_pos hc];cases rx with
   | @ins _ C a dx fs xs _ m h o e r =>
    subst e;cases q:((fs.map (·.1)).zip vs).lookup f with
    | none=>trivial
    | some d =>
     obtain ⟨v,hv,rv⟩:=ZgJ r q;obtain ⟨c1,c2⟩:=T c hc C m;exact .ret s rv λQ z=>⟨a,C,dx,fs,v,rfl,s _ _ h,c1,c2,hv,z⟩
  ·rw [if_neg hc];trivial
 | _=>trivial
end
def ZmR{X:Cx}{E:XK}{e:Expr}{te:TE}{me:ME}{cs:List Str}{f:Str}{pos:Pos}(T:ZeU X.K X.mg cs f)(he:DE X E e te me)(hb:attributeBase e f X.env (eval e X.env)=eval e X.env:=by rfl) :
  DE X E (.Attribute e f pos) (tFld X.K te f) (o1 (dFld cs f) me):=⟨Zsy he.p hb,ZsV (Zpm T) he.s⟩
def ZqI{X:Cx}{E:XK}{sts:List Stmt}:DSs X E sts (λ_ _ _=>False) badS:=⟨λ_ _ _ _ _ _ h=>h.elim,λ_ _ _ _ _ _ _=>trivial⟩
end L2.Ds
namespace Dl
open PySem
mutual
def noL:D->Bool
 | .lst _=>false
 | .ins _ _ _=>false
 | .tup xs=>noLs xs
 | _=>true
def noLs:List D->Bool
 | []=>true
 | x::r=>noL x&&noLs r
end
def ZnQ:D->Option (List D)
 | .lst cs=>if noLs cs=true then some cs else none
 | _=>none
def ZgD:List D->Bool
 | []=>true
 | d::r=>(ZnQ d).isSome&&ZgD r
end Dl
namespace L2.Ds
open PySem PySem.Spec PyProof.Rows Dl
section
variable{K:W.Frag}{mg:Str->Option Value}{E:XK}{F0 H0 F H:Hp}{σ:St}{ρ:Ev}
mutual
def Zon{F F3:Hp}(k:∀b o,F b=some o->(∀xs,o≠.lst xs)->F3 b=some o):∀{x:V} {d:D},Rp K mg F x d->noL d=true->Rp K mg F3 x d
 | _,_,.non,_=>.non
 | _,_,.bl b,_=>.bl b
 | _,_,.int i,_=>.int i
 | _,_,.str x,_=>.str x
 | _,_,.ty n,_=>.ty n
 | _,_,.cls h,_=>.cls h
 | _,_,.tup h r,p=>by
  refine .tup ?_ (Zi2 k r (by simpa [noL] using p));rcases h with (h | ⟨o,h⟩) | h
  ·exact .inl (.inl (k _ _ h λ_ z=>by cases z))
  ·exact .inl (.inr ⟨o,k _ _ h λ_ z=>by cases z⟩)
  ·exact .inr h
 | _,_,.lst h r,p=>by simp [noL] at p
 | _,_,.exc m h,_=>.exc m (h.same k)
 | _,_,.ins m h o q r,p=>by simp [noL] at p
def Zi2{F F3:Hp}(k:∀b o,F b=some o->(∀xs,o≠.lst xs)->F3 b=some o):∀{xs:List V} {ds:List D},Rps K mg F xs ds->noLs ds=true->Rps K mg F3 xs ds
 | _,_,.nil,_=>.nil
 | _,_,.cons h r,p=>by
  rw [noLs,Vbm] at p;exact .cons (Zon k h p.1) (Zi2 k r p.2)
end
def RowR(K:W.Frag)(mg:Str->Option Value)(Fb F':Hp)(x:V)(d:D):Prop:=∃q ys cs,x=.ref q/\d=.lst cs/\Fb q=none/\F' q=some (.lst ys)/\Rps K mg F' ys cs
def RowR.up{Fb F' F'':Hp}{x:V}{d:D}(h:RowR K mg Fb F' x d)(s:Same F' F''):RowR K mg Fb F'' x d:=by
 obtain ⟨q,ys,cs,e1,e2,h1,h2,h3⟩:=h;exact ⟨q,ys,cs,e1,e2,h1,s _ _ h2,h3.same s⟩
def SEl(K:W.Frag)(mg:Str->Option Value)(E:XK)(t:TE)(m:ME):Prop:=∀F0 H0 F H σ ρ,Rep K mg F0 H0 F H σ ρ->Ans mg E (RowR K mg F) F H (m ρ) (t σ H)
def Zm9{t:TA}{m:MA}(ha:SA K mg E t m):SEl K mg E (tCB (λxs H Q=>∃p ys,xs=[.ref p]/\(SqL K H p ys\/SqT K H p ys)/\∀l,H l=none->Q (.ref l) (upd H l (.lst ys))) t) (on bLst m):=by
 intro F0 H0 F H σ ρ rr;refine (ha F0 H0 F H σ ρ rr).bind (w':=λxs H1 (Q:V->Hp->Prop)=>∃p ys,xs=[V.ref p]/\(SqL K H1 p ys\/SqT K H1 p ys)/\∀l,H1 l=none->Q (.ref l) (upd H1 l (.lst ys))) λF1 H1 xs ds g1 rs=>?_;have fin:∀(zs:List V) (es:List D),Rps K mg F1 zs es->∀(p:Addr),xs=[.ref p]->(SqL K H1 p zs\/SqT K H1 p zs)->Ans mg E (RowR K mg F) F1 H1 (.ok (.lst es)) (λ(Q:V->Hp->Prop)=>∃p ys,xs=[V.ref p]/\(SqL K H1 p ys\/SqT K H1 p ys)/\∀l,H1 l=none->Q (.ref l) (upd H1 l (.lst ys))):=λzs es rz p ex hs Q q=>⟨p,zs,ex,hs,λl hl=>q _ _ _ (.new g1.s hl _) ⟨l,zs,es,rfl,rfl,(g1.f.free (g1.s.free hl)),Zag,rz.same (ZaE (g1.s.free hl) _)⟩⟩;unfold bLst;split
 ·next es =>
  obtain ⟨x,rfl,rx⟩:=rs.one;cases rx with
  | lst h r=>exact fin _ _ r _ rfl (.inl (g1.s.seq h))
 ·next es =>
  obtain ⟨x,rfl,rx⟩:=rs.one;cases rx with
  | tup h r=>exact fin _ _ r _ rfl (.inr (Zax g1.s h))
 ·trivial
def Znn{t:TG}{g:MG}{tt:TT}{nt:MB}{te:TE}{me:ME}{own:List Str}{cap:List (Str×Nat)}{J:It}{ds ys:List D}(r:Rep K mg F0 H0 F H σ ρ)(jo:ItOk K mg F J ds)(hg:SG K mg own.length t g)(ht:STt K mg E0 tt nt)(he:SEl K mg E0 te me)
  (hl:ds.length<=LIM) (e0:Dl.Zak g nt me (noA own.length (yar ρ (cap.map (·.2)))) ds=.ok ys) (Q:VK) (q:∀F' H' xs,Gr F H F' H'->Rps K mg F' xs ys->(∀(k:Nat) (y:V) (d:D),xs[k]?=some y->ys[k]?=some d->RowR K mg F F' y d)->xs.Nodup->xs.length<=sizeLine->∀p,H' p=none->Q (.ref p) (upd H' p (.lst xs))) :
  ZcP J t tt te own cap σ Q H:=by
 refine ⟨λi k acc H'=>k=ds.length - i/\i<=ds.length/\acc.length<=i/\∃F' zs rs,Gr F H F' H'/\Rps K mg F' acc zs/\(∀(k:Nat) (y:V) (d:D),acc[k]?=some y->zs[k]?=some d->RowR K mg F F' y d)/\acc.Nodup/\Dl.Zak g nt me (noA own.length (yar ρ (cap.map (·.2)))) (ds.drop i)=.ok rs/\zs++rs=ys,
  ⟨ds.length,by simp,VaZ _,VaL _,F,[],ys,.refl r.ss,.nil,(λk y d hy=>by simp at hy),List.nodup_nil,e0,rfl⟩,?_⟩
 rintro i k acc H' ⟨rfl,hi,ha,F',zs,rs,g1,r1,n1,nd1,e1,e2⟩;have la:acc.length<=LIM:=Vak ha (Vak hi hl);refine ⟨Zdl la,?_⟩;by_cases hlt:i<ds.length
 ·refine .inr ?_;have hd:ds[i]?=some ds[i]:=VbM hlt;obtain ⟨go,yl⟩:=(jo F' H' g1.f g1.s i).1 _ hd;rw [VbG hlt] at e1;refine ⟨go,λx H2 y=>?_⟩;obtain ⟨F2,g2,rx⟩:=yl x H2 y;have rr:=(r.gr (g1.trans g2)).inner (own:=own) (cap:=cap) (g1.trans g2);have hG:=hg F H F2 H2 _ _ x _ rr rx;have e':(g ds[i] (noA own.length (yar ρ (cap.map (·.2))))).bind (λρ1=>(nt ρ1).bind λb=>if b=true then (me ρ1).bind λy=>(Dl.Zak g nt me (noA own.length (yar ρ (cap.map (·.2)))) (ds.drop (i+1))).bind λys=>.ok (y::ys) else Dl.Zak g nt me (noA own.length (yar ρ (cap.map (·.2)))) (ds.drop (i+1)))=.ok rs:=e1
  cases eg:g ds[i] (noA own.length (yar ρ (cap.map (·.2)))) with
  | ok ρ1 =>
   rw [eg] at e' hG;refine hG _ λF3 H3 σ3 s3 r3 d3=>⟨d3.trans Zhn,?_⟩;have hT:=ht F H F3 H3 σ3 ρ1 r3;have sF:Same F' F3:=g2.f.trans s3;have e3:(nt ρ1).bind (λb=>if b=true then (me ρ1).bind λy=>(Dl.Zak g nt me (noA own.length (yar ρ (cap.map (·.2)))) (ds.drop (i+1))).bind λys=>.ok (y::ys) else Dl.Zak g nt me (noA own.length (yar ρ (cap.map (·.2)))) (ds.drop (i+1)))=.ok rs:=e'
   cases et:nt ρ1 with
   | ok b =>
    rw [et] at e3 hT;refine hT _ λF4 H4 b' g4 eb=>?_;cases (show b'=b from eb);cases b with
    | true =>
     rw [if_pos rfl];have e4:(me ρ1).bind (λy=>(Dl.Zak g nt me (noA own.length (yar ρ (cap.map (·.2)))) (ds.drop (i+1))).bind λys=>.ok (y::ys))=.ok rs:=e3;have hE:=he F H F4 H4 σ3 ρ1 (r3.gr g4);cases em:me ρ1 with
     | ok y' =>
      rw [em] at e4 hE;refine hE _ λF5 H5 u g5 ru=>⟨Vbu la (by decide),ds.length - (i+1),by omega,rfl,hlt,by rw [Vbe];show acc.length+1<=i+1;omega,?_⟩;have e5:(Dl.Zak g nt me (noA own.length (yar ρ (cap.map (·.2)))) (ds.drop (i+1))).bind (λys=>.ok (y'::ys))=.ok rs:=e4;have sF5:=sF.trans (g4.f.trans g5.f);cases ec:Dl.Zak g nt me (noA own.length (yar ρ (cap.map (·.2)))) (ds.drop (i+1)) with
      | ok rs' =>
       rw [ec] at e5;have e6:Res.ok (y'::rs')=.ok rs:=e5;cases e6;obtain ⟨q,qs,cs,rfl,rfl,fq4,fq5,rq⟩:=ru;have fq:F q=none:=(r3.g.f.trans g4.f).free fq4;have lz:=r1.length;refine ⟨F5,zs++[.lst cs],rs',r3.g.trans (g4.trans g5),Rps.app (.cons (.lst (SqL.of fq5) rq) .nil) (r1.same sF5),λk z d hz hd=>?_,?_,rfl,by rw [VbP];exact e2⟩
       ·by_cases hk:k<acc.length
        ·rw [Vbb hk] at hz;rw [Vbb (by omega)] at hd;exact (n1 k z d hz hd).up sF5
        ·rw [Va9 (by omega)] at hz;rw [Va9 (by omega)] at hd;have hk0:k - acc.length=0:=by
          have:=(Vat.mp hz).1;simp at this;omega
         rw [hk0] at hz;rw [show k - zs.length=0 by omega] at hd;cases hz;cases hd;exact ⟨q,qs,cs,rfl,rfl,fq,fq5,rq⟩
       ·refine List.nodup_append.mpr ⟨nd1,by simp,λz hz w hw=>?_⟩;have hw':w=.ref q:=by simpa using hw
        subst hw';obtain ⟨k,hk,rfl⟩:=VbV.mp hz;obtain ⟨q',_,_,ez,_,_,f',_⟩:=n1 k _ _ (VbM hk) (VbM (show k<zs.length by omega));rw [ez];intro z2;cases z2;rw [(sF.trans g4.f) _ _ f'] at fq4;cases fq4
      | ex c=>rw [ec] at e5;cases e5
      | bad=>rw [ec] at e5;cases e5
     | ex c=>rw [em] at e4;cases e4
     | bad=>rw [em] at e4;cases e4
    | false =>
     rw [if_neg VaG];have e4:Dl.Zak g nt me (noA own.length (yar ρ (cap.map (·.2)))) (ds.drop (i+1))=.ok rs:=e3;exact ⟨ds.length - (i+1),by omega,rfl,hlt,by omega,F4,zs,rs,r3.g.trans g4,r1.same (sF.trans g4.f),(λk z d h1 h2=>(n1 k z d h1 h2).up (sF.trans g4.f)),nd1,e4,e2⟩
   | ex c=>rw [et] at e3;cases e3
   | bad=>rw [et] at e3;cases e3
  | ex c=>rw [eg] at e';cases e'
  | bad=>rw [eg] at e';cases e'
 ·have hi2:i=ds.length:=by omega
  subst hi2;rw [VbN (VaL _)] at e1;cases e1;rw [Va1] at e2;subst e2;exact .inl ⟨(jo F' H' g1.f g1.s _).2 (VaL _),q F' H' acc g1 r1 n1 nd1 (Zdl la)⟩
def ZgE:∀{rows:List D} {r:Nat} {d:D},ZgD rows=true->rows[r]?=some d->∃cs,d=.lst cs/\noLs cs=true
 | [],_,_,_,e=>by simp at e
 | x::rows,0,d,h,e=>by
  have e':x=d:=by simpa using e
  subst e';rw [ZgD,Vbm] at h;cases x with
  | lst cs =>
   refine ⟨cs,rfl,?_⟩;have h1:(if noLs cs=true then some cs else none).isSome=true:=h.1
   by_cases z:noLs cs=true
   ·exact z
   ·rw [if_neg z] at h1;cases h1
  | _=>exact absurd h.1 (by simp [ZnQ])
 | x::rows,r+1,d,h,e=>by
  rw [ZgD,Vbm] at h;exact ZgE (r:=r) h.2 (by simpa using e)
def ZjN:∀{xs:List V} {ds:List D} {G:Hp},xs.length=ds.length->(∀(k:Nat) (x:V) (d:D),xs[k]?=some x->ds[k]?=some d->Rp K mg G x d)->Rps K mg G xs ds
 | [],[],_,_,_=>.nil
 | [],_::_,_,l,_=>by cases l
 | _::_,[],_,l,_=>by cases l
 | x::xs,d::ds,G,l,h=>.cons (h 0 x d rfl rfl) (ZjN (by simpa using l) λk y e h1 h2=>h (k+1) y e (by simpa using h1) (by simpa using h2))
end
structure DEl(X:Cx)(E:XK)(e:Expr)(t:TE)(m:ME):Prop where
 p:PE X e t
 s:SEl X.K X.mg E t m
section
variable{X:Cx}{E:XK}{tg iter elt e e0:Expr}{ts es:List Expr}{me mv:ME}{na:MB}{n i a b:Nat}{x xa xb:Str}{t:TA}{m:MA}{tv:TE}{ur:TS}{kr:MS}{rest:List Stmt}{pos pos' spos spos2 np nap nbp ip ip2:Pos}
def Zp1{xl:Str}{lp cpos:Pos}(h:DE X E (.Call (.Name xl lp) (e0::es) [] cpos) (tCB (λxs H Q=>∃p ys,xs=[.ref p]/\(SqL X.K H p ys\/SqT X.K H p ys)/\∀l,H l=none->Q (.ref l) (upd H l (.lst ys))) t) (on bLst m))(ha:DA X E n (e0::es) t m):DEl X E (.Call (.Name xl lp) (e0::es) [] cpos) (tCB (λxs H Q=>∃p ys,xs=[.ref p]/\(SqL X.K H p ys\/SqT X.K H p ys)/\∀l,H l=none->Q (.ref l) (upd H l (.lst ys))) t) (on bLst m):=⟨h.p,Zm9 ha.s⟩
end
end L2.Ds
namespace Dl
open PySem
end Dl
namespace L2
open PySem PySem.Spec PyProof.Rows
end L2
namespace L2.Ds
open PySem PySem.Spec PyProof.Rows PySem.Calls Dl
end L2.Ds
namespace Dl
open PySem
abbrev Fs:=List (Str×D)
abbrev MSi:=Ev->Fs->Res Fs
def iEnd:MSi:=λ_ fl=>.ok fl
def iDrp(e:ME)(k:MSi):MSi:=λρ fl=>(e ρ).bind λ_=>k ρ fl
def iSup(g:List D->Fs->Res Fs)(a:MA)(k:MSi):MSi:=λρ fl=>(a ρ).bind λds=>(g ds fl).bind λfl'=>k ρ fl'
def fnI(n:Nat)(k:MSi):List D->Fs->Res Fs:=λds fl=>k (.no::ev0 (n - 1) ds) fl
def make(c:Str)(g:List D->Fs->Res Fs)(a:MA):ME:=λρ=>(a ρ).bind λds=>(g ds []).bind λfl=>.ok (.ins c (fl.map (·.1)) (fl.map (·.2)))
def meth(tab:List (Str×(List D->Res D)))(m:Str)(o:ME)(a:MA):ME:=λρ=>(o ρ).bind λd=>match d with
 | .ins c ns vs=>if ns.contains m=true then .bad else match tab.lookup c with
  | some f=>(a ρ).bind λds=>f (.ins c ns vs::ds)
  | none=>.bad
 | _=>.bad
end Dl
namespace L2.Ds
open PySem PySem.Spec PyProof.Rows Dl
def Ans.imp{α β:Type}{mg:Str->Option Value}{E:XK}{R:Hp->β->α->Prop}{F H:Hp}{r:Res α}{w w':(β->Hp->Prop)->Prop}(h:Ans mg E R F H r w)(hw:∀Q,w Q->w' Q):Ans mg E R F H r w':=by
 cases r with
 | ok a=>exact λQ q=>hw Q (h Q q)
 | ex c=>exact λQ q=>hw Q (h Q q)
 | bad=>trivial
def Zlp(P:Program)(w:World)(K:W.Frag)(mg:Str->Option Value)(base:Heap)(k:Nat)(m:Str)(E:XK)(ta:TE)(t:TA):TE:=λσ H Q=>ta σ H λx H1=>∃a C dx fs g fd ps sp,x=.ref a/\H1 a=some (.ins C dx fs)/\fs.lookup m=none /\
 Cls K C/\Meth K C m g/\FnOk P w K mg base (CXR P w) k g fd ps sp/\Binds K fd ps []/\t σ H1 λvs H2=>sp (x::vs) H2 Q E
section
variable{X:Cx}{E:XK}{k:Nat}{m:Str}{e o:Expr}{es:List Expr}{ta:TE}{t:TA}{pos apos:Pos}{pl:Sem Bool}
def ZkG(he:PE X o ta)(hr:Room k X.A)(hx:ZbX (CXR X.prog X.w) X E)
  (ht:eval (.Call (.Attribute o m apos) [] [] pos) X.env=(do
   let ov <-eval o X.env
   standAt apos.atName
   let (f,first) <-holding [ov] (getMethod ov m pl)
   callWith pos f first (backTo pos (starEach [] X.env)) (backToKw pos (keywordEach [] X.env))):=by rfl) :
  PE X (.Call (.Attribute o m apos) [] [] pos) (Zlp X.prog X.w X.K X.mg X.base k m E ta tNil):=by
 intro pins s σ H Q I h;refine W.methodCall_KW (pl:=pl) (thn (he pins s σ H _ I h) λu s1 hZ=>?_) ht;obtain ⟨x,H1,I1,rx,a,C,dx,fs,g,fd,ps,sp,ex,ea,l,c,hm,F,hb,q⟩:=hZ;subst ex;obtain rfl:u=Value.ref a:=rx;refine Zkw I1 ea c hm l ?_;exact W.callWith_K0 (first:=[.ref a]) I1.kIn hm.kp (ZlC (us:=[.ref a]) (vs:=[.ref a]) (dvs:=[]) F hr hb .nil hx I1 (.cons rfl .nil) q)
end
def Zer(P:Program)(w:World)(K:W.Frag)(mg:Str->Option Value)(base:Heap)(k n:Nat)(m:Str)(tab:List (Str×(List D->Res D))):Prop:=∀c f,tab.lookup c=some f->∀C,mg c=some (.ref C) ->
 Cls K C/\∃g fd ps,Meth K C m g/\FnOk P w K mg base (CXR P w) k g fd ps (spD K mg ps.length f)/\Binds K fd ps []/\ps.length=n+1
def Zer.nil{P:Program}{w:World}{K:W.Frag}{mg:Str->Option Value}{base:Heap}{k n:Nat}{m:Str}:Zer P w K mg base k n m []:=λ_ _ e=>by cases e
def Zer.cons{P:Program}{w:World}{K:W.Frag}{mg:Str->Option Value}{base:Heap}{k n:Nat}{m c:Str}{f:List D->Res D}{tab:List (Str×(List D->Res D))}
  (h:∀C,mg c=some (.ref C)->Cls K C/\∃g fd ps,Meth K C m g/\FnOk P w K mg base (CXR P w) k g fd ps (spD K mg ps.length f)/\Binds K fd ps []/\ps.length=n+1) (r:Zer P w K mg base k n m tab):Zer P w K mg base k n m ((c,f)::tab):=by
 intro c' f' e;rw [Vbv] at e;split at e
 ·next q =>
  cases e;rw [eq_of_beq q];exact h
 ·exact r c' f' e
def Zil{m:Str}:∀{fs:List (Str×V)},¬(fs.map (·.1)).contains m=true->fs.lookup m=none
 | [],_=>rfl
 | (n,x)::r,h=>by
  rw [VaV,List.contains_cons] at h;rw [Vbv];cases z:m==n with
  | true=>exact absurd (by rw [show (m==(n,x).fst)=true from z];rfl) h
  | false=>exact Zil λq=>h (by rw [q,Bool.or_true])
section
variable{P:Program}{w:World}{K:W.Frag}{mg:Str->Option Value}{base:Heap}{E:XK}{k n:Nat}{m:Str}{tab:List (Str×(List D->Res D))}{ta:TE}{mo:ME}{t:TA}{ma:MA}
def Zqk(T:Zer P w K mg base k n m tab)(ho:SE K mg E ta mo)(ha:SA K mg E t ma)(hl:SAn n ma):SE K mg E (Zlp P w K mg base k m E ta t) (meth tab m mo ma):=by
 intro F0 H0 F H σ ρ rr;refine (ho F0 H0 F H σ ρ rr).bind λF1 H1 x d g1 rx=>?_;cases d with
 | ins c ns vs =>
  show Ans mg E (Rp K mg) F1 H1 (if ns.contains m=true then .bad else match tab.lookup c with
   | some f=>(ma ρ).bind λds=>f (.ins c ns vs::ds)
   | none=>.bad) _
  by_cases hc:ns.contains m=true
  ·rw [if_pos hc];trivial
  rw [if_neg hc];cases e:tab.lookup c with
  | none=>trivial
  | some f =>
   show Ans mg E (Rp K mg) F1 H1 ((ma ρ).bind λds=>f (.ins c ns vs::ds)) _;have rx':=rx;cases rx with
   | @ins _ C a dx fs xs _ hm h o q r =>
    obtain ⟨c1,g,fd,ps,hM,hF,hB,hp⟩:=T c f e C hm;refine Ans.imp ((ha F0 H0 F1 H1 σ ρ (rr.gr g1)).bindE (w':=λvs' H2 Q=>spD K mg ps.length f (.ref a::vs') H2 Q E) λds ed F2 H2 vs' g2 rs=>?_) λQ z=>⟨a,C,dx,fs,g,fd,ps,spD K mg ps.length f,rfl,g1.s _ _ h,Zil hc,c1,hM,hF,hB,z⟩;exact Zjq g2.s (.cons (rx'.same g2.f) rs) (by rw [VaT,hl ρ ds ed,hp])
 | _=>trivial
end
section
variable{X:Cx}{E:XK}{k l n:Nat}{m:Str}{e o:Expr}{es:List Expr}{ta:TE}{mo:ME}{t:TA}{ma:MA}{pos apos:Pos}{pl:Sem Bool}{tab:List (Str×(List D->Res D))}
def Zpc(T:Zer X.prog X.w X.K X.mg X.base k 0 m tab)(hr:Room l X.A)(hn:k<=l)(hx:ZbX (CXR X.prog X.w) X E)(ho:DE X E o ta mo)
  (ht:eval (.Call (.Attribute o m apos) [] [] pos) X.env=(do
   let ov <-eval o X.env
   standAt apos.atName
   let (f,first) <-holding [ov] (getMethod ov m pl)
   callWith pos f first (backTo pos (starEach [] X.env)) (backToKw pos (keywordEach [] X.env))):=by rfl) :
  DE X E (.Call (.Attribute o m apos) [] [] pos) (Zlp X.prog X.w X.K X.mg X.base k m E ta tNil) (meth tab m mo yaa):=⟨ZkG ho.p (hr.mono hn) hx ht,Zqk T ho.s Zn5 ZkK⟩
end
def ZeU.nil{K:W.Frag}{mg:Str->Option Value}{f:Str}:ZeU K mg [] f:=λ_ h=>by cases h
def ZeU.cons{K:W.Frag}{mg:Str->Option Value}{c f:Str}{cs:List Str}(h:∀C,mg c=some (.ref C)->Cls K C/\Zdh K C f)(r:ZeU K mg cs f):ZeU K mg (c::cs) f:=λc' hc=>by
 rw [List.contains_cons] at hc;cases z:c'==c with
 | true=>rw [eq_of_beq z];exact h
 | false =>
  rw [z,Bool.false_or] at hc;exact r c' hc
def Zjv{f:Str}{y:V}:∀{fs:List (Str×V)},¬(fs.map (·.1)).contains f=true->putF f y fs=fs++[(f,y)]
 | [],_=>rfl
 | (g,x)::r,h=>by
  rw [VaV,List.contains_cons] at h;have hg:g≠f:=by
   rintro rfl;exact h (by rw [show ((g,x).fst==g)=true from beq_self_eq_true g];rfl)
  show (if g=f then (g,y)::r else (g,x)::putF f y r)=_
  rw [if_neg hg,Zjv λq=>h (by rw [q,Bool.or_true])];rfl
structure ClsM(K:W.Frag)(C:Addr)(m:Str)(f:Addr):Prop where
 sg:W.specialIn K (.ref C) "__getattribute__"=some (some (.builtin "type.__getattribute__"))
 rd:∃mc,W.readsIn K C mc=true/\W.findCls K (.ref C) mc m=some (.val (.ref f))
 hh:W.handedIn (.ref f)=true
 kp:W.keepIn K (.ref f)=true
section
variable{X:Cx}{E:XK}{k:Nat}{y m:Str}{C f:Addr}{fd:FuncData}{ps:List Str}{sp:Sp}{e:Expr}{es:List Expr}{t:TA}{p pos apos:Pos}{pl:Sem Bool}
def Zp3(hg:Gl X y)(hy:X.mg y=some (.ref C))(c:ClsM X.K C m f)(F:FnOk X.prog X.w X.K X.mg X.base (CXR X.prog X.w) k f fd ps sp)(hr:Room k X.A)(hb:Binds X.K fd ps [])(hx:ZbX (CXR X.prog X.w) X E)(ha:PA X (e::es) t)(hd:(y==("__debug__" : Str))=false:=by decide)
  (hst:starEach (e::es) X.env=(false,eval e X.env)::starEach es X.env:=by rfl) (hpl:(backTo pos (starEach es X.env)).any (·.1)=false:=by rfl)
  (ht:eval (.Call (.Attribute (.Name y p) m apos) (e::es) [] pos) X.env=(do
   let ov <-eval (.Name y p) X.env
   standAt apos.atName
   let (f,first) <-holding [ov] (getMethod ov m pl)
   callWith pos f first (backTo pos (starEach (e::es) X.env)) (backToKw pos (keywordEach [] X.env))):=by rfl) :
  PE X (.Call (.Attribute (.Name y p) m apos) (e::es) [] pos) (ZhM sp [] E t):=by
 intro pins s σ H Q I h;refine W.methodCall_KW (pl:=pl) (thn (ZeM (v:=.ref C) hg hy rfl hd pins s σ H (λv H1=>v=.ref C/\H1=H) I ⟨rfl,rfl⟩) λu s1 ⟨x,H1,I1,rx,ex,eh⟩=>?_) ht;subst ex eh;obtain rfl:u=Value.ref C:=rx;obtain ⟨mc,r1,r2⟩:=c.rd;refine W.method_cls I1.kIn c.sg (W.cls_value I1.kIn r1 r2 c.hh ?_);have I2:=I1.tok (s1.toks+1);refine Va5 (first:=[]) (h₀:=X.base) I.ok.mod.kin c.kp (thn (ha pos pins _ σ H1 _ I2 h) λus s2 ⟨vs,H2,I3,r,q2⟩=>⟨I3.kIn,?_⟩) hst hpl
 exact ZlC (us:=us) (vs:=vs) (dvs:=[]) F hr hb .nil hx I3 r q2
end
section
variable{P:Program}{w:World}{K:W.Frag}{mg:Str->Option Value}{base:Heap}{N ps:List Str}{x qual:Str}{f:Addr}{cs:List Str}
def Zkd{F H:Hp}{z:V}{a:Addr}{vs:List V}{ds:List D}(s:Same F H)(fa:F a=none)(r:Rps K mg F vs ds)(hN:1<=N.length):Rep K mg F (del H a) F H (start N (z::vs)) (.no::ev0 (N.length - 1) ds):=by
 have hl:=r.length;have key:∀(i:Nat) (c:Cl),(ev0 (N.length - 1) ds)[i]?=some c->c=.no\/∃d,ds[i]?=some d/\c=.im d:=by
  intro i c e;rw [Zh5] at e;by_cases hi:i<ds.length
  ·rw [Vbb (by simpa using hi),Vbc,VbM hi] at e;exact .inr ⟨ds[i],VbM hi,(Vaw e).symm⟩
  ·rw [Va9 (by simpa using hi),Vba] at e;split at e
   ·exact .inl (Vaw e).symm
   ·cases e
 have key2:∀(i:Nat) (c:Cl),(Cl.no::ev0 (N.length - 1) ds)[i]?=some c->c=.no\/∃d j,i=j+1/\ds[j]?=some d/\c=.im d:=by
  intro i c e;cases i with
  | zero=>exact .inl (Vaw e).symm
  | succ j =>
   rcases key j c (by simpa using e) with q | ⟨d,e1,e2⟩
   ·exact .inl q
   ·exact .inr ⟨d,j,rfl,e1,e2⟩
 refine ⟨⟨Same.refl _,s,λb o h1 h2=>⟨h1,?_⟩,λ_ _ _ e=>e⟩,?_,λi d e=>?_,λi ds' e=>?_,λi j ds' es' a e=>?_⟩
 ·by_cases hb:b=a
  ·subst hb;rw [ZjY] at h2;cases h2
  ·rw [Zgr hb] at h2;exact h2
 ·rw [Zh5];unfold start;simp [hl];omega
 ·rcases key2 i _ e with q | ⟨d',j,rfl,e1,q⟩
  ·cases q
  ·cases q;obtain ⟨v,e2,rv⟩:=r.get e1;refine ⟨v,?_,rv⟩;have hi:j<vs.length:=(Vat.mp e2).1;unfold start;rw [VaV,List.cons_append,List.getElem?_cons_succ,Vbb (by simpa using hi),Vbc,e2];rfl
 ·rcases key2 i _ e with q | ⟨d',j,_,e1,q⟩<;>cases q
 ·rcases key2 i _ e with q | ⟨d',j,_,e1,q⟩<;>cases q
def okM{st:Stmt}{fd:FuncData}{k:Nat}{mb:MS}(F:Fun K x qual st f fd)(S:Zaf N ps (Zac st))
  (h:∀(cdv:Value) (A:Around) (outer:List Env) (s:Shared) (H:Hp) (E:XK),Room k (A.deeper (envOfC qual (Zac st) s.heap.objs.size f cdv))->∃t,DSs (cxOf (CXR P w) P w K mg base N qual (Zac st) f cdv A outer s H E) E (Zbn st) t mb) :
  FnOk P w K mg base (CXR P w) (k+1) f fd ps (spD K mg ps.length (fn N.length mb)):=by
 obtain ⟨oc,od,kV,doc,pm,an,cdv,ct,osl,rfl,lk,hcd⟩:=F.ex;refine ZmE lk hcd S (λvs H Q E q=>q.1) λA outer s H vs Q E hr hsp=>?_;obtain ⟨t,hd⟩:=h cdv A outer s H E hr;refine ⟨t,hd.p,?_⟩;obtain ⟨_,F0,ds,s0,rs,hb,hok,hex⟩:=hsp;have z:=hd.s F0 H F0 H (start N vs) (ev0 N.length ds) (Zft s0 rs);unfold fn at hb hok hex;cases e:mb (ev0 N.length ds) with
 | ok fl =>
  rw [e] at z hb hok hex;cases fl with
  | nx ρ=>exact z _ λF' H' σ' _ r'=>hok .non rfl F' H' .non r'.g .non
  | rt d=>exact z _ λF' H' v g rv=>hok d rfl F' H' v g rv
  | bk ρ=>exact absurd rfl hb
  | ct ρ=>exact absurd rfl hb
 | ex c =>
  rw [e] at z hex;exact z _ λF' H' C g hc=>hex c rfl F' H' C g hc
 | bad=>rw [e] at hb;exact absurd rfl hb
end
end L2.Ds
namespace Dl
open PySem
end Dl
namespace L2
open PySem PySem.Spec PyProof.Rows
end L2
namespace L2.Ds
open PySem PySem.Spec PyProof.Rows Dl
end L2.Ds
namespace Dl
open PySem
end Dl
namespace L2
open PySem PySem.Spec PyProof.Rows
end L2
namespace L2.Ds
open PySem PySem.Spec PyProof.Rows PySem.Calls Dl
end L2.Ds
namespace Dl
open PySem
def fstr(a b:Str)(e:ME):ME:=λρ=>(e ρ).bind λd=>match d with
 | .int i=>if (0<=i/\i<10)/\a.length+b.length<=1000 then .ok (.str (a++Str.ofString (toString i)++b)) else .bad
 | _=>.bad
end Dl
namespace L2
open PySem PySem.Spec PyProof.Rows PySem.Calls
def tFs(a b:Str)(te:TE):TE:=λσ H Q=>te σ H λx H1=>∃i:Int,x=.int i/\(0<=i/\i<10)/\a.length+b.length<=1000/\Q (.str (a++Str.ofString (toString i)++b)) H1
def ZqA{k:Int}(h:0<=k/\k<10):(Str.ofString (toString k)).length=1:=by
 have z:∀n:Fin 10,(Str.ofString (toString ((n.1:Nat):Int))).length=1:=by decide +kernel
 rw [<-Int.toNat_of_nonneg h.1];exact z ⟨k.toNat,by omega⟩
def Zg3(a:Str):Str.empty++a=a:=by
 cases a with
 | mk cps =>
  show Str.mk (#[]++cps)=_;rw [Array.empty_append]
def ZoP{X:Cx}{e:Expr}{te:TE}{a b:Str}{i j}{p1 p2 p3 pos:Pos}(key:a.length+b.length<=1000)(he:PE X e te):PE X (.JoinedStr [.Constant (.str a) i p1,.FormattedValue e (-1) none p2,.Constant (.str b) j p3] pos) (tFs a b te):=by
 intro pins s σ H Q I h;have sl:2000<=sizeLine:=by decide
 refine wpAny_JoinedStr ?_;show wpAny (model X.prog X.w) X.A (eval (.Constant (.str a) i p1) X.env) _ _ s;refine thn (ZjA pins s σ H (λv H1=>v=.str a/\H1=H) I ⟨rfl,rfl⟩) λu s1 ⟨x,H1,I1,rx,ex,eh⟩=>?_;subst ex eh;obtain ⟨t,rfl⟩:=rx;refine ⟨a,t,rfl,by rw [Zg3];omega,?_⟩;show wpAny (model X.prog X.w) X.A (eval (.FormattedValue e (-1) none p2) X.env) _ _ s1;refine wpAny_FormattedValue_plain (thn (he pins s1 σ H1 _ I1 h) λu s2 zq=>?_);obtain ⟨x,H2,I2,rx,k,ex,hk,hl,q⟩:=zq;subst ex;obtain ⟨t2,rfl⟩:=rx;have hlog:k.natAbs.log2<1920:=Vbu (Nat.log2_le_self _) (by omega);have d1:=ZqA hk;refine PyProof.Rows.formatField_int_small hlog ⟨Str.ofString (toString k),_,rfl,by rw [Zg3,strLen_append];omega,?_⟩;show wpAny (model X.prog X.w) X.A (eval (.Constant (.str b) j p3) X.env) _ _ _;refine thn (ZjA pins _ σ H2 (λv H1=>v=.str b/\H1=H2) (I2.tok _) ⟨rfl,rfl⟩) λu s3 ⟨x,H3,I3,rx,ex,eh⟩=>?_;subst ex eh;obtain ⟨t3,rfl⟩:=rx;have hz:(Str.empty++a++Str.ofString (toString k)++b).length<=sizeLine:=by
  rw [Zg3,strLen_append,strLen_append];omega
 refine ⟨b,t3,rfl,hz,hz,?_⟩;rw [Zg3];exact ⟨.str (a++Str.ofString (toString k)++b),H3,I3.tok _,⟨_,rfl⟩,q⟩
end L2
namespace L2.Ds
open PySem PySem.Spec PyProof.Rows PySem.Calls Dl
def ZpT{K:W.Frag}{mg:Str->Option Value}{E:XK}{te:TE}{me:ME}{a b:Str}(he:SE K mg E te me):SE K mg E (tFs a b te) (fstr a b me):=by
 intro F0 H0 F H σ ρ rr;refine (he F0 H0 F H σ ρ rr).bind λF1 H1 x d g1 rx=>?_;cases d with
 | int i =>
  cases rx;show Ans mg E (Rp K mg) F1 H1 (if (0<=i/\i<10)/\a.length+b.length<=1000 then .ok (.str (a++Str.ofString (toString i)++b)) else .bad) _
  by_cases h:(0<=i/\i<10)/\a.length+b.length<=1000
  ·rw [if_pos h];exact .ret g1.s (.str _) λQ q=>⟨i,rfl,h.1,h.2,q⟩
  ·rw [if_neg h];trivial
 | _=>trivial
def ZqZ{X:Cx}{E:XK}{e:Expr}{te:TE}{me:ME}{a b:Str}{i j}{p1 p2 p3 pos:Pos}(he:DE X E e te me)(key:a.length+b.length<=1000:=by decide +kernel):DE X E (.JoinedStr [.Constant (.str a) i p1,.FormattedValue e (-1) none p2,.Constant (.str b) j p3] pos) (tFs a b te) (fstr a b me):=⟨ZoP key he.p,ZpT he.s⟩
end L2.Ds
namespace L2
open PySem PySem.Spec PyProof.Rows
structure Zhs(k:Nat)(A:Around):Prop where
 dp:A.depth+3*k+5<recursionLimit
 un:A.units+16*k+200<cLine
def Zly(A:Around):Around:={ A with handled:=none }
def Room.h{k:Nat}{A:Around}(r:Room k A)(v:Option Value):Zhs k (A.mark v):=⟨r.dp,r.un⟩
abbrev ZoY(CX:CXT)(P:Program)(w:World)(K:W.Frag)(mg:Str->Option Value)(base:Heap)(N:List Str)(qual:Str)(scope:Scope)(f:Addr)(cd:Value)(A:Around)(outer:List Env)(s:Shared)(H:Hp)(E:XK):Cx :=
 { cxOf CX P w K mg base N qual scope f cd A outer s H E with calm:=false }
structure Zmy(P:Program)(w:World)(K:W.Frag)(mg:Str->Option Value)(base:Heap)(CX:CXT)(k:Nat)(f:Addr)(fd:FuncData)(ps:List Str)(sp:Sp):Prop where
 len:∀vs H Q E,sp vs H Q E->vs.length=ps.length
 run:∀(A:Around) (outer:List Env) (s:Shared) (H:Hp) (args:Args) (us:List Value) (vs:List V) (Q:VK) (E:XK),Zhs k A->Env0 P w K mg base A outer s H->BindsTo s fd args (ps.zip us)->Vals vs us->sp vs H Q E ->
  codeAny (model P w) A (.call (.ref f) args) (CR CX outer P w H s Q E) s
section
variable{CX:CXT}{P:Program}{w:World}{K:W.Frag}{mg:Str->Option Value}{base:Heap}{N ps:List Str}{qual:Str}{scope:Scope}{f:Addr}{cd:Value}{A:Around}{outer:List Env}{s s1:Shared}{H:Hp}{E:XK}{us:List Value}{vs:List V}
def Zkf(S:Zaf N ps scope)(e0:Env0 P w K mg base A outer s H)(hl:vs.length=ps.length)(r:Vals vs us)
  (x:InCallC s s.heap.objs.size (bindL (envOfC qual scope s.heap.objs.size f cd).kindOf (ps.zip us) λ_=>none) (cellsFrom (s.heap.objs.size+1) scope.names []) (bindC (envOfC qual scope s.heap.objs.size f cd).kindOf (ps.zip us) λ_=>none) s1) :
  Inv (ZoY CX P w K mg base N qual scope f cd A outer s H E) [] (start N vs) H s1:=by
 have e1:Env0 P w K mg base (Zly A) outer s H:=⟨e0.frames,e0.mod,e0.bs,e0.bsz,e0.funs,e0.frf,e0.hok,e0.bare⟩;have I:=ZhR (CX:=CX) (A:=Zly A) (cd:=cd) (f:=f) (E:=E) S rfl e1 hl r x;have ok:=I.ok;exact ⟨⟨ok.mod,ok.kind,ok.glob,ok.blt,ok.above,ok.inj,ok.has,ok.cab,(λz=>nomatch z),Around.frames_deeper e0.frames,ok.stk,ok.exf,ok.bs,ok.bsz,ok.noex,ok.exfs,ok.funs,ok.frf⟩,I.os,I.bare,I.base,I.loc,I.cell,I.free,I.freeC,I.pin,I.hok,I.len⟩
end
def ZrC{CX:CXT}{P:Program}{w:World}{K:W.Frag}{mg:Str->Option Value}{base:Heap}{k:Nat}{f:Addr}{name qual:Str}{params:Arguments}{body:List Stmt}{scope:Scope}{dV kV doc pm cdv ct oc:Value}{an od:Option Addr}{osl:Array (Option Value)}{N ps:List Str}{sp:Sp}
  (lk:K.lookup f=some ⟨oc,od,.func (W.fnOf name qual params body scope dV kV doc pm an cdv ct),osl⟩) (hcd:W.codeIn K cdv qual=true) (S:Zaf N ps scope) (len:∀vs H Q E,sp vs H Q E->vs.length=ps.length)
  (hbody:∀(A:Around) (outer:List Env) (s:Shared) (H:Hp) (vs:List V) (Q:VK) (E:XK),Zhs k (A.deeper (envOfC qual scope s.heap.objs.size f cdv))->sp vs H Q E ->
   ∃t,PSs (ZoY CX P w K mg base N qual scope f cdv A outer s H E) body t/\t { nx:=λ_ H'=>Q .non H',rt:=Q } (start N vs) H) :
  Zmy P w K mg base CX (k+1) f (W.fnOf name qual params body scope dV kV doc pm an cdv ct) ps sp:=by
 refine ⟨len,λA outer s H args us vs Q E hr e0 hb r hsp=>?_⟩;have hl:=len _ _ _ _ hsp;have KX:K.In s.heap:=e0.mod.kin.keeps λb o e=>(e0.bs b o e).1;have hkind:∀y∈ps.zip us,scope.names.lookup y.1=some .local\/(scope.names.lookup y.1=some .cell/\((cellsFrom (s.heap.objs.size+1) scope.names []).lookup y.1).isSome=true):=by
  rintro ⟨n,v⟩ hy;rcases S.par n (List.of_mem_zip hy).1 with q | q
  ·left;exact q
  ·right;exact ⟨q,W.cellsFrom_some _ _ _ (.inl q)⟩
 refine codeAny_call_function (by have:=hr.dp;omega) (KX _ _ lk) rfl S.co S.gen rfl (W.codeRec_of KX hcd) (hb _ _ _ _ (wpAny_newFunctionEnv_cells S.kind hkind λenv he s1 x=>?_));subst he;have hr2:Zhs k (A.deeper (envOfC qual scope s.heap.objs.size f cdv)):=⟨by have:=hr.dp;show A.depth+1+3*k+5<_;omega,by have:=hr.un;show A.units+3+16*k+200<_;omega⟩;obtain ⟨t,ht,hq⟩:=hbody A outer s H vs Q E hr2 hsp;have I:Inv (ZoY CX P w K mg base N qual scope f cdv A outer s H E) [] (start N vs) H s1:=Zkf S e0 hl r x;refine ⟨(e0.mod.nolimit.keeps λb o e=>(e0.bs b o e).1).keeps x.toInCall.keep,codeAny_func (Vax (ht [] s1 (start N vs) H _ I hq) (λfl s' hs=>?_) λe s' hs=>hs)⟩;cases fl with
 | ret u =>
  obtain ⟨v,σ',H',J,rv,q⟩:=hs;exact ⟨v,H',J.os,J.bare,J.base,J.hok,rv,q⟩
 | next =>
  obtain ⟨σ',H',J,q⟩:=hs;exact ⟨V.non,H',J.os,J.bare,J.base,J.hok,rfl,q⟩
 | brk =>
  obtain ⟨_,_,_,q⟩:=hs;exact q.elim
 | cont =>
  obtain ⟨_,_,_,q⟩:=hs;exact q.elim
end L2
namespace L2.Ds
open PySem PySem.Spec PyProof.Rows PySem.Calls Dl
end L2.Ds
namespace Dl
open PySem
def ZkM(f:Str)(e:ME)(k:MSi):MSi:=λρ fl=>(e ρ).bind λd=>if noL d=false\/(fl.map (·.1)).contains f=true\/100<=fl.length then .bad else k ρ (fl++[(f,d)])
def Znd:D->Bool
 | .lst rows=>ZgD rows
 | _=>false
def ZrD(f:Str)(e:ME)(k:MSi):MSi:=λρ fl=>(e ρ).bind λd=>if Znd d=false\/(fl.map (·.1)).contains f=true\/100<=fl.length then .bad else k ρ (fl++[(f,d)])
def fnR(n:Nat)(m:ME):List D->Res D:=λds=>m (ev0 n ds)
end Dl
namespace HT
open PySem PyProof.Rows
end HT
namespace L2
open PySem PySem.Spec PyProof.Rows
end L2
namespace L2.Ds
open PySem PySem.Spec PyProof.Rows Dl
def Fr(K:W.Frag)(mg:Str->Option Value)(G F:Hp)(x:V)(d:D):Prop:=∀G':Hp,(∀b o,F b=some o->(G b=none\/∀xs,o≠.lst xs)->G' b=some o)->Rp K mg G' x d
section
variable{K:W.Frag}{mg:Str->Option Value}{E:XK}{G Gb F F' F0 H0 H:Hp}{x:V}{d:D}{σ:St}{ρ:Ev}
def Fr.rp(h:Fr K mg G F x d):Rp K mg F x d:=h F λ_ _ e _=>e
def Fr.up(h:Fr K mg G F x d)(s:Same F F'):Fr K mg G F' x d:=λG' k=>h G' λb o e z=>k b o (s b o e) z
def Fr.noL(h:Rp K mg F x d)(p:noL d=true):Fr K mg G F x d:=λG' k=>Zon (λb o e z=>k b o e (.inr z)) h p
def ZhA(K:W.Frag)(mg:Str->Option Value)(Fb F':Hp)(x:V)(d:D):Prop:=∃p xs rows,x=.ref p/\d=.lst rows/\Fb p=none/\F' p=some (.lst xs)/\xs.length=rows.length/\∀(k:Nat) (y:V) (d:D),xs[k]?=some y->rows[k]?=some d->RowR K mg Fb F' y d
def RowR.down{y:V}(h:RowR K mg G F' y d)(s:Same Gb G):RowR K mg Gb F' y d:=by
 obtain ⟨q,ys,cs,e1,e2,h1,h2,h3⟩:=h;exact ⟨q,ys,cs,e1,e2,s.free h1,h2,h3⟩
def ZhA.down(h:ZhA K mg G F' x d)(s:Same Gb G):ZhA K mg Gb F' x d:=by
 obtain ⟨p,xs,rows,e1,e2,h1,h2,h3,h4⟩:=h;exact ⟨p,xs,rows,e1,e2,s.free h1,h2,h3,λk y d a b=>(h4 k y d a b).down s⟩
def ZhA.fr(h:ZhA K mg G F x d)(hr:Znd d=true):Fr K mg G F x d:=by
 obtain ⟨p,xs,rows,rfl,rfl,h1,h2,h3,h4⟩:=h;intro G' k;refine .lst (SqL.of (k p _ h2 (.inl h1))) (ZjN h3 λm y e a b=>?_);obtain ⟨q,ys,cs,rfl,rfl,q1,q2,q3⟩:=h4 m y e a b;obtain ⟨_,ec,hn⟩:=ZgE (show ZgD rows=true from hr) b;cases ec;exact .lst (SqL.of (k q _ q2 (.inl q1))) (Zi2 (λb o e z=>k b o e (.inr z)) q3 hn)
def SEr(K:W.Frag)(mg:Str->Option Value)(E:XK)(t:TE)(m:ME):Prop:=∀Fb F0 H0 F H σ ρ,Rep K mg F0 H0 F H σ ρ->Same Fb F->Ans mg E (ZhA K mg Fb) F H (m ρ) (t σ H)
def SEf(K:W.Frag)(mg:Str->Option Value)(E:XK)(t:TE)(m:ME):Prop:=∀F0 H0 F H σ ρ,Rep K mg F0 H0 F H σ ρ->Ans mg E (Fr K mg F) F H (m ρ) (t σ H)
def SEf.se{t:TE}{m:ME}(h:SEf K mg E t m):SE K mg E t m:=by
 intro F0 H0 F H σ ρ rr;have z:=h F0 H0 F H σ ρ rr;generalize m ρ=r at z;cases r with
 | ok d=>exact λQ q=>z Q λF1 H1 x g rx=>q F1 H1 x g rx.rp
 | ex c=>exact z
 | bad=>trivial
def spR(K:W.Frag)(mg:Str->Option Value)(k:Nat)(f:List D->Res D):Sp:=λvs H Q E=>vs.length=k/\∃F ds,Same F H/\Rps K mg F vs ds/\f ds≠.bad /\
 (∀d,f ds=.ok d->∀F' H' x,Gr F H F' H'->ZhA K mg F F' x d->Q x H')/\(∀c,f ds=.ex c->∀F' H' C,Gr F H F' H'->mg (clsOf c)=some (.ref C)->E (.ref C) (pay c) H')
def AnsR(K:W.Frag)(mg:Str->Option Value)(E:XK)(F0 H0:Hp)(r:Res D)(w:Ends->Prop):Prop :=
 match r with
 | .ok d=>∀D:Ends,(∀F' H' x,Gr F0 H0 F' H'->ZhA K mg F0 F' x d->D.rt x H')->w D
 | .ex c=>∀D:Ends,(∀F' H' C,Gr F0 H0 F' H'->mg (clsOf c)=some (.ref C)->E (.ref C) (pay c) H')->w D
 | .bad=>True
end
structure DEr(X:Cx)(E:XK)(e:Expr)(t:TE)(m:ME):Prop where
 p:PE X e t
 s:SEr X.K X.mg E t m
structure DEf(X:Cx)(E:XK)(e:Expr)(t:TE)(m:ME):Prop where
 p:PE X e t
 s:SEf X.K X.mg E t m
def DEf.de{X:Cx}{E:XK}{e:Expr}{t:TE}{m:ME}(h:DEf X E e t m):DE X E e t m:=⟨h.p,h.s.se⟩
structure CalR(P:Program)(w:World)(K:W.Frag)(mg:Str->Option Value)(base:Heap)(k:Nat)(x:Str)(ps:List Str)(m:List D->Res D):Prop where
 ex:∃(f:Addr) (fd:FuncData),FnOk P w K mg base (CXR P w) k f fd ps (spR K mg ps.length m)/\Binds K fd ps []/\W.keepIn K (.ref f)=true/\mg x=some (.ref f)
structure DSr(X:Cx)(E:XK)(sts:List Stmt)(t:TS)(m:ME):Prop where
 p:PSs X sts t
 s:∀F0 H0 F H σ ρ,Rep X.K X.mg F0 H0 F H σ ρ->AnsR X.K X.mg E F0 H0 (m ρ) (λD=>t D σ H)
section
variable{X:Cx}{E:XK}{k l n i nn:Nat}{x y:Str}{ps:List Str}{f:List D->Res D}{t:TA}{m:MA}{e:Expr}{es:List Expr}{p pos pos' spos:Pos}
def ZpZ(C:CalR X.prog X.w X.K X.mg X.base k x ps f)(hr:Room l X.A)(hn:k<=l)(hg:Gl X x)(hx:ZbX (CXR X.prog X.w) X E)(ha:DA X E n (e::es) t m)(hps:ps.length=n:=by rfl)
  (hdb:(x==("__debug__" : Str))=false:=by decide) (he:starEach (e::es) X.env=(false,eval e X.env)::starEach es X.env:=by rfl) (hpl:(backTo pos (starEach es X.env)).any (·.1)=false:=by rfl) :
  DEr X E (.Call (.Name x p) (e::es) [] pos) (ZhM (spR X.K X.mg ps.length f) [] E t) (on f m):=by
 obtain ⟨g,fd,F,b,kp,hm⟩:=C.ex;refine ⟨Zlv F (hr.mono hn) hg hm kp b .nil hx ha.p hdb he hpl,λFb F0 H0 Ff H σ ρ rr sb=>?_⟩;refine (ha.s F0 H0 Ff H σ ρ rr).bindE (w':=λvs H1 Q=>spR X.K X.mg ps.length f (vs++[]) H1 Q E) λds em F1 H1 vs g1 rs=>?_;simp only [Va1];cases ef:f ds with
 | bad=>trivial
 | ex c=>exact λQ q=>⟨by rw [rs.length,hps];exact ha.n ρ ds em,F1,ds,g1.s,rs,(by rw [ef];intro z;cases z),(λd z=>by rw [ef] at z;cases z),λc' z F' H' C g hC=>by
   rw [ef] at z;cases z
   exact q F' H' C g hC⟩
 | ok d=>exact λQ q=>⟨by rw [rs.length,hps];exact ha.n ρ ds em,F1,ds,g1.s,rs,(by rw [ef];intro z;cases z),(λd' z F' H' x g rx=>by
   rw [ef] at z;cases z
   exact q _ _ _ g (rx.down (sb.trans g1.f))),λc' z=>by rw [ef] at z;cases z⟩
end
section
variable{X:Cx}{E:XK}{tg iter elt:Expr}{ts:List Expr}{me:ME}{na:MB}{pos spos:Pos}
def Zm7{own:List Str}{cap:List (Str×Nat)}{scope:Scope}{cl:List (Str×Addr)}{wi:TI}{mi:MI}{g:Fam TG}{gm:MG}{tt:Fam TT}{tf:Fam TE}(hi:DI X E tg iter wi mi)(O:Zcv X own cap scope cl)(hc:X.calm=true)
  (hg:∀C s H fp pn,DG (ZaU X (own++cap.map (·.1)) scope cl C s H fp pn) own.length tg (g C s H fp pn) gm) (ht:∀C s H fp pn,DTs (ZaU X (own++cap.map (·.1)) scope cl C s H fp pn) E0 ts (tt C s H fp pn) na)
  (he:∀C s H fp pn,DEl (ZaU X (own++cap.map (·.1)) scope cl C s H fp pn) E0 elt (tf C s H fp pn) me) (hts:ts.length<=1:=by decide) (hs:∀x,foldedSetIterable iter X.env x=pure x:=by intro _;rfl) :
  DSr X E [.Return (some (.ListComp elt [⟨tg,iter,ts,0⟩] scope pos)) spos] (tRet (ZeB wi g tt tf own cap)) (comp mi own.length (cap.map (·.2)) gm na me):=by
 refine ⟨Zd8 (ZlO (ZlF hi.p O hc (λC s H fp pn=>(hg C s H fp pn).p) (λC s H fp pn=>(ht C s H fp pn).p) (λC s H fp pn=>(he C s H fp pn).p) hts hs)),λF0 H0 F H σ ρ rr=>?_⟩;have h:=hi.s F0 H0 F H σ ρ rr;unfold comp;cases e:mi ρ with
 | ok ds =>
  rw [e] at h;by_cases hl:ds.length<=LIM
  case neg =>
   show AnsR X.K X.mg E F0 H0 (if ds.length<=LIM then _ else Res.bad) _
   rw [if_neg hl];trivial
  show AnsR X.K X.mg E F0 H0 (if ds.length<=LIM then (noEx (Dl.Zak gm na me (noA own.length (yar ρ (cap.map (·.2)))) ds)).bind _ else Res.bad) _
  rw [if_pos hl];cases e2:Dl.Zak gm na me (noA own.length (yar ρ (cap.map (·.2)))) ds with
  | ok ys =>
   exact λD q=>h _ λF1 H1 J g1 jo=>λC s H2 fp pn=>Znn (rr.gr g1) jo (hg C s H2 fp pn).s (ht C s H2 fp pn).s (he C s H2 fp pn).s hl e2 _ λF' H' xs g2 rs rwR _ _ p hp=>by
    have sn:Same F' (upd F' p (.lst xs)):=ZaE (g2.s.free hp) _;exact q (upd F' p (.lst xs)) _ _ (((rr.g.trans g1).trans g2).trans (.new g2.s hp _)) ⟨p,xs,ys,rfl,rfl,(rr.g.f.trans (g1.f.trans g2.f)).free (g2.s.free hp),Zag,rs.length,λk y d a b=>((rwR k y d a b).up sn).down (rr.g.f.trans g1.f)⟩
  | ex c=>trivial
  | bad=>trivial
 | ex c =>
  rw [e] at h;exact λD q=>h _ λF' H' C g hC=>q F' H' C (rr.g.trans g) hC
 | bad=>trivial
end
section
variable{P:Program}{w:World}{K:W.Frag}{mg:Str->Option Value}{base:Heap}{N ps:List Str}{x:Str}
def _root_.L2.Def.calR{st:Stmt}{k:Nat}{m:ME}(Df:Def K mg x st ps)(S:Zaf N ps (Zac st))
  (h:∀(f:Addr) (cdv:Value) (A:Around) (outer:List Env) (s:Shared) (H:Hp) (E:XK),Room k (A.deeper (envOfC x (Zac st) s.heap.objs.size f cdv))->∃t,DSr (cxOf (CXR P w) P w K mg base N x (Zac st) f cdv A outer s H E) E (Zbn st) t m) :
  CalR P w K mg base (k+1) x ps (fnR N.length m):=by
 obtain ⟨f,fd,F,b,hm⟩:=Df.ex;refine ⟨⟨f,fd,?_,b,F.kp,hm⟩⟩;obtain ⟨oc,od,kV,doc,pm,an,cdv,ct,osl,rfl,lk,hcd⟩:=F.ex;refine ZmE lk hcd S (λvs H Q E q=>q.1) λA outer s H vs Q E hr hsp=>?_;obtain ⟨t,hd⟩:=h f cdv A outer s H E hr;refine ⟨t,hd.p,?_⟩;obtain ⟨_,F0,ds,s0,rs,hb,hok,hex⟩:=hsp;have z:=hd.s F0 H F0 H (start N vs) (ev0 N.length ds) (Zft s0 rs);unfold fnR at hb hok hex;cases e:m (ev0 N.length ds) with
 | ok d =>
  rw [e] at z;exact z _ λF' H' x g rx=>hok d e F' H' x g rx
 | ex c =>
  rw [e] at z;exact z _ λF' H' C g hc=>hex c e F' H' C g hc
 | bad=>exact absurd e hb
end
structure FRt(K:W.Frag)(mg:Str->Option Value)(G F:Hp)(fs:List (Str×V))(fl:Fs):Prop where
 nm:fs.map (·.1)=fl.map (·.1)
 rv:Rps K mg F (fs.map (·.2)) (fl.map (·.2))
 nw:∀(k:Nat) (x:V) (d:D),(fs.map (·.2))[k]?=some x->(fl.map (·.2))[k]?=some d->Fr K mg G F x d
def FRt.same{K:W.Frag}{mg:Str->Option Value}{G F F':Hp}{fs:List (Str×V)}{fl:Fs}(h:FRt K mg G F fs fl)(s:Same F F'):FRt K mg G F' fs fl:=⟨h.nm,h.rv.same s,λk x d h1 h2=>(h.nw k x d h1 h2).up s⟩
def FRt.len{K:W.Frag}{mg:Str->Option Value}{G F:Hp}{fs:List (Str×V)}{fl:Fs}(h:FRt K mg G F fs fl):fs.length=fl.length:=by
 have:=Vaz List.length h.nm;rwa [VaW,VaW] at this
def FRt.put{K:W.Frag}{mg:Str->Option Value}{G F:Hp}{fs:List (Str×V)}{fl:Fs}{f:Str}{y:V}{d:D}(h:FRt K mg G F fs fl)(hn:¬(fl.map (·.1)).contains f=true)(ry:Fr K mg G F y d):FRt K mg G F (putF f y fs) (fl++[(f,d)]):=by
 rw [Zjv (by rw [h.nm];exact hn)];have hl:(fs.map (·.2)).length=(fl.map (·.2)).length:=by rw [VaW,VaW];exact h.len
 refine ⟨by rw [VbW,VbW,h.nm];rfl,?_,λk x e h1 h2=>?_⟩
 ·rw [VbW,VbW];exact Rps.app (.cons ry.rp .nil) h.rv
 ·rw [VbW] at h1 h2;by_cases hk:k<(fs.map (·.2)).length
  ·rw [Vbb hk] at h1;rw [Vbb (by omega)] at h2;exact h.nw k x e h1 h2
  ·rw [Va9 (by omega)] at h1;rw [Va9 (by omega)] at h2;have hk0:k - (fs.map (·.2)).length=0:=by
    have:=(Vat.mp h1).1;simp at this ⊢;omega
   rw [hk0] at h1;rw [show k - (fl.map (·.2)).length=0 by omega] at h2;cases h1;cases h2;exact ry
def spJ(K:W.Frag)(mg:Str->Option Value)(n:Nat)(cs:List Str)(m:List D->Fs->Res Fs):Sp:=λvs H Q E=>vs.length=n+1/\∃(x dx C:Addr) (c:Str) (ys:List V) (fs:List (Str×V)) (G F:Hp) (ds:List D) (fl:Fs),Same G F /\
 vs=.ref x::ys/\cs.contains c=true/\mg c=some (.ref C)/\H x=some (.ins C dx fs)/\F x=none/\Same F H/\Rps K mg F ys ds/\FRt K mg G F fs fl/\m ds fl≠.bad /\
 (∀fl',m ds fl=.ok fl'->∀F' H' fs',Gr F (del H x) F' H'->F' x=none->H' x=some (.ins C dx fs')->FRt K mg G F' fs' fl'->Q .non H') /\
 (∀e,m ds fl=.ex e->∀F' H' fs' Ce,Gr F (del H x) F' H'->F' x=none->H' x=some (.ins C dx fs')->mg (clsOf e)=some (.ref Ce)->E (.ref Ce) (pay e) H')
structure RepJ(K:W.Frag)(mg:Str->Option Value)(G:Hp)(x dx C:Addr)(F0 H0 F H:Hp)(σ:St)(ρ:Ev)(fs:List (Str×V))(fl:Fs):Prop where
 rep:Rep K mg F0 H0 F H σ ρ
 h0:H0 x=none
 self:σ[0]?=some (some (.ref x))
 fx:F x=none
 hx:H x=some (.ins C dx fs)
 fr:FRt K mg G F fs fl
 sg:Same G F
section
variable{K:W.Frag}{mg:Str->Option Value}{x dx C:Addr}{G F0 H0 F H F' H':Hp}{σ:St}{ρ:Ev}{fs fs':List (Str×V)}{fl fl':Fs}
def RepJ.gr(r:RepJ K mg G x dx C F0 H0 F H σ ρ fs fl)(g:Gr F H F' H'):RepJ K mg G x dx C F0 H0 F' H' σ ρ fs fl:=by
 obtain ⟨q1,q2⟩:=g.o x _ r.fx r.hx;exact ⟨r.rep.gr g,r.h0,r.self,q1,q2,r.fr.same g.f,r.sg.trans g.f⟩
def RepJ.go(r:RepJ K mg G x dx C F0 H0 F H σ ρ fs fl)(g:Gr F (del H x) F' H')(fx:F' x=none)(hx:H' x=some (.ins C dx fs'))(fr:FRt K mg G F' fs' fl'):RepJ K mg G x dx C F0 H0 F' H' σ ρ fs' fl':=by
 refine ⟨⟨⟨r.rep.g.f.trans g.f,g.s,λa o h1 h2=>?_,λa o u e=>r.rep.g.z a o u (g.z a o u e)⟩,r.rep.len,λi d e=>?_,λi ds e=>?_,r.rep.ne⟩,r.h0,r.self,fx,hx,fr,r.sg.trans g.f⟩
 ·obtain ⟨q1,q2⟩:=r.rep.g.o a o h1 h2;exact g.o a o q1 (by rw [Zgr (Zah h2 r.h0)];exact q2)
 ·obtain ⟨y,h1,h2⟩:=r.rep.im i d e;exact ⟨y,h1,h2.same g.f⟩
 ·obtain ⟨a,xs,h1,h2,h3,h4,h5⟩:=r.rep.ow i ds e;have ne:a≠x:=by
   rintro rfl;rw [r.hx] at h4;cases h4
  obtain ⟨q1,q2⟩:=g.o a _ h3 (by rw [Zgr ne];exact h4);exact ⟨a,xs,h1,h2,q1,q2,h5.same g.f⟩
def RepJ.set{f:Str}{y:V}{d:D}(r:RepJ K mg G x dx C F0 H0 F H σ ρ fs fl)(hn:¬(fl.map (·.1)).contains f=true)(ry:Fr K mg G F y d):RepJ K mg G x dx C F0 H0 F (upd H x (.ins C dx (putF f y fs))) σ ρ (putF f y fs) (fl++[(f,d)]):=by
 refine r.go ⟨Same.refl _,λa o e=>?_,λa o h1 h2=>⟨h1,?_⟩,λ_ _ _ e=>e⟩ r.fx Zag (r.fr.put hn ry)
 ·rw [Zae (Zah e r.fx)];exact r.rep.g.s a o e
 ·have ne:a≠x:=by
   rintro rfl;rw [ZjY] at h2;cases h2
  rw [Zgr ne] at h2;rw [Zae ne];exact h2
end
def AnsJ(K:W.Frag)(mg:Str->Option Value)(E:XK)(G:Hp)(x dx C:Addr)(F0 H0:Hp)(r:Res Fs)(w:Ends->Prop):Prop :=
 match r with
 | .ok fl=>∀D:Ends,(∀F' H' σ' fs,Gr F0 H0 F' H'->F' x=none->H' x=some (.ins C dx fs)->FRt K mg G F' fs fl->D.nx σ' H')->w D
 | .ex c=>∀D:Ends,(∀F' H' fs Ce,Gr F0 H0 F' H'->F' x=none->H' x=some (.ins C dx fs)->mg (clsOf c)=some (.ref Ce)->E (.ref Ce) (pay c) H')->w D
 | .bad=>True
def SSj(K:W.Frag)(mg:Str->Option Value)(E:XK)(cs:List Str)(t:TS)(m:MSi):Prop:=∀G x dx C c F0 H0 F H σ ρ fs fl,cs.contains c=true->mg c=some (.ref C)->RepJ K mg G x dx C F0 H0 F H σ ρ fs fl->AnsJ K mg E G x dx C F0 H0 (m ρ fl) (λD=>t D σ H)
structure DSj(X:Cx)(E:XK)(cs:List Str)(sts:List Stmt)(t:TS)(m:MSi):Prop where
 p:PSs X sts t
 s:SSj X.K X.mg E cs t m
section
variable{K:W.Frag}{mg:Str->Option Value}{E:XK}{G:Hp}{x dx C:Addr}{F0 H0 F H:Hp}{α β:Type}{R:Hp->β->α->Prop}{σ:St}{ρ:Ev}{fs:List (Str×V)}{fl:Fs}
def Zev{r:Res α}{w:(β->Hp->Prop)->Prop}{k:α->Res Fs}{w':β->Hp->Ends->Prop}(rr:RepJ K mg G x dx C F0 H0 F H σ ρ fs fl)(h1:Ans mg E R F H r w)(h2:∀a,r=.ok a->∀F1 H1 b,Gr F H F1 H1->R F1 b a->AnsJ K mg E G x dx C F0 H0 (k a) (w' b H1)) :
  AnsJ K mg E G x dx C F0 H0 (r.bind k) (λD=>w λb H1=>w' b H1 D):=by
 cases r with
 | ok a =>
  show AnsJ K mg E G x dx C F0 H0 (k a) _;have h2':=h2 a rfl;generalize k a=r2 at h2';cases r2 with
  | ok d=>exact λD q=>h1 _ λF1 H1 b g rb=>h2' F1 H1 b g rb D q
  | ex c=>exact λD q=>h1 _ λF1 H1 b g rb=>h2' F1 H1 b g rb D q
  | bad=>trivial
 | ex c=>exact λD q=>h1 _ λF1 H1 Ce g hc=>let r2:=rr.gr g;q F1 H1 fs Ce r2.rep.g r2.fx r2.hx hc
 | bad=>trivial
end
section
variable{X:Cx}{E:XK}{cs cs':List Str}{rest:List Stmt}{u:TS}{k:MSi}{e o:Expr}{es:List Expr}{te:TE}{me:ME}{t:TA}{ma:MA}{spos pos apos p p':Pos}{f x y m:Str}{n j l:Nat}
def Ziu:DSj X E cs [] Zml iEnd:=⟨ZkL,λG x dx C c F0 H0 F H σ ρ fs fl _ _ r=>λD q=>q F H σ fs r.rep.g r.fx r.hx r.fr⟩
def Ze0(he:DE X E e te me)(h:DSj X E cs rest u k)(hs:swapsWith e none spos.line X.env=pure false:=by rfl):DSj X E cs (.Expr e spos::rest) (tSeq (Zga te) u) (iDrp me k):=by
 refine ⟨ZcW (ZeI he.p hs) h.p,?_⟩;intro G x dx C c F0 H0 F H σ ρ fs fl hc hm r;exact Zev (w':=λ_ H1 D=>u D σ H1) r (he.s F0 H0 F H σ ρ r.rep) λa _ F1 H1 b g _=>h.s G x dx C c F0 H0 F1 H1 σ ρ fs fl hc hm (r.gr g)
def Zhy(T:ZeU X.K X.mg cs f)(he:DE X E e te me)(h:DSj X E cs rest u k)(hN:X.N[0]?=some x:=by rfl)(hv:Vis X.env.scope x:=by first | exact Or.inl rfl | exact Or.inr (Or.inl rfl) | exact Or.inr (Or.inr rfl))(hd:(x==("__debug__" : Str))=false:=by decide)
  (hcd:(x==("__classdict__" : Str))=false:=by decide) (hs:swapsWith e (some (.Attribute (.Name x p) f p')) spos.line X.env=pure false:=by rfl) :
  DSj X E cs (.Assign [.Attribute (.Name x p) f p'] e spos::rest) (tSeq (sFld X.K (tVar 0) te f) u) (ZkM f me k):=by
 refine ⟨ZcW (Zos (Zb0 hN hv hd hcd) he.p hs) h.p,?_⟩;intro G x dx C c F0 H0 F H σ ρ fs fl hc hm r;refine Zev (w':=λy H1 D=>(tVar 0) σ H1 λz H2=>∃a C dx fs,z=.ref a/\H2 a=some (.ins C dx fs)/\Cls X.K C/\Zdh X.K C f/\fs.length<1000/\u D σ (upd H2 a (.ins C dx (putF f y fs)))) r (he.s F0 H0 F H σ ρ r.rep) λd _ F1 H1 y g ry=>?_;have r1:=r.gr g;by_cases hb:noL d=false\/(fl.map (·.1)).contains f=true\/100<=fl.length
 ·rw [if_pos hb];trivial
 rw [if_neg hb];obtain ⟨c1,c2⟩:=T c hc C hm;have r2:=r1.set (f:=f) (λz=>hb (.inr (.inl z))) (Fr.noL ry (by cases z:noL d with | true=>rfl | false=>exact absurd (.inl z) hb))
 have z:=h.s G x dx C c F0 H0 F1 _ σ ρ _ _ hc hm r2;have hl:fs.length<1000:=by have:=r.fr.len;have:¬100<=fl.length:=λz=>hb (.inr (.inr z));omega
 generalize k ρ (fl++[(f,d)])=q0 at z;cases q0 with
 | ok fl'=>exact λD q=>⟨_,r1.self,x,C,dx,fs,rfl,r1.hx,c1,c2,hl,z D q⟩
 | ex c=>exact λD q=>⟨_,r1.self,x,C,dx,fs,rfl,r1.hx,c1,c2,hl,z D q⟩
 | bad=>trivial
def ZoO(T:ZeU X.K X.mg cs f)(he:DEr X E e te me)(h:DSj X E cs rest u k)(hN:X.N[0]?=some x:=by rfl)(hv:Vis X.env.scope x:=by first | exact Or.inl rfl | exact Or.inr (Or.inl rfl) | exact Or.inr (Or.inr rfl))(hd:(x==("__debug__" : Str))=false:=by decide)
  (hcd:(x==("__classdict__" : Str))=false:=by decide) (hs:swapsWith e (some (.Attribute (.Name x p) f p')) spos.line X.env=pure false:=by rfl) :
  DSj X E cs (.Assign [.Attribute (.Name x p) f p'] e spos::rest) (tSeq (sFld X.K (tVar 0) te f) u) (ZrD f me k):=by
 refine ⟨ZcW (Zos (Zb0 hN hv hd hcd) he.p hs) h.p,?_⟩;intro G x dx C c F0 H0 F H σ ρ fs fl hc hm r;refine Zev (w':=λy H1 D=>(tVar 0) σ H1 λz H2=>∃a C dx fs,z=.ref a/\H2 a=some (.ins C dx fs)/\Cls X.K C/\Zdh X.K C f/\fs.length<1000/\u D σ (upd H2 a (.ins C dx (putF f y fs)))) r (he.s G F0 H0 F H σ ρ r.rep r.sg) λd _ F1 H1 y g ry=>?_;have r1:=r.gr g;by_cases hb:Znd d=false\/(fl.map (·.1)).contains f=true\/100<=fl.length
 ·rw [if_pos hb];trivial
 rw [if_neg hb];obtain ⟨c1,c2⟩:=T c hc C hm;have r2:=r1.set (f:=f) (λz=>hb (.inr (.inl z))) (ZhA.fr ry (by cases z:Znd d with | true=>rfl | false=>exact absurd (.inl z) hb))
 have z:=h.s G x dx C c F0 H0 F1 _ σ ρ _ _ hc hm r2;have hl:fs.length<1000:=by have:=r.fr.len;have:¬100<=fl.length:=λz=>hb (.inr (.inr z));omega
 generalize k ρ (fl++[(f,d)])=q0 at z;cases q0 with
 | ok fl'=>exact λD q=>⟨_,r1.self,x,C,dx,fs,rfl,r1.hx,c1,c2,hl,z D q⟩
 | ex c=>exact λD q=>⟨_,r1.self,x,C,dx,fs,rfl,r1.hx,c1,c2,hl,z D q⟩
 | bad=>trivial
end
structure Zkm(P:Program)(w:World)(K:W.Frag)(mg:Str->Option Value)(base:Heap)(k:Nat)(y m:Str)(n:Nat)(cs:List Str)(g:List D->Fs->Res Fs):Prop where
 ex:∃(C f:Addr) (fd:FuncData) (ps:List Str),mg y=some (.ref C)/\ClsM K C m f/\FnOk P w K mg base (CXR P w) k f fd ps (spJ K mg n cs g)/\Binds K fd ps []
section
variable{X:Cx}{E:XK}{cs cs':List Str}{rest:List Stmt}{u:TS}{k:MSi}{e:Expr}{es:List Expr}{t:TA}{ma:MA}{spos pos apos p p':Pos}{x y m:Str}{n j l:Nat}{g:List D->Fs->Res Fs}{pl:Sem Bool}
def Zja(S:Zkm X.prog X.w X.K X.mg X.base j y m n cs' g)(hr:Room l X.A)(hn:j<=l)(hg:Gl X y)(hx:ZbX (CXR X.prog X.w) X E)(hcs:∀c,cs.contains c=true->cs'.contains c=true)(ha:DA X E n es t ma)(h:DSj X E cs rest u k)
  (hN:X.N[0]?=some x:=by rfl) (hv:Vis X.env.scope x:=by first | exact Or.inl rfl | exact Or.inr (Or.inl rfl) | exact Or.inr (Or.inr rfl)) (hd:(x==("__debug__" : Str))=false:=by decide) (hcd:(x==("__classdict__" : Str))=false:=by decide) (hdy:(y==("__debug__" : Str))=false:=by decide)
  (hst:starEach (.Name x p'::es) X.env=(false,eval (.Name x p') X.env)::starEach es X.env:=by rfl) (hpl:(backTo pos (starEach es X.env)).any (·.1)=false:=by rfl)
  (ht:eval (.Call (.Attribute (.Name y p) m apos) (.Name x p'::es) [] pos) X.env=(do
   let ov <-eval (.Name y p) X.env
   standAt apos.atName
   let (f,first) <-holding [ov] (getMethod ov m pl)
   callWith pos f first (backTo pos (starEach (.Name x p'::es) X.env)) (backToKw pos (keywordEach [] X.env))):=by rfl)
  (hs:swapsWith (.Call (.Attribute (.Name y p) m apos) (.Name x p'::es) [] pos) none spos.line X.env=pure false:=by rfl) :
  DSj X E cs (.Expr (.Call (.Attribute (.Name y p) m apos) (.Name x p'::es) [] pos) spos::rest) (tSeq (Zga (ZhM (spJ X.K X.mg n cs' g) [] E (ZdD (tVar 0) t))) u) (iSup g ma k):=by
 obtain ⟨C0,f,fd,ps,hy,cm,F,hb⟩:=S.ex;refine ⟨ZcW (ZeI (Zp3 hg hy cm F (hr.mono hn) hb hx (ZbG (Zb0 hN hv hd hcd) ha.p hst) hdy hst hpl ht) hs) h.p,?_⟩;intro G x dx C c F0 H0 F H σ ρ fs fl hc hm r;have A:=ha.s F0 H0 F H σ ρ r.rep;have L:=ha.n ρ;show AnsJ X.K X.mg E G x dx C F0 H0 ((ma ρ).bind λds=>(g ds fl).bind λfl'=>k ρ fl') (λD=>∃v,σ[0]?=some (some v)/\t σ H λvs H1=>spJ X.K X.mg n cs' g (v::vs++[]) H1 (λ_ H2=>u D σ H2) E);have key:AnsJ X.K X.mg E G x dx C F0 H0 ((ma ρ).bind λds=>(g ds fl).bind λfl'=>k ρ fl') (λD=>t σ H λvs H1=>spJ X.K X.mg n cs' g (.ref x::vs) H1 (λ_ H2=>u D σ H2) E):=by
  refine Zev (w':=λvs H1 D=>spJ X.K X.mg n cs' g (.ref x::vs) H1 (λ_ H2=>u D σ H2) E) r A λds eds F1 H1 vs g1 rs=>?_;have r1:=r.gr g1;have hl:vs.length=n:=rs.length.trans (L ds eds);cases eg:g ds fl with
  | bad=>trivial
  | ex ec =>
   show AnsJ X.K X.mg E G x dx C F0 H0 (.ex ec) _;intro D q;refine ⟨by rw [VaT,hl],x,dx,C,c,vs,fs,G,F1,ds,fl,r1.sg,rfl,hcs c hc,hm,r1.hx,r1.fx,r1.rep.g.s,rs,r1.fr,(by rw [eg];intro z;cases z),(λfl' e=>by rw [eg] at e;cases e),λe' he F' H' fs' Ce g2 fx hx hce=>?_⟩;rw [eg] at he;cases he;have r2:=r1.go (fl':=fl) (fs':=fs) (F':=F') (H':=H') g2 fx;refine q F' H' fs' Ce ?_ fx hx hce;refine ⟨r1.rep.g.f.trans g2.f,g2.s,λa o h1 h2=>?_,λa o u e=>r1.rep.g.z a o u (g2.z a o u e)⟩;obtain ⟨q1,q2⟩:=r1.rep.g.o a o h1 h2;exact g2.o a o q1 (by rw [Zgr (Zah h2 r.h0)];exact q2)
  | ok fl' =>
   show AnsJ X.K X.mg E G x dx C F0 H0 (k ρ fl') _;have nx:∀F' H' fs',Gr F1 (del H1 x) F' H'->F' x=none->H' x=some (.ins C dx fs')->FRt X.K X.mg G F' fs' fl'->AnsJ X.K X.mg E G x dx C F0 H0 (k ρ fl') (λD=>u D σ H'):=λF' H' fs' g2 fx hx fr=>h.s G x dx C c F0 H0 F' H' σ ρ fs' fl' hc hm (r1.go g2 fx hx fr);generalize k ρ fl'=q0 at nx;cases q0 with
   | bad=>trivial
   | ok fl2 =>
    intro D q;refine ⟨by rw [VaT,hl],x,dx,C,c,vs,fs,G,F1,ds,fl,r1.sg,rfl,hcs c hc,hm,r1.hx,r1.fx,r1.rep.g.s,rs,r1.fr,(by rw [eg];intro z;cases z),(λfl'' e F' H' fs' g2 fx hx fr=>?_),λe' he=>by rw [eg] at he;cases he⟩;rw [eg] at e;cases e;exact nx F' H' fs' g2 fx hx fr D q
   | ex c2 =>
    intro D q;refine ⟨by rw [VaT,hl],x,dx,C,c,vs,fs,G,F1,ds,fl,r1.sg,rfl,hcs c hc,hm,r1.hx,r1.fx,r1.rep.g.s,rs,r1.fr,(by rw [eg];intro z;cases z),(λfl'' e F' H' fs' g2 fx hx fr=>?_),λe' he=>by rw [eg] at he;cases he⟩;rw [eg] at e;cases e;exact nx F' H' fs' g2 fx hx fr D q
 generalize ((ma ρ).bind λds=>(g ds fl).bind λfl'=>k ρ fl')=q0 at key;cases q0 with
 | bad=>trivial
 | ok fl'=>exact λD q=>⟨.ref x,r.self,by simpa using key D q⟩
 | ex c'=>exact λD q=>⟨.ref x,r.self,by simpa using key D q⟩
end
section
variable{P:Program}{w:World}{K:W.Frag}{mg:Str->Option Value}{base:Heap}{N ps:List Str}{x qual:Str}{f:Addr}{cs:List Str}
def okJ{st:Stmt}{fd:FuncData}{k n:Nat}{mb:MSi}(F:Fun K x qual st f fd)(S:Zaf N ps (Zac st))(hN:1<=N.length)(hp:ps.length=n+1)
  (h:∀(cdv:Value) (A:Around) (outer:List Env) (s:Shared) (H:Hp) (E:XK),Room k (A.deeper (envOfC qual (Zac st) s.heap.objs.size f cdv))->∃t,DSj (cxOf (CXR P w) P w K mg base N qual (Zac st) f cdv A outer s H E) E cs (Zbn st) t mb) :
  FnOk P w K mg base (CXR P w) (k+1) f fd ps (spJ K mg n cs (fnI N.length mb)):=by
 obtain ⟨oc,od,kV,doc,pm,an,cdv,ct,osl,rfl,lk,hcd⟩:=F.ex;refine ZmE lk hcd S (λvs H Q E q=>q.1.trans hp.symm) λA outer s H vs Q E hr hsp=>?_;obtain ⟨t,hd⟩:=h cdv A outer s H E hr;refine ⟨t,hd.p,?_⟩;obtain ⟨_,x,dx,C,c,ys,fs,G,F0,ds,fl,sg,rfl,hc,hm,hx,fx,s0,rs,fr,hb,hok,hex⟩:=hsp;have z:=hd.s G x dx C c F0 (del H x) F0 H (start N (.ref x::ys)) (.no::ev0 (N.length - 1) ds) fs fl hc hm ⟨Zkd s0 fx rs hN,ZjY,rfl,fx,hx,fr,sg⟩;unfold fnI at hb hok hex;cases e:mb (.no::ev0 (N.length - 1) ds) fl with
 | ok fl' =>
  rw [e] at z;exact z _ λF' H' σ' fs' g fx' hx' fr'=>hok fl' e F' H' fs' g fx' hx' fr'
 | ex c' =>
  rw [e] at z;exact z _ λF' H' fs' Ce g fx' hx' hce=>hex c' e F' H' fs' Ce g fx' hx' hce
 | bad=>exact absurd e hb
end
structure CalJ(P:Program)(w:World)(K:W.Frag)(mg:Str->Option Value)(base:Heap)(k:Nat)(c:Str)(n:Nat)(cs:List Str)(g:List D->Fs->Res Fs):Prop where
 ex:∃(C f:Addr) (fd:FuncData) (ps:List Str),mg c=some (.ref C)/\Mk K C f/\FnOk P w K mg base (CXR P w) k f fd ps (spJ K mg n cs g)/\Binds K fd ps []/\cs.contains c=true
def Zoj(K:W.Frag)(mg:Str->Option Value)(c:Str)(n:Nat)(cs:List Str)(g:List D->Fs->Res Fs)(E:XK)(t:TA):TE:=λσ H Q=>∃C,mg c=some (.ref C)/\Zpa C (spJ K mg n cs g) [] E t σ H Q
section
variable{K:W.Frag}{mg:Str->Option Value}{E:XK}{c:Str}{n:Nat}{cs:List Str}{g:List D->Fs->Res Fs}{t:TA}{ma:MA}
def ZpD{C:Addr}(hm:mg c=some (.ref C))(hc:cs.contains c=true)(ha:SA K mg E t ma)(hl:SAn n ma):SEf K mg E (Zoj K mg c n cs g E t) (make c g ma):=by
 intro F0 H0 F H σ ρ rr;refine Ans.imp (w:=λQ=>Zpa C (spJ K mg n cs g) [] E t σ H Q) ?_ λQ q=>⟨C,hm,q⟩;show Ans mg E (Fr K mg F) F H ((ma ρ).bind λds=>(g ds []).bind λfl=>.ok (.ins c (fl.map (·.1)) (fl.map (·.2)))) _;refine (ha F0 H0 F H σ ρ rr).bindE (w':=λvs H1 (Q:V->Hp->Prop)=>∀x dx,H1 x=none->H1 dx=none->dx≠x->spJ K mg n cs g (.ref x::(vs++[])) (upd (upd H1 dx (.own x)) x (.ins C dx [])) (λv H2=>v=.non/\Q (V.ref x) H2) E) λds eds F1 H1 vs g1 rs=>?_;have hl':vs.length=n:=rs.length.trans (hl ρ ds eds);have base:∀x dx,H1 x=none->H1 dx=none->dx≠x->F1 x=none/\F1 dx=none/\Same F1 (upd (upd H1 dx (.own x)) x (.ins C dx []))/\del (upd (upd H1 dx (.own x)) x (.ins C dx [])) x=upd H1 dx (.own x):=by
  intro x dx hx hdx hne;refine ⟨g1.s.free hx,g1.s.free hdx,λa o e=>?_,?_⟩
  ·have z:=g1.s a o e;rw [Zae (Zah z hx),Zae (Zah z hdx)];exact z
  ·funext a;by_cases h:a=x
   ·subst h;rw [ZjY,Zae (Ne.symm hne)];exact hx.symm
   ·rw [Zgr h,Zae h]
 cases eg:g ds [] with
 | bad=>trivial
 | ex ec =>
  show Ans mg E (Fr K mg F) F1 H1 (.ex ec) _;intro Q q x dx hx hdx hne;obtain ⟨f1,f2,s1,e1⟩:=base x dx hx hdx hne;refine ⟨by simp [hl'],x,dx,C,c,vs,[],F,F1,ds,[],g1.f,by simp,hc,hm,Zag,f1,s1,rs,⟨rfl,.nil,λk x d h1=>by simp at h1⟩,(by rw [eg];intro z;cases z),(λfl' e=>by rw [eg] at e;cases e),λe' he F' H' fs' Ce g2 fx hx' hce=>?_⟩;rw [eg] at he;cases he;rw [e1] at g2;refine q F' H' Ce ⟨g2.f,g2.s,λa o h1 h2=>?_,g2.z⟩ hce;exact g2.o a o h1 (by rw [Zae (Zah h2 hdx)];exact h2)
 | ok fl =>
  show Ans mg E (Fr K mg F) F1 H1 (.ok (.ins c (fl.map (·.1)) (fl.map (·.2)))) _;intro Q q x dx hx hdx hne;obtain ⟨f1,f2,s1,e1⟩:=base x dx hx hdx hne;refine ⟨by simp [hl'],x,dx,C,c,vs,[],F,F1,ds,[],g1.f,by simp,hc,hm,Zag,f1,s1,rs,⟨rfl,.nil,λk x d h1=>by simp at h1⟩,(by rw [eg];intro z;cases z),(λfl' e F' H' fs' g2 fx hx' fr=>?_),λe' he=>by rw [eg] at he;cases he⟩;rw [eg] at e;cases e;rw [e1] at g2;obtain ⟨d1,d2⟩:=g2.o dx _ f2 Zag;refine ⟨rfl,q (upd (upd F' dx (.own x)) x (.ins C dx fs')) H' (.ref x) ⟨?_,?_,λa o h1 h2=>?_,λa o u e=>g2.z a o u (ZiR (λ_ _ z=>by cases z) (ZiR (λ_ _ z=>by cases z) e))⟩ ?_⟩
  ·refine (g2.f.trans (ZaE d1 _)).trans (ZaE ?_ _);rw [Zae (Ne.symm hne)];exact fx
  ·intro a o e;by_cases ha:a=x
   ·subst ha;rw [Zag] at e;cases e;exact hx'
   ·rw [Zae ha] at e;by_cases hb:a=dx
    ·subst hb;rw [Zag] at e;cases e;exact d2
    ·rw [Zae hb] at e;exact g2.s a o e
  ·have n1:a≠x:=Zah h2 hx;have n2:a≠dx:=Zah h2 hdx;obtain ⟨q1,q2⟩:=g2.o a o h1 (by rw [Zae n2];exact h2);rw [Zae n1,Zae n2];exact ⟨q1,q2⟩
  ·have sF:Same F' (upd (upd F' dx (.own x)) x (.ins C dx fs')):=(ZaE d1 _).trans (ZaE (by rw [Zae (Ne.symm hne)];exact fx) _);intro G' kp;have z:Rp K mg G' (.ref x) (.ins c (fs'.map (·.1)) (fl.map (·.2))):=.ins hm (kp x _ Zag (.inr λ_ z=>by cases z)) (kp dx _ (by rw [Zae hne,Zag]) (.inr λ_ z=>by cases z)) rfl (ZjN (by rw [VaW,VaW];exact fr.len) λk y d h1 h2=>(fr.nw k y d h1 h2).up sF G' kp);rw [fr.nm] at z;exact z
end
section
variable{X:Cx}{E:XK}{k l n:Nat}{c:Str}{cs:List Str}{g:List D->Fs->Res Fs}{e:Expr}{es:List Expr}{t:TA}{ma:MA}{p pos:Pos}
def Zhg(M:CalJ X.prog X.w X.K X.mg X.base k c n cs g)(hr:Room l X.A)(hn:k+1<=l)(hg:Gl X c)(hx:ZbX (CXR X.prog X.w) X E)(ha:DA X E n (e::es) t ma)
  (hdb:(c==("__debug__" : Str))=false:=by decide) (he:starEach (e::es) X.env=(false,eval e X.env)::starEach es X.env:=by rfl) (hpl:(backTo pos (starEach es X.env)).any (·.1)=false:=by rfl) :
  DEf X E (.Call (.Name c p) (e::es) [] pos) (Zoj X.K X.mg c n cs g E t) (make c g ma):=by
 obtain ⟨C,f,fd,ps,hm,mk,F,hb,hc⟩:=M.ex;refine ⟨?_,ZpD hm hc ha.s ha.n⟩;intro pins s σ H Q I ⟨C',hC,h⟩;rw [hm] at hC;cases hC;exact Zpd mk F (hr.mono hn) hg hm hb .nil hx ha.p hdb he hpl pins s σ H Q I h
end
end L2.Ds
namespace Dl
open PySem
end Dl
namespace L2.Ds
open PySem PySem.Spec PyProof.Rows Dl
section
variable{K:W.Frag}{mg:Str->Option Value}{E:XK}{G Gb F F' F0 H0 H:Hp}{x:V}{d:D}{σ:St}{ρ:Ev}
def Zp0{α:Type}{r:Res α}{a:α}(h:noEx r=.ok a):r=.ok a:=by
 cases r with
 | ok b=>exact h
 | ex c=>cases h
 | bad=>cases h
def ZqN{α β:Type}{r:Res α}{f:α->Res β}{b:β}(h:r.bind f=.ok b):∃a,r=.ok a/\f a=.ok b:=by
 cases r with
 | ok a=>exact ⟨a,rfl,h⟩
 | ex c=>cases h
 | bad=>cases h
end
end L2.Ds
namespace Dl
open PySem
end Dl
namespace L2.Ds
open PySem PySem.Spec PyProof.Rows Dl
end L2.Ds
namespace L2
open PySem PySem.Spec PyProof.Rows PySem.W
def objX(a:Addr)(o:Obj):HO:=.ext λh=>h.get? a=some o
def Zqo{P:Program}{w:World}{H:Hp}{h:Heap}{a:Addr}{o:Obj}(e:h.get? a=some o):Zbt P w H h a (objX a o):=⟨e,⟨o,e⟩,λ_ _ x k=>k o x⟩
def ZmC{P:Program}{w:World}{H:Hp}{h:Heap}{a:Addr}{o:Obj}(x:HOk P w H h)(e:H a=some (objX a o)):h.get? a=some o:=(show _/\_ from x a _ e).1
end L2
namespace L2.Ds
open PySem PySem.Spec PyProof.Rows PySem.W Dl
end L2.Ds
namespace L2
open PySem PySem.Spec PyProof.Rows PySem.W
end L2
namespace L2.Ds
open PySem PySem.Spec PyProof.Rows PySem.W Dl
end L2.Ds
namespace L2.Ds
open PySem PySem.Spec PyProof.Rows Dl
section
variable{K:W.Frag}{mg:Str->Option Value}{E:XK}{ta tb:TE}{ma mb:ME}{i:Nat}
def ZpS(ha:SE K mg E ta ma)(hb:SE K mg E tb mb):SS K mg E (tAsg (tOp (ZlS K) ta tb) (ZdH i)) (stO i (o2 yac ma mb)):=by
 intro F0 H0 F H σ ρ rr;have h:=ha F0 H0 F H σ ρ rr;unfold stO o2;cases e:ma ρ with
 | bad=>trivial
 | ex c =>
  rw [e] at h;exact λD q=>h _ λF' H' C g hC=>q F' H' C (rr.g.trans g) hC
 | ok dx =>
  rw [e] at h;cases e2:mb ρ with
  | bad=>trivial
  | ex c =>
   refine λD q=>h _ λF1 H1 x g1 rx=>?_;have h2:=hb F0 H0 F1 H1 σ ρ (rr.gr g1);rw [e2] at h2;exact h2 _ λF' H' C g hC=>q F' H' C ((rr.g.trans g1).trans g) hC
  | ok dy =>
   show AnsS K mg E F0 H0 F ((yac dx dy).bind λd=>(lstO d).bind λxs=>.ok (.nx (ρ.set i (.ow xs)))) _;cases dx with
   | lst as =>
    cases dy with
    | lst bs =>
     show AnsS K mg E F0 H0 F ((if as.length+bs.length<=LIM then Res.ok (D.lst (as++bs)) else .bad).bind λd=>(lstO d).bind λxs=>.ok (.nx (ρ.set i (.ow xs)))) _
     by_cases hl:as.length+bs.length<=LIM
     ·rw [if_pos hl];refine λD q=>h _ λF1 H1 x g1 rx=>?_;have h2:=hb F0 H0 F1 H1 σ ρ (rr.gr g1);rw [e2] at h2;refine h2 _ λF2 H2 y g2 ry=>?_;have rx2:=rx.same g2.f;cases rx2 with
      | lst hA ra =>
       cases ry with
       | lst hB rb =>
        refine .inr (.inl ⟨_,_,_,_,rfl,rfl,g2.s.seq hA,g2.s.seq hB,?_,λp hp=>?_⟩)
        ·rw [ra.length,rb.length];exact Zdl hl
        ·exact q F2 _ _ (g1.f.trans g2.f) (((rr.gr g1).gr g2).own i hp (Rps.app rb ra))
     ·rw [if_neg hl];trivial
    | _=>trivial
   | int a=>cases dy<;>trivial
   | tup a =>
    cases dy with
    | tup b =>
     show AnsS K mg E F0 H0 F ((if a.length+b.length<=LIM then Res.ok (D.tup (a++b)) else .bad).bind λd=>(lstO d).bind λxs=>.ok (.nx (ρ.set i (.ow xs)))) _
     split<;>trivial
    | _=>trivial
   | str a =>
    cases dy with
    | str b =>
     show AnsS K mg E F0 H0 F ((if a.length+b.length<=LIM then Res.ok (D.str (a++b)) else .bad).bind λd=>(lstO d).bind λxs=>.ok (.nx (ρ.set i (.ow xs)))) _
     split<;>trivial
    | _=>trivial
   | _=>trivial
end
section
variable{X:Cx}{E:XK}{a b:Expr}{ta tb:TE}{ma mb:ME}{i:Nat}{x:Str}{pos pos' spos:Pos}
def Zhf(hN:X.N.Nodup)(hi:X.N[i]?=some x)(hx:Loc X.env.scope x)(ha:DE X E a ta ma)(hb:DE X E b tb mb)(hs:swapsWith (.BinOp a .Add b pos) (some (.Name x pos')) spos.line X.env=pure false:=by rfl)(hf:X.fn x=true\/X.env.scope.names.lookup x=some .local:=by first | exact .inl rfl | exact .inr rfl | assumption) :
  DS X E (.Assign [.Name x pos'] (.BinOp a .Add b pos) spos) (tAsg (tOp (ZlS X.K) ta tb) (ZdH i)) (stO i (o2 yac ma mb)):=⟨Zih hN hi hx (Zq0 Zln ha.p hb.p) hs hf,ZpS ha.s hb.s⟩
end
abbrev ZnY(K:W.Frag):List V->Hp->VK->Prop:=λxs H Q=>∃p ys,xs=[.ref p]/\(SqL K H p ys\/SqT K H p ys)/\∀l,H l=none->Q (.ref l) (upd H l (.lst ys))
section
variable{K:W.Frag}{mg:Str->Option Value}{E:XK}{t:TA}{m:MA}{i:Nat}
def Zo7(ha:SA K mg E t m):SS K mg E (tAsg (tCB (ZnY K) t) (ZdH i)) (stO i (on bLst m)):=by
 intro F0 H0 F H σ ρ rr;have h:=ha F0 H0 F H σ ρ rr;unfold stO on;cases e:m ρ with
 | bad=>trivial
 | ex c =>
  rw [e] at h;exact λD q=>h _ λF' H' C g hC=>q F' H' C (rr.g.trans g) hC
 | ok ds =>
  rw [e] at h;show AnsS K mg E F0 H0 F ((bLst ds).bind λd=>(lstO d).bind λxs=>.ok (.nx (ρ.set i (.ow xs)))) _;unfold bLst;split
  ·refine λD q=>h _ λF1 H1 vs g1 rs=>?_;obtain ⟨x,rfl,rx⟩:=rs.one;cases rx with
   | lst hA ra=>exact ⟨_,_,rfl,.inl (g1.s.seq hA),λp hp=>q F1 _ _ g1.f ((rr.gr g1).own i hp ra)⟩
  ·refine λD q=>h _ λF1 H1 vs g1 rs=>?_;obtain ⟨x,rfl,rx⟩:=rs.one;cases rx with
   | tup hA ra=>exact ⟨_,_,rfl,.inr (Zax g1.s hA),λp hp=>q F1 _ _ g1.f ((rr.gr g1).own i hp ra)⟩
  ·trivial
end
section
variable{X:Cx}{E:XK}{i n:Nat}{x xl:Str}{e:Expr}{es:List Expr}{t:TA}{m:MA}{lp pos pos' spos:Pos}
def Zl1(hN:X.N.Nodup)(hi:X.N[i]?=some x)(hx:Loc X.env.scope x)(hg:Gl X xl)(hm:X.mg xl=none)(hv:bootBuiltins xl=some (.type "list"))(ha:DA X E n (e::es) t m)(hn:xl ≠ "__name__" := by decide)(hdb:(xl==("__debug__" : Str))=false:=by decide)
  (he:starEach (e::es) X.env=(false,eval e X.env)::starEach es X.env:=by rfl) (hpl:(backTo pos (starEach es X.env)).any (·.1)=false:=by rfl)
  (hs:swapsWith (.Call (.Name xl lp) (e::es) [] pos) (some (.Name x pos')) spos.line X.env=pure false:=by rfl) (hf:X.fn x=true\/X.env.scope.names.lookup x=some .local:=by first | exact .inl rfl | exact .inr rfl | assumption) :
  DS X E (.Assign [.Name x pos'] (.Call (.Name xl lp) (e::es) [] pos) spos) (tAsg (tCB (ZnY X.K) t) (ZdH i)) (stO i (on bLst m)):=⟨Zih hN hi hx (ZfM Ze1 hg hm hv ha.p hn hdb he hpl) hs hf,Zo7 ha.s⟩
end
end L2.Ds
namespace L2.Ds
open PySem PySem.Spec PyProof.Rows PySem.W Dl
end L2.Ds
namespace Dl
open PySem
def firsts(kf:Nat->List Int):Nat->List (List Int)
 | 0=>[]
 | i+1=>if kf i∈firsts kf i then firsts kf i else firsts kf i++[kf i]
def intsOf:List D->Option (List Int)
 | []=>some []
 | .int n::r=>(intsOf r).map (n::·)
 | _::_=>none
def keysOf:List D->Option (List (List Int))
 | []=>some []
 | .tup ds::r=>(intsOf ds).bind λk=>(keysOf r).map (k::·)
 | _::_=>none
def ZiP:D->Res D
 | .lst ds=>match keysOf ds with
  | some ks=>if ds.length<=16 then .ok (.int ((firsts (λi=>ks.getD i []) ds.length).length:Nat)) else .bad
  | none=>.bad
 | _=>.bad
end Dl
namespace L2.Sx
open PySem PySem.SetTable
def adv(m:Nat)(p:Probe):Probe :=
 if p.more>0 then { p with j:=p.j+1,more:=p.more - 1 } else
 { p with j:=(leap m p.i p.perturb).1,more:=runEnd m (leap m p.i p.perturb).1 - (leap m p.i p.perturb).1,i:=(leap m p.i p.perturb).1,perturb:=(leap m p.i p.perturb).2 }
def ZgN(t:SetTable)(p:Probe):t.advance p=adv t.mask p:=rfl
def run(m i pt:Nat):Probe:={ j:=i,more:=runEnd m i - i,i,perturb:=pt,dummy:=none }
def Zmp(t:SetTable)(h:Int):t.probeStart h=run t.mask (bits h%(t.mask+1)) (bits h):=rfl
inductive Rch(m:Nat)(occ:Nat->Prop):Probe->Nat->Prop
 | here (p:Probe):Rch m occ p p.j
 | next {p:Probe} {j:Nat}:occ p.j->Rch m occ (adv m p) j->Rch m occ p j
def Rch.mono{m:Nat}{occ occ':Nat->Prop}(h:∀j,occ j->occ' j){p:Probe}{j:Nat}(r:Rch m occ p j):Rch m occ' p j:=by
 induction r with
 | here p=>exact .here p
 | next o _ ih=>exact .next (h _ o) ih
def ZdS(m:Nat)(occ:Nat->Prop):Nat->Probe->Prop
 | 0,p=>¬occ p.j
 | n+1,p=>¬occ p.j\/ZdS m occ n (adv m p)
def advs(m:Nat):Nat->Probe->Probe
 | 0,p=>p
 | n+1,p=>advs m n (adv m p)
def ZdS.of{m:Nat}{occ:Nat->Prop}:∀{n:Nat} {p:Probe},¬occ (advs m n p).j->ZdS m occ n p
 | 0,_,h=>h
 | _+1,_,h=>.inr (ZdS.of h)
def ZdS.mono{m:Nat}{occ:Nat->Prop}:∀{n n':Nat} {p:Probe},n<=n'->ZdS m occ n p->ZdS m occ n' p
 | 0,0,_,_,h=>h
 | 0,_+1,_,_,h=>.inl h
 | n+1,0,_,hl,_=>by omega
 | n+1,n'+1,_,hl,h=>h.elim .inl λh=>.inr (ZdS.mono (by omega) h)
def Zfe(m:Nat):∀(a b:Nat) (p:Probe),advs m (a+b) p=advs m b (advs m a p)
 | 0,b,p=>by rw [Nat.zero_add];rfl
 | a+1,b,p=>by rw [Nat.add_right_comm];exact Zfe m a b (adv m p)
def ZeC(m i pt:Nat):∀k,k<=runEnd m i - i->advs m k (run m i pt)={ j:=i+k,more:=runEnd m i - i - k,i,perturb:=pt,dummy:=none }
 | 0,_=>rfl
 | k+1,h=>by
  rw [Zfe m k 1,ZeC m i pt k (by omega)];show adv m _=_;unfold adv;rw [if_pos (show runEnd m i - i - k>0 by omega)];simp only [Probe.mk.injEq,and_true];omega
def ZjM(m i pt:Nat):advs m (runEnd m i - i+1) (run m i pt)=run m (leap m i pt).1 (leap m i pt).2:=by
 rw [Zfe m (runEnd m i - i) 1,ZeC m i pt _ (VaL _)];show adv m _=_;unfold adv;rw [if_neg (by simp)];rfl
def ZqO(m i:Nat):runEnd m i - i+1<=10:=by
 unfold runEnd;split<;>omega
def Zce(m:Nat):Nat->Nat×Nat->Nat×Nat
 | 0,p=>p
 | n+1,p=>Zce m n (leap m p.1 p.2)
def ZhN(m:Nat):∀(a b:Nat) (p:Nat×Nat),Zce m (a+b) p=Zce m b (Zce m a p)
 | 0,b,p=>by rw [Nat.zero_add];rfl
 | a+1,b,p=>by rw [Nat.add_right_comm];exact ZhN m a b _
def Zif(m:Nat):∀(n i pt:Nat),∃k,k<=10*n/\advs m k (run m i pt)=run m (Zce m n (i,pt)).1 (Zce m n (i,pt)).2
 | 0,i,pt=>⟨0,VaL _,rfl⟩
 | n+1,i,pt=>by
  obtain ⟨k,hk,e⟩:=Zif m n (leap m i pt).1 (leap m i pt).2;refine ⟨(runEnd m i - i+1)+k,?_,?_⟩
  ·have:=ZqO m i;omega
  ·rw [Zfe,ZjM,e];rfl
def Zix(m:Nat):∀(n i pt:Nat),(Zce m n (i,pt)).2=pt/32^n
 | 0,i,pt=>by rw [Nat.pow_zero,Nat.div_one];rfl
 | n+1,i,pt=>by
  show (Zce m n (leap m i pt)).2=_;have e:=Zix m n (leap m i pt).1 (leap m i pt).2;have z:Zce m n (leap m i pt)=Zce m n ((leap m i pt).1,(leap m i pt).2):=rfl;rw [z,e];show pt/32/32^n=pt/32^(n+1);rw [Nat.div_div_eq_div_mul,Nat.pow_succ,Nat.mul_comm]
def Zjk(m:Nat):∀(n i pt:Nat),i<=m->(Zce m n (i,pt)).1<=m
 | 0,i,pt,h=>h
 | n+1,i,pt,h=>by
  show (Zce m n ((leap m i pt).1,(leap m i pt).2)).1<=m;exact Zjk m n _ _ (by unfold leap;have:=Nat.mod_lt (i*5+1+pt/32) (show 0<m+1 by omega);simp only [];omega)
def Zk7(h:Int):bits h<2^64:=by
 unfold bits;have h1:=Int.emod_nonneg h (show ((2:Int)^64)≠0 by decide);have h2:=Int.emod_lt_of_pos h (show (0:Int)<2^64 by decide);have e:((2:Int)^64)=((2^64:Nat):Int):=by norm_cast
 omega
def cyc7:∀i≤7,∀e≤7,∃k≤7,(Zce 7 k (i,0)).1=e:=by decide +kernel
def Zth:∀i≤31,∀e≤31,∃k≤31,(Zce 31 k (i,0)).1=e:=by decide +kernel
def Mk(m:Nat):Prop:=m=7\/m=31
def cyc{m:Nat}(hm:Mk m):∀i≤m,∀e≤m,∃k≤m,(Zce m k (i,0)).1=e:=by
 rcases hm with rfl | rfl
 ·exact cyc7
 ·exact Zth
def cover{m:Nat}(hm:Mk m){i pt e:Nat}(hi:i<=m)(hp:pt<2^64)(he:e<=m):∃n,n<=13+m/\(Zce m n (i,pt)).1=e:=by
 have h13:(Zce m 13 (i,pt)).2=0:=by
  rw [Zix];exact Nat.div_eq_of_lt (Vad hp (by decide))
 obtain ⟨k,hk,e1⟩:=cyc hm _ (Zjk m 13 i pt hi) e he;refine ⟨13+k,by omega,?_⟩;rw [ZhN];have z:Zce m 13 (i,pt)=((Zce m 13 (i,pt)).1,0):=by rw [<-h13]
 rw [z];exact e1
def ends{m:Nat}(hm:Mk m){i pt e:Nat}{occ:Nat->Prop}(hi:i<=m)(hp:pt<2^64)(he:e<=m)(ho:¬occ e):ZdS m occ (10*(13+m)) (run m i pt):=by
 obtain ⟨n,hn,e1⟩:=cover hm hi hp he;obtain ⟨k,hk,e2⟩:=Zif m n i pt;refine ZdS.mono (n:=k) (by omega) (ZdS.of ?_);rw [e2];show ¬occ (Zce m n (i,pt)).1;rw [e1];exact ho
def Zg1(xs:Array Nat)(j:Nat)(h:xs.toList.Pairwise (· < ·)):∀(fuel lo hi:Nat),lo<=hi->hi<=xs.size->hi - lo<=fuel->(∀i (q:i<xs.size),i<lo->xs[i]<j)->(∀i (q:i<xs.size),hi<=i->¬xs[i]<j) ->
  below.go xs j fuel lo hi<=xs.size/\∀i (q:i<xs.size),xs[i]<j↔i<below.go xs j fuel lo hi
 | 0,lo,hi,h1,h2,h3,h4,h5=>by
  have e:lo=hi:=by omega
  subst e;exact ⟨h2,λi hi=>⟨λz=>Nat.lt_of_not_le λq=>h5 i hi q z,λz=>h4 i hi z⟩⟩
 | fuel+1,lo,hi,h1,h2,h3,h4,h5=>by
  unfold below.go;by_cases hl:lo<hi
  ·rw [if_pos hl];simp only [];have hm:(lo+hi)/2<xs.size:=by omega
   have hp:∀a b (ha:a<xs.size) (hb:b<xs.size),a<b->xs[a]<xs[b]:=λa b ha hb hab=>by
    have:=VbX.mp h a b (by simpa using ha) (by simpa using hb) hab;simpa using this
   have eg:xs.getD ((lo+hi)/2) j=xs[(lo+hi)/2]:=by simp [Array.getD,hm]
   rw [eg];by_cases hc:xs[(lo+hi)/2]<j
   ·rw [if_pos hc];refine Zg1 xs j h fuel ((lo+hi)/2+1) hi (by omega) h2 (by omega) (λi hi' z=>?_) h5;by_cases hz:i<(lo+hi)/2
    ·exact Vbw (hp i _ hi' hm hz) hc
    ·have:i=(lo+hi)/2:=by omega
     subst this;exact hc
   ·rw [if_neg hc];refine Zg1 xs j h fuel lo ((lo+hi)/2) (by omega) (by omega) (by omega) h4 λi hi' z=>?_;by_cases hz:(lo+hi)/2<i
    ·have:=hp _ i hm hi' hz;omega
    ·have:i=(lo+hi)/2:=by omega
     subst this;exact hc
  ·rw [if_neg hl];have e:lo=hi:=by omega
   subst e;exact ⟨h2,λi hi=>⟨λz=>Nat.lt_of_not_le λq=>h5 i hi q z,λz=>h4 i hi z⟩⟩
def ZgF{xs:Array Nat}(j:Nat)(h:xs.toList.Pairwise (· < ·)):below xs j<=xs.size/\∀i (hi:i<xs.size),xs[i]<j↔i<below xs j :=
 Zg1 xs j h xs.size 0 xs.size (VaZ _) (VaL _) (by omega) (λ_ _ z=>by omega) λi hi z=>by omega
abbrev En:Type:=Nat×Int×Value
def Occ(l:List En)(j:Nat):Prop:=∃e∈l,e.1=j
abbrev st0(m:Nat)(h:Int):Probe:=run m (bits h%(m+1)) (bits h)
structure Tb(t:SetTable)(es:Array (Int×Value))(l:List En):Prop where
 ms:Mk t.mask
 pl:t.place.toList=l.map (·.1)
 el:es.toList=l.map (·.2)
 du:t.dummies=#[]
 up:l.Pairwise λa b=>a.1<b.1
 le:∀e∈l,e.1<=t.mask
 rc:∀e∈l,Rch t.mask (Occ l) (st0 t.mask e.2.1) e.1
section
variable{t:SetTable}{es:Array (Int×Value)}{l:List En}
def Tb.plP(T:Tb t es l):t.place.toList.Pairwise (· < ·):=by rw [T.pl,List.pairwise_map];exact T.up
def Tb.size(T:Tb t es l):t.place.size=l.length:=by rw [<-Vay,T.pl,VaW]
def Tb.esize(T:Tb t es l):es.size=l.length:=by rw [<-Vay,T.el,VaW]
def Tb.at(T:Tb t es l){i:Nat}(hi:i<t.place.size):t.place[i]=(l[i]'(by rw [<-T.size];exact hi)).1:=by
 have e:t.place.toList[i]'(by simpa using hi)=(l.map (·.1))[i]'(by rw [VaW,<-T.size];exact hi):=by
  congr 1;exact T.pl
 simpa using e
def Tb.live(T:Tb t es l){i:Nat}{e:En}(h:l[i]?=some e):t.slot e.1=.live i:=by
 obtain ⟨hi,rfl⟩:=Vat.mp h;have hi':i<t.place.size:=by rw [T.size];exact hi
 obtain ⟨b1,b2⟩:=ZgF l[i].1 T.plP;have hp:=VbX.mp T.up;have eb:below t.place l[i].1=i:=by
  rcases Nat.lt_trichotomy (below t.place l[i].1) i with z | z | z
  ·have hb:below t.place l[i].1<t.place.size:=by omega
   have:=hp _ i (by rw [<-T.size];exact hb) hi z;have q:=(b2 _ hb).mp (by rw [T.at hb];exact this);omega
  ·exact z
  ·have q:=(b2 i hi').mpr z;rw [T.at hi'] at q;omega
 unfold slot;simp only [];rw [eb,if_pos];rw [VbY hi',T.at hi'];simp
def Tb.noDummy(T:Tb t es l)(j:Nat):has t.dummies j=false:=by
 rw [T.du];unfold has;simp
def Tb.empty(T:Tb t es l){j:Nat}(h:¬Occ l j):t.slot j=.empty:=by
 unfold slot;simp only [];rw [if_neg,T.noDummy,if_neg VaG];intro z;have z:=eq_of_beq z;obtain ⟨hi,e⟩:=VbA.mp z;rw [T.at hi] at e;exact h ⟨_,VbZ _,e⟩
def Tb.occ(T:Tb t es l){j:Nat}(h:Occ l j):∃i e,l[i]?=some e/\e.1=j/\t.slot j=.live i:=by
 obtain ⟨e,he,rfl⟩:=h;obtain ⟨i,hi,rfl⟩:=VbV.mp he;exact ⟨i,_,VbM hi,rfl,T.live (VbM hi)⟩
def Zet{α:Type}(xs:Array α)(p:Nat)(x:α)(hp:p<=xs.size):(insertAt xs p x).toList=xs.toList.take p++x::xs.toList.drop p:=by
 unfold insertAt;simp [Array.toList_extract,List.extract_eq_drop_take];exact VbJ (by simp)
def Tb.put(T:Tb t es l){j:Nat}{h:Int}{x:Value}(hj:j<=t.mask)(ho:¬Occ l j)(hr:Rch t.mask (Occ l) (st0 t.mask h) j) :
  ∃l',List.Perm l' ((j,h,x)::l)/\Tb (t.put j).1 (insertAt es (t.put j).2 (h,x)) l':=by
 obtain ⟨b1,b2⟩:=ZgF j T.plP;have ep:(t.put j).2=below t.place j:=rfl;have et:(t.put j).1={ t with place:=insertAt t.place (below t.place j) j,dummies:=t.dummies }:=by
  unfold SetTable.put;simp only [];rw [T.noDummy,if_neg VaG]
 have hp:List.Perm (l.take (below t.place j)++(j,h,x)::l.drop (below t.place j)) ((j,h,x)::l):=by
  refine List.perm_middle.trans ?_;rw [List.take_append_drop]
 have hocc:∀k,Occ l k->Occ (l.take (below t.place j)++(j,h,x)::l.drop (below t.place j)) k:=λk ⟨e,he,q⟩=>⟨e,hp.mem_iff.mpr (Vao _ he),q⟩;refine ⟨l.take (below t.place j)++(j,h,x)::l.drop (below t.place j),hp,?_⟩;rw [ep,et];refine ⟨T.ms,?_,?_,T.du,?_,λe he=>?_,λe he=>?_⟩
 ·show (insertAt t.place (below t.place j) j).toList=_;rw [Zet _ _ _ b1,T.pl];simp [List.map_take,List.map_drop]
 ·rw [Zet _ _ _ (by rw [T.esize,<-T.size];exact b1),T.el];simp [List.map_take,List.map_drop]
 ·have hlow:∀e∈l.take (below t.place j),e.1<j:=λe he=>by
   obtain ⟨i,hi,rfl⟩:=VbV.mp he;have hi':i<below t.place j/\i<l.length:=by rw [Va7] at hi;omega
   have hq:i<t.place.size:=by rw [T.size];exact hi'.2
   have:=(b2 i hq).mpr hi'.1;rw [T.at hq] at this;simpa using this
  have hhigh:∀e∈l.drop (below t.place j),j<e.1:=λe he=>by
   obtain ⟨i,hi,rfl⟩:=VbV.mp he;rw [Vbj] at hi;have hq:below t.place j+i<t.place.size:=by rw [T.size];omega
   have h1:¬t.place[below t.place j+i]<j:=λz=>by have:=(b2 _ hq).mp z;omega
   rw [T.at hq] at h1;have h2:(l[below t.place j+i]'(by rw [<-T.size];exact hq)).1≠j:=λz=>ho ⟨_,VbZ _,z⟩;rw [List.getElem_drop];omega
  rw [List.pairwise_append];refine ⟨T.up.sublist (List.take_sublist _ _),?_,λa ha b hb=>?_⟩
  ·rw [List.pairwise_cons];exact ⟨λb hb=>hhigh b hb,T.up.sublist (List.drop_sublist _ _)⟩
  ·rcases Vaq.mp hb with rfl | hb
   ·exact hlow a ha
   ·exact Vbw (hlow a ha) (hhigh b hb)
 ·rcases Vaq.mp (hp.mem_iff.mp he) with rfl | he
  ·exact hj
  ·exact T.le e he
 ·rcases Vaq.mp (hp.mem_iff.mp he) with rfl | he
  ·exact hr.mono hocc
  ·exact (T.rc e he).mono hocc
end
section
variable{t:SetTable}{es:Array (Int×Value)}{l:List En}{h:Int}{ha:Nat->Int}
def HAt(l:List En)(ha:Nat->Int):Prop:=∀i e,l[i]?=some e->ha i=e.2.1
def Zf1(T:Tb t es l)(hh:HAt l ha):∀(n fuel:Nat) (p:Probe),p.dummy=none->ZdS t.mask (Occ l) n p->n<fuel ->
  (∃j,probe.go t ha h fuel p=some (.empty j none)/\¬Occ l j/\Rch t.mask (Occ l) p j/\∀e∈l,e.2.1=h->¬Rch t.mask (Occ l) p e.1) \/
  (∃i e p' n',probe.go t ha h fuel p=some (.candidate e.1 i (adv t.mask p'))/\l[i]?=some e/\e.2.1=h/\p'.j=e.1/\p'.dummy=none/\n'<n/\ZdS t.mask (Occ l) n' (adv t.mask p')/\(∀j,Rch t.mask (Occ l) (adv t.mask p') j->Rch t.mask (Occ l) p j)/\∀e'∈l,e'.2.1=h->e'≠e->Rch t.mask (Occ l) p e'.1->Rch t.mask (Occ l) (adv t.mask p') e'.1)
 | n,0,p,_,_,hf=>by omega
 | n,fuel+1,p,hd,hE,hf=>by
  by_cases ho:Occ l p.j
  ·obtain ⟨i,e,hi,he,hs⟩:=T.occ ho;cases n with
   | zero=>exact absurd ho hE
   | succ n =>
    have hE':ZdS t.mask (Occ l) n (adv t.mask p):=hE.resolve_left λz=>z ho;have dadv:(adv t.mask p).dummy=none:=by unfold adv;split<;>exact hd
    unfold probe.go;rw [hs];simp only [];have inj:∀e'∈l,e'.1=e.1->e'=e:=λe' he' q=>by
     obtain ⟨a,ha',rfl⟩:=VbV.mp he';obtain ⟨hb,rfl⟩:=Vat.mp hi;have hp:=VbX.mp T.up;rcases Nat.lt_trichotomy a i with z | z | z
     ·have:=hp a i ha' hb z;omega
     ·subst z;rfl
     ·have:=hp i a hb ha' z;omega
    have on:∀{j:Nat},Rch t.mask (Occ l) p j->j≠p.j->Rch t.mask (Occ l) (adv t.mask p) j:=λ{j} r ne=>by
     cases r with
     | here=>exact absurd rfl ne
     | next _ r=>exact r
    by_cases hq:ha i=h
    ·rw [if_pos (by rw [hq];exact beq_self_eq_true h)];right;refine ⟨i,e,p,n,by rw [ZgN,he],hi,by rw [<-hh i e hi];exact hq,he.symm,hd,by omega,hE',λj r=>.next ho r,λe' he' _ ne r=>on r λz=>ne (inj e' he' (by rw [z,he]))⟩
    ·rw [if_neg (by intro z;exact hq (eq_of_beq z)),ZgN];have neh:e.2.1≠h:=by rw [<-hh i e hi];exact hq
     rcases Zf1 T hh n fuel (adv t.mask p) dadv hE' (by omega) with ⟨j,e1,e2,e3,e4⟩ | ⟨i',e',p',n',e1,e2,e3,e4,e5,e6,e7,e8,e9⟩
     ·left;refine ⟨j,e1,e2,.next ho e3,λe' he' q r=>e4 e' he' q (on r λz=>?_)⟩;have:=inj e' he' (by rw [z,he]);subst this;exact neh q
     ·right;refine ⟨i',e',p',n',e1,e2,e3,e4,e5,by omega,e7,λj r=>.next ho (e8 j r),λe'' he'' q ne r=>e9 e'' he'' q ne (on r λz=>?_)⟩;have:=inj e'' he'' (by rw [z,he]);subst this;exact neh q
  ·left;unfold probe.go;rw [T.empty ho];simp only [];refine ⟨p.j,by rw [hd],ho,.here p,λe he _ r=>?_⟩;generalize hz:e.1=z at r;cases r with
   | here=>exact ho ⟨e,he,hz⟩
   | next o _=>exact ho o
end
def Zok{α:Type}:∀{xs ys:List α},xs.Nodup->(∀x∈xs,x∈ys)->xs.length<=ys.length
 | [],_,_,_=>VaZ _
 | x::r,ys,hn,hs=>by
  obtain ⟨a,b,rfl⟩:=List.append_of_mem (hs x Van);rw [Va6] at hn;have:=Zok (ys:=a++b) hn.2 λy hy=>by
   rcases Var.mp (hs y (Vao _ hy)) with z | z
   ·exact Vas _ z
   ·rcases Vaq.mp z with rfl | z
    ·exact absurd hy hn.1
    ·exact VaO _ z
  simp at this ⊢;omega
def Zib{m:Nat}{js:List Nat}(h:js.length<=m):∃e,e<=m/\e∉js:=by
 refine Vb0 λz=>?_;have:=Zok (xs:=List.range (m+1)) (ys:=js) List.nodup_range λx hx=>Vb0 λq=>z ⟨x,by have:=Vai.mp hx;omega,q⟩;rw [VbL] at this;omega
def Zhd{m:Nat}{occ:Nat->Prop}:∀{k:Nat} {p:Probe} {j:Nat},(∀k'<k,occ (advs m k' p).j)->Rch m occ (advs m k p) j->Rch m occ p j
 | 0,_,_,_,r=>r
 | k+1,p,j,h,r=>.next (h 0 (by omega)) (Zhd (k:=k) (λk' hk=>h (k'+1) (by omega)) r)
def ZpX{m i pt k:Nat}{occ:Nat->Prop}(hk:k<=runEnd m i - i)(h:∀k'<k,occ (i+k')):Rch m occ (run m i pt) (i+k):=by
 refine Zhd (k:=k) (λk' hk'=>?_) ?_
 ·rw [ZeC m i pt k' (by omega)];exact h k' hk'
 ·rw [ZeC m i pt k hk];exact .here _
def ZnE{m i pt j:Nat}{occ:Nat->Prop}(h:∀k'≤runEnd m i - i,occ (i+k'))(r:Rch m occ (run m (leap m i pt).1 (leap m i pt).2) j):Rch m occ (run m i pt) j:=by
 refine Zhd (k:=runEnd m i - i+1) (λk' hk'=>?_) ?_
 ·rw [ZeC m i pt k' (by omega)];exact h k' (by omega)
 ·rw [ZjM];exact r
structure Ow(m:Nat)(owner:Array (Option Nat))(js:List Nat):Prop where
 sz:owner.size=m+1
 nd:js.Nodup
 le:∀j∈js,j<=m
 is:∀j k,j<=m->(owner[j]?=some (some k)↔js[k]?=some j)
def Ow.none{m:Nat}{owner:Array (Option Nat)}{js:List Nat}(O:Ow m owner js){j:Nat}(hj:j<=m):(owner.getD j (some 0)).isNone=true↔j∉js:=by
 have hb:j<owner.size:=by rw [O.sz];omega
 have eg:owner.getD j (some 0)=owner[j]:=by simp [Array.getD,hb]
 rw [eg];constructor
 ·intro z hm;obtain ⟨k,hk,e⟩:=VbV.mp hm;have:=(O.is j k hj).mpr (by rw [VbM hk,e]);rw [VbY hb] at this;rw [Vaw this] at z;exact Bool.noConfusion z
 ·intro z;cases q:owner[j] with
  | none=>rfl
  | some k =>
   have:=(O.is j k hj).mp (by rw [VbY hb,q]);exact absurd (Vbd this) z
def ZfC{m i:Nat}(h:i<=m):i<=runEnd m i/\runEnd m i<=m:=by
 unfold runEnd;split<;>omega
def Zii{m:Nat}{owner:Array (Option Nat)}{js:List Nat}(O:Ow m owner js){e:Nat}(he:e<=m)(hf:e∉js):∀(fuel L i pt:Nat),i<=m->L<fuel->(Zce m L (i,pt)).1=e ->
  ∃j,j<=m/\layClean.free m owner fuel i pt=some j/\j∉js/\Rch m (·∈js) (run m i pt) j
 | 0,L,i,pt,_,hl,_=>by omega
 | fuel+1,L,i,pt,hi,hl,hL=>by
  obtain ⟨r1,r2⟩:=ZfC hi;unfold layClean.free;cases q:(List.range (runEnd m i+1 - i)).find? λk=>(owner.getD (i+k) (some 0)).isNone with
  | some k =>
   obtain ⟨hp,as,bs,hs,ha⟩:=List.find?_eq_some_iff_append.mp q;have hk:k<runEnd m i+1 - i:=Vai.mp (by rw [hs];simp);have hbef:∀k'<k,(owner.getD (i+k') (some 0)).isNone=false:=λk' hk'=>by
    have hlen:as.length=k:=by
     have:=Vaz (λl=>l[as.length]?) hs;simp at this;rw [List.getElem?_range (by have:=Vaz List.length hs;simp at this;omega)] at this;exact Vaw this
    have hmem:k'∈as:=by
     have e1:(List.range (runEnd m i+1 - i))[k']?=(as++k::bs)[k']?:=by rw [hs]
     rw [List.getElem?_range (by omega),Vbb (by omega)] at e1;exact Vbd e1.symm
    have:=ha k' hmem;simpa using this
   simp only [];refine ⟨i+k,by omega,rfl,(O.none (by omega)).mp hp,ZpX (by omega) λk' hk'=>?_⟩;exact Vb0 λz=>by
    have h1:=hbef k' hk';rw [(O.none (by omega)).mpr z] at h1;exact Bool.noConfusion h1
  | none =>
   simp only [];have hall:∀k'≤runEnd m i - i,i+k'∈js:=λk' hk'=>Vb0 λz=>by
    have h1:=List.find?_eq_none.mp q k' (Vai.mpr (by omega));exact h1 ((O.none (by omega)).mpr z)
   cases L with
   | zero =>
    have:i=e:=hL;subst this;exact absurd (hall 0 (by omega)) hf
   | succ L =>
    have hi':(leap m i pt).1<=m:=by
     unfold leap;have:=Nat.mod_lt (i*5+1+pt/32) (show 0<m+1 by omega);simp only [];omega
    obtain ⟨j,h1,h2,h3,h4⟩:=Zii O he hf fuel L (leap m i pt).1 (leap m i pt).2 hi' (by omega) hL;exact ⟨j,h1,h2,h3,ZnE hall h4⟩
def Ow.put{m:Nat}{owner:Array (Option Nat)}{js:List Nat}(O:Ow m owner js){j:Nat}(hj:j<=m)(hf:j∉js):Ow m (owner.setIfInBounds j (some js.length)) (js++[j]):=by
 refine ⟨by rw [Array.size_setIfInBounds];exact O.sz,?_,λi hi=>?_,λi k hi=>?_⟩
 ·rw [List.nodup_append];refine ⟨O.nd,by simp,λa ha b hb=>?_⟩;rw [VbU] at hb;subst hb;rintro rfl;exact hf ha
 ·rcases Var.mp hi with z | z
  ·exact O.le i z
  ·rw [VbU] at z;subst z;exact hj
 ·rw [Array.getElem?_setIfInBounds];have hb:j<owner.size:=by rw [O.sz];omega
  by_cases e:j=i
  ·subst e;rw [if_pos rfl,if_pos hb];constructor
   ·intro z;cases z;simp
   ·intro z;by_cases hk:k<js.length
    ·rw [Vbb hk] at z;exact absurd (Vbd z) hf
    ·have:k=js.length:=by
      have:=(Vat.mp z).1;simp at this;omega
     rw [this]
  ·rw [if_neg e,O.is i k hi];constructor
   ·intro z;rw [Vbb (Vat.mp z).1];exact z
   ·intro z;by_cases hk:k<js.length
    ·rw [Vbb hk] at z;exact z
    ·have:k=js.length:=by
      have:=(Vat.mp z).1;simp at this;omega
     subst this;simp at z;exact absurd z e
def RcW(m:Nat)(hs:List Int)(js:List Nat):Prop:=∀(k:Nat) (h:Int) (j:Nat),hs[k]?=some h->js[k]?=some j->Rch m (·∈js) (st0 m h) j
def ZjQ{m:Nat}(hm:Mk m):∀(rest done:List Int) (owner:Array (Option Nat)) (js:List Nat),Ow m owner js->js.length=done.length->RcW m done js->done.length+rest.length<=m ->
  ∃owner' js',rest.foldl (λacc h=>do
   let (owner,k) <-acc
   let j <-layClean.free m owner (turns m) (bits h%(m+1)) (bits h)
   pure (owner.setIfInBounds j (some k),k+1)) (some (owner,js.length))=some (owner',js'.length)/\Ow m owner' js'/\js'.length=(done++rest).length/\RcW m (done++rest) js'
 | [],done,owner,js,O,hl,hr,_=>⟨owner,js,rfl,O,by rw [Va1];exact hl,by rw [Va1];exact hr⟩
 | h::rest,done,owner,js,O,hl,hr,hle=>by
  simp only [VaT] at hle;obtain ⟨e,he,hf⟩:=Zib (m:=m) (js:=js) (by omega);have hi:bits h%(m+1)<=m:=by
   have:=Nat.mod_lt (bits h) (show 0<m+1 by omega);omega
  obtain ⟨L,hL,eL⟩:=cover hm hi (Zk7 h) he;obtain ⟨j,h1,h2,h3,h4⟩:=Zii O he hf (turns m) L _ (bits h) hi (by unfold turns;omega) eL;have O':=O.put h1 h3;have hr':RcW m (done++[h]) (js++[j]):=by
   intro k h' j' e1 e2;by_cases hk:k<done.length
   ·rw [Vbb hk] at e1;rw [Vbb (by omega)] at e2;exact (hr k h' j' e1 e2).mono λx hx=>Vas _ hx
   ·have:k=done.length:=by
     have:=(Vat.mp e1).1;simp at this;omega
    subst this;simp at e1;rw [<-hl] at e2;simp at e2;subst e1 e2;exact h4.mono λx hx=>Vas _ hx
  obtain ⟨owner',js',e1,e2,e3,e4⟩:=ZjQ hm rest (done++[h]) _ (js++[j]) O' (by simp [hl]) hr' (by simp;omega);refine ⟨owner',js',?_,e2,by rw [e3];simp,by simpa using e4⟩;rw [List.foldl_cons]
  have z:(do
   let (owner,k) <-some (owner,js.length)
   let j <-layClean.free m owner (turns m) (bits h%(m+1)) (bits h)
   pure (owner.setIfInBounds j (some k),k+1):Option (Array (Option Nat)×Nat))=some (owner.setIfInBounds j (some js.length),(js++[j]).length):=by
   show (layClean.free m owner (turns m) (bits h%(m+1)) (bits h)).bind _=_;rw [h2];simp
  rw [z];exact e1
def Zlg{m:Nat}(hm:Mk m)(hashes:Array Int)(hl:hashes.size<=m):∃owner js,layClean m hashes=some owner/\Ow m owner js/\js.length=hashes.size/\RcW m hashes.toList js:=by
 have O0:Ow m (Array.replicate (m+1) none) []:=⟨by simp,List.nodup_nil,λ_ h=>(Vb1 h).elim,λj k hj=>by
  rw [Array.getElem?_replicate]
  simp [hj]⟩
 obtain ⟨owner,js,e1,e2,e3,e4⟩:=ZjQ hm hashes.toList [] _ [] O0 rfl (λk h j e _=>by simp at e) (by simpa using hl);refine ⟨owner,js,?_,e2,by simpa using e3,by simpa using e4⟩;unfold layClean;rw [<-Array.foldl_toList];have z:=Vaz (Option.map (·.1)) e1;exact z
section
variable{t:SetTable}{es:Array (Int×Value)}{l:List En}
def ZlY{m:Nat}{owner:Array (Option Nat)}{js:List Nat}(O:Ow m owner js)(live:List (Nat×Nat))(hlive:live=(List.range (m+1)).filterMap λj=>(owner.getD j none).map (j,·)) :
  live.Pairwise (λa b=>a.1<b.1)/\∀j k,(j,k)∈live↔js[k]?=some j:=by
 have mem:∀j k,(j,k)∈live↔js[k]?=some j:=λj k=>by
  rw [hlive,VaN];constructor
  ·rintro ⟨i,hi,e⟩;have hi:=Vai.mp hi;have hb:i<owner.size:=by rw [O.sz];exact hi
   have eg:owner.getD i none=owner[i]:=by simp [Array.getD,hb]
   rw [eg] at e;cases q:owner[i] with
   | none=>rw [q] at e;cases e
   | some k' =>
    rw [q] at e;simp only [Option.map_some,Option.some.injEq,Prod.mk.injEq] at e;obtain ⟨rfl,rfl⟩:=e;exact (O.is i k' (by omega)).mp (by rw [VbY hb,q])
  ·intro e;have hj:=O.le j (Vbd e);have hb:j<owner.size:=by rw [O.sz];omega
   refine ⟨j,Vai.mpr (by omega),?_⟩;have eg:owner.getD j none=owner[j]:=by simp [Array.getD,hb]
   have q:=(O.is j k hj).mpr e;rw [VbY hb] at q;rw [eg,Vaw q];rfl
 refine ⟨?_,mem⟩;rw [hlive,List.pairwise_filterMap];refine List.pairwise_lt_range.imp λ{a b} hab=>?_;intro x hx y hy;cases qa:owner.getD a none with
 | none=>rw [qa] at hx;cases hx
 | some ka =>
  cases qb:owner.getD b none with
  | none=>rw [qb] at hy;cases hy
  | some kb =>
   rw [qa] at hx;rw [qb] at hy;cases hx;cases hy;exact hab
def Tb.relay(T:Tb t es l)(hl:l.length<=16){wanted:Nat}(hw:sizeAbove wanted=32) :
  ∃t' order l',t.relaid (es.map (·.1)) wanted=some (t',order)/\t'.mask=31/\t'.led=t.led/\t'.plain=t.plain/\Tb t' (order.filterMap (es[·]?)) l'/\List.Perm (l'.map (·.2)) (l.map (·.2)):=by
 have hm:Mk 31:=.inr rfl;obtain ⟨owner,js,e1,O,lj,rc⟩:=Zlg hm (es.map (·.1)) (by rw [Array.size_map,T.esize];omega);obtain ⟨live,hlive⟩ : ∃live,live=(List.range (31+1)).filterMap λj=>(owner.getD j none).map (j,·):=⟨_,rfl⟩;obtain ⟨up,mem⟩:=ZlY O live hlive;have ljl:js.length=l.length:=by rw [lj,Array.size_map,T.esize]
 have hat:∀j k,(j,k)∈live->k<l.length:=λj k h=>by
  have:=(Vat.mp ((mem j k).mp h)).1;omega
 have hes:∀k,k<l.length->es[k]?=some ((l.getD k (0,0,.none)).2):=λk hk=>by
  rw [<-Vb2,T.el,Vbc,VbM hk];simp [List.getD,hk]
 obtain ⟨l',hl'⟩ : ∃l':List En,l'=live.map λp=>(p.1,(l.getD p.2 (0,0,.none)).2):=⟨_,rfl⟩;have hnd:(live.map (·.2)).Nodup:=by
  unfold List.Nodup;rw [List.pairwise_map];refine List.Pairwise.imp_of_mem (R:=λa b=>a.1<b.1) (λ{a b} ha hb hab=>?_) up;intro z;have h1:=(mem a.1 a.2).mp ha;have h2:=(mem b.1 b.2).mp hb;rw [z,h2] at h1;have:=Vaw h1;omega
 have hperm:List.Perm (live.map (·.2)) (List.range l.length):=by
  rw [List.perm_ext_iff_of_nodup hnd List.nodup_range];intro k;rw [Vai];constructor
  ·intro h;obtain ⟨⟨j,k'⟩,hp,rfl⟩:=Vby.mp h;exact hat j k' hp
  ·intro h;refine Vby.mpr ⟨(js[k]'(by omega),k),(mem _ _).mpr (VbM (by omega)),rfl⟩
 refine ⟨{ mask:=31,place:=(live.map (·.1)).toArray,dummies:=#[],finger:=t.finger,led:=t.led,moves:=t.movedTo 31,plain:=t.plain },(live.map (·.2)).toArray,l',?_,rfl,rfl,rfl,?_,?_⟩
 ·unfold relaid;rw [hw];show laid 31 _ _ _ _ _=_;unfold laid;rw [e1];show some _=some _;rw [hlive]
 ·have oc:∀j,j∈js->Occ l' j:=λj hj=>by
   obtain ⟨k,hk,rfl⟩:=VbV.mp hj;exact ⟨_,by rw [hl'];exact Vby.mpr ⟨(js[k],k),(mem _ _).mpr (VbM hk),rfl⟩,rfl⟩
  refine ⟨hm,?_,?_,rfl,?_,λe he=>?_,λe he=>?_⟩
  ·show live.map (·.1)=_;rw [hl',VbO];rfl
  ·rw [Array.toList_filterMap];show (live.map (·.2)).filterMap (es[·]?)=_;rw [hl',VbO,List.filterMap_map];have key:∀q:List (Nat×Nat),(∀x∈q,x.2<l.length)->q.filterMap ((es[·]?) ∘ (·.2))=q.map ((·.2) ∘ λp:Nat×Nat=>((p.1,(l.getD p.2 (0,0,Value.none)).2):En)):=by
    intro q
    induction q with
    | nil=>intro _;rfl
    | cons x r ih =>
     intro h;rw [Vam,VaV,<-ih λy hy=>h y (Vao _ hy)];simp only [Function.comp];rw [hes x.2 (h x Van)]
   exact key live λx hx=>hat x.1 x.2 hx
  ·rw [hl',List.pairwise_map];exact up
  ·rw [hl'] at he;obtain ⟨⟨j,k⟩,hp,rfl⟩:=Vby.mp he;exact O.le j (Vbd ((mem j k).mp hp))
  ·rw [hl'] at he;obtain ⟨⟨j,k⟩,hp,rfl⟩:=Vby.mp he;have hk:=hat j k hp;refine (rc k _ j ?_ ((mem j k).mp hp)).mono oc;rw [Array.toList_map,T.el,VbO,Vbc,VbM hk];simp [List.getD,hk]
 ·rw [hl',VbO];have e:l.map (·.2)=(List.range l.length).map λk=>(l.getD k (0,0,Value.none)).2:=by
   apply List.ext_getElem?;intro i;by_cases h:i<l.length
   ·simp [h]
   ·simp [h]
  rw [e];have:=hperm.map λk=>(l.getD k (0,0,Value.none)).2;rw [VbO] at this;exact this
end
section
variable{prog:Program}{w:World}{A:Around}{E:Value->Shared->Prop}{s:Shared}
def items_int{ks:List Int}{vs:List Value}(h:ItemsAre (intKind prog w) ks vs):∀v∈vs,∃i t,v=Value.int i t:=by
 induction h with
 | nil=>exact λ_ h=>(Vb1 h).elim
 | @cons k v ks vs h1 _ ih =>
  intro u hu;rcases Vaq.mp hu with rfl | hu
  ·cases u with
   | int i t=>exact ⟨i,t,rfl⟩
   | _=>exact absurd h1 (by intro z;exact Bool.noConfusion z)
  ·exact ih u hu
def Zh9{a:Addr}{ks:List Int}{Q:Bool->Shared->Prop}(hk:IsTupleKey (intKind prog w) s.heap ks a)(h:Q false s):wpAny (model prog w) A (ofAClassStatement 8 (.ref a)) Q E s:=by
 obtain ⟨o,items,n,ho,hc,hd,hi⟩:=hk;have hT:s.TypeIs (.ref a) "tuple" := ⟨o,ho,hc⟩;have hint:=items_int hi;unfold ofAClassStatement;refine VaC (Vbl hT ?_);dsimp only;rw [if_pos (by decide)];refine VaC (VaI ?_);simp only [Bool.not_true,VbH,Vbg];refine VaC (wpAny_seqItems ho hd ?_);refine VaC ?_;rw [<-Array.forIn_toList];refine wpAny_forIn_list _ (λrest r s'=>r.1=none/\s'=s/\∀v∈rest,∃i t,v=Value.int i t) _ ?_ ?_ _ _ ⟨rfl,rfl,hint⟩
 ·rintro v rest r s' ⟨hr,rfl,hall⟩;obtain ⟨i,t,rfl⟩:=hall v Van;refine VaC (VaI ?_);simp only [VbH,Vbg];exact VaI ⟨rfl,rfl,λu hu'=>hall u (Vao _ hu')⟩
 ·rintro ⟨r1,r2⟩ s' ⟨hr,rfl,_⟩;simp only at hr;subst hr;exact VaI h
def Zqs{x:Addr}{ks:List Int}{stored:List Value}{Q:Bool->Shared->Prop}(hx:IsTupleKey (intKind prog w) s.heap ks x)(hs:∀y∈stored,∃b ks',y=Value.ref b/\IsTupleKey (intKind prog w) s.heap ks' b)(h:Q false s) :
  wpAny (model prog w) A (searchCouldBeSeen (.ref x) stored) Q E s:=by
 unfold searchCouldBeSeen;refine VaC ?_;refine wpAny_forIn_list _ (λrest r s'=>r.1=none/\s'=s/\∀v∈rest,∃b ks',v=Value.ref b/\IsTupleKey (intKind prog w) s.heap ks' b) _ ?_ ?_ _ _ ⟨rfl,rfl,hs⟩
 ·rintro v rest r s' ⟨hr,rfl,hall⟩;obtain ⟨b,ks',rfl,hb⟩:=hall v Van;dsimp only;split
  ·exact VaI ⟨rfl,rfl,λu hu'=>hall u (Vao _ hu')⟩
  ·refine VaC (wpAny_eqIsQuiet_tuple hx ?_);simp only [Bool.not_true,VbH,Vbg];refine VaC (wpAny_eqIsQuiet_tuple hb ?_);simp only [Bool.not_true,VbH,Vbg];refine VaC (Zh9 hx ?_);simp only [VbH,Vbg];refine VaC (Zh9 hb ?_);simp only [VbH,Vbg];exact VaI ⟨rfl,rfl,λu hu'=>hall u (Vao _ hu')⟩
 ·rintro ⟨r1,r2⟩ s' ⟨hr,rfl,_⟩;simp only at hr;subst hr;exact VaI h
def ZkA{a:Addr}{ks:List Int}{Q:Bool->Shared->Prop}(hk:IsTupleKey (intKind prog w) s.heap ks a)(h:Q true s):wpAny (model prog w) A (hashByValue 8 (.ref a)) Q E s:=by
 have hT:=hk.typeIs;obtain ⟨o,items,n,ho,hc,hd,hi⟩:=hk;have hint:=items_int hi;unfold hashByValue;refine VaC (wpAny_specialOf hT F.slot_tuple_hash.lookup ?_);dsimp only;refine VaC (wpAny_seqItems ho hd ?_);refine VaC ?_;show wpAny _ _ (forIn items _ _) _ _ s;rw [<-Array.forIn_toList];refine wpAny_forIn_list _ (λrest r s'=>r.1=none/\s'=s/\∀v∈rest,∃i t,v=Value.int i t) _ ?_ ?_ _ _ ⟨rfl,rfl,hint⟩
 ·rintro v rest r s' ⟨hr,rfl,hall⟩;obtain ⟨i,t,rfl⟩:=hall v Van;refine VaC (VaI ?_);simp only [Bool.not_true,VbH,Vbg];exact VaI ⟨rfl,rfl,λu hu'=>hall u (Vao _ hu')⟩
 ·rintro ⟨r1,r2⟩ s' ⟨hr,rfl,_⟩;simp only at hr;subst hr;exact VaI h
end
section
variable{prog:Program}{w:World}{A:Around}{E:Value->Shared->Prop}{s:Shared}
def El(prog:Program)(w:World)(h:Heap)(p:Int×Value)(ks:List Int):Prop:=∃x:Addr,p.2=.ref x/\IsTupleKey (intKind prog w) h ks x/\p.1=tupleKeyHash (intKind prog w) ks
def El.inj{h:Heap}{p:Int×Value}{a b:List Int}(ha:El prog w h p a)(hb:El prog w h p b):a=b:=by
 obtain ⟨x,e,hx,_⟩:=ha;obtain ⟨y,e',hy,_⟩:=hb;rw [e] at e';cases e';exact hx.inj hy
def Tb.fits{t:SetTable}{es:Array (Int×Value)}{l:List En}(T:Tb t es l)(hl:l.length<=t.mask):t.fits es.size=true:=by
 unfold SetTable.fits SetTable.fill;rw [T.du,T.size,T.esize];simp;exact hl
def Tb.odd{t:SetTable}{es:Array (Int×Value)}{l:List En}(T:Tb t es l):t.gaveWay=false:=by
 unfold SetTable.gaveWay;rcases T.ms with e | e<;>rw [e]<;>rfl
def Zsu{t:SetTable}{es:Array (Int×Value)}{l:List En}(T:Tb t es l):HAt l (λi=>(es[i]?.map (·.1)).getD 0):=λi e h=>by
 show ((es[i]?.map (·.1)).getD 0)=_;rw [<-Vb2,T.el,Vbc,h];rfl
def Zmd{a x:Addr}{es:Array (Int×Value)}{ep:Nat}{t:SetTable}{o:Obj}{l:List En}{ks:List Int}(hu:A.units<cLine)(ho:s.heap.get? a=some o)(hd:o.data=.set es ep t)(T:Tb t es l)(hl:l.length<=t.mask)
  (hel:∀e∈l,∃ks',El prog w s.heap e.2 ks') (hx:IsTupleKey (intKind prog w) s.heap ks x) {R:SetFound->Shared->Prop} :
  ∀(n fuel:Nat) (stand:Option Probe),n<fuel->n<=10*(13+t.mask)->(stand.getD (t.probeStart (tupleKeyHash (intKind prog w) ks))).dummy=none->ZdS t.mask (Occ l) n (stand.getD (t.probeStart (tupleKeyHash (intKind prog w) ks))) ->
   ((∃e∈l,El prog w s.heap e.2 ks/\Rch t.mask (Occ l) (stand.getD (t.probeStart (tupleKeyHash (intKind prog w) ks))) e.1)/\R (.there none) s)\/((∀e∈l,¬El prog w s.heap e.2 ks)/\∀j,¬Occ l j->Rch t.mask (Occ l) (stand.getD (t.probeStart (tupleKeyHash (intKind prog w) ks))) j->R (.free j false) s) ->
   wpAny (model prog w) A (setSearchFrom a (.ref x) (tupleKeyHash (intKind prog w) ks) true fuel stand) R E s:=by
 intro n
 induction n using Nat.strongRecOn with
 | ind n ih =>
  intro fuel stand hf hn hdm hE hR;obtain ⟨fuel,rfl⟩ : ∃k,fuel=k+1:=⟨fuel - 1,by omega⟩;unfold setSearchFrom;refine VaC (Vb3 ho hd (T.fits hl) ?_);dsimp only;rw [T.odd];simp only [VbH,Vbg];generalize hp:stand.getD (t.probeStart (tupleKeyHash (intKind prog w) ks))=p at *;rcases Zf1 (h:=tupleKeyHash (intKind prog w) ks) T (Zsu T) n (10*turns t.mask) p hdm hE (by unfold turns;omega) with ⟨j,e1,e2,e3,e4⟩ | ⟨i,e,p',n',e1,e2,e3,e4,e5,e6,e7,e8,e9⟩
  ·generalize hm:t.probe _ (tupleKeyHash (intKind prog w) ks) p=met;have hm':met=some (.empty j none):=hm.symm.trans e1;subst hm';dsimp only;refine VaI ?_;rcases hR with ⟨⟨e,he,hel',hr⟩,_⟩ | ⟨_,hR⟩
   ·obtain ⟨_,_,_,hh⟩:=hel';exact absurd hr (e4 e he hh)
   ·exact hR j e2 e3
  ·generalize hm:t.probe _ (tupleKeyHash (intKind prog w) ks) p=met;have hm':met=some (.candidate e.1 i (adv t.mask p')):=hm.symm.trans e1;subst hm';dsimp only;have hmem:e∈l:=Vbd e2;obtain ⟨ks',y,ey,hy,hyh⟩:=hel e hmem;have hes:es[i]?=some e.2:=by rw [<-Vb2,T.el,Vbc,e2];rfl
   have hes':es[i]?=some (e.2.1,Value.ref y):=by rw [hes,<-ey]
   have hnext:∀stand':Option Probe,stand'.getD (t.probeStart (tupleKeyHash (intKind prog w) ks))=adv t.mask p'->¬ks'=ks->wpAny (model prog w) A (setSearchFrom a (.ref x) (tupleKeyHash (intKind prog w) ks) true fuel stand') R E s:=λstand' hst hne=>by
    refine ih n' e6 fuel stand' (by omega) (by omega) ?_ ?_ ?_
    ·rw [hst];unfold adv;split<;>exact e5
    ·rw [hst];exact e7
    ·rw [hst];rcases hR with ⟨⟨e',he',hel',hr⟩,hq⟩ | ⟨hno,hR⟩
     ·left;refine ⟨⟨e',he',hel',e9 e' he' hel'.choose_spec.2.2 (λz=>?_) hr⟩,hq⟩;subst z;exact hne (El.inj ⟨y,ey,hy,hyh⟩ hel')
     ·exact .inr ⟨hno,λj hj hr=>hR j hj (e8 j hr)⟩
   have hthere:ks'=ks->R (.there none) s:=λhk=>by
    subst hk;rcases hR with ⟨_,hq⟩ | ⟨hno,_⟩
    ·exact hq
    ·exact absurd ⟨y,ey,hy,hyh⟩ (hno e hmem)
   rw [hes'];dsimp only;have hst:∀y∈List.map (λx=>x.2) (Array.filter (λx=>x.1==tupleKeyHash (intKind prog w) ks) es).toList,∃b ks',y=Value.ref b/\IsTupleKey (intKind prog w) s.heap ks' b:=λy hy=>by
    obtain ⟨q,hq,rfl⟩:=Vby.mp hy;rw [Array.toList_filter] at hq;have hq:=(List.mem_filter.mp hq).1;rw [T.el] at hq;obtain ⟨e',he',rfl⟩:=Vby.mp hq;obtain ⟨k2,y2,h1,h2,_⟩:=hel e' he';exact ⟨y2,k2,h1,h2⟩
   have hsm:t.sameMemory t.moves t.mask=some true:=by unfold SetTable.sameMemory;simp
   cases hled:t.led
   all_goals simp only [Bool.not_false,Bool.not_true,VbH,Vbg,Vbh]
   ·refine VaC (Zqs hx hst ?_);simp only [VbH,Vbg];refine VaC (VaD (wpAny_eqBool_tuple hu hy hx ?_));refine VaC (Vb3 ho hd (T.fits hl) ?_);dsimp only;by_cases hk:ks'=ks
    ·rw [Vbt hk];simp only [Bool.and_true,Vbh];exact VaI (hthere hk)
    ·rw [Vaa hk];simp only [Bool.and_false,VbH,Vbg];rw [hsm];dsimp only;simp only [Vbh];rw [T.live e2];dsimp only;rw [hes'];dsimp only;refine wpAny_bind (wpAny_of_eq (show isSame (.ref y) (.ref y)=pure true by unfold isSame;simp) ?_);refine VaC (VaI ?_);exact hnext (some _) rfl hk
   ·refine VaC (VaD (wpAny_eqBool_tuple hu hy hx ?_));refine VaC (Vb3 ho hd (T.fits hl) ?_);dsimp only;by_cases hk:ks'=ks
    ·rw [Vbt hk];simp only [Bool.and_true,Vbh];exact VaI (hthere hk)
    ·rw [Vaa hk];simp only [Bool.and_false,VbH,Vbg];rw [hsm];dsimp only;simp only [Vbh];rw [T.live e2];dsimp only;rw [hes'];dsimp only;refine wpAny_bind (wpAny_of_eq (show isSame (.ref y) (.ref y)=pure true by unfold isSame;simp) ?_);refine VaC (VaI ?_);exact hnext (some _) rfl hk
end
section
variable{prog:Program}{w:World}{A:Around}{E:Value->Shared->Prop}{s:Shared}
def SetT(prog:Program)(w:World)(h:Heap)(a:Addr)(kss:List (List Int)):Prop:=∃o es ep t l,h.get? a=some o/\o.ExactSet/\o.data=.set es ep t/\Tb t es l/\(t.mask=7->l.length<=4)/\l.length<=16 /\
 (∀e∈l,∃ks∈kss,El prog w h e.2 ks)/\(∀ks∈kss,∃e∈l,El prog w h e.2 ks)/\l.length=kss.length
def El.keeps{h h':Heap}{a:Addr}{p:Int×Value}{ks:List Int}{o:Obj}{es:Array (Int×Value)}{ep:Nat}{t:SetTable}(x:El prog w h p ks)(ho:h.get? a=some o)(hd:o.data=.set es ep t)(hs:Heap.SameBut a h h'):El prog w h' p ks:=by
 obtain ⟨x,e,⟨o',items,n,ho',hc,hd',hi⟩,hh⟩:=x;have hne:x≠a:=by
  rintro rfl;obtain rfl:o'=o:=Vaw (ho'.symm.trans ho);rw [hd] at hd';exact nomatch hd'
 exact ⟨x,e,⟨o',items,n,(hs.2 x hne).trans ho',hc,hd',hi⟩,hh⟩
def ZqW{m:Nat}{occ:Nat->Prop}{p:Probe}{j:Nat}(r:Rch m occ p j):p.j+p.more<=m->j<=m:=by
 induction r with
 | here p=>exact λh=>by omega
 | @next p j _ _ ih =>
  intro h;refine ih ?_;unfold adv;split
  ·simp only [];omega
  ·have hi:(leap m p.i p.perturb).1<=m:=by
    unfold leap;have:=Nat.mod_lt (p.i*5+1+p.perturb/32) (show 0<m+1 by omega);simp only [];omega
   have:=ZfC hi;simp only [];omega
def Znv(t:SetTable)(j:Nat):(t.put j).1.mask=t.mask/\(t.put j).1.plain=t.plain:=⟨rfl,rfl⟩
def Zsj{a x:Addr}{ks:List Int}{kss:List (List Int)}{Q:Bool->Shared->Prop}(hu:A.units<cLine)(hS:SetT prog w s.heap a kss)(hx:IsTupleKey (intKind prog w) s.heap ks x)(hn:kss.length+1<=16)
  (h:∀b h',Heap.SameBut a s.heap h'->SetT prog w h' a (if ks∈kss then kss else kss++[ks])->Q b { s with heap:=h' }) :
  wpAny (model prog w) A (setAddHashed a (.ref x) (tupleKeyHash (intKind prog w) ks)) Q E s:=by
 obtain ⟨o,es,ep,t,l,ho,hex,hd,T,h7,h16,hl1,hl2,hlen⟩:=hS;have hmk:l.length<=t.mask:=by rcases T.ms with e | e<;>rw [e]<;>omega
 have hm0:7<=t.mask:=by rcases T.ms with e | e<;>omega
 unfold setAddHashed setAddHashedIn;refine VaD (VaC (Vb3 ho hd (T.fits hmk) ?_));dsimp only;rw [show byScan (.ref x) es=false from rfl];simp only [VbH,Vbg];obtain ⟨e,he,hf⟩:=Zib (m:=t.mask) (js:=l.map (·.1)) (by rw [VaW];exact hmk);have hE:ZdS t.mask (Occ l) (10*(13+t.mask)) (t.probeStart (tupleKeyHash (intKind prog w) ks)):=by
  rw [Zmp];exact ends T.ms (by have:=Nat.mod_lt (bits (tupleKeyHash (intKind prog w) ks)) (show 0<t.mask+1 by omega);omega) (Zk7 _) he λ⟨e',he',q⟩=>hf (Vby.mpr ⟨e',he',q⟩)
 have hb:10*(13+t.mask)<100000:=by rcases T.ms with e | e<;>rw [e]<;>decide
 refine VaC (show wpAny _ _ (setSearchFrom a (.ref x) (tupleKeyHash (intKind prog w) ks) true 100000 none) _ _ _ from Zmd hu ho hd T hmk (λe he=>let ⟨k,_,q⟩:=hl1 e he;⟨k,q⟩) hx (10*(13+t.mask)) 100000 none hb (VaL _) rfl hE ?_);by_cases hk:ks∈kss
 ·left;obtain ⟨e,he,hel⟩:=hl2 ks hk;refine ⟨⟨e,he,hel,?_⟩,?_⟩
  ·have:=T.rc e he;rw [hel.choose_spec.2.2] at this;exact this
  ·refine VaI ?_;have:=h false s.heap (Heap.SameBut.refl a s.heap) (by rw [if_pos hk];exact ⟨o,es,ep,t,l,ho,hex,hd,T,h7,h16,hl1,hl2,hlen⟩);exact this
 ·right;refine ⟨λe he hel=>?_,λj hj hr=>?_⟩
  ·obtain ⟨ks',hk',q⟩:=hl1 e he;have:=El.inj hel q;subst this;exact hk hk'
  ·dsimp only;refine VaC (Vb3 ho hd (T.fits hmk) ?_);dsimp only;have hjm:j<=t.mask:=by
    have hi:bits (tupleKeyHash (intKind prog w) ks)%(t.mask+1)<=t.mask:=by
     have:=Nat.mod_lt (bits (tupleKeyHash (intKind prog w) ks)) (show 0<t.mask+1 by omega);omega
    refine ZqW hr ?_;show bits (tupleKeyHash (intKind prog w) ks)%(t.mask+1)+(runEnd t.mask (bits (tupleKeyHash (intKind prog w) ks)%(t.mask+1)) - bits (tupleKeyHash (intKind prog w) ks)%(t.mask+1))<=t.mask;have:=ZfC hi;omega
   obtain ⟨l',hp,T'⟩:=T.put (x:=.ref x) hjm hj hr;obtain ⟨em,epl⟩:=Znv t j;generalize ht':(t.put j).1=t' at T' em epl ⊢;generalize hes':insertAt es (t.put j).2 (tupleKeyHash (intKind prog w) ks,Value.ref x)=es' at T' ⊢;have ll':l'.length=l.length+1:=by rw [hp.length_eq];rfl
   have hmk':l'.length<=t'.mask:=by rw [em,ll'];rcases T.ms with e | e<;>rw [e]<;>omega
   have cont:wpAny (model prog w) A (do
     storeSet a es' t'
     if (!false&&t'.tooFull)=true then do
      setRelay a (grown (es.size+1))
      pure true
     else pure true) Q E s:=by
    have hg:(s.heap.update a (Obj.putSet es' t')).get? a=some { o with data:=.set es' (ep+1) t' }:=by
     have:=Vbo (Obj.putSet es' t') ho (by rw [putSet_of es' t' hd];rfl);rw [putSet_of es' t' hd] at this;exact this
    have hsb:=Heap.SameBut.update s.heap a (Obj.putSet es' t');have hx1:El prog w (s.heap.update a (Obj.putSet es' t')) (tupleKeyHash (intKind prog w) ks,Value.ref x) ks:=El.keeps ⟨x,rfl,hx,rfl⟩ ho hd hsb;have g1:∀e∈l',∃k∈kss++[ks],El prog w (s.heap.update a (Obj.putSet es' t')) e.2 k:=λe he=>by
     rcases Vaq.mp (hp.mem_iff.mp he) with rfl | he
     ·exact ⟨ks,by simp,hx1⟩
     ·obtain ⟨k,h1,h2⟩:=hl1 e he;exact ⟨k,Vas _ h1,h2.keeps ho hd hsb⟩
    have g2:∀k∈kss++[ks],∃e∈l',El prog w (s.heap.update a (Obj.putSet es' t')) e.2 k:=λk hk'=>by
     rcases Var.mp hk' with hk' | hk'
     ·obtain ⟨e,h1,h2⟩:=hl2 k hk';exact ⟨e,hp.mem_iff.mpr (Vao _ h1),h2.keeps ho hd hsb⟩
     ·rw [VbU] at hk';subst hk';exact ⟨_,hp.mem_iff.mpr Van,hx1⟩
    have hz:es'.size<=sizeLine:=by rw [T'.esize,ll',VaP];omega
    refine VaC (wpAny_storeSet_of ho hd ?_ hz);have hfill:t'.fill=l'.length:=by unfold SetTable.fill;rw [T'.du,T'.size];rfl
    by_cases hfull:t'.tooFull=true
    ·rw [hfull];simp only [Bool.not_false,Bool.and_true,Vbh];unfold SetTable.tooFull at hfull;rw [hfill,em,ll'] at hfull;have hfull:=of_decide_eq_true hfull;have e7:t.mask=7:=by
      rcases T.ms with e | e
      ·exact e
      ·rw [e] at hfull;omega
     have h4:=h7 e7;rw [e7] at hfull;have e4:l.length=4:=by omega
     have ew:es.size+1=5:=by rw [T.esize,e4]
     rw [ew];obtain ⟨t2,order,l2,r1,r2,r3,r4,T2,hp2⟩:=T'.relay (by omega) (wanted:=grown 5) (by decide);have hmap:∀e∈l2,∃e'∈l',e'.2=e.2:=λe he=>by
      have:=hp2.mem_iff.mp (Vby.mpr ⟨e,he,rfl⟩);obtain ⟨e',h1,h2⟩:=Vby.mp this;exact ⟨e',h1,h2⟩
     have hmap':∀e∈l',∃e'∈l2,e'.2=e.2:=λe he=>by
      have:=hp2.mem_iff.mpr (Vby.mpr ⟨e,he,rfl⟩);obtain ⟨e',h1,h2⟩:=Vby.mp this;exact ⟨e',h1,h2⟩
     have ll2:l2.length=l'.length:=by have:=hp2.length_eq;simpa using this
     refine VaC ?_;unfold setRelay;refine VaC (Vb3 hg rfl (T'.fits hmk') ?_);dsimp only;rw [if_neg (by decide),r1];refine VaC ?_;have hsz:(order.filterMap (es'[·]?)).size=es'.size:=by rw [T2.esize,ll2,T'.esize]
     show wpAny (model prog w) A (if ((order.filterMap (es'[·]?)).size != es'.size)=true then _ else _) _ _ _
     rw [if_neg (by rw [hsz];simp)];refine VaI ?_;dsimp only;have hg2:((s.heap.update a (Obj.putSet es' t')).update a (Obj.putSet (order.filterMap (es'[·]?)) t2)).get? a=some { o with data:=.set (order.filterMap (es'[·]?)) (ep+1+1) t2 }:=by
      have:=Vbo (Obj.putSet (order.filterMap (es'[·]?)) t2) hg (by rw [putSet_of _ t2 rfl];rfl);rw [putSet_of _ t2 rfl] at this;exact this
     have hsb2:=Heap.SameBut.update (s.heap.update a (Obj.putSet es' t')) a (Obj.putSet (order.filterMap (es'[·]?)) t2);refine wpAny_storeSet_of hg rfl ?_ (by rw [hsz];exact hz);refine VaI (h true _ (hsb.trans hsb2) ?_);rw [if_neg hk];refine ⟨_,_,_,t2,l2,hg2,hex,rfl,T2,λz=>by rw [r2] at z;omega,by omega,λe he=>?_,λk hk'=>?_,by rw [ll2,ll',hlen];simp⟩
     ·obtain ⟨e',h1,h2⟩:=hmap e he;obtain ⟨k,h3,h4⟩:=g1 e' h1;rw [h2] at h4;exact ⟨k,h3,h4.keeps hg rfl hsb2⟩
     ·obtain ⟨e,h1,h2⟩:=g2 k hk';obtain ⟨e',h3,h4⟩:=hmap' e h1;rw [<-h4] at h2;exact ⟨e',h3,h2.keeps hg rfl hsb2⟩
    ·rw [Bool.eq_false_iff.mpr hfull];simp only [Bool.not_false,Bool.and_false,VbH,Vbg];refine VaI (h true _ hsb ?_);rw [if_neg hk];refine ⟨_,es',ep+1,t',l',hg,hex,rfl,T',λz=>?_,by omega,g1,g2,by rw [ll',hlen];simp⟩;unfold SetTable.tooFull at hfull;rw [hfill,z] at hfull;have:=of_decide_eq_false (Bool.eq_false_iff.mpr hfull);omega
   split
   ·refine VaC (ZkA hx ?_);simp only [Vbh];exact cont
   ·refine VaC (VaI ?_);simp only [Vbh];exact cont
end
end L2.Sx
namespace L2.Sx
open PySem PySem.SetTable PyProof.Rows
open Dl (firsts)
def ZhX(kf:Nat->List Int):∀i,(firsts kf i).length<=i
 | 0=>VaL _
 | i+1=>by
  have:=ZhX kf i;unfold firsts;split
  ·omega
  ·simp;omega
section
variable{prog:Program}{w:World}{A:Around}{R:Result->Shared->Prop}{I:Addr}{fp wr:List Addr}{G:Array GenState->Array GenState->Prop}{n:Nat}{P:Nat->Value->Prop}{St:Nat->Shared->Prop}
def SetT.keep{h h':Heap}{a:Addr}{kss:List (List Int)}(hS:SetT prog w h a kss)(ha:∀o,h.get? a=some o->h'.get? a=some o)(hk:∀b o,h.get? b=some o->o.cls=.type "tuple"->h'.get? b=some o):SetT prog w h' a kss:=by
 obtain ⟨o,es,ep,t,l,ho,hex,hd,T,h7,h16,hl1,hl2,hlen⟩:=hS;have up:∀{e ks},El prog w h e ks->El prog w h' e ks:=λ{e ks} hel=>by
  obtain ⟨x,e1,⟨o',items,n,ho',hc,r⟩,hh⟩:=hel;exact ⟨x,e1,⟨o',items,n,hk x o' ho' hc,hc,r⟩,hh⟩
 exact ⟨o,es,ep,t,l,ha o ho,hex,hd,T,h7,h16,λe he=>let ⟨k,h1,h2⟩:=hl1 e he;⟨k,h1,up h2⟩,λk hk'=>let ⟨e,h1,h2⟩:=hl2 k hk';⟨e,h1,up h2⟩,hlen⟩
def SetT.cls{h:Heap}{a:Addr}{kss:List (List Int)}(hS:SetT prog w h a kss):∀o,h.get? a=some o->o.cls≠.type "tuple" := λo' ho' hc=>by
 obtain ⟨o,es,ep,t,l,ho,hex,_⟩:=hS;rw [ho] at ho';cases ho';rw [hex.1] at hc;exact absurd hc (by decide)
def Zqp(W:WalksS prog w A.in1 I fp wr G n P St)(S:Addr)(hSf:S∉fp)(hwr:∀i s,St i s->∀b∈wr,∀o,s.heap.get? b=some o->o.cls≠.type "tuple")(kf:Nat->List Int)(hu:A.in1.units<cLine)(h0:Heap)
  (hval:∀i v,P i v->∃x,v=.ref x/\IsTupleKey (intKind prog w) h0 (kf i) x) (hb:n<=16) :
  ∀(k i:Nat) (s:Shared),n - i=k->i<=n->St i s->SetT prog w s.heap S (firsts kf i)->(∀b o,h0.get? b=some o->o.cls=.type "tuple"->s.heap.get? b=some o) ->
   (∀s',Moved (S::wr) G s s'->SetT prog w s'.heap S (firsts kf n)->R (.ok (.ret .none)) s')->codeAny (model prog w) A (.builtin "set.update.loop" ⟨[.ref S,.ref I],[]⟩) R s:=by
 have hSw:S∉wr:=λh=>hSf (W.sub _ h);have hsub:∀b∈wr,b∈S::wr:=λb hb=>Vao _ hb;have mv:∀{i s s'},St i s->Moved wr G s s'->∀b o,s.heap.get? b=some o->o.cls=.type "tuple"->s'.heap.get? b=some o:=λ{i s s'} st m b o e hc=>m.heap b o (λz=>hwr i s st b z o e hc) e;intro k
 induction k with
 | zero =>
  intro i s hk hi hst hS _ hR;obtain rfl:i=n:=by omega
  refine VbE F.entry_set_update_loop ?_;rw [Vb4 F.plain_set_update_loop _];show wpAny _ A.in1 (pyNext (.ref I) >>= _) _ _ s;refine VaC (W.done s _ _ hst λs' hm=>?_);show wpAny _ A.in1 (ret Value.none) _ _ s';exact VaI (hR s' (hm.mono hsub) (hS.keep (λo e=>hm.heap S o hSw e) (mv hst hm)))
 | succ k ih =>
  intro i s hk hi hst hS h0s hR;have hlt:i<n:=by omega
  refine VbE F.entry_set_update_loop ?_;rw [Vb4 F.plain_set_update_loop _];show wpAny _ A.in1 (pyNext (.ref I) >>= _) _ _ s;refine VaC (W.item i s _ _ hlt hst λv s' hP hst' hm=>?_);obtain ⟨x,rfl,hx0⟩:=hval i v hP;have hS':=hS.keep (λo e=>hm.heap S o hSw e) (mv hst hm);have h0s':∀b o,h0.get? b=some o->o.cls=.type "tuple"->s'.heap.get? b=some o:=λb o e hc=>mv hst hm b o (h0s b o e hc) hc;have hx:IsTupleKey (intKind prog w) s'.heap (kf i) x:=by
   obtain ⟨o,items,m,ho,hc,r⟩:=hx0;exact ⟨o,items,m,h0s' x o ho hc,hc,r⟩
  show wpAny _ A.in1 (holding [Value.ref x] (setAdd S (.ref x)) >>= _) _ _ s';refine VaC (VaD ?_);unfold setAdd;refine VaD ?_;refine VaC (wpAny_pyHash_tuple hu hx ?_);refine Zsj (s:={ s' with toks:=s'.toks+((kf i).length+1) }) hu hS' hx (by have:=ZhX kf i;omega) λb h' hsb hS2=>?_
  have tk:∀b o,s'.heap.get? b=some o->o.cls=.type "tuple"->h'.get? b=some o:=λb o e hc=>by
   rw [hsb.2 b (λz:b=S=>by subst z;exact hS'.cls o e hc)];exact e
  refine VaI ⟨plainId_quiet F.plain_set_update_loop _,ih (i+1) _ (by omega) hlt (W.frame _ s' _ _ hst' (Nat.le_add_right _ _) λb hb' o e=>?_) hS2 (λb o e hc=>tk b o (h0s' b o e hc) hc) λs'' hm'' hS''=>?_⟩
  ·rw [hsb.2 b (λz:b=S=>hSf (by rw [<-z];exact hb'))];exact e
  ·refine hR s'' (Moved.trans W.gtrans ((hm.mono hsub).then_heap (Nat.le_add_right _ _) λb o hb' e=>?_) hm'') hS'';rw [hsb.2 b (λz:b=S=>hb' (by rw [z];exact Van))];exact e
end
open Dl (firsts)
section
variable{prog:Program}{w:World}{A:Around}{E:Value->Shared->Prop}{s:Shared}
abbrev Zf6(led:Bool):Obj:={ cls:=.type "set", dict:=none,data:=.set #[] 0 (.fresh 0 0 led) }
def ZmT{h:Heap}{a:Addr}{led:Bool}(ho:h.get? a=some (Zf6 led)):SetT prog w h a [] :=
 ⟨_,#[],0,.fresh 0 0 led,[],ho,⟨rfl,rfl,rfl⟩,rfl,⟨.inl rfl,rfl,rfl,rfl,.nil,λ_ h=>(Vb1 h).elim,λ_ h=>(Vb1 h).elim⟩,λ_=>by decide,by decide,λ_ h=>(Vb1 h).elim,λ_ h=>(Vb1 h).elim,rfl⟩
set_option maxHeartbeats 8000000 in
def call_set{l:Addr}{items:Array Value}{kf:Nat->List Int}{Q:Value->Shared->Prop}(hh:A.handled=none)(hu:A.units+20<cLine)(hl:s.heap.IsList l items)(hi:∀i v,items[i]?=some v->∃x,v=.ref x/\IsTupleKey (intKind prog w) s.heap (kf i) x)(hb:items.size<=16)
  (h:∀(h':Heap) (tk:Nat),SetT prog w h' s.heap.objs.size (firsts kf items.size)->(∀b o,b<s.heap.objs.size->s.heap.get? b=some o->h'.get? b=some o)->Q (.ref s.heap.objs.size) { s with heap:=h',toks:=tk }) :
  wpAny (model prog w) A (call (.type "set") [.ref l]) Q E s:=by
 obtain ⟨c,tl,hmro⟩:=F.called_set.mro;have hmade:=F.called_set.made;have hsub:=F.called_set.sub;refine Va2 (codeAny_of_tree ?_);show wpAny _ _ (callAny (.type "set") _) _ _ _;refine VaI ⟨VbD _ (by decide +kernel),VbE F.entry_type_call ?_⟩;rw [Around.under_plain (weight_type_call_type "set" [.ref l] []) rfl];have h1:=F.called_set.notType;have h2:=F.called_set.canCreate;have hct:=F.typeCall_set_1 (.ref l)
 repeat (any_goals (first | assumption | wp_step))
 refine Va3 (code_set_new_1 (.ref l) (E:=E) (Q₁:=λobj s₁=>∃led:Bool,obj=.ref s.heap.objs.size/\s₁={ s with heap:=s.heap.push (Zf6 led) }) λled=>⟨led,rfl,rfl⟩) λr s₁ hr=>?_
 cases r with
 | error e=>exact hr
 | ok fl =>
  cases fl with
  | next=>exact hr.elim
  | brk=>exact hr.elim
  | cont=>exact hr.elim
  | ret obj =>
   obtain ⟨led,rfl,rfl⟩:=hr;have hS:(s.heap.push (Zf6 led)).get? s.heap.objs.size=some (Zf6 led):=VaK _ rfl;have hT:Shared.TypeIs { s with heap:=s.heap.push (Zf6 led) } (.ref s.heap.objs.size) "set" := ⟨_,hS,rfl⟩
   have hli:=F.called_set.init.lookup;have hbi:=F.called_set.init.bind (.ref s.heap.objs.size)
   repeat (any_goals (first | assumption | wp_step))
   refine Va3 (VbC (R:=wants (λr s₂=>r=.none/\∃h' tk,s₂={ s with heap:=h',toks:=tk }/\SetT prog w h' s.heap.objs.size (firsts kf items.size) /\
     (∀b o,b<s.heap.objs.size->s.heap.get? b=some o->h'.get? b=some o)) E) F.called_set.init.plain F.entry_set_init (check_set_init_1 hT ?_)) λr₂ s₂ hr₂=>?_
   ·obtain ⟨ol,hol,hcl,nl,hdl⟩:=hl;obtain ⟨ocls,odict,odata,oslots⟩:=ol;simp only at hcl hdl;subst hcl;subst hdl;have hol':(s.heap.push (Zf6 led)).get? l=some { cls:=.type "list", dict:=odict,data:=.seq items nl,slots:=oslots }:=VaJ _ hol;have hsls:=F.sub_list_set;have hslf:=F.sub_list_frozenset;have hne:(Value.type "list"==Value.type "dict")=false:=by decide
    have hl1:(s.heap.push (Zf6 led)).IsList l items:=⟨_,hol',rfl,nl,rfl⟩;unfold Builtin.«set.__init__» noKeywords Builtin.Frozenset.updateFrom;generalize hPI:pyIter=PI
    wp_walk
    subst hPI;refine wpAny_pyIter_list hl1 ?_;refine VaC (wpAny_runValue ?_);have hlS:l<s.heap.objs.size:=Vac hol;have hh3:A.in1.in1.in1.handled=none:=by simp [hh]
    have hneI:l≠(s.heap.push (Zf6 led)).objs.size:=by
     rw [VaX];exact Vaf (Nat.lt_succ_of_lt hlS)
    have hSf:s.heap.objs.size∉[(s.heap.push (Zf6 led)).objs.size,l]:=by
     rw [VaX];simp only [Vaq,VbU,Vb1,or_false,not_or];exact ⟨Vaf (VaY _),VaH hlS⟩
    refine Zqp ((Walks.list hh3 _ l hneI items).toS) s.heap.objs.size hSf ?hw kf (by show A.units+1+1+1<cLine;omega) s.heap hi hb (items.size - 0) 0 _ (by omega) (VaZ _)
     ⟨⟨_,VaK _ rfl,rfl,rfl⟩,(hl1.push _)⟩ ?hS0 ?hT0 ?hR
    case hw =>
     rintro i s' ⟨⟨o',ho',hc',_⟩,_⟩ b hb' o'' e' hc;rw [VbU] at hb';subst hb';rw [ho'] at e';cases e';rw [hc'] at hc;exact absurd hc (by decide)
    case hS0=>exact ZmT (VaJ _ hS)
    case hT0=>exact λb o e _=>VaJ _ (VaJ _ e)
    case hR =>
     intro s' hm hS';obtain ⟨h',g',d',tk',os'⟩:=s';have eg:g'=s.gens:=hm.gens;have ed:d'=s.drawn:=hm.drawn;have eo:os'=s.os:=hm.os;subst eg;subst ed;subst eo;show wpAny _ _ _ _ _ _;refine VaI ?_;show wpAny _ _ (ret Value.none) _ _ _;refine VaI ⟨rfl,h',tk',rfl,hS',λb o hb' e=>?_⟩;have hb1:b≠s.heap.objs.size:=Vaf hb';have hb2:b≠(s.heap.push (Zf6 led)).objs.size:=by
      rw [VaX];exact Vaf (Nat.lt_succ_of_lt hb')
     exact hm.heap b o (by simp only [Vaq,VbU,Vb1,or_false,not_or];exact ⟨hb1,hb2⟩) (VaJ _ (VaJ _ e))
   ·cases r₂ with
    | error e=>exact hr₂
    | ok fl₂ =>
     cases fl₂ with
     | next=>exact hr₂.elim
     | brk=>exact hr₂.elim
     | cont=>exact hr₂.elim
     | ret r =>
      obtain ⟨rfl,h',tk,rfl,hS',hk'⟩:=hr₂
      repeat (any_goals (first | assumption | wp_step))
      exact h _ _ hS' hk'
end
end L2.Sx
namespace L2
open PySem PySem.Spec PyProof.Rows
def ZrS:bootBuiltins "set"=some (.type "set"):=by decide +kernel
def SetN(o:Obj)(n:Nat):Prop:=o.ExactSet/\n<=16/\∃es ep t,o.data=.set es ep t/\t.fits es.size=true/\es.size=n
def ZsK(K:W.Frag)(H:Hp)(xs:List V)(kss:List (List Int)):Prop:=∀i x,xs[i]?=some x->∃a,x=.ref a/\SqT K H a ((kss.getD i []).map V.int)
def rSet(K:W.Frag):List V->Hp->VK->Prop:=λvs H Q=>∃l xs kss,vs=[.ref l]/\SqL K H l xs/\ZsK K H xs kss/\xs.length<=16/\∀a o,H a=none->SetN o (Dl.firsts (λi=>kss.getD i []) xs.length).length->Q (.ref a) (upd H a (objX a o))
def ZpK:List V->Hp->VK->Prop:=λvs H Q=>∃a o n,vs=[.ref a]/\H a=some (objX a o)/\SetN o n/\Q (.int (n:Nat)) H
section
variable{X:Cx}{k:Nat}
def ZjP{prog:Program}{w:World}:∀{ns:List Int} {its:List Value},Vals (ns.map V.int) its->ItemsAre (intKind prog w) ns its
 | [],_,.nil=>.nil
 | n::r,_,.cons h t=>by
  obtain ⟨tk,rfl⟩:=h;exact .cons (intKind_is _ _ _ _) (ZjP t)
def ZkT:∀{xs:List V} {us:List Value},Vals xs us->∀{i:Nat} {u:Value},us[i]?=some u->∃x,xs[i]?=some x/\RelV x u
 | _,_,.cons h _,0,_,e=>⟨_,rfl,by cases e;exact h⟩
 | _,_,.cons _ t,i+1,_,e=>ZkT t (by simpa using e)
 | _,_,.nil,i,_,e=>by simp at e
def Zjc:∀{xs:List V} {us:List Value},Vals xs us->us.length=xs.length
 | _,_,.nil=>rfl
 | _,_,.cons _ t=>by simp [Zjc t]
def ZlK(hr:Room k X.A):ZdR X (.type "set") (rSet X.K):=by
 intro pins s σ H vs us Q I rv ⟨l,xs,kss,e,hl,hk,h16,hq⟩;subst e;cases rv with
 | cons r1 rr =>
  cases rr;cases r1;obtain ⟨its,r,⟨o,n,e1,e2,_,e3⟩,_⟩:=I.list hl;have hlen:=Zjc r;refine L2.Sx.call_set (items:=its.toArray) (kf:=λi=>kss.getD i []) hr.hd (by have:=hr.un;omega) ⟨o,e1,e2,n,e3⟩ (λi v hv=>?_) (by simpa [hlen] using h16) λh' tk hS hkeep=>?_
  ·obtain ⟨x,hx,rx⟩:=ZkT r (i:=i) (by simpa using hv);obtain ⟨a,rfl,hT⟩:=hk i x hx;cases rx;obtain ⟨is,ri,⟨o',p1,p2,m,p3⟩,_⟩:=I.tuple hT;exact ⟨a,rfl,o',is.toArray,m,p1,p2,p3,by simpa using ZjP ri⟩
  ·have kk:∀b u,s.heap.get? b=some u->h'.get? b=some u:=λb u e=>hkeep b u (Vac e) e;obtain ⟨o',es,ep,t,l',ho,hex,hd,T,h7,hl16,_,_,hln⟩:=hS;have hmk:l'.length<=t.mask:=by rcases T.ms with e | e<;>rw [e]<;>omega
   have I':=I.laid (t':=tk) (o:=objX s.heap.objs.size o') kk (VaL _) (Zqo ho);refine ⟨.ref s.heap.objs.size,_,I',rfl,hq _ o' (I.hok.fresh (VaL _)) ⟨hex,?_,es,ep,t,hd,T.fits hmk,?_⟩⟩
   ·rw [<-hlen];have e:=hln;rw [VaQ] at e;omega
   ·rw [T.esize,hln,<-hlen];simp
def Zlt:ZdR X (.builtin "len") ZpK:=by
 intro pins s σ H vs us Q I rv ⟨a,o,n,e,hH,⟨hex,h16,es,ep,t,hd,hf,hn⟩,q⟩;subst e;cases rv with
 | cons r1 rr =>
  cases rr;cases r1;have ho:=ZmC I.hok hH;refine call_len_set ho hex hd hf (by omega) ?_;rw [hn];exact ⟨.int (n:Nat),H,I.tok _,⟨_,rfl⟩,q⟩
end
end L2
namespace L2.Ds
open PySem PySem.Spec PyProof.Rows Dl
section
variable{K:W.Frag}{mg:Str->Option Value}
def Zfk{F:Hp}:∀{xs:List V} {ds:List D} {ns:List Int},Rps K mg F xs ds->intsOf ds=some ns->xs=ns.map V.int
 | _,[],_,.nil,e=>by cases e;rfl
 | _,d::ds,ns,.cons h r,e=>by
  cases d with
  | int n =>
   cases q:intsOf ds with
   | none=>unfold intsOf at e;rw [q] at e;cases e
   | some ms =>
    unfold intsOf at e;rw [q] at e;cases e;cases h;rw [Zfk r q];rfl
  | _=>cases e
def Zjn{F H:Hp}(s:Same F H):∀{xs:List V} {ds:List D} {ks:List (List Int)},Rps K mg F xs ds->keysOf ds=some ks->ZsK K H xs ks
 | _,[],_,.nil,_=>λi x h=>by simp at h
 | _,d::ds,ks,.cons h r,e=>by
  cases d with
  | tup es =>
   cases q:intsOf es with
   | none=>unfold keysOf at e;rw [q] at e;cases e
   | some k =>
    cases q2:keysOf ds with
    | none=>unfold keysOf at e;rw [q,q2] at e;cases e
    | some kr =>
     unfold keysOf at e;rw [q,q2] at e;cases e;intro i x hx;cases i with
     | zero =>
      cases hx;cases h with
      | tup ht rt =>
       rw [Zfk rt q] at ht;exact ⟨_,rfl,Zax s ht⟩
     | succ i=>exact Zjn s r q2 i x (by simpa using hx)
  | _=>cases e
end
section
variable{X:Cx}{E:XK}{e:Expr}{te:TE}{me:ME}{k:Nat}{p p1 q p2:Pos}
def ZmF(hr:Room k X.A)(hgl:Gl X "len")(hml:X.mg "len"=none)(hgs:Gl X "set")(hms:X.mg "set"=none)(he:DE X E e te me)(h1:starEach [e] X.env=[(false,eval e X.env)]:=by rfl)
  (h2:starEach [Expr.Call (.Name "set" q) [e] [] p2] X.env=[(false,eval (.Call (.Name "set" q) [e] [] p2) X.env)]:=by rfl) :
  DE X E (.Call (.Name "len" p) [.Call (.Name "set" q) [e] [] p2] [] p1) (tCB ZpK (ZdD (tCB (rSet X.K) (ZdD te tNil)) tNil)) (o1 ZiP me):=by
 refine ⟨ZjE Zlt hgl hml Zk4 (ZbG (ZfM (ZlK hr) hgs hms ZrS (ZbG he.p Zcu h1) (by decide) (by decide) h1 rfl) Zcu h2) (by decide) (by decide) h2 rfl,?_⟩;intro F0 H0 F H σ ρ rr;refine (he.s F0 H0 F H σ ρ rr).bind λF1 H1 x dx g1 rx=>?_;show Ans X.mg E (Rp X.K X.mg) F1 H1 (ZiP dx) λQ=>rSet X.K [x] H1 λv H2=>ZpK [v] H2 Q;cases dx with
 | lst ds =>
  cases rx with
  | lst hl rl =>
   rename_i l xs;show Ans X.mg E (Rp X.K X.mg) F1 H1 (match keysOf ds with | some ks=>if ds.length<=16 then .ok (.int ((firsts (λi=>ks.getD i []) ds.length).length:Nat)) else .bad | none=>.bad) _
   cases hk:keysOf ds with
   | none=>trivial
   | some ks =>
    by_cases h16:ds.length<=16
    ·show Ans X.mg E (Rp X.K X.mg) F1 H1 (if ds.length<=16 then .ok (.int ((firsts (λi=>ks.getD i []) ds.length).length:Nat)) else .bad) _
     rw [if_pos h16];intro Q q;refine ⟨_,_,ks,rfl,g1.s.seq hl,Zjn g1.s rl hk,by rw [rl.length];exact h16,λa o hn hS=>⟨a,o,_,rfl,Zag,hS,?_⟩⟩;rw [rl.length];exact q _ _ _ (.new g1.s hn _) (.int _)
    ·show Ans X.mg E (Rp X.K X.mg) F1 H1 (if ds.length<=16 then .ok (.int ((firsts (λi=>ks.getD i []) ds.length).length:Nat)) else .bad) _
     rw [if_neg h16];trivial
 | _=>trivial
end
end L2.Ds
namespace Dl
open PySem
end Dl
namespace L2
open PySem PySem.Spec PyProof.Rows
end L2
namespace L2.Ds
open PySem PySem.Spec PyProof.Rows Dl
end L2.Ds
namespace Dl
open PySem
end Dl
namespace L2.Ds
open PySem PySem.Spec PyProof.Rows Dl
end L2.Ds
namespace Dl
open PySem
def mkS(l:List Nat):Str:=⟨l.toArray⟩
def cpL(x:Str):List Nat:=x.cps.toList
def bStr:List D->Res D
 | [.int i]=>if i.natAbs.log2<1920 then .ok (.str (Str.ofString (toString i))) else .bad
 | _=>.bad
def digB(c:Nat):Bool:=decide (48<=c)&&decide (c<=57)
def digV(l:List Nat):Nat:=l.foldl (λa c=>a*10+(c - 48)) 0
def figL(l:List Nat):Option Nat:=if l≠[]/\l.all digB=true then some (digV l) else none
def intL:List Nat->Option Int
 | []=>none
 | c::r=>if c=45 then (figL r).map (λn:Nat=>-(n:Int)) else (figL (c::r)).map λn:Nat=>(n:Int)
def ZmG:List D->Res D
 | [.str x]=>if x.length<=640 then ofO ((intL (cpL x)).map D.int) else .bad
 | _=>.bad
def Zms:List D->Res D
 | [.lst xs]=>.ok (.int xs.length)
 | [.tup xs]=>.ok (.int xs.length)
 | [.str x]=>if x.length<=LIM then .ok (.int x.length) else .bad
 | _=>.bad
def sD(f:Str->D->Res D)(a b:ME):ME:=λρ=>(a ρ).bind λx=>match x with
 | .str z=>(b ρ).bind (f z)
 | _=>.bad
def ZfX(x:Str):D->Res D
 | .str y=>.ok (.bl ((cpL x).take (cpL y).length==cpL y))
 | _=>.bad
def Zbq(c:Nat):List Nat->List (List Nat)
 | []=>[[]]
 | x::r=>if x=c then []::Zbq c r else match Zbq c r with
  | []=>[[x]]
  | w::ws=>(x::w)::ws
def Zc4(x:Str):D->Res D
 | .str y=>(match cpL y with
  | [c]=>if x.length<=LIM then .ok (.lst ((Zbq c (cpL x)).map λl=>.str (mkS l))) else .bad
  | _=>.bad)
 | _=>.bad
def ZeK(c:Nat):List Nat->Option (List Nat×List Nat)
 | []=>none
 | x::r=>if x=c then some ([],r) else (ZeK c r).map λp=>(x::p.1,p.2)
def Zpf(x:Str):D->Res D
 | .str y=>(match cpL y with
  | [c]=>if x.length<=LIM then (match ZeK c (cpL x) with
   | some (a,b)=>.ok (.tup [.str (mkS a),.str y,.str (mkS b)])
   | none=>.ok (.tup [.str x,.str Str.empty,.str Str.empty])) else .bad
  | _=>.bad)
 | _=>.bad
def txts:List D->Option (List Str)
 | []=>some []
 | .str x::r=>(txts r).map (x::·)
 | _::_=>none
def ZaT(sep:List Nat):List (List Nat)->List Nat
 | []=>[]
 | [x]=>x
 | x::y::r=>x++sep++ZaT sep (y::r)
def sumL(sep:Nat)(ts:List Str):Nat:=(ts.map (·.length)).sum+ts.length*sep
def Zia(x:Str)(ds:List D):Res D:=match txts ds with
 | some ts=>if sumL x.length ts<=LIM then .ok (.str (mkS (ZaT (cpL x) (ts.map cpL)))) else .bad
 | none=>.bad
def Zd9(x:Str):D->Res D
 | .lst ds=>Zia x ds
 | _=>.bad
def joinRev(x:Str)(j:Nat):ME:=λρ=>(getO ρ[j]?).bind λds=>Zia x ds.reverse
def dInT:D->D->Res D
 | .str a,.str b=>(match cpL a with
  | [c]=>.ok (.bl ((cpL b).contains c))
  | _=>.bad)
 | _,_=>.bad
def Zny:D->D->Res D
 | .str a,.str b=>(match cpL a with
  | [c]=>.ok (.bl (!(cpL b).contains c))
  | _=>.bad)
 | _,_=>.bad
def cutS(x:Str)(lo hi:Option Int):Res D:=if x.length<=LIM then (match lo,hi with
 | some i,none=>if 0<=i then .ok (.str (mkS ((cpL x).drop i.toNat))) else .bad
 | none,some j=>if 0<=j then .ok (.str (mkS ((cpL x).take j.toNat))) else .bad
 | _,_=>.bad) else .bad
def ZtG(x:D)(lo hi:Option Int):Res D:=match x with
 | .str x=>cutS x lo hi
 | _=>.bad
def cutT(a:ME)(lo hi:Ev->Res (Option Int)):ME:=λρ=>(a ρ).bind λx=>(lo ρ).bind λl=>(hi ρ).bind λh=>ZtG x l h
def ZrQ:D->Res (List D)
 | .str x=>if (cpL x).all (·<128)=true then .ok ((cpL x).map λc=>.str (mkS [c])) else .bad
 | _=>.bad
def ivT(a:ME):MI:=λρ=>(a ρ).bind ZrQ
def nOw:Ev->Bool
 | []=>true
 | .ow _::_=>false
 | _::r=>nOw r
def ZdG(i j:Nat)(nt:MB)(ρ:Ev):List D->List (List D)->List D->Res (List (List D))
 | [],gs,g=>.ok (gs++[g])
 | d::r,gs,g=>(noEx (nt ((ρ.set i .no).set j (.im d)))).bind λb=>if b=true then ZdG i j nt ρ r (gs++[g]) [] else ZdG i j nt ρ r gs (g++[d])
def grp(i j k:Nat)(nt:MB):MS:=λρ=>match ρ[k]? with
 | some (.im (.lst ds))=>if (nOw ρ&&decide (i<ρ.length)&&decide (j<ρ.length)&&decide (ds.length<1000))=true then (ZdG i j nt ρ ds [] []).bind λgs=>.ok (.rt (.lst (gs.map .lst))) else .bad
 | _=>.bad
def Zbb(x:Str):mkS (cpL x)=x:=by
 cases x;simp [mkS,cpL]
def Za1(l:List Nat):cpL (mkS l)=l:=by simp [mkS,cpL]
def Zcf(x:Str):(cpL x).length=x.length:=by simp [cpL,Str.length]
def ZgY(x y:Str):cpL (x++y)=cpL x++cpL y:=by
 show (x.cps++y.cps).toList=_;rw [Array.toList_append];rfl
def Zl4(x y:List Nat):mkS x++mkS y=mkS (x++y):=by
 rw [<-Zbb (mkS x++mkS y),ZgY,Za1,Za1]
def Zcd(l:List Nat):(mkS l).length=l.length:=by rw [<-Zcf,Za1]
def Zqd{a b:List Nat}(h:mkS a=mkS b):a=b:=by rw [<-Za1 a,h,Za1]
def ZfI{c:Nat}:∀{w:List Nat},c∉w->Zbq c w=[w]
 | [],_=>rfl
 | x::r,h=>by
  have h1:¬x=c:=λe=>h (by rw [e];exact Van);have h2:=ZfI (c:=c) (w:=r) λe=>h (Vao _ e);unfold Zbq;rw [if_neg h1,h2]
def Zgs{c:Nat}(rest:List Nat):∀{w:List Nat},c∉w->Zbq c (w++c::rest)=w::Zbq c rest
 | [],_=>by show Zbq c (c::rest)=_;rw [Zbq,if_pos rfl]
 | x::r,h=>by
  have h1:¬x=c:=λe=>h (by rw [e];exact Van);have h2:=Zgs rest (c:=c) (w:=r) λe=>h (Vao _ e);show Zbq c (x::(r++c::rest))=_;rw [Zbq,if_neg h1,h2]
def ZcV{c:Nat}:∀{ws:List (List Nat)},ws≠[]->(∀w∈ws,c∉w)->Zbq c (ZaT [c] ws)=ws
 | [],h,_=>absurd rfl h
 | [w],_,h=>ZfI (h w Van)
 | w::v::r,_,h=>by
  have ih:=ZcV (c:=c) (ws:=v::r) (by simp) λu hu=>h u (Vao _ hu);show Zbq c (w++[c]++ZaT [c] (v::r))=_;rw [VbP];show Zbq c (w++c::ZaT [c] (v::r))=_;rw [Zgs _ (h w Van),ih]
end Dl
namespace L2.Ds
open PySem PySem.Spec PyProof.Rows Dl
def Zfu{y:Str}{c:Nat}(h:cpL y=[c]):y=⟨#[c]⟩:=by
 rw [<-Zbb y,h];rfl
def ZdK{n:Nat}(h:n<=LIM):n<=sizeLine:=Vak h (by decide)
section
variable{K:W.Frag}{mg:Str->Option Value}
def Zk2:CallD K mg (λxs H Q=>∃i,xs=[.int i]/\i.natAbs.log2<1920/\Q (.str (toString i)) H) bStr:=by
 intro E F H xs ds s r;unfold bStr;split
 ·obtain ⟨x,rfl,rx⟩:=r.one;cases rx;split
  ·next h=>exact .ret s (.str _) λQ q=>⟨_,rfl,h,q⟩
  ·trivial
 ·trivial
def Zio{l:List Nat}{n:Nat}(h:figL l=some n):PySem.NumText.AllDigits l/\l≠[]/\PySem.NumText.digitsVal l=n:=by
 unfold figL at h;split at h
 ·next e =>
  cases h;refine ⟨λc hc=>?_,e.1,rfl⟩;have:=Vbz.mp e.2 c hc;unfold digB at this;simpa using this
 ·cases h
def Zlk{x:Str}{n:Int}(h:intL (cpL x)=some n)(hl:x.length<=640):PySem.intText? x=some n:=by
 cases e:cpL x with
 | nil=>rw [e] at h;cases h
 | cons c r =>
  rw [e] at h;replace h:(if c=45 then (figL r).map (λn:Nat=>-(n:Int)) else (figL (c::r)).map λn:Nat=>(n:Int))=some n:=h
  split at h
  ·next hc =>
   subst hc;cases ef:figL r with
   | none=>rw [ef] at h;cases h
   | some m =>
    rw [ef] at h;cases h;obtain ⟨h1,h2,h3⟩:=Zio ef;rw [PySem.intText_neg e h1 h2 (by omega),h3]
  ·cases ef:figL (c::r) with
   | none=>rw [ef] at h;cases h
   | some m =>
    rw [ef] at h;cases h;obtain ⟨h1,h2,h3⟩:=Zio ef;rw [<-e] at h1 h2 h3;have:=PySem.intText_digits (x:=x) h1 h2 (by omega);rw [this];exact Vaz (λk:Nat=>some (k:Int)) h3
def Zrf:List V->Hp->VK->Prop:=λxs H Q=>∃x n,xs=[.str x]/\PySem.intText? x=some n/\x.length<=640/\Q (.int n) H
def Zl3{X:Cx}:ZdR X (.type "int") Zrf:=by
 intro pins s σ H xs us Q I r h;obtain ⟨x,n,rfl,hn,hl,q⟩:=h;obtain ⟨u,rfl,t,rfl⟩:=vals1 r;exact W.KIN.call_text hn hl ⟨.int _,H,I.tok _,⟨_,rfl⟩,q⟩
def Zkr:CallD K mg Zrf ZmG:=by
 intro E F H xs ds s r;unfold ZmG;split
 ·obtain ⟨x,rfl,rx⟩:=r.one;cases rx;split
  ·next z h =>
   cases e:intL (cpL z) with
   | none=>trivial
   | some n=>exact .ret s (.int _) λQ q=>⟨_,n,rfl,Zlk e h,h,q⟩
  ·trivial
 ·trivial
def Zkt:CallD K mg (λxs H Q=>∃x n,xs=[x]/\LenV K x H n/\Q (.int n) H) Zms:=by
 intro E F H xs ds s r;unfold Zms;split
 ·obtain ⟨x,rfl,rx⟩:=r.one;cases rx with
  | lst h q=>exact .ret s (.int _) λQ z=>⟨_,_,rfl,.inl ⟨_,s.seq h,q.length.symm⟩,z⟩
 ·obtain ⟨x,rfl,rx⟩:=r.one;cases rx with
  | tup h q=>exact .ret s (.int _) λQ z=>⟨_,_,rfl,.inr ⟨_,Zax s h,q.length.symm⟩,z⟩
 ·obtain ⟨x,rfl,rx⟩:=r.one;cases rx;split
  ·next h=>exact .ret s (.int _) λQ z=>⟨_,_,rfl,⟨ZdK h,rfl⟩,z⟩
  ·trivial
 ·trivial
def SmD(K:W.Frag)(mg:Str->Option Value)(r:V->List V->Hp->VK->Prop)(f:Str->D->Res D):Prop:=∀(E:XK) F H z y dy,Same F H->Rp K mg F y dy->Ans mg E (Rp K mg) F H (f z dy) (r (.str z) [y] H)
def Zte{E:XK}{r:V->List V->Hp->VK->Prop}{f:Str->D->Res D}{to ta:TE}{mo ma:ME}(hf:SmD K mg r f)(ho:SE K mg E to mo)(ha:SE K mg E ta ma):SE K mg E (tBM K "str" r to (ZdD ta tNil)) (sD f mo ma):=by
 intro F0 H0 F H σ ρ rr;refine (ho F0 H0 F H σ ρ rr).bind λF1 H1 x dx g1 rx=>?_;cases dx with
 | str z =>
  cases rx;refine Ans.imp (w:=λQ=>ta σ H1 λy H2=>r (.str z) [y] H2 Q) ?_ λQ q=>⟨rfl,q⟩;exact (ha F0 H0 F1 H1 σ ρ (rr.gr g1)).bind λF2 H2 y dy g2 ry=>hf E F2 H2 z y dy g2.s ry
 | _=>trivial
def Zl6:V->List V->Hp->VK->Prop:=λx xs H Q=>∃z y,x=.str z/\xs=[.str y]/\Q (.bl (decide (0+y.length<=z.length)&&Builtin.Str.subAt z y 0)) H
def Zh7{X:Cx}:MtR X "str.startswith" Zl6:=by
 intro pins s σ H x xs v us Q I rx rs h;obtain ⟨z,y,rfl,rfl,q⟩:=h;obtain ⟨u,rfl,t,rfl⟩:=vals1 rs;obtain ⟨t',rfl⟩:=rx;exact call_gives Vb5 (Vbr s z t') PySem.F.entry_str_startswith (PySem.F.args_str_startswith_2 _ _) (gives_str_startswith z y t' t) ⟨.bl _,H,I,rfl,q⟩
def ZkF(z y:Str):(decide (0+y.length<=z.length)&&Builtin.Str.subAt z y 0)=((cpL z).take (cpL y).length==cpL y):=by
 rw [StrLaws.subAt_eq,VbI,Zcf];show (decide (0+y.length<=z.length)&&((cpL z).take y.length==cpL y))=_;cases h:((cpL z).take y.length==cpL y) with
 | false=>rw [Bool.and_false]
 | true =>
  have e:=Vaz List.length (eq_of_beq h);rw [Va7,Zcf,Zcf] at e;simp only [Bool.and_true,Vb6];omega
def ZgL:SmD K mg Zl6 ZfX:=by
 intro E F H z y dy s ry;cases dy with
 | str w =>
  cases ry;exact .ret s (.bl _) λQ q=>⟨z,w,rfl,rfl,by rw [ZkF];exact q⟩
 | _=>trivial
def Zn0:V->List V->Hp->VK->Prop:=λx xs H Q=>∃z c,x=.str z/\xs=[.str ⟨#[c]⟩]/\z.length<=LIM/\∀l,H l=none->Q (.ref l) (upd H l (.lst ((Txt.split z ⟨#[c]⟩).map V.str)))
def ZiB:∀l:List (Str×Tok),Vals ((l.map (·.1)).map V.str) (strValues l)
 | []=>.nil
 | (x,t)::r=>.cons ⟨t,rfl⟩ (ZiB r)
def split_len(x:Str)(c:Nat):(Txt.split x ⟨#[c]⟩).length<=x.length+1:=by
 have h:=Vaz Str.length (StrLaws.join_split x ⟨#[c]⟩);have key:∀ts:List Str,ts.length<=(Str.join ⟨#[c]⟩ ts).length+1:=by
  intro ts
  induction ts with
  | nil=>exact VaZ _
  | cons a r ih =>
   cases r with
   | nil=>exact Nat.le_add_left _ _
   | cons b r =>
    show (b::r).length+1<=(a++⟨#[c]⟩++Str.join ⟨#[c]⟩ (b::r)).length+1;have e:(a++(⟨#[c]⟩ : Str)++Str.join ⟨#[c]⟩ (b::r)).length=a.length+1+(Str.join ⟨#[c]⟩ (b::r)).length:=by
     show (a.cps++#[c]++(Str.join ⟨#[c]⟩ (b::r)).cps).size=_;rw [Array.size_append,Array.size_append];rfl
    omega
 have:=key (Txt.split x ⟨#[c]⟩);rw [h] at this;exact this
def ZhG(x:Str):∀ts:List Str,cpL (Str.join x ts)=ZaT (cpL x) (ts.map cpL)
 | []=>rfl
 | [a]=>rfl
 | a::b::r=>by
  show cpL (a++x++Str.join x (b::r))=cpL a++cpL x++ZaT (cpL x) ((b::r).map cpL);rw [ZgY,ZgY,ZhG x (b::r)]
def Znt(z:Str)(c:Nat):Txt.split z ⟨#[c]⟩≠[]:=by
 unfold Txt.split;split
 ·simp
 ·split
  ·simp
  ·rw [StrLaws.partsBetween_eq];obtain ⟨p,q,e⟩:=StrLaws.partsFrom_ne z (⟨#[c]⟩ : Str).length 0 (Builtin.Str.occurrences z ⟨#[c]⟩ 0 z.length (z.length+1));rw [e];simp
def ZmA(z:Str)(c:Nat):(Txt.split z ⟨#[c]⟩).map cpL=Zbq c (cpL z):=by
 have h:=Vaz cpL (StrLaws.join_split z ⟨#[c]⟩);rw [ZhG] at h;rw [<-h];refine (ZcV (by simpa using Znt z c) λw hw=>?_).symm;obtain ⟨p,hp,rfl⟩:=Vby.mp hw;exact StrLaws.split_free z c p hp
def ZdL{X:Cx}:MtR X "str.split" Zn0:=by
 intro pins s σ H x xs v us Q I rx rs h;obtain ⟨z,c,rfl,rfl,hz,q⟩:=h;obtain ⟨u,rfl,t,rfl⟩:=vals1 rs;obtain ⟨t',rfl⟩:=rx;have hn:(Txt.split z ⟨#[c]⟩).length<=sizeLine:=Vak (split_len z c) (Vak (VbQ hz) (by decide));have fin:∀(l:List (Str×Tok)) (k:Nat),l.map (·.1)=Txt.split z ⟨#[c]⟩->EP X pins σ Q (.ref s.heap.objs.size) { s with toks:=k,heap:=s.heap.push { cls:=.type "list", data:=.seq (strValues l).toArray } }:=λl k e =>
  ⟨.ref _,_,I.laid (t':=k) (o:=.lst ((Txt.split z ⟨#[c]⟩).map V.str)) (λb o e=>VaJ _ e) (VaL _) ⟨by rw [VaW];exact hn,strValues l,0,by rw [<-e];exact ZiB l,VaK _ rfl⟩,rfl,q _ (I.hok.fresh (VaL _))⟩
 cases h1:(decide (z.length<(⟨#[c]⟩ : Str).length)||decide (Builtin.Str.strKind z<Builtin.Str.strKind ⟨#[c]⟩))
 ·cases hf:(Builtin.Str.occurrences z ⟨#[c]⟩ 0 z.length (z.length+1)).isEmpty
  ·have e:Txt.split z ⟨#[c]⟩=Builtin.Str.partsBetween z (Builtin.Str.occurrences z ⟨#[c]⟩ 0 z.length (z.length+1)) (⟨#[c]⟩ : Str).length:=(if_neg (ne_true_of_eq_false h1)).trans (if_neg (ne_true_of_eq_false hf));refine Vbs Vb7 (Vbr s z t') PySem.F.entry_str_split (PySem.F.args_str_split_2 _ _) (meets_str_split_sep z ⟨#[c]⟩ t' t h1 rfl hf (ZdK hz) (by rw [<-e];exact hn)) ?_;show EP X pins σ Q (.ref s.heap.objs.size) _;rw [strsFrom_eq];exact fin (numbered s.toks _) _ ((numbered_texts _ _).trans e.symm)
  ·exact Vbs Vb7 (Vbr s z t') PySem.F.entry_str_split (PySem.F.args_str_split_2 _ _) (meets_str_split_not_found z ⟨#[c]⟩ t' t h1 rfl hf) (fin [(z,t')] _ ((if_neg (ne_true_of_eq_false h1)).trans (if_pos hf)).symm)
 ·exact Vbs Vb7 (Vbr s z t') PySem.F.entry_str_split (PySem.F.args_str_split_2 _ _) (meets_str_split_cannot_occur z ⟨#[c]⟩ t' t h1) (fin [(z,t')] _ (if_pos h1).symm)
def ZjD{F:Hp}:∀ts:List Str,Rps K mg F (ts.map V.str) ((ts.map cpL).map λl=>D.str (mkS l))
 | []=>.nil
 | t::r=>.cons (by show Rp K mg F (V.str t) (D.str (mkS (cpL t)));rw [Zbb];exact .str t) (ZjD r)
def Zcw:SmD K mg Zn0 Zc4:=by
 intro E F H z y dy s ry;cases dy with
 | str w =>
  cases ry;unfold Zc4;dsimp only;split
  ·next c e =>
   split
   ·next hz =>
    have ew:=Zfu e;subst ew;refine Zdm s (o:=.lst ((Txt.split z ⟨#[c]⟩).map V.str)) (λp hp=>?_) λQ q=>⟨z,c,rfl,rfl,hz,q⟩;rw [<-ZmA];exact .lst (SqL.of Zag) (ZjD _)
   ·trivial
  ·trivial
 | _=>trivial
def rJoin(K:W.Frag):V->List V->Hp->VK->Prop:=λx xs H Q=>∃z l ts,x=.str z/\xs=[.ref l]/\SqL K H l (ts.map V.str)/\sumL z.length ts<=LIM/\Q (.str (Str.join z ts)) H
def ZfZ:∀{ts:List Str} {us:List Value},Vals (ts.map V.str) us->∃l:List (Str×Tok),strValues l=us/\l.map (·.1)=ts
 | [],_,h=>by cases h;exact ⟨[],rfl,rfl⟩
 | t::r,_,h=>by
  cases h with
  | cons h1 h2 =>
   obtain ⟨k,rfl⟩:=h1;obtain ⟨l,rfl,e⟩:=ZfZ h2;exact ⟨(t,k)::l,rfl,by rw [<-e];rfl⟩
def ZhP{z:Str}{ts:List Str}(h:sumL z.length ts<=LIM):Builtin.Str.tooLong (ts.toArray.foldl (·+·.length+z.length) 0)=false:=by
 rw [StrLaws.joinTotal];exact Vaa (Nat.not_lt.mpr (ZdK h))
def Zbu{X:Cx}:MtR X "str.join" (rJoin X.K):=by
 intro pins s σ H x xs v us Q I rx rs h;obtain ⟨z,a,ts,rfl,rfl,hl,hz,q⟩:=h;obtain ⟨u,rfl,ru⟩:=vals1 rs;cases ru;obtain ⟨t,rfl⟩:=rx;obtain ⟨its,r,pl,_⟩:=I.list hl;obtain ⟨l,rfl,el⟩:=ZfZ r;have hf:=ZhP hz;rw [<-el] at hf;refine Vbs Vb8 (Vbr s z t) PySem.F.entry_str_join (PySem.F.args_str_join_2 _ _) (meets_str_join_list z t a l hf) ⟨pl.isList,?_⟩;refine post_join l ⟨joinFit_length hf,λt' k=>?_⟩;refine ⟨.str _,H,I.tok _,⟨t',rfl⟩,?_⟩;unfold Txt.join;rw [StrLaws.glued_eq_join,el];exact q
def ZjX{F:Hp}:∀{xs:List V} {ds:List D} {ts:List Str},Rps K mg F xs ds->txts ds=some ts->xs=ts.map V.str
 | _,[],_,r,e=>by cases r;cases e;rfl
 | _,d::ds,ts,r,e=>by
  cases r with
  | cons h r =>
   cases d with
   | str x =>
    have e':(txts ds).map (x::·)=some ts:=e;cases q:txts ds with
    | none=>rw [q] at e';cases e'
    | some us =>
     rw [q] at e';cases e';cases h;rw [ZjX r q];rfl
   | _=>cases e
def ZhY{E:XK}{F H:Hp}{xs:List V}{ds:List D}{z:Str}{w:VK->Prop}(s:Same F H)(r:Rps K mg F xs ds)(h:∀ts,xs=ts.map V.str->sumL z.length ts<=LIM->∀Q:VK,Q (.str (Str.join z ts)) H->w Q):Ans mg E (Rp K mg) F H (Zia z ds) w:=by
 unfold Zia;split
 ·next ts e =>
  split
  ·next hl =>
   have er:=ZjX r e;refine .ret s (b:=.str (Str.join z ts)) ?_ λQ q=>h ts er hl Q q;rw [<-ZhG,Zbb];exact .str _
  ·trivial
 ·trivial
def Za6:SmD K mg (rJoin K) Zd9:=by
 intro E F H z y dy s ry;cases dy with
 | lst ds =>
  cases ry with
  | lst h r =>
   exact ZhY s r λts er hl Q q=>⟨z,_,ts,rfl,rfl,by rw [<-er];exact s.seq h,hl,q⟩
 | _=>trivial
def ZsH:V->List V->Hp->VK->Prop:=λx xs H Q=>∃z c,x=.str z/\xs=[.str ⟨#[c]⟩]/\z.length<=LIM/\∀l,H l=none->Q (.ref l) (upd H l (.tup (match ZeK c (cpL z) with
 | some (a,b)=>[.str (mkS a),.str ⟨#[c]⟩,.str (mkS b)]
 | none=>[.str z,.str Str.empty,.str Str.empty])))
def Zgu{c:Nat}:∀{l:List Nat},ZeK c l=none->c∉l
 | [],_=>by simp
 | x::r,h=>by
  unfold ZeK at h;split at h
  ·cases h
  ·next hx =>
   cases e:ZeK c r with
   | none =>
    have:=Zgu e;intro hm;rcases Vaq.mp hm with z | z
    ·exact hx z.symm
    ·exact this z
   | some p=>rw [e] at h;cases h
def ZeO{c:Nat}:∀{l a b:List Nat},ZeK c l=some (a,b)->c∉a/\l=a++c::b
 | [],_,_,h=>by cases h
 | x::r,a,b,h=>by
  unfold ZeK at h;split at h
  ·next hx=>cases h;exact ⟨by simp,by rw [hx];rfl⟩
  ·next hx =>
   cases e:ZeK c r with
   | none=>rw [e] at h;cases h
   | some p =>
    rw [e] at h;cases h;obtain ⟨h1,h2⟩:=ZeO (a:=p.1) (b:=p.2) e;refine ⟨λhm=>?_,by rw [h2];rfl⟩;rcases Vaq.mp hm with z | z
    ·exact hx z.symm
    ·exact h1 z
def ZkZ(x:Str)(c i:Nat):StrLaws.At x ⟨#[c]⟩ x.length i↔(cpL x)[i]?=some c:=StrLaws.subAt_one x c i
def ZnV(x:Str)(i j:Nat):Builtin.Str.strSub x i j=mkS (((cpL x).drop i).take (j - i)):=by
 rw [<-Zbb (Builtin.Str.strSub x i j)];exact Vaz mkS (StrLaws.strSub_toList x i j)
def ZpC{X:Cx}:MtR X "str.partition" ZsH:=by
 intro pins s σ H x xs v us Q I rx rs h;obtain ⟨z,c,rfl,rfl,hz,q⟩:=h;obtain ⟨u,rfl,t,rfl⟩:=vals1 rs;obtain ⟨t',rfl⟩:=rx;refine Vbs PySem.F.slot_str_partition (Vbr s z t') PySem.F.entry_str_partition (PySem.F.args_str_partition_2 _ _) (meets_str_partition z ⟨#[c]⟩ t' t rfl (ZdK hz)) ?_;have fin:∀(k:Nat) (vs:List V) (its:List Value),Vals vs its->vs.length<=3->(∀l,H l=none->Q (.ref l) (upd H l (.tup vs)))->EP X pins σ Q (.ref s.heap.objs.size) { s with toks:=k,heap:=s.heap.push { cls:=.type "tuple", data:=.seq its.toArray } }:=λk vs its r hl q =>
  ⟨.ref _,_,I.laid (t':=k) (o:=.tup vs) (λb o e=>VaJ _ e) (VaL _) ⟨Vak hl (by decide),its,r,IsTup.new _ _⟩,rfl,q _ (I.hok.fresh (VaL _))⟩
 rcases StrLaws.occ_head z ⟨#[c]⟩ 1 (VaL 1) with ⟨e,hn⟩ | ⟨i,r,e,ha,hn⟩
 ·rw [e];have en:ZeK c (cpL z)=none:=by
   cases ep:ZeK c (cpL z) with
   | none=>rfl
   | some p =>
    obtain ⟨_,h2⟩:=ZeO (a:=p.1) (b:=p.2) ep;refine absurd ((ZkZ z c p.1.length).mpr ?_) (hn _);rw [h2];simp
  rw [en] at q;exact fin _ [.str z,.str Str.empty,.str Str.empty] [.str z t',.str Str.empty s.toks,.str Str.empty s.toks] (.cons ⟨_,rfl⟩ (.cons ⟨_,rfl⟩ (.cons ⟨_,rfl⟩ .nil))) (by simp) q
 ·rw [e];have hi:=(ZkZ z c i).mp ha;cases ep:ZeK c (cpL z) with
  | none=>exact absurd (Vbd hi) (Zgu ep)
  | some p =>
   rw [ep] at q;obtain ⟨a,b⟩:=p;obtain ⟨h1,h2⟩:=ZeO ep;have ei:i=a.length:=by
    rcases Nat.lt_trichotomy i a.length with l | l | l
    ·rw [h2,Vbb l] at hi;exact absurd (Vbd hi) h1
    ·exact l
    ·refine absurd ((ZkZ z c a.length).mpr ?_) (hn _ l);rw [h2];simp
   subst ei;have e1:Builtin.Str.strSub z 0 a.length=mkS a:=by
    rw [ZnV,h2,VbI,Nat.sub_zero,List.take_left' rfl]
   have e2:Builtin.Str.strSub z (a.length+1) z.length=mkS b:=by
    rw [ZnV,<-Zcf z,h2];have:(a++c::b).drop (a.length+1)=b:=by
     rw [show a++c::b=(a++[c])++b by simp];exact List.drop_left' (by simp)
    rw [this];refine Vaz mkS (VbJ ?_);simp;omega
   show EP X pins σ Q (.ref s.heap.objs.size) { s with toks:=_,heap:=s.heap.push { cls:=.type "tuple", data:=.seq [.str (Builtin.Str.strSub z 0 a.length) s.toks,.str ⟨#[c]⟩ t,.str (Builtin.Str.strSub z (a.length+1) z.length) (s.toks+1)].toArray } }
   rw [e1,e2];exact fin _ [.str (mkS a),.str ⟨#[c]⟩,.str (mkS b)] [_,_,_] (.cons ⟨_,rfl⟩ (.cons ⟨_,rfl⟩ (.cons ⟨_,rfl⟩ .nil))) (by simp) q
def ZmN:SmD K mg ZsH Zpf:=by
 intro E F H z y dy s ry;cases dy with
 | str w =>
  cases ry;unfold Zpf;dsimp only;split
  ·next c e =>
   split
   ·next hz =>
    have ew:=Zfu e;subst ew;cases ep:ZeK c (cpL z) with
    | none =>
     exact Zdm s (o:=.tup [.str z,.str Str.empty,.str Str.empty]) (λp hp=>.tup (.inl (.inl Zag)) (.cons (.str _) (.cons (.str _) (.cons (.str _) .nil)))) λQ q=>⟨z,c,rfl,rfl,hz,by rw [ep];exact q⟩
    | some p =>
     obtain ⟨a,b⟩:=p;exact Zdm s (o:=.tup [.str (mkS a),.str ⟨#[c]⟩,.str (mkS b)]) (λp hp=>.tup (.inl (.inl Zag)) (.cons (.str _) (.cons (.str _) (.cons (.str _) .nil)))) λQ q=>⟨z,c,rfl,rfl,hz,by rw [ep];exact q⟩
   ·trivial
  ·trivial
 | _=>trivial
def Zpw:OpD K mg (λx y H Q=>∃i j,x=.str i/\y=.str j/\Q (.bl (!(Builtin.Str.occurrences j i 0 j.length 1).isEmpty)) H) dInT:=by
 intro E F H x y dx dy s rx ry;unfold dInT;split
 ·next a b =>
  cases rx;cases ry;split
  ·next c e =>
   refine .ret s (.bl _) λQ q=>⟨_,_,rfl,rfl,?_⟩;rw [Zfu e,StrLaws.found_one];rw [List.contains_eq_mem] at q;exact q
  ·trivial
 ·trivial
def ZmK:OpD K mg (λx y H Q=>∃i j,x=.str i/\y=.str j/\Q (.bl (!(!(Builtin.Str.occurrences j i 0 j.length 1).isEmpty))) H) Zny:=by
 intro E F H x y dx dy s rx ry;unfold Zny;split
 ·next a b =>
  cases rx;cases ry;split
  ·next c e =>
   refine .ret s (.bl _) λQ q=>⟨_,_,rfl,rfl,?_⟩;rw [Zfu e,StrLaws.found_one];rw [List.contains_eq_mem] at q;exact q
  ·trivial
 ·trivial
def rSlT:V->Option Int->Option Int->Hp->VK->Prop:=λx lo hi H Q=>∃z,x=.str z/\z.length<=sizeLine/\Q (.str (Txt.slice z lo hi)) H
def Zsv{X:Cx}:SlR X rSlT:=by
 intro pins s σ H x v vl vu lo hi sl Q I rx hs pl pu h;obtain ⟨z,rfl,hz,q⟩:=h;obtain ⟨t,rfl⟩:=rx;refine ⟨"str", _,PySem.F.slot_str_getitem.lookup,Vbr _ _ _,?_⟩;have key:∀(l u:Option (Int×Tok)),vl=partValue l->vu=partValue u->lo=l.map (·.1)->hi=u.map (·.1)->wpAny (model X.prog X.w) X.A (getItem (.str z t) (.ref sl)) (EP X pins σ Q) X.xe s:=by
  intro l u e1 e2 e3 e4;subst e1 e2 e3 e4;exact wpAny_getItem_str_slice (l:=l) (u:=u) (st:=none) hs rfl
   (post_val_or_str ⟨Vak (Txt.slice_le z _ _) hz,λt' k=>⟨.str _,H,I.tok _,⟨t',rfl⟩,q⟩⟩)
 cases pl with
 | none =>
  cases pu with
  | none=>exact key none none rfl rfl rfl rfl
  | int j tj=>exact key none (some (j,tj)) rfl rfl rfl rfl
 | int i ti =>
  cases pu with
  | none=>exact key (some (i,ti)) none rfl rfl rfl rfl
  | int j tj=>exact key (some (i,ti)) (some (j,tj)) rfl rfl rfl rfl
def Zku{z:Str}{i:Int}(h0:0<=i):Txt.slice z (some i) none=mkS ((cpL z).drop i.toNat):=by
 by_cases h:(z.length:Int)<=i
 ·rw [slice_beyond h];have:(cpL z).drop i.toNat=[]:=VbN (by rw [Zcf];omega);rw [this];rfl
 ·rw [slice_from_eq (b:=(z.length:Int)) h0 (by omega) rfl];refine Vaz mkS (VbJ ?_);show ((cpL z).drop i.toNat).length<=_;rw [Vbj,Zcf];omega
def Zns{z:Str}{j:Int}(h0:0<=j):Txt.slice z none (some j)=mkS ((cpL z).take j.toNat):=by
 have key:∀j:Int,0<=j->j<=z.length->Txt.slice z none (some j)=mkS ((cpL z).take j.toNat):=λj h0 h1=>by
  have h2:j<=z.cps.toList.length:=by rw [show z.cps.toList.length=z.length from Zcf z];exact h1
  have:=VaR.mp (slice_closes_to (x:=z) ⟨h0,h2⟩);rw [this,show (0:Int).toNat=0 from rfl,VbI,Int.sub_zero];rfl
 by_cases h:j<=z.length
 ·exact key j h0 h
 ·have e2:Txt.slice z none (some j)=Txt.slice z none (some (z.length:Int)):=by
   unfold Txt.slice;have e:Builtin.Str.strSliceIndices none (some j) 1 z.length=Builtin.Str.strSliceIndices none (some (z.length:Int)) 1 z.length:=by
    have h1:¬j<0:=by omega
    have h2:¬((z.length:Int)<0):=by omega
    have h3:(1:Int)>0:=by decide
    simp only [Builtin.Str.strSliceIndices,h1,h2,h3,Vbg,Vbh,Int.min_eq_right (show (z.length:Int)<=j by omega),Int.min_self]
   rw [e]
  rw [e2,key _ (by omega) (Int.le_refl _),VbJ (by rw [Zcf];omega),VbJ (by rw [Zcf];omega)]
def Zqi{E:XK}{ta:TE}{ma:ME}{tl th:TO}{ml mh:Ev->Res (Option Int)}(ha:SE K mg E ta ma)(hl:SO K mg E tl ml)(hh:SO K mg E th mh):SE K mg E (tSl rSlT ta tl th) (cutT ma ml mh):=by
 intro F0 H0 F H σ ρ rr;refine (ha F0 H0 F H σ ρ rr).bind λF1 H1 x dx g1 rx=>?_;refine (hl F0 H0 F1 H1 σ ρ (rr.gr g1)).bind λF2 H2 l dl g2 rl=>?_;refine (hh F0 H0 F2 H2 σ ρ ((rr.gr g1).gr g2)).bind λF3 H3 u du g3 ru=>?_;cases rl;cases ru;cases dx with
 | str z =>
  cases rx;show Ans mg E (Rp K mg) F3 H3 (cutS z l u) _;unfold cutS;split
  ·next hz =>
   split
   ·split
    ·next h=>exact .ret g3.s (.str _) λQ q=>⟨z,rfl,ZdK hz,by rw [Zku h];exact q⟩
    ·trivial
   ·split
    ·next h=>exact .ret g3.s (.str _) λQ q=>⟨z,rfl,ZdK hz,by rw [Zns h];exact q⟩
    ·trivial
   ·trivial
  ·trivial
 | _=>trivial
def ItS(x:Str):It:=⟨λi _=>∃c,(cpL x)[i]?=some c,λi H y H'=>H'=H/\∀c,(cpL x)[i]?=some c->y=.str (mkS [c]),λi _=>(cpL x)[i]?=none⟩
def ZnD{P:Program}{w:World}{K:W.Frag}{tg:Expr}(x:Str)(t:Tok)(it:Addr):Turn P w K tg (ItS x) [it] it (λi h=>h.IsStrIter it "str_ascii_iterator" x t i) where
 mem:=by simp
 obj:=λi h st b hb=>by
  have e:b=it:=by simpa using hb
  subst e;obtain ⟨o,e,c,d⟩:=st;exact ⟨o,e,λv z=>by rw [d] at z;cases z⟩
 keep:=λi h h' st k=>by
  obtain ⟨o,e,r⟩:=st;exact ⟨o,k it (by simp) o e,r⟩
 item:=by
  intro X hP hw hK hc i pins s σ H E I hf st hg;subst hP hw hK;obtain ⟨c,hx⟩:=hg;obtain ⟨f0,f1,f2,f3,f4,f5⟩:=hf it (by simp);refine wpAny_pyNext_ascii_item st (c:=c) (by simpa [cpL] using hx) λh' st' sb=>?_;have I1:Inv X pins σ H { s with heap:=h',toks:=s.toks+1 }:=I.turned (t':=s.toks+1) (λb o hb e=>(sb.2 b hb).trans e) f0 f1 f3 f4 f5
  obtain ⟨o,e,c',d⟩:=id st';exact ⟨_,rfl,ZmS (s:={ s with heap:=h',toks:=s.toks+1 }) e c' d (by decide) ⟨.str (mkS [c]),H,I1,⟨_,rfl⟩,⟨rfl,λc2 h2=>by rw [hx] at h2;cases h2;rfl⟩,st',λb hb=>(hf b hb).1⟩⟩
 done:=by
  intro X hP hw hK hc i pins s σ H E I hf st hg;subst hP hw hK;obtain ⟨f0,f1,f2,f3,f4,f5⟩:=hf it (by simp)
  exact wpAny_pyNext_ascii_end (I.ok.hd hc) st (by
   have h:(cpL x)[i]?=none:=hg
   simpa [cpL] using h) λh' eb=>⟨rfl,I.turned (t':=s.toks) (λb o hb e=>eb b o hb e) f0 f1 f3 f4 f5⟩
 self:=λ_ _ _ _ _ st h=>wpAny_pyIter_striter_ascii st h
def Zsh(tl:TE):TI:=λσ H R=>tl σ H λx H1=>∃z,x=.str z/\(cpL z).all (·<128)=true/\R (ItS z) H1
def ZpR{F:Hp}(z:Str):ItOk K mg F (ItS z) ((cpL z).map λc=>.str (mkS [c])):=by
 intro F' H' s1 s2 i;refine ⟨λd e=>?_,λhl=>?_⟩
 ·rw [Vbc] at e;cases q:(cpL z)[i]? with
  | none=>rw [q] at e;cases e
  | some c =>
   rw [q] at e;cases e;refine ⟨⟨c,q⟩,λy H'' h=>?_⟩;obtain ⟨rfl,h⟩:=h;rw [h c q];exact ⟨F',.refl s2,.str _⟩
 ·rw [VaW] at hl;exact VbK hl
def Zrl{E:XK}{ta:TE}{ma:ME}(ha:SE K mg E ta ma):SI K mg E (Zsh ta) (ivT ma):=by
 intro F0 H0 F H σ ρ rr;refine (ha F0 H0 F H σ ρ rr).bind λF1 H1 x dx g1 rx=>?_;cases dx with
 | str z =>
  cases rx;show Ans mg E (ItOk K mg) F1 H1 (if (cpL z).all (·<128)=true then .ok ((cpL z).map λc=>.str (mkS [c])) else .bad) _
  split
  ·next h=>exact Ans.ret (R:=ItOk K mg) g1.s (ZpR z) λQ q=>⟨z,rfl,h,q⟩
  ·trivial
 | _=>trivial
end
section
variable{X:Cx}{E:XK}{a b o tg:Expr}{ta tb to:TE}{ma mb mo:ME}{pos apos cpos:Pos}
def Zs4(h:DE X E a ta ma):DI X E tg a (Zsh ta) (ivT ma):=by
 refine ⟨?_,Zrl h.s⟩;intro pins s σ H R I hw;refine thn (h.p pins s σ H _ I hw) λv s1 ⟨x,H1,I1,r1,q1⟩=>?_;obtain ⟨z,rfl,hz,q⟩:=q1;obtain ⟨t,rfl⟩:=r1;refine wpAny_pyIter_ascii (by rw [<-hz];simp [cpL]) ?_;refine ⟨s1.heap.objs.size,[s1.heap.objs.size],_,_,H1,rfl,I1.kept (t':=s1.toks) λb o e=>VaJ _ e,ZnD z t _,⟨_,VaK _ rfl,rfl,rfl⟩,λb hb=>?_,q⟩;have e:b=s1.heap.objs.size:=by simpa using hb
 subst e;exact I1.fpOk (VaL _) (I1.hok.fresh (VaL _))
end
def ZkH:typeLookup (.type "list_reverseiterator") "__len__"=pure none:=by rw [typeLookup_type,builtinLookup_eq_fast];kernel_rfl
def ZmO:typeLookup (.type "list_reverseiterator") "__length_hint__"=pure (some (.builtin "list_reverseiterator.__length_hint__")):=by rw [typeLookup_type,builtinLookup_eq_fast];kernel_rfl
def ZkE:splitId "list_reverseiterator.__length_hint__"=some ("list_reverseiterator", "__length_hint__"):=by decide +kernel
def ZoV:isSubtype (.type "list_reverseiterator") (.type "list_reverseiterator")=pure true:=by rw [isSubtype_type];kernel_rfl
section
variable{prog:Program}{w:World}{A:Around}{E:Value->Shared->Prop}{s:Shared}
def Zm2{I:Addr}{Q:Bool->Shared->Prop}(hT:s.TypeIs (.ref I) "list_reverseiterator")(h:Q false s):wpAny (model prog w) A (Builtin.List.listLengthHint (.ref I)) Q E s:=by
 unfold Builtin.List.listLengthHint;refine VaC (wpAny_specialOf hT ZkH ?_);show wpAny _ A (specialOf (Value.ref I) (Str.ofString "__length_hint__") >>= _) _ _ _;refine VaC (wpAny_specialOf hT ZmO ?_);generalize hid:("list_reverseiterator.__length_hint__" : String)=id0;dsimp only;rw [show splitId id0=some ("list_reverseiterator", "__length_hint__") from by subst hid;exact ZkE];subst hid;dsimp only;refine VaC (wpAny_isInstance (b:=true) hT ZoV ?_);exact VaI h
def Zi5{Q:List Value->Shared->Prop}{I l:Addr}{items:Array Value}(hh:A.handled=none)(hne:l≠I)(hit:s.heap.IsRevIter I l ((items.size:Int) - 1))(hl:s.heap.IsList l items)(hn:items.size<=sizeLine)
  (hQ:∀s',Moved [I] (λa b=>b=a) s s'->Q items.toList.reverse s'):wpAny (model prog w) A (collect (.ref I)) Q E s:=by
 have W:=(Walks.listRev (prog:=prog) (w:=w) (A:=A.in1) hh I l hne items).toS;have hT:∀i s,(i<=items.size/\Heap.IsRevIter s.heap I l ((items.size:Int) - 1 - (i:Int))/\s.heap.IsList l items)->Shared.TypeIs s (.ref I) "list_reverseiterator" := λ_ _ h=>h.2.1.typeIs;have hst:0<=items.size/\Heap.IsRevIter s.heap I l ((items.size:Int) - 1 - ((0:Nat):Int))/\s.heap.IsList l items:=⟨VaZ _,by simpa using hit,hl⟩;have hfp:∀b∈[I,l],b<s.heap.objs.size:=λb hb=>by
  rcases Vaq.mp hb with rfl | hb
  ·obtain ⟨o,ho,_⟩:=hit;exact Vac ho
  ·rw [VbU.mp hb];obtain ⟨o,ho,_⟩:=hl;exact Vac ho
 have hSf:s.heap.objs.size∉[I,l]:=λhm=>Vae _ (hfp _ hm);have hSI:s.heap.objs.size≠I:=λe=>hSf (e▸Van);unfold collect;refine VaC (wpAny_runValue (VbE F.entry_proto_collect ?_));rw [Vb4 F.plain_proto_collect _];show wpAny _ A.in1 (newList [] >>= λl=>again (.builtin "list.__iadd__" ⟨[l,.ref I],[]⟩)) _ _ s;refine VaC (Vbn ?_);refine VaI ⟨plainId_quiet F.plain_list_iadd _,VbE F.entry_list_iadd ?_⟩;rw [Vb4 F.plain_list_iadd _];have hst1:=W.frame 0 s (s.heap.push { cls:=.type "list", data:=.seq ([]:List Value).toArray }) s.toks hst (VaL _) λb _ o e=>VaJ _ e;have hS1:(s.heap.push { cls:=.type "list", data:=.seq ([]:List Value).toArray }).get? s.heap.objs.size=some { cls:=.type "list", data:=.seq ([]:List Value).toArray }:=VaK _ rfl;have h1:Builtin.List.listSameRef (.ref s.heap.objs.size) (.ref I)=false:=by simp [Builtin.List.listSameRef,hSI]
 show wpAny _ A.in1 (Builtin.List.listExtendWith (.ref s.heap.objs.size) (.ref I) (.ref s.heap.objs.size)) _ _ _;unfold Builtin.List.listExtendWith;refine VaC (Vbl (hT 0 _ hst1) ?_);rw [if_neg (by rw [h1];decide)];refine VaC (W.self 0 _ _ _ hst1 ?_);refine VaC (VaD ?_);refine Zm2 (hT 0 _ hst1) ?_;rw [if_neg (by decide)];refine VaI ⟨plainId_quiet F.plain_extend_loop _,codeAny_extend_loopS W hn _ hSf _ items.size 0 _ _ _ rfl (VaZ _) hst1 hS1 (ItemsOf.nil _) λs' acc' c' hm hS' hacc=>?_⟩;show wpAny _ A (load s.heap.objs.size >>= _) _ _ s';refine VaC (wpAny_load hS' ?_);have ea:acc'.toList=items.toList.reverse:=by
  apply List.ext_getElem?;intro i;obtain ⟨z1,z2⟩:=hacc;by_cases hi:i<items.size
  ·have e:acc'[i]?=some acc'[i]:=VbY (by omega);have e2:=z2 i _ e;rw [List.getElem?_reverse (by simpa using hi)];rw [Vb2,Vb2,e,Vay];exact e2.symm
  ·rw [VbK (by simp;omega),VbK (by simp;omega)]
 have:=hQ s' (Moved.drop_new (o:={ cls:=.type "list", data:=.seq ([]:List Value).toArray }) (tk:=s.toks) hm (VaL _));rw [<-ea] at this;exact VaI this
end
def ZiU(z:Str):∀(m:List (Str×Tok)),Builtin.Str.tooLong ((m.map (·.1)).toArray.foldl (·+·.length+z.length) 0)=false->Gives (joinTail z (strValues m)) (joinMade z m)
 | [],h=>gives_joinTail z [] h
 | [p],h=>gives_joinTail z [p] h
 | p::q::r,h=>gives_joinTail z (p::q::r) h
def Zmr{X:Cx}{pins:List (Addr×Obj)}{σ:St}{H:Hp}{s:Shared}{Q:VK}{z:Str}{t:Tok}{it a:Addr}{ts:List Str}(hc:X.calm=true)(I:Inv X pins σ H s)(hz:sumL z.length ts<=LIM)(ha:H a=some (.lst (ts.map V.str)))(hn:it≠a)
  (hf:FpOk X pins H it) (hit:s.heap.IsRevIter it a ((ts.length:Int) - 1)) (q:Q (.str (Str.join z ts.reverse)) H):wpAny (model X.prog X.w) X.A (call (.builtin "str.join") [.str z t,.ref it]) (EP X pins σ Q) X.xe s:=by
 obtain ⟨its,r,pl,hlen⟩:=I.list (SqL.of ha);obtain ⟨l,rfl,el⟩:=ZfZ r;have hl2:l.length=ts.length:=by rw [<-el,VaW]
 refine Va2 (VbC F.slot_str_join.plain F.entry_str_join (F.slot_str_join.check _ _ _ _ _ _ _ _ (Vbr _ _ _) (F.args_str_join_2 _ _) ?_));rw [join_tree_other];refine VaC (Vbl hit.typeIs ?_);show wpAny _ X.A.in1 ((pyIter (.ref it)).tryCatch _ >>= λit=>collect it >>= λitems=>joinTail z items) _ _ s;refine VaC (wpAny_tryCatch (wpAny_pyIter_revIter hit ?_));have hsz:(strValues l).toArray.size=ts.length:=by
  rw [VaQ];have:=r.length;rw [VaW] at this;exact this.symm
 refine VaC (Zi5 (items:=(strValues l).toArray) (I.ok.hd hc) (Ne.symm hn) (by rw [hsz];exact hit) pl.isList (by rw [hsz];rw [VaW] at hlen;exact hlen) λs' hm=>?_);have e1:(strValues l).toArray.toList.reverse=strValues l.reverse:=by
  rw [List.toList_toArray];show (l.map _).reverse=l.reverse.map _;rw [Vb9]
 rw [e1];have e2:l.reverse.map (·.1)=ts.reverse:=by rw [Vb9,el]
 have hs2:sumL z.length ts.reverse<=LIM:=by
  unfold sumL at hz ⊢;rw [Vb9,List.sum_reverse,List.length_reverse];exact hz
 have hok:=ZhP hs2;rw [<-e2] at hok;have g:=ZiU z l.reverse hok;refine g X.prog X.w X.A (wants (EP X pins σ Q) X.xe) s' (post_join l.reverse ⟨joinFit_length hok,λt' k=>?_⟩);obtain ⟨f0,f1,f2,f3,f4,f5⟩:=hf;have I1:Inv X pins σ H { s with heap:=s'.heap,toks:=k }:=I.turned (t':=k) (λb o hb e=>hm.heap b o (by simpa using hb) e) f0 f1 f3 f4 f5
 refine ⟨.str _,H,?_,⟨t',rfl⟩,?_⟩
 ·have h1:=hm.gens;have h2:=hm.drawn;have h3:=hm.os;obtain ⟨h',g',d',k',o'⟩:=s';cases h1;cases h2;cases h3;exact I1
 ·unfold Txt.join;rw [StrLaws.glued_eq_join,e2];exact q
def Zhc(z:Str)(j:Nat):TE:=λσ H Q=>∃a ts,σ[j]?=some (some (.ref a))/\H a=some (.lst (ts.map V.str))/\sumL z.length ts<=LIM/\Q (.str (Str.join z ts.reverse)) H
def Zkk{K:W.Frag}{mg:Str->Option Value}{E:XK}(z:Str)(j:Nat):SE K mg E (Zhc z j) (joinRev z j):=by
 intro F0 H0 F H σ ρ rr;unfold joinRev getO;split
 ·next ds e =>
  obtain ⟨a,xs,h1,h2,h3,h4,h5⟩:=rr.ow j ds e;show Ans mg E (Rp K mg) F H (Zia z ds.reverse) _;refine ZhY rr.ss h5.rev λts er hl Q q=>⟨a,ts.reverse,h1,?_,?_,by rw [List.reverse_reverse];exact q⟩
  ·rw [h4,<-List.reverse_reverse xs,er,<-Vb9]
  ·unfold sumL at hl ⊢;rw [Vb9,List.sum_reverse,List.length_reverse];exact hl
 ·trivial
section
variable{X:Cx}{E:XK}{a b o:Expr}{ta tb to:TE}{ma mb mo:ME}{pos apos cpos p1 p2 p3 p4:Pos}{x z:Str}
def Zks{k:Nat}(j:Nat)(hc:X.calm=true)(hg:Gl X "reversed")(hm:X.mg "reversed"=none)(hN:X.N[j]?=some x)(hv:Vis X.env.scope x)(hd:(x==("__debug__" : Str))=false)(hcd:(x==("__classdict__" : Str))=false)
  (hbase:attributeBase (.Constant (.str z) k p1) "join" X.env (eval (.Constant (.str z) k p1) X.env)=eval (.Constant (.str z) k p1) X.env)
  (hline:(apos.endLine==cpos.line)=true):PE X (.Call (.Attribute (.Constant (.str z) k p1) "join" apos) [.Call (.Name "reversed" p2) [.Name x p3] [] p4] [] cpos) (Zhc z j):=by
 intro pins s σ H Q I h;obtain ⟨a,ts,h1,h2,hz,q⟩:=h;refine wpAny_Call_method_late hbase (by rfl) hline rfl (thn (ZjA pins s σ H (λv H1=>v=.str z/\H1=H) I ⟨rfl,rfl⟩) λv s1 ⟨x',H1,I1,r1,e1,e2⟩=>?_);subst e1 e2;obtain ⟨t,rfl⟩:=r1;refine ⟨"str", "str.join", PySem.F.plainAttrs_str,Vb8,Vca,Vbr _ _ _,(λ_ e=>nomatch e),?_⟩;refine Calls.callWith_builtin (by rfl) (Calls.evalArgs_plain ?_);show wpAny _ _ (spliced ((false,eval (.Call (.Name "reversed" p2) [.Name x p3] [] p4) X.env)::[])) _ _ s1;refine Calls.spliced_cons ?_;refine Va4 (ZgM I1 hg hm rfl ?_ (by decide) (by decide));refine VaM (thn ((ZbG (Zb0 hN hv hd hcd) Zcu) p4 pins s1 σ H1 (λxs H2=>xs=[.ref a]/\H2=H1) I1 ⟨.ref a,h1,rfl,rfl⟩) λus s2 ⟨vs,H2,I2,rv,ev,eh⟩=>?_) rfl (by rfl);subst ev eh;obtain ⟨u,rfl,ru⟩:=vals1 rv;cases ru;obtain ⟨its,r,pl,hlen⟩:=I2.list (SqL.of h2);refine call_reversed_list pl.isList ?_;refine Calls.spliced_nil ?_;have hsz:(its.toArray.size:Int)=(ts.length:Int):=by
  have:=r.length;rw [VaW] at this;rw [VaQ,this]
 have la:a<s2.heap.objs.size:=by
  obtain ⟨o,ho,_⟩:=pl.isList;exact Vac ho
 refine Zmr (it:=s2.heap.objs.size) hc (I2.kept (t':=s2.toks) λb o e=>VaJ _ e) hz h2 (VaH la) (I2.fpOk (VaL _) (I2.hok.fresh (VaL _))) ?_ q;rw [<-hsz];exact ⟨_,VaK _ rfl,rfl,rfl⟩
def Zll(j:Nat){k:Nat}(hc:X.calm=true)(hg:Gl X "reversed")(hm:X.mg "reversed"=none)(hN:X.N[j]?=some x:=by rfl)(hv:Vis X.env.scope x:=by first | exact Or.inl rfl | exact Or.inr (Or.inl rfl) | exact Or.inr (Or.inr rfl))(hd:(x==("__debug__" : Str))=false:=by decide)(hcd:(x==("__classdict__" : Str))=false:=by decide)
  (hbase:attributeBase (.Constant (.str z) k p1) "join" X.env (eval (.Constant (.str z) k p1) X.env)=eval (.Constant (.str z) k p1) X.env:=by rfl) (hline:(apos.endLine==cpos.line)=true:=by rfl) :
  DE X E (.Call (.Attribute (.Constant (.str z) k p1) "join" apos) [.Call (.Name "reversed" p2) [.Name x p3] [] p4] [] cpos) (Zhc z j) (joinRev z j):=⟨Zks j hc hg hm hN hv hd hcd hbase hline,Zkk z j⟩
def ydB{y:Str}{tk:Tok}(hg:Gl X x)(hm:X.mg x=some (.str y tk))(hd:(x==("__debug__" : Str))=false:=by decide):DE X E (.Name x pos) (tC (.str y)) (c (.str y)):=⟨ZeM hg hm ⟨_,rfl⟩ hd,se_c λ_=>.str _⟩
def yb7{id:String}{name:Str}{r:V->List V->Hp->VK->Prop}{f:Str->D->Res D}(slot:Slot "str" name id)(hty:typeOf (.builtin id)=pure (.type "method_descriptor"))(hm:MtR X id r)(hf:SmD X.K X.mg r f)(ho:DE X E o to mo)(ha:DE X E a ta ma)
  (hbase:attributeBase o name X.env (eval o X.env)=eval o X.env:=by rfl)
  (hfew:((backTo cpos (starEach [a] X.env)).all (λx=>!x.1)&&(backToKw cpos (keywordEach [] X.env)).all (λx=>x.1.isSome)
   && decide ([a].length+([]:List Keyword).length+(if ([]:List Keyword).isEmpty then 0 else 1)<30))=true:=by rfl)
  (hline:(apos.endLine==cpos.line)=true:=by rfl) (hs:starEach [a] X.env=(false,eval a X.env)::starEach [] X.env:=by rfl) (hplain:(backTo cpos (starEach [] X.env)).any (·.1)=false:=by rfl) :
  DE X E (.Call (.Attribute o name apos) [a] [] cpos) (tBM X.K "str" r to (ZdD ta tNil)) (sD f mo ma):=⟨Zj3 PySem.F.plainAttrs_str slot hty hm ho.p (ZbG ha.p Zcu hs) hbase hfew hline hs hplain,Zte hf ho.s ha.s⟩
def Zub(ha:DE X E a ta ma)(hb:DE X E b tb mb)(hm:behindInMarks .In b=false:=by rfl):DE X E (.Compare a [.In] [b] pos) (tOp (λx y H Q=>∃i j,x=.str i/\y=.str j/\Q (.bl (!(Builtin.Str.occurrences j i 0 j.length 1).isEmpty)) H) ta tb) (o2 dInT ma mb):=Znx ZlW Zpw ha hb hm
def ZpN(ha:DE X E a ta ma)(hb:DE X E b tb mb)(hm:behindInMarks .NotIn b=false:=by rfl):DT X E (.Compare a [.NotIn] [b] pos) (ZfO (tOp (λx y H Q=>∃i j,x=.str i/\y=.str j/\Q (.bl (!(!(Builtin.Str.occurrences j i 0 j.length 1).isEmpty))) H) ta tb)) (trb (o2 Zny ma mb)):=ZeZ ZhQ ZmK ha hb hm
def Zk3{lo hi:Option Expr}{tl th:TO}{ml mh:Ev->Res (Option Int)}{p2:Pos}(ha:DE X E a ta ma)(hl:DO X E lo tl ml)(hh:DO X E hi th mh):DE X E (.Subscript a (.Slice lo hi none p2) pos) (tSl rSlT ta tl th) (cutT ma ml mh) :=
 ⟨ZjF Zsv ha.p hl.p hh.p,Zqi ha.s hl.s hh.s⟩
end
section
variable{K:W.Frag}{mg:Str->Option Value}{E:XK}{F0 H0 F H F' H':Hp}{σ:St}{ρ:Ev}
def Zgv:∀{ρ:Ev} {i:Nat} {ds:List D},nOw ρ=true->ρ[i]?≠some (.ow ds)
 | [],_,_,_,e=>by simp at e
 | .ow _::_,_,_,h,_=>by cases h
 | .no::r,0,_,_,e=>by simp at e
 | .im _::r,0,_,_,e=>by simp at e
 | .no::r,i+1,_,h,e=>Zgv (ρ:=r) (i:=i) h (by simpa using e)
 | .im _::r,i+1,_,h,e=>Zgv (ρ:=r) (i:=i) h (by simpa using e)
def ZeQ:∀{ρ:Ev} {i:Nat} {c:Cl},nOw ρ=true->(∀ds,c≠.ow ds)->nOw (ρ.set i c)=true
 | [],_,_,_,_=>rfl
 | .ow _::_,_,_,h,_=>by cases h
 | .no::r,0,c,h,hc=>by cases c<;>first | exact h | exact absurd rfl (hc _)
 | .im _::r,0,c,h,hc=>by cases c<;>first | exact h | exact absurd rfl (hc _)
 | .no::r,i+1,c,h,hc=>ZeQ (ρ:=r) (i:=i) h hc
 | .im _::r,i+1,c,h,hc=>ZeQ (ρ:=r) (i:=i) h hc
def Rep.putE{g:Addr}{o:HO}(r:Rep K mg F0 H0 F H σ ρ)(hn:nOw ρ=true)(h0:H0 g=none)(hf:F g=none):Rep K mg F0 H0 F (upd H g o) σ ρ:=by
 refine ⟨⟨r.g.f,λb u e=>?_,λb u e1 e2=>?_,r.g.z⟩,r.len,r.im,λi ds e=>absurd e (Zgv hn),λi j ds es a e=>absurd e (Zgv hn)⟩
 ·rw [Zae (Zah e hf)];exact r.g.s b u e
 ·rw [Zae (Zah e2 h0)];exact r.g.o b u e1 e2
def Rep.forg{x:V}(r:Rep K mg F0 H0 F H σ ρ)(hn:nOw ρ=true)(i:Nat):Rep K mg F0 H0 F H (σ.set i (some x)) (ρ.set i .no):=by
 have hn2:nOw (ρ.set i .no)=true:=ZeQ hn (by simp);refine ⟨r.g,by rw [Vbq,Vbq];exact r.len,λj e q=>?_,λj ds e=>absurd e (Zgv hn2),λj k ds es a e=>absurd e (Zgv hn2)⟩;rcases ZaC q with ⟨_,z,_⟩ | ⟨hij,q⟩
 ·cases z
 ·rw [Za4 hij];exact r.im j e q
def Rep.h0(r:Rep K mg F0 H0 F H σ ρ){a:Addr}(hn:H a=none):H0 a=none:=by
 have fa:F a=none:=r.g.s.free hn;cases q:H0 a with
 | none=>rfl
 | some o =>
  cases q2:F0 a with
  | none=>rw [(r.g.o a o q2 q).2] at hn;cases hn
  | some u=>rw [r.g.f a u q2] at fa;cases fa
def Mine(K:W.Frag)(mg:Str->Option Value)(H0 F H:Hp)(q:Addr)(ds:List D):Prop:=H0 q=none/\F q=none/\∃xs,H q=some (.lst xs)/\Rps K mg F xs ds
def Mine.gr{q:Addr}{ds:List D}(h:Mine K mg H0 F H q ds)(g:Gr F H F' H'):Mine K mg H0 F' H' q ds:=by
 obtain ⟨h1,h2,xs,h3,h4⟩:=h;obtain ⟨z1,z2⟩:=g.o q _ h2 h3;exact ⟨h1,z1,xs,z2,h4.same g.f⟩
def Mine.put{q g:Addr}{o:HO}{ds:List D}(h:Mine K mg H0 F H q ds)(hn:q≠g):Mine K mg H0 F (upd H g o) q ds:=by
 obtain ⟨h1,h2,xs,h3,h4⟩:=h;exact ⟨h1,h2,xs,by rw [Zae hn];exact h3,h4⟩
structure Gst(K:W.Frag)(mg:Str->Option Value)(H0:Hp)(i:Nat)(g:Addr)(rs:List Addr)(r:Addr)(gs:List (List D))(cur:List D)(F H:Hp)(σ:St):Prop where
 a:σ[i]?=some (some (.ref g))
 z:H0 g=none
 f:F g=none
 h:H g=some (.lst ((rs++[r]).map V.ref))
 n:∀q∈rs++[r],q≠g
 m:∀q∈rs,q≠r
 l:rs.length=gs.length
 d:∀(k:Nat) (q:Addr) (ds:List D),rs[k]?=some q->gs[k]?=some ds->Mine K mg H0 F H q ds
 c:Mine K mg H0 F H r cur
variable{i:Nat}{g r:Addr}{rs:List Addr}{gs:List (List D)}{cur:List D}
def Gst.gr(s:Gst K mg H0 i g rs r gs cur F H σ)(q:Gr F H F' H'):Gst K mg H0 i g rs r gs cur F' H' σ:=by
 obtain ⟨z1,z2⟩:=q.o g _ s.f s.h;exact ⟨s.a,s.z,z1,z2,s.n,s.m,s.l,λk p ds e1 e2=>(s.d k p ds e1 e2).gr q,s.c.gr q⟩
def Gst.st{σ':St}(s:Gst K mg H0 i g rs r gs cur F H σ)(e:σ'[i]?=σ[i]?):Gst K mg H0 i g rs r gs cur F H σ' :=
 ⟨e.trans s.a,s.z,s.f,s.h,s.n,s.m,s.l,s.d,s.c⟩
def Gst.new{p:Addr}(s:Gst K mg H0 i g rs r gs cur F H σ)(hp:H p=none)(h0:H0 p=none)(hf:F p=none) :
  Gst K mg H0 i g (rs++[r]) p (gs++[cur]) [] F (upd (upd H p (.lst [])) g (.lst ((rs++[r]).map V.ref++[.ref p]))) σ:=by
 have gp:g≠p:=Zah s.h hp;have mp:∀{q:Addr} {ds:List D},Mine K mg H0 F H q ds->q≠p:=λh=>by
  obtain ⟨_,_,xs,h3,_⟩:=h;exact Zah h3 hp
 have old:∀{q:Addr} {ds:List D},q≠g->Mine K mg H0 F H q ds->Mine K mg H0 F (upd (upd H p (.lst [])) g (.lst ((rs++[r]).map V.ref++[.ref p]))) q ds:=λhn h=>(h.put (mp h)).put hn;refine ⟨s.a,s.z,s.f,by rw [Zag,VbW (l₁:=rs++[r])];rfl,λq hq=>?_,λq hq=>?_,by rw [Vbe,Vbe,s.l];rfl,λk q ds e1 e2=>?_,⟨h0,hf,[],by rw [Zae (Ne.symm gp)];exact Zag,.nil⟩⟩
 ·rcases Var.mp hq with h | h
  ·exact s.n q h
  ·rw [VbU.mp h];exact Ne.symm gp
 ·rcases Var.mp hq with h | h
  ·obtain ⟨k,hk,rfl⟩:=VbV.mp h;exact mp (s.d k rs[k] (gs[k]'(by rw [<-s.l];exact hk)) (VbM hk) (VbM _))
  ·rw [VbU.mp h];exact mp s.c
 ·by_cases hk:k<rs.length
  ·rw [Vbb hk] at e1;rw [Vbb (by rw [<-s.l];exact hk)] at e2;exact old (s.n q (Vas _ (Vbd e1))) (s.d k q ds e1 e2)
  ·rw [Va9 (by omega)] at e1;rw [Va9 (by rw [<-s.l];omega)] at e2;have hk0:k - rs.length=0:=by
    have:=(Vat.mp e1).1;simp at this;omega
   rw [hk0] at e1;rw [show k - gs.length=0 by rw [<-s.l];exact hk0] at e2;cases e1;cases e2;exact old (s.n _ (VaO _ Van)) s.c
def Gst.app{x:V}{d:D}{xs:List V}(s:Gst K mg H0 i g rs r gs cur F H σ)(hr:H r=some (.lst xs))(hx:Rp K mg F x d):Gst K mg H0 i g rs r gs (cur++[d]) F (upd H r (.lst (xs++[x]))) σ:=by
 have gr:r≠g:=s.n r (VaO _ Van);obtain ⟨c1,c2,ys,c3,c4⟩:=s.c;rw [hr] at c3;cases c3;exact ⟨s.a,s.z,s.f,by rw [Zae (Ne.symm gr)];exact s.h,s.n,s.m,s.l,λk q ds e1 e2=>(s.d k q ds e1 e2).put (s.m q (Vbd e1)),⟨c1,c2,_,Zag,Rps.app (.cons hx .nil) c4⟩⟩
def Gst.ret(s:Gst K mg H0 i g rs r gs cur F H σ)(rr:Rep K mg F0 H0 F H σ ρ):∃F',Gr F0 H0 F' H/\Rp K mg F' (.ref g) (.lst ((gs++[cur]).map D.lst)):=by
 let F':Hp:=λb=>match F b with
  | some o=>some o
  | none=>if b=g\/b∈rs++[r] then H b else none
 have sF:Same F F':=λb o e=>by show (match F b with | some o=>some o | none=>_)=some o;rw [e]
 have at':∀{b:Addr},F b=none->(b=g\/b∈rs++[r])->F' b=H b:=λ{b} e h=>by
  show (match F b with | some o=>some o | none=>_)=_
  rw [e];exact if_pos h
 have mine:∀{q:Addr} {ds:List D},q∈rs++[r]->Mine K mg H0 F H q ds->Rp K mg F' (.ref q) (.lst ds):=λhm h=>by
  obtain ⟨h1,h2,xs,h3,h4⟩:=h;exact .lst (SqL.of ((at' h2 (.inr hm)).trans h3)) (h4.same sF)
 have isl:∀b,b=g\/b∈rs++[r]->∃xs,H b=some (.lst xs):=λb h=>by
  rcases h with rfl | h
  ·exact ⟨_,s.h⟩
  ·rcases Var.mp h with h | h
   ·obtain ⟨k,hk,e⟩:=VbV.mp h;have hk2:k<gs.length:=by have:=s.l;omega
    obtain ⟨_,_,xs,h3,_⟩:=s.d k b gs[k] (by rw [VbM hk,e]) (VbM hk2);exact ⟨xs,h3⟩
   ·have:b=r:=by simpa using h
    subst this;obtain ⟨_,_,xs,h3,_⟩:=s.c;exact ⟨xs,h3⟩
 refine ⟨F',⟨rr.g.f.trans sF,λb o e=>?_,λb o e1 e2=>?_,λb o u e=>by
  cases q:F b with
  | some w =>
   rw [sF b w q] at e;cases e;exact rr.g.z b o u q
  | none =>
   have e':(match F b with | some o=>some o | none=>if b=g\/b∈rs++[r] then H b else none)=some (.frz o u):=e
   rw [q] at e';dsimp only at e';split at e'
   ·next hb =>
    obtain ⟨xs,hx⟩:=isl b hb;rw [hx] at e';cases e'
   ·cases e'⟩,.lst (SqL.of ((at' s.f (.inl rfl)).trans s.h)) (ZjN (by rw [VaW,VaW,Vbe,Vbe,s.l];rfl) λk y d e1 e2=>?_)⟩
 ·cases q:F b with
  | some u =>
   rw [sF b u q] at e;cases e;exact rr.g.s b _ q
  | none =>
   have e':(match F b with | some o=>some o | none=>if b=g\/b∈rs++[r] then H b else none)=some o:=e
   rw [q] at e';dsimp only at e';split at e'
   ·exact e'
   ·cases e'
 ·obtain ⟨z1,z2⟩:=rr.g.o b o e1 e2;refine ⟨?_,z2⟩;show (match F b with | some o=>some o | none=>if b=g\/b∈rs++[r] then H b else none)=none
  rw [z1];refine if_neg ?_;rintro (rfl | hm)
  ·rw [s.z] at e2;cases e2
  ·have hz:H0 b=none:=by
    rcases Var.mp hm with h | h
    ·obtain ⟨k,hk,rfl⟩:=VbV.mp h;exact (s.d k rs[k] (gs[k]'(by rw [<-s.l];exact hk)) (VbM hk) (VbM _)).1
    ·rw [VbU.mp h];exact s.c.1
   rw [hz] at e2;cases e2
 ·rw [Vbc] at e1 e2;cases q1:(rs++[r])[k]? with
  | none=>rw [q1] at e1;cases e1
  | some q =>
   rw [q1] at e1;cases e1;cases q2:(gs++[cur])[k]? with
   | none=>rw [q2] at e2;cases e2
   | some ds =>
    rw [q2] at e2;cases e2;refine mine (Vbd q1) ?_;by_cases hk:k<rs.length
    ·rw [Vbb hk] at q1;rw [Vbb (by rw [<-s.l];exact hk)] at q2;exact s.d k q ds q1 q2
    ·rw [Va9 (by omega)] at q1;rw [Va9 (by rw [<-s.l];omega)] at q2;have hk0:k - rs.length=0:=by
      have:=(Vat.mp q1).1;simp at this;omega
     rw [hk0] at q1;rw [show k - gs.length=0 by rw [<-s.l];exact hk0] at q2;cases q1;cases q2;exact s.c
def tGrp(K:W.Frag)(i j k:Nat)(sc:TT):TS:=tSeq (tAsg (tLst (ZdD (tLst tNil) tNil)) (ZdH i)) (tSeq (tFor (iSeq K (tVar k)) (ZdH j) (tIfS sc (Zga (tBM K "list" Zdu (tVar i) (ZdD (tLst tNil) tNil))) (Zga (tBM K "list" Zdu (tOp (rIxD K) (tVar i) (tUn (rU λi=>V.int (-i)) (tC (.int 1)))) (ZdD (tVar j) tNil))))) (tRet (tVar i)))
def Zhq{j:Nat}{nt:MB}{c:Str}:∀(ds:List D) (gs:List (List D)) (g:List D),ZdG i j nt ρ ds gs g≠.ex c
 | [],_,_,h=>by cases h
 | d::r,gs,g,h=>by
  unfold ZdG at h;cases e:noEx (nt ((ρ.set i .no).set j (.im d))) with
  | bad=>rw [e] at h;cases h
  | ex c'=>cases z:nt ((ρ.set i .no).set j (.im d))<;>rw [z] at e<;>cases e
  | ok b =>
   rw [e] at h;have h2:(if b=true then ZdG i j nt ρ r (gs++[g]) [] else ZdG i j nt ρ r gs (g++[d]))=.ex c:=h
   split at h2
   ·exact Zhq r _ _ h2
   ·exact Zhq r _ _ h2
def Zq4{j k:Nat}{sc:TT}{nt:MB}(hij:i≠j)(hik:i≠k)(ht:STt K mg E sc nt):SS K mg E (tGrp K i j k sc) (grp i j k nt):=by
 intro F0 H0 F H σ ρ rr;unfold grp;split
 ·next ds ek =>
  split
  ·next hc =>
   simp only [Vbm,Vb6] at hc;obtain ⟨⟨⟨hn,li⟩,lj⟩,hl⟩:=hc;cases er:ZdG i j nt ρ ds [] [] with
   | bad=>trivial
   | ex c=>exact absurd er (Zhq _ _ _)
   | ok res =>
   show AnsS K mg E F0 H0 F (.ok (.rt (.lst (res.map D.lst)))) _;intro D q;obtain ⟨x,ex,rx⟩:=rr.im k _ ek;cases rx with
   | lst hq hrs =>
   rename_i aw xs;refine ⟨(show 0<=sizeLine from VaZ _),λp1 hp1=>⟨(show 1<=sizeLine by decide),λp hp=>?_⟩⟩;have n1:p≠p1:=by
    rintro rfl;rw [Zag] at hp;cases hp
   have hpH:H p=none:=by rwa [Zae n1] at hp
   have z1:=rr.h0 hp1;have z2:=rr.h0 hpH;have f1:F p1=none:=rr.g.s.free hp1;have f2:F p=none:=rr.g.s.free hpH;have r1:Rep K mg F0 H0 F (upd (upd H p1 (.lst [])) p (.lst [.ref p1])) (σ.set i (some (.ref p))) (ρ.set i .no):=((rr.putE hn z1 f1).putE hn z2 f2).forg hn i;have s1:Gst K mg H0 i p [] p1 [] [] F (upd (upd H p1 (.lst [])) p (.lst [.ref p1])) (σ.set i (some (.ref p))) :=
    ⟨ZgC (by rw [rr.len];exact li),z2,f2,Zag,λu hu=>by rw [VbU.mp hu];exact Ne.symm n1,λu hu=>by simp at hu,rfl,λk u es e=>by simp at e,⟨z1,f1,[],by rw [Zae (Ne.symm n1)];exact Zag,.nil⟩⟩
   refine ⟨.ref aw,by rw [Za4 hik];exact ex,aw,rfl,.inl ⟨⟨xs,r1.ss.seq hq⟩,?_⟩⟩
   refine ⟨λm fu σ' H'=>fu=ds.length - m/\m<=ds.length/\∃F' ρ' g rs r gs cur,Same F F'/\Rep K mg F0 H0 F' H' σ' ρ'/\nOw ρ'=true/\(∀d,ρ'.set j (.im d)=(ρ.set i .no).set j (.im d))/\Gst K mg H0 i g rs r gs cur F' H' σ'/\gs.length<=m/\cur.length<=m/\ZdG i j nt ρ (ds.drop m) gs cur=.ok res,
    ⟨_,rfl,VaZ _,F,ρ.set i .no,p,[],p1,[],[],Same.refl _,r1,ZeQ hn (by simp),λ_=>rfl,s1,VaL _,VaL _,er⟩,?_⟩
   rintro m fu σ' H' ⟨rfl,hm,F',ρ',g,rs,r,gs,cur,sF,r',hn',hset,st,lg,lc,eg⟩;have hq':SqL K H' aw xs:=r'.ss.seq (sF.seq hq);by_cases hlt:m<ds.length
   ·refine .inr ?_;have hd:ds[m]?=some ds[m]:=VbM hlt;obtain ⟨y,ey,ry⟩:=hrs.get hd;rw [VbG hlt] at eg;generalize ds[m]=d at eg ry hd;unfold ZdG at eg;obtain ⟨b,eb,eg⟩:=ZqN eg;have eb:=Zp0 eb
    refine ⟨⟨xs,y,hq',ey⟩,λσ2 H2=>∃F' ρ' g rs r gs cur,Same F F'/\Rep K mg F0 H0 F' H2 σ2 ρ'/\nOw ρ'=true/\(∀d,ρ'.set j (.im d)=(ρ.set i .no).set j (.im d))/\Gst K mg H0 i g rs r gs cur F' H2 σ2/\gs.length<=m+1/\cur.length<=m+1/\ZdG i j nt ρ (ds.drop (m+1)) gs cur=.ok res,
     λσ2 H2 z=>⟨ds.length - (m+1),by omega,rfl,hlt,z⟩,?_⟩
    rintro y' H2 ⟨rfl,hy⟩;have e2:=hy xs hq';rw [ey] at e2;cases e2;have ry':=ry.same sF;have r2:=r'.set j ry';rw [hset d] at r2;have st2:=st.st (σ':=σ'.set j (some y)) (Za4 (Ne.symm hij));have hT:=ht F0 H0 F' H2 _ _ r2;rw [eb] at hT;refine hT _ λF3 H3 b' g3 hb=>?_;cases (show b'=b from hb);have r3:=r2.gr g3;have st3:=st2.gr g3;have hn3:nOw ((ρ.set i .no).set j (.im d))=true:=ZeQ (ZeQ hn (by simp)) (by simp)
    have sj:(σ'.set j (some y))[j]?=some (some y):=ZgC (by
     have:=r'.len;have e3:ρ'.length=ρ.length:=by
      have:=Vaz List.length (hset d);simpa using this
     omega)
    have bd:∀n:Nat,n<=m+1->n<sizeLine:=λn h=>Vbu (Vak h hlt) (Vad hl (by decide));cases b with
    | true =>
     simp only [Vbh] at eg ⊢;refine ⟨.ref g,st3.a,.inl ⟨rfl,_,SqL.of st3.h⟩,by decide,λp3 hp3=>?_⟩;have gp:g≠p3:=Zah st3.h hp3;refine ⟨g,(rs++[r]).map V.ref,.ref p3,rfl,rfl,by rw [Zae gp];exact st3.h,bd _ (by rw [VaW,Vbe,st.l];exact VbQ lg),?_⟩;have w0:=r3.h0 hp3;have wf:F3 p3=none:=r3.g.s.free hp3;exact ⟨F3,_,g,rs++[r],p3,gs++[cur],[],sF.trans g3.f,(r3.putE hn3 w0 wf).putE hn3 st3.z st3.f,hn3,λd'=>by rw [List.set_set],st3.new hp3 w0 wf,by rw [Vbe];exact VbQ lg,VaZ _,eg⟩
    | false =>
     simp only [VbH,Vbg] at eg ⊢;obtain ⟨c1,c2,cs,c3,c4⟩:=st3.c;refine ⟨.ref g,st3.a,1,rfl,.inl ⟨g,(rs++[r]).map V.ref,-1,.ref r,rfl,rfl,SqL.of st3.h,?_,.inl ⟨rfl,cs,SqL.of c3⟩,y,sj,r,cs,y,rfl,rfl,c3,bd _ (by rw [c4.length];exact Nat.le_succ_of_le lc),?_⟩⟩
     ·unfold atI ixN;rw [if_neg (by decide),if_pos (by rw [VaW,Vbe];simp;omega)];show ((rs++[r]).map V.ref)[(-1+(((rs++[r]).map V.ref).length:Int)).toNat]?=_;rw [VaW,Vbe,List.length_singleton,show (-1+((rs.length+1:Nat):Int)).toNat=rs.length by omega,Vbc,Va9 (VaL _),Nat.sub_self];rfl
     ·exact ⟨F3,_,g,rs,r,gs,cur++[d],sF.trans g3.f,r3.putE hn3 c1 c2,hn3,λd'=>by rw [List.set_set],st3.app c3 (ry'.same g3.f),Nat.le_succ_of_le lg,by rw [Vbe];exact VbQ lc,eg⟩
   ·refine .inl ⟨⟨xs,hq',by rw [hrs.length];omega⟩,?_⟩;have e0:ds.drop m=[]:=VbN (by omega);rw [e0] at eg;cases eg;obtain ⟨F5,g5,x5⟩:=st.ret r';exact ⟨.ref g,st.a,q F5 H' (.ref g) g5 x5⟩
  ·trivial
 ·trivial
end
section
variable{X:Cx}{E:XK}{i j k:Nat}{x y z:Str}{t':Expr}{sc:TT}{nt:MB}{p1 p2 p3 p4 p5 p6 p7 p8 p9 q1 q2 q3 q4 q5 q6 q7 q8 q9:Pos}{n1:Nat}
def Zpz(hN:X.N.Nodup)(hp:PassesOwn (model X.prog X.w) X.A X.env X.xe)(hc:X.calm=true)(hij:i≠j)(hik:i≠k)(hi:X.N[i]?=some x)(hx:Loc X.env.scope x)(hj:X.N[j]?=some y)(hy:Loc X.env.scope y)(hk:X.N[k]?=some z)(ht:DT X E t' sc nt)
  (hv:Vis X.env.scope x:=by first | exact Or.inl rfl | exact Or.inr (Or.inl rfl) | exact Or.inr (Or.inr rfl)) (hd:(x==("__debug__" : Str))=false:=by decide) (hcd:(x==("__classdict__" : Str))=false:=by decide)
  (hvy:Vis X.env.scope y:=by first | exact Or.inl rfl | exact Or.inr (Or.inl rfl) | exact Or.inr (Or.inr rfl)) (hdy:(y==("__debug__" : Str))=false:=by decide) (hcdy:(y==("__classdict__" : Str))=false:=by decide)
  (hvz:Vis X.env.scope z:=by first | exact Or.inl rfl | exact Or.inr (Or.inl rfl) | exact Or.inr (Or.inr rfl)) (hdz:(z==("__debug__" : Str))=false:=by decide) (hcdz:(z==("__classdict__" : Str))=false:=by decide)
  (hs:swapsWith (.List [.List [] p1] p2) (some (.Name x p3)) p4.line X.env=pure false:=by rfl) (hf:X.fn x=true\/X.env.scope.names.lookup x=some .local:=by first | exact .inl rfl | exact .inr rfl | assumption)
  (hfy:X.fn y=true\/X.env.scope.names.lookup y=some .local:=by first | exact .inl rfl | exact .inr rfl | assumption)
  (hse:starEach [.List [] p1] X.env=(false,eval (.List [] p1) X.env)::starEach [] X.env:=by rfl)
  (hfs:∀u,foldedSetIterable (.Name z p6) X.env u=pure u:=by intro _;rfl)
  (hb1:attributeBase (.Name x p7) "append" X.env (eval (.Name x p7) X.env)=eval (.Name x p7) X.env:=by rfl)
  (hw1:((backTo p9 (starEach [.List [] q1] X.env)).all (λx=>!x.1)&&(backToKw p9 (keywordEach [] X.env)).all (λx=>x.1.isSome)
   && decide (([.List [] q1]:List Expr).length+([]:List Keyword).length+(if ([]:List Keyword).isEmpty then 0 else 1)<30))=true:=by rfl)
  (hl1:(p8.endLine==p9.line)=true:=by rfl) (hs1:starEach [.List [] q1] X.env=(false,eval (.List [] q1) X.env)::starEach [] X.env:=by rfl) (hp1:(backTo p9 (starEach [] X.env)).any (·.1)=false:=by rfl)
  (hsw1:swapsWith (.Call (.Attribute (.Name x p7) "append" p8) [.List [] q1] [] p9) none q2.line X.env=pure false:=by rfl)
  (hb2:attributeBase (.Subscript (.Name x q3) (.UnaryOp .USub (.Constant (.int 1) n1 q4) q5) q6) "append" X.env (eval (.Subscript (.Name x q3) (.UnaryOp .USub (.Constant (.int 1) n1 q4) q5) q6) X.env)=eval (.Subscript (.Name x q3) (.UnaryOp .USub (.Constant (.int 1) n1 q4) q5) q6) X.env:=by rfl)
  (hw2:((backTo q8 (starEach [.Name y q9] X.env)).all (λx=>!x.1)&&(backToKw q8 (keywordEach [] X.env)).all (λx=>x.1.isSome)
   && decide (([.Name y q9]:List Expr).length+([]:List Keyword).length+(if ([]:List Keyword).isEmpty then 0 else 1)<30))=true:=by rfl)
  (hl2:(q7.endLine==q8.line)=true:=by rfl) (hs2:starEach [.Name y q9] X.env=(false,eval (.Name y q9) X.env)::starEach [] X.env:=by rfl) (hp2:(backTo q8 (starEach [] X.env)).any (·.1)=false:=by rfl)
  {r1 r2 r3 r4 r5:Pos}
  (hsw2:swapsWith (.Call (.Attribute (.Subscript (.Name x q3) (.UnaryOp .USub (.Constant (.int 1) n1 q4) q5) q6) "append" q7) [.Name y q9] [] q8) none r1.line X.env=pure false:=by rfl) :
  DSs X E [.Assign [.Name x p3] (.List [.List [] p1] p2) p4,.For (.Name y p5) (.Name z p6) [.If t' [.Expr (.Call (.Attribute (.Name x p7) "append" p8) [.List [] q1] [] p9) q2] [.Expr (.Call (.Attribute (.Subscript (.Name x q3) (.UnaryOp .USub (.Constant (.int 1) n1 q4) q5) q6) "append" q7) [.Name y q9] [] q8) r1] r2] [] r3,.Return (some (.Name x r4)) r5]
   (tGrp X.K i j k sc) (grp i j k nt) :=
 ⟨ZcW (Zih hN hi hx (Zij (ZbG (Zij Zcu) Zcu hse)) hs hf) (ZcW (ZnT hp hc (Zb2 (E:=E) (d_v k hk hvz hdz hcdz)).p (Zlm hN hj hy hfy) (Zd8 (Zrv ht.p
   (Zd8 (ZeI (Zj3 VbR PySem.F.slot_list_append PySem.F.type_list_append ZfW (Zb0 hi hv hd hcd) (ZbG (Zij Zcu) Zcu hs1) hb1 hw1 hl1 hs1 hp1) hsw1))
   (Zd8 (ZeI (Zj3 VbR PySem.F.slot_list_append PySem.F.type_list_append ZfW (Zss (IxR.or Zk1 Zoo) (Zb0 hi hv hd hcd) (ZsR ZnO Zoa) (λ_ _=>rfl)) (ZbG (Zb0 hj hvy hdy hcdy) Zcu hs2) hb2 hw2 hl2 hs2 hp2) hsw2)))) hfs) (Zd8 (ZlO (Zb0 hi hv hd hcd)))),
Zq4 hij hik ht.s⟩
end
end L2.Ds
namespace Dl
open PySem
def ZkX:D->D->Res D
 | .str x,.int n=>match cpL x with
  | [c]=>if 0<=n/\n<=1000000 then .ok (.str (mkS (List.replicate n.toNat c))) else .bad
  | _=>.bad
 | _,_=>.bad
end Dl
namespace L2.Ds
open PySem PySem.Spec PyProof.Rows PySem.Calls Dl
def Zpv:R2:=λx y H Q=>∃c n,x=.str ⟨#[c]⟩/\y=.int n/\0<=n/\n<=1000000/\Q (.str (mkS (List.replicate n.toNat c))) H
def Zje(c:Nat):∀(m:Nat) (a:Array Nat),(List.replicate m #[c]).foldl (·++·) a=a++(List.replicate m c).toArray
 | 0,a=>by simp
 | m+1,a=>by
  rw [List.replicate_succ,List.foldl_cons,Zje c m,List.replicate_succ];apply Array.toList_inj.mp;simp
def Zpx{X:Cx}:OpR X (binaryOp .Mult) Zpv:=by
 intro pins s σ H x y v u Q I rx ry h;obtain ⟨c,n,rfl,rfl,h0,h1,q⟩:=h;obtain ⟨t,rfl⟩:=rx;obtain ⟨t',rfl⟩:=ry;have l1:(⟨#[c]⟩ : Str).length=1:=rfl;refine PySem.P.mul_str (by rw [Vaa (by omega),Vaa (by omega)];rfl) (λ_ _=>?_) (λ_ _=>?_) ?_
 ·rw [l1];have:1<=(2^63 - 1)/n:=Int.le_ediv_of_mul_le (by omega) (by omega);omega
 ·unfold Builtin.Str.tooLong;rw [l1,VaP];simp;omega
 ·by_cases q1:n<1
  ·rw [if_pos q1];have e:n.toNat=0:=by omega
   rw [e] at q;exact ⟨by decide,.str _,H,I.tok _,⟨_,rfl⟩,q⟩
  ·rw [if_neg q1];by_cases q2:n=1
   ·subst q2;rw [if_pos (show ((1:Int)==1||(⟨#[c]⟩ : Str).length==0)=true from rfl)];exact ⟨.str _,H,I,⟨_,rfl⟩,q⟩
   ·rw [if_neg (by rw [l1];simp [q2])];have e:(⟨(List.replicate n.toNat (⟨#[c]⟩ : Str).cps).foldl (·++·) #[]⟩ : Str)=mkS (List.replicate n.toNat c):=by
     show (⟨(List.replicate n.toNat #[c]).foldl (·++·) #[]⟩ : Str)=_;rw [Zje];simp [mkS]
    rw [e];refine ⟨?_,.str _,H,I.tok _,⟨_,rfl⟩,q⟩;rw [Zcd,Vbf,VaP];omega
def ZnF{K:W.Frag}{mg:Str->Option Value}:OpD K mg Zpv ZkX:=by
 intro E F H x y dx dy s rx ry;unfold ZkX;split
 ·next z n =>
  split
  ·next c hc =>
   cases rx;cases ry;by_cases h:0<=n/\n<=1000000
   ·rw [if_pos h];have ez:=Zfu hc;subst ez;exact .ret s (.str _) λQ q=>⟨c,n,rfl,rfl,h.1,h.2,q⟩
   ·rw [if_neg h];trivial
  ·trivial
 ·trivial
section
variable{X:Cx}{E:XK}{a b:Expr}{ta tb:TE}{ma mb:ME}{pos:Pos}
def Zot(ha:DE X E a ta ma)(hb:DE X E b tb mb):DE X E (.BinOp a .Mult b pos) (tOp Zpv ta tb) (o2 ZkX ma mb):=Zhu Zpx ZnF ha hb
end
end L2.Ds
namespace L2
open PySem PySem.Spec PyProof.Rows PySem.Calls
def Znl:List Value->Bool
 | .ref _::r=>Znl r
 | l=>l==Zc7
def Zf2(self:Value):∀{l:List Value},Znl l=true->refuseLoop self "__setattr__" l=pure ()
 | .ref C::r,h=>by rw [refuseLoop_ref];exact Zf2 self (l:=r) h
 | [],h=>by cases h
 | .type n::r,h=>by rw [VaR.mp (show (Value.type n::r==Zc7)=true from h)];exact PySem.F.store_ValueError.passes self
 | .none::r,h=>by cases h
 | .ellipsis::r,h=>by cases h
 | .notImplemented::r,h=>by cases h
 | .bool _::r,h=>by cases h
 | .int _ _::r,h=>by cases h
 | .float _ _::r,h=>by cases h
 | .str _ _::r,h=>by cases h
 | .bytes _ _::r,h=>by cases h
 | .builtin _::r,h=>by cases h
structure ClsX(K:W.Frag)(C:Addr):Prop where
 m:W.mroIn K C (.type "object")=some true
 o:((W.clsIn K C).any λcd=>Znl cd.mro)=true
 d:W.hasDictIn K C=true
 sa:W.findIn K (.ref C) "__setattr__"=some (some (.builtin "object.__setattr__"))
section
open PySem.Builtin PySem.Builtin.ObjectAttr PySem.W
variable{prog:Program}{w:World}{A:Around}{E:Value->Shared->Prop}{s:Shared}{K:W.Frag}{x C:Addr}{name:Str}{v:Value}
def osaX{ox:Obj}{od:Option Obj}{tk:Tok}{R:Result->Shared->Prop}(XI:K.In s.heap)(I:W.InstAt s.heap x ox C od)(c:ClsX K C)(hn:W.findIn K (.ref C) name=some none)
  (h:wpAny (model prog w) A.in1 (storeInOwnDict (.ref x) (.ref C) (.str name tk) name v false)
   (λfin s'=>match fin with | .done f=>R (.ok f) s' | .again c'=>c'.quiet=true/\codeAny (model prog w) A c' R s') (λe s'=>R (.error e) s') s) :
  codeAny (model prog w) A (.call (.builtin "object.__setattr__") ⟨[.ref x,.str name tk,v],[]⟩) R s:=by
 have SF:=PySem.F.store_object;obtain ⟨cd,hc,ho⟩:=W.any_some c.o;have sub:W.Looks (model prog w) s.heap (isInstance (.ref x) (.type "object")) true:=I.type.andThen (VbF XI c.m);refine VbC SF.slot.plain SF.entry (@W.check_slot (model prog w) _ _ s "object.__setattr__" "object" "__setattr__" (.ref x) [.str name tk,v] [] _ SF.kind SF.split sub (SF.args (.ref x) (.str name tk) v) ?_);have hm:W.Looks (model prog w) s.heap (mroOf (.ref C)) cd.mro:=(W.looks_clsIn XI hc).andThen .now;rw [W.osa_eq,refuse_eq];refine VaC (VaC (I.type.here (VaC (hm.here ?_))));rw [Zf2 _ ho];refine VaI (VaC (I.type.here (VaC ((VaU XI hn).here (VaC ?_)))));exact (W.Looks.now (M:=model prog w)).here h
end
abbrev exFs(t:Addr):Data:=.fields #[.ref t,.none,.none,.none,.bool false,.none]
def ExN(a C:Addr)(h:Heap):Prop:=∃t,h.get? a=some { cls:=.ref C,data:=exFs t }
def ExM(a C d:Addr)(h:Heap):Prop:=∃t,h.get? a=some { cls:=.ref C,dict:=some d,data:=exFs t }
def exN(a C:Addr):HO:=.ext (ExN a C)
def exM(a C d:Addr):HO:=.ext (ExM a C d)
section
variable{P:Program}{w:World}{H:Hp}{h:Heap}{a C d:Addr}
def Zs9(e:ExN a C h):Zbt P w H h a (exN a C):=⟨e,e.elim λ_ z=>⟨_,z⟩,λ_ _ ⟨t,q⟩ k=>⟨t,k _ q⟩⟩
def Zrw(e:ExM a C d h):Zbt P w H h a (exM a C d):=⟨e,e.elim λ_ z=>⟨_,z⟩,λ_ _ ⟨t,q⟩ k=>⟨t,k _ q⟩⟩
end
section
open PySem.Builtin PySem.Builtin.ObjectAttr
variable{X:Cx}{pins:List (Addr×Obj)}{σ:St}{H:Hp}{s:Shared}{a C:Addr}{f:Str}{A:Around}{E:Value->Shared->Prop}
def Zi6{y:V}{u:Value}{Q:Unit->Shared->Prop}(I:Inv X pins σ H s)(e:H a=some (exN a C))(c:ClsX X.K C)(n:W.findIn X.K (.ref C) f=some none)(ry:RelV y u)
  (h:∀d s',H d=none->d≠a->Inv X pins σ (upd (upd H a (exM a C d)) d (.xd [(f,y)])) s'->Q () s'):wpAny (model X.prog X.w) A (setAttr (.ref a) f u) Q E s:=by
 obtain ⟨t,hx⟩ : ExN a C s.heap:=(I.hok a _ e).1;have J:W.InstAt s.heap a { cls:=.ref C,data:=exFs t } C none:=⟨hx,rfl,rfl,trivial⟩;refine W.set_plain I.kIn J c.sa (osaX (s:={ s with toks:=s.toks+1 }) I.kIn J c n ?_)
 obtain ⟨cd,hc,hd'⟩:=W.any_some c.d;have hxs:a<s.heap.objs.size:=Vac hx;unfold storeInOwnDict;refine VaC (VaI (VaC ?_));refine VaC (VaS hx (VaC (W.Looks.here (s:={ s with toks:=s.toks+1 }) (W.looks_clsIn I.kIn hc) ?_)))
 rw [hd'];refine VaC (wpAny_alloc' ?_);have hx1:(s.heap.push { cls:=.type "dict", data:=.dict #[] }).get? a=some { cls:=.ref C,data:=exFs t }:=VaJ _ hx;refine VaC (wpAny_update' hx1 ?_);refine VaI ?_;have hd0:(s.heap.push { cls:=.type "dict", data:=.dict #[] }).get? s.heap.objs.size=some { cls:=.type "dict", data:=.dict #[] }:=Heap.get?_push_at rfl rfl;have hne:s.heap.objs.size≠a:=VaH hxs;have hgd:((s.heap.push { cls:=.type "dict", data:=.dict #[] }).update a λo=>{ o with dict:=some s.heap.objs.size }).get? s.heap.objs.size=some { cls:=.type "dict", data:=.dict #[] } :=
  (Heap.get?_update_ne _ _ _ _ hne).trans hd0
 have hnd:((s.heap.push { cls:=.type "dict", data:=.dict #[] }).update a λo=>{ o with dict:=some s.heap.objs.size }).Ns s.heap.objs.size (λ_=>none) :=
  ⟨_,#[],_,hgd,rfl,λe he=>absurd he (by simp),λ_=>rfl⟩
 have hx2:((s.heap.push { cls:=.type "dict", data:=.dict #[] }).update a λo=>{ o with dict:=some s.heap.objs.size }).get? a=some { cls:=.ref C,dict:=some s.heap.objs.size,data:=exFs t }:=Vbo _ hx1 rfl
 show wpAny _ _ (storeInDict s.heap.objs.size (.str f s.toks) f u) _ _ _;unfold storeInDict newKeyGuard;refine VaC (VaI (VaC (wpAny_nsSet1 (Heap.Ns1.of_empty hnd) λh' hn' hs=>?_)));obtain ⟨oD,esD,epD,hoD,hdD,hcD⟩:=hn'.count (Within.cons f u Within.nil);refine VaC (wpAny_lookBehind hoD (by rw [hdD];exact pastItsLine_dict (Vak hcD (by rw [VaT,List.length_nil,VaP];omega))) ?_);refine VaI ?_;have fresh:H s.heap.objs.size=none:=I.hok.fresh (VaL _);have same:∀b o,b≠a->s.heap.get? b=some o->h'.get? b=some o:=λb o hb z =>
  (hs.2 b (Vaf (Vac z))).trans ((Heap.get?_update_ne _ _ _ _ hb).trans (VaJ _ z))
 have nb:∀b,H b=none->b≠a:=λb z q=>by rw [q,e] at z;cases z
 have old:∀b o,s.heap.get? b=some o->b≠s.heap.objs.size:=λb o z=>Vaf (Vac z);have trk:∀b o,H b=some o->b≠s.heap.objs.size:=λb o z q=>by rw [q,fresh] at z;cases z
 have hx':h'.get? a=some { cls:=.ref C,dict:=some s.heap.objs.size,data:=exFs t }:=(hs.2 a (Ne.symm hne)).trans hx2;refine h s.heap.objs.size _ fresh hne (I.un (h':=h') (t':=_) ⟨λb o z n _ _=>same b o (nb b n) z,λb o z n _ _=>⟨o.slots,same b o (nb b n) z⟩,λb o z n _=>?_,λb o z _=>?_,λb xs z=>?_,λb o xs z=>?_,λb ps z=>⟨#[],?_⟩⟩ λb o z=>?_)
 ·rw [Zae (old b o z),Zae (nb b n)];exact n
 ·by_cases q:b=a
  ·exact ⟨_,q▸hx'⟩
  ·exact ⟨o,same b o q z⟩
 ·rw [Zae (trk b _ z),Zae (λq=>by rw [q,e] at z;cases z)];exact z
 ·rw [Zae (trk b _ z),Zae (λq=>by rw [q,e] at z;cases z)];exact z
 ·rw [Zae (trk b _ z),Zae (λq=>by rw [q,e] at z;cases z),z];simp
 ·by_cases q:b=s.heap.objs.size
  ·subst q;rw [Zag] at z;cases z;refine ⟨_,hn',λg=>?_⟩;show RelO (([(f,y)]:List (Str×V)).lookup g) (if g=f then some u else none)
   rw [Vbv];by_cases q:g=f
   ·rw [if_pos q,VaR.mpr q];exact ry
   ·rw [if_neg q,beq_false_of_ne q];trivial
  ·rw [Zae q] at z;by_cases q2:b=a
   ·subst q2;rw [Zag] at z;cases z;exact Zrw ⟨t,hx'⟩
   ·rw [Zae q2] at z;refine (I.hok b o z).stay (λc ob hc r=>?_) (λc r=>?_) λc xs r=>?_
    ·refine same c ob ?_ r;rcases hc with rfl | hc
     ·exact q2
     ·exact λq=>by rw [q,e] at hc;cases hc
    ·rw [Zae (trk c _ r),Zae (λq=>by rw [q,e] at r;cases r)];exact r
    ·rw [Zae (trk c _ r),Zae (λq=>by rw [q,e] at r;cases r)];exact r
end
def ZgI(K:W.Frag)(C fI:Addr):Bool:=W.excIn.match_6 (λ_=>Bool) (K.lookup C) (λ_ cd sl=>W.excIn.match_1 (λ_ _=>Bool) cd.mro sl.toList
 (λC' bm _ _ _ _ n _=>C'==C&&n == "ValueError.__new__"&&!cd.hasDel&&W.tailIn K Zc7 bm&&W.findIn K (.ref C) "__init__"==some (some (.ref fI))&&W.typeIn K (.ref fI)==some (.type "function")) λ_ _=>false) λ_=>false
section
variable{prog:Program}{w:World}{A:Around}{E:Value->Shared->Prop}{h:Heap}{g:Array GenState}{d:Drawn}{t:Nat}{os:OsState}{K:W.Frag}{C fI:Addr}
def Zf9{nm q:Str}{C N:Addr}{bs bm:List Value}{hdct:Bool}{sn:List Str}{sub:List Value}{ab:Bool}{col:Option Bool}{dd:Option Addr}{k0 k1 k2 k3 k5:Option Value}{rest:List Value}{Q:Fin->Shared->Prop}
  (XI:K.In h) (hC:h.get? C=some (excClassObj nm q C N bs bm hdct sn sub ab col dd k0 k1 k2 k3 k5 "ValueError.__new__")) (T:OwnTail h Zc7 bm) (hi:W.findIn K (.ref C) "__init__"=some (some (.ref fI))) (hfn:W.typeIn K (.ref fI)=some (.type "function"))
  (hq:∀h' e,Heap.MadeExcOf h h' e (.ref C) rest->wpAny (model prog w) A (call (.ref fI) (.ref e::rest)) (λr s'=>r=.none/\Q (.done (.ret (.ref e))) s') E ⟨h',g,d,t,os⟩) (hrest:rest.length<=sizeLine) :
  wpAny (model prog w) A (Builtin.«type.__call__» ⟨.ref C::rest,[]⟩) Q E ⟨h,g,d,t,os⟩:=by
 have Fn:=VbB;have hBn:Zc7.contains (.type "ValueError")=true:=by decide +kernel
 repeat (first | with_reducible refine wpAny_loadPart_at hC ?_ | with_reducible refine wpAny_madeBy_exc hC ?_ | wp_step)
 refine codeAny_call_builtin_code (VbD _ Fn.quiet) (wpAny_check_new_subU Fn hBn T hC ?_);refine codeAny_exc_new_subU Fn hBn Fn T hC ?_ hrest;show wpAny _ _ _ _ _ _;have hC₁:=VaJ { cls:=.ref C,data:=.fields #[.ref h.objs.size,.none,.none,.none,.bool false,.none] }
  (VaJ { cls:=.type "tuple", data:=.seq rest.toArray } hC)
 have hget:((h.push { cls:=.type "tuple", data:=.seq rest.toArray }).push
   { cls:=.ref C,data:=.fields #[.ref h.objs.size,.none,.none,.none,.bool false,.none] }).get? (h.objs.size+1)=some
   { cls:=.ref C,data:=.fields #[.ref h.objs.size,.none,.none,.none,.bool false,.none] }:=by heap_get
 have hcC:(Value.ref C::bm).contains (.ref C)=true:=by simp
 have XI1:K.In ((h.push { cls:=.type "tuple", data:=.seq rest.toArray }).push { cls:=.ref C,data:=.fields #[.ref h.objs.size,.none,.none,.none,.bool false,.none] }):=λb o e=>VaJ _ (VaJ _ (XI b o e));unfold isInstance
 repeat (first | with_reducible refine wpAny_loadPart_at hget ?_ | (with_reducible refine wpAny_isSubtype_exc hC₁ ?_;rw [hcC]) | wp_step)
 show wpAny _ _ (typeLookup (.ref C) _) _ _ _;refine (VaU XI1 hi).here ?_;refine VaD (VaC ?_);refine (W.bind_fn XI1 _ hfn).here ?_;refine VaC (Vax (hq _ (h.objs.size+1) ⟨λb o hb=>VaJ _ (VaJ _ hb),Vap (Nat.le_succ _),h.objs.size,hget,Vap (VaL _),?_⟩) (λr s' hr=>?_) λ_ _ x=>x)
 ·exact VaJ _ (Heap.get?_push_at rfl rfl)
 ·obtain ⟨rfl,hQ⟩:=hr
  wp_walk
  exact hQ
def Zls{rest:List Value}{Q:Value->Shared->Prop}(XI:K.In h)(q:ZgI K C fI=true)
  (hq:∀h' e,Heap.MadeExcOf h h' e (.ref C) rest ->
   wpAny (model prog w) (A.under (.builtin "type.__call__" ⟨.ref C::rest,[]⟩)) (call (.ref fI) (.ref e::rest)) (λr s'=>r=.none/\Q (.ref e) s') E ⟨h',g,d,t,os⟩) (hrest:rest.length<=sizeLine) :
  wpAny (model prog w) A (call (.ref C) rest) Q E ⟨h,g,d,t,os⟩:=by
 unfold ZgI at q;split at q
 ·rename_i dd cd sl ho;split at q
  ·rename_i C' bm k0 k1 k2 k3 n k5 hm hs;simp only [Vbm,VaR,Bool.not_eq_true'] at q;obtain ⟨⟨⟨⟨⟨rfl,rfl⟩,hdel⟩,ht⟩,hi⟩,hfn⟩:=q;obtain ⟨nm,bs,mro,ns,qn,hdct,sn,sub,ab,col,del⟩:=cd;dsimp only at hm hdel;subst hm hdel;have hsl:sl=#[k0,k1,k2,k3,some (.builtin "ValueError.__new__"),k5]:=by
    obtain ⟨l⟩:=sl;simp only at hs;rw [hs]
   subst hsl;have hC:h.get? C'=some (excClassObj nm qn C' ns bs bm hdct sn sub ab col dd k0 k1 k2 k3 k5 "ValueError.__new__"):=XI _ _ ho;have T:OwnTail h Zc7 bm:=W.tail_of_in XI ht;have Fn:=VbB;have hBn:Zc7.contains (.type "ValueError")=true:=by decide +kernel
   have f1:=tc_lookup;have f2:=tc_bind (.ref C');have hT:(⟨h,g,d,t,os⟩ : Shared).TypeIs (.ref C') "type" := ⟨_,hC,rfl⟩;refine Va2 (codeAny_of_tree ?_);show wpAny _ _ (callAny (.ref C') _) _ _ _
   repeat (any_goals (first | assumption | with_reducible refine wpAny_loadPart_at hC ?_ | wp_step))
   refine ⟨rfl,?_⟩;refine codeAny_call_builtin_at (VbD _ (by decide +kernel)) entry_typeCall (wpAny_check_type_call_sub hC ?_);exact Zf9 XI hC T hi hfn (λh' e hm=>hq h' e hm) hrest
  ·cases q
 ·cases q
end
def ZtT(K:W.Frag)(ta tv:TE)(f:Str):TS:=λD σ H=>tv σ H λy H1=>ta σ H1 λx H2=>∃a C,x=.ref a/\H2 a=some (exN a C)/\ClsX K C/\W.findIn K (.ref C) f=some none /\
 ∀d,H2 d=none->d≠a->D.nx σ (upd (upd H2 a (exM a C d)) d (.xd [(f,y)]))
section
variable{X:Cx}{o value:Expr}{f:Str}{pos pos':Pos}{ta tv:TE}
def Zqc(ha:PE X o ta)(hv:PE X value tv)(hs:swapsWith value (some (.Attribute o f pos')) pos.line X.env=pure false):PS X (.Assign [.Attribute o f pos'] value pos) (ZtT X.K ta tv f):=by
 intro pins s σ H D I h;refine plainObj_wpAny_Assign_Attribute (thn (hv pins s σ H _ I h) λu s1 ⟨y,H1,I1,ry,q⟩=>thn (ha pins s1 σ H1 _ I1 q) λov s2 zq=>?_) hs;obtain ⟨x,H2,I2,rx,a,C,ex,ea,c,n,q2⟩:=zq;subst ex;obtain rfl:ov=Value.ref a:=rx;exact Zi6 I2 ea c n ry λd s3 h1 h2 I3=>⟨σ,_,I3,q2 d h1 h2⟩
end
def spX(C:Addr):Sp:=λvs H Q _=>∃a y,vs=[.ref a,y]/\H a=some (exN a C)/\∀d,H d=none->d≠a->Q .non (upd (upd H a (exM a C d)) d (.xd [("at", y)]))
section
variable{P:Program}{w:World}{K:W.Frag}{mg:Str->Option Value}{base:Heap}{x qual:Str}{f C:Addr}
def okX{st:Stmt}{fd:FuncData}{k:Nat}{p1 p2 p3 p4:Pos}(F:Fun K x qual st f fd)(S:Zaf ["self", "at"] ["self", "at"] (Zac st))(hb:Zbn st=[.Assign [.Attribute (.Name "self" p1) "at" p2] (.Name "at" p3) p4])
  (hv1:Vis (Zac st) "self") (hv2:Vis (Zac st) "at") (hsw:∀(l:Addr) (f:Addr) (cd:Value),swapsWith (.Name "at" p3) (some (.Attribute (.Name "self" p1) "at" p2)) p4.line (envOfC qual (Zac st) l f cd)=pure false)
  (c:ClsX K C) (n:W.findIn K (.ref C) "at"=some none):Zmy P w K mg base (CXR P w) (k+1) f fd ["self", "at"] (spX C):=by
 obtain ⟨oc,od,kV,doc,pm,an,cdv,ct,osl,rfl,lk,hcd⟩:=F.ex;refine ZrC lk hcd S (λvs H Q E q=>by obtain ⟨a,y,rfl,_⟩:=q;rfl) λA outer s H vs Q E hr hsp=>?_;obtain ⟨a,y,rfl,ha,hq⟩:=hsp;rw [hb];refine ⟨_,Zd8 (Zqc (Zb0 (i:=0) rfl hv1) (Zb0 (i:=1) rfl hv2) (hsw _ _ _)),?_⟩;exact ⟨y,rfl,.ref a,rfl,a,C,rfl,ha,c,n,λd h1 h2=>hq d h1 h2⟩
end
def Inv.lose{X:Cx}{pins:List (Addr×Obj)}{σ:St}{H1 H2:Hp}{s:Shared}(I:Inv X pins σ H2 s)(hs:∀b,H1 b=H2 b\/(H1 b=none/\((∃φ,H2 b=some (.ext φ))\/∃fs,H2 b=some (.xd fs)))):Inv X pins σ H1 s:=by
 have no:∀{b:Addr},H2 b=none->H1 b=none:=λ{b} z=>by
  rcases hs b with q | ⟨q,_⟩
  ·rw [q];exact z
  ·exact q
 have kp:∀{b:Addr} {o:HO},H2 b=some o->(∀φ,o≠.ext φ)->(∀fs,o≠.xd fs)->H1 b=some o:=λ{b o} z n1 n2=>by
  rcases hs b with q | ⟨_,⟨φ,q⟩ | ⟨fs,q⟩⟩
  ·rw [q];exact z
  ·rw [z] at q;exact absurd (Vaw q) (n1 φ)
  ·rw [z] at q;exact absurd (Vaw q) (n2 fs)
 refine ⟨I.ok,I.os,I.bare,⟨I.base.keep,I.base.slot,λb o e n hx=>no (I.base.free b o e n hx),I.base.there,λb xs e=>kp (I.base.tups b xs e) (λ_ z=>by cases z) (λ_ z=>by cases z),λb o u e=>kp (I.base.frzs b o u e) (λ_ z=>by cases z) (λ_ z=>by cases z),λb ps e=>?_⟩,I.loc,I.cell,no I.free,λx c e=>no (I.freeC x c e),λp hp=>?_,λb o e=>?_,I.len⟩
 ·obtain ⟨more,z⟩:=I.base.tbls b ps e;exact ⟨more,kp z (λ_ z=>by cases z) (λ_ z=>by cases z)⟩
 ·obtain ⟨h1,h2,h3⟩:=I.pin p hp;exact ⟨h1,no h2,h3⟩
 ·have e2:H2 b=some o:=by
   rcases hs b with q | ⟨q,_⟩
   ·rw [<-q];exact e
   ·rw [q] at e;cases e
  exact (I.hok b o e2).stay (λ_ _ _ r=>r) (λc r=>kp r (λ_ z=>by cases z) (λ_ z=>by cases z)) λc xs r=>kp r (λ_ z=>by cases z) (λ_ z=>by cases z)
def Room.hh{k:Nat}{A:Around}(r:Room k A):Zhs k A:=⟨r.dp,r.un⟩
def Zhs.make{k:Nat}{A:Around}(r:Zhs (k+1) A)(C:Addr)(us:List Value)(kw:List (Str×Value)):Zhs k (A.under (.builtin "type.__call__" ⟨.ref C::us,kw⟩)):=by
 have z:=Room.make (k:=k) (A:=Zly A) ⟨rfl,r.dp,r.un⟩ C us kw;exact ⟨z.dp,z.un⟩
section
variable{X:Cx}{pins:List (Addr×Obj)}{σ:St}{H:Hp}{s:Shared}{C fI:Addr}{fd:FuncData}{k:Nat}
def MadeX(C:Addr)(y:V)(X:Cx)(pins:List (Addr×Obj))(σ:St)(H:Hp)(s:Shared)(v:Value)(s2:Shared):Prop :=
 ∃x d t m,v=.ref x/\Inv X pins σ H s2/\s.heap.get? x=none/\s.heap.get? d=none/\d≠x/\H x=none/\H d=none/\s2.heap.get? x=some { cls:=.ref C,dict:=some d,data:=exFs t }/\s2.heap.Ns1 d m/\(∀g,RelO (([("at", y)]:List (Str×V)).lookup g) (m g))/\Un (frs X.stack) [] H H s.heap s2.heap
def Zjo{y:V}{u:Value}(q:ZgI X.K C fI=true)(F:Zmy X.prog X.w X.K X.mg X.base (CXR X.prog X.w) k fI fd ["self", "at"] (spX C))(hr:Zhs (k+1) X.A)(hb:Binds X.K fd ["self", "at"] [])(I:Inv X pins σ H s)(r:RelV y u) :
  wpAny (model X.prog X.w) X.A (call (.ref C) [u]) (MadeX C y X pins σ H s) X.xe s:=by
 obtain ⟨hp,g,d0,tk,os⟩:=s;refine Zls I.kIn q (λh' e hm=>?_) (by rw [VaP];simp);obtain ⟨t,he,_,_⟩:=hm.there;have hHe:H e=none:=I.hok.free hm.new;have old:∀b o,hp.get? b=some o->b≠e:=λb o z q=>by rw [q,hm.new] at z;cases z
 have trk:∀b o,H b=some o->b≠e:=λb o z q=>by rw [q,hHe] at z;cases z
 have I2:Inv X pins σ (upd H e (exN e C)) ⟨h',g,d0,tk,os⟩:=by
  refine I.un (h':=h') (t':=tk) ⟨λb o z n _ _=>hm.keeps b o z,λb o z n _ _=>⟨o.slots,hm.keeps b o z⟩,λb o z n _=>?_,λb o z _=>⟨o,hm.keeps b o z⟩,λb xs z=>?_,λb o xs z=>?_,λb ps z=>⟨#[],?_⟩⟩ λb o z=>?_
  ·rw [Zae (old b o z)];exact n
  ·rw [Zae (trk b _ z)];exact z
  ·rw [Zae (trk b _ z)];exact z
  ·rw [Zae (trk b _ z),z];simp
  ·by_cases q2:b=e
   ·subst q2;rw [Zag] at z;cases z;exact Zs9 ⟨t,he⟩
   ·rw [Zae q2] at z;exact (I.hok b o z).stay (λc ob _ r=>hm.keeps c ob r) (λc r=>by rw [Zae (trk c _ r)];exact r) λc xs r=>by rw [Zae (trk c _ r)];exact r
 have r2:Vals [V.ref e,y] [Value.ref e,u]:=.cons rfl (.cons r .nil);have hbi:=hb ⟨h',g,d0,tk,os⟩ [Value.ref e,u] I2.kIn rfl
 refine Va2 (Va3 (F.run _ X.stack _ _ ⟨[Value.ref e,u],[]⟩ [Value.ref e,u] [V.ref e,y] (λv H2=>v=.non/\∃d,upd H e (exN e C) d=none/\d≠e/\H2=upd (upd (upd H e (exN e C)) e (exM e C d)) d (.xd [("at", y)])) E0 (hr.make C [u] [])
  (I2.env0.make C [u] []) hbi r2 ⟨e,y,rfl,Zag,λd h1 h2=>⟨rfl,d,h1,h2,rfl⟩⟩) λrr s' hq=>?_)
 cases rr with
 | error ev =>
  obtain ⟨_,_,_,_,_,_,_,z⟩:=hq;exact z.elim
 | ok fl =>
  cases fl with
  | ret v =>
   have hq':CE X.stack X.prog X.w _ _ _ v s':=hq;obtain ⟨v',H2',os',bare',un',hok',rv',ev,d,h1,h2,eH⟩:=hq';obtain ⟨hh,g',dd',t',osx⟩:=s';obtain rfl:osx=os:=os';have I3:=I2.call (h':=hh) (g':=g') (d':=dd') (t':=t') (ch:=[]) un' hok' bare' (λb z=>absurd z (by simp));subst ev;subst eH;obtain rfl:v=.none:=rv';have hHd:H d=none:=by rw [Zae h2] at h1;exact h1
   have e1:upd (upd (upd H e (exN e C)) e (exM e C d)) d (.xd [("at", y)]) e=some (exM e C d):=by rw [Zae (Ne.symm h2)];exact Zag
   obtain ⟨t2,ht2⟩ : ExM e C d hh:=(I3.hok e _ e1).1;obtain ⟨m,hm1,hm2⟩:=I3.hok d _ Zag;refine ⟨rfl,e,d,t2,m,rfl,I3.lose λb=>?_,hm.new,?_,h2,hHe,hHd,ht2,hm1,hm2,?_⟩
   rotate_right
   ·refine ⟨λb o z n hb hx=>?_,λb o z n hb hx=>?_,λ_ _ _ n _=>n,λb o z hx=>un'.there b o (hm.keeps b o z) hx,λ_ _ z=>z,λ_ _ _ z=>z,λ_ ps z=>⟨#[],by rw [z];simp⟩⟩
    ·exact un'.keep b o (hm.keeps b o z) (by rw [Zae (old b o z)];exact n) hb hx
    ·exact un'.slot b o (hm.keeps b o z) (by rw [Zae (old b o z)];exact n) hb hx
   ·by_cases q1:b=d
    ·subst q1;exact .inr ⟨hHd,.inr ⟨_,Zag⟩⟩
    ·rw [Zae q1];by_cases q2:b=e
     ·subst q2;exact .inr ⟨hHe,.inl ⟨_,Zag⟩⟩
     ·rw [Zae q2,Zae q2];exact .inl rfl
   ·cases z:hp.get? d with
    | none=>rfl
    | some o =>
     have w:=un'.free d o (hm.keeps d o z) h1 (by simp);rw [Zag] at w;cases w
  | next=>exact False.elim hq
  | brk=>exact False.elim hq
  | cont=>exact False.elim hq
end
section
variable{X:Cx}{pins:List (Addr×Obj)}{σ:St}{H:Hp}{s:Shared}
def Inv.flyX(I:Inv X pins σ H s)(hex:X.ex=[])(hst:X.stack=X.env::X.outer)(hfr:X.env.frame=some X.env.locals){x:Addr}{ox:Obj}{vs:Array Value}{a0:Value}(hx:s.heap.get? x=some ox)(hd:ox.data=.fields vs)(h1:vs[1]?=some .none)(h0:vs[0]?=some a0)
  (hH:H x=none) (hs0:X.s₀.heap.get? x=none) {Q:Unit->Shared->Prop} {E:Value->Shared->Prop} (k:∀s2,Fly X.prog X.w X.outer X.H₀ H X.s₀ s2 x ox.cls->KD s.heap s2.heap->s.heap.UpToSlots s2.heap->Q () s2):wpAny (model X.prog X.w) X.A (leaving X.env (.ref x)) Q E s:=by
 have hin:∀env∈X.stack,∀b,env.frame=some b->b∈x::frs X.stack:=λenv he b hb=>Vao _ (VaN.mpr ⟨env,he,hb⟩);have hen:(W.hideAll s.heap (x::frs X.stack)).get? x=none:=Vaj _ Van
 refine Vax (Zez (ZdJ _ _) (wpAny_leaving_firstW (base:=W.hideAll s.heap (x::frs X.stack)) (outer:=X.outer) (Q:=λ_ s2=>∃h2,s2={ s with heap:=h2 }/\Heap.LeftW (W.hideAll s.heap (x::frs X.stack)) (X.env::X.outer) x ox.cls a0 s.heap h2) (E:=E)
  (by rw [<-hst];exact I.ok.frames) (by rw [<-hst];exact W.funFrames_hide I.stack hin) hfr hx (λb o q=>Vah _ q) hen hd h1 h0 λh2 hL=>⟨h2,rfl,hL⟩)) (λ_ s2 z=>?_) λ_ _ z=>z.1
 obtain ⟨⟨h2,rfl,k1,⟨_,_,k2⟩,k3,k4⟩,kd⟩:=z;refine k _ ?_ kd k4;refine ZiE (B:=W.hideAll s.heap (x::frs X.stack)) I.os I.bare (I.unStack hex I.sub) I.hok I.stkFree (λb hb=>(I.stack.mem hb).2) (λb o e q hb=>?_) I.sub (λb h1 h2=>?_) ⟨k1,hen,k2,k3⟩ k4 hH
 ·refine Vag _ e λz=>?_;rcases Vaq.mp z with z | z
  ·subst z;rcases q with q | ⟨o',q⟩
   ·exact q hH
   ·rw [hs0] at q;cases q
  ·exact hb z
 ·rcases Vaq.mp (I.stkSub b h1) with e | e
  ·rw [e];exact Vap I.ok.above
  ·exact absurd e h2
end
structure ClsR(K:W.Frag)(C:Addr):Prop where
 b:W.mroIn K C (.type "BaseException")=some true
 t:W.typeIn K (.ref C)=some (.type "type")
section
variable{prog:Program}{w:World}{A:Around}{E:Value->Shared->Prop}{s:Shared}{env:Env}{K:W.Frag}
def Zj5{xs:Sem Value}{Q:Flow->Shared->Prop}(hh:A.handled=none)
  (h:wpAny (model prog w) A xs (λv s1=>∃x C d t,v=.ref x/\K.In s1.heap/\ClsR K C/\s1.heap.get? x=some { cls:=.ref C,dict:=some d,data:=exFs t }/\E (.ref x) s1) E s) :
  wpAny (model prog w) A (raiseStmt env (some xs) none) Q E s:=by
 unfold raiseStmt;refine VaC (Vax h (λv s1 h1=>?_) λ_ _ z=>z);obtain ⟨x,C,d,t,rfl,XI,c,hx,hE⟩:=h1;obtain ⟨hp,g,dd,tk,os⟩:=s1;have T0:W.Looks (model prog w) hp (typeOf (.ref x)) (.ref C):=(W.Looks.ld hx).andThen .now;have T1:=VbF (M:=model prog w) XI c.b;have T2:=W.looks_typeIn (M:=model prog w) XI c.t;refine VaC (VaI (VaC (VaD ?_)));unfold excFromValue isExcClass isType loadHead;refine VaC (VaC (VaC (VaS hx (VaI ?_))));refine VaI ?_;unfold isInstance;refine VaC (VaC (T0.here (T1.here ?_)));refine VaI ?_;refine VaC (VaC (VaS hx (VaI ?_)));unfold raisedInstance;refine VaC (VaC (T0.here (VaC (T2.here ?_))));refine VaI ?_;unfold setFlight;refine VaC (VaC (Vbi hx rfl rfl ?_));refine VaI ?_;exact wpAny_raiseNew_none hh hE
end
structure MkX(P:Program)(w:World)(K:W.Frag)(mg:Str->Option Value)(base:Heap)(k:Nat)(C:Addr):Prop where
 ex:∃(fI:Addr) (fd:FuncData),ZgI K C fI=true/\Zmy P w K mg base (CXR P w) k fI fd ["self", "at"] (spX C)/\Binds K fd ["self", "at"] []
 kp:W.keepIn K (.ref C)=true
 c:ClsR K C
def Zlh(E:XK)(C:Addr)(te:TA):TS:=λ_ σ H=>te σ H λvs H1=>∃n:Nat,vs=[.int n]/\E (.ref C) (some (2*n:Nat)) H1
section
variable{P:Program}{w:World}{K:W.Frag}{mg:Str->Option Value}{base:Heap}{N:List Str}{qual:Str}{scope:Scope}{f:Addr}{cd:Value}{A:Around}{outer:List Env}{s₀:Shared}{H₀:Hp}{E:XK}
def ZlB{x:Str}{C:Addr}{np cpos pos:Pos}{e:Expr}{es:List Expr}{t:TA}{k l:Nat}(M:MkX P w K mg base k C)(hr:Room l (cxOf (CXR P w) P w K mg base N qual scope f cd A outer s₀ H₀ E).A)(hl:k+1<=l)(hg:Gl (cxOf (CXR P w) P w K mg base N qual scope f cd A outer s₀ H₀ E) x)(hm:mg x=some (.ref C))
  (ha:PA (cxOf (CXR P w) P w K mg base N qual scope f cd A outer s₀ H₀ E) (e::es) t) (hd:(x==("__debug__" : Str))=false:=by decide)
  (he:starEach (e::es) (cxOf (CXR P w) P w K mg base N qual scope f cd A outer s₀ H₀ E).env=(false,eval e (cxOf (CXR P w) P w K mg base N qual scope f cd A outer s₀ H₀ E).env)::starEach es (cxOf (CXR P w) P w K mg base N qual scope f cd A outer s₀ H₀ E).env:=by rfl)
  (hpl:(backTo cpos (starEach es (cxOf (CXR P w) P w K mg base N qual scope f cd A outer s₀ H₀ E).env)).any (·.1)=false:=by rfl) :
  PS (cxOf (CXR P w) P w K mg base N qual scope f cd A outer s₀ H₀ E) (.Raise (some (.Call (.Name x np) (e::es) [] cpos)) none pos) (Zlh E C t):=by
 intro pins s σ H D I h;obtain ⟨fI,fd,q,F,hb⟩:=M.ex;rw [arm_exec_Raise];refine VaC (VaE ?_);show wpAny _ _ (raiseStmt _ (some (do let v <-eval (.Call (.Name x np) (e::es) [] cpos) _;standAt pos;pure v)) none) _ _ s
 refine Zj5 (K:=K) (I.ok.hd rfl) (VaC ?_);refine Va4 (ZcS I hg hm ?_ hd);refine Va5 (h₀:=base) I.ok.mod.kin M.kp (thn (ha cpos pins s σ H _ I h) λus s1 ⟨vs,H1,I1,r,n,ev,qE⟩=>⟨I1.kIn,?_⟩) he hpl;subst ev;obtain ⟨u,ru,rfl⟩ : ∃u,RelV (.int (n:Int)) u/\us=[u]:=by
  cases r with
  | cons r1 r2=>cases r2;exact ⟨_,r1,rfl⟩
 refine thn (Zjo (y:=.int (n:Int)) q F ((hr.mono hl).hh) hb I1 ru) λv s2 z=>VaC (VaE (VaI ?_));obtain ⟨xe,d,tt,m,rfl,I2,nx,nd,dne,Hx,Hd,ox,ns,rl,_⟩:=z;have s0:∀b,s1.heap.get? b=none->s₀.heap.get? b=none:=λb z=>by
  cases q:s₀.heap.get? b with
  | none=>rfl
  | some o =>
   obtain ⟨o',w⟩:=I1.base.there b o q (λz=>nomatch z);rw [z] at w;cases w
 refine ⟨xe,C,d,tt,rfl,I2.kIn,M.c,ox,?_⟩;refine I2.flyX rfl rfl rfl ox rfl rfl rfl Hx (s0 xe nx) λs3 F kd sm=>⟨xe,.ref C,some (2*n:Nat),H1,rfl,F,?_,qE⟩;refine ⟨(λz=>by cases z),λn' en=>?_⟩;cases en;obtain ⟨B,a0,fl,_⟩:=F.ex;obtain ⟨o3,h3,_⟩:=fl.there;have sk:=kd.at ox h3;exact ⟨o3,d,m,h3,sk.d,ZhE sm ns,by rw [show 2*n/2=n by omega];exact rl,Hd,s0 d nd,dne,λ_=>sk.f _ rfl⟩
end
def ZgU:entryFor table "proto.unchain"=some Builtin.«proto.unchain»:=entryFor_of_fast (by kernel_rfl)
section
variable{prog:Program}{w:World}{A:Around}{E:Value->Shared->Prop}{s:Shared}{env:Env}{K:W.Frag}
def ZiZ{x a:Addr}{ox oa:Obj}{vx va:Array Value}{Q:Flow->Shared->Prop}(hh:A.handled=some (.ref a))(ne:x≠a)(ha:s.heap.get? a=some oa)(hda:oa.data=.fields va)(h2:va[2]?=some .none)
  (hx:s.heap.get? x=some ox) (hdx:ox.data=.fields vx) (sz:2<vx.size) (hE:E (.ref x) { s with heap:=s.heap.update x (Obj.mapFields (·.setIfInBounds 2 (.ref a))) }):wpAny (model prog w) A (raiseNew (.ref x):Sem Flow) Q E s:=by
 unfold raiseNew;refine VaC (wpAny_handled ?_);rw [hh];dsimp only;rw [if_pos (show (Value.ref a != Value.ref x)=true from by simp [Ne.symm ne])];refine VaC (VaD (wpAny_runValue ?_));refine VbE ZgU ?_;unfold Builtin.«proto.unchain»;dsimp only;refine VaC (Vbi ha hda h2 ?_);rw [if_pos (show (Value.none==Value.none)=true from rfl)];refine VaI ?_;unfold updateField;refine VaC (VaC (wpAny_load hx ?_));rw [hdx];dsimp only;rw [if_pos sz];exact wpAny_update hx (wpAny_throw hE)
abbrev exFr(t a:Addr):Data:=.fields #[.ref t,.none,.ref a,.none,.bool true,.none]
def ZiX{xs cs:Sem Value}{Q:Flow->Shared->Prop}{a:Addr}(hh:A.handled=some (.ref a))
  (h:wpAny (model prog w) A xs (λv s1=>∃x C d t oa va,v=.ref x/\ClsR K C/\s1.heap.get? x=some { cls:=.ref C,dict:=some d,data:=exFs t }/\x≠a/\s1.heap.get? a=some oa/\oa.data=.fields va/\va[2]?=some .none /\
   (∀h2:Heap,(∀b,b≠x->h2.get? b=s1.heap.get? b)->K.In h2)/\wpAny (model prog w) A cs (λc s2=>c=.none/\s2=s1) E s1 /\
   ∀h2:Heap,h2.get? x=some { cls:=.ref C,dict:=some d,data:=exFr t a }->(∀b,b≠x->h2.get? b=s1.heap.get? b)->E (.ref x) { s1 with heap:=h2 }) E s) :
  wpAny (model prog w) A (raiseStmt env (some xs) (some cs)) Q E s:=by
 unfold raiseStmt;refine VaC (Vax h (λv s1 h1=>?_) λ_ _ z=>z);obtain ⟨x,C,d,t,oa,va,rfl,c,hx,ne,ha,hda,hva,XI,hc,hE⟩:=h1;refine VaC (VaD (Vax hc (λcv s2 z=>?_) λ_ _ z=>z));obtain ⟨rfl,rfl⟩:=z;obtain ⟨hp,g,dd,tk,os⟩:=s2;have T0:W.Looks (model prog w) hp (typeOf (.ref x)) (.ref C):=(W.Looks.ld hx).andThen .now;have T1:=VbF (M:=model prog w) (XI hp λ_ _=>rfl) c.b;refine VaC (VaI (VaC (VaD ?_)));unfold excFromValue isExcClass isType loadHead;refine VaC (VaC (VaC (VaS hx (VaI ?_))));refine VaI ?_;unfold isInstance;refine VaC (VaC (T0.here (T1.here ?_)));refine VaI ?_;dsimp only;refine VaC (VaI (VaC (VbS hx rfl (by show 3<6;decide) (VaC ?_))));have up:∀(h0:Heap) (f:Obj->Obj) b,b≠x->(h0.update x f).get? b=h0.get? b:=λh0 f b hb=>Vbp _ _ (Ne.symm hb);have hx1:(hp.update x (Obj.mapFields (·.setIfInBounds 3 .none))).get? x=some { cls:=.ref C,dict:=some d,data:=exFs t }:=Vbo _ hx rfl;refine VbS hx1 rfl (by show 4<6;decide) ?_;have hx2:((hp.update x (Obj.mapFields (·.setIfInBounds 3 .none))).update x (Obj.mapFields (·.setIfInBounds 4 (.bool true)))).get? x=some { cls:=.ref C,dict:=some d,data:=.fields #[.ref t,.none,.none,.none,.bool true,.none] }:=Vbo _ hx1 rfl;have ot:∀b,b≠x->((hp.update x (Obj.mapFields (·.setIfInBounds 3 .none))).update x (Obj.mapFields (·.setIfInBounds 4 (.bool true)))).get? b=hp.get? b:=λb hb=>(up _ _ b hb).trans (up _ _ b hb);generalize ((hp.update x (Obj.mapFields (·.setIfInBounds 3 .none))).update x (Obj.mapFields (·.setIfInBounds 4 (.bool true))))=h2 at hx2 ot ⊢;have U0:W.Looks (model prog w) h2 (typeOf (.ref x)) (.ref C):=(W.Looks.ld hx2).andThen .now;have U2:=W.looks_typeIn (M:=model prog w) (XI h2 ot) c.t;refine VaC (VaC (VaS hx2 (VaI ?_)));unfold raisedInstance;refine VaC (VaC (U0.here (VaC (U2.here ?_))));refine VaI ?_;unfold setFlight;refine VaC (VaC (Vbi hx2 rfl rfl ?_));refine VaI ?_;refine ZiZ hh ne ((ot a (Ne.symm ne)).trans ha) hda hva hx2 rfl (by show 2<6;decide) ?_;exact hE _ (Vbo _ hx2 rfl) λb hb=>(up _ _ b hb).trans (ot b hb)
end
section
variable{M:Model}{A:Around}{E:Value->Shared->Prop}{s:Shared}{B:Heap}{env:Env}{l:List Env}{e:Addr}{cls a0 fl:Value}
def ZiY{E':Value->Shared->Prop}(hkb:B.StaysIn s.heap)(hl:s.heap.FunFrames B l)(ht:s.heap.TracedAtW B e cls a0 fl)
  (h:∀h' fl',B.StaysIn h'->h'.FunFrames B l->h'.TracedAtW B e cls a0 fl'->(∀b o,s.heap.get? b=some o->(∀vs,o.data≠.fields vs)->h'.get? b=some o)->KD s.heap h'->E' (.ref e) { s with heap:=h' }) :
  cameBackBy M A env E' (.ref e) s:=by
 obtain ⟨oe,vs,T,oT,ts,he,hcls,hd,h1,hnT,hTe,hT,hdT,h3⟩:=ht;have sz:3<ts.size:=(VbA.mp h3).1;have away:∀b,b≠T->(s.heap.update T (Obj.mapFields (·.setIfInBounds 3 (env.frame.elim Value.none λf=>rawInt f)))).get? b=s.heap.get? b:=λb hb=>Vbp _ _ (Ne.symm hb);have neT:∀b o,s.heap.get? b=some o->(∀vs,o.data≠.fields vs)->b≠T:=λb o hb hnf q=>by
  rw [q,hT] at hb;cases hb;exact hnf ts hdT
 unfold cameBackBy;refine VaC (Vbi he hd h1 ?_);rw [if_neg (show ¬((Value.ref T==Value.none)=true) from by simp)];unfold setFlight;refine VaC (Vbi he hd h1 ?_);rw [if_pos (show (Value.ref T != Value.none)=true from by simp)];refine VbS hT hdT sz ?_;refine h _ (env.frame.elim Value.none λf=>rawInt f) (λb o hbo=>(away b λq=>by rw [q,hnT] at hbo;cases hbo).trans (hkb b o hbo)) (hl.of_keeps λb o hb hnf=>⟨o,(away b (neT b o hb hnf)).trans hb,rfl⟩) ?_ (λb o hb hnf=>(away b (neT b o hb hnf)).trans hb) (KD.update _ _ (Zhb (by decide) _));exact ⟨oe,vs,T,_,_,(away e (Ne.symm hTe)).trans he,hcls,hd,h1,hnT,hTe,Vbo _ hT (Obj.isFreed_of_fields (VbT hdT _)),VbT hdT _,by simp [sz]⟩
end
section
variable{X:Cx}{pins:List (Addr×Obj)}{σ:St}{H:Hp}{s:Shared}
def Inv.flyH(I:Inv X pins σ H s)(hex:X.ex=[])(hst:X.stack=X.env::X.outer)(hfr:X.env.frame=some X.env.locals){Am:Around}(hm:Am.frames=X.A.frames){x:Addr}{ox:Obj}{vs:Array Value}{a0:Value}(hx:s.heap.get? x=some ox)(hd:ox.data=.fields vs)(h1:vs[1]?=some .none)(h0:vs[0]?=some a0)
  (hH:H x=none) (hs0:X.s₀.heap.get? x=none) {Q:Value->Shared->Prop} {E1 E2:Value->Shared->Prop} (k:∀s2,Fly X.prog X.w X.outer X.H₀ H X.s₀ s2 x ox.cls->KD s.heap s2.heap->s.heap.UpToSlots s2.heap->Q (.ref x) s2) :
  wpAny (model X.prog X.w) Am (noteFrame (.ref x) X.env) (λ_ s7=>cameBackBy (model X.prog X.w) X.A X.env (λe s'=>wpAny (model X.prog X.w) X.A (leaving X.env e) (λ_ s''=>Q e s'') E2 s') (.ref x) s7) E1 s:=by
 have hin:∀env∈X.stack,∀b,env.frame=some b->b∈x::frs X.stack:=λenv he b hb=>Vao _ (VaN.mpr ⟨env,he,hb⟩);have hen:(W.hideAll s.heap (x::frs X.stack)).get? x=none:=Vaj _ Van;have sz:1<vs.size:=(VbA.mp h1).1;have ff:s.heap.FunFrames (W.hideAll s.heap (x::frs X.stack)) (X.env::X.outer):=by rw [<-hst];exact W.funFrames_hide I.stack hin
 have first:wpAny (model X.prog X.w) Am (noteFrame (.ref x) X.env) (λ_ s2=>∃h2,s2={ s with heap:=h2 }/\Heap.NotedW (W.hideAll s.heap (x::frs X.stack)) (X.env::X.outer) x ox.cls a0 (rawInt X.env.locals) s.heap h2) E1 s:=by
  unfold noteFrame;simp only [hfr];refine VaC (Vbi hx hd h1 ?_);rw [if_neg (by decide)];exact wpAny_entryW (by rw [hm,<-hst];exact I.ok.frames) ff hfr hx (λb o q=>Vah _ q) hen hd sz h0 λh2 hN=>⟨h2,rfl,hN⟩
 refine Vax (Zez (Zg2 _ _) first) (λ_ s2 z=>?_) λ_ _ z=>z.1
 obtain ⟨⟨h2,rfl,k1,k2,k3,k4⟩,kd⟩:=z;refine ZiY k1 k2 k3 λh3 fl' j1 j2 j3 j4 kd3=>?_;refine Zcp (by rw [<-hst];exact I.ok.frames) hfr j1 hen j2 j3 λh4 fl4 sm4 kd4=>?_;have sm:s.heap.UpToSlots h4:=λb o e nf=>by
  obtain ⟨sl,e2⟩:=k4 b o e nf;have e3:=j4 b _ e2 nf;obtain ⟨sl',e4⟩:=sm4 b _ e3 nf;exact ⟨sl',e4⟩
 refine k _ ?_ ((kd.trans kd3).trans kd4) sm;show Fly X.prog X.w X.outer X.H₀ H X.s₀ { s with heap:=h4 } x ox.cls
 refine ZiE (s':=s) (B:=W.hideAll s.heap (x::frs X.stack)) I.os I.bare (I.unStack hex I.sub) I.hok I.stkFree (λb hb=>(I.stack.mem hb).2) (λb o e q hb=>?_) I.sub (λb h1 h2=>?_) fl4 sm hH
 ·refine Vag _ e λz=>?_;rcases Vaq.mp z with z | z
  ·subst z;rcases q with q | ⟨o',q⟩
   ·exact q hH
   ·rw [hs0] at q;cases q
  ·exact hb z
 ·rcases Vaq.mp (I.stkSub b h1) with e | e
  ·rw [e];exact Vap I.ok.above
  ·exact absurd e h2
end
end L2
namespace L2.Ds
open PySem PySem.Spec PyProof.Rows PySem.Calls Dl
abbrev TBr:=St->Hp->VK->XK->Prop
def PBr(X:Cx)(body:List Stmt)(t:TBr):Prop :=
 ∀(pins:List (Addr×Obj)) (s:Shared) (σ:St) (H:Hp) (R:VK) (XE:XK),Inv X pins σ H s->t σ H R XE->wpAny (model X.prog X.w) X.A (execs body X.env) (λf s'=>∃u v H2,f=.ret u/\RelV v u/\Inv X pins σ H2 s'/\R v H2)
  (λev s'=>∃s1 H1 a cls p H',ev=.ref a/\Inv X pins σ H1 s1/\Fly X.prog X.w X.stack H1 H' s1 s' a cls/\Zgb p a H' s1.heap s'.heap/\XE cls p H') s
def Zof(K:W.Frag)(mg:Str->Option Value)(tab:List (Str×(List D->Res D)))(n i:Nat)(t:TA):TBr:=λσ H R XE=>∃g m fa,(g,m)∈tab/\mg g=some (.ref fa)/\σ[i]?=some (some (.ref fa))/\t σ H λvs H1=>spD K mg n m vs H1 R XE
section
variable{X:Cx}{k l n i:Nat}{y:Str}{ps:List Str}{tab:List (Str×(List D->Res D))}{e:Expr}{es:List Expr}{t:TA}{p cpos rpos:Pos}
def Zla(hi:X.N[i]?=some y)(hv:Vis X.env.scope y)(T:∀q∈tab,Cal X.prog X.w X.K X.mg X.base k q.1 ps q.2)(hps:ps.length=n)(hr:Room l X.A)(hn:k<=l)(ha:PA X.nox (e::es) t)
  (hd:(y==("__debug__" : Str))=false) (hcd:(y==("__classdict__" : Str))=false)
  (he:starEach (e::es) X.env=(false,eval e X.env)::starEach es X.env) (hpl:(backTo cpos (starEach es X.env)).any (·.1)=false) :
  PBr X [.Return (some (.Call (.Name y p) (e::es) [] cpos)) rpos] (Zof X.K X.mg tab n i t):=by
 intro pins s σ H R XE I h;obtain ⟨g,m,fa,hg,hm,hσ,h⟩:=h;obtain ⟨f,fd,F,b,kp,hf⟩:=(T (g,m) hg).ex;rw [show X.mg g=some (.ref f) from hf] at hm;cases hm;refine VaB (wpAny_Return_some ?_);refine Va4 ?_;refine Vax (Zb0 (X:=X.nox) hi hv hd hcd pins s σ H (λv H1=>v=.ref fa/\H1=H) (I.wish _) ⟨_,hσ,rfl,rfl⟩) (λuv s1 ⟨v,H1,I1',r,hv1,hH1⟩=>?_) λ_ _ z=>z.elim;subst hv1 hH1;cases (show uv=Value.ref fa from r);have I1:=I1'.unwish;refine Va5 (h₀:=X.base) I1.ok.mod.kin kp (Vax (ha cpos pins s1 σ H1 _ (I1.wish _) h) (λus s2 ⟨vs,H2,I2',r2,q⟩=>⟨I2'.unwish.kIn,?_⟩) λ_ _ z=>z.elim) he hpl;have I2:=I2'.unwish;subst hps;have hl:(us++[]).length=ps.length:=by rw [Va1,<-r2.length];exact F.len _ _ _ _ q
 have hb1:=b s2 us I2.kIn hl;rw [Va1] at hb1;refine Va2 (Va3 (F.run X.A X.stack s2 H2 ⟨us,[]⟩ us vs _ _ (hr.mono hn) I2.env0 hb1 r2 q) λrr s' hq=>?_);cases rr with
 | ok fl =>
  cases fl with
  | ret v =>
   obtain ⟨v',H3,I3,rv,q3⟩:=I2.after hq;exact ⟨v,v',H3,rfl,rv,I3,q3⟩
  | next=>exact False.elim hq
  | brk=>exact False.elim hq
  | cont=>exact False.elim hq
 | error ev =>
  obtain ⟨a,cls,p,H',rfl,Fl,py,kk⟩:=hq;exact ⟨s2,H2,a,cls,p,H',rfl,I2,Fl,py,kk⟩
end
def Zn1(tb:TBr)(hit:Value->Prop)(t:Addr->TA)(E:XK)(C:Addr):TS:=λD σ H=>tb σ H (λv H2=>D.rt v H2) λcls p H2=>hit cls/\(p=none\/∃n:Nat,p=some n/\n%2=0) /\
 ∀a,t a σ H2 λvs H3=>∃n:Nat,vs=[.int n]/\E (.ref C) (some (2*n+1:Nat)) H3
section
variable{X:Cx}{E:XK}{k l:Nat}{x y:Str}{C Cy:Addr}{tb:TBr}{t:Addr->TA}{e:Expr}{es:List Expr}{body:List Stmt}{np yp cpos cp rpos hpos pos:Pos}{ck:Nat}
def ZmJ(bx:ZfE X E)(hB:PBr X body tb)(hgy:Gl X y)(hmy:X.mg y=some (.ref Cy))(M:MkX X.prog X.w X.K X.mg X.base k C)(hr:Room l X.A)(hl:k+1<=l)(hgx:Gl X x)(hmx:X.mg x=some (.ref C))
  (ha:∀a,PA (X.inX a) (e::es) (t a)) (hdx:(x==("__debug__" : Str))=false) (hdy:(y==("__debug__" : Str))=false)
  (he:starEach (e::es) X.env=(false,eval e X.env)::starEach es X.env) (hpl:(backTo cpos (starEach es X.env)).any (·.1)=false) :
  PS X (.Try body [.ExceptHandler (some (.Name y yp)) none [.Raise (some (.Call (.Name x np) (e::es) [] cpos)) (some (.Constant .none ck cp)) rpos] hpos] [] [] pos) (Zn1 tb (λcls=>W.exmOne X.K cls (.ref Cy)=some true) t E C):=by
 intro pins s σ H D I h;have hst:=bx.hst;have hfr:=bx.hfr;refine wpAny_Try_except (Vax (hB pins s σ H _ _ I h) (λf s' z=>?_) λev s' z=>?_)
 ·obtain ⟨u,v,H2,rfl,rv,I2,q⟩:=z;exact ⟨v,σ,H2,I2,rv,q⟩
 ·obtain ⟨s1,H1,a,cls,p,H',rfl,I1,Fl,py,hit,ev0,kk⟩:=z;obtain ⟨B,a0,fl,cov⟩:=Fl.ex;have fl':Heap.FlyingW B (X.env::X.outer) a cls a0 s'.heap:=hst▸fl;refine Zic (by rw [I.ok.frames,hst]) hfr fl' λh1 held sm1 kd1=>?_;refine Zog held λh2 fl2 sm2 kd2=>?_;have F2:=Fl.moved fl cov (hst.symm▸fl2) (sm1.trans sm2);have I2:=I1.landed F2;refine wpAny_handleBy_cons (codeAny_handlers_test ?_) (by intro q;cases q);refine ZcS (X:=X.inX a) (I2.inX a) hgy hmy ?_ hdy;have LT:W.Looks (model X.prog X.w) h2 (typeOf (.ref a)) cls:=ExcAt.ty (show ExcAt a cls h2 from fl2.there);refine (W.exm_one (show X.K.In h2 from I2.kIn) LT hit).here ?_;refine codeAny_handlers_suite ?_;refine ZnW fl2 λh3 fl3 sm3 kd3=>?_;have F3:=Fl.moved fl cov (hst.symm▸fl3) ((sm1.trans sm2).trans sm3);have I3:=I1.landed F3;have py3:=py.on (h1:=s1.heap) ((kd1.trans kd2).trans kd3) ((sm1.trans sm2).trans sm3) (let ⟨o,e,_⟩:=fl3.there;⟨o,e⟩) λ_ o e=>⟨o,e⟩;obtain ⟨oa,va,ga,hva,hva2⟩ : CtxN a h3:=by
   rcases ev0 with ev0 | ⟨n0,rfl,ev0⟩
   ·exact py3.1 ev0
   ·obtain ⟨oa,d0,m0,ga,_,_,_,_,_,_,ctx⟩:=py3.2 n0 rfl;obtain ⟨va,hva,hva2⟩:=ctx ev0;exact ⟨oa,va,ga,hva,hva2⟩
  obtain ⟨fI,fd,q,F,hb⟩:=M.ex;refine VaB ?_;rw [arm_exec_Raise];refine VaC (VaE ?_);show wpAny _ _ (raiseStmt _ (some (do let v <-eval (.Call (.Name x np) (e::es) [] cpos) _;standAt rpos;pure v)) (some (do let v <-eval (.Constant .none ck cp) _;standAt rpos;pure v))) _ _ _
  have nfa:a∉frs X.stack:=λz=>by
   obtain ⟨_,o',z1,z2⟩:=fl3.2.2.1.mem (hst▸z);have z1:h3.get? a=some o':=z1;rw [show h3.get? a=some oa from ga] at z1;cases z1;exact z2 _ hva
  have I3p:Inv X ((a,oa)::pins) σ H' { s' with heap:=h3 }:=by
   refine I3.pins_of λp hp=>?_;rcases Vaq.mp hp with rfl | hp
   ·refine ⟨ga,F3.free,λz=>?_,λz=>nfa (I3.sub a z),λv z=>by rw [hva] at z;cases z⟩;refine nfa ?_;rw [hst];unfold frs;rw [Vam,hfr];exact z▸Van
   ·exact I3.pin p (VaO _ hp)
  refine ZiX (K:=X.K) (a:=a) rfl (VaC ?_);refine Va4 (ZcS (X:=X.inX a) (I3p.inX a) hgx hmx ?_ hdx);refine Va5 (h₀:=X.base) I3.ok.mod.kin M.kp (Vax (ha a cpos _ _ σ H' _ (I3p.inX a) (kk a)) (λus s4 ⟨vs,H4,I4,r4,n,ev4,qE⟩=>⟨I4.kIn,?_⟩) λ_ _ z=>z.elim) he hpl;subst ev4;obtain ⟨u,ru,rfl⟩ : ∃u,RelV (.int (n:Int)) u/\us=[u]:=by
   cases r4 with
   | cons r1 r2=>cases r2;exact ⟨_,r1,rfl⟩
  refine Vax (Zjo (X:=X.inX a) (y:=.int (n:Int)) q F ((hr.mono hl).h _) hb I4 ru) (λv s5 z=>VaC (VaE (VaI ?_))) λ_ _ z=>z.elim;obtain ⟨xe,d,tt,m,rfl,I5,nx,nd,dne,Hx,Hd,ox,ns,rl,un5⟩:=z;have pa4:=(I4.pin (a,oa) (by simp)).1;have pa5:=(I5.pin (a,oa) (by simp)).1;have nxa:xe≠a:=λz=>by rw [z] at nx;rw [nx] at pa4;cases pa4
  have s0:∀b,s4.heap.get? b=none->X.s₀.heap.get? b=none:=λb z=>by
   cases q:X.s₀.heap.get? b with
   | none=>rfl
   | some o =>
    obtain ⟨o',w⟩:=I4.base.there b o q (by show b∉X.ex;rw [bx.hex];exact λz=>nomatch z);rw [z] at w;cases w
  refine ⟨xe,C,d,tt,oa,va,rfl,M.c,ox,nxa,pa5,hva,hva2,λh6 ot b o e=>?_,?_,λh6 hx6 ot=>?_⟩
  ·have hb4:s4.heap.get? b=some o:=I4.kIn b o e;exact (ot b λz=>by rw [z,nx] at hb4;cases hb4).trans (I5.kIn b o e)
  ·exact VaC (wpAny_Constant_none (VaC (VaE (VaI ⟨rfl,rfl⟩))))
  ·have old:∀b o,s4.heap.get? b=some o->b≠xe:=λb o z q=>by rw [q,nx] at z;cases z
   have trk:∀b o,H4 b=some o->b≠xe:=λb o z q=>by rw [q,Hx] at z;cases z
   have un6:Un (frs X.stack) [] H4 H4 s4.heap h6:=⟨λb o z n hb hx=>(ot b (old b o z)).trans (un5.keep b o z n hb hx),λb o z n hb hx=>(un5.slot b o z n hb hx).imp λ_ w=>(ot b (old b o z)).trans w,λ_ _ _ n _=>n,
    λb o z hx=>(un5.there b o z hx).imp λ_ w=>(ot b (old b o z)).trans w,λ_ _ z=>z,λ_ _ _ z=>z,λ_ ps z=>⟨#[],by rw [z];simp⟩⟩
   have hok6:HOk X.prog X.w H4 h6:=λb o z=>(I5.hok b o z).stay (λc ob hc r=>(ot c (by
    rcases hc with rfl | hc
    ·exact trk _ _ z
    ·exact trk _ _ hc)).trans r) (λ_ r=>r) λ_ _ r=>r
   have os5:s5.os=s4.os:=I5.os.trans I4.os.symm;have I6:Inv X ((a,oa)::pins) σ H4 { s5 with heap:=h6 }:=by
    have z:=(I4.outX I.ok).call (h':=h6) (g':=s5.gens) (d':=s5.drawn) (t':=s5.toks) (ch:=[]) un6 hok6 I5.bare (λb z=>absurd z (by simp));obtain ⟨hp5,g5,d5,t5,o5⟩:=s5;have os5:o5=s4.os:=os5;subst os5;exact z
   show wpAny _ _ (noteFrame (.ref xe) X.env) (λ_ s7=>cameBackBy _ X.A X.env X.xe (.ref xe) s7) _ _;rw [bx.hxe];refine I6.flyH (Q:=λe s''=>CXR X.prog X.w X.outer X.H₀ X.s₀ E e s'') bx.hex hst hfr (Am:=X.A.mark (some (.ref a))) rfl hx6 rfl rfl rfl Hx (s0 xe nx) λs7 F7 kd sm=>⟨xe,.ref C,some (2*n+1:Nat),H4,rfl,F7,?_,qE⟩;refine ⟨(λz=>by cases z),λn' en=>?_⟩;cases en;obtain ⟨B7,a7,fl7,_⟩:=F7.ex;obtain ⟨o7,g7,_⟩:=fl7.there;have ns6:h6.Ns1 d m:=by
    obtain ⟨od,esd,epd,hod,rd⟩:=ns;exact ⟨od,esd,epd,(ot d dne).trans hod,rd⟩
   exact ⟨o7,d,m,g7,(kd.at hx6 g7).d,ZhE sm ns6,by rw [show (2*n+1)/2=n by omega];exact rl,Hd,s0 d nd,dne,λz=>absurd z (by omega)⟩
end
end L2.Ds
namespace Dl
open PySem
def natD:List D->Res Nat
 | [.int n]=>if 0<=n then .ok n.toNat else .bad
 | _=>.bad
def rsP(c:Str)(a:MA):MS:=λρ=>(a ρ).bind λds=>(natD ds).bind λn=>.ex (tagX (2*n) c)
def ZiK(c:Str):Bool:=match pay c with
 | some n=>(show Nat from n)%2==0
 | none=>true
def ZkN(tab:List (Str×(List D->Res D)))(i:Nat)(ma:MA)(hits:List Str)(c:Str)(me:MA):MS:=λρ=>match ρ[i]? with
 | some (.im (.cls g))=>match tab.lookup g with
  | some m=>(noEx (ma ρ)).bind λds=>match m ds with
   | .ok d=>.ok (.rt d)
   | .ex x=>if (hits.contains (clsOf x)&&ZiK x)=true then (noEx (me ρ)).bind λes=>(natD es).bind λn=>.ex (tagX (2*n+1) c) else .bad
   | .bad=>.bad
  | none=>.bad
 | _=>.bad
def dAt:D->Res D
 | .exc c=>match pay c with
  | some n=>.ok (.int (((show Nat from n)/2:Nat):Int))
  | none=>.bad
 | _=>.bad
end Dl
namespace L2.Ds
open PySem PySem.Spec PyProof.Rows PySem.Calls Dl
def Zor{ds:List D}{n:Nat}(h:natD ds=.ok n):ds=[.int (n:Int)]:=by
 unfold natD at h;split at h
 ·next k =>
  split at h
  ·next hk=>cases h;rw [Int.toNat_of_nonneg hk]
  ·cases h
 ·cases h
def Zol{ds:List D}{c:Str}:natD ds≠.ex c:=by
 unfold natD;split
 ·split<;>intro h<;>cases h
 ·intro h;cases h
section
variable{P:Program}{w:World}{K:W.Frag}{mg:Str->Option Value}{base:Heap}{N ps:List Str}{qual x:Str}{scope:Scope}{f:Addr}{cd:Value}{A:Around}{outer:List Env}{s₀:Shared}{H₀:Hp}{E:XK}{t:TA}{m:MA}{n:Nat}
def ZcQ{C:Addr}{np cpos pos:Pos}{e:Expr}{es:List Expr}{k l:Nat}(M:MkX P w K mg base k C)(hr:Room l (cxOf (CXR P w) P w K mg base N qual scope f cd A outer s₀ H₀ E).A)(hl:k+1<=l)(hg:Gl (cxOf (CXR P w) P w K mg base N qual scope f cd A outer s₀ H₀ E) x)(hm:mg x=some (.ref C))
  (ha:DA (cxOf (CXR P w) P w K mg base N qual scope f cd A outer s₀ H₀ E) E n (e::es) t m) (hd:(x==("__debug__" : Str))=false:=by decide)
  (he:starEach (e::es) (cxOf (CXR P w) P w K mg base N qual scope f cd A outer s₀ H₀ E).env=(false,eval e (cxOf (CXR P w) P w K mg base N qual scope f cd A outer s₀ H₀ E).env)::starEach es (cxOf (CXR P w) P w K mg base N qual scope f cd A outer s₀ H₀ E).env:=by rfl)
  (hpl:(backTo cpos (starEach es (cxOf (CXR P w) P w K mg base N qual scope f cd A outer s₀ H₀ E).env)).any (·.1)=false:=by rfl) :
  DS (cxOf (CXR P w) P w K mg base N qual scope f cd A outer s₀ H₀ E) E (.Raise (some (.Call (.Name x np) (e::es) [] cpos)) none pos) (Zlh E C t) (rsP x m):=by
 refine ⟨ZlB M hr hl hg hm ha.p hd he hpl,?_⟩;intro F0 H0 F H σ ρ rr;have h:=ha.s F0 H0 F H σ ρ rr;unfold rsP;cases em:m ρ with
 | bad=>trivial
 | ex c =>
  rw [em] at h;exact λD q=>h _ λF' H' C g=>q F' H' C (rr.g.trans g)
 | ok ds =>
  rw [em] at h;show AnsS K mg E F0 H0 F ((natD ds).bind λn=>.ex (tagX (2*n) x)) _;cases en:natD ds with
  | bad=>trivial
  | ex c=>exact absurd en Zol
  | ok k =>
   have:=Zor en;subst this;show ∀D:Ends,(∀F' H' C',Gr F0 H0 F' H'->mg (clsOf (tagX (2*k) x))=some (.ref C')->E (.ref C') (pay (tagX (2*k) x)) H')->_;rw [ZfG,ZiI];refine λD q=>h _ λF1 H1 vs g1 rs=>⟨k,?_,q F1 H1 C (rr.g.trans g1) hm⟩;obtain ⟨y,rfl,ry⟩:=rs.one;cases ry;rfl
end
def mem_lookup{α:Type}{g:Str}{m:α}:∀{tab:List (Str×α)},tab.lookup g=some m->(g,m)∈tab
 | [],h=>by cases h
 | (a,b)::r,h=>by
  rw [Vbv] at h;cases q:g==a with
  | true =>
   rw [q] at h;cases h;rw [VaR.mp q];exact Van
  | false =>
   rw [q] at h;exact Vao _ (mem_lookup h)
section
variable{X:Cx}{E:XK}{i j j2 k k2 l:Nat}{x y gn:Str}{C Cy:Addr}{ps:List Str}{tab:List (Str×(List D->Res D))}{t:TA}{t2:Addr->TA}{ma me:MA}{hits:List Str}{e e2:Expr}{es es2:List Expr}{p np yp cpos cpos2 cp rpos rpos2 hpos pos:Pos}{ck:Nat}
def ZmQ(bx:ZfE X E)(hi:X.N[i]?=some gn)(hv:Vis X.env.scope gn)(T:∀q∈tab,Cal X.prog X.w X.K X.mg X.base k q.1 ps q.2)(hr:Room l X.A)(hn:k<=l)(ha:DA X.nox E0 j (e::es) t ma)(hgy:Gl X y)(hmy:X.mg y=some (.ref Cy))
  (hh:∀c∈hits,∃D,X.mg c=some (.ref D)/\W.exmOne X.K (.ref D) (.ref Cy)=some true) (M:MkX X.prog X.w X.K X.mg X.base k2 C) (hl:k2+1<=l) (hgx:Gl X x) (hmx:X.mg x=some (.ref C)) (hb:∀a,DA (X.inX a) E0 j2 (e2::es2) (t2 a) me)
  (hps:ps.length=j:=by rfl) (hd:(gn==("__debug__" : Str))=false:=by decide) (hcd:(gn==("__classdict__" : Str))=false:=by decide) (hdx:(x==("__debug__" : Str))=false:=by decide) (hdy:(y==("__debug__" : Str))=false:=by decide)
  (he:starEach (e::es) X.env=(false,eval e X.env)::starEach es X.env:=by rfl) (hpl:(backTo cpos (starEach es X.env)).any (·.1)=false:=by rfl)
  (he2:starEach (e2::es2) X.env=(false,eval e2 X.env)::starEach es2 X.env:=by rfl) (hpl2:(backTo cpos2 (starEach es2 X.env)).any (·.1)=false:=by rfl) :
  DS X E (.Try [.Return (some (.Call (.Name gn p) (e::es) [] cpos)) rpos] [.ExceptHandler (some (.Name y yp)) none [.Raise (some (.Call (.Name x np) (e2::es2) [] cpos2)) (some (.Constant .none ck cp)) rpos2] hpos] [] [] pos)
   (Zn1 (Zof X.K X.mg tab j i t) (λcls=>W.exmOne X.K cls (.ref Cy)=some true) t2 E C) (ZkN tab i ma hits x me):=by
 refine ⟨ZmJ bx (Zla hi hv T hps hr hn ha.p hd hcd he hpl) hgy hmy M hr hl hgx hmx (λa=>(hb a).p) hdx hdy he2 hpl2,?_⟩;intro F0 H0 F H σ ρ rr;unfold ZkN;split
 ·next g hg =>
  split
  ·next m hm =>
   obtain ⟨v,hσ,rv⟩:=rr.im i _ hg;cases rv with
   | cls hfa =>
    have h:=ha.s F0 H0 F H σ ρ rr;cases em:ma ρ with
    | bad=>trivial
    | ex c=>trivial
    | ok ds =>
     rw [em] at h;show AnsS X.K X.mg E F0 H0 F (match m ds with | .ok d=>.ok (.rt d) | .ex x_1=>_ | .bad=>.bad) _
     cases ef:m ds with
     | bad=>trivial
     | ok d =>
      exact λD q=>⟨g,m,_,mem_lookup hm,hfa,hσ,h _ λF1 H1 vs g1 rs=>⟨by rw [rs.length];exact ha.n ρ ds em,F1,ds,g1.s,rs,(by rw [ef];intro z;cases z),(λd' z F' H' w g' rw'=>by rw [ef] at z;cases z;exact q F' H' w (rr.g.trans (g1.trans g')) rw'),λc z=>by rw [ef] at z;cases z⟩⟩
     | ex c0 =>
      show AnsS X.K X.mg E F0 H0 F (if (hits.contains (clsOf c0)&&ZiK c0)=true then (noEx (me ρ)).bind λes=>(natD es).bind λn=>.ex (tagX (2*n+1) x) else .bad) _
      by_cases hc:(hits.contains (clsOf c0)&&ZiK c0)=true
      ·rw [if_pos hc];obtain ⟨hc1,hc2⟩:=Bool.and_eq_true_iff.mp hc;have hE:=λ(a:Addr) F' H' (r':Rep X.K X.mg F0 H0 F' H' σ ρ)=>(hb a).s F0 H0 F' H' σ ρ r';cases ee:me ρ with
       | bad=>trivial
       | ex c=>trivial
       | ok ds2 =>
        rw [ee] at hE;show AnsS X.K X.mg E F0 H0 F ((natD ds2).bind λn=>.ex (tagX (2*n+1) x)) _;cases en:natD ds2 with
        | bad=>trivial
        | ex c=>exact absurd en Zol
        | ok n =>
         have:=Zor en;subst this;show ∀D:Ends,(∀F' H' C',Gr F0 H0 F' H'->X.mg (clsOf (tagX (2*n+1) x))=some (.ref C')->E (.ref C') (pay (tagX (2*n+1) x)) H')->_;rw [ZfG,ZiI];refine λD q=>⟨g,m,_,mem_lookup hm,hfa,hσ,h _ λF1 H1 vs g1 rs=>⟨by rw [rs.length];exact ha.n ρ ds em,F1,ds,g1.s,rs,(by rw [ef];intro z;cases z),(λd' z=>by rw [ef] at z;cases z),λc' z F2 H2 C1 g2 hC=>?_⟩⟩;rw [ef] at z;cases z;have gg:=g1.trans g2;refine ⟨?_,?_,λa=>hE a F2 H2 (rr.gr gg) _ λF3 H3 ws g3 rs3=>⟨n,?_,q F3 H3 C (rr.g.trans (gg.trans g3)) hmx⟩⟩
         ·obtain ⟨D',m1,q1⟩:=hh (clsOf c0) (by simpa using hc1);rw [hC] at m1;cases m1;exact q1
         ·unfold ZiK at hc2;split at hc2
          ·next n0 hp=>exact .inr ⟨n0,hp,VaR.mp hc2⟩
          ·next hp=>exact .inl hp
         ·obtain ⟨w,rfl,rw'⟩:=rs3.one;cases rw';rfl
      ·rw [if_neg hc];trivial
  ·trivial
 ·trivial
end
end L2.Ds
namespace L2
open PySem PySem.Spec PyProof.Rows PySem.Calls
section
open PySem.Builtin PySem.Builtin.ObjectAttr PySem.W
variable{prog:Program}{w:World}{A:Around}{E:Value->Shared->Prop}{s:Shared}{K:W.Frag}{x C d:Addr}{name:Str}{v:Value}{mA:Str->Option Value}
def Zpg{expr:Bool}{Q:Value->Shared->Prop}(XI:K.In s.heap)(I:Zh3 x (.ref C) d s.heap)(hn:s.heap.Ns1 d mA)(c:Zgo K C)(ha:W.findIn K (.ref C) name=some none)(hv:mA name=some v)(hv':W.handedIn v=true)(hQ:Q v { s with toks:=s.toks+1 }) :
  wpAny (model prog w) A (getAttr (.ref x) name expr) Q E s:=by
 obtain ⟨hh,gg,dd,tt,os⟩:=s;obtain ⟨ob,h1,h2,h3,vs,h4⟩:=I;obtain ⟨od,ho,hl⟩:=Zit hn;have J:W.InstAt hh x ob C (some od):=⟨h1,h2,by unfold notCls;rw [h4],by rw [h3];exact ho⟩;have t0:=J.type (M:=model prog w);have t1:=VaU (M:=model prog w) XI c.g;have t2:=W.looks_find (M:=model prog w) XI J (W.findObj_own c.d ha rfl (by rw [hl,hv]));have t3:=VaU (M:=model prog w) XI c.n;have t5:=VbF (M:=model prog w) XI c.b;have t6:=(F.excAttr_ValueError.ga).bind (.ref x);unfold getAttr getAttrBy;refine VaC (wpAny_mkText (VaD (VaC (t0.at (VaC (t1.at ?_))))));show wpAny _ _ (getAttrByItsOwn (.ref x) (.str name tt) (.ref C) (.builtin "BaseException.__getattribute__") true expr) _ _ _;unfold getAttrByItsOwn hookBefore callGetattribute boundAndCalled;rw [if_pos (show onTheHeap (Value.ref C)=true from rfl)];refine VaC (t3.at (VaC (wpAny_attempt (VaD ?_))));rw [if_neg (show ¬(expr&&onTheHeap (Value.builtin "BaseException.__getattribute__"))=true from by cases expr<;>exact VaG),t6];refine VaC (VaI (Va2 ?_));refine VbC F.excAttr_ValueError.ga.plain F.entry_bexc_ga (Zjz t0 t5 ?_);unfold Builtin.«object.__getattribute__»;refine VaC (VaI (VaC (VaI (VaC (t0.at (VaC (t2.at ?_)))))));refine VaI ?_;show wpAny (model prog w) A (handedOut v) Q E _;rw [W.handedOut_of hv'];exact VaI hQ
end
def tAt(K:W.Frag)(ta:TE)(f:Str):TE:=λσ H Q=>ta σ H λx H1=>∃a C d v,x=.ref a/\H1 a=some (exC a (.ref C) d)/\H1 d=some (.xd [(f,v)])/\Zgo K C/\W.findIn K (.ref C) f=some none/\Q v H1
section
variable{X:Cx}{e:Expr}{f:Str}{pos:Pos}{ta:TE}
def Zt9(he:PE X e ta)(hb:attributeBase e f X.env (eval e X.env)=eval e X.env):PE X (.Attribute e f pos) (tAt X.K ta f):=by
 intro pins s σ H Q I h;refine ZlJ hb (thn (he pins s σ H _ I h) λu s1 zq=>?_);obtain ⟨x,H1,I1,rx,a,C,d,v,ex,ea,ed,c,n,q⟩:=zq;subst ex;obtain rfl:u=Value.ref a:=rx;have I0:Zh3 a (.ref C) d s1.heap:=(show _/\_ from I1.hok a _ ea).1;obtain ⟨mA,hn,hr⟩:=I1.hok d _ ed;obtain ⟨u,hu,ru⟩:=RelO.some_of (v:=v) (o:=mA f) (by have z:=hr f;rw [Vbv,beq_self_eq_true] at z;exact z);exact Zpg I1.kIn I0 hn c n hu (Zim ru) ⟨v,H1,I1.tok _,ru,q⟩
end
end L2
namespace L2.Ds
open PySem PySem.Spec PyProof.Rows PySem.Calls Dl
def AtOk(K:W.Frag)(mg:Str->Option Value)(cs:List Str):Prop:=∀c∈cs,∃C,mg c=some (.ref C)/\Zgo K C/\W.findIn K (.ref C) "at"=some none
end L2.Ds
namespace Dl
open PySem
def dAtC(cs:List Str):D->Res D
 | .exc c=>if cs.contains (clsOf c)=true then dAt (.exc c) else .bad
 | _=>.bad
end Dl
namespace L2.Ds
open PySem PySem.Spec PyProof.Rows PySem.Calls Dl
section
variable{X:Cx}{E:XK}{e:Expr}{pos:Pos}{ta:TE}{ma:ME}{cs:List Str}
def ydx(T:AtOk X.K X.mg cs)(ha:DE X E e ta ma)(hb:attributeBase e "at" X.env (eval e X.env)=eval e X.env:=by rfl):DE X E (.Attribute e "at" pos) (tAt X.K ta "at") (o1 (dAtC cs) ma):=by
 refine ⟨Zt9 ha.p hb,?_⟩;intro F0 H0 F H σ ρ rr;have h:=ha.s F0 H0 F H σ ρ rr;unfold o1;cases em:ma ρ with
 | bad=>trivial
 | ex c =>
  rw [em] at h;exact λQ q=>h _ q
 | ok x =>
  rw [em] at h;show Ans X.mg E (Rp X.K X.mg) F H (dAtC cs x) _;cases x with
  | exc c =>
   show Ans X.mg E (Rp X.K X.mg) F H (if cs.contains (clsOf c)=true then dAt (.exc c) else .bad) _
   by_cases hc:cs.contains (clsOf c)=true
   ·rw [if_pos hc];show Ans X.mg E (Rp X.K X.mg) F H (match pay c with | some n=>.ok (.int (((show Nat from n)/2:Nat):Int)) | none=>.bad) _
    cases hp:pay c with
    | none=>trivial
    | some n =>
     refine λQ q=>h _ λF1 H1 v g1 rv=>?_;cases rv with
     | exc m xc =>
      rw [hp] at xc;obtain ⟨C',hC',ok,no⟩:=T (clsOf c) (by simpa using hc);rw [m] at hC';cases hC';exact ⟨_,_,_,_,rfl,g1.s _ _ xc.1,g1.s _ _ xc.2,ok,no,q F1 H1 _ g1 (.int _)⟩
   ·rw [if_neg hc];trivial
  | _=>trivial
end
end L2.Ds
namespace L2
open PySem PySem.Spec PyProof.Rows PySem.Calls
structure ZjW(K:W.Frag)(C:Addr)(qual:Str)(st:Stmt):Prop where
 ex:∃(fI:Addr) (fd:FuncData),ZgI K C fI=true/\Fun K "__init__" qual st fI fd/\Binds K fd ["self", "at"] []
 kp:W.keepIn K (.ref C)=true
 r:ClsR K C
 x:ClsX K C
 n:W.findIn K (.ref C) "at"=some none
def ZjW.mk'{P:Program}{w:World}{K:W.Frag}{mg:Str->Option Value}{base:Heap}{C:Addr}{qual:Str}{st:Stmt}{p1 p2 p3 p4:Pos}(h:ZjW K C qual st)(S:Zaf ["self", "at"] ["self", "at"] (Zac st))(hb:Zbn st=[.Assign [.Attribute (.Name "self" p1) "at" p2] (.Name "at" p3) p4])
  (hv1:Vis (Zac st) "self") (hv2:Vis (Zac st) "at") (hsw:∀(l:Addr) (f:Addr) (cd:Value),swapsWith (.Name "at" p3) (some (.Attribute (.Name "self" p1) "at" p2)) p4.line (envOfC qual (Zac st) l f cd)=pure false):MkX P w K mg base 1 C:=by
 obtain ⟨fI,fd,q,F,b⟩:=h.ex;exact ⟨⟨fI,fd,q,okX (k:=0) F S hb hv1 hv2 hsw h.x h.n,b⟩,h.kp,h.r⟩
end L2
namespace L2.Ds
open PySem PySem.Spec PyProof.Rows PySem.Calls Dl
def tFn(mg:Str->Option Value)(x:Str):TE:=λ_ H Q=>∃f,mg x=some (.ref f)/\Q (.ref f) H
section
variable{X:Cx}{E:XK}{k:Nat}{x:Str}{ps:List Str}{m:List D->Res D}{pos:Pos}
def ydu(C:Cal X.prog X.w X.K X.mg X.base k x ps m)(hg:Gl X x)(hd:(x==("__debug__" : Str))=false:=by decide):DE X E (.Name x pos) (tFn X.mg x) (c (.cls x)):=by
 refine ⟨λpins s σ H Q I h=>?_,λF0 H0 F H σ ρ rr=>?_⟩
 ·obtain ⟨f,hm,q⟩:=h;exact (ZeM (v:=.ref f) hg hm rfl hd) pins s σ H Q I q
 ·obtain ⟨f,fd,_,_,_,hm⟩:=C.ex;exact λQ q=>⟨f,hm,q F H _ (Gr.refl rr.g.s) (.cls hm)⟩
end
def Cal.mono{P:Program}{w:World}{K:W.Frag}{mg:Str->Option Value}{base:Heap}{k j:Nat}{x:Str}{ps:List Str}{m:List D->Res D}(C:Cal P w K mg base k x ps m)(h:k<=j):Cal P w K mg base j x ps m:=by
 obtain ⟨f,fd,F,b,kp,hm⟩:=C.ex;exact ⟨f,fd,F.mono h,b,kp,hm⟩
end L2.Ds
namespace L2
open PySem PySem.Spec PyProof.Rows PySem.Calls
section
variable{X:Cx}{own:List Str}{cap:List (Str×Nat)}{scope:Scope}{cl:List (Str×Addr)}{tg:Expr}{E:XK}
def ZiF{elt iter:Expr}{pos pos' spos:Pos}{wi:TI}{ts:List Expr}{g:Fam TG}{tt:Fam TT}{te:Fam TE}{i:Nat}{x:Str}(b:ZfE X E)(hN:X.N.Nodup)(hix:X.N[i]?=some x)(hx:Loc X.env.scope x)(hi:PI X tg iter wi)(O:Zcv X own cap scope cl)(hc:X.calm=true)
  (hg:∀C s H fp pn,PG (Zaq (xfE E X) X (own++cap.map (·.1)) scope cl C s H fp pn) tg (g C s H fp pn)) (ht:∀C s H fp pn,PTs (Zaq (xfE E X) X (own++cap.map (·.1)) scope cl C s H fp pn) ts (tt C s H fp pn)) (he:∀C s H fp pn,PE (Zaq (xfE E X) X (own++cap.map (·.1)) scope cl C s H fp pn) elt (te C s H fp pn)) (hts:ts.length<=1:=by decide)
  (hsw:swapsWith (.ListComp elt [⟨tg,iter,ts,0⟩] scope pos) (some (.Name x pos')) spos.line X.env=pure true:=by rfl)
  (hs:∀x,foldedSetIterable iter X.env x=pure x:=by intro _;rfl)
  (hf:X.fn x=true\/X.env.scope.names.lookup x=some .local:=by first | exact .inl rfl | exact .inr rfl | assumption):PS X (.Assign [.Name x pos'] (.ListComp elt [⟨tg,iter,ts,0⟩] scope pos) spos) (tAsg (ZeB wi g tt te own cap) (ZdH i)):=by
 intro pins s σ H D I h;rw [exec_Assign_Name_used _ _ _ _ hsw];refine VaC (VaE (VaC ?_));show wpAny _ X.A (do let _ <-comprehension (.ListComp elt [⟨tg,iter,ts,0⟩] scope pos) scope X.env _ (newList []) false (eval iter X.env) (some (assign (.Name x pos') X.env))) _ _ s
 refine VaC (Vax (wpAny_comprehension_free (use:=some (assign (.Name x pos') X.env)) (Q:=λ_ s'=>SP X pins D .next s') rfl hs O.clos O.kind O.locals
  (thn (hi pins s σ H _ I h) λxv s₁ h₁=>thn h₁ λitv s₂ h₂=>?_)) (λ_ s' hq=>VaI (VaI hq)) λ_ _ e=>e)
 obtain ⟨it,fp,tn,J,H2,rfl,I2,T,st2,f2,hw⟩:=h₂;refine ZfP (xf:=xfE E X) (Q:=λx H1=>ZdH i x σ H1 D.nx) (R:=λacc C=>compPost (model X.prog X.w) X.A X.xe (some (assign (.Name x pos') X.env)) (λ_ s'=>SP X pins D .next s') acc C) O hc hg ht he hts I2 T st2 f2 hw ?_ ?_
 ·intro A C H' s' m hC hn hH IV q;show wpAny _ X.A (assign (.Name x pos') X.env (.ref A)) _ _ _;have I3:Inv X pins σ H' s':=IV s'.heap (Heap.SameBut.refl ..);obtain ⟨oc,es,ep,ho,hd,hk⟩:=id hn;have neL:C≠X.env.locals:=VaH (Vad I2.lt hC);have neF:C∉X.fs:=I2.nofs hC;have I4:Inv X (pins++[(C,oc)]) σ H' s':=I3.pins_of λp hp=>by
   rcases Var.mp hp with z | z
   ·exact I3.pin p (VaO _ z)
   ·have z':p=(C,oc):=by simpa using z
    subst z';exact ⟨ho,hH,neL,neF,λv e=>by rw [hd] at e;cases e⟩
  refine wpAny_assign_Name (Zfd I4 hN hix hx (v:=.ref A) rfl (λs5 I5=>?_) hf);have ho5:=(I5.pin (C,oc) (VaO _ (VaO _ (by simp)))).1;refine ⟨m,⟨oc,es,ep,ho5,hd,hk⟩,λh' sb=>⟨_,H',?_,q⟩⟩;refine (I5.unpinned (pl:=[(C,oc)])).turned (t':=s5.toks) (it:=C) (λb o hb e=>sb.extBut b o hb e) hH neL (.inr (Vak I2.sz hC)) (λy c e=>?_) (λp hp=>?_)
  ·obtain ⟨v,o,hc',_⟩:=I2.cell y c e;exact Vaf (Vad (Vac hc') hC)
  ·exact Vaf (Vad (Vac (I2.pin p hp).1) hC)
 ·intro A C cells e s' hC z;exact b.blk.out I2 f2 hC z
end
end L2
namespace L2.Ds
open PySem PySem.Spec PyProof.Rows PySem.Calls Dl
end L2.Ds
namespace Dl
open PySem
end Dl
namespace L2.Ds
open PySem PySem.Spec PyProof.Rows PySem.Calls Dl
section
variable{X:Cx}{E:XK}{tg iter elt:Expr}{ts:List Expr}{me:ME}{na:MB}{pos pos' spos:Pos}{i:Nat}{x:Str}
def Zhk{own:List Str}{cap:List (Str×Nat)}{scope:Scope}{cl:List (Str×Addr)}{wi:TI}{mi:MI}{g:Fam TG}{gm:MG}{tt:Fam TT}{tf:Fam TE}(hN:X.N.Nodup)(hix:X.N[i]?=some x)(hx:Loc X.env.scope x)(b:ZfE X E)(hi:DI X E tg iter wi mi)(O:Zcv X own cap scope cl)(hc:X.calm=true)
  (hg:∀C s H fp pn,DG (Zaq (xfE E X) X (own++cap.map (·.1)) scope cl C s H fp pn) own.length tg (g C s H fp pn) gm) (ht:∀C s H fp pn,DTs (Zaq (xfE E X) X (own++cap.map (·.1)) scope cl C s H fp pn) E ts (tt C s H fp pn) na)
  (he:∀C s H fp pn,DE (Zaq (xfE E X) X (own++cap.map (·.1)) scope cl C s H fp pn) E elt (tf C s H fp pn) me) (hts:ts.length<=1:=by decide)
  (hsw:swapsWith (.ListComp elt [⟨tg,iter,ts,0⟩] scope pos) (some (.Name x pos')) spos.line X.env=pure true:=by rfl) (hs:∀x,foldedSetIterable iter X.env x=pure x:=by intro _;rfl)
  (hf:X.fn x=true\/X.env.scope.names.lookup x=some .local:=by first | exact .inl rfl | exact .inr rfl | assumption) :
  DS X E (.Assign [.Name x pos'] (.ListComp elt [⟨tg,iter,ts,0⟩] scope pos) spos) (tAsg (ZeB wi g tt tf own cap) (ZdH i)) (st i (ZdQ mi own.length (cap.map (·.2)) gm na me)) :=
 ⟨ZiF b hN hix hx hi.p O hc (λC s H fp pn=>(hg C s H fp pn).p) (λC s H fp pn=>(ht C s H fp pn).p) (λC s H fp pn=>(he C s H fp pn).p) hts hsw hs hf,
  ZnL (Zjr hi.s (λC s H fp pn=>(hg C s H fp pn).s) (hg 0 X.s₀ (λ_=>none) [] []).x (λC s H fp pn=>(ht C s H fp pn).s) (λC s H fp pn=>(he C s H fp pn).s))⟩
end
end L2.Ds
namespace Dl
open PySem
def Sm(k:Nat)(x:Int):Prop:=x.natAbs<2^k
def Sm.mono{k n:Nat}{x:Int}(h:Sm k x)(hn:k<=n):Sm n x:=Vad h (Nat.pow_le_pow_right (by decide) hn)
def Sm.of64{x:Int}(h1:-18446744073709551616<x)(h2:x<18446744073709551616):Sm 64 x:=by
 unfold Sm;have:(2:Nat)^64=18446744073709551616:=by decide
 omega
def Zrm{n k:Nat}(h:n<2^k)(hk:0<k):n.log2<k:=by
 rcases Nat.eq_zero_or_pos n with z | z
 ·rw [z];simpa using hk
 ·exact (Nat.log2_lt (VaH z)).mpr h
def ZpL{a b:Int}(h:Sm 64 a):Zgc a b=true:=by
 unfold Zgc;rw [Vbt (show a.natAbs<2^64 from h)];rfl
def ZpJ{a b:Int}(h:Sm 64 b):Zgc a b=true:=by
 unfold Zgc;rw [Vbt (show b.natAbs<2^64 from h)];simp
def ZoU{a b:Int}(h:Zgc a b=true):iMul a b=.ok (.int (a*b)):=by unfold iMul;rw [if_pos h]
def ZmI{a b:Int}(h:0<b):iMod a b=.ok (.int (a%b)):=by unfold iMod;rw [if_pos h]
def Zna{a b:Int}(h:0<b)(hl:b.natAbs.log2<9000):iDiv a b=.ok (.int (a/b)):=by unfold iDiv;rw [if_pos hl,if_pos h]
def ZqM{a b:Int}(h0:0<=b)(h1:b<=1000000)(h2:a.natAbs<2^64):iPow a b=.ok (.int (a^b.toNat)):=by unfold iPow;rw [if_pos ⟨h0,h1,h2⟩]
def ZqC{a b:Int}(h0:0<=b)(h1:b<=1000000)(h2:a.natAbs<2^64):iShl a b=.ok (.int (a*2^b.toNat)):=by unfold iShl;rw [if_pos ⟨h0,h1,h2⟩]
def ZoH{a b:Int}(h0:0<=b):iShr a b=.ok (.int (a/2^b.toNat)):=by unfold iShr;rw [if_pos h0]
def ZqL(a b:Int):dEq (.int a) (.int b)=.ok (.bl (decide (a=b))):=by
 show Res.ok (D.bl (a==b))=_;rw [Bool.beq_eq_decide_eq]
def Zpq(a b:Int):dNe (.int a) (.int b)=.ok (.bl (!decide (a=b))):=by
 show Res.ok (D.bl (!(a==b)))=_;rw [Bool.beq_eq_decide_eq]
def Znq{a b:List D}(h:a.length+b.length<=1000000):yac (.lst a) (.lst b)=.ok (.lst (a++b)):=by
 show (if a.length+b.length<=LIM then Res.ok (D.lst (a++b)) else .bad)=_
 rw [if_pos (show a.length+b.length<=LIM from h)]
def ZoE(xs:List D)(i:Int):dIx (.lst xs) (.int i)=ofO (at_ xs i):=rfl
def Zmk(xs:List D):bLen [.lst xs]=.ok (.int xs.length):=rfl
def Zm4(i:Int):bAbs [.int i]=.ok (.int i.natAbs):=by
 show Res.ok (D.int (if i<0 then -i else i))=_
 have:(if i<0 then -i else i)=(i.natAbs:Int):=by split<;>omega
 rw [this]
def ZpU{j:Int}(h0:-1000000000<=j)(h1:j<=1000000000):rng1 [.int j]=.ok (Zbe 0 j.toNat):=by
 show (if -1000000000<=j/\j<=1000000000 then Res.ok (Zbe 0 j.toNat) else .bad)=_
 rw [if_pos ⟨h0,h1⟩]
def Zpe{g:MG}{b:MS}(I:Ev->Prop)(xs:List D)(h:∀x∈xs,∀ρ,I ρ->∃ρ1 ρ2,g x ρ=.ok ρ1/\b ρ1=.ok (.nx ρ2)/\I ρ2):∀ρ,I ρ->∃ρ',ZeN g b xs ρ=.ok (.nx ρ')/\I ρ':=by
 induction xs with
 | nil=>exact λρ i=>⟨ρ,rfl,i⟩
 | cons x r ih =>
  intro ρ i;obtain ⟨ρ1,ρ2,h1,h2,i2⟩:=h x Van ρ i;obtain ⟨ρ',h3,i3⟩:=ih (λy hy=>h y (Vao _ hy)) ρ2 i2;refine ⟨ρ',?_,i3⟩;show (g x ρ).bind (λρ1=>(b ρ1).bind (turn (ZeN g b r)))=_;rw [h1];show (b ρ1).bind (turn (ZeN g b r))=_;rw [h2];exact h3
def ZlH(t:MB)(b:MS)(n:Nat)(ρ:Ev):whGo t b (n+1) ρ=(t ρ).bind λx=>if x=true then (b ρ).bind (turn (whGo t b n)) else .ok (.nx ρ):=rfl
def Zf3(g:MG)(t:MB)(e:ME)(ρ:Ev)(x:D)(r:List D):Zak g t e ρ (x::r)=(g x ρ).bind λρ1=>(t ρ1).bind λb=>if b=true then (e ρ1).bind λy=>(Zak g t e ρ r).bind λys=>.ok (y::ys) else Zak g t e ρ r:=rfl
def Zjf{g:MG}{e:ME}{ρ:Ev}(P:D->D->Prop):∀xs:List D,(∀x∈xs,∃ρ1 y,g x ρ=.ok ρ1/\e ρ1=.ok y/\P x y)->∃ys,Zak g yes e ρ xs=.ok ys/\ys.length=xs.length/\∀(i:Nat) x y,xs[i]?=some x->ys[i]?=some y->P x y
 | [],_=>⟨[],rfl,rfl,λi x y h=>by simp at h⟩
 | x::r,h=>by
  obtain ⟨ρ1,y,h1,h2,hp⟩:=h x Van;obtain ⟨ys,e1,l1,q⟩:=Zjf P r λz hz=>h z (Vao _ hz);refine ⟨y::ys,?_,Vaz (·+1) l1,λi a b ha hb=>?_⟩
  ·rw [Zf3,h1,Za0];unfold yes at e1 ⊢;rw [Za0,if_pos rfl,h2,Za0,e1];rfl
  ·cases i with
   | zero=>simp at ha hb;subst ha hb;exact hp
   | succ i=>exact q i a b (by simpa using ha) (by simpa using hb)
def Tl{α:Type}(r:Res α)(Φ:α->Prop):Prop:=∃a,r=.ok a/\Φ a
section
variable{α β:Type}{Φ:α->Prop}{ρ:Ev}{a b d:ME}{s t:MB}{i j:Nat}
def Zai{r:Res α}{x:α}(e:r=.ok x)(h:Φ x):Tl r Φ:=⟨x,e,h⟩
def ZaK{x:α}(h:Φ x):Tl (.ok x) Φ:=⟨x,rfl,h⟩
def Zal{r:Res β}{f:β->Res α}(h:Tl r λx=>Tl (f x) Φ):Tl (r.bind f) Φ:=by
 obtain ⟨x,rfl,y,e,q⟩:=h;exact ⟨y,e,q⟩
def Tl.mono{r:Res α}{Ψ:α->Prop}(h:Tl r Ψ)(k:∀x,Ψ x->Φ x):Tl r Φ:=by
 obtain ⟨x,e,q⟩:=h;exact ⟨x,e,k x q⟩
def Zle{c:Bool}{A B:Res α}(hc:c=true)(h:Tl A Φ):Tl (if c=true then A else B) Φ:=by rw [if_pos hc];exact h
def Zjy{c:Bool}{A B:Res α}(hc:c=false)(h:Tl B Φ):Tl (if c=true then A else B) Φ:=by rw [if_neg (by rw [hc];exact VaG)];exact h
def w_dT{P:Prop} [Decidable P] {A B:Res α} (hc:P) (h:Tl A Φ):Tl (if decide P=true then A else B) Φ:=Zle (Vbt hc) h
def w_dF{P:Prop} [Decidable P] {A B:Res α} (hc:¬P) (h:Tl B Φ):Tl (if decide P=true then A else B) Φ:=Zjy (Vaa hc) h
def ZdT{P:Prop} [Decidable P] {A B:Res α} (h1:P->Tl A Φ) (h2:¬P->Tl B Φ):Tl (if decide P=true then A else B) Φ:=by
 by_cases h:P
 ·exact w_dT h (h1 h)
 ·exact w_dF h (h2 h)
end
section
variable{Φ:D->Prop}{ρ:Ev}{a b d:ME}{s t:MB}{i j n:Nat}{m:MA}
def w_v{x:D}(e:ρ[i]?=some (.im x))(h:Φ x):Tl (v i ρ) Φ:=Zai (by unfold v;rw [e];rfl) h
def w_v'(h:Tl (getC ρ[i]?) Φ):Tl (v i ρ) Φ:=h
def w_gC{o:Option Cl}{x:D}(e:o=some (.im x))(h:Φ x):Tl (getC o) Φ:=Zai (by rw [e];rfl) h
def w_c{x:D}(h:Φ x):Tl (c x ρ) Φ:=ZaK h
def w_o1{f:D->Res D}(h:Tl (a ρ) λx=>Tl (f x) Φ):Tl (o1 f a ρ) Φ:=Zal h
def w_o2{f:D->D->Res D}(h:Tl (a ρ) λx=>Tl (b ρ) λy=>Tl (f x y) Φ):Tl (o2 f a b ρ) Φ:=Zal (h.mono λ_ q=>Zal q)
def w_on{f:List D->Res D}(h:Tl (m ρ) λxs=>Tl (f xs) Φ):Tl (on f m ρ) Φ:=Zal h
def ZtK(h:Tl (m ρ) λxs=>Φ (.tup xs)):Tl (mtp m ρ) Φ:=Zal (h.mono λ_ q=>ZaK q)
def Zuo(h:Tl (m ρ) λxs=>Φ (.lst xs)):Tl (mls m ρ) Φ:=Zal (h.mono λ_ q=>ZaK q)
def Zro(h:Tl (trb a ρ) λx=>Tl (if x=true then b ρ else .ok (.bl false)) Φ):Tl (eAnd a b ρ) Φ:=Zal h
def Zr8(h:Tl (trb a ρ) λx=>Φ (.bl (!x))):Tl (eNot a ρ) Φ:=Zal (h.mono λ_ q=>ZaK q)
def ZtM(h:Tl (t ρ) λx=>Tl (if x=true then a ρ else b ρ) Φ):Tl (ife t a b ρ) Φ:=Zal h
def Ztg{lo hi:Ev->Res (Option Int)}(h:Tl (a ρ) λx=>Tl (lo ρ) λl=>Tl (hi ρ) λu=>Tl (dCut x l u) Φ):Tl (cut a lo hi ρ) Φ:=Zal (h.mono λ_ q=>Zal (q.mono λ_ q=>Zal q))
def ZrJ{it:MI}{own:Nat}{cap:List Nat}{g:MG}{e:ME}(h:Tl (it ρ) λxs=>xs.length<=1000000/\Tl (Zak g t e (noA own (yar ρ cap)) xs) λys=>Φ (.lst ys)):Tl (comp it own cap g t e ρ) Φ:=by
 refine Zal (h.mono λxs q=>?_);rw [if_pos (show xs.length<=LIM from q.1)];obtain ⟨ys,e1,q2⟩:=q.2;rw [e1];exact ZaK q2
def w_fn{k:MS}{ds:List D}(h:Tl (k (ev0 n ds)) λf=>Tl (endOf f) Φ):Tl (fn n k ds) Φ:=Zal h
def Zn4{x y:Int}(h:Φ (.int (x+y))):Tl (yac (.int x) (.int y)) Φ:=ZaK h
def Zbo{x y:List D}(hl:x.length+y.length<=1000000)(h:Φ (.lst (x++y))):Tl (yac (.lst x) (.lst y)) Φ:=Zai (Znq hl) h
def w_sub{x y:Int}(h:Φ (.int (x - y))):Tl (dSub (.int x) (.int y)) Φ:=ZaK h
def w_mul{x y:Int}(hm:Zgc x y=true)(h:Φ (.int (x*y))):Tl (ydk (.int x) (.int y)) Φ:=Zai (ZoU hm) h
def w_mod{x y:Int}(hy:0<y)(h:Φ (.int (x%y))):Tl (ybY (.int x) (.int y)) Φ:=Zai (ZmI hy) h
def w_div{x y:Int}(hy:0<y)(hl:y.natAbs.log2<9000)(h:Φ (.int (x/y))):Tl (ydd (.int x) (.int y)) Φ:=Zai (Zna hy hl) h
def w_pow{x y:Int}(h0:0<=y)(h1:y<=1000000)(h2:x.natAbs<2^64)(h:Φ (.int (x^y.toNat))):Tl (dPow (.int x) (.int y)) Φ:=Zai (ZqM h0 h1 h2) h
def w_shl{x y:Int}(h0:0<=y)(h1:y<=1000000)(h2:x.natAbs<2^64)(h:Φ (.int (x*2^y.toNat))):Tl (dShl (.int x) (.int y)) Φ:=Zai (ZqC h0 h1 h2) h
def w_shr{x y:Int}(h0:0<=y)(h:Φ (.int (x/2^y.toNat))):Tl (dShr (.int x) (.int y)) Φ:=Zai (ZoH h0) h
def ZtN{x:Int}(h:Φ (.int (-x))):Tl (dNeg (.int x)) Φ:=ZaK h
def w_lt{x y:Int}(h:Φ (.bl (decide (x<y)))):Tl (dLt (.int x) (.int y)) Φ:=ZaK h
def w_le{x y:Int}(h:Φ (.bl (decide (x<=y)))):Tl (dLe (.int x) (.int y)) Φ:=ZaK h
def w_gt{x y:Int}(h:Φ (.bl (decide (y<x)))):Tl (dGt (.int x) (.int y)) Φ:=ZaK h
def w_ge{x y:Int}(h:Φ (.bl (decide (y<=x)))):Tl (dGe (.int x) (.int y)) Φ:=ZaK h
def ZtL{x y:Int}(h:Φ (.bl (decide (x=y)))):Tl (dEq (.int x) (.int y)) Φ:=Zai (ZqL x y) h
def Zuh{x y:Int}(h:Φ (.bl (!decide (x=y)))):Tl (dNe (.int x) (.int y)) Φ:=Zai (Zpq x y) h
def ZrW{xs:List D}(h:Φ (.int xs.length)):Tl (bLen [.lst xs]) Φ:=ZaK h
def ZoK{ns:List Int}(h:Φ (.int ns.length)):Tl (bLen [.lst (ns.map .int)]) Φ:=Zai (by rw [Zmk,VaW]) h
def Zt3{x:Int}(h:Φ (.int x.natAbs)):Tl (bAbs [.int x]) Φ:=Zai (Zm4 x) h
def ZrA{xs:List D}(h:Φ (.lst xs)):Tl (bLst [.lst xs]) Φ:=ZaK h
def Ztc{xs:List D}{lo hi:Option Int}(h:Φ (.lst (cutL xs lo hi))):Tl (dCut (.lst xs) lo hi) Φ:=ZaK h
end
section
variable{Φ:Bool->Prop}{ρ:Ev}{a:ME}{s t:MB}
def ZtR(h:Tl (a ρ) λx=>Tl (tru x) Φ):Tl (trb a ρ) Φ:=Zal h
def ZtW{b:Bool}(h:Φ b):Tl (tru (.bl b)) Φ:=ZaK h
def Zs5(h:Tl (s ρ) λx=>Tl (if x=true then t ρ else .ok false) Φ):Tl (bAnd s t ρ) Φ:=Zal h
def ZtC(h:Tl (s ρ) λx=>Tl (if x=true then .ok true else t ρ) Φ):Tl (bOr s t ρ) Φ:=Zal h
def ZsU(h:Tl (s ρ) λx=>Φ (!x)):Tl (bNot s ρ) Φ:=Zal (h.mono λ_ q=>ZaK q)
end
section
variable{Φ:List D->Prop}{ρ:Ev}{a:ME}{m:MA}
def Zjm(h:Φ []):Tl (yaa ρ) Φ:=ZaK h
def Zhz(h:Tl (a ρ) λx=>Tl (m ρ) λxs=>Φ (x::xs)):Tl (Zaa a m ρ) Φ:=Zal (h.mono λ_ q=>Zal (q.mono λ_ q=>ZaK q))
def w_iv(h:Tl (a ρ) λx=>Tl (items x) Φ):Tl (iv a ρ) Φ:=Zal h
def Ztw{xs:List D}(h:Φ xs):Tl (items (.lst xs)) Φ:=ZaK h
def w_r1(h:Tl (m ρ) λxs=>Tl (rng1 xs) Φ):Tl (r1 m ρ) Φ:=Zal h
def w_r2(h:Tl (m ρ) λxs=>Tl (rng2 xs) Φ):Tl (r2 m ρ) Φ:=Zal h
def Zsm{j:Int}(h0:-1000000000<=j/\j<=1000000000)(h:Φ (Zbe 0 j.toNat)):Tl (rng1 [.int j]) Φ:=Zai (ZpU h0.1 h0.2) h
end
section
variable{Φ:Option Int->Prop}{ρ:Ev}{a:ME}
def Zt2(h:Φ none):Tl (pno ρ) Φ:=ZaK h
def Ztt(h:Tl (a ρ) λx=>Tl (optI x) Φ):Tl (pso a ρ) Φ:=Zal h
def Zq2{i:Int}(h:Φ (some i)):Tl (optI (.int i)) Φ:=ZaK h
end
section
variable{Φ:Ev->Prop}{ρ:Ev}{i n:Nat}{x:D}
def w_gN(h:Φ (ρ.set i (.im x))):Tl (gN i x ρ) Φ:=ZaK h
def Ztv(h:Φ ρ):Tl (gs0 [] ρ) Φ:=ZaK h
def ZtF{g:MG}{r:MGs}{ds:List D}(h:Tl (g x ρ) λρ'=>Tl (r ds ρ') Φ):Tl (gs1 g r (x::ds) ρ) Φ:=Zal h
def Zun{g:MGs}{xs:List D}(hl:xs.length=n)(h:Tl (g xs ρ) Φ):Tl (gU n g (.tup xs) ρ) Φ:=by
 show Tl (if xs.length=n then g xs ρ else .bad) Φ
 rw [if_pos hl];exact h
end
section
variable{Φ:Fl->Prop}{ρ:Ev}{a b:ME}{k l:MS}{t:MB}{i j:Nat}
def w_sq(h:Tl (k ρ) λf=>Tl (goOn l f) Φ):Tl (sq k l ρ) Φ:=Zal h
def w_gx(h:Tl (l ρ) Φ):Tl (goOn l (.nx ρ)) Φ:=h
def w_gr{x:D}(h:Φ (.rt x)):Tl (goOn l (.rt x)) Φ:=ZaK h
def w_st(h:Tl (a ρ) λx=>Φ (.nx (ρ.set i (.im x)))):Tl (st i a ρ) Φ:=Zal (h.mono λ_ q=>ZaK q)
def Zrn(h:Tl (a ρ) λx=>Φ (.rt x)):Tl (ret a ρ) Φ:=Zal (h.mono λ_ q=>ZaK q)
def Zkv(h:Φ (.nx ρ)):Tl (nop ρ) Φ:=ZaK h
def Zm6(h:Tl (a ρ) λ_=>Φ (.nx ρ)):Tl (drp a ρ) Φ:=Zal (h.mono λ_ q=>ZaK q)
def Ztj{g:MG}(h:Tl (a ρ) λx=>Tl (g x ρ) λρ'=>Φ (.nx ρ')):Tl (asg g a ρ) Φ:=Zal (h.mono λ_ q=>Zal (q.mono λ_ q=>ZaK q))
def Zqb(h:Tl (t ρ) λx=>Tl (if x=true then k ρ else l ρ) Φ):Tl (ifs t k l ρ) Φ:=Zal h
def Ztp{it:MI}{g:MG}(h:Tl (it ρ) λxs=>Tl (ZeN g k xs ρ) Φ):Tl (for_ it g k ρ) Φ:=Zal h
def Zt8{fu:Ev->Nat}(h:Tl (whGo t k (fu ρ) ρ) Φ):Tl (whl fu t k ρ) Φ:=h
def ZtI(h:Tl (a ρ) λx=>Tl (lstO x) λxs=>Φ (.nx (ρ.set i (.ow xs)))):Tl (stO i a ρ) Φ:=Zal (h.mono λ_ q=>Zal (q.mono λ_ q=>ZaK q))
def ZqY{Ψ:List D->Prop}{xs:List D}(h:Ψ xs):Tl (lstO (.lst xs)) Ψ:=ZaK h
def ZrE(h:Tl (getO ρ[i]?) λxs=>Tl (k (ρ.set i (.im (.lst xs)))) Φ):Tl (frz i k ρ) Φ:=Zal h
def Zrc(h:Tl (getO ρ[i]?) λxs=>Tl (a ρ) λd=>xs.length<1000000/\Φ (.nx (ρ.set i (.ow (xs++[d]))))):Tl (app i a ρ) Φ:=by
 refine Zal (h.mono λxs q=>Zal (q.mono λd q=>?_));rw [if_pos (show xs.length<LIM from q.1)];exact ZaK q.2
def w_gO{Ψ:List D->Prop}{o:Option Cl}{xs:List D}(e:o=some (.ow xs))(h:Ψ xs):Tl (getO o) Ψ:=Zai (by rw [e];rfl) h
def w_eR{Ψ:D->Prop}{x:D}(h:Ψ x):Tl (endOf (.rt x)) Ψ:=ZaK h
def w_eN{Ψ:D->Prop}(h:Ψ .non):Tl (endOf (.nx ρ)) Ψ:=ZaK h
def Ztx{g:MG}{xs:List D}(I:Ev->Prop)(h0:I ρ)(h:∀x∈xs,∀ρ,I ρ->Tl (g x ρ) λρ1=>Tl (k ρ1) λf=>∃ρ2,f=.nx ρ2/\I ρ2)(hd:∀ρ,I ρ->Φ (.nx ρ)):Tl (ZeN g k xs ρ) Φ:=by
 obtain ⟨ρ',e,i⟩:=Zpe (g:=g) (b:=k) I xs (λx hx ρ i=>by
  obtain ⟨ρ1,e1,f,e2,ρ2,rfl,i2⟩:=h x hx ρ i
  exact ⟨ρ1,ρ2,e1,e2,i2⟩) ρ h0
 exact ⟨_,e,hd ρ' i⟩
def w_wh{n:Nat}(I:Ev->Prop)(μ:Ev->Nat)(h0:I ρ)(hm:μ ρ<n)(h:∀ρ,I ρ->Tl (t ρ) λb=>(b=true->Tl (k ρ) λf=>∃ρ2,f=.nx ρ2/\I ρ2/\μ ρ2<μ ρ)/\(b=false->Φ (.nx ρ))):Tl (whGo t k n ρ) Φ:=by
 induction n generalizing ρ with
 | zero=>exact absurd hm (Nat.not_lt_zero _)
 | succ n ih =>
  rw [ZlH];obtain ⟨b,e,q⟩:=h ρ h0;rw [e];cases b with
  | true =>
   obtain ⟨f,e2,ρ2,rfl,i2,l2⟩:=q.1 rfl;show Tl ((k ρ).bind (turn (whGo t k n))) Φ;rw [e2];exact ih i2 (by omega)
  | false=>exact ZaK (q.2 rfl)
end
def ZjR{α:Type}{Φ:List D->Prop}{g:MG}{e:ME}{ρ:Ev}{enc:α->D}(f:α->D):∀{l:List α},(∀a∈l,Tl (g (enc a) ρ) λρ1=>Tl (e ρ1) λy=>y=f a)->Φ (l.map f)->Tl (Zak g yes e ρ (l.map enc)) Φ:=by
 intro l h q;have key:∀l:List α,(∀a∈l,Tl (g (enc a) ρ) λρ1=>Tl (e ρ1) λy=>y=f a)->Zak g yes e ρ (l.map enc)=.ok (l.map f):=by
  intro l
  induction l with
  | nil=>exact λ_=>rfl
  | cons a r ih =>
   intro h;obtain ⟨ρ1,e1,y,e2,rfl⟩:=h a Van;have z:=ih λb hb=>h b (Vao _ hb);rw [VaV,Zf3,e1,Za0];unfold yes at z ⊢;rw [Za0,if_pos rfl,e2,Za0,z];rfl
 exact Zai (key l h) q
def w_all{Φ:List D->Prop}{g:MG}{e:ME}{ρ:Ev}{xs:List D}(P:D->D->Prop)(h:∀x∈xs,Tl (g x ρ) λρ1=>Tl (e ρ1) λy=>P x y)(q:∀ys:List D,ys.length=xs.length->(∀(i:Nat) x y,xs[i]?=some x->ys[i]?=some y->P x y)->Φ ys):Tl (Zak g yes e ρ xs) Φ:=by
 obtain ⟨ys,e1,l,hp⟩:=Zjf (g:=g) (e:=e) (ρ:=ρ) P xs λx hx=>by
  obtain ⟨ρ1,e1,y,e2,hp⟩:=h x hx;exact ⟨ρ1,y,e1,e2,hp⟩
 exact ⟨ys,e1,q ys l hp⟩
section
variable{Φ:D->Prop}
def Zt0{x y:D}(h:Tl (dIx x y) Φ):Tl (dIx x y) Φ:=h
def ZtS{xs:List D}(h:Tl (bIsi xs) Φ):Tl (bIsi xs) Φ:=h
def ZrZ{α:Type}{xs:List α}{i:Nat}:at_ xs (i:Int)=xs[i]?:=by
 unfold at_;rw [if_pos (Int.natCast_nonneg i),Vcb]
def Zgg{xs:List D}{i:Int}(h:0<=i/\i<xs.length)(q:∀x∈xs,Φ x):Tl (dIx (.lst xs) (.int i)) Φ:=by
 obtain ⟨n,rfl⟩:=Int.eq_ofNat_of_zero_le h.1;have hn:n<xs.length:=by omega
 rw [ZoE,ZrZ,VbM hn];exact ZaK (q _ (VbZ hn))
end
mutual
def ZgP:∀(x:D) (k:Nat),plain k x=true->eqD x x=true
 | .non,_,_=>rfl
 | .bl b,_,_=>by show (b==b)=true;simp
 | .int b,_,_=>by show (b==b)=true;simp
 | .str b,_,_=>by show (b==b)=true;simp
 | .tup xs,0,h=>by simp [plain] at h
 | .lst xs,0,h=>by simp [plain] at h
 | .tup xs,k+1,h=>ZfY xs k (by simpa [plain] using h)
 | .lst xs,k+1,h=>ZfY xs k (by simpa [plain] using h)
 | .ty _,k,h=>by cases k<;>simp [plain] at h
 | .cls _,k,h=>by cases k<;>simp [plain] at h
 | .exc _,k,h=>by cases k<;>simp [plain] at h
def ZfY:∀(xs:List D) (k:Nat),Zaz k xs=true->eqDs xs xs=true
 | [],_,_=>rfl
 | x::xs,k,h=>by
  have h':plain k x=true/\Zaz k xs=true:=by simpa [Zaz] using h
  show (eqD x x&&eqDs xs xs)=true;rw [ZgP x k h'.1,ZfY xs k h'.2];rfl
end
def Zrj{Φ:D->Prop}{x:D}(h:plain 50 x=true)(q:Φ (.bl true)):Tl (dEq x x) Φ:=by
 unfold dEq;rw [h,Bool.and_self,if_pos rfl,ZgP x 50 h];exact ZaK q
def ZlL{Φ:D->Prop}{x:D}(h:plain 50 x=true)(q:Φ (.bl false)):Tl (dNe x x) Φ:=by
 unfold dNe;rw [h,Bool.and_self,if_pos rfl,ZgP x 50 h];exact ZaK q
section
variable{α β:Type}{c:Str}{ρ:Ev}{i n:Nat}{k l:MS}{m:MA}
def ZlT{r:Res β}{f:β->Res α}(h:Tl r λx=>f x=.ex c):r.bind f=.ex c:=by
 obtain ⟨x,rfl,e⟩:=h;exact e
def ZcK{r:Res β}{f:β->Res α}(h:r=.ex c):r.bind f=.ex c:=by rw [h];rfl
def x_fn{ds:List D}(h:k (ev0 n ds)=.ex c):fn n k ds=.ex c:=ZcK h
def Zfm(h:k ρ=.ex c):sq k l ρ=.ex c:=ZcK h
def Zex(h:Tl (k ρ) λf=>goOn l f=.ex c):sq k l ρ=.ex c:=ZlT h
def x_gx(h:l ρ=.ex c):goOn l (.nx ρ)=.ex c:=h
def ZlN{t:MB}(h:Tl (t ρ) λx=>(if x=true then k ρ else l ρ)=.ex c):ifs t k l ρ=.ex c:=ZlT h
def Zre{Φ:Fl->Prop}(h:Φ (.nx (ρ.set i .no))):Tl (endT i (.ok (.nx ρ))) Φ:=ZaK h
end
end Dl
namespace Dl
end Dl
namespace Dl
end Dl
namespace Dl
section
variable{Ψ:List D->Prop}{Φ:D->Prop}{ρ:Ev}{m:MA}{xs ys zs:List D}{a b:ME}
def Zrq{f:List D->D->Res D}(h:Tl (a ρ) λx=>Tl (lstO x) λus=>Tl (b ρ) λy=>Tl (f us y) Φ):Tl (mLst f a b ρ) Φ:=Zal (h.mono λ_ q=>Zal (q.mono λ_ q=>Zal q))
end
end Dl
namespace Dl
open PySem
section
variable{ρ:Ev}{i:Nat}{c:Str}{e a b':ME}{m:MA}{n:MB}{b:MS}{hits:List Str}
def Zo6{Φ:Fl->Prop}(h:e ρ=.ex c)(hc:hits.contains (clsOf c)=true)(q:Tl (b (ρ.set i (.im (.exc c)))) λfl=>Tl (endT i (.ok fl)) Φ):Tl (Zmc e hits i b ρ) Φ:=by
 obtain ⟨fl,e4,h4⟩:=q;show Tl (Zov hits i b ρ (e ρ)) Φ;rw [h];show Tl (if hits.contains (clsOf c)=true then endT i (b (ρ.set i (.im (.exc c)))) else .bad) Φ
 rw [if_pos hc,e4];exact h4
def Zrz{f:List D->Res D}(h:Tl (m ρ) λds=>f ds=.ex c):bCal f m ρ=.ex c:=by
 obtain ⟨ds,e1,e2⟩:=h;show (noEx (m ρ)).bind f=_;rw [e1];exact e2
def Zts(h:Tl (n ρ) λk=>(if k=true then a ρ else b' ρ)=.ex c):bIf n a b' ρ=.ex c:=by
 obtain ⟨k,e1,e2⟩:=h;show ((noEx (n ρ)).bind λk=>if k=true then a ρ else b' ρ)=_
 rw [e1];exact e2
end
end Dl
namespace Mt
end Mt
local macro_rules | `(tactic| walk_at "sm")=>`(tactic| first | assumption | exact Dl.Sm.of64 (by omega) (by omega) | exact Dl.Sm.mul (by walk_at "sm") (by walk_at "sm") | exact Dl.Sm.add (by walk_at "sm") (by walk_at "sm") | exact Dl.Sm.sub (by walk_at "sm") (by walk_at "sm") | exact Dl.Sm.neg (by walk_at "sm") | exact Dl.Sm.min (by walk_at "sm") (by walk_at "sm") | exact Dl.Sm.max (by walk_at "sm") (by walk_at "sm"))
local macro_rules | `(tactic| walk_at "mo")=>`(tactic| first | assumption | exact Dl.ZpL (Dl.Sm.of64 (by omega) (by omega)) | exact Dl.ZpJ (Dl.Sm.of64 (by omega) (by omega)) | exact Dl.mulOk_s (by walk_at "sm") (by walk_at "sm") (by decide))
local macro_rules | `(tactic| walk_at "lg")=>`(tactic| first | assumption | decide | exact Dl.Sm.log (by walk_at "sm") (by decide))
local macro_rules | `(tactic| walk_at "w1")=>`(tactic| first
 | ((with_reducible refine Dl.w_v' ?_);refine Dl.w_gC rfl ?_) | with_reducible refine Dl.w_o2 ?_ | with_reducible refine Dl.w_c ?_ | with_reducible refine Dl.w_on ?_ | with_reducible refine Dl.Zhz ?_ | with_reducible refine Dl.Zjm ?_ | with_reducible refine Dl.w_sq ?_ | with_reducible refine Dl.w_gx ?_ | with_reducible refine Dl.w_st ?_ | with_reducible refine Dl.Zqb ?_ | with_reducible refine Dl.ZtR ?_ | with_reducible refine Dl.ZtW ?_
 | with_reducible refine Dl.Zn4 ?_ | with_reducible refine Dl.w_sub ?_ | ((with_reducible refine Dl.w_mul ?_ ?_);walk_at "mo") | ((with_reducible refine Dl.w_mod ?_ ?_);(first | decide | omega)) | ((with_reducible refine Dl.w_div ?_ ?_ ?_);(first | decide | omega);walk_at "lg")
 | with_reducible refine Dl.w_lt ?_ | with_reducible refine Dl.w_le ?_ | with_reducible refine Dl.w_gt ?_ | with_reducible refine Dl.w_ge ?_ | with_reducible refine Dl.ZtL ?_ | with_reducible refine Dl.Zuh ?_ | with_reducible refine Dl.Zs5 ?_ | with_reducible refine Dl.ZtC ?_ | with_reducible refine Dl.ZsU ?_
 | with_reducible refine Dl.Zrn ?_ | with_reducible refine Dl.w_gr ?_ | with_reducible refine Dl.w_eR ?_ | with_reducible refine Dl.Zkv ?_ | with_reducible refine Dl.ZtK ?_ | with_reducible refine Dl.Zuo ?_ | with_reducible refine Dl.w_fn ?_ | with_reducible refine Dl.w_o1 ?_ | with_reducible refine Dl.Zro ?_ | with_reducible refine Dl.w_eOr ?_ | with_reducible refine Dl.Zr8 ?_ | with_reducible refine Dl.ZtM ?_ | with_reducible refine Dl.w_chain ?_
 | with_reducible refine Dl.w_lenMT ?_ | with_reducible refine Dl.ZoK ?_ | with_reducible refine Dl.ZrW ?_ | with_reducible refine Dl.w_lenT ?_ | with_reducible refine Dl.Zt3 ?_ | with_reducible refine Dl.w_max ?_ | with_reducible refine Dl.w_min ?_ | with_reducible refine Dl.w_tupL ?_ | with_reducible refine Dl.w_tupT ?_ | with_reducible refine Dl.ZrA ?_ | with_reducible refine Dl.w_lstT ?_ | with_reducible refine Dl.ZtN ?_
 | with_reducible refine Dl.Ztg ?_ | with_reducible refine Dl.Zt2 ?_ | with_reducible refine Dl.Ztt ?_ | with_reducible refine Dl.Zq2 ?_ | with_reducible refine Dl.Ztc ?_ | with_reducible refine Dl.w_cutT ?_ | with_reducible refine Dl.w_iv ?_ | with_reducible refine Dl.Ztw ?_ | with_reducible refine Dl.w_itT ?_ | with_reducible refine Dl.w_r1 ?_ | ((with_reducible refine Dl.Zsm ?_ ?_);omega) | with_reducible refine Dl.w_gN ?_ | with_reducible refine Dl.Ztv ?_ | with_reducible refine Dl.ZtF ?_
 | ((with_reducible refine Dl.Zun ?_ ?_);exact rfl) | ((with_reducible refine Dl.w_gUL ?_ ?_);exact rfl) | with_reducible refine Dl.Zm6 ?_ | with_reducible refine Dl.Ztj ?_ | with_reducible refine Dl.w_par ?_ | with_reducible refine Dl.Ztp ?_ | with_reducible refine Dl.Zt8 ?_ | with_reducible refine Dl.w_zip ?_ | with_reducible refine Dl.w_zip2 ?_ | with_reducible refine Dl.w_zipTL ?_ | with_reducible refine Dl.w_zipLT ?_ | with_reducible refine Dl.w_zipTT ?_ | with_reducible refine Dl.w_iz3 ?_ | with_reducible refine Dl.w_zip3T ?_ | with_reducible refine Dl.w_lz3T ?_ | with_reducible refine Dl.Zrq ?_ | with_reducible refine Dl.w_enum ?_ | with_reducible refine Dl.w_enum1 ?_ | with_reducible refine Dl.ZrJ ?_
 | with_reducible refine Dl.w_retN ?_ | with_reducible refine Dl.w_eN ?_ | with_reducible refine Dl.w_brk ?_ | with_reducible refine Dl.w_cnt ?_ | with_reducible refine Dl.w_gb ?_ | with_reducible refine Dl.w_gc ?_ | with_reducible refine Dl.w_isN ?_ | with_reducible refine Dl.w_notN ?_ | with_reducible refine Dl.w_p6 ?_ | with_reducible refine Dl.w_p8 ?_ | with_reducible refine Dl.w_p20 ?_ | ((with_reducible refine Dl.w_pow ?_ ?_ ?_ ?_);decide;decide;decide) | ((with_reducible refine Dl.w_shl ?_ ?_ ?_ ?_);decide;decide;decide) | ((with_reducible refine Dl.w_shr ?_ ?_);omega) | with_reducible refine Dl.w_yes ?_
 | with_reducible refine Dl.w_tx ?_ | with_reducible refine Dl.w_tc ?_ | with_reducible refine Dl.w_tb ?_ | with_reducible refine Dl.w_tr ?_ | with_reducible refine Dl.w_max3 ?_ | with_reducible refine Dl.w_sum ?_ | with_reducible refine Dl.w_rev ?_ | ((with_reducible refine Dl.w_pkB ?_);refine Dl.w_gO rfl ?_) | ((with_reducible refine Dl.w_pk ?_);refine Dl.w_gO rfl ?_) | with_reducible refine Dl.w_scI ?_ | with_reducible refine Dl.w_scB ?_ | with_reducible refine Dl.Zre ?_ | with_reducible refine Dl.ZtI ?_ | with_reducible refine Dl.ZqY ?_ | ((with_reducible refine Dl.ZrE ?_);refine Dl.w_gO rfl ?_) | ((with_reducible refine Dl.Zrc ?_);refine Dl.w_gO rfl ?_) | ((with_reducible refine Dl.Zt0 ?_);refine Dl.Zai rfl ?_) | ((with_reducible refine Dl.ZtS ?_);refine Dl.Zai rfl ?_) | ((with_reducible refine Dl.w_lenr ?_);refine Dl.Zai rfl ?_) | with_reducible refine Dl.ZaK ?_ | with_reducible refine Dl.Zal ?_)
local macro_rules | `(tactic| walk_at "wi")=>`(tactic| first | ((with_reducible refine Dl.Zle ?_ ?_);exact rfl) | ((with_reducible refine Dl.Zjy ?_ ?_);exact rfl) | ((with_reducible refine Dl.w_dT ?_ ?_);first | assumption | omega) | ((with_reducible refine Dl.w_dF ?_ ?_);first | assumption | omega) | ((with_reducible refine Dl.w_nT ?_ ?_);first | assumption | omega) | ((with_reducible refine Dl.w_nF ?_ ?_);first | assumption | omega))
local macro_rules | `(tactic| walk_at "wr")=>`(tactic| (refine Dl.Zai rfl ?_))
local macro_rules | `(tactic| walk_at "w")=>`(tactic| (repeat (first | walk_at "w1" | walk_at "wi"));try dsimp only [List.set_cons_zero,List.set_cons_succ,Dl.ev0,Dl.evF,Dl.noA,Dl.yar,Dl.imOf,List.getElem?_cons_zero,List.getElem?_cons_succ,Nat.reduceAdd,Nat.reduceSub])
namespace My
open PySem Dl
def tabC:List (Str×Str×Bool):=[("BadFloor", "BadFloor", true),("BadFloor", "BadPattern", false),("BadFloor", "BadThing", false),("BadFloor", "BadTriangle", false),("BadFloor", "NoRow", false),("BadPattern", "BadFloor", false),("BadPattern", "BadPattern", true),("BadPattern", "BadThing", false),("BadPattern", "BadTriangle", false),("BadPattern", "NoRow", false),("BadThing", "BadFloor", false),("BadThing", "BadPattern", false),("BadThing", "BadThing", true),("BadThing", "BadTriangle", false),("BadThing", "NoRow", false),("BadTriangle", "BadFloor", false),("BadTriangle", "BadPattern", false),("BadTriangle", "BadThing", false),("BadTriangle", "BadTriangle", true),("BadTriangle", "NoRow", false),("NoRow", "BadFloor", false),("NoRow", "BadPattern", false),("NoRow", "BadThing", false),("NoRow", "BadTriangle", false),("NoRow", "NoRow", true)]
def tabT:List (Str×String×Bool):=[("BadFloor", "ValueError", true),("BadPattern", "ValueError", true),("BadThing", "ValueError", true),("BadTriangle", "ValueError", true),("NoRow", "ValueError", true)]
def objs:List Str:=["Plain", "Shaded", "Patterned", "Glass"]
def ZaR:List D->Res D:=fn 1
  (ifs (bNot (trb (on bIsi (Zaa (v 0) (Zaa (c (.ty "str")) yaa)))))
  (rsP "NoRow" (Zaa (c (.int 0)) yaa))
  nop)
def ZaS:List D->Res D:=fn 1
  (ret (eAnd (on bIsi (Zaa (v 0) (Zaa (c (.ty "int")) yaa))) (eNot (on bIsi (Zaa (v 0) (Zaa (c (.ty "bool")) yaa))))))
def ZaQ:List D->Res D:=fn 3
  (ret (eAnd (on ZaS (Zaa (v 0) yaa)) (eAnd (o2 dGe (v 0) (v 1)) (o2 dLe (v 0) (v 2)))))
def Zbh:List D->Res D:=fn 2
  (ifs (bOr (bNot (trb (on ZaQ (Zaa (v 0) (Zaa (c (.int 1)) (Zaa (c (.int 64)) yaa)))))) (bNot (trb (on ZaQ (Zaa (v 1) (Zaa (c (.int 1)) (Zaa (c (.int 64)) yaa)))))))
  (rse "BadFloor" (Zaa (c (.str "a floor has 1 to 64 cells in a row, and 1 to 64 rows")) yaa))
  nop)
def ZaB:List D->Res D:=fn 3
  (sq (st 2 (sD Zc4 (v 1) (c (.str " "))))
  (sq (ifs (trb (o2 dNe (o2 dIx (v 2) (c (.int 0))) (v 0)))
  (rsP "NoRow" (Zaa (c (.int 0)) yaa))
  nop)
  (ret (cut (v 2) (pso (c (.int 1))) pno))))
def Zas:List D->Res D:=fn 4
  (sq (st 3 (on ZaB (Zaa (v 0) (Zaa (v 1) yaa))))
  (sq (ifs (trb (o2 dNe (on bLen (Zaa (v 3) yaa)) (v 2)))
  (rsP "NoRow" (Zaa (c (.int 0)) yaa))
  nop)
  (ret (v 3))))
def Zbf:List D->Res D:=fn 1
  (sq (ifs (bOr (trb (o2 dEq (v 0) (c (.str "")))) (trb (o2 dGt (on Zms (Zaa (v 0) yaa)) (c (.int 30)))))
  (ret (c (.bl false)))
  nop)
  (sq (ifs (bAnd (trb (sD ZfX (v 0) (c (.str "0")))) (trb (o2 dNe (v 0) (c (.str "0")))))
  (ret (c (.bl false)))
  nop)
  (ret (on bAll (Zaa (comp (ivT (v 0)) 1 [] (gN 0) yes (o2 dInT (v 0) (c (.str "0123456789")))) yaa)))))
def Zap:List D->Res D:=fn 2
  (sq (st 1 (ife (trb (sD ZfX (v 0) (c (.str "-")))) (cutT (v 0) (pso (c (.int 1))) pno) (v 0)))
  (sq (ifs (bOr (bNot (trb (on Zbf (Zaa (v 1) yaa)))) (trb (o2 dEq (v 0) (c (.str "-0")))))
  (rsP "NoRow" (Zaa (c (.int 0)) yaa))
  nop)
  (ret (on ZmG (Zaa (v 0) yaa)))))
def ZaY:List D->Res D:=fn 3
  (ret (ZdQ (iv (on Zas (Zaa (v 0) (Zaa (v 1) (Zaa (v 2) yaa))))) 1 [] (gN 0) yes (on Zap (Zaa (v 0) yaa))))
def ZaH:List D->Res D:=fn 2
  (sq (st 1 (on ZaY (Zaa (c (.str "floor")) (Zaa (v 0) (Zaa (c (.int 2)) yaa)))))
  (sq (drp (on Zbh (Zaa (o2 dIx (v 1) (c (.int 0))) (Zaa (o2 dIx (v 1) (c (.int 1))) yaa))))
  (ret (v 1))))
def Zbg:List D->Res D:=fn 5
  (sq (st 1 (c (.int 0)))
  (sq (for_ (iv (v 0)) (gN 2)
  (sq (st 3 (on bAbs (Zaa (v 2) yaa)))
  (whl fuel (trb (o2 dNe (v 3) (c (.int 0))))
  (sq (st 4 (o2 ybY (v 1) (v 3)))
  (sq (st 1 (v 3))
  (st 3 (v 4)))))))
  (ret (v 1))))
def ZaF:List D->Res D:=fn 1
  (sq (ifs (bOr (bNot (trb (on bIsi (Zaa (v 0) (Zaa (c (.ty "tuple")) yaa))))) (trb (o2 dNe (on bLen (Zaa (v 0) yaa)) (c (.int 2)))))
  (ret (c (.bl false)))
  nop)
  (sq (ifs (bOr (bNot (trb (on ZaS (Zaa (o2 dIx (v 0) (c (.int 0))) yaa)))) (bNot (trb (on ZaS (Zaa (o2 dIx (v 0) (c (.int 1))) yaa)))))
  (ret (c (.bl false)))
  nop)
  (ret (eAnd (o2 dGe (o2 dIx (v 0) (c (.int 1))) (c (.int 1))) (o2 dEq (on Zbg (Zaa (v 0) yaa)) (c (.int 1)))))))
def Zay:List D->Res D:=fn 3
  (sq (ifs (trb (o2 Zny (c (.str "/")) (v 0)))
  (ret (mtp (Zaa (on Zap (Zaa (v 0) yaa)) (Zaa (c (.int 1)) yaa))))
  nop)
  (sq (st 1 (sD Zpf (v 0) (c (.str "/"))))
  (sq (st 2 (mtp (Zaa (on Zap (Zaa (o2 dIx (v 1) (c (.int 0))) yaa)) (Zaa (on Zap (Zaa (o2 dIx (v 1) (c (.int 2))) yaa)) yaa))))
  (sq (ifs (bOr (trb (o2 dEq (o2 dIx (v 2) (c (.int 1))) (c (.int 1)))) (bNot (trb (on ZaF (Zaa (v 2) yaa)))))
  (rsP "NoRow" (Zaa (c (.int 0)) yaa))
  nop)
  (ret (v 2))))))
def Zaw:List D->Res D:=fn 1
  (ret (on Zay (Zaa (o2 dIx (on Zas (Zaa (c (.str "ground")) (Zaa (v 0) (Zaa (c (.int 1)) yaa)))) (c (.int 0))) yaa)))
def Zfo:List D->Res D:=fn 1
  (sq (ifs (bOr (bNot (trb (on bIsi (Zaa (v 0) (Zaa (c (.ty "tuple")) yaa))))) (trb (o2 dNe (on bLen (Zaa (v 0) yaa)) (c (.int 2)))))
  (ret (c (.bl false)))
  nop)
  (ret (eAnd (on ZaQ (Zaa (o2 dIx (v 0) (c (.int 0))) (Zaa (c (.int 1)) (Zaa (c (.int 7)) yaa)))) (on ZaQ (Zaa (o2 dIx (v 0) (c (.int 1))) (Zaa (c (.int 1)) (Zaa (c (.int 7)) yaa)))))))
def ZcO:List D->Res D:=fn 1
  (sq (ifs (bOr (bNot (trb (on bIsi (Zaa (v 0) (Zaa (c (.ty "list")) yaa))))) (bOr (trb (o2 dLt (on bLen (Zaa (v 0) yaa)) (c (.int 1)))) (trb (o2 dGt (on bLen (Zaa (v 0) yaa)) (c (.int 16))))))
  (rse "BadFloor" (Zaa (c (.str "spots are a list of 1 to 16 tuples")) yaa))
  nop)
  (sq (ifs (bNot (trb (on bAll (Zaa (comp (iv (v 0)) 1 [] (gN 0) yes (on Zfo (Zaa (v 0) yaa))) yaa))))
  (rse "BadFloor" (Zaa (c (.str "a spot is a tuple of two whole numbers from 1 to 7")) yaa))
  nop)
  (ifs (trb (o2 dNe (o1 ZiP (v 0)) (on bLen (Zaa (v 0) yaa))))
  (rse "BadFloor" (Zaa (c (.str "the spots of a list are all unlike")) yaa))
  nop)))
def Zed:List D->Res D:=fn 1
  (ret (on bTup (Zaa (ZdQ (iv (sD Zc4 (v 0) (c (.str ",")))) 1 [] (gN 0) yes (on Zap (Zaa (v 0) yaa))) yaa)))
def ZaA:List D->Res D:=fn 2
  (sq (st 1 (ZdQ (iv (on ZaB (Zaa (c (.str "spots")) (Zaa (v 0) yaa)))) 1 [] (gN 0) yes (on Zed (Zaa (v 0) yaa))))
  (sq (drp (on ZcO (Zaa (v 1) yaa)))
  (ret (v 1))))
def ZbT:List D->Res D:=fn 3
  (grp 1 2 0 (trb (o2 dEq (v 2) (c (.str "/")))))
def ZcY:List D->Res D:=fn 2
  (sq (ifs (trb (o2 dLt (on bLen (Zaa (v 0) yaa)) (c (.int 4))))
  (rsP "NoRow" (Zaa (c (.int 0)) yaa))
  nop)
  (sq (st 1 (ZdQ (iv (v 0)) 1 [] (gN 0) yes (on Zap (Zaa (v 0) yaa))))
  (ret (mtp (Zaa (o2 dIx (v 1) (c (.int 0))) (Zaa (o2 dIx (v 1) (c (.int 1))) (Zaa (o2 dIx (v 1) (c (.int 2))) (Zaa (o2 dIx (v 1) (c (.int 3))) (Zaa (on bTup (Zaa (cut (v 1) (pso (c (.int 4))) pno) yaa)) yaa)))))))))
def Zbm:List D->Res D:=fn 2
  (for_ (iv (v 0)) (gN 1)
  (ifs (trb (o2 dLe (o2 dIx (v 1) (c (.int 2))) (c (.int 0))))
  (rse "BadTriangle" (Zaa (c (.str "only corners with w above 0 are thrown onto the floor")) yaa))
  nop))
def Zda:List D->Res D:=fn 1
  (sq (ifs (bOr (bNot (trb (on bIsi (Zaa (v 0) (Zaa (c (.ty "tuple")) yaa))))) (trb (o2 dGt (on bLen (Zaa (v 0) yaa)) (c (.int 3)))))
  (ret (c (.bl false)))
  nop)
  (ret (on bAll (Zaa (comp (iv (v 0)) 1 [] (gN 0) yes (on ZaS (Zaa (v 0) yaa))) yaa))))
def Zd6:List D->Res D:=fn 1
  (sq (ifs (bOr (bNot (trb (on bIsi (Zaa (v 0) (Zaa (c (.ty "tuple")) yaa))))) (trb (o2 dNe (on bLen (Zaa (v 0) yaa)) (c (.int 5)))))
  (ret (c (.bl false)))
  nop)
  (sq (ifs (bNot (trb (on bAll (Zaa (comp (iv (cut (v 0) pno (pso (c (.int 4))))) 1 [] (gN 0) yes (on ZaS (Zaa (v 0) yaa))) yaa))))
  (ret (c (.bl false)))
  nop)
  (ret (eAnd (o2 dGe (o2 dIx (v 0) (c (.int 3))) (c (.int 1))) (on Zda (Zaa (o2 dIx (v 0) (c (.int 4))) yaa))))))
def ZbF:List D->Res D:=fn 2
  (sq (ifs (bOr (bNot (trb (on bIsi (Zaa (v 0) (Zaa (c (.ty "tuple")) yaa))))) (trb (o2 dNe (on bLen (Zaa (v 0) yaa)) (c (.int 3)))))
  (rse "BadTriangle" (Zaa (c (.str "a triangle is a tuple of three corners")) yaa))
  nop)
  (for_ (iv (v 0)) (gN 1)
  (sq (ifs (bNot (trb (on Zd6 (Zaa (v 1) yaa))))
  (rse "BadTriangle" (Zaa (c (.str "a corner is a tuple (x, y, w, h, values) of whole numbers, h from 1 on")) yaa))
  nop)
  (ifs (trb (o2 dNe (on bLen (Zaa (o2 dIx (v 1) (c (.int 4))) yaa)) (on bLen (Zaa (o2 dIx (o2 dIx (v 0) (c (.int 0))) (c (.int 4))) yaa))))
  (rse "BadTriangle" (Zaa (c (.str "the corners of a triangle have as many values each")) yaa))
  nop))))
def Zck:List D->Fs->Res Fs:=fnI 2
  (iDrp (on ZbF (Zaa (v 1) yaa))
  (iDrp (on Zbm (Zaa (v 1) yaa))
  (ZkM "triangle" (v 1)
  iEnd)))
def Zba:List D->Res D:=fn 1
  (ifs (bNot (trb (on ZaF (Zaa (v 0) yaa))))
  (rse "BadThing" (Zaa (c (.str "a colour is a fraction in lowest terms")) yaa))
  nop)
def Zdy:List D->Res D:=fn 1
  (ifs (bOr (bNot (trb (on ZaF (Zaa (v 0) yaa)))) (bOr (trb (o2 dLt (o2 dIx (v 0) (c (.int 0))) (c (.int 0)))) (trb (o2 dGt (o2 dIx (v 0) (c (.int 0))) (o2 dIx (v 0) (c (.int 1)))))))
  (rse "BadThing" (Zaa (c (.str "a part is a fraction in lowest terms, from 0 to 1")) yaa))
  nop)
def Zg0:List D->Fs->Res Fs:=fnI 4
  (iSup Zck (Zaa (v 1) yaa)
  (iDrp (on Zba (Zaa (v 2) yaa))
  (iDrp (on Zdy (Zaa (v 3) yaa))
  (ZkM "colour" (v 2)
  (ZkM "part" (v 3)
  iEnd)))))
def ZbR:List D->Res D:=fn 2
  (sq (ifs (bOr (bNot (trb (on bIsi (Zaa (v 0) (Zaa (c (.ty "list")) yaa))))) (trb (o2 dNin (on bLen (Zaa (v 0) yaa)) (c (.tup [.int 1,.int 2,.int 4,.int 8,.int 16])))))
  (rse "BadPattern" (Zaa (c (.str "a pattern is a list of 1, 2, 4, 8 or 16 rows")) yaa))
  nop)
  (for_ (iv (v 0)) (gN 1)
  (sq (ifs (bOr (bNot (trb (on bIsi (Zaa (v 1) (Zaa (c (.ty "list")) yaa))))) (trb (o2 dNin (on bLen (Zaa (v 1) yaa)) (c (.tup [.int 1,.int 2,.int 4,.int 8,.int 16])))))
  (rse "BadPattern" (Zaa (c (.str "a row of a pattern is a list of 1, 2, 4, 8 or 16 fractions")) yaa))
  nop)
  (sq (ifs (trb (o2 dNe (on bLen (Zaa (v 1) yaa)) (on bLen (Zaa (o2 dIx (v 0) (c (.int 0))) yaa))))
  (rse "BadPattern" (Zaa (c (.str "the rows of a pattern have as many fractions each")) yaa))
  nop)
  (ifs (bNot (trb (on bAll (Zaa (comp (iv (v 1)) 1 [] (gN 0) yes (on ZaF (Zaa (v 0) yaa))) yaa))))
  (rse "BadPattern" (Zaa (c (.str "what stands in a pattern is a fraction in lowest terms")) yaa))
  nop)))))
def Za9:List D->Res D:=fn 2
  (ifs (trb (o2 dLt (on bLen (Zaa (o2 dIx (o2 dIx (v 0) (c (.int 0))) (c (.int 4))) yaa)) (v 1)))
  (rse "BadThing" (Zaa (fstr "the corners of such a thing have " " values or more" (v 1)) yaa))
  nop)
def Zhm:List D->Res D:=fnR 1
  (comp (iv (v 0)) 1 [] (gN 0) yes (on bLst (Zaa (v 0) yaa)))
def Zcz:List D->Fs->Res Fs:=fnI 3
  (iSup Zck (Zaa (v 1) yaa)
  (iDrp (on Za9 (Zaa (v 1) (Zaa (c (.int 2)) yaa)))
  (iDrp (on ZbR (Zaa (v 2) yaa))
  (ZrD "pattern" (on Zhm (Zaa (v 2) yaa))
  iEnd))))
def Zhl:List D->Fs->Res Fs:=fnI 3
  (iSup Zck (Zaa (v 1) yaa)
  (iDrp (on Zba (Zaa (v 2) yaa))
  (ZkM "colour" (v 2)
  iEnd)))
def Zff:List D->Fs->Res Fs:=fnI 2
  (iSup Zck (Zaa (v 1) yaa)
  (iDrp (on Za9 (Zaa (v 1) (Zaa (c (.int 1)) yaa)))
  iEnd))
def Zb6:List D->Res D:=fn 1
  (ret (ZdQ (iv (sD Zc4 (v 0) (c (.str ";")))) 1 [] (gN 0) yes (ZdQ (iv (sD Zc4 (v 0) (c (.str ",")))) 1 [] (gN 0) yes (on Zay (Zaa (v 0) yaa)))))
def ZeH:List D->Res D:=fn 2
  (sq (ifs (bAnd (trb (o2 dEq (cut (v 0) pno (pso (c (.int 1)))) (mls (Zaa (c (.str "plain")) yaa)))) (trb (o2 dEq (on bLen (Zaa (v 0) yaa)) (c (.int 2)))))
  (ret (make "Plain" Zhl (Zaa (v 1) (Zaa (on Zay (Zaa (o2 dIx (v 0) (c (.int 1))) yaa)) yaa))))
  nop)
  (sq (ifs (trb (o2 dEq (v 0) (mls (Zaa (c (.str "shaded")) yaa))))
  (ret (make "Shaded" Zff (Zaa (v 1) yaa)))
  nop)
  (sq (ifs (bAnd (trb (o2 dEq (cut (v 0) pno (pso (c (.int 1)))) (mls (Zaa (c (.str "patterned")) yaa)))) (trb (o2 dEq (on bLen (Zaa (v 0) yaa)) (c (.int 2)))))
  (ret (make "Patterned" Zcz (Zaa (v 1) (Zaa (on Zb6 (Zaa (o2 dIx (v 0) (c (.int 1))) yaa)) yaa))))
  nop)
  (sq (ifs (bAnd (trb (o2 dEq (cut (v 0) pno (pso (c (.int 1)))) (mls (Zaa (c (.str "glass")) yaa)))) (trb (o2 dEq (on bLen (Zaa (v 0) yaa)) (c (.int 3)))))
  (ret (make "Glass" Zg0 (Zaa (v 1) (Zaa (on Zay (Zaa (o2 dIx (v 0) (c (.int 1))) yaa)) (Zaa (on Zay (Zaa (o2 dIx (v 0) (c (.int 2))) yaa)) yaa)))))
  nop)
  (rsP "NoRow" (Zaa (c (.int 0)) yaa))))))
def Zat:List D->Res D:=fn 2
  (sq (drp (on ZaR (Zaa (v 0) yaa)))
  (sq (st 1 (on ZbT (Zaa (sD Zc4 (v 0) (c (.str " "))) yaa)))
  (sq (ifs (trb (o2 dNe (on bLen (Zaa (v 1) yaa)) (c (.int 4))))
  (rsP "NoRow" (Zaa (c (.int 0)) yaa))
  nop)
  (ret (on ZeH (Zaa (o2 dIx (v 1) (c (.int 0))) (Zaa (on bTup (Zaa (ZdQ (iv (cut (v 1) (pso (c (.int 1))) pno)) 1 [] (gN 0) yes (on ZcY (Zaa (v 0) yaa))) yaa)) yaa)))))))
def ZaZ:List D->Res D:=fn 3
  (sq (ifs (trb (o2 dGe (v 1) (on bLen (Zaa (v 0) yaa))))
  (rsP "NoRow" (Zaa (v 1) yaa))
  nop)
  (ZkN [("read_floor", ZaH),("read_ground", Zaw),("read_spots", ZaA),("read_thing", Zat)] 2 (Zaa (o2 dIx (v 0) (v 1)) yaa) ["BadFloor", "BadPattern", "BadThing", "BadTriangle", "NoRow"] "NoRow" (Zaa (v 1) yaa)))
def ZaP:List D->Res D:=fn 6
  (sq (drp (on ZaR (Zaa (v 0) yaa)))
  (sq (st 1 (sD Zc4 (v 0) (c (.str "\n"))))
  (sq (st 2 (on ZaZ (Zaa (v 1) (Zaa (c (.int 0)) (Zaa (c (.cls "read_floor")) yaa)))))
  (sq (st 3 (on ZaZ (Zaa (v 1) (Zaa (c (.int 1)) (Zaa (c (.cls "read_ground")) yaa)))))
  (sq (st 4 (on ZaZ (Zaa (v 1) (Zaa (c (.int 2)) (Zaa (c (.cls "read_spots")) yaa)))))
  (sq (st 5 (ZdQ (r2 (Zaa (c (.int 3)) (Zaa (on bLen (Zaa (v 1) yaa)) yaa))) 1 [1] (gN 0) yes (on ZaZ (Zaa (v 1) (Zaa (v 0) (Zaa (c (.cls "read_thing")) yaa))))))
  (ret (mtp (Zaa (o2 dIx (v 2) (c (.int 0))) (Zaa (o2 dIx (v 2) (c (.int 1))) (Zaa (v 3) (Zaa (v 4) (Zaa (v 5) yaa)))))))))))))
def Zao:List D->Res D:=fn 5
  (sq (st 2 (c .non))
  (sq (Zmc (bIf (trb (o2 dEq (v 0) (c (.str "scene"))))
  (bCal ZaP (Zaa (v 1) yaa))
  (bCal Zat (Zaa (v 1) yaa))) ["BadFloor", "BadPattern", "BadThing", "BadTriangle", "NoRow"] 3
  (st 2 (v 3)))
  (sq (st 4 (mls (Zaa (on (bIsX tabC tabT) (Zaa (v 2) (Zaa (c (.cls "NoRow")) yaa))) (Zaa (on (bIsX tabC tabT) (Zaa (v 2) (Zaa (c (.cls "BadTriangle")) yaa))) (Zaa (on (bIsX tabC tabT) (Zaa (v 2) (Zaa (c (.cls "BadThing")) yaa))) yaa)))))
  (sq (st 4 (o2 yac (v 4) (mls (Zaa (on (bIsX tabC tabT) (Zaa (v 2) (Zaa (c (.cls "BadPattern")) yaa))) (Zaa (on (bIsX tabC tabT) (Zaa (v 2) (Zaa (c (.cls "BadFloor")) yaa))) yaa)))))
  (sq (ifs (bOr (trb (o2 dNe (mLst cntD (v 4) (c (.bl true))) (c (.int 1)))) (bNot (trb (on (bIsX tabC tabT) (Zaa (v 2) (Zaa (c (.ty "ValueError")) yaa))))))
  (ret (mtp (Zaa (c (.str "other")) (Zaa (c (.int 0)) yaa))))
  nop)
  (sq (ifs (bNot (trb (o2 dIx (v 4) (c (.int 0)))))
  (ret (mtp (Zaa (o2 dIx (mls (Zaa (c (.str "row")) (Zaa (c (.str "triangle")) (Zaa (c (.str "thing")) (Zaa (c (.str "pattern")) (Zaa (c (.str "floor")) yaa)))))) (mLst idxD (v 4) (c (.bl true)))) (Zaa (c (.int 0)) yaa))))
  nop)
  (sq (ifs (trb (on bIsi (Zaa (o1 (dAtC ["NoRow"]) (v 2)) (Zaa (c (.ty "bool")) yaa))))
  (ret (mtp (Zaa (c (.str "other")) (Zaa (c (.int 0)) yaa))))
  nop)
  (ret (mtp (Zaa (c (.str "row")) (Zaa (o1 (dAtC ["NoRow"]) (v 2)) yaa)))))))))))
def Zar:List D->Res D:=fn 3
  (sq (ifs (bAnd (trb (o2 dGe (v 0) (o2 dShl (c (.int 1)) (c (.int 90))))) (bAnd (trb (o2 dEq (o2 ybY (v 0) (c (.int 2))) (c (.int 1)))) (trb (o2 dGt (o2 dShr (v 0) (o2 yac (c (.int 1)) (o2 ydk (c (.int 31)) (v 1)))) (c (.int 0))))))
  (ret (o2 ybY (o2 dShr (v 0) (o2 yac (c (.int 1)) (o2 ydk (c (.int 31)) (v 1)))) (c (.int 2147483648))))
  nop)
  (sq (st 2 (o2 ybY (o2 ydk (o2 yac (o2 yac (v 0) (o2 ydk (c (.int 7919)) (v 1))) (c (.int 1))) (c (.int 48271))) (c (.int 2147483647))))
  (sq (st 2 (o2 ybY (o2 ydk (v 2) (o2 yac (o2 ydd (v 2) (c (.int 1009))) (c (.int 69621)))) (c (.int 2147483647))))
  (ret (o2 ybY (o2 ydk (v 2) (o2 yac (o2 yac (o2 ydd (v 2) (c (.int 2003))) (c (.int 39373))) (v 1))) (c (.int 2147483629)))))))
def ZaG:List D->Res D:=fn 5
  (sq (st 1 (c (.str " / 0 0 4 1 / 8 0 4 1 / 0 8 4 1")))
  (sq (st 2 (cutT (v 1) (pso (c (.int 10))) pno))
  (sq (st 3 (mls (Zaa (o2 yac (c (.str "plain 1/2")) (v 2)) (Zaa (o2 yac (o2 yac (c (.str "plain 1/2")) (v 1)) (cutT (v 1) pno (pso (c (.int 10))))) (Zaa (o2 yac (c (.str "plain")) (v 1)) (Zaa (o2 yac (c (.str "plain 1 2")) (v 1)) (Zaa (c (.str "")) yaa)))))))
  (sq (st 3 (o2 yac (v 3) (mls (Zaa (o2 yac (c (.str "glass 1")) (v 1)) (Zaa (o2 yac (c (.str "glass 1 1/2 1")) (v 1)) (Zaa (o2 yac (c (.str "shaded 1")) (v 1)) (Zaa (o2 yac (c (.str "shine 1")) (v 1)) yaa)))))))
  (sq (st 3 (o2 yac (v 3) (mls (Zaa (o2 yac (c (.str "Plain 1")) (v 1)) (Zaa (o2 yac (c (.str "plain 2/4")) (v 1)) (Zaa (o2 yac (c (.str "plain 1 / 0 0 4")) (v 2)) (Zaa (o2 yac (c (.str "plain 1 / 0 0 4 1 1 x")) (v 2)) yaa)))))))
  (sq (st 3 (o2 yac (v 3) (mls (Zaa (o2 yac (c (.str "plain 1 ")) (v 1)) (Zaa (o2 yac (o2 yac (c (.str "plain 1")) (v 1)) (c (.str " "))) (Zaa (o2 yac (c (.str "plain 1 /0 0 4 1")) (v 2)) (Zaa (o2 yac (c (.str "patterned 1,,2")) (v 1)) yaa)))))))
  (sq (st 3 (o2 yac (v 3) (mls (Zaa (o2 yac (c (.str "patterned 1;")) (v 1)) (Zaa (o2 yac (c (.str "plain 1 / 00 0 4 1")) (v 2)) (Zaa (o2 yac (c (.str "plain 1 / x 0 4 1")) (v 2)) yaa))))))
  (sq (st 4 (o2 ZkX (c (.str "1")) (c (.int 31))))
  (sq (st 3 (o2 yac (v 3) (mls (Zaa (o2 yac (o2 yac (c (.str "plain ")) (v 4)) (v 1)) (Zaa (o2 yac (o2 yac (o2 yac (c (.str "plain 1 / 0 ")) (v 4)) (c (.str " 4 1"))) (v 2)) (Zaa (o2 yac (o2 yac (o2 yac (c (.str "patterned ")) (v 4)) (c (.str ",1"))) (v 1)) yaa))))))
  (sq (st 3 (o2 yac (v 3) (mls (Zaa (o2 yac (o2 yac (c (.str "glass 1 1/")) (v 4)) (v 1)) (Zaa (o2 yac (o2 yac (c (.str "plain 1/")) (v 4)) (v 1)) (Zaa (o2 yac (o2 yac (c (.str "shaded / 0 0 4 1 ")) (v 4)) (v 2)) yaa))))))
  (ret (o2 dIx (v 3) (o2 ybY (v 0) (c (.int 26)))))))))))))))
def ZaD:List D->Res D:=fn 4
  (sq (st 1 (c (.str " / 0 0 4 1 1 2 / 8 0 4 1 3 4 / 0 8 4 1 5 6")))
  (sq (st 2 (c (.str " / 8 0 4 1 / 0 8 4 1")))
  (sq (stO 3 (mls (Zaa (mtp (Zaa (o2 yac (c (.str "plain 1 / 0 0 0 1")) (v 2)) (Zaa (c (.str "triangle")) yaa))) (Zaa (mtp (Zaa (o2 yac (c (.str "plain 1 / 0 0 -4 1")) (v 2)) (Zaa (c (.str "triangle")) yaa))) yaa))))
  (sq (frz 3 (stO 3 (o2 yac (v 3) (mls (Zaa (mtp (Zaa (o2 yac (c (.str "plain 1 / 0 0 4 0")) (v 2)) (Zaa (c (.str "triangle")) yaa))) (Zaa (mtp (Zaa (o2 yac (c (.str "shaded / 0 0 4 1")) (v 2)) (Zaa (c (.str "thing")) yaa))) yaa))))))
  (sq (frz 3 (stO 3 (o2 yac (v 3) (mls (Zaa (mtp (Zaa (o2 yac (c (.str "plain 1 / 0 0 4 1 5")) (v 2)) (Zaa (c (.str "triangle")) yaa))) (Zaa (mtp (Zaa (o2 yac (c (.str "glass 1 3/2")) (v 1)) (Zaa (c (.str "thing")) yaa))) yaa))))))
  (sq (frz 3 (stO 3 (o2 yac (v 3) (mls (Zaa (mtp (Zaa (o2 yac (c (.str "glass 1 -1/2")) (v 1)) (Zaa (c (.str "thing")) yaa))) (Zaa (mtp (Zaa (o2 yac (c (.str "patterned 1,2,3")) (v 1)) (Zaa (c (.str "pattern")) yaa))) yaa))))))
  (sq (frz 3 (stO 3 (o2 yac (v 3) (mls (Zaa (mtp (Zaa (o2 yac (c (.str "patterned 1;2;3")) (v 1)) (Zaa (c (.str "pattern")) yaa))) (Zaa (mtp (Zaa (o2 yac (c (.str "patterned 1,2;3")) (v 1)) (Zaa (c (.str "pattern")) yaa))) yaa))))))
  (sq (app 3 (mtp (Zaa (c (.str "patterned 1,2 / 0 0 4 1 1 / 8 0 4 1 3 / 0 8 4 1 5")) (Zaa (c (.str "thing")) yaa))))
  (sq (app 3 (mtp (Zaa (c (.str "plain 1 / 0 0 4 1 1 1 1 1 / 8 0 4 1 1 1 1 1 / 0 8 4 1 1 1 1 1")) (Zaa (c (.str "triangle")) yaa))))
  (frz 3 (ret (o2 dIx (v 3) (o2 ybY (v 0) (c (.int 12)))))))))))))))
def ZaX:List D->Res D:=fn 2
  (sq (stO 1 (mls (Zaa (c (.str "plain 1/2 / 0 0 4 1 / 8 0 4 1 / 0 8 4 1")) (Zaa (c (.str "shaded / 0 0 4 1 5 / 8 0 4 1 -6 / 0 8 4 2 7")) yaa))))
  (sq (app 1 (c (.str "patterned 1,0;1/2,-3 / 0 0 4 1 5 6 / 8 0 4 1 -6 0 / 0 8 4 2 7 9")))
  (sq (app 1 (c (.str "glass 3 1/4 / 0 0 4 1 / 8 0 4 1 / 0 8 4 1")))
  (frz 1 (ret (comp (r1 (Zaa (o2 ybY (on Zar (Zaa (v 0) (Zaa (c (.int 9)) yaa))) (c (.int 5))) yaa)) 1 [1,0] (gN 0) yes (o2 dIx (v 1) (o2 ybY (on Zar (Zaa (v 2) (Zaa (o2 yac (c (.int 10)) (v 0)) yaa))) (c (.int 4))))))))))
def ZbW:List D->Res D:=fn 2
  (sq (stO 1 (mls (Zaa (o2 yac (o2 yac (o2 yac (c (.str "floor ")) (on bStr (Zaa (o2 yac (c (.int 1)) (o2 ybY (on Zar (Zaa (v 0) (Zaa (c (.int 1)) yaa))) (c (.int 64)))) yaa))) (c (.str " "))) (on bStr (Zaa (o2 yac (c (.int 1)) (o2 ybY (on Zar (Zaa (v 0) (Zaa (c (.int 2)) yaa))) (c (.int 64)))) yaa))) yaa)))
  (sq (app 1 (o2 yac (c (.str "ground ")) (o2 dIx (mls (Zaa (c (.str "0")) (Zaa (c (.str "-3")) (Zaa (c (.str "1/2")) (Zaa (c (.str "-7/9")) yaa))))) (o2 ybY (on Zar (Zaa (v 0) (Zaa (c (.int 3)) yaa))) (c (.int 4))))))
  (sq (app 1 (o2 yac (c (.str "spots ")) (o2 dIx (mls (Zaa (c (.str "4,4")) (Zaa (c (.str "1,1 7,7")) (Zaa (c (.str "2,2 6,2 2,6 6,6")) yaa)))) (o2 ybY (on Zar (Zaa (v 0) (Zaa (c (.int 4)) yaa))) (c (.int 3))))))
  (frz 1 (ret (o2 yac (v 1) (on ZaX (Zaa (v 0) yaa))))))))
def Zbs:List D->Res D:=fn 4
  (sq (ifs (trb (o2 dEq (v 0) (c (.int 0))))
  (sq (st 2 (mls (Zaa (c (.str "floor 0 5")) (Zaa (c (.str "floor 65 5")) (Zaa (c (.str "floor 5")) (Zaa (c (.str "floor 5 5 5")) (Zaa (c (.str "floor 05 5")) (Zaa (c (.str "floor 5  5")) (Zaa (c (.str "Floor 5 5")) (Zaa (c (.str "")) yaa))))))))))
  (ret (o2 dIx (o2 yac (v 2) (mls (Zaa (c (.str "floor -1 5")) (Zaa (c (.str "floor 5 5 ")) (Zaa (c (.str "floor 1/2 5")) (Zaa (c (.str "ground 0")) yaa)))))) (o2 ybY (v 1) (c (.int 12))))))
  nop)
  (sq (ifs (trb (o2 dEq (v 0) (c (.int 1))))
  (sq (st 2 (mls (Zaa (c (.str "ground")) (Zaa (c (.str "ground 2/4")) (Zaa (c (.str "ground 1/0")) (Zaa (c (.str "ground 1/1")) (Zaa (c (.str "ground 1/-2")) (Zaa (c (.str "ground 1 2")) (Zaa (c (.str "ground 0/3")) yaa)))))))))
  (ret (o2 dIx (o2 yac (v 2) (mls (Zaa (c (.str "ground x")) (Zaa (c (.str "ground -0")) (Zaa (c (.str "ground 1/2/3")) (Zaa (c (.str "ground +1")) (Zaa (o2 yac (c (.str "ground ")) (o2 ZkX (c (.str "1")) (c (.int 31)))) yaa))))))) (o2 ybY (v 1) (c (.int 12))))))
  nop)
  (sq (st 2 (mls (Zaa (c (.str "spots")) (Zaa (c (.str "spots 0,4")) (Zaa (c (.str "spots 8,4")) (Zaa (c (.str "spots 4")) (Zaa (c (.str "spots 4,4 4,4")) (Zaa (c (.str "spots 4,4,4")) (Zaa (c (.str "spots 4, 4")) (Zaa (c (.str "spots 4.4")) yaa))))))))))
  (sq (st 3 (sD Zd9 (c (.str " ")) (comp (r1 (Zaa (c (.int 17)) yaa)) 1 [] (gN 0) yes (o2 yac (o2 yac (on bStr (Zaa (o2 yac (c (.int 1)) (o2 ybY (v 0) (c (.int 7)))) yaa)) (c (.str ","))) (on bStr (Zaa (o2 yac (c (.int 1)) (o2 ydd (v 0) (c (.int 7)))) yaa))))))
  (ret (o2 dIx (o2 yac (v 2) (mls (Zaa (c (.str "spots 4,4 ")) (Zaa (c (.str "spot 4,4")) (Zaa (o2 yac (c (.str "spots ")) (v 3)) (Zaa (c (.str "spots 4,04")) yaa)))))) (o2 ybY (v 1) (c (.int 12)))))))))
def ZaI:List D->Res D:=fn 6
  (sq (asg (gU 2 (gs1 (gN 3) (gs1 (gN 4) gs0))) (o2 dIx (mls (Zaa (mtp (Zaa (c (.int 0)) (Zaa (c (.int 1)) yaa))) (Zaa (mtp (Zaa (c (.int 0)) (Zaa (c (.int 2)) yaa))) (Zaa (mtp (Zaa (c (.int 1)) (Zaa (c (.int 2)) yaa))) yaa)))) (v 2)))
  (sq (stO 5 (on bLst (Zaa (v 0) yaa)))
  (sq (ifs (trb (o2 dEq (v 1) (c (.int 9))))
  (ret (mtp (Zaa (o2 yac (v 0) (mls (Zaa (o2 dIx (v 0) (v 2)) yaa))) (Zaa (on bLen (Zaa (v 0) yaa)) yaa))))
  nop)
  (sq (ifs (bAnd (trb (o2 dEq (v 1) (c (.int 10)))) (trb (o2 dGt (on bLen (Zaa (v 0) yaa)) (c (.int 3)))))
  (ret (mtp (Zaa (o2 yac (o2 yac (o2 yac (cut (v 0) pno (pso (v 2))) (mls (Zaa (o2 dIx (v 0) (c (.int 3))) yaa))) (cut (v 0) (pso (v 2)) (pso (c (.int 3))))) (cut (v 0) (pso (c (.int 4))) pno)) (Zaa (v 2) yaa))))
  nop)
  (sq (ifs (trb (o2 dEq (v 1) (c (.int 11))))
  (ret (mtp (Zaa (o2 yac (cut (v 0) (pso (c (.int 1))) pno) (cut (v 0) pno (pso (c (.int 1))))) (Zaa (c (.int 0)) yaa))))
  nop)
  (sq (seti 5 (v 3) (o2 dIx (v 0) (v 4)))
  (sq (seti 5 (v 4) (o2 dIx (v 0) (v 3)))
  (frz 5 (ret (mtp (Zaa (v 5) (Zaa (v 3) yaa))))))))))))
def Zbl:List D->Res D:=fn 5
  (sq (st 2 (o2 ybY (v 1) (c (.int 12))))
  (sq (st 3 (o2 ybY (o2 ydd (v 1) (c (.int 12))) (c (.int 3))))
  (sq (ifs (trb (o2 dGt (v 2) (c (.int 7))))
  (ret (on ZaI (Zaa (v 0) (Zaa (v 2) (Zaa (v 3) yaa)))))
  nop)
  (sq (ifs (trb (o2 dEq (v 2) (c (.int 0))))
  (ret (mtp (Zaa (o2 yac (cut (v 0) pno (pso (v 3))) (cut (v 0) (pso (o2 yac (v 3) (c (.int 1)))) pno)) (Zaa (v 3) yaa))))
  nop)
  (sq (ifs (trb (o2 dEq (v 2) (c (.int 1))))
  (ret (mtp (Zaa (o2 yac (cut (v 0) pno (pso (o2 yac (v 3) (c (.int 1))))) (cut (v 0) (pso (v 3)) pno)) (Zaa (o2 yac (v 3) (c (.int 1))) yaa))))
  nop)
  (sq (stO 4 (on bLst (Zaa (v 0) yaa)))
  (sq (ifs (bOr (trb (o2 dLt (v 2) (c (.int 4)))) (trb (o2 dEq (on bLen (Zaa (v 0) yaa)) (c (.int 3)))))
  (seti 4 (v 3) (on Zbs (Zaa (v 3) (Zaa (o2 ydd (v 1) (c (.int 36))) yaa))))
  (sq (st 3 (o2 yac (c (.int 3)) (o2 ybY (o2 ydd (v 1) (c (.int 12))) (o2 dSub (on bLen (Zaa (v 0) yaa)) (c (.int 3))))))
  (seti 4 (v 3) (o2 dIx (mls (Zaa (on ZaG (Zaa (o2 ydd (v 1) (c (.int 96))) yaa)) (Zaa (o2 dIx (on ZaD (Zaa (o2 ydd (v 1) (c (.int 96))) yaa)) (c (.int 0))) yaa))) (o2 ybY (v 2) (c (.int 2)))))))
  (sq (ifs (bAnd (trb (o2 dEq (v 2) (c (.int 2)))) (trb (o2 dGt (on bLen (Zaa (v 0) yaa)) (c (.int 3)))))
  (seti 4 (o1 dNeg (c (.int 1))) (c (.str "shine")))
  nop)
  (frz 4 (ret (mtp (Zaa (v 4) (Zaa (v 3) yaa)))))))))))))
def Zam:List D->Res D:=fn 3
  (sq (stO 1 (mls yaa))
  (sq (st 2 (on bAbs (Zaa (v 0) yaa)))
  (sq (whl fuel (trb (o2 dGe (v 2) (o2 dPow (c (.int 10)) (c (.int 60)))))
  badS)
  (sq (app 1 (on bStr (Zaa (v 2) yaa)))
  (sq (ifs (trb (o2 dLt (v 0) (c (.int 0))))
  (app 1 (c (.str "-")))
  nop)
  (ret (joinRev "" 1)))))))
def Zau:List D->Res D:=fn 1
  (sq (ifs (trb (o2 dEq (o2 dIx (v 0) (c (.int 1))) (c (.int 1))))
  (ret (on Zam (Zaa (o2 dIx (v 0) (c (.int 0))) yaa)))
  nop)
  (ret (o2 yac (o2 yac (on Zam (Zaa (o2 dIx (v 0) (c (.int 0))) yaa)) (c (.str "/"))) (on Zam (Zaa (o2 dIx (v 0) (c (.int 1))) yaa)))))
def ZbN:List D->Res D:=fn 1
  (ret (o2 yac (o2 yac (on Zam (Zaa (o2 dIx (v 0) (c (.int 0))) yaa)) (c (.str ","))) (on Zam (Zaa (o2 dIx (v 0) (c (.int 1))) yaa))))
def Zdf:List D->Res D:=fn 1
  (ret (o2 yac (on bLst (Zaa (cut (v 0) pno (pso (c (.int 4)))) yaa)) (on bLst (Zaa (o2 dIx (v 0) (c (.int 4))) yaa))))
def ZcN:List D->Res D:=fn 1
  (ret (sD Zd9 (c (.str " ")) (o2 yac (mls (Zaa (c (.str "/")) yaa)) (comp (iv (on Zdf (Zaa (v 0) yaa))) 1 [] (gN 0) yes (on Zam (Zaa (v 0) yaa))))))
def ZeG:List D->Res D:=fn 1
  (ret (c (.str "glass")))
def Zcn:List D->Res D:=fn 1
  (ret (c (.str "patterned")))
def ZeA:List D->Res D:=fn 1
  (ret (c (.str "plain")))
def ZdZ:List D->Res D:=fn 1
  (ret (c (.str "shaded")))
def Zg8:List (Str×(List D->Res D)):=[("Plain", ZeA),("Shaded", ZdZ),("Patterned", Zcn),("Glass", ZeG)]
def Zca:List D->Res D:=fn 1
  (ret (sD Zd9 (c (.str ";")) (comp (iv (v 0)) 1 [] (gN 0) yes (sD Zd9 (c (.str ",")) (comp (iv (v 0)) 1 [] (gN 0) yes (on Zau (Zaa (v 0) yaa)))))))
def Zdo:List D->Res D:=fn 2
  (sq (st 1 (meth Zg8 "word" (v 0) yaa))
  (sq (ifs (trb (o2 dEq (v 1) (c (.str "plain"))))
  (ret (mls (Zaa (v 1) (Zaa (on Zau (Zaa (o1 (dFld objs "colour") (v 0)) yaa)) yaa))))
  nop)
  (sq (ifs (trb (o2 dEq (v 1) (c (.str "patterned"))))
  (ret (mls (Zaa (v 1) (Zaa (on Zca (Zaa (o1 (dFld objs "pattern") (v 0)) yaa)) yaa))))
  nop)
  (sq (ifs (trb (o2 dEq (v 1) (c (.str "glass"))))
  (ret (mls (Zaa (v 1) (Zaa (on Zau (Zaa (o1 (dFld objs "colour") (v 0)) yaa)) (Zaa (on Zau (Zaa (o1 (dFld objs "part") (v 0)) yaa)) yaa)))))
  nop)
  (ret (mls (Zaa (v 1) yaa)))))))
def ZbB:List D->Res D:=fn 1
  (ret (sD Zd9 (c (.str " ")) (o2 yac (on Zdo (Zaa (v 0) yaa)) (comp (iv (o1 (dFld objs "triangle") (v 0))) 1 [] (gN 0) yes (on ZcN (Zaa (v 0) yaa))))))
def ZbC:List D->Res D:=fn 2
  (sq (st 1 (mls (Zaa (sD Zd9 (c (.str " ")) (mls (Zaa (c (.str "floor")) (Zaa (on Zam (Zaa (o2 dIx (v 0) (c (.int 0))) yaa)) (Zaa (on Zam (Zaa (o2 dIx (v 0) (c (.int 1))) yaa)) yaa))))) (Zaa (sD Zd9 (c (.str " ")) (mls (Zaa (c (.str "ground")) (Zaa (on Zau (Zaa (o2 dIx (v 0) (c (.int 2))) yaa)) yaa)))) (Zaa (sD Zd9 (c (.str " ")) (o2 yac (mls (Zaa (c (.str "spots")) yaa)) (comp (iv (o2 dIx (v 0) (c (.int 3)))) 1 [] (gN 0) yes (on ZbN (Zaa (v 0) yaa))))) yaa)))))
  (ret (sD Zd9 (c (.str "\n")) (o2 yac (v 1) (comp (iv (o2 dIx (v 0) (c (.int 4)))) 1 [] (gN 0) yes (on ZbB (Zaa (v 0) yaa)))))))
def Zo5:List D->Res D:=fn 8
  (sq (for_ (iv (o2 yac (mls (Zaa (c (.int 0)) (Zaa (c (.int 1)) (Zaa (c (.int 2)) yaa)))) (cut (v 0) pno (pso (c (.int 16)))))) (gN 1)
  (sq (st 2 (on ZbW (Zaa (v 1) yaa)))
  (sq (ifs (trb (o2 dNe (on ZbC (Zaa (on ZaP (Zaa (sD Zd9 (c (.str "\n")) (v 2)) yaa)) yaa)) (sD Zd9 (c (.str "\n")) (v 2))))
  (ret (c (.bl false)))
  nop)
  (sq (asg (gU 2 (gs1 (gN 3) (gs1 (gN 4) gs0))) (on Zbl (Zaa (v 2) (Zaa (on Zar (Zaa (v 1) (Zaa (c (.int 20)) yaa))) yaa))))
  (sq (ifs (trb (o2 dNe (on Zao (Zaa (c (.str "scene")) (Zaa (sD Zd9 (c (.str "\n")) (v 3)) yaa))) (mtp (Zaa (c (.str "row")) (Zaa (v 4) yaa)))))
  (ret (c (.bl false)))
  nop)
  (sq (ifs (trb (o2 dNe (on Zao (Zaa (c (.str "scene")) (Zaa (sD Zd9 (c (.str "\n")) (o2 yac (v 2) (mls (Zaa (c (.str "")) yaa)))) yaa))) (mtp (Zaa (c (.str "row")) (Zaa (on bLen (Zaa (v 2) yaa)) yaa)))))
  (ret (c (.bl false)))
  nop)
  (sq (ifs (trb (o2 dNe (on Zao (Zaa (c (.str "thing")) (Zaa (o2 yac (o2 dIx (o2 yac (o2 yac (v 2) (on ZaX (Zaa (v 1) yaa))) (mls (Zaa (c (.str "plain 1")) yaa))) (c (.int 3))) (c (.str "\n"))) yaa))) (mtp (Zaa (c (.str "row")) (Zaa (c (.int 0)) yaa)))))
  (ret (c (.bl false)))
  nop)
  (sq (ifs (trb (o2 dNe (on Zao (Zaa (c (.str "thing")) (Zaa (on ZaG (Zaa (on Zar (Zaa (v 1) (Zaa (c (.int 21)) yaa))) yaa)) yaa))) (mtp (Zaa (c (.str "row")) (Zaa (c (.int 0)) yaa)))))
  (ret (c (.bl false)))
  nop)
  (sq (asg (gU 2 (gs1 (gN 5) (gs1 (gN 6) gs0))) (on ZaD (Zaa (on Zar (Zaa (v 1) (Zaa (c (.int 22)) yaa))) yaa)))
  (ifs (trb (o2 dNe (on Zao (Zaa (c (.str "thing")) (Zaa (v 5) yaa))) (mtp (Zaa (v 6) (Zaa (c (.int 0)) yaa)))))
  (ret (c (.bl false)))
  nop))))))))))
  (sq (st 7 (o2 dIx (mls (Zaa (c .non) (Zaa (c (.int 7)) (Zaa (mls (Zaa (c (.str "floor 1 1")) yaa)) yaa)))) (o2 ybY (on bLen (Zaa (v 0) yaa)) (c (.int 3)))))
  (ret (eAnd (o2 dEq (on Zao (Zaa (c (.str "scene")) (Zaa (v 7) yaa))) (mtp (Zaa (c (.str "row")) (Zaa (c (.int 0)) yaa)))) (o2 dEq (on Zao (Zaa (c (.str "thing")) (Zaa (v 7) yaa))) (mtp (Zaa (c (.str "row")) (Zaa (c (.int 0)) yaa))))))))
def ZcA{Φ:D->Prop}{cc k:Int}(hk:0<=k/\k<=4000)(h:∀r:Int,0<=r/\r<2147483648->Φ (.int r)):Tl (Zar [.int cc,.int k]) Φ:=by
 unfold Zar;walk_at "w";refine ZdT (λ_=>?_) (λ_=>?_)
 ·walk_at "w";refine ZdT (λ_=>?_) (λ_=>?_)
  ·walk_at "w";refine ZdT (λ_=>?_) (λ_=>?_)
   ·walk_at "w";exact h _ (by omega)
   ·walk_at "w";exact h _ (by omega)
  ·walk_at "w";exact h _ (by omega)
 ·walk_at "w";exact h _ (by omega)
def D10(m:Nat):List Nat:=(Nat.toDigits 10 m).map Char.toNat
def tI(n:Int):List Nat:=if n<0 then 45::D10 n.natAbs else D10 n.natAbs
def ZpI(a b:String):Str.ofString (a++b)=Str.ofString a++Str.ofString b:=by
 rw [<-Zbb (Str.ofString a++Str.ofString b),ZgY,<-Zbb (Str.ofString (a++b))];refine Vaz mkS ?_;show (Str.ofString (a++b)).cps.toList=(Str.ofString a).cps.toList++(Str.ofString b).cps.toList;rw [Vcc,Vcc,Vcc,String.toList_append,VbW]
def ZiV(m:Nat):Str.ofString (toString (m:Int))=mkS (D10 m):=by
 rw [<-Zbb (Str.ofString _)];exact Vaz mkS (W.KIN.signs_num m)
def Zs6(n:Int):Str.ofString (toString n)=mkS (tI n):=by
 unfold tI;split
 ·next h =>
  rw [PyProof.Rows.toString_neg h,ZpI,show (0:Int) - n=(n.natAbs:Int) by omega,ZiV,show Str.ofString "-"=mkS [45] by decide +kernel,Zl4];rfl
 ·next h =>
  have e:n=(n.natAbs:Int):=by omega
  rw [e,ZiV];rfl
def ZlM{m c:Nat}(h:c∈D10 m):48<=c/\c<=57:=by
 obtain ⟨ch,hch,e⟩:=Vby.mp h;rw [<-e];exact PyProof.Rows.digit_range (Nat.isDigit_of_mem_toDigits (by decide) (by decide) hch)
def ZiG{m k:Nat}(hk:0<k)(h:m<10^k):(D10 m).length<=k:=by
 have:=PyProof.Rows.toString_length_le (v:=(m:Int)) (by omega) hk (by exact_mod_cast h);rw [ZiV,Zcd] at this;exact this
def ZgK{n:Int}{c:Nat}(h:c∈tI n):c=45\/(48<=c/\c<=57):=by
 unfold tI at h;split at h
 ·rcases Vaq.mp h with h | h
  ·exact .inl h
  ·exact .inr (ZlM h)
 ·exact .inr (ZlM h)
def Zjb{n:Int}{k:Nat}(hk:0<k)(h:n.natAbs<10^k):(tI n).length<=k+1:=by
 unfold tI;have:=ZiG hk h;split
 ·simpa using this
 ·omega
def Asc(l:List Nat):Prop:=∀c∈l,c<128
def Asc.app{a b:List Nat}(h:Asc a)(k:Asc b):Asc (a++b):=λc hc=>(Var.mp hc).elim (h c) (k c)
def Asc.pl{l:List Nat}(h:Asc l):(mkS l).cps.all (·<0x110000)=true:=by
 rw [Array.all_eq_true];intro i hi;have:(mkS l).cps[i]∈l:=by
  have hi':i<l.length:=by simpa [mkS] using hi
  have e:(mkS l).cps[i]=l[i]:=by simp [mkS]
  exact e▸VbZ hi'
 have:=h _ this;simp only [Vb6];omega
def ZhV(n:Int):Asc (tI n):=λc h=>by have:=ZgK h;omega
def ZkJ(a b:List Nat):(mkS a==mkS b)=decide (a=b):=by
 rw [Bool.eq_iff_iff,VaR,Vb6];exact ⟨Zqd,λh=>by rw [h]⟩
def Zmj{Φ:D->Prop}{a b:List Nat}(ha:Asc a)(hb:Asc b)(h:Φ (.bl (decide (a=b)))):Tl (dEq (.str (mkS a)) (.str (mkS b))) Φ:=by
 refine Zai (x:=.bl (decide (a=b))) ?_ h;unfold dEq;have e1:plain 50 (.str (mkS a))=true:=ha.pl;have e2:plain 50 (.str (mkS b))=true:=hb.pl;rw [e1,e2];show Res.ok (D.bl (mkS a==mkS b))=_;rw [ZkJ]
def ZmX{Φ:D->Prop}{a b:List Nat}(ha:Asc a)(hb:Asc b)(h:Φ (.bl (!decide (a=b)))):Tl (dNe (.str (mkS a)) (.str (mkS b))) Φ:=by
 refine Zai (x:=.bl (!decide (a=b))) ?_ h;unfold dNe;have e1:plain 50 (.str (mkS a))=true:=ha.pl;have e2:plain 50 (.str (mkS b))=true:=hb.pl;rw [e1,e2];show Res.ok (D.bl (!(mkS a==mkS b)))=_;rw [ZkJ]
def w_sD{Φ:D->Prop}{f:Str->D->Res D}{a b:ME}{ρ:Ev}(h:Tl (a ρ) λx=>∃z,x=.str z/\Tl (b ρ) λd=>Tl (f z d) Φ):Tl (sD f a b ρ) Φ:=by
 obtain ⟨x,e1,z,rfl,d,e2,q⟩:=h;unfold sD;rw [e1];show Tl ((b ρ).bind (f z)) Φ;rw [e2];exact q
def ZjT{Φ:D->Prop}{a b:List Nat}(h:Φ (.bl (a.take b.length==b))):Tl (ZfX (mkS a) (.str (mkS b))) Φ:=by
 refine Zai (x:=.bl (a.take b.length==b)) ?_ h;show Res.ok (D.bl ((cpL (mkS a)).take (cpL (mkS b)).length==cpL (mkS b)))=_;rw [Za1,Za1]
def Zfi{Φ:D->Prop}{a:List Nat}{c:Nat}(hl:a.length<=1000000)(h:Φ (.lst ((Zbq c a).map λl=>.str (mkS l)))):Tl (Zc4 (mkS a) (.str (mkS [c]))) Φ:=by
 refine Zai ?_ h;unfold Zc4;dsimp only;rw [Za1 [c]];dsimp only;rw [Zcd,if_pos (show _<=LIM from hl),Za1]
def ZiD:∀ls:List (List Nat),txts (ls.map λl=>D.str (mkS l))=some (ls.map mkS)
 | []=>rfl
 | l::r=>by
  show (txts (r.map λl=>D.str (mkS l))).map (mkS l::·)=_;rw [ZiD r];rfl
def totL(s:Nat)(ls:List (List Nat)):Nat:=(ls.map List.length).sum+ls.length*s
def Zqt(s:Nat)(ls:List (List Nat)):sumL s (ls.map mkS)=totL s ls:=by
 unfold sumL totL;rw [VbO,VaW];rw [show ls.map ((λx:Str=>x.length) ∘ mkS)=ls.map List.length from List.map_congr_left λl _=>Zcd l]
def Zj1{s:List Nat}{ls:List (List Nat)}(hl:totL s.length ls<=1000000):Zia (mkS s) (ls.map λl=>D.str (mkS l))=.ok (.str (mkS (ZaT s ls))):=by
 unfold Zia;rw [ZiD];dsimp only;rw [Zcd,Zqt,if_pos (show _<=LIM from hl),Za1,VbO];have:(cpL ∘ mkS)=id:=funext Za1;rw [this,List.map_id]
def ZdB{Φ:D->Prop}{s:List Nat}{ls:List (List Nat)}(hl:totL s.length ls<=1000000)(h:Φ (.str (mkS (ZaT s ls)))):Tl (Zd9 (mkS s) (.lst (ls.map λl=>.str (mkS l)))) Φ:=Zai (Zj1 hl) h
def ZjV{Φ:D->Prop}{a b:List Nat}(hl:a.length+b.length<=1000000)(h:Φ (.str (mkS (a++b)))):Tl (yac (.str (mkS a)) (.str (mkS b))) Φ:=by
 refine Zai ?_ h;show (if (mkS a).length+(mkS b).length<=LIM then Res.ok (D.str (mkS a++mkS b)) else .bad)=_
 rw [Zcd,Zcd,if_pos (show _<=LIM from hl),Zl4]
def Zsb{Φ:D->Prop}{a:List Nat}(hl:a.length<=1000000)(h:Φ (.int a.length)):Tl (Zms [.str (mkS a)]) Φ:=by
 refine Zai ?_ h;show (if (mkS a).length<=LIM then Res.ok (D.int (mkS a).length) else .bad)=_
 rw [Zcd,if_pos (show _<=LIM from hl)]
def w_inS{Φ:D->Prop}{c:Nat}{b:List Nat}(h:Φ (.bl (b.contains c))):Tl (dInT (.str (mkS [c])) (.str (mkS b))) Φ:=by
 refine Zai (x:=.bl (b.contains c)) ?_ h;unfold dInT;dsimp only;rw [Za1 [c]];dsimp only;rw [Za1]
def ZsA{Φ:D->Prop}{a:ME}{i:Int}{ρ:Ev}{l:List Nat}(ha:a ρ=.ok (.str (mkS l)))(hi:0<=i)(hl:l.length<=1000000)(h:Φ (.str (mkS (l.drop i.toNat)))):Tl (cutT a (pso (c (.int i))) pno ρ) Φ:=by
 refine Zai ?_ h;unfold cutT;rw [ha];show cutS (mkS l) (some i) none=_;unfold cutS;rw [Zcd,if_pos (show _<=LIM from hl)];dsimp only;rw [if_pos hi,Za1]
def ZlE{Φ:D->Prop}{n:Int}{k:Nat}(s:Sm k n)(hk:k<=1900)(h:Φ (.str (mkS (tI n)))):Tl (bStr [.int n]) Φ:=by
 refine Zai ?_ h;show (if n.natAbs.log2<1920 then Res.ok (D.str (Str.ofString (toString n))) else .bad)=_
 rw [if_pos (show n.natAbs.log2<1920 from Vad (Zrm (s.mono (show k<=1900 from hk)) (by decide)) (by decide)),Zs6]
def Zul{Φ:List D->Prop}{a:ME}{ρ:Ev}{l:List Nat}(ha:a ρ=.ok (.str (mkS l)))(hl:Asc l)(h:Φ (l.map λc=>.str (mkS [c]))):Tl (ivT a ρ) Φ:=by
 refine Zai ?_ h;unfold ivT;rw [ha];show (if (cpL (mkS l)).all (·<128)=true then Res.ok ((cpL (mkS l)).map λc=>D.str (mkS [c])) else .bad)=_
 rw [Za1,if_pos (Vbz.mpr λc hc=>by simpa using hl c hc)]
def lit0:Str.ofString ""=mkS []:=by decide +kernel
def litM:Str.ofString "-"=mkS [45]:=by decide +kernel
def litZ:Str.ofString "0"=mkS [48]:=by decide +kernel
def Zq3:Str.ofString "-0"=mkS [45,48]:=by decide +kernel
def litF:Str.ofString "0123456789"=mkS [48,49,50,51,52,53,54,55,56,57]:=by decide +kernel
def litS:Str.ofString "/"=mkS [47]:=by decide +kernel
def Zc2{l:List Nat}(h:l.all (·<128)=true):Asc l:=λc hc=>by simpa using Vbz.mp h c hc
def Zs3{Φ:D->Prop}{l:List Nat}{n:Int}(hl:l.length<=640)(e:intL l=some n)(h:Φ (.int n)):Tl (ZmG [.str (mkS l)]) Φ:=by
 refine Zai ?_ h;show (if (mkS l).length<=640 then ofO ((intL (cpL (mkS l))).map D.int) else .bad)=_
 rw [Zcd,if_pos hl,Za1,e];rfl
def Zh8{Φ:D->Prop}{s:List Nat}{ls:List (List Nat)}{j:Nat}{ρ:Ev}(e:ρ[j]?=some (.ow (ls.map λl=>D.str (mkS l))))(hl:totL s.length ls.reverse<=1000000)(h:Φ (.str (mkS (ZaT s ls.reverse)))):Tl (joinRev (mkS s) j ρ) Φ:=by
 refine Zai ?_ h;unfold joinRev;rw [e];show Zia (mkS s) ((ls.map λl=>D.str (mkS l)).reverse)=_;rw [<-Vb9];exact Zj1 hl
def ZkI{Φ:D->Prop}{n:Int}(h:n.natAbs<10^60)(q:Φ (.str (mkS (tI n)))):Tl (Zam [.int n]) Φ:=by
 unfold Zam;walk_at "w";refine w_wh (λρ=>ρ=[Cl.im (D.int n),Cl.ow [],Cl.im (D.int (n.natAbs:Int))]) (λ_=>0) rfl (by unfold fuel;omega) ?_;rintro ρ rfl;walk_at "w";have h0:((10:Int)^(60:Int).toNat<=(n.natAbs:Int))=False:=by
  rw [eq_iff_iff,iff_false,show ((10:Int)^(60:Int).toNat)=((10^60:Nat):Int) by decide];omega
 simp only [h0,decide_false];refine ⟨(λz=>nomatch z),λ_=>?_⟩;have sm:Sm 256 ((n.natAbs:Int)):=by
  unfold Sm;rw [Int.natAbs_natCast];exact Vbw h (by decide)
 walk_at "w";refine ZlE sm (by decide) ?_;have e:tI (n.natAbs:Int)=D10 n.natAbs:=by
  unfold tI;rw [if_neg (by omega),Int.natAbs_natCast]
 rw [e];walk_at "w";refine ⟨by simp,?_⟩;walk_at "w";have hlen:=ZiG (m:=n.natAbs) (by decide) h;refine ZdT (λhn=>?_) (λhn=>?_)
 ·walk_at "w";refine ⟨by simp,?_⟩;walk_at "w";rw [lit0,litM];refine Zh8 (ls:=[D10 n.natAbs,[45]]) rfl (by simp [totL];omega) ?_;walk_at "w";have:tI n=ZaT [] [D10 n.natAbs,[45]].reverse:=by unfold tI;rw [if_pos hn];rfl
  rw [<-this];exact q
 ·walk_at "w";rw [lit0];refine Zh8 (ls:=[D10 n.natAbs]) rfl (by simp [totL];omega) ?_;walk_at "w";have:tI n=ZaT [] [D10 n.natAbs].reverse:=by unfold tI;rw [if_neg hn];rfl
  rw [<-this];exact q
def toX{α:Type}:Option α->Res α
 | some a=>.ok a
 | none=>.ex (tagX 0 "NoRow")
def Zeq{α:Type}{r:Res α}{a:α}(h:Tl r λx=>x=a):r=.ok a:=by
 obtain ⟨x,e,rfl⟩:=h;exact e
def Zl9{α:Type}{c:Str}{a:MA}{ρ:Ev}{k:Nat}(h:a ρ=.ok [.int (k:Int)]):rsP c a ρ=.ex (tagX (2*k) c):=by
 unfold rsP;rw [h,Za0];unfold natD;dsimp only;rw [if_pos (by omega),Vcb];rfl
def ZhU:∀bs:List Bool,bools (bs.map .bl)=.ok bs
 | []=>rfl
 | b::r=>by
  show (bools (r.map .bl)).bind (λbs=>.ok (b::bs))=_;rw [ZhU r];rfl
def w_allB{Φ:D->Prop}{bs:List Bool}(h:Φ (.bl (bs.all id))):Tl (bAll [.lst (bs.map .bl)]) Φ:=by
 refine Zai ?_ h;show (bools (bs.map .bl)).bind (λbs=>Res.ok (D.bl (bs.all id)))=_;rw [ZhU];rfl
def Zrd(c:Nat):[48,49,50,51,52,53,54,55,56,57].contains c=digB c:=by
 rw [Bool.eq_iff_iff,List.contains_iff_mem,show [48,49,50,51,52,53,54,55,56,57]=List.range' 48 10 from rfl,List.mem_range'_1];unfold digB;rw [Vbm,Vb6,Vb6];omega
def okF(f:List Nat):Bool:=!(decide (f=[]))&&(decide (f.length<=30)&&((!(f.take 1==[48])||decide (f=[48]))&&f.all digB))
def Zo4(l:List Nat):(l.map digB).all id=l.all digB:=by
 rw [List.all_map];rfl
def ZrN{Φ:D->Prop}{a:ME}{ρ:Ev}{l:List Nat}(e:a ρ=.ok (.str (mkS l)))(ha:Asc l)(hl:l.length<=1000000)(q:Φ (.bl (l.all digB))):Tl (ivT a ρ) λxs=>xs.length<=1000000/\Tl (Zak (gN 0) yes (o2 dInT (v 0) (c (D.str (Str.ofString "0123456789")))) [Cl.no] xs) λys=>Tl (yaa ρ) λxs=>Tl (bAll (D.lst ys::xs)) Φ:=by
 refine Zul e ha ?_;refine ⟨by simp;omega,?_⟩;refine ZjR (enc:=λc=>D.str (mkS [c])) (λc=>.bl (digB c)) (λc hc=>?_) ?_
 ·walk_at "w";rw [litF];refine w_inS ?_;rw [Zrd]
 ·walk_at "w";rw [show l.map (λc=>D.bl (digB c))=(l.map digB).map .bl by rw [VbO];rfl];refine w_allB ?_;rw [Zo4];exact q
def Zi3{Φ:D->Prop}{l:List Nat}(ha:Asc l)(hl:l.length<=1000000)(q:Φ (.bl (okF l))):Tl (Zbf [.str (mkS l)]) Φ:=by
 unfold okF at q;unfold Zbf;walk_at "w";rw [lit0];refine Zmj ha (Zc2 rfl) ?_;by_cases h0:l=[]
 ·rw [Vbt h0] at q ⊢;walk_at "w";exact q
 rw [Vaa h0] at q ⊢;walk_at "w";refine Zsb hl ?_;walk_at "w";refine ZdT (λh1=>?_) (λh1=>?_)
 ·rw [Vaa (show ¬l.length<=30 by omega)] at q;walk_at "w";exact q
 rw [Vbt (show l.length<=30 by omega)] at q;walk_at "w";refine w_sD ?_;walk_at "w";refine ⟨_,rfl,?_⟩;walk_at "w";rw [litZ];refine ZjT ?_;have e:[48].length=1:=rfl;rw [e];cases hz:(List.take 1 l==[48]) with
 | false =>
  rw [hz] at q;walk_at "w";exact ZrN (l:=l) rfl ha hl (by walk_at "w"; exact q)
 | true =>
  rw [hz] at q;walk_at "w";refine ZmX ha (Zc2 rfl) ?_;by_cases h2:l=[48]
  ·rw [Vbt h2] at q ⊢;walk_at "w";exact ZrN (l:=l) rfl ha hl (by walk_at "w"; exact q)
  ·rw [Vaa h2] at q ⊢;walk_at "w";exact q
def figs(l:List Nat):List Nat:=if (l.take 1==[45])=true then l.drop 1 else l
def numL(l:List Nat):Option Int:=if okF (figs l)=true/\l≠[45,48] then intL l else none
def Zq8{f:List Nat}(h:okF f=true):f≠[]/\f.length<=30/\(f.take 1=[48]->f=[48])/\f.all digB=true:=by
 unfold okF at h;simp only [Vbm,Bool.not_eq_true',decide_eq_false_iff_not,Vb6,Bool.or_eq_true,Vab] at h;exact ⟨h.1,h.2.1,λe=>h.2.2.1.resolve_left λn=>n e,h.2.2.2⟩
def Zlb:∀(l:List Nat) (a:Nat),l.all digB=true->l.foldl (λa c=>a*10+(c - 48)) a<(a+1)*10^l.length
 | [],a,_=>by simp
 | c::r,a,h=>by
  rw [List.all_cons,Vbm] at h;have h1:48<=c/\c<=57:=by simpa [digB] using h.1
  have ih:=Zlb r (a*10+(c - 48)) h.2;rw [List.foldl_cons,VaT,Nat.pow_succ];refine Vad ih ?_;rw [Nat.mul_comm (10^r.length) 10,<-Nat.mul_assoc];exact Nat.mul_le_mul_right _ (by omega)
def Ziz{l:List Nat}(h:l.all digB=true)(hl:l.length<=30):digV l<10^30:=by
 have:=Zlb l 0 h;rw [Nat.zero_add,Nat.one_mul] at this;exact Vad this (Nat.pow_le_pow_right (by decide) hl)
def Zql{l:List Nat}(h:okF (figs l)=true):∃n,intL l=some n/\n.natAbs<10^30/\l.length<=31:=by
 obtain ⟨h0,h1,_,h3⟩:=Zq8 h;cases l with
 | nil=>exact absurd rfl h0
 | cons c r =>
  by_cases hc:c=45
  ·subst hc;have e:figs (45::r)=r:=rfl;rw [e] at h0 h1 h3;refine ⟨-(digV r:Int),?_,?_,by simpa using h1⟩
   ·unfold intL;dsimp only;rw [if_pos rfl];unfold figL;rw [if_pos ⟨h0,h3⟩];rfl
   ·have:=Ziz h3 h1;omega
  ·have e:figs (c::r)=c::r:=by
    unfold figs;rw [if_neg];simpa using hc
   rw [e] at h0 h1 h3;refine ⟨(digV (c::r):Int),?_,?_,by omega⟩
   ·unfold intL;dsimp only;rw [if_neg hc];unfold figL;rw [if_pos ⟨h0,h3⟩];rfl
   ·have:=Ziz h3 h1;omega
def Znf{l:List Nat}(h:Asc l):Asc (figs l):=by
 unfold figs;split
 ·exact λc hc=>h c (Vcd hc)
 ·exact h
def Zm1(l:List Nat):(figs l).length<=l.length:=by
 unfold figs;split
 ·rw [Vbj];omega
 ·exact VaL _
def Zr6{Φ:D->Prop}{l:List Nat}{ρ:Ev}(e:ρ[0]?=some (.im (.str (mkS l))))(hl:l.length<=1000000)(q:Φ (.str (mkS (l.drop 1)))):Tl (cutT (v 0) (pso (c (.int 1))) pno ρ) Φ:=ZsA (l:=l) (i:=1) (by unfold v;rw [e];rfl) (by decide) hl q
def ZmM{l:List Nat}(ha:Asc l)(hl:l.length<=1000000):Zap [.str (mkS l)]=toX ((numL l).map .int):=by
 have hf:=Znf ha;have hfl:(figs l).length<=1000000:=Vak (Zm1 l) hl;have first:∀{Ψ:Fl->Prop},Ψ (.nx [.im (.str (mkS l)),.im (.str (mkS (figs l)))])->Tl (st 1 (ife (trb (sD ZfX (v 0) (c (.str "-")))) (cutT (v 0) (pso (c (.int 1))) pno) (v 0)) (ev0 2 [.str (mkS l)])) Ψ:=by
  intro Ψ q;walk_at "w";refine w_sD ?_;walk_at "w";refine ⟨_,rfl,?_⟩;walk_at "w";rw [litM];refine ZjT ?_;walk_at "w";have e:[45].length=1:=rfl;rw [e];unfold figs at q;cases hz:(List.take 1 l==[45]) with
  | false =>
   rw [hz,if_neg VaG] at q;walk_at "w";exact q
  | true =>
   rw [hz,if_pos rfl] at q;rw [if_pos rfl];exact Zr6 rfl hl (by walk_at "w"; exact q)
 unfold Zap numL;by_cases h:okF (figs l)=true
 ·by_cases h2:l=[45,48]
  ·rw [if_neg λz=>z.2 h2];refine x_fn (Zex (first ?_))
   refine x_gx (Zfm (ZlN ?_));walk_at "w";refine Zi3 hf hfl ?_;rw [h];walk_at "w";rw [Zq3];refine Zmj ha (Zc2 rfl) ?_;rw [Vbt h2];walk_at "w";rw [if_pos rfl];exact Zl9 (α:=Fl) (k:=0) rfl
  ·rw [if_pos ⟨h,h2⟩];obtain ⟨n,e,hn,h31⟩:=Zql h;rw [e];refine Zeq (w_fn (w_sq (first ?_)))
   walk_at "w";refine Zi3 hf hfl ?_;rw [h];walk_at "w";rw [Zq3];refine Zmj ha (Zc2 rfl) ?_;rw [Vaa h2];walk_at "w";exact Zs3 (by omega) e (by walk_at "w")
 ·rw [if_neg λz=>h z.1];refine x_fn (Zex (first ?_))
  refine x_gx (Zfm (ZlN ?_));walk_at "w";refine Zi3 hf hfl ?_;rw [show okF (figs l)=false by simpa using h];walk_at "w";rw [if_pos rfl];exact Zl9 (α:=Fl) (k:=0) rfl
def rd:Nat->List D->Res D
 | 0=>ZaH
 | 1=>Zaw
 | 2=>ZaA
 | _=>Zat
def Znr:List Str:=["BadFloor", "BadPattern", "BadThing", "BadTriangle", "NoRow"]
def exB:Res D->Bool
 | .ex c=>Znr.contains (clsOf c)&&ZiK c
 | _=>false
def okB:Res D->Bool
 | .ok _=>true
 | _=>false
def ZnX{r:Res D}(h:okB r=true):∃d,r=.ok d:=by
 cases r with
 | ok d=>exact ⟨d,rfl⟩
 | ex c=>cases h
 | bad=>cases h
def lnB(t:List Nat):Bool:=decide (t.length<=120)&&(t.all λc=>decide (c<128)&&!(c==10))
structure Ln(t:List Nat):Prop where
 a:Asc t
 n:10∉t
 l:t.length<=120
def ZlX{t:List Nat}(h:lnB t=true):Ln t:=by
 unfold lnB at h;rw [Vbm,Vb6] at h;have h2:∀c∈t,c<128/\c≠10:=λc hc=>by simpa using Vbz.mp h.2 c hc
 exact ⟨λc hc=>(h2 c hc).1,λhc=>(h2 10 hc).2 rfl,h.1⟩
structure Row(j:Nat)(t:List Nat):Prop where
 ln:Ln t
 ok:okB (rd j [.str (mkS t)])=true
 ex:∀i,i<=3->i≠j->exB (rd i [.str (mkS t)])=true
def rowB(j:Nat)(t:List Nat):Bool:=lnB t&&([0,1,2,3].all λi=>if i=j then okB (rd i [.str (mkS t)]) else exB (rd i [.str (mkS t)]))
def ZlP{j:Nat}{t:List Nat}(hj:j<=3)(h:rowB j t=true):Row j t:=by
 unfold rowB at h;rw [Vbm] at h;have h2:=Vbz.mp h.2;have m:∀i,i<=3->i∈[0,1,2,3]:=by
  intro i hi;have:i=0\/i=1\/i=2\/i=3:=by omega
  rcases this with rfl | rfl | rfl | rfl<;>decide
 refine ⟨ZlX h.1,?_,λi hi hn=>?_⟩
 ·have:=h2 j (m j hj);rwa [if_pos rfl] at this
 ·have:=h2 i (m i hi);rwa [if_neg hn] at this
def gsL:List (List Nat):=(["0", "-3", "1/2", "-7/9"]:List Str).map λx=>cpL ("ground "++x)
def ssL:List (List Nat):=(["4,4", "1,1 7,7", "2,2 6,2 2,6 6,6"]:List Str).map λx=>cpL ("spots "++x)
def thL:List (List Nat):=(["plain 1/2 / 0 0 4 1 / 8 0 4 1 / 0 8 4 1", "shaded / 0 0 4 1 5 / 8 0 4 1 -6 / 0 8 4 2 7", "patterned 1,0;1/2,-3 / 0 0 4 1 5 6 / 8 0 4 1 -6 0 / 0 8 4 2 7 9", "glass 3 1/4 / 0 0 4 1 / 8 0 4 1 / 0 8 4 1"]:List Str).map cpL
def Zpi:(gsL.all (rowB 1))=true:=by decide +kernel
def ZqE:(ssL.all (rowB 2))=true:=by decide +kernel
def Zo3:(thL.all (rowB 3))=true:=by decide +kernel
def gsT(t:List Nat):Bool:=match Zaw [.str (mkS t)] with
 | .ok d=>(match Zau [d] with
  | .ok (.str w)=>ZaT [32] [cpL "ground", cpL w]==t
  | _=>false)
 | _=>false
def ZqF:(gsL.all gsT)=true:=by decide +kernel
def strL:D->Option (List Nat)
 | .str x=>some (cpL x)
 | _=>none
def wordsOf(f:List D->Res D):List D->Option (List (List Nat))
 | []=>some []
 | d::r=>match f [d] with
  | .ok y=>(strL y).bind λw=>(wordsOf f r).map (w::·)
  | _=>none
def ssT(t:List Nat):Bool:=match ZaA [.str (mkS t)] with
 | .ok (.lst ds)=>decide (ds.length<=16)&&(match wordsOf ZbN ds with
  | some ws=>decide (ws.length<=16)&&ZaT [32] (cpL "spots"::ws)==t
  | none=>false)
 | _=>false
def Zo9:(ssL.all ssT)=true:=by decide +kernel
def thT(t:List Nat):Bool:=match Zat [.str (mkS t)] with
 | .ok d=>(match ZbB [d] with
  | .ok (.str w)=>cpL w==t
  | _=>false)
 | _=>false
def ZoR:(thL.all thT)=true:=by decide +kernel
def fwL:List Nat:=[102,108,111,111,114]
def Zs7:Str.ofString "floor"=mkS fwL:=by decide +kernel
def Zsi:Str.ofString "floor "=mkS (fwL++[32]):=by decide +kernel
def Zpb:Str.ofString "ground"=mkS [103,114,111,117,110,100]:=by decide +kernel
def Zo2:Str.ofString "spots"=mkS [115,112,111,116,115]:=by decide +kernel
def litB:Str.ofString " "=mkS [32]:=by decide +kernel
def litN:Str.ofString "\n"=mkS [10]:=by decide +kernel
def flT(a b:Int):List Nat:=ZaT [32] [fwL,tI a,tI b]
def S(l:List Nat):D:=.str (mkS l)
def Zs0{a:ME}{ρ:Ev}{c:Str}(h:a ρ=.ex c):Dl.ret a ρ=.ex c:=ZcK h
def Zkp{i:Nat}{a:ME}{ρ:Ev}{c:Str}(h:a ρ=.ex c):st i a ρ=.ex c:=ZcK h
def x_on{f:List D->Res D}{m:MA}{ρ:Ev}{c:Str}(h:Tl (m ρ) λds=>f ds=.ex c):on f m ρ=.ex c:=ZlT h
def ZtJ{f:List D->Res D}{m:MA}{ρ:Ev}{c:Str}(h:m ρ=.ex c):on f m ρ=.ex c:=ZcK h
def Zup{a:ME}{m:MA}{ρ:Ev}{c:Str}(h:a ρ=.ex c):Zaa a m ρ=.ex c:=ZcK h
def x_o2{f:D->D->Res D}{a b:ME}{ρ:Ev}{c:Str}(h:a ρ=.ex c):o2 f a b ρ=.ex c:=ZcK h
def x_iv{a:ME}{ρ:Ev}{c:Str}(h:a ρ=.ex c):iv a ρ=.ex c:=ZcK h
def Zk0{Φ:D->Prop}{it:MI}{own:Nat}{cap:List Nat}{g:MG}{t:MB}{e:ME}{ρ:Ev}(h:Tl (it ρ) λxs=>xs.length<=1000000/\Tl (Zak g t e (noA own (yar ρ cap)) xs) λys=>Φ (.lst ys)):Tl (ZdQ it own cap g t e ρ) Φ:=by
 obtain ⟨xs,e1,hl,ys,e2,q⟩:=h;refine Zai ?_ q;unfold ZdQ;rw [e1];show (if xs.length<=LIM then (Zak g t e (noA own (yar ρ cap)) xs).bind (λys=>Res.ok (D.lst ys)) else .bad)=_
 rw [if_pos (show xs.length<=LIM from hl),e2];rfl
def x_cX{it:MI}{own:Nat}{cap:List Nat}{g:MG}{t:MB}{e:ME}{ρ:Ev}{c:Str}(h:it ρ=.ex c):ZdQ it own cap g t e ρ=.ex c:=ZcK h
def ZrG{n:Int}(h:1<=n/\n<=64):Zap [S (tI n)]=.ok (.int n):=by
 have hz:numL (tI n)=some n:=by
  have z:∀m:Nat,m<65->(m=0\/numL (tI (m:Int))=some (m:Int)):=by decide +kernel
  obtain ⟨m,rfl⟩ : ∃m:Nat,n=(m:Int):=⟨n.toNat,by omega⟩;exact (z m (by omega)).resolve_left (by omega)
 have hl:=Zjb (n:=n) (k:=2) (by decide) (by omega);show Zap [.str (mkS (tI n))]=_;rw [ZmM (ZhV n) (by omega),hz];rfl
def ZsG{a b:Int}:Asc (flT a b):=by
 intro c hc;have hc:c∈fwL++[32]++(tI a++[32]++tI b):=hc;simp only [Var] at hc;rcases hc with (hc | hc) | (hc | hc) | hc
 ·exact (by decide:∀c∈fwL,c<128) c hc
 ·rw [VbU.mp hc];decide
 ·exact ZhV a c hc
 ·rw [VbU.mp hc];decide
 ·exact ZhV b c hc
def ZtA{a b:Int}:10∉flT a b:=by
 intro hc;have hc:10∈fwL++[32]++(tI a++[32]++tI b):=hc;simp only [Var] at hc;rcases hc with (hc | hc) | (hc | hc) | hc
 ·revert hc;decide
 ·revert hc;decide
 ·have:=ZgK hc;omega
 ·revert hc;decide
 ·have:=ZgK hc;omega
def ZjJ{a b:Int}:Zbq 32 (flT a b)=[fwL,tI a,tI b]:=by
 refine ZcV (by simp) λw hw=>?_;simp only [Vaq,Vb1,or_false] at hw;rcases hw with rfl | rfl | rfl
 ·decide
 ·intro h;have:=ZgK h;omega
 ·intro h;have:=ZgK h;omega
section
variable{a b:Int}(ha:1<=a/\a<=64)(hb:1<=b/\b<=64)
include ha hb
def ZkY:(flT a b).length<=12:=by
 have h1:=Zjb (n:=a) (k:=2) (by decide) (by omega);have h2:=Zjb (n:=b) (k:=2) (by decide) (by omega);show (fwL++[32]++(tI a++[32]++tI b)).length<=12;have e:fwL.length=5:=rfl;simp only [Vbe,e,List.length_singleton];have z:∀{n:Int},1<=n/\n<=64->(tI n).length<=2:=by
  intro n hn;have:tI n=D10 n.natAbs:=by unfold tI;rw [if_neg (by omega)]
  rw [this];exact ZiG (by decide) (by omega)
 have:=z ha;have:=z hb;omega
def Zjh{h:List Nat}{Ψ:Fl->Prop}(q:Ψ (.nx [.im (S h),.im (S (flT a b)),.im (.lst [S fwL,S (tI a),S (tI b)])])):Tl (st 2 (sD Zc4 (v 1) (c (.str " "))) (ev0 3 [S h,S (flT a b)])) Ψ:=by
 have hl:=ZkY ha hb;unfold S at q ⊢;walk_at "w";refine w_sD ?_;walk_at "w";refine ⟨_,rfl,?_⟩;walk_at "w";rw [litB];refine Zfi (by omega) ?_;rw [ZjJ];exact q
def ZtB:ZaB [S fwL,S (flT a b)]=.ok (.lst [S (tI a),S (tI b)]):=by
 unfold ZaB;refine Zeq (w_fn (w_sq (Zjh ha hb (w_gx ?_))));unfold S;walk_at "w";refine ZmX (Zc2 rfl) (Zc2 rfl) ?_;rw [Vbt rfl];walk_at "w";rfl
def ZrT{h:List Nat}(hh:Asc h)(hn:h≠fwL):ZaB [S h,S (flT a b)]=.ex (tagX 0 "NoRow"):=by
 unfold ZaB;refine x_fn (Zex (Zjh ha hb (x_gx (Zfm (ZlN ?_)))));unfold S;walk_at "w";refine ZmX (Zc2 rfl) hh ?_;rw [Vaa λe=>hn e.symm];walk_at "w";exact Zl9 (α:=Fl) (k:=0) rfl
def ZsL:ZaH [S (flT a b)]=.ok (.lst [.int a,.int b]):=by
 have h1:Zas [S fwL,S (flT a b),.int 2]=.ok (.lst [S (tI a),S (tI b)]):=by
  unfold Zas;refine Zeq ?_;walk_at "w";refine Zai (ZtB ha hb) ?_;walk_at "w"
 have h2:ZaY [S fwL,S (flT a b),.int 2]=.ok (.lst [.int a,.int b]):=by
  unfold ZaY;refine Zeq (w_fn (Zrn (Zk0 ?_)));walk_at "w";refine Zai h1 ?_;walk_at "w";refine ⟨by simp,?_⟩;show Tl (Zak _ _ _ _ ([a,b].map λn=>S (tI n))) _;refine ZjR (λn:Int=>D.int n) (λn hn=>?_) ?_
  ·walk_at "w";refine Zai (ZrG ?_) rfl;simp only [Vaq,Vb1,or_false] at hn;rcases hn with rfl | rfl
   ·exact ha
   ·exact hb
  ·walk_at "w";rfl
 unfold ZaH;refine Zeq ?_;walk_at "w";rw [Zs7];refine Zai h2 ?_;walk_at "w";have hc:Zbh [.int a,.int b]=.ok .non:=by
  have z:∀{n:Int},1<=n/\n<=64->ZaQ [.int n,.int 1,.int 64]=.ok (.bl true):=by
   intro n hn;unfold ZaQ ZaS;refine Zeq ?_;walk_at "w";rw [Vbt (show n<=64 by omega)]
  unfold Zbh;refine Zeq ?_;walk_at "w";refine Zai (z ha) ?_;walk_at "w";refine Zai (z hb) ?_;walk_at "w"
 refine Zai hc ?_;walk_at "w"
def Ztr:Zaw [S (flT a b)]=.ex (tagX 0 "NoRow"):=by
 unfold Zaw;refine x_fn (Zs0 (ZtJ (Zup (x_o2 (x_on ?_)))));walk_at "w";unfold Zas;refine x_fn (Zfm (Zkp (x_on ?_)));walk_at "w";rw [Zpb];exact ZrT ha hb (Zc2 rfl) (by decide)
def Zty:ZaA [S (flT a b)]=.ex (tagX 0 "NoRow"):=by
 unfold ZaA;refine x_fn (Zfm (Zkp (x_cX (x_iv (x_on ?_)))));walk_at "w";rw [Zo2];exact ZrT ha hb (Zc2 rfl) (by decide)
def Ztk:Zat [S (flT a b)]=.ex (tagX 0 "NoRow"):=by
 have hl:=ZkY ha hb;have hg:ZbT [.lst [S fwL,S (tI a),S (tI b)]]=.ok (.lst [.lst [S fwL,S (tI a),S (tI b)]]):=by
  have nt:∀w:List Nat,Asc w->w≠[47]->trb (o2 dEq (v 2) (c (.str "/"))) [.im (.lst [S fwL,S (tI a),S (tI b)]),.no,.im (S w)]=.ok false:=by
   intro w hw hn;refine Zeq ?_;unfold S;walk_at "w";rw [litS];refine Zmj hw (Zc2 rfl) ?_;rw [Vaa hn];walk_at "w"
  have n47:∀n:Int,tI n≠[47]:=λn e=>by have:=ZgK (n:=n) (c:=47) (by rw [e];exact Van);omega
  unfold ZbT fn;show ((if (nOw [.im (.lst [S fwL,S (tI a),S (tI b)]),.no,.no]&&decide (1<3)&&decide (2<3)&&decide ([S fwL,S (tI a),S (tI b)].length<1000))=true then (ZdG 1 2 (trb (o2 dEq (v 2) (c (.str "/")))) [.im (.lst [S fwL,S (tI a),S (tI b)]),.no,.no] [S fwL,S (tI a),S (tI b)] [] []).bind λgs=>Res.ok (Fl.rt (D.lst (gs.map D.lst))) else .bad).bind endOf)=_
  rw [if_pos (by simp [nOw])];rw [ZdG];rw [show (([Cl.im (.lst [S fwL,S (tI a),S (tI b)]),.no,.no]:Ev).set 1 .no).set 2 (.im (S fwL))=[.im (.lst [S fwL,S (tI a),S (tI b)]),.no,.im (S fwL)] from rfl,nt fwL (Zc2 rfl) (by decide)];show ((ZdG 1 2 (trb (o2 dEq (v 2) (c (.str "/")))) [.im (.lst [S fwL,S (tI a),S (tI b)]),.no,.no] [S (tI a),S (tI b)] [] [S fwL]).bind _).bind endOf=_;rw [ZdG];rw [show (([Cl.im (.lst [S fwL,S (tI a),S (tI b)]),.no,.no]:Ev).set 1 .no).set 2 (.im (S (tI a)))=[.im (.lst [S fwL,S (tI a),S (tI b)]),.no,.im (S (tI a))] from rfl,nt (tI a) (ZhV a) (n47 a)];show ((ZdG 1 2 (trb (o2 dEq (v 2) (c (.str "/")))) [.im (.lst [S fwL,S (tI a),S (tI b)]),.no,.no] [S (tI b)] [] [S fwL,S (tI a)]).bind _).bind endOf=_;rw [ZdG];rw [show (([Cl.im (.lst [S fwL,S (tI a),S (tI b)]),.no,.no]:Ev).set 1 .no).set 2 (.im (S (tI b)))=[.im (.lst [S fwL,S (tI a),S (tI b)]),.no,.im (S (tI b))] from rfl,nt (tI b) (ZhV b) (n47 b)];rfl
 unfold Zat;refine x_fn (Zex ?_);refine Zm6 (w_on (Zhz (w_v rfl (Zjm ?_))));refine Zai (show ZaR [S (flT a b)]=.ok .non from rfl) (x_gx (Zex ?_));unfold S;walk_at "w";refine w_sD ?_;walk_at "w";refine ⟨_,rfl,?_⟩;walk_at "w";rw [litB];refine Zfi (by omega) ?_;rw [ZjJ];walk_at "w";refine Zai hg ?_;refine x_gx (Zfm (ZlN ?_));walk_at "w";exact Zl9 (α:=Fl) (k:=0) rfl
def Zsr:Row 0 (flT a b):=by
 have e0:exB (.ex (tagX 0 "NoRow"))=true:=by decide +kernel
 refine ⟨⟨ZsG,ZtA,by have:=ZkY ha hb;omega⟩,?_,λi hi hn=>?_⟩
 ·show okB (ZaH [S (flT a b)])=true;rw [ZsL ha hb];rfl
 ·have:i=1\/i=2\/i=3:=by omega
  rcases this with rfl | rfl | rfl
  ·show exB (Zaw [S (flT a b)])=true;rw [Ztr ha hb];exact e0
  ·show exB (ZaA [S (flT a b)])=true;rw [Zty ha hb];exact e0
  ·show exB (Zat [S (flT a b)])=true;rw [Ztk ha hb];exact e0
end
def nmR:Nat->Str
 | 0 => "read_floor"
 | 1 => "read_ground"
 | 2 => "read_spots"
 | _ => "read_thing"
def tabR:List (Str×(List D->Res D)):=[("read_floor", ZaH),("read_ground", Zaw),("read_spots", ZaA),("read_thing", Zat)]
def ZsO{i:Nat}(hi:i<=3):tabR.lookup (nmR i)=some (rd i):=by
 have:i=0\/i=1\/i=2\/i=3:=by omega
 rcases this with rfl | rfl | rfl | rfl<;>kernel_rfl
def ZoC(n:Nat):natD [.int (n:Int)]=.ok n:=by
 unfold natD;dsimp only;rw [if_pos (by omega),Vcb]
def ZsF{r:Res D}(h:exB r=true):∃c,r=.ex c/\(Znr.contains (clsOf c)&&ZiK c)=true:=by
 cases r with
 | ok d=>cases h
 | ex c=>exact ⟨c,rfl,h⟩
 | bad=>cases h
section
variable{rows:List (List Nat)}{k i:Nat}{t:List Nat}{d:D}
def Zke(h:rows[k]?=some t):dIx (.lst (rows.map S)) (.int (k:Int))=.ok (S t):=by
 show ofO (at_ (rows.map S) (k:Int))=_;unfold at_;rw [if_pos (by omega),Vcb,Vbc,h];rfl
def Ziq(hk:k<rows.length){Ψ:Fl->Prop}(q:Ψ (.nx [.im (.lst (rows.map S)),.im (.int (k:Int)),.im (.cls (nmR i))])):Tl (ifs (trb (o2 dGe (v 1) (on bLen (Zaa (v 0) yaa)))) (rsP "NoRow" (Zaa (v 1) yaa)) nop (ev0 3 [.lst (rows.map S),.int (k:Int),.cls (nmR i)])) Ψ:=by
 walk_at "w";rw [VaW,Vaa (by omega)];walk_at "w";exact q
def Zk8(hi:i<=3)(h:rows[k]?=some t):ZkN tabR 2 (Zaa (o2 dIx (v 0) (v 1)) yaa) Znr "NoRow" (Zaa (v 1) yaa) [.im (.lst (rows.map S)),.im (.int (k:Int)),.im (.cls (nmR i))]=(match rd i [S t] with
  | .ok d=>.ok (.rt d)
  | .ex x=>if (Znr.contains (clsOf x)&&ZiK x)=true then .ex (tagX (2*k+1) "NoRow") else .bad
  | .bad=>.bad):=by
 unfold ZkN;dsimp only [List.getElem?_cons_succ,List.getElem?_cons_zero];rw [ZsO hi];dsimp only;have e1:Zaa (o2 dIx (v 0) (v 1)) yaa [.im (.lst (rows.map S)),.im (.int (k:Int)),.im (.cls (nmR i))]=.ok [S t]:=by
  refine Zeq ?_;walk_at "w";refine Zai (Zke h) ?_;walk_at "w"
 have e2:Zaa (v 1) yaa [.im (.lst (rows.map S)),.im (.int (k:Int)),.im (.cls (nmR i))]=.ok [.int (k:Int)]:=rfl;rw [e1,e2];unfold noEx;dsimp only;rw [Za0];cases rd i [S t] with
 | ok d=>rfl
 | bad=>rfl
 | ex x =>
  dsimp only;rw [Za0,ZoC];rfl
def Zgt(hi:i<=3)(h:rows[k]?=some t)(e:rd i [S t]=.ok d):ZaZ [.lst (rows.map S),.int (k:Int),.cls (nmR i)]=.ok d:=by
 have:=Zk8 hi h;rw [e] at this;refine Zeq (w_fn (w_sq (Ziq (Vat.mp h).1 (w_gx ?_))));refine Zai this ?_;walk_at "w"
def Zod(hi:i<=3)(h:rows[k]?=some t)(e:exB (rd i [S t])=true):ZaZ [.lst (rows.map S),.int (k:Int),.cls (nmR i)]=.ex (tagX (2*k+1) "NoRow"):=by
 have:=Zk8 hi h;obtain ⟨c,e1,e2⟩:=ZsF e;rw [e1] at this;dsimp only at this;rw [if_pos e2] at this;exact x_fn (Zex (Ziq (Vat.mp h).1 (x_gx this)))
def Zta(hk:rows.length<=k):ZaZ [.lst (rows.map S),.int (k:Int),.cls (nmR i)]=.ex (tagX (2*k) "NoRow"):=by
 unfold ZaZ;refine x_fn (Zfm (ZlN ?_));walk_at "w";rw [VaW,Vbt (by omega),if_pos rfl];exact Zl9 (α:=Fl) rfl
end
structure ZcZ(ts:List (List Nat))(k:Nat):Prop where
 ok:∀i,i<k->∃t,ts[i]?=some t/\okB (rd (min i 3) [S t])=true
 ex:∀t,ts[k]?=some t->exB (rd (min k 3) [S t])=true
 no:ts[k]?=none->k<3
structure Lns(ts:List (List Nat)):Prop where
 ne:ts≠[]
 ln:∀t∈ts,Ln t
 l:ts.length<=9
def Lns.tot{ts:List (List Nat)}(h:Lns ts):totL 1 ts<=1200:=by
 have hl:=h.l;have:∀l:List (List Nat),(∀t∈l,Ln t)->(l.map List.length).sum<=l.length*120:=by
  intro l
  induction l with
  | nil=>intro _;simp
  | cons t r ih =>
   intro h;have h1:=ih λx hx=>h x (Vao _ hx);have h2:=(h t Van).l;rw [VaV,List.sum_cons,VaT];omega
 have:=this ts h.ln;unfold totL;omega
def Zjl{s:List Nat}:∀{ws:List (List Nat)},(ZaT s ws).length<=totL s.length ws
 | []=>by simp [ZaT,totL]
 | [w]=>by simp [ZaT,totL]
 | w::x::r=>by
  have ih:=Zjl (s:=s) (ws:=x::r);show (w++s++ZaT s (x::r)).length<=_;rw [Vbe,Vbe];unfold totL at ih ⊢;rw [VaV,List.sum_cons,VaT,Nat.add_mul];omega
def Lns.len{ts:List (List Nat)}(h:Lns ts):(ZaT [10] ts).length<=1200:=Vak Zjl h.tot
def Lns.split{ts:List (List Nat)}(h:Lns ts):Zbq 10 (ZaT [10] ts)=ts:=ZcV h.ne λw hw=>(h.ln w hw).n
def ZnP{Φ:List D->Prop}{i j:Int}(h0:(-1000000000<=i/\i<=1000000000)/\(-1000000000<=j/\j<=1000000000))(h:Φ (Zbe i (j - i).toNat)):Tl (rng2 [.int i,.int j]) Φ:=by
 refine Zai ?_ h;show (if (-1000000000<=i/\i<=1000000000)/\(-1000000000<=j/\j<=1000000000) then Res.ok (Zbe i (j - i).toNat) else .bad)=_
 rw [if_pos h0]
def ZsJ{g:MG}{e:ME}{ρ:Ev}{c:Str}:∀{l:List D} {d:D} {r:List D},(∀x∈l,Tl (g x ρ) λρ1=>Tl (e ρ1) λ_=>True)->(Tl (g d ρ) λρ1=>e ρ1=.ex c)->Zak g yes e ρ (l++d::r)=.ex c
 | [],d,r,_,h=>by
  obtain ⟨ρ1,e1,e2⟩:=h;show Zak g yes e ρ (d::r)=_;unfold Zak yes;rw [e1,Za0,Za0,if_pos rfl,e2];rfl
 | x::l,d,r,hl,h=>by
  have ih:=ZsJ (r:=r) (λy hy=>hl y (Vao _ hy)) h;obtain ⟨ρ1,e1,y,e2,_⟩:=hl x Van;show Zak g yes e ρ (x::(l++d::r))=_;unfold Zak;unfold yes at ih ⊢;rw [e1,Za0,Za0,if_pos rfl,e2,Za0,ih];rfl
def Zp6{it:MI}{own:Nat}{cap:List Nat}{g:MG}{t:MB}{e:ME}{ρ:Ev}{c:Str}(h:Tl (it ρ) λxs=>xs.length<=1000000/\Zak g t e (noA own (yar ρ cap)) xs=.ex c):ZdQ it own cap g t e ρ=.ex c:=by
 obtain ⟨xs,e1,hl,e2⟩:=h;unfold ZdQ;rw [e1,Za0,if_pos (show xs.length<=LIM from hl),e2];rfl
def Zlz(lo:Int)(m n:Nat):Zbe lo (m+(n+1))=Zbe lo m++.int (lo+m)::Zbe (lo+m+1) n:=by
 unfold Zbe;rw [List.range_add,VbW,List.range_succ_eq_map,VaV,VaV,VbO,VbO];congr 2;refine List.map_congr_left λk _=>?_;show D.int (lo+((m+(k+1):Nat):Int))=D.int (lo+m+1+(k:Int));congr 1;omega
section
variable{ts:List (List Nat)}
def ZjO(h:Lns ts){R:MS}{c:Str}(q:R [.im (S (ZaT [10] ts)),.im (.lst (ts.map S)),.no,.no,.no,.no]=.ex c):fn 6 (sq (drp (on ZaR (Zaa (v 0) yaa))) (sq (st 1 (sD Zc4 (v 0) (Dl.c (.str "\n")))) R)) [S (ZaT [10] ts)]=.ex c:=by
 have hl:=h.len;refine x_fn (Zex (Zm6 (w_on (Zhz (w_v rfl (Zjm ?_))))));refine Zai (show ZaR [S (ZaT [10] ts)]=.ok .non from rfl) (x_gx (Zex ?_));unfold S at q ⊢;walk_at "w";refine w_sD ?_;walk_at "w";refine ⟨_,rfl,?_⟩;walk_at "w";rw [litN];refine Zfi (by omega) ?_;rw [h.split];exact x_gx q
def ZoA{k:Nat}(h:ZcZ ts k)(hk:k<=2):∃j,j/2=k/\ZaZ [.lst (ts.map S),.int (k:Int),.cls (nmR k)]=.ex (tagX j "NoRow"):=by
 cases e:ts[k]? with
 | none=>exact ⟨2*k,by omega,Zta (List.getElem?_eq_none_iff.mp e)⟩
 | some t =>
  have:=h.ex t e;rw [show min k 3=k by omega] at this;exact ⟨2*k+1,by omega,Zod (by omega) e this⟩
def Zki{k i:Nat}(h:ZcZ ts k)(hk:i<k)(h3:i<=2):∃d,ZaZ [.lst (ts.map S),.int (i:Int),.cls (nmR i)]=.ok d:=by
 obtain ⟨t,e,q⟩:=h.ok i hk;rw [show min i 3=i by omega] at q;obtain ⟨d,ed⟩:=ZnX q;exact ⟨d,Zgt (by omega) e ed⟩
def Zli(h:Lns ts){k:Nat}(hb:ZcZ ts k):∃j,j/2=k/\ZaP [S (ZaT [10] ts)]=.ex (tagX j "NoRow"):=by
 unfold ZaP;have hk:k=0\/k=1\/k=2\/3<=k:=by omega
 rcases hk with rfl | rfl | rfl | hk
 ·obtain ⟨j,hj,e⟩:=ZoA hb (by decide);exact ⟨j,hj,ZjO h (Zfm (Zkp (x_on (Zai (x:=[.lst (ts.map S),.int 0,.cls "read_floor"]) rfl e))))⟩
 ·obtain ⟨d0,e0⟩:=Zki (i:=0) hb (by decide) (by decide);obtain ⟨j,hj,e⟩:=ZoA hb (by decide);refine ⟨j,hj,ZjO h (Zex (w_st (w_on (Zai (x:=[.lst (ts.map S),.int 0,.cls "read_floor"]) rfl (Zai e0 (x_gx ?_))))))⟩;exact Zfm (Zkp (x_on (Zai (x:=[.lst (ts.map S),.int 1,.cls "read_ground"]) rfl e)))
 ·obtain ⟨d0,e0⟩:=Zki (i:=0) hb (by decide) (by decide);obtain ⟨d1,e1⟩:=Zki (i:=1) hb (by decide) (by decide);obtain ⟨j,hj,e⟩:=ZoA hb (by decide);refine ⟨j,hj,ZjO h (Zex (w_st (w_on (Zai (x:=[.lst (ts.map S),.int 0,.cls "read_floor"]) rfl (Zai e0 (x_gx ?_))))))⟩;refine Zex (w_st (w_on (Zai (x:=[.lst (ts.map S),.int 1,.cls "read_ground"]) rfl (Zai e1 (x_gx ?_)))));exact Zfm (Zkp (x_on (Zai (x:=[.lst (ts.map S),.int 2,.cls "read_spots"]) rfl e)))
 ·obtain ⟨d0,e0⟩:=Zki (i:=0) hb (by omega) (by decide);obtain ⟨d1,e1⟩:=Zki (i:=1) hb (by omega) (by decide);obtain ⟨d2,e2⟩:=Zki (i:=2) hb (by omega) (by decide);obtain ⟨m,rfl⟩ : ∃m,k=3+m:=⟨k - 3,by omega⟩;have hlt:3+m<ts.length:=by
   cases e:ts[3+m]? with
   | none=>have:=hb.no e;omega
   | some t=>exact (Vat.mp e).1
  have hl:=h.l;refine ⟨2*(3+m)+1,by omega,ZjO h (Zex (w_st (w_on (Zai (x:=[.lst (ts.map S),.int 0,.cls "read_floor"]) rfl (Zai e0 (x_gx ?_))))))⟩;refine Zex (w_st (w_on (Zai (x:=[.lst (ts.map S),.int 1,.cls "read_ground"]) rfl (Zai e1 (x_gx ?_)))));refine Zex (w_st (w_on (Zai (x:=[.lst (ts.map S),.int 2,.cls "read_spots"]) rfl (Zai e2 (x_gx ?_)))));refine Zfm (Zkp (Zp6 ?_));refine w_r2 ?_;walk_at "w";rw [VaW];refine ZnP (by omega) ?_;refine ⟨by unfold Zbe;rw [List.length_map,List.length_range];omega,?_⟩;rw [show ((ts.length:Int) - 3).toNat=m+((ts.length - 3 - m - 1)+1) by omega,Zlz];refine ZsJ (λx hx=>?_) ?_
  ·obtain ⟨i,hi,rfl⟩ : ∃i:Nat,i<m/\x=.int ((3+i:Nat):Int):=by
    unfold Zbe at hx;obtain ⟨i,hi,rfl⟩:=Vby.mp hx;exact ⟨i,Vai.mp hi,by congr 1⟩
   obtain ⟨t,et,q⟩:=hb.ok (3+i) (by omega);rw [show min (3+i) 3=3 by omega] at q;obtain ⟨d,ed⟩:=ZnX q;walk_at "w";exact Zai (Zgt (i:=3) (by decide) et ed) trivial
  ·obtain ⟨t,et⟩ : ∃t,ts[3+m]?=some t:=⟨_,VbM hlt⟩;have q:=hb.ex t et;rw [show min (3+m) 3=3 by omega] at q;have:=Zod (i:=3) (by decide) et q;refine w_gN (x_on ?_);walk_at "w";exact this
end
def thD(t:List Nat):D:=match Zat [S t] with
 | .ok d=>d
 | _=>.non
def Zhe{t:List Nat}(h:t∈thL):Row 3 t/\Zat [S t]=.ok (thD t)/\ZbB [thD t]=.ok (S t):=by
 have h1:=ZlP (by decide) (Vbz.mp Zo3 t h);have h2:=Vbz.mp ZoR t h;unfold thT at h2;refine ⟨h1,?_⟩;unfold thD S;split at h2
 ·next d e =>
  rw [e];refine ⟨rfl,?_⟩
  try dsimp only
  split at h2
  ·next w e2 =>
   rw [e2];have:cpL w=t:=by simpa using h2
   rw [<-this,Zbb]
  ·cases h2
 ·cases h2
def Zjd{t:List Nat}(h:t∈gsL):Row 1 t/\∃d w,Zaw [S t]=.ok d/\Zau [d]=.ok (S w)/\ZaT [32] [[103,114,111,117,110,100],w]=t:=by
 have h1:=ZlP (by decide) (Vbz.mp Zpi t h);have h2:=Vbz.mp ZqF t h;unfold gsT at h2;refine ⟨h1,?_⟩;split at h2
 ·next d e =>
  split at h2
  ·next w e2 =>
   refine ⟨d,cpL w,e,by rw [e2];unfold S;rw [Zbb],?_⟩;rw [Zpb,Za1] at h2;simpa using h2
  ·cases h2
 ·cases h2
def words_of{f:List D->Res D}:∀{ds:List D} {ws:List (List Nat)},wordsOf f ds=some ws->∀{g:MG} {ρ:Ev} {e:ME} {Φ:List D->Prop},(∀d∈ds,Tl (g d ρ) λρ1=>e ρ1=f [d])->Φ (ws.map S)->Tl (Zak g yes e ρ ds) Φ
 | [],ws,h,g,ρ,e,Φ,_,q=>by
  injection h with h
  subst h;exact Zai rfl q
 | d::r,ws,h,g,ρ,e,Φ,hg,q=>by
  unfold wordsOf at h;split at h
  ·next y ey =>
   cases hs:strL y with
   | none=>rw [hs] at h;cases h
   | some w =>
    rw [hs] at h;cases hr:wordsOf f r with
    | none=>rw [hr] at h;cases h
    | some ws' =>
     rw [hr] at h;injection h with h
     subst h;have hy:y=S w:=by
      unfold strL at hs;split at hs
      ·injection hs with hs
       subst hs;unfold S;rw [Zbb]
      ·cases hs
     subst hy;obtain ⟨ρ1,e1,e2⟩:=hg d Van;obtain ⟨zs,ez,hz⟩:=words_of hr (g:=g) (ρ:=ρ) (e:=e) (Φ:=λzs=>zs=ws'.map S) (λx hx=>hg x (Vao _ hx)) rfl;refine Zai ?_ q;unfold Zak;rw [e1,Za0];unfold yes at ez ⊢;rw [Za0,if_pos rfl,e2,ey,Za0,ez,hz];rfl
  ·cases h
def Zjg{t:List Nat}(h:t∈ssL):Row 2 t/\∃ds ws,ZaA [S t]=.ok (.lst ds)/\ds.length<=16/\ws.length<=16/\wordsOf ZbN ds=some ws/\ZaT [32] ([115,112,111,116,115]::ws)=t:=by
 have h1:=ZlP (by decide) (Vbz.mp ZqE t h);have h2:=Vbz.mp Zo9 t h;unfold ssT at h2;refine ⟨h1,?_⟩;split at h2
 ·next ds e =>
  rw [Vbm,Vb6] at h2;obtain ⟨hl,h2⟩:=h2;split at h2
  ·next ws e2 =>
   rw [Vbm,Vb6] at h2;refine ⟨ds,ws,e,hl,h2.1,e2,?_⟩;have h3:=h2.2;rw [Zo2,Za1] at h3;simpa using h3
  ·cases h2
 ·cases h2
def ZsN{α β:Type}(f:α->β)(d:α)(l:List α):l.map f=(List.range l.length).map λk=>f (l.getD k d):=by
 apply List.ext_getElem?;intro i;by_cases h:i<l.length
 ·simp [h]
 ·simp [h]
structure Good(L:List (List Nat)):Prop where
 ex:∃(a b:Int) (g s:List Nat) (ts:List (List Nat)),(1<=a/\a<=64)/\(1<=b/\b<=64)/\g∈gsL/\s∈ssL/\(∀t∈ts,t∈thL)/\ts.length<=4/\L=flT a b::g::s::ts
def Good.row{L:List (List Nat)}(h:Good L){i:Nat}{t:List Nat}(e:L[i]?=some t):Row (min i 3) t:=by
 obtain ⟨a,b,g,s,ts,ha,hb,hg,hs,ht,hl,rfl⟩:=h.ex
 match i,e with
 | 0,e=>cases e;exact Zsr ha hb
 | 1,e=>cases e;exact (Zjd hg).1
 | 2,e=>cases e;exact (Zjg hs).1
 | i+3,e =>
  have:ts[i]?=some t:=e;rw [show min (i+3) 3=3 by omega];exact (Zhe (ht t (Vbd this))).1
def Good.len{L:List (List Nat)}(h:Good L):3<=L.length/\L.length<=7:=by
 obtain ⟨a,b,g,s,ts,ha,hb,hg,hs,ht,hl,rfl⟩:=h.ex;simp only [VaT];omega
def Good.ln{L:List (List Nat)}(h:Good L):∀t∈L,Ln t:=by
 intro t ht;obtain ⟨i,hi,e⟩:=List.getElem_of_mem ht;exact (h.row (by rw [VbM hi,e])).ln
def Good.lns{L:List (List Nat)}(h:Good L):Lns L:=⟨λe=>by have:=h.len;rw [e] at this;simp at this,h.ln,by have:=h.len;omega⟩
def Zkz{L:List (List Nat)}(h:Good L):∃d,ZaP [S (ZaT [10] L)]=.ok d/\ZbC [d]=.ok (S (ZaT [10] L)):=by
 have hL:=h.lns;have hlen:=hL.len;have htot:=hL.tot;obtain ⟨a,b,g,s,ts,ha,hb,hg,hs,ht,hl,rfl⟩:=h.ex;obtain ⟨_,gd,gw,eg1,eg2,eg3⟩:=Zjd hg;obtain ⟨_,ds,ws,es1,es2,lws,es3,es4⟩:=Zjg hs;have c0:=Zgt (rows:=flT a b::g::s::ts) (k:=0) (i:=0) (by decide) rfl (ZsL ha hb);have c1:=Zgt (rows:=flT a b::g::s::ts) (k:=1) (i:=1) (by decide) rfl eg1;have c2:=Zgt (rows:=flT a b::g::s::ts) (k:=2) (i:=2) (by decide) rfl es1;refine ⟨.tup [.int a,.int b,gd,.lst ds,.lst (ts.map thD)],?_,?_⟩
 ·unfold ZaP;refine Zeq (w_fn (w_sq (Zm6 (w_on (Zhz (w_v rfl (Zjm ?_)))))));refine Zai (show ZaR [S (ZaT [10] (flT a b::g::s::ts))]=.ok .non from rfl) (w_gx (w_sq ?_));unfold S;walk_at "w";refine w_sD ?_;walk_at "w";refine ⟨_,rfl,?_⟩;walk_at "w";rw [litN];refine Zfi (by omega) ?_;rw [hL.split];walk_at "w";refine Zai c0 ?_;walk_at "w";refine Zai c1 ?_;walk_at "w";refine Zai c2 ?_;refine w_gx (w_sq (w_st (Zk0 ?_)));refine w_r2 ?_;walk_at "w";rw [VaW];refine ZnP (by simp;omega) ?_;refine ⟨by unfold Zbe;rw [List.length_map,List.length_range];simp;omega,?_⟩;rw [show (((flT a b::g::s::ts).length:Int) - 3).toNat=ts.length by simp;omega];refine ZjR (enc:=λk:Nat=>D.int (3+(k:Int))) (λk=>thD (ts.getD k [])) (λk hk=>?_) ?_
  ·have hk:=Vai.mp hk;have et:ts[k]?=some ts[k]:=VbM hk;have e3:(flT a b::g::s::ts)[3+k]?=some ts[k]:=by
    rw [Nat.add_comm];exact et
   have:=Zgt (i:=3) (by decide) e3 (Zhe (ht _ (VbZ hk))).2.1;walk_at "w";refine Zai this ?_;show thD _=thD _;rw [List.getD_eq_getElem?_getD,et];rfl
  ·rw [<-ZsN thD []];walk_at "w"
 ·have na:∀{n:Int},1<=n/\n<=64->Zam [.int n]=.ok (S (tI n)):=λ{n} hn=>Zeq (ZkI (by omega) rfl);have tl:∀{ws:List (List Nat)} {t:List Nat},ZaT [32] ws=t->ws.length<=20->t.length<=120->totL 1 ws<=1000:=by
   intro ws t e h1 h2;have:∀ws:List (List Nat),(ws.map List.length).sum<=(ZaT [32] ws).length:=by
    intro ws
    induction ws with
    | nil=>simp
    | cons w r ih =>
     cases r with
     | nil=>simp [ZaT]
     | cons x r =>
      show _<=(w++[32]++ZaT [32] (x::r)).length;rw [VaV,List.sum_cons,Vbe,Vbe];omega
   have:=this ws;rw [e] at this;unfold totL;omega
  have j0:=tl (ws:=[fwL,tI a,tI b]) (t:=flT a b) rfl (by simp) (hL.ln _ (by simp)).l;have j1:=tl eg3 (by simp) (hL.ln _ (by simp)).l;have j2:=tl es4 (by rw [VaT];omega) (hL.ln _ (by simp)).l;unfold ZbC;refine Zeq ?_;walk_at "w";refine w_sD ?_;walk_at "w";refine ⟨_,rfl,?_⟩;walk_at "w";refine Zai (na ha) ?_;walk_at "w";refine Zai (na hb) ?_;walk_at "w";rw [Zs7,litB];refine ZdB (ls:=[fwL,tI a,tI b]) (Vak j0 (by decide)) ?_;walk_at "w";refine w_sD ?_;walk_at "w";refine ⟨_,rfl,?_⟩;walk_at "w";refine Zai eg2 ?_;walk_at "w";rw [Zpb];refine ZdB (ls:=[[103,114,111,117,110,100],gw]) (Vak j1 (by decide)) ?_;rw [eg3];walk_at "w";refine w_sD ?_;walk_at "w";refine ⟨_,rfl,?_⟩;walk_at "w";refine ⟨by omega,?_⟩;refine words_of es3 (λd hd=>?_) ?_
  ·exact w_gN rfl
  walk_at "w";refine Zbo (by simp;omega) ?_;rw [Zo2];refine ZdB (ls:=[115,112,111,116,115]::ws) (Vak j2 (by decide)) ?_;rw [es4];walk_at "w";refine w_sD ?_;walk_at "w";refine ⟨_,rfl,?_⟩;walk_at "w";refine ⟨by rw [VaW];omega,?_⟩;refine ZjR S (λt hm=>?_) ?_
  ·walk_at "w";exact Zai (Zhe (ht t hm)).2.2 rfl
  refine Zbo (by simp;omega) ?_;rw [litN];refine ZdB (ls:=flT a b::g::s::ts) (Vak htot (by decide)) ?_;walk_at "w";rfl
section
variable{L ts:List (List Nat)}{k:Nat}
def Zfr(hG:Good L)(h1:∀i,i<k->ts[i]?=L[i]?)(hk:k<=L.length)(h2:∀t,ts[k]?=some t->exB (rd (min k 3) [S t])=true)(h3:ts[k]?=none->k<3):ZcZ ts k:=by
 refine ⟨λi hi=>?_,h2,h3⟩;have e:L[i]?=some L[i]:=VbM (by omega);exact ⟨L[i],(h1 i hi).trans e,(hG.row e).ok⟩
def mis(hG:Good L){m:Nat}{t:List Nat}(e:L[m]?=some t)(hn:min k 3≠min m 3):exB (rd (min k 3) [S t])=true:=(hG.row e).ex _ (by omega) hn
def Lns.of(h1:∀t∈ts,Ln t)(h0:0<ts.length)(h2:ts.length<=9):Lns ts:=⟨List.length_pos_iff.mp h0,h1,h2⟩
def sp0(hG:Good L)(hk:k<=2):Lns (L.take k++L.drop (k+1))/\ZcZ (L.take k++L.drop (k+1)) k:=by
 have hl:=hG.len;have g:∀i,(L.take k++L.drop (k+1))[i]?=if i<k then L[i]? else L[i+1]?:=by
  intro i;rw [List.getElem?_append,Va7,Nat.min_eq_left (by omega),List.getElem?_take,Vbx];split
  ·rfl
  ·congr 1;omega
 refine ⟨.of (λt ht=>?_) (by simp;omega) (by simp;omega),Zfr hG (λi hi=>by rw [g,if_pos hi]) (by omega) (λt e=>?_) (λ_=>by omega)⟩
 ·rcases Var.mp ht with ht | ht
  ·exact hG.ln t (Vce ht)
  ·exact hG.ln t (Vcd ht)
 ·rw [g,if_neg (by omega)] at e;exact mis hG e (by omega)
def sp1(hG:Good L)(hk:k<=2):Lns (L.take (k+1)++L.drop k)/\ZcZ (L.take (k+1)++L.drop k) (k+1):=by
 have hl:=hG.len;have g:∀i,(L.take (k+1)++L.drop k)[i]?=if i<k+1 then L[i]? else L[i - 1]?:=by
  intro i;rw [List.getElem?_append,Va7,Nat.min_eq_left (by omega),List.getElem?_take,Vbx];split
  ·rfl
  ·congr 1;omega
 refine ⟨.of (λt ht=>?_) (by simp;omega) (by simp;omega),Zfr hG (λi hi=>by rw [g,if_pos hi]) (by omega) (λt e=>?_) (λe=>?_)⟩
 ·rcases Var.mp ht with ht | ht
  ·exact hG.ln t (Vce ht)
  ·exact hG.ln t (Vcd ht)
 ·rw [g,if_neg (by omega)] at e;exact mis hG e (by omega)
 ·rw [g,if_neg (by omega),List.getElem?_eq_none_iff] at e;omega
def spS(hG:Good L){t:List Nat}(hk:k<L.length)(ht:Ln t)(hx:exB (rd (min k 3) [S t])=true):Lns (L.set k t)/\ZcZ (L.set k t) k:=by
 have hl:=hG.len;refine ⟨.of (λu hu=>(List.mem_or_eq_of_mem_set hu).elim (hG.ln u) λe=>by rw [e];exact ht) (by simp;omega) (by simp;omega),Zfr hG (λi hi=>Vav (by omega)) (by omega) (λu e=>?_) (λe=>?_)⟩
 ·rw [Vau hk] at e;injection e with e
  rw [<-e];exact hx
 ·rw [Vau hk] at e;cases e
def spT{m:Nat}{t:List Nat}(h:Lns ts/\ZcZ ts k)(hm:k<m)(ht:Ln t):Lns (ts.set m t)/\ZcZ (ts.set m t) k:=by
 have hl:=h.1.l;have h0:=List.length_pos_iff.mpr h.1.ne;refine ⟨.of (λu hu=>(List.mem_or_eq_of_mem_set hu).elim (h.1.ln u) λe=>by rw [e];exact ht) (by simp;omega) (by simp;omega),λi hi=>?_,λu e=>?_,λe=>?_⟩
 ·rw [Vav (by omega)];exact h.2.ok i hi
 ·rw [Vav (by omega)] at e;exact h.2.ex u e
 ·rw [Vav (by omega)] at e;exact h.2.no e
def sp9(hG:Good L){t:List Nat}(hk:k<=2)(et:L[k]?=some t):Lns (L++[t])/\ZcZ (L++[t]) L.length:=by
 have hl:=hG.len;refine ⟨.of (λu hu=>?_) (by simp) (by simp;omega),Zfr hG (λi hi=>Vbb hi) (VaL _) (λu e=>?_) (λe=>?_)⟩
 ·rcases Var.mp hu with hu | hu
  ·exact hG.ln u hu
  ·rw [VbU.mp hu];exact hG.ln t (Vbd et)
 ·rw [Va9 (VaL _),Nat.sub_self] at e;injection e with e
  rw [<-e];exact mis hG et (by omega)
 ·rw [Va9 (VaL _),Nat.sub_self] at e;cases e
def sp10(hG:Good L){t:List Nat}{r:List (List Nat)}(hk:k<=2)(et:L[3]?=some t)(hr:∀u∈r,u∈L)(hrl:r.length<=6):Lns (L.take k++[t]++r)/\ZcZ (L.take k++[t]++r) k:=by
 have hl:=hG.len;have e0:L.take k++[t]++r=L.take k++t::r:=by simp
 rw [e0];have e1:(L.take k).length=k:=by rw [Va7];omega
 have ek:(L.take k++t::r)[k]?=some t:=by rw [Va9 (by omega),e1,Nat.sub_self];rfl
 refine ⟨.of (λu hu=>?_) (by simp;omega) (by simp;omega),Zfr hG (λi hi=>by rw [Vbb (by omega),List.getElem?_take,if_pos hi]) (by omega) (λu e=>?_) (λ_=>by omega)⟩
 ·rcases Var.mp hu with hu | hu
  ·exact hG.ln u (Vce hu)
  ·rcases Vaq.mp hu with rfl | hu
   ·exact hG.ln u (Vbd et)
   ·exact hG.ln u (hr u hu)
 ·rw [ek] at e;injection e with e
  rw [<-e];exact mis hG et (by omega)
def sp11(hG:Good L):Lns (L.drop 1++L.take 1)/\ZcZ (L.drop 1++L.take 1) 0:=by
 have hl:=hG.len;refine ⟨.of (λu hu=>?_) (by simp;omega) (by simp;omega),Zfr hG (λi hi=>by omega) (by omega) (λu e=>?_) (λ_=>by omega)⟩
 ·rcases Var.mp hu with hu | hu
  ·exact hG.ln u (Vcd hu)
  ·exact hG.ln u (Vce hu)
 ·rw [Vbb (by simp;omega),Vbx] at e;exact mis hG (m:=1) e (by decide)
def sp8(hG:Good L){one other:Nat}{t u:List Nat}(h1:one<other)(h2:other<=2)(et:L[other]?=some t)(eu:L[one]?=some u):Lns ((L.set one t).set other u)/\ZcZ ((L.set one t).set other u) one:=by
 have hl:=hG.len;exact spT (spS hG (by omega) (hG.ln t (Vbd et)) (mis hG et (by omega))) h1 (hG.ln u (Vbd eu))
end
def cutM(L:List (List Nat))(lo hi:Option Int):cutL (L.map S) lo hi=((L.drop (cutAt L.length 0 lo)).take (cutAt L.length L.length hi - cutAt L.length 0 lo)).map S:=by
 unfold cutL;rw [VaW,List.map_take,List.map_drop]
def Zjj{L:List (List Nat)}{k:Nat}(h:k<=L.length):cutL (L.map S) none (some (k:Int))=(L.take k).map S:=by
 rw [cutM];unfold cutAt;dsimp only;rw [if_neg (by omega),Vcb,Nat.min_eq_left h,VbI,Nat.sub_zero]
def Zfc{L:List (List Nat)}{k:Nat}(h:k<=L.length):cutL (L.map S) (some (k:Int)) none=(L.drop k).map S:=by
 rw [cutM];unfold cutAt;dsimp only;rw [if_neg (by omega),Vcb,Nat.min_eq_left h,VbJ (by rw [Vbj];omega)]
def badD(i:Nat):D->Bool
 | .str x=>lnB (cpL x)&&exB (rd i [.str x])
 | _=>false
def Zhh{i:Nat}{d:D}(h:badD i d=true):∃t,d=S t/\Ln t/\exB (rd i [S t])=true:=by
 cases d with
 | str x =>
  have h:(lnB (cpL x)&&exB (rd i [.str x]))=true:=h;rw [Vbm] at h;refine ⟨cpL x,by unfold S;rw [Zbb],ZlX h.1,?_⟩;unfold S;rw [Zbb];exact h.2
 | _=>cases h
def dOf:Res D->D
 | .ok d=>d
 | _=>.non
def nfL:List D:=(List.range 26).map λr:Nat=>dOf (ZaG [.int (r:Int)])
def ntL:List D:=(List.range 12).map λr:Nat=>dOf (ZaD [.int (r:Int)])
def Ztf(c:Int):ZaG [.int c]=((dIx (.lst nfL) (.int (c%26))).bind λd=>.ok (Fl.rt d)).bind endOf:=by kernel_rfl
def ZtV(c:Int):ZaD [.int c]=((dIx (.lst ntL) (.int (c%12))).bind λd=>.ok (Fl.rt d)).bind endOf:=by kernel_rfl
def w_nf{Φ:D->Prop}{c:Int}(h:∀d∈nfL,Φ d):Tl (ZaG [.int c]) Φ:=by
 rw [Ztf];refine Zal (Zal (Zgg ⟨by omega,?_⟩ λd hd=>ZaK (w_eR (h d hd))));show c%26<((List.range 26).map _).length;rw [VaW,VbL];omega
def w_nt{Φ:D->Prop}{c:Int}(h:∀d∈ntL,Φ d):Tl (ZaD [.int c]) Φ:=by
 rw [ZtV];refine Zal (Zal (Zgg ⟨by omega,?_⟩ λd hd=>ZaK (w_eR (h d hd))));show c%12<((List.range 12).map _).length;rw [VaW,VbL];omega
def caB(d:D)(w:Str):Bool:=match Zao [.str "thing", d] with
 | .ok (.tup [.str x,.int n])=>x==w&&n==0
 | _=>false
def ZjI{d:D}{w:Str}(h:caB d w=true):Zao [.str "thing", d]=.ok (.tup [.str w,.int 0]):=by
 unfold caB at h;split at h
 ·next x n e =>
  rw [Vbm,VaR,VaR] at h;rw [e,h.1,h.2]
 ·cases h
def Zoe:(nfL.all λd=>badD 3 d&&caB d "row")=true:=by decide +kernel
def ntB:D->Bool
 | .tup [d,.str w]=>badD 3 d&&caB d w&&plain 50 (.tup [.str w,.int 0])
 | _=>false
def Zn6:(ntL.all ntB)=true:=by decide +kernel
def Zsw:((thL++[cpL "plain 1"]).all λt=>lnB t&&caB (.str (mkS (t++[10]))) "row")=true:=by decide +kernel
def w_head{Φ:D->Prop}{k:Nat}{cc:Int}(hk:k<=2)(q:∀t,Ln t->exB (rd k [S t])=true->Φ (S t)):Tl (Zbs [.int (k:Int),.int cc]) Φ:=by
 have:k=0\/k=1\/k=2:=by omega
 unfold Zbs;rcases this with rfl | rfl | rfl
 ·walk_at "w";refine Zbo (by simp) ?_;walk_at "w";refine Zgg ⟨by omega,by simp;omega⟩ λd hd=>?_;obtain ⟨t,rfl,h1,h2⟩:=Zhh (i:=0) (Vbz.mp (by decide +kernel) d hd);walk_at "w";exact q t h1 h2
 ·walk_at "w";refine Zai (x:=.str (mkS (List.replicate 31 49))) (by kernel_rfl) ?_;refine Zai (x:=.str (mkS (cpL "ground "++List.replicate 31 49))) (by kernel_rfl) ?_;walk_at "w";refine Zbo (by simp) ?_;walk_at "w";refine Zgg ⟨by omega,by simp;omega⟩ λd hd=>?_;obtain ⟨t,rfl,h1,h2⟩:=Zhh (i:=1) (Vbz.mp (by decide +kernel) d hd);walk_at "w";exact q t h1 h2
 ·walk_at "w";refine Zai (x:=.str (mkS (ZaT [32] ((List.range 17).map λk:Nat=>tI ((1+k%7:Nat):Int)++44::tI ((1+k/7:Nat):Int))))) (by kernel_rfl) ?_;walk_at "w";refine Zai (x:=.str (mkS (cpL "spots "++ZaT [32] ((List.range 17).map λk:Nat=>tI ((1+k%7:Nat):Int)++44::tI ((1+k/7:Nat):Int))))) (by kernel_rfl) ?_;walk_at "w";refine Zbo (by simp) ?_;walk_at "w";refine Zgg ⟨by omega,by simp;omega⟩ λd hd=>?_;obtain ⟨t,rfl,h1,h2⟩:=Zhh (i:=2) (Vbz.mp (by decide +kernel) d hd);walk_at "w";exact q t h1 h2
def ZkO{X:Type}{enc:X->D}{Q:X->Prop}:∀{ys:List D},(∀y∈ys,∃x,y=enc x/\Q x)->∃xs:List X,ys=xs.map enc/\∀x∈xs,Q x
 | [],_=>⟨[],rfl,λ_ h=>nomatch h⟩
 | y::r,h=>by
  obtain ⟨x,rfl,hx⟩:=h y Van;obtain ⟨xs,rfl,hxs⟩:=ZkO (ys:=r) λz hz=>h z (Vao _ hz);refine ⟨x::xs,rfl,λu hu=>?_⟩;rcases Vaq.mp hu with rfl | hu
  ·exact hx
  ·exact hxs u hu
def ZjZ{Φ:D->Prop}{cc:Int}(q:∀ts:List (List Nat),ts.length<=4->(∀t∈ts,t∈thL)->Φ (.lst (ts.map S))):Tl (ZaX [.int cc]) Φ:=by
 have e:thL.map S=[.str "plain 1/2 / 0 0 4 1 / 8 0 4 1 / 0 8 4 1", .str "shaded / 0 0 4 1 5 / 8 0 4 1 -6 / 0 8 4 2 7", .str "patterned 1,0;1/2,-3 / 0 0 4 1 5 6 / 8 0 4 1 -6 0 / 0 8 4 2 7 9", .str "glass 3 1/4 / 0 0 4 1 / 8 0 4 1 / 0 8 4 1"]:=by
  unfold thL S;simp only [VaV,List.map_nil,Zbb]
 unfold ZaX;walk_at "w";refine ⟨by decide,?_⟩;walk_at "w";refine ⟨by decide,?_⟩;walk_at "w";refine ZcA (by omega) λr hr=>?_;walk_at "w";refine ⟨by unfold Zbe;rw [List.length_map,List.length_range];omega,?_⟩;refine w_all (λ_ y=>∃t,y=S t/\t∈thL) (λx hx=>?_) ?_
 ·obtain ⟨k,rfl,hk⟩ : ∃k:Int,x=.int k/\0<=k/\k<5:=by
   unfold Zbe at hx;obtain ⟨k,hk,rfl⟩:=Vby.mp hx;have:=Vai.mp hk;exact ⟨_,rfl,by omega,by omega⟩
  walk_at "w";refine ZcA (by omega) λr2 hr2=>?_;walk_at "w";refine Zgg ⟨by omega,by simp;omega⟩ λd hd=>?_;have hd:d∈thL.map S:=by rw [e];exact hd
  obtain ⟨t,ht,rfl⟩:=Vby.mp hd;exact ⟨t,rfl,ht⟩
 ·intro ys hl hy;have hy2:∀y∈ys,∃t,y=S t/\t∈thL:=by
   intro y hm;obtain ⟨i,hi,ei⟩:=List.getElem_of_mem hm;have hi2:i<(Zbe 0 (r%5).toNat).length:=by rw [<-hl];exact hi
   exact hy i _ y (VbM hi2) (by rw [VbM hi,ei])
  obtain ⟨ts,rfl,ht⟩:=ZkO hy2;walk_at "w";refine q ts ?_ ht;rw [VaW] at hl;rw [hl];unfold Zbe;rw [VaW,VbL];omega
def ZrO{Φ:D->Prop}{cc:Int}(q:∀L,Good L->Φ (.lst (L.map S))):Tl (ZbW [.int cc]) Φ:=by
 have z:∀{n:Int},1<=n/\n<=64->(tI n).length<=3:=λ{n} hn=>Zjb (k:=2) (by decide) (by omega);unfold ZbW;walk_at "w";refine ZcA (by omega) λr1 hr1=>?_;walk_at "w";have ha:1<=1+r1%64/\1+r1%64<=64:=by omega
 have za:=z ha;refine ZlE (k:=8) (by show (1+r1%64).natAbs<2^8;omega) (by decide) ?_;walk_at "w";rw [Zsi,litB];refine ZjV (by simp [fwL];omega) ?_;walk_at "w";refine ZjV (by simp [fwL];omega) ?_;walk_at "w";refine ZcA (by omega) λr2 hr2=>?_;walk_at "w";have hb:1<=1+r2%64/\1+r2%64<=64:=by omega
 have zb:=z hb;refine ZlE (k:=8) (by show (1+r2%64).natAbs<2^8;omega) (by decide) ?_;refine ZjV (by simp [fwL];omega) ?_;rw [show fwL++[32]++tI (1+r1%64)++[32]++tI (1+r2%64)=flT (1+r1%64) (1+r2%64) by unfold flT;simp [ZaT,fwL]];generalize 1+r1%64=a at *;generalize 1+r2%64=b at *;walk_at "w";refine ZcA (by omega) λr3 hr3=>?_;walk_at "w";refine Zgg ⟨by omega,by simp;omega⟩ λd hd=>?_;obtain ⟨g,hg,eg⟩ : ∃g∈gsL,yac (.str "ground ") d=.ok (S g):=by
  have:∀d∈([.str "0", .str "-3", .str "1/2", .str "-7/9"]:List D),∃g∈gsL,yac (.str "ground ") d=.ok (S g):=by
   intro d hd;simp only [Vaq,Vb1,or_false] at hd;rcases hd with rfl | rfl | rfl | rfl
   ·exact ⟨cpL ("ground "++("0" : Str)),by unfold gsL;simp,by kernel_rfl⟩
   ·exact ⟨cpL ("ground "++("-3" : Str)),by unfold gsL;simp,by kernel_rfl⟩
   ·exact ⟨cpL ("ground "++("1/2" : Str)),by unfold gsL;simp,by kernel_rfl⟩
   ·exact ⟨cpL ("ground "++("-7/9" : Str)),by unfold gsL;simp,by kernel_rfl⟩
  exact this d hd
 refine Zai eg ?_;walk_at "w";refine ⟨by simp,?_⟩;walk_at "w";refine ZcA (by omega) λr4 hr4=>?_;walk_at "w";refine Zgg ⟨by omega,by simp;omega⟩ λd hd=>?_;obtain ⟨s,hs,es⟩ : ∃s∈ssL,yac (.str "spots ") d=.ok (S s):=by
  have:∀d∈([.str "4,4", .str "1,1 7,7", .str "2,2 6,2 2,6 6,6"]:List D),∃g∈ssL,yac (.str "spots ") d=.ok (S g):=by
   intro d hd;simp only [Vaq,Vb1,or_false] at hd;rcases hd with rfl | rfl | rfl
   ·exact ⟨cpL ("spots "++("4,4" : Str)),by unfold ssL;simp,by kernel_rfl⟩
   ·exact ⟨cpL ("spots "++("1,1 7,7" : Str)),by unfold ssL;simp,by kernel_rfl⟩
   ·exact ⟨cpL ("spots "++("2,2 6,2 2,6 6,6" : Str)),by unfold ssL;simp,by kernel_rfl⟩
  exact this d hd
 refine Zai es ?_;walk_at "w";refine ⟨by simp,?_⟩;walk_at "w";refine ZjZ λts hl ht=>?_;refine Zbo (by simp;omega) ?_;walk_at "w";exact q (flT a b::g::s::ts) ⟨a,b,g,s,ts,ha,hb,hg,hs,ht,hl,rfl⟩
def Ziw{Φ:Fl->Prop}{ρ:Ev}{i:Nat}{k e:ME}(h:Tl (e ρ) λd=>Tl (getO ρ[i]?) λxs=>Tl (k ρ) λu=>∃(j:Int) (m:Nat),u=.int j/\ixP xs.length j=some m/\Φ (.nx (ρ.set i (.ow (xs.set m d))))):Tl (seti i k e ρ) Φ:=by
 obtain ⟨d,e1,xs,e2,u,e3,j,m,rfl,e4,q⟩:=h;refine Zai ?_ q;unfold seti;rw [e1];show (getO ρ[i]?).bind _=_;rw [e2];show (k ρ).bind _=_;rw [e3];show (ofO (ixP xs.length j)).bind _=_;rw [e4];rfl
def Zhr{n k:Nat}(h:k<n):ixP n (k:Int)=some k:=by
 unfold ixP;rw [if_pos (by omega)];simp [h]
def Zno{n:Nat}(h:0<n):ixP n (-1)=some (n - 1):=by
 unfold ixP;rw [if_neg (by omega),if_pos (by omega)];congr 1;omega
def ZkQ(L:List (List Nat))(k:Nat)(t:List Nat):(L.map S).set k (S t)=(L.set k t).map S:=List.map_set.symm
section
variable{Φ:D->Prop}{L:List (List Nat)}
def ZmU{w k:Nat}(hG:Good L)(hk:k<=2)(hw:8<=w/\w<=11)(q:∀ts j,Lns ts/\ZcZ ts j->Φ (.tup [.lst (ts.map S),.int (j:Int)])):Tl (ZaI [.lst (L.map S),.int (w:Int),.int (k:Int)]) Φ:=by
 have hl:=hG.len;obtain ⟨t,et⟩ : ∃t,L[k]?=some t:=⟨_,VbM (by omega)⟩;obtain ⟨one,other,h1,h2,epr⟩ : ∃one other:Nat,one<other/\other<=2/\dIx (.lst [.tup [.int 0,.int 1],.tup [.int 0,.int 2],.tup [.int 1,.int 2]]) (.int (k:Int))=.ok (.tup [.int (one:Int),.int (other:Int)]):=by
  have:k=0\/k=1\/k=2:=by omega
  rcases this with rfl | rfl | rfl
  ·exact ⟨0,1,by decide,by decide,rfl⟩
  ·exact ⟨0,2,by decide,by decide,rfl⟩
  ·exact ⟨1,2,by decide,by decide,rfl⟩
 obtain ⟨t1,e1⟩ : ∃t,L[one]?=some t:=⟨_,VbM (by omega)⟩;obtain ⟨t2,e2⟩ : ∃t,L[other]?=some t:=⟨_,VbM (by omega)⟩;unfold ZaI;walk_at "w";refine Zai epr ?_;walk_at "w";refine ZdT (λh9=>?_) (λh9=>?_)
 ·walk_at "w";refine Zai (Zke et) ?_;walk_at "w";refine Zbo (by simp;omega) ?_;walk_at "w";have:=q _ _ (sp9 hG hk et);rw [VbW] at this;rw [VaW];exact this
 walk_at "w";have swap:∀{a:Cl},Tl (sq (seti 5 (v 3) (o2 dIx (v 0) (v 4))) (sq (seti 5 (v 4) (o2 dIx (v 0) (v 3))) (frz 5 (Dl.ret (mtp (Zaa (v 5) (Zaa (v 3) yaa)))))) [.im (.lst (L.map S)),.im (.int (w:Int)),a,.im (.int (one:Int)),.im (.int (other:Int)),.ow (L.map S)]) λf=>Tl (endOf f) Φ:=by
  intro a;refine w_sq (Ziw ?_);walk_at "w";refine Zai (Zke e2) ?_;refine w_gO rfl ?_;walk_at "w";refine ⟨_,one,rfl,Zhr (by rw [VaW];omega),?_⟩;rw [ZkQ];refine w_gx (w_sq (Ziw ?_));walk_at "w";refine Zai (Zke e1) ?_;refine w_gO rfl ?_;walk_at "w";refine ⟨_,other,rfl,Zhr (by rw [VaW,Vbq];omega),?_⟩;rw [ZkQ];walk_at "w";exact q _ _ (sp8 hG h1 h2 e2 e1)
 have rest:∀{a:Cl},¬(w=10/\3<L.length)->Tl (sq (ifs (trb (o2 dEq (v 1) (c (.int 11)))) (Dl.ret (mtp (Zaa (o2 yac (cut (v 0) (pso (c (.int 1))) pno) (cut (v 0) pno (pso (c (.int 1))))) (Zaa (c (.int 0)) yaa)))) nop) (sq (seti 5 (v 3) (o2 dIx (v 0) (v 4))) (sq (seti 5 (v 4) (o2 dIx (v 0) (v 3))) (frz 5 (Dl.ret (mtp (Zaa (v 5) (Zaa (v 3) yaa))))))) [.im (.lst (L.map S)),.im (.int (w:Int)),a,.im (.int (one:Int)),.im (.int (other:Int)),.ow (L.map S)]) λf=>Tl (endOf f) Φ:=by
  intro a hn;refine w_sq (Zqb ?_);walk_at "w";refine ZdT (λh11=>?_) (λh11=>?_)
  ·walk_at "w";rw [show (some (1:Int))=some ((1:Nat):Int) from rfl,Zfc (by omega),Zjj (by omega)];refine Zbo (by simp;omega) ?_;walk_at "w";have:=q _ _ (sp11 hG);rw [VbW] at this;exact this
  ·refine Zkv (w_gx ?_);exact swap
 refine ZdT (λh10=>?_) (λh10=>?_)
 ·walk_at "w";rw [VaW];refine ZdT (λhn=>?_) (λhn=>?_)
  ·walk_at "w";obtain ⟨t3,e3⟩ : ∃t,L[3]?=some t:=⟨_,VbM (by omega)⟩;refine Zai (Zke (k:=3) e3) ?_;walk_at "w";rw [Zjj (by omega)];refine Zbo (by simp;omega) ?_;walk_at "w";rw [cutM];refine Zbo (by simp;omega) ?_;walk_at "w";rw [show (some (4:Int))=some ((4:Nat):Int) from rfl,Zfc (by omega)];refine Zbo (by simp;omega) ?_;walk_at "w"
   have:=q _ _ (sp10 hG (r:=(L.drop (cutAt L.length 0 (some (k:Int)))).take (cutAt L.length L.length (some 3) - cutAt L.length 0 (some (k:Int)))++L.drop 4) hk e3 (λu hu=>by
    rcases Var.mp hu with hu | hu
    ·exact Vcd (Vce hu)
    ·exact Vcd hu) (by
    have:cutAt L.length L.length (some 3)<=3:=by unfold cutAt;dsimp only;rw [if_neg (by decide)];omega
    rw [Vbe,Va7,Vbj,Vbj]
    exact Vak (Nat.add_le_add_right (Vak (Nat.min_le_left _ _) (Vak (Nat.sub_le _ _) this)) _) (by omega)))
   rw [VbW,VbW,VbW] at this;rw [<-VbP] at this;exact this
  ·refine Zkv (w_gx ?_);exact rest λz=>hn (by omega)
 ·refine ZaK (Zjy rfl (Zkv (w_gx ?_)));exact rest λz=>h10 (by omega)
end
section
variable{Φ:D->Prop}{L:List (List Nat)}
def Znu:Ln [115,104,105,110,101]:=ZlX (by decide)
def ZtY:Str.ofString "shine"=mkS [115,104,105,110,101]:=by decide +kernel
def Zm3{cc:Int}(hG:Good L)(hc:0<=cc/\cc<2147483648)(q:∀ts j,Lns ts/\ZcZ ts j->Φ (.tup [.lst (ts.map S),.int (j:Int)])):Tl (Zbl [.lst (L.map S),.int cc]) Φ:=by
 have hl:=hG.len;obtain ⟨w,ew⟩ : ∃w:Nat,cc%12=(w:Int):=⟨(cc%12).toNat,by omega⟩;obtain ⟨k,ek⟩ : ∃k:Nat,cc/12%3=(k:Int):=⟨(cc/12%3).toNat,by omega⟩;have hw:w<12:=by omega
 have hk:k<=2:=by omega
 unfold Zbl;walk_at "w";rw [ew,ek];refine ZdT (λh7=>?_) (λh7=>?_)
 ·walk_at "w";refine ZmU hG hk (by omega) λts j h=>?_;walk_at "w";exact q ts j h
 walk_at "w";refine ZdT (λh0=>?_) (λh0=>?_)
 ·walk_at "w";rw [Zjj (by omega),show (k:Int)+1=((k+1:Nat):Int) from rfl,Zfc (by omega)];refine Zbo (by simp;omega) ?_;walk_at "w";have:=q _ _ (sp0 hG hk);rw [VbW] at this;exact this
 walk_at "w";refine ZdT (λh1=>?_) (λh1=>?_)
 ·walk_at "w";rw [show (k:Int)+1=((k+1:Nat):Int) from rfl,Zjj (by omega),Zfc (by omega)];refine Zbo (by simp;omega) ?_;walk_at "w";have:=q _ _ (sp1 hG hk);rw [VbW] at this;exact this
 walk_at "w";have last:∀{ts:List (List Nat)} {j:Nat},ts.length=L.length->Lns ts/\ZcZ ts j->(w=2->j<=2)->Tl (sq (ifs (bAnd (trb (o2 dEq (v 2) (c (.int 2)))) (trb (o2 dGt (on bLen (Zaa (v 0) yaa)) (c (.int 3))))) (seti 4 (o1 dNeg (c (.int 1))) (c (.str "shine"))) nop) (frz 4 (Dl.ret (mtp (Zaa (v 4) (Zaa (v 3) yaa))))) [.im (.lst (L.map S)),.im (.int cc),.im (.int (w:Int)),.im (.int (j:Int)),.ow (ts.map S)]) λf=>Tl (endOf f) Φ:=by
  intro ts j hlen h h2;refine w_sq (Zqb ?_);walk_at "w";have fin:∀{ts:List (List Nat)},Lns ts/\ZcZ ts j->Tl (frz 4 (Dl.ret (mtp (Zaa (v 4) (Zaa (v 3) yaa)))) [.im (.lst (L.map S)),.im (.int cc),.im (.int (w:Int)),.im (.int (j:Int)),.ow (ts.map S)]) λf=>Tl (endOf f) Φ:=by
   intro ts h;walk_at "w";exact q ts j h
  refine ZdT (λhw2=>?_) (λhw2=>?_)
  ·walk_at "w";rw [VaW];refine ZdT (λhn=>?_) (λhn=>?_)
   ·refine Ziw ?_;walk_at "w";refine w_gO rfl ?_;refine w_o1 ?_;walk_at "w";refine ⟨_,_,rfl,Zno (by rw [VaW];omega),?_⟩;rw [ZtY];have e:=ZkQ ts ((ts.map S).length - 1) [115,104,105,110,101];unfold S at e;have:=fin (spT h (m:=(ts.map S).length - 1) (by rw [VaW];have:=h2 (by omega);omega) Znu);unfold S at this;rw [<-e] at this;unfold S;exact w_gx this
   ·refine Zkv (w_gx ?_);exact fin h
  ·refine ZaK (Zjy rfl (Zkv (w_gx ?_)));exact fin h
 have head:Tl (seti 4 (v 3) (on Zbs (Zaa (v 3) (Zaa (o2 ydd (v 1) (c (.int 36))) yaa))) [.im (.lst (L.map S)),.im (.int cc),.im (.int (w:Int)),.im (.int (k:Int)),.ow (L.map S)]) λf=>Tl (goOn (sq (ifs (bAnd (trb (o2 dEq (v 2) (c (.int 2)))) (trb (o2 dGt (on bLen (Zaa (v 0) yaa)) (c (.int 3))))) (seti 4 (o1 dNeg (c (.int 1))) (c (.str "shine"))) nop) (frz 4 (Dl.ret (mtp (Zaa (v 4) (Zaa (v 3) yaa)))))) f) λf=>Tl (endOf f) Φ:=by
  refine Ziw ?_;walk_at "w";refine w_head hk λt h1 h2=>?_;refine w_gO rfl ?_;walk_at "w";refine ⟨_,k,rfl,Zhr (by rw [VaW];omega),?_⟩;rw [ZkQ];refine w_gx ?_;exact last (by simp) (spS hG (by omega) h1 (by rw [show min k 3=k by omega];exact h2)) (λ_=>hk)
 refine ZdT (λh4=>?_) (λh4=>?_)
 ·refine ZaK (Zle rfl ?_);exact head
 walk_at "w";rw [VaW];refine ZdT (λh3=>?_) (λh3=>?_)
 ·exact head
 walk_at "w";rw [VaW];refine w_mod (by omega) ?_;obtain ⟨m,em⟩ : ∃m:Nat,cc/12%((L.length:Int) - 3)=(m:Int):=⟨(cc/12%((L.length:Int) - 3)).toNat,by have:=Int.emod_nonneg (cc/12) (show (L.length:Int) - 3≠0 by omega);omega⟩;have hm:3+m<L.length:=by
  have:=Int.emod_lt_of_pos (cc/12) (show 0<(L.length:Int) - 3 by omega);omega
 rw [em];refine Zn4 (w_gx (Ziw ?_));rw [show (3:Int)+(m:Int)=((3+m:Nat):Int) by omega];walk_at "w";refine w_nf λd1 hd1=>?_;have b1:=(Bool.and_eq_true_iff.mp (Vbz.mp Zoe d1 hd1)).1;walk_at "w";refine w_nt λd2 hd2=>?_;have b2:=Vbz.mp Zn6 d2 hd2;obtain ⟨dr,dw,rfl,b3⟩ : ∃dr dw,d2=.tup [dr,.str dw]/\badD 3 dr=true:=by
  unfold ntB at b2;split at b2
  ·next dr dw =>
   rw [Vbm,Vbm] at b2;exact ⟨dr,dw,rfl,b2.1.1⟩
  ·cases b2
 walk_at "w";refine Zgg ⟨by omega,by simp;omega⟩ λd hd=>?_;have bd:badD 3 d=true:=by
  simp only [Vaq,Vb1,or_false] at hd;rcases hd with rfl | rfl
  ·exact b1
  ·exact b3
 obtain ⟨t,rfl,h1,h2⟩:=Zhh bd;refine w_gO rfl ?_;walk_at "w";refine ⟨_,3+m,rfl,Zhr (by rw [VaW];omega),?_⟩;rw [ZkQ];refine w_gx ?_;exact last (by simp) (spS hG hm h1 (by rw [show min (3+m) 3=3 by omega];exact h2)) (λz=>by omega)
end
def ZjL{Φ:D->Prop}{ts:List (List Nat)}{k:Nat}(h:Lns ts/\ZcZ ts k)(q:Φ (.tup [.str "row", .int (k:Int)])):Tl (Zao [.str "scene", S (ZaT [10] ts)]) Φ:=by
 obtain ⟨j,hj,e⟩:=Zli h.1 h.2;unfold Zao;walk_at "w";refine Zo6 (c:=tagX j "NoRow") ?_ (by rw [ZfG];decide +kernel) ?_
 ·refine Zts ?_;walk_at "w";refine Zai (x:=.bl true) (by kernel_rfl) ?_;walk_at "w";refine Zrz ?_;walk_at "w";exact e
 walk_at "w";have ask:∀d:D,bIsX tabC tabT [.exc (tagX j "NoRow"),d]=askX tabC tabT "NoRow" d:=by
  intro d;show askX tabC tabT (clsOf (tagX j "NoRow")) d=_;rw [ZfG]
 have at_:dAtC ["NoRow"] (.exc (tagX j "NoRow"))=.ok (.int (k:Int)):=by
  show (if [Str.ofString "NoRow"].contains (clsOf (tagX j "NoRow"))=true then dAt (.exc (tagX j "NoRow")) else .bad)=_
  rw [ZfG,if_pos (by simp)];unfold dAt;dsimp only;rw [ZiI];dsimp only;rw [show (j/2:Nat)=k from hj]
 refine Zai (x:=.bl true) ((ask _).trans (by kernel_rfl)) ?_;walk_at "w";refine Zai (x:=.bl false) ((ask _).trans (by kernel_rfl)) ?_;walk_at "w";refine Zai (x:=.bl false) ((ask _).trans (by kernel_rfl)) ?_;walk_at "w";refine Zai (x:=.bl false) ((ask _).trans (by kernel_rfl)) ?_;walk_at "w";refine Zai (x:=.bl false) ((ask _).trans (by kernel_rfl)) ?_;walk_at "w";refine Zbo (by decide) ?_;walk_at "w";refine Zai (x:=.int 1) (by kernel_rfl) ?_;walk_at "w";refine Zai (x:=.bl true) ((ask _).trans (by kernel_rfl)) ?_;walk_at "w";refine Zai at_ ?_;walk_at "w";refine Zai at_ ?_;walk_at "w";exact q
def ZnG(ns:List Int)(lo hi:Option Int):∃ms:List Int,cutL (ns.map .int) lo hi=ms.map .int/\ms.length<=ns.length/\∀m∈ms,m∈ns:=by
 refine ⟨(ns.drop (cutAt ns.length 0 lo)).take (cutAt ns.length ns.length hi - cutAt ns.length 0 lo),?_,?_,λm hm=>Vcd (Vce hm)⟩
 ·unfold cutL;rw [VaW,List.map_take,List.map_drop]
 ·rw [Va7,Vbj];omega
def ZoL(d:D):Bool:=match Zao [.str "scene", d] with
 | .ok (.tup [.str x,.int n])=>x == "row"&&n==0
 | _=>false
def Zng{d:D}(h:ZoL d=true):Zao [.str "scene", d]=.ok (.tup [.str "row", .int 0]):=by
 unfold ZoL at h;split at h
 ·next x n e =>
  rw [Vbm,VaR,VaR] at h;rw [e,h.1,h.2]
 ·cases h
def Zpn:(([.non,.int 7,.lst [.str "floor 1 1"]]:List D).all λd=>ZoL d&&caB d "row")=true:=by decide +kernel
def Zcs(k:Int):plain 50 (.tup [.str "row", .int k])=true:=by
 show (plain 49 (.str "row")&&Zaz 49 [.int k])=true;rw [show plain 49 (.str "row")=true by decide +kernel];rfl
def Zrt:Ln []:=ZlX rfl
def Zsq{L:List (List Nat)}(hG:Good L):Lns (L++[[]])/\ZcZ (L++[[]]) L.length:=by
 have hl:=hG.len;have hx:exB (rd (min L.length 3) [S []])=true:=by
  rw [show min L.length 3=3 by omega];decide +kernel
 have e:(L++[[]])[L.length]?=some []:=by rw [Va9 (VaL _),Nat.sub_self];rfl
 refine ⟨.of (λu hu=>?_) (by simp) (by simp;omega),Zfr hG (λi hi=>Vbb hi) (VaL _) (λu eu=>?_) (λen=>?_)⟩
 ·rcases Var.mp hu with hu | hu
  ·exact hG.ln u hu
  ·rw [VbU.mp hu];exact Zrt
 ·rw [e] at eu;injection eu with eu
  rw [<-eu];exact hx
 ·rw [e] at en;cases en
def Zmu(ns:List Int)(h63:ns.length<=63):Zo5 [.lst (ns.map .int)]=.ok (.bl true):=by
 refine Zeq ?_;unfold Zo5;obtain ⟨ms,em,lm,-⟩:=ZnG ns none (some 16);walk_at "w";rw [em];refine Zbo (by simp;omega) ?_;walk_at "w";refine Ztx (λρ=>∃v1 v2 v3 v4 v5 v6 v7:Cl,ρ=[.im (.lst (ns.map .int)),v1,v2,v3,v4,v5,v6,v7]) ⟨_,_,_,_,_,_,_,rfl⟩ ?_ ?_
 ·rintro x hx ρ ⟨v1,v2,v3,v4,v5,v6,v7,rfl⟩;obtain ⟨cc,rfl⟩ : ∃cc:Int,x=.int cc:=by
   rcases Var.mp hx with hx | hx
   ·simp only [Vaq,Vb1,or_false] at hx;rcases hx with rfl | rfl | rfl
    ·exact ⟨_,rfl⟩
    ·exact ⟨_,rfl⟩
    ·exact ⟨_,rfl⟩
   ·obtain ⟨m,_,rfl⟩:=Vby.mp hx;exact ⟨_,rfl⟩
  clear hx;walk_at "w";refine ZrO λL hG=>?_;have hL:=hG.lns;have hl:=hG.len;have ha:∀{ts:List (List Nat)},Lns ts->Asc (ZaT [10] ts):=by
   intro ts h c hc;have:∀ws:List (List Nat),(∀w∈ws,Asc w)->Asc (ZaT [10] ws):=by
    intro ws
    induction ws with
    | nil=>intro _ c hc;cases hc
    | cons w r ih =>
     intro h;cases r with
     | nil=>exact h w Van
     | cons x r=>exact Asc.app (Asc.app (h w Van) (Zc2 rfl)) (ih λu hu=>h u (Vao _ hu))
   exact this ts (λw hw=>(h.ln w hw).a) c hc
  obtain ⟨d,e1,e2⟩:=Zkz hG;walk_at "w";refine w_sD ?_;walk_at "w";refine ⟨_,rfl,?_⟩;walk_at "w";rw [litN];refine ZdB (ls:=L) (Vak hL.tot (by decide)) ?_;walk_at "w";refine Zai e1 ?_;walk_at "w";refine Zai e2 ?_;walk_at "w";refine w_sD ?_;walk_at "w";refine ⟨_,rfl,?_⟩;walk_at "w";refine ZdB (ls:=L) (Vak hL.tot (by decide)) ?_;refine ZmX (ha hL) (ha hL) ?_;rw [Vbt rfl];walk_at "w";refine ZcA (by omega) λr1 hr1=>?_;walk_at "w";refine Zm3 hG hr1 λts k hts=>?_;walk_at "w";refine w_sD ?_;walk_at "w";refine ⟨_,rfl,?_⟩;walk_at "w";refine ZdB (ls:=ts) (Vak hts.1.tot (by decide)) ?_;walk_at "w";refine ZjL hts ?_;walk_at "w";refine ZlL (Zcs _) ?_;walk_at "w";refine w_sD ?_;walk_at "w";refine ⟨_,rfl,?_⟩;walk_at "w";refine Zbo (by simp;omega) ?_;have hn:=Zsq hG;rw [lit0,show L.map S++[.str (mkS [])]=(L++[[]]).map S by rw [VbW];rfl];refine ZdB (ls:=L++[[]]) (Vak hn.1.tot (by decide)) ?_;walk_at "w";refine ZjL hn ?_;walk_at "w";rw [VaW];refine ZlL (Zcs _) ?_;walk_at "w";refine ZjZ λts2 hl2 ht2=>?_;refine Zbo (by simp;omega) ?_;walk_at "w";refine Zbo (by simp;omega) ?_;obtain ⟨t,et,ht⟩ : ∃t,(L++ts2++[cpL "plain 1"])[3]?=some t/\t∈thL++[cpL "plain 1"]:=by
   obtain ⟨a,b,g,s,ts0,_,_,_,_,ht0,_,rfl⟩:=hG.ex;show ∃t,(ts0++ts2++[cpL "plain 1"])[0]?=some t/\_;cases ts0 with
   | cons t r=>exact ⟨t,rfl,Vas _ (ht0 t Van)⟩
   | nil =>
    cases ts2 with
    | cons t r=>exact ⟨t,rfl,Vas _ (ht2 t Van)⟩
    | nil=>exact ⟨_,rfl,VaO _ Van⟩
  have ep:L.map S++ts2.map S++[.str "plain 1"]=(L++ts2++[cpL "plain 1"]).map S:=by
   rw [VbW,VbW];unfold S;rw [VaV,Zbb];rfl
  rw [ep];have hnl:=Vbz.mp Zsw t ht;rw [Vbm] at hnl;have hlt:=(ZlX hnl.1).l;walk_at "w";refine Zai (Zke (k:=3) et) ?_;walk_at "w";refine ZjV (by simp;omega) ?_;walk_at "w";refine Zai (ZjI hnl.2) ?_;walk_at "w";refine ZlL (Zcs 0) ?_;walk_at "w";refine ZcA (by omega) λr2 hr2=>?_;walk_at "w";refine w_nf λd1 hd1=>?_;have b1:=(Bool.and_eq_true_iff.mp (Vbz.mp Zoe d1 hd1)).2;walk_at "w";refine Zai (ZjI b1) ?_;walk_at "w";refine ZlL (Zcs 0) ?_;walk_at "w";refine ZcA (by omega) λr3 hr3=>?_;walk_at "w";refine w_nt λd2 hd2=>?_;have b2:=Vbz.mp Zn6 d2 hd2;obtain ⟨dr,dw,rfl,b3,b4⟩ : ∃dr dw,d2=.tup [dr,.str dw]/\caB dr dw=true/\plain 50 (.tup [.str dw,.int 0])=true:=by
   unfold ntB at b2;split at b2
   ·next dr dw =>
    rw [Vbm,Vbm] at b2;exact ⟨dr,dw,rfl,b2.1.2,b2.2⟩
   ·cases b2
  walk_at "w";refine Zai (ZjI b3) ?_;walk_at "w";refine ZlL b4 ?_;walk_at "w";exact ⟨_,rfl,_,_,_,_,_,_,_,rfl⟩
 ·rintro ρ ⟨v1,v2,v3,v4,v5,v6,v7,rfl⟩;walk_at "w";refine Zgg ⟨by omega,by simp;omega⟩ λd hd=>?_;have ho:=Vbz.mp Zpn d hd;rw [Vbm] at ho;walk_at "w";refine Zai (Zng ho.1) ?_;walk_at "w";refine Zrj (Zcs 0) ?_;walk_at "w";refine Zai (ZjI ho.2) ?_;walk_at "w";refine Zrj (Zcs 0) ?_;walk_at "w"
end My
namespace My
open PySem L2 Ds Dl
def top(i:Nat):Stmt:=PySem.Challenge.pw_sampleyard_k83_rows_refused.main.body.getD i (.Pass ⟨0,0,0,0⟩)
abbrev Zdk:Stmt:=top 57
abbrev ZeR:Stmt:=top 9
abbrev ZdC:Stmt:=top 10
abbrev Zc1:Stmt:=top 25
abbrev Zb7:Stmt:=top 49
abbrev Zbd:Stmt:=top 50
abbrev ZcR:Stmt:=top 47
abbrev ZcX:Stmt:=top 46
abbrev ZbH:Stmt:=top 51
abbrev Zdt:Stmt:=top 66
abbrev Zbk:Stmt:=top 11
abbrev ZcI:Stmt:=top 13
abbrev ZbO:Stmt:=top 48
abbrev ZcM:Stmt:=top 67
abbrev ZfL:Stmt:=top 27
abbrev ZcH:Stmt:=top 26
abbrev Zej:Stmt:=top 69
abbrev Zdi:Stmt:=top 68
abbrev Zd5:Stmt:=top 58
abbrev ZcU:Stmt:=top 59
abbrev Zbj:Stmt:=top 21
abbrev Zc9:Stmt:=top 18
abbrev Zee:Stmt:=top 17
abbrev ZbI:Stmt:=top 16
abbrev Zby:Stmt:=(inClass (top 33) 0)
abbrev Zcl:Stmt:=top 39
abbrev Zds:Stmt:=top 40
abbrev Zbw:Stmt:=(inClass (top 37) 0)
abbrev ZbP:Stmt:=top 30
abbrev Zcc:Stmt:=top 38
abbrev Zhp:Stmt:=top 31
abbrev Za2:Stmt:=(inClass (top 36) 0)
abbrev Zbv:Stmt:=(inClass (top 34) 0)
abbrev Zbi:Stmt:=(inClass (top 35) 0)
abbrev Zcj:Stmt:=top 61
abbrev ZeV:Stmt:=top 60
abbrev Zdr:Stmt:=top 56
abbrev ZfV:Stmt:=top 65
abbrev Zdg:Stmt:=top 64
abbrev ZcC:Stmt:=top 77
abbrev Zdb:Stmt:=top 71
abbrev Zcg:Stmt:=top 75
abbrev ZbV:Stmt:=top 76
abbrev ZcG:Stmt:=top 72
abbrev Zeb:Stmt:=top 73
abbrev Zeh:Stmt:=top 74
abbrev Zbc:Stmt:=top 78
abbrev ZcT:Stmt:=top 79
abbrev ZcB:Stmt:=top 44
abbrev ZbL:Stmt:=top 45
abbrev Zea:Stmt:=top 63
abbrev ZdA:Stmt:=top 19
abbrev ZcD:Stmt:=top 55
abbrev ZcL:Stmt:=(inClass (top 37) 1)
abbrev Zbx:Stmt:=(inClass (top 36) 1)
abbrev Zcy:Stmt:=(inClass (top 34) 1)
abbrev Zci:Stmt:=(inClass (top 35) 1)
abbrev Zb9:Stmt:=top 54
abbrev Zdx:Stmt:=top 53
abbrev ZdF:Stmt:=top 52
abbrev Zdd:Stmt:=top 62
abbrev Zhw:Stmt:=top 80
local macro_rules | `(tactic| walk_at "sc")=>`(tactic| exact ⟨rfl,rfl,rfl,by decide +kernel,rfl,by decide +kernel,by decide +kernel⟩)
abbrev Zbr:Stmt:=(inClass (top 7) 0)
def Zbz{P:Program}{w:World}{K:W.Frag}{mg:Str->Option Value}{base:Heap}{C:Addr}(h:ZjW K C "NoRow.__init__" Zbr):MkX P w K mg base 1 C:=h.mk' (by walk_at "sc") rfl (Or.inl rfl) (Or.inl rfl) (λ_ _ _=>rfl)
def Zes:Zaf ["text"] ["text"] (Zac Zdk):=by walk_at "sc"
def Zfz:Zaf ["thing"] ["thing"] (Zac ZeR):=by walk_at "sc"
def ZeD:Zaf ["thing", "least", "most"] ["thing", "least", "most"] (Zac ZdC):=by walk_at "sc"
def ZdV:Zaf ["width", "height"] ["width", "height"] (Zac Zc1):=by walk_at "sc"
def ZbQ:Zaf ["head", "row", "words"] ["head", "row"] (Zac Zb7):=by walk_at "sc"
def ZbJ:Zaf ["head", "row", "count", "words"] ["head", "row", "count"] (Zac Zbd):=by walk_at "sc"
def ZdY:Zaf ["word"] ["word"] (Zac ZcR):=by walk_at "sc"
def Zb8:Zaf ["word", "figures"] ["word"] (Zac ZcX):=by walk_at "sc"
def Zct:Zaf ["head", "row", "count"] ["head", "row", "count"] (Zac ZbH):=by walk_at "sc"
def ZeF:Zaf ["row", "size"] ["row"] (Zac Zdt):=by walk_at "sc"
def ZbS:Zaf ["numbers", "found", "number", "rest", "left"] ["numbers"] (Zac Zbk):=by walk_at "sc"
def Zd0:Zaf ["thing"] ["thing"] (Zac ZcI):=by walk_at "sc"
def ZbE:Zaf ["word", "pieces", "fraction"] ["word"] (Zac ZbO):=by walk_at "sc"
def Zd3:Zaf ["row"] ["row"] (Zac ZcM):=by walk_at "sc"
def ZgA:Zaf ["thing"] ["thing"] (Zac ZfL):=by walk_at "sc"
def ZdU:Zaf ["spots"] ["spots"] (Zac ZcH):=by walk_at "sc"
def Ze3:Zaf ["word"] ["word"] (Zac Zej):=by walk_at "sc"
def ZcF:Zaf ["row", "spots"] ["row"] (Zac Zdi):=by walk_at "sc"
def Zdw:Zaf ["words", "groups", "word"] ["words"] (Zac Zd5):=by walk_at "sc"
def Zch:Zaf ["words", "numbers"] ["words"] (Zac ZcU):=by walk_at "sc"
def ZbM:Zaf ["corners", "corner"] ["corners"] (Zac Zbj):=by walk_at "sc"
def Zeu:Zaf ["thing"] ["thing"] (Zac Zc9):=by walk_at "sc"
def ZeY:Zaf ["thing"] ["thing"] (Zac Zee):=by walk_at "sc"
def Zcr:Zaf ["triangle", "corner"] ["triangle"] (Zac ZbI):=by walk_at "sc"
def Zb1:Zaf ["self", "triangle"] ["self", "triangle"] (Zac Zby):=by walk_at "sc"
def Zdz:Zaf ["colour"] ["colour"] (Zac Zcl):=by walk_at "sc"
def Zew:Zaf ["part"] ["part"] (Zac Zds):=by walk_at "sc"
def Zb3:Zaf ["self", "triangle", "colour", "part"] ["self", "triangle", "colour", "part"] (Zac Zbw):=by walk_at "sc"
def Zc3:Zaf ["pattern", "row"] ["pattern"] (Zac ZbP):=by walk_at "sc"
def Zdp:Zaf ["triangle", "least"] ["triangle", "least"] (Zac Zcc):=by walk_at "sc"
def Zh2:Zaf ["pattern"] ["pattern"] (Zac Zhp):=by walk_at "sc"
def Zbp:Zaf ["self", "triangle", "pattern"] ["self", "triangle", "pattern"] (Zac Za2):=by walk_at "sc"
def Zb4:Zaf ["self", "triangle", "colour"] ["self", "triangle", "colour"] (Zac Zbv):=by walk_at "sc"
def ZbU:Zaf ["self", "triangle"] ["self", "triangle"] (Zac Zbi):=by walk_at "sc"
def Zdj:Zaf ["word"] ["word"] (Zac Zcj):=by walk_at "sc"
def Zfp:Zaf ["head", "triangle"] ["head", "triangle"] (Zac ZeV):=by walk_at "sc"
def ZcE:Zaf ["row", "groups"] ["row"] (Zac Zdr):=by walk_at "sc"
def Zgp:Zaf ["rows", "number", "read"] ["rows", "number", "read"] (Zac ZfV):=by walk_at "sc"
def ZaW:Zaf ["text", "rows", "size", "ground", "spots", "things"] ["text"] (Zac Zdg):=by walk_at "sc"
def Za8:Zaf ["_law_way", "_law_handed", "_law_error", "e", "_law_kinds"] ["_law_way", "_law_handed"] (Zac ZcC):=by walk_at "sc"
def Zel:Zaf ["_law_cell", "_law_k", "_law_number"] ["_law_cell", "_law_k"] (Zac Zdb):=by walk_at "sc"
def Za3:Zaf ["_law_cell", "_law_three", "_law_two", "_law_some", "_law_far"] ["_law_cell"] (Zac Zcg):=by walk_at "sc"
def ZaN:Zaf ["_law_cell", "_law_three", "_law_two", "_law_some"] ["_law_cell"] (Zac ZbV):=by walk_at "sc"
def ZdX:Zaf ["_law_cell", "_law_some"] ["_law_cell"] (Zac ZcG):=by walk_at "sc"
def Ze2:Zaf ["_law_cell", "_law_rows_here"] ["_law_cell"] (Zac Zeb):=by walk_at "sc"
def Zdq:Zaf ["_law_at", "_law_cell", "_law_some", "_law_many"] ["_law_at", "_law_cell"] (Zac Zeh):=by walk_at "sc"
def Za7:Zaf ["_law_rows_here", "_law_way", "_law_at", "_law_one", "_law_other", "_law_found"] ["_law_rows_here", "_law_way", "_law_at"] (Zac Zbc):=by walk_at "sc"
def Zcb:Zaf ["_law_rows_here", "_law_cell", "_law_way", "_law_at", "_law_found"] ["_law_rows_here", "_law_cell"] (Zac ZcT):=by walk_at "sc"
def ZdW:Zaf ["number", "pieces", "rest"] ["number"] (Zac ZcB):=by walk_at "sc"
def Zc5:Zaf ["fraction"] ["fraction"] (Zac ZbL):=by walk_at "sc"
def ZeX:Zaf ["pair"] ["pair"] (Zac Zea):=by walk_at "sc"
def ZeE:Zaf ["corner"] ["corner"] (Zac ZdA):=by walk_at "sc"
def Zd1:Zaf ["corner"] ["corner"] (Zac ZcD):=by walk_at "sc"
def Zd4:Zaf ["self"] ["self"] (Zac ZcL):=by walk_at "sc"
def ZbZ:Zaf ["self"] ["self"] (Zac Zbx):=by walk_at "sc"
def Zd2:Zaf ["self"] ["self"] (Zac Zcy):=by walk_at "sc"
def Zde:Zaf ["self"] ["self"] (Zac Zci):=by walk_at "sc"
def Zdv:Zaf ["pattern"] ["pattern"] (Zac Zb9):=by walk_at "sc"
def Zc0:Zaf ["thing", "word"] ["thing"] (Zac Zdx):=by walk_at "sc"
def Zeo:Zaf ["thing"] ["thing"] (Zac ZdF):=by walk_at "sc"
def ZcJ:Zaf ["scene", "rows"] ["scene"] (Zac Zdd):=by walk_at "sc"
def ZnM:Zaf ["_law_script", "_law_cell", "_law_rows_here", "_law_found", "_law_at", "_law_row", "_law_word", "_law_thing"] ["_law_script"] (Zac Zhw):=by walk_at "sc"
structure Txt(P:Program)(w:World)(base:Heap)(K:W.Frag)(mg:Str->Option Value):Prop where
 ycF:mg "ValueError"=none
 ydv:mg "abs"=none
 yde:mg "all"=none
 ydr:mg "bool"=none
 yds:mg "int"=none
 yae:mg "isinstance"=none
 ydl:mg "len"=none
 yc6:mg "list"=none
 ydf:mg "range"=none
 yc7:mg "reversed"=none
 ydw:mg "set"=none
 ydt:mg "str"=none
 ycj:mg "tuple"=none
 yb1:∃tk,mg "FIGURES"=some (.str "0123456789" tk)
 yaP:∃tk,mg "MOST_CELLS"=some (.int 64 tk)
 yaS:∃tk,mg "MOST_FIGURES"=some (.int 30 tk)
 ybe:∃tk,mg "MOST_SPOTS"=some (.int 16 tk)
 yaV:∃tk,mg "MOST_VALUES"=some (.int 3 tk)
 t_COUNTS:GTup K mg "COUNTS" [1,2,4,8,16]
 yc8:∃C,mg "BadFloor"=some (.ref C)
 ycG:∃C,mg "BadPattern"=some (.ref C)
 yc9:∃C,mg "BadThing"=some (.ref C)
 yck:∃C,mg "BadTriangle"=some (.ref C)
 ydm:∃C,mg "NoRow"=some (.ref C)
 yb2:∃C,mg "YardError"=some (.ref C)
 ycf:∃C,mg "BadFloor"=some (.ref C)/\W.excIn K C Zc7 "ValueError.__new__"=true
 ycH:∃C,mg "BadPattern"=some (.ref C)/\W.excIn K C Zc7 "ValueError.__new__"=true
 ybM:∃C,mg "BadThing"=some (.ref C)/\W.excIn K C Zc7 "ValueError.__new__"=true
 ybB:∃C,mg "BadTriangle"=some (.ref C)/\W.excIn K C Zc7 "ValueError.__new__"=true
 yaW:∃C,mg "NoRow"=some (.ref C)/\ZjW K C "NoRow.__init__" Zbr
 h_YardError:∀C,mg "YardError"=some (.ref C)->∀c∈(["BadFloor", "BadPattern", "BadThing", "BadTriangle", "NoRow"]:List Str),∃D,mg c=some (.ref D)/\W.exmOne K (.ref D) (.ref C)=some true
 tab:TabOk K mg tabC tabT
 at_:AtOk K mg ["NoRow"]
 f_colour:ZeU K mg objs "colour"
 f_part:ZeU K mg objs "part"
 f_pattern:ZeU K mg objs "pattern"
 f_triangle:ZeU K mg objs "triangle"
section
variable{P:Program}{w:World}{K:W.Frag}{mg:Str->Option Value}{base:Heap}
set_option hygiene false in
local macro_rules | `(tactic| walk_at "e")=>`(tactic| repeat' first
 | exact ZbA
 | exact ZtP
 | exact ydi
 | exact ZaL
 | exact Zan
 | exact ZgQ
 | exact d_v _
 | refine' Zad ?_ ?_
 | refine' ydo ?_ ?_
 | refine' ZbY (by first | assumption | exact CalO.cal (by assumption) | exact CalN.cal (by assumption)) hr (by decide) rfl ZaM ?_
 | refine' ZqD (by first | assumption | exact CalO.cal (by assumption) | exact CalN.cal (by assumption)) hr (by decide) rfl ?_
 | refine' Zld (by first | assumption | exact CalO.cal (by assumption) | exact CalN.cal (by assumption)) hr (by decide) rfl ?_
 | refine' ZfK ?_ ?_
 | refine' Zto ?_ ?_
 | refine' ZtZ ?_ ?_
 | refine' Zra ?_ ?_
 | refine' ZtH ?_ ?_
 | refine' Zt6 ?_ ?_
 | refine' Zum ?_ ?_
 | refine' ZtU ?_ ?_
 | refine' Znb ?_ ?_
 | refine' Zti ?_ ?_
 | refine' Zui ?_ ?_
 | refine' Zt1 ?_ ?_
 | refine' d_lt ?_ ?_
 | refine' ydy ?_ ?_
 | refine' d_gt ?_ ?_
 | refine' ydz ?_ ?_
 | refine' ZhC ?_ ?_
 | refine' Zou ?_ ?_
 | refine' Zt4 ?_ ?_
 | refine' d_or ?_ ?_
 | refine' ZiS hr ?_ ?_
 | refine' Zlw hr ?_ ?_
 | refine' dt_in hr ?_ ?_
 | refine' Zl8 hr ?_ ?_
 | refine' ydA hr ?_ ?_
 | refine' d_ne hr ?_ ?_
 | refine' d_in hr ?_ ?_
 | refine' d_nin hr ?_ ?_
 | exact ydn rfl T.ycF Zg7
 | exact ydn rfl T.ydr Zqq
 | exact ydn rfl T.yds Zoq
 | exact ydn rfl T.yc6 ZgR
 | exact ydn rfl T.ydt Zoi
 | exact ydn rfl T.ycj Zfg
 | refine' ycY ZnJ Zmi rfl T.ydv ZrX ?_
 | refine' ycY ZdI (Zco T.tab) rfl T.yae ZaO ?_
 | refine' ycY Zip Zin rfl T.yae ZaO ?_
 | refine' ycY Zmq Zkt rfl T.ydl Zk4 ?_
 | refine' ycY Ziv Zlq rfl T.ydl Zk4 ?_
 | refine' ydp Zl3 Zkr rfl T.yds Zoq ?_
 | refine' ydp Ze1 Zkq rfl T.yc6 ZgR ?_
 | refine' ydp ZhH Zk2 rfl T.ydt Zoi ?_
 | refine' ydp Zcx Zek rfl T.ycj Zfg ?_
 | refine' ZmR T.f_colour ?_
 | refine' ZmR T.f_part ?_
 | refine' ZmR T.f_pattern ?_
 | refine' ZmR T.f_triangle ?_
 | refine' ZqJ ?_ ?_
 | refine' Zkx ?_ ?_
 | refine' Zud ?_ ?_ ?_
 | refine' ZrP ?_ ?_ ?_
 | refine' Zrp ?_
 | refine' ZgB ?_
 | refine' ZtO ?_
 | refine' dt_isN ?_
 | refine' dt_notN ?_
 | refine' d_isN ?_
 | refine' d_notN ?_
 | refine' Zht ?_
 | refine' Zuc ?_
 | refine' ZfB ?_
 | refine' Zpu ?_
 | refine' Zey ?_
 | refine' DW.dt ?_
 | exact Zav
 | exact Zqg
 | exact ds_retN
 | exact ds_cnt
 | exact ds_brk
 | exact ds_pass
 | refine' Zaj ?_
 | refine' Zab ?_ ?_
 | refine' ZaJ ?_
 | refine' Za5 ?_ ?_ ?_
 | refine' ZbD hN rfl (by first | exact Or.inl rfl | exact Or.inr rfl) ?_
 | refine' ZoN hN rfl (by first | exact Or.inl rfl | exact Or.inr rfl) ?_ ?_
 | refine' ZlG _ ?_
 | refine' ZsT ?_
 | refine' ZsI ?_ ?_
 | refine' ZjG Vcf rfl ?_ ?_ ?_
 | exact ZkC hN rfl (by first | exact Or.inl rfl | exact Or.inr rfl) (by decide)
 | refine' Zs1 rfl ?_
 | refine' Zmt ?_ ?_
 | refine' Zuj rfl T.ydf ?_
 | refine' Zb2 ?_
 | refine' Zgw ?_
 | refine' Zie rfl ycg ych ?_ ?_
 | refine' Zie rfl ycI ycJ ?_ ?_
 | refine' Zie rfl ybs ybt ?_ ?_
 | refine' Zie rfl ybC ybD ?_ ?_
 | decide
 | fail)
local macro_rules | `(tactic| walk_at "co")=>`(tactic| exact Zcv.of rfl rfl (by kernel_rfl) rfl (by repeat' (first | exact trivial | refine ⟨rfl,?_⟩)) (by repeat' (first | exact trivial | refine ⟨rfl,?_⟩)))
local macro_rules | `(tactic| walk_at "cg")=>`(tactic| exact λ_ _ _ _ _=>ZkC (by show List.Nodup ((_:List Str) ++ (_:List Str));decide +kernel) rfl (by first | exact Or.inl rfl | exact Or.inr rfl) (by decide))
local macro_rules | `(tactic| walk_at "ct")=>`(tactic| exact λ_ _ _ _ _=>ZpO)
local macro_rules | `(tactic| walk_at "ce")=>`(tactic| (intro _ _ _ _ _;walk_at "e"))
variable(T:Txt P w base K mg)
include T
theorem Zhv(D:Def K mg "check_text" Zdk ["text"])  : Cal P w K mg base 3  "check_text" ["text"] ZaR:=by
 obtain ⟨ybf,yag,yah⟩:=T.yaW
 exact D.cal Zes (λf cdv A outer s H E hr=>have hN:=Zes.nd;⟨_,(Zaj (Za5 (by walk_at "e")
  (Zaj (ZcQ (Zbz yah) hr (by decide) rfl yag (Zad ZbA Zan)))
  Zav))⟩)
theorem ZiM(D:Def K mg "is_whole" ZeR ["thing"])  : Cal P w K mg base 1  "is_whole" ["thing"] ZaS:=by
 exact D.cal Zfz (λf cdv A outer s H E hr=>have hN:=Zfz.nd;⟨_,(by walk_at "e")⟩)
theorem ZgS(D:Def K mg "is_between" ZdC ["thing", "least", "most"])(ybN:Cal P w K mg base 1  "is_whole" ["thing"] ZaS):Cal P w K mg base 2  "is_between" ["thing", "least", "most"] ZaQ:=by
 exact D.cal ZeD (λf cdv A outer s H E hr=>have hN:=ZeD.nd;⟨_,(by walk_at "e")⟩)
theorem Zf5(D:Def K mg "check_floor" Zc1 ["width", "height"])(ybg:Cal P w K mg base 2  "is_between" ["thing", "least", "most"] ZaQ):Cal P w K mg base 3  "check_floor" ["width", "height"] Zbh:=by
 obtain ⟨yda,ycg,ych⟩:=T.ycf;obtain ⟨tk_MOST_CELLS,yaP⟩:=T.yaP
 exact D.cal ZdV (λf cdv A outer s H E hr=>have hN:=ZdV.nd;⟨_,(Zaj (Za5 (DW.dt (ZhC (ZgB (Zey (ZbY ybg hr (by decide) rfl ZaM (Zad (d_v 0) (Zad ZbA (Zad (ydq rfl yaP) Zan)))))) (ZfB (ZgB (Zey (ZbY ybg hr (by decide) rfl ZaM (Zad (d_v 1) (Zad ZbA (Zad (ydq rfl yaP) Zan)))))))))
  (by walk_at "e")
  Zav))⟩)
theorem ZfR(D:Def K mg "words_behind" Zb7 ["head", "row"])  : Cal P w K mg base 3  "words_behind" ["head", "row"] ZaB:=by
 obtain ⟨ybf,yag,yah⟩:=T.yaW
 exact D.cal ZbQ (λf cdv A outer s H E hr=>have hN:=ZbQ.nd;⟨_,(Zab (ZbD (i:=2) ZbQ.nd rfl (Or.inl rfl) (yb7 Vb7 Vcg ZdL Zcw (d_v 1) ZaL))
  (Zab (Za5 (by walk_at "e")
  (Zaj (ZcQ (Zbz yah) hr (by decide) rfl yag (Zad ZbA Zan)))
  Zav)
  (by walk_at "e")))⟩)
theorem ZdO(D:Def K mg "just_words_behind" Zbd ["head", "row", "count"])(yb8:Cal P w K mg base 3  "words_behind" ["head", "row"] ZaB):Cal P w K mg base 4  "just_words_behind" ["head", "row", "count"] Zas:=by
 obtain ⟨ybf,yag,yah⟩:=T.yaW
 exact D.cal ZbJ (λf cdv A outer s H E hr=>have hN:=ZbJ.nd;⟨_,(Zab (by walk_at "e")
  (Zab (Za5 (by walk_at "e")
  (Zaj (ZcQ (Zbz yah) hr (by decide) rfl yag (Zad ZbA Zan)))
  Zav)
  (by walk_at "e")))⟩)
theorem Zf7(D:Def K mg "are_figures" ZcR ["word"])  : Cal P w K mg base 1  "are_figures" ["word"] Zbf:=by
 obtain ⟨tk_FIGURES,yb1⟩:=T.yb1;obtain ⟨tk_MOST_FIGURES,yaS⟩:=T.yaS
 exact D.cal ZdY (λf cdv A outer s H E hr=>have hN:=ZdY.nd;⟨_,(Zab (Za5 (DW.dt (ZhC (Zlw hr (d_v 0) ZaL) (ZfB (Znb (by walk_at "e") (ydq rfl yaS)))))
  (Zaj (ZaJ ydi))
  Zav)
  (Zab (Za5 (DW.dt (Zou (Zey (yb7 Vb5 PySem.F.type_str_startswith Zh7 ZgL (d_v 0) ZaL)) (by walk_at "e")))
  (Zaj (ZaJ ydi))
  Zav)
  (Zaj (ZaJ (ycY (Zdc rfl) Zc8 rfl T.yde ZhT (Zad (Zcq (own:=["sign"]) (cap:=[]) (Zs4 (d_v 0)) (by walk_at "co") rfl (by walk_at "cg") (by walk_at "ct") (λ_ _ _ _ _=>(Zub (d_v 0) (ydB rfl yb1)))) Zan))))))⟩)
theorem Zgh(D:Def K mg "read_number" ZcX ["word"])(c_are_figures:Cal P w K mg base 1  "are_figures" ["word"] Zbf):Cal P w K mg base 3  "read_number" ["word"] Zap:=by
 obtain ⟨ybf,yag,yah⟩:=T.yaW
 exact D.cal Zb8 (λf cdv A outer s H E hr=>have hN:=Zb8.nd;⟨_,(Zab (ZbD (i:=1) Zb8.nd rfl (Or.inl rfl) (ZrP (Zey (yb7 Vb5 PySem.F.type_str_startswith Zh7 ZgL (d_v 0) ZaL)) (Zk3 (d_v 0) (Zht ZbA) ZgQ) (d_v 0)))
  (Zab (Za5 (by walk_at "e")
  (Zaj (ZcQ (Zbz yah) hr (by decide) rfl yag (Zad ZbA Zan)))
  Zav)
  (by walk_at "e")))⟩)
theorem ZeJ(D:Def K mg "numbers_behind" ZbH ["head", "row", "count"])(ybz:Cal P w K mg base 4  "just_words_behind" ["head", "row", "count"] Zas)(yaX:Cal P w K mg base 3  "read_number" ["word"] Zap):Cal P w K mg base 5  "numbers_behind" ["head", "row", "count"] ZaY:=by
 exact D.cal Zct (λf cdv A outer s H E hr=>have hN:=Zct.nd;⟨_,(Zaj (ZaJ (ZfA (ZfE.blk ⟨rfl,rfl,rfl,rfl⟩) (own:=["word"]) (cap:=[]) (by walk_at "e") (by walk_at "co") rfl (by walk_at "cg") (by walk_at "ct") (by walk_at "ce"))))⟩)
theorem Zhi(D:Def K mg "read_floor" Zdt ["row"])(c_check_floor:Cal P w K mg base 3  "check_floor" ["width", "height"] Zbh)(c_numbers_behind:Cal P w K mg base 5  "numbers_behind" ["head", "row", "count"] ZaY):Cal P w K mg base 6  "read_floor" ["row"] ZaH:=by
 exact D.cal ZeF (λf cdv A outer s H E hr=>have hN:=ZeF.nd;⟨_,(by walk_at "e")⟩)
theorem Zei(D:Def K mg "greatest_divisor" Zbk ["numbers"])  : Cal P w K mg base 1  "greatest_divisor" ["numbers"] Zbg:=by
 exact D.cal ZbS (λf cdv A outer s H E hr=>have hN:=ZbS.nd;⟨_,(Zab (by walk_at "e")
  (Zab (ZjG Vcf rfl (Zb2 (d_v 0)) (by walk_at "e")
  (Zab (by walk_at "e")
  (Zaj (ZnN Vcf (ZiS hr (d_v 3) ZbA)
  (by walk_at "e")))))
  (by walk_at "e")))⟩)
theorem Zgm(D:Def K mg "is_fraction" ZcI ["thing"])(ybN:Cal P w K mg base 1  "is_whole" ["thing"] ZaS)(c_greatest_divisor:Cal P w K mg base 1  "greatest_divisor" ["numbers"] Zbg):Cal P w K mg base 2  "is_fraction" ["thing"] ZaF:=by
 exact D.cal Zd0 (λf cdv A outer s H E hr=>have hN:=Zd0.nd;⟨_,(by walk_at "e")⟩)
theorem Ze6(D:Def K mg "read_fraction" ZbO ["word"])(yaX:Cal P w K mg base 3  "read_number" ["word"] Zap)(yaY:Cal P w K mg base 2  "is_fraction" ["thing"] ZaF):Cal P w K mg base 4  "read_fraction" ["word"] Zay:=by
 obtain ⟨ybf,yag,yah⟩:=T.yaW
 exact D.cal ZbE (λf cdv A outer s H E hr=>have hN:=ZbE.nd;⟨_,(Zab (Za5 (ZpN ZaL (d_v 0))
  (by walk_at "e")
  Zav)
  (Zab (ZbD (i:=1) ZbE.nd rfl (Or.inl rfl) (yb7 PySem.F.slot_str_partition PySem.F.type_str_partition ZpC ZmN (d_v 0) ZaL))
  (Zab (by walk_at "e")
  (Zab (Za5 (by walk_at "e")
  (Zaj (ZcQ (Zbz yah) hr (by decide) rfl yag (Zad ZbA Zan)))
  Zav)
  (by walk_at "e")))))⟩)
theorem Zgi(D:Def K mg "read_ground" ZcM ["row"])(ybz:Cal P w K mg base 4  "just_words_behind" ["head", "row", "count"] Zas)(ybh:Cal P w K mg base 4  "read_fraction" ["word"] Zay):Cal P w K mg base 5  "read_ground" ["row"] Zaw:=by
 exact D.cal Zd3 (λf cdv A outer s H E hr=>have hN:=Zd3.nd;⟨_,(by walk_at "e")⟩)
theorem Zka(D:Def K mg "is_spot" ZfL ["thing"])(ybg:Cal P w K mg base 2  "is_between" ["thing", "least", "most"] ZaQ):Cal P w K mg base 3  "is_spot" ["thing"] Zfo:=by
 exact D.cal ZgA (λf cdv A outer s H E hr=>have hN:=ZgA.nd;⟨_,(by walk_at "e")⟩)
theorem Zgj(D:Def K mg "check_spots" ZcH ["spots"])(c_is_spot:Cal P w K mg base 3  "is_spot" ["thing"] Zfo):Cal P w K mg base 4  "check_spots" ["spots"] ZcO:=by
 obtain ⟨yda,ycg,ych⟩:=T.ycf;obtain ⟨tk_MOST_SPOTS,ybe⟩:=T.ybe
 exact D.cal ZdU (λf cdv A outer s H E hr=>have hN:=ZdU.nd;⟨_,(Zab (Za5 (DW.dt (ZhC (by walk_at "e") (ZhC (by walk_at "e") (ZfB (Znb (by walk_at "e") (ydq rfl ybe))))))
  (by walk_at "e")
  Zav)
  (Zab (Za5 (ZgB (Zey (ycY (Zdc rfl) Zc8 rfl T.yde ZhT (Zad (Zcq (own:=["spot"]) (cap:=[]) (Zb2 (d_v 0)) (by walk_at "co") rfl (by walk_at "cg") (by walk_at "ct") (by walk_at "ce")) Zan))))
  (by walk_at "e")
  Zav)
  (Zaj (Za5 (ZiS hr (ZmF hr rfl T.ydl rfl T.ydw (d_v 0)) (by walk_at "e"))
  (by walk_at "e")
  Zav))))⟩)
theorem Zh1(D:Def K mg "read_spot" Zej ["word"])(yaX:Cal P w K mg base 3  "read_number" ["word"] Zap):Cal P w K mg base 4  "read_spot" ["word"] Zed:=by
 exact D.cal Ze3 (λf cdv A outer s H E hr=>have hN:=Ze3.nd;⟨_,(Zaj (ZaJ (ydp Zcx Zek rfl T.ycj Zfg (Zad (ZfA (ZfE.blk ⟨rfl,rfl,rfl,rfl⟩) (own:=["number"]) (cap:=[]) (Zb2 (yb7 Vb7 Vcg ZdL Zcw (d_v 0) ZaL)) (by walk_at "co") rfl (by walk_at "cg") (by walk_at "ct") (by walk_at "ce")) Zan))))⟩)
theorem ZhB(D:Def K mg "read_spots" Zdi ["row"])(yb8:Cal P w K mg base 3  "words_behind" ["head", "row"] ZaB)(c_check_spots:Cal P w K mg base 4  "check_spots" ["spots"] ZcO)(c_read_spot:Cal P w K mg base 4  "read_spot" ["word"] Zed):Cal P w K mg base 5  "read_spots" ["row"] ZaA:=by
 exact D.cal ZcF (λf cdv A outer s H E hr=>have hN:=ZcF.nd;⟨_,(Zab (Zhk (i:=1) ZcF.nd rfl (Or.inl rfl) ⟨rfl,rfl,rfl,rfl⟩ (own:=["word"]) (cap:=[]) (by walk_at "e") (by walk_at "co") rfl (by walk_at "cg") (by walk_at "ct") (by walk_at "ce"))
  (by walk_at "e"))⟩)
theorem Zh0(D:Def K mg "groups_of" Zd5 ["words"])  : Cal P w K mg base 1  "groups_of" ["words"] ZbT:=by
 exact D.cal Zdw (λf cdv A outer s H E hr=>have hN:=Zdw.nd;⟨_,(Zpz (i:=1) (j:=2) (k:=0) Zdw.nd Vcf rfl (by decide) (by decide) rfl (Or.inl rfl) rfl (Or.inl rfl) rfl (Zlw hr (d_v 2) ZaL))⟩)
theorem Zgf(D:Def K mg "read_corner" ZcU ["words"])(yaX:Cal P w K mg base 3  "read_number" ["word"] Zap):Cal P w K mg base 4  "read_corner" ["words"] ZcY:=by
 obtain ⟨ybf,yag,yah⟩:=T.yaW
 exact D.cal Zch (λf cdv A outer s H E hr=>have hN:=Zch.nd;⟨_,(Zab (Za5 (by walk_at "e")
  (Zaj (ZcQ (Zbz yah) hr (by decide) rfl yag (Zad ZbA Zan)))
  Zav)
  (Zab (Zhk (i:=1) Zch.nd rfl (Or.inl rfl) ⟨rfl,rfl,rfl,rfl⟩ (own:=["word"]) (cap:=[]) (Zb2 (d_v 0)) (by walk_at "co") rfl (by walk_at "cg") (by walk_at "ct") (by walk_at "ce"))
  (by walk_at "e")))⟩)
theorem Zd7(D:Def K mg "check_before_eye" Zbj ["corners"])  : Cal P w K mg base 1  "check_before_eye" ["corners"] Zbm:=by
 obtain ⟨ycl,ybC,ybD⟩:=T.ybB;exact D.cal ZbM (λf cdv A outer s H E hr=>have hN:=ZbM.nd;⟨_,(by walk_at "e")⟩)
theorem Zg6(D:Def K mg "are_values" Zc9 ["thing"])(ybN:Cal P w K mg base 1  "is_whole" ["thing"] ZaS):Cal P w K mg base 2  "are_values" ["thing"] Zda:=by
 obtain ⟨tk_MOST_VALUES,yaV⟩:=T.yaV
 exact D.cal Zeu (λf cdv A outer s H E hr=>have hN:=Zeu.nd;⟨_,(Zab (Za5 (DW.dt (ZhC (by walk_at "e") (ZfB (Znb (by walk_at "e") (ydq rfl yaV)))))
  (Zaj (ZaJ ydi))
  Zav)
  (Zaj (ZaJ (ycY (Zdc rfl) Zc8 rfl T.yde ZhT (Zad (Zcq (own:=["number"]) (cap:=[]) (Zb2 (d_v 0)) (by walk_at "co") rfl (by walk_at "cg") (by walk_at "ct") (by walk_at "ce")) Zan)))))⟩)
theorem ZiC(D:Def K mg "is_corner" Zee ["thing"])(ybN:Cal P w K mg base 1  "is_whole" ["thing"] ZaS)(c_are_values:Cal P w K mg base 2  "are_values" ["thing"] Zda):Cal P w K mg base 3  "is_corner" ["thing"] Zd6:=by
 exact D.cal ZeY (λf cdv A outer s H E hr=>have hN:=ZeY.nd;⟨_,(Zab (by walk_at "e")
  (Zab (Za5 (ZgB (Zey (ycY (Zdc rfl) Zc8 rfl T.yde ZhT (Zad (Zcq (own:=["number"]) (cap:=[]) (by walk_at "e") (by walk_at "co") rfl (by walk_at "cg") (by walk_at "ct") (by walk_at "ce")) Zan))))
  (Zaj (ZaJ ydi))
  Zav)
  (by walk_at "e")))⟩)
theorem ZeS(D:Def K mg "check_triangle" ZbI ["triangle"])(c_is_corner:Cal P w K mg base 3  "is_corner" ["thing"] Zd6):Cal P w K mg base 4  "check_triangle" ["triangle"] ZbF:=by
 obtain ⟨ycl,ybC,ybD⟩:=T.ybB;exact D.cal Zcr (λf cdv A outer s H E hr=>have hN:=Zcr.nd;⟨_,(by walk_at "e")⟩)
theorem Znm{f:Addr}{fd:FuncData}(F:Fun K "__init__" "Thing.__init__" Zby f fd)(c_check_before_eye:Cal P w K mg base 1  "check_before_eye" ["corners"] Zbm)(c_check_triangle:Cal P w K mg base 4  "check_triangle" ["triangle"] ZbF):FnOk P w K mg base (CXR P w) 5 f fd ["self", "triangle"] (spJ K mg 1 objs Zck):=by
 exact okJ F Zb1 (by decide) rfl (λcdv A outer s H E hr=>have hN:=Zb1.nd;⟨_,(Ze0 (by walk_at "e")
  (Ze0 (by walk_at "e")
  (Zhy T.f_triangle (d_v 1)
  Ziu)))⟩)
theorem Zfn(D:Def K mg "check_colour" Zcl ["colour"])(yaY:Cal P w K mg base 2  "is_fraction" ["thing"] ZaF):Cal P w K mg base 3  "check_colour" ["colour"] Zba:=by
 obtain ⟨yci,ybs,ybt⟩:=T.ybM;exact D.cal Zdz (λf cdv A outer s H E hr=>have hN:=Zdz.nd;⟨_,(by walk_at "e")⟩)
theorem Zho(D:Def K mg "check_part" Zds ["part"])(yaY:Cal P w K mg base 2  "is_fraction" ["thing"] ZaF):Cal P w K mg base 3  "check_part" ["part"] Zdy:=by
 obtain ⟨yci,ybs,ybt⟩:=T.ybM;exact D.cal Zew (λf cdv A outer s H E hr=>have hN:=Zew.nd;⟨_,(by walk_at "e")⟩)
theorem ZnA{f:Addr}{fd:FuncData}(F:Fun K "__init__" "Glass.__init__" Zbw f fd)(yaZ:Zkm P w K mg base 5 "Thing" "__init__" 1 objs Zck)(yb9:Cal P w K mg base 3  "check_colour" ["colour"] Zba)(c_check_part:Cal P w K mg base 3  "check_part" ["part"] Zdy):FnOk P w K mg base (CXR P w) 7 f fd ["self", "triangle", "colour", "part"] (spJ K mg 3 objs Zg0):=by
 exact okJ F Zb3 (by decide) rfl (λcdv A outer s H E hr=>have hN:=Zb3.nd;⟨_,(Zja yaZ hr (by decide) rfl ZaM (λ_ h=>h) (Zad (d_v 1) Zan)
  (Ze0 (by walk_at "e")
  (Ze0 (by walk_at "e")
  (Zhy T.f_colour (d_v 2)
  (Zhy T.f_part (d_v 3)
  Ziu)))))⟩)
theorem Zfa(D:Def K mg "check_pattern" ZbP ["pattern"])(yaY:Cal P w K mg base 2  "is_fraction" ["thing"] ZaF):Cal P w K mg base 3  "check_pattern" ["pattern"] ZbR:=by
 obtain ⟨C_BadPattern,ycI,ycJ⟩:=T.ycH;obtain ⟨ga_COUNTS,go_COUNTS,gi_COUNTS,gn_COUNTS,ycK,ycL,ycM,ycN,ycO,ycP⟩:=T.t_COUNTS
 exact D.cal Zc3 (λf cdv A outer s H E hr=>have hN:=Zc3.nd;⟨_,(Zab (Za5 (DW.dt (ZhC (by walk_at "e") (ZfB (Zl8 hr (by walk_at "e") (Zoy (ns:=[1,2,4,8,16]) rfl ycK ycL ycM ycN ycO ycP)))))
  (by walk_at "e")
  Zav)
  (Zaj (ZjG Vcf rfl (Zb2 (d_v 0)) (by walk_at "e")
  (Zab (Za5 (DW.dt (ZhC (by walk_at "e") (ZfB (Zl8 hr (by walk_at "e") (Zoy (ns:=[1,2,4,8,16]) rfl ycK ycL ycM ycN ycO ycP)))))
  (by walk_at "e")
  Zav)
  (Zab (by walk_at "e")
  (Zaj (Za5 (ZgB (Zey (ycY (Zdc rfl) Zc8 rfl T.yde ZhT (Zad (Zcq (own:=["entry"]) (cap:=[]) (Zb2 (d_v 1)) (by walk_at "co") rfl (by walk_at "cg") (by walk_at "ct") (by walk_at "ce")) Zan))))
  (by walk_at "e")
  Zav)))))))⟩)
theorem Zf0(D:Def K mg "check_values" Zcc ["triangle", "least"])  : Cal P w K mg base 1  "check_values" ["triangle", "least"] Za9:=by
 obtain ⟨yci,ybs,ybt⟩:=T.ybM
 exact D.cal Zdp (λf cdv A outer s H E hr=>have hN:=Zdp.nd;⟨_,(Zaj (Za5 (by walk_at "e")
  (Zaj (Zie rfl ybs ybt (Zad (ZqZ (d_v 1)) Zan)))
  Zav))⟩)
theorem ZlZ(D:Def K mg "copied" Zhp ["pattern"])  : CalR P w K mg base 1  "copied" ["pattern"] Zhm:=by
 exact D.calR Zh2 (λf cdv A outer s H E hr=>have hN:=Zh2.nd;⟨_,(Zm7 (own:=["row"]) (cap:=[]) (Zb2 (d_v 0)) (by walk_at "co") rfl (by walk_at "cg") (by walk_at "ct") (λ_ _ _ _ _=>(Zp1 (by walk_at "e") (Zad (d_v 0) Zan))))⟩)
theorem ZiA{f:Addr}{fd:FuncData}(F:Fun K "__init__" "Patterned.__init__" Za2 f fd)(yaZ:Zkm P w K mg base 5 "Thing" "__init__" 1 objs Zck)(c_check_pattern:Cal P w K mg base 3  "check_pattern" ["pattern"] ZbR)(yca:Cal P w K mg base 1  "check_values" ["triangle", "least"] Za9)(cr_copied:CalR P w K mg base 1 "copied" ["pattern"] Zhm):FnOk P w K mg base (CXR P w) 7 f fd ["self", "triangle", "pattern"] (spJ K mg 2 objs Zcz):=by
 exact okJ F Zbp (by decide) rfl (λcdv A outer s H E hr=>have hN:=Zbp.nd;⟨_,(Zja yaZ hr (by decide) rfl ZaM (λ_ h=>h) (Zad (d_v 1) Zan)
  (Ze0 (by walk_at "e")
  (Ze0 (by walk_at "e")
  (ZoO T.f_pattern (ZpZ cr_copied hr (by decide) rfl ZaM (Zad (d_v 2) Zan))
  Ziu))))⟩)
theorem Zne{f:Addr}{fd:FuncData}(F:Fun K "__init__" "Plain.__init__" Zbv f fd)(yaZ:Zkm P w K mg base 5 "Thing" "__init__" 1 objs Zck)(yb9:Cal P w K mg base 3  "check_colour" ["colour"] Zba):FnOk P w K mg base (CXR P w) 7 f fd ["self", "triangle", "colour"] (spJ K mg 2 objs Zhl):=by
 exact okJ F Zb4 (by decide) rfl (λcdv A outer s H E hr=>have hN:=Zb4.nd;⟨_,(Zja yaZ hr (by decide) rfl ZaM (λ_ h=>h) (Zad (d_v 1) Zan)
  (Ze0 (by walk_at "e")
  (Zhy T.f_colour (d_v 2)
  Ziu)))⟩)
theorem Zlc{f:Addr}{fd:FuncData}(F:Fun K "__init__" "Shaded.__init__" Zbi f fd)(yaZ:Zkm P w K mg base 5 "Thing" "__init__" 1 objs Zck)(yca:Cal P w K mg base 1  "check_values" ["triangle", "least"] Za9):FnOk P w K mg base (CXR P w) 7 f fd ["self", "triangle"] (spJ K mg 1 objs Zff):=by
 exact okJ F ZbU (by decide) rfl (λcdv A outer s H E hr=>have hN:=ZbU.nd;⟨_,(Zja yaZ hr (by decide) rfl ZaM (λ_ h=>h) (Zad (d_v 1) Zan)
  (Ze0 (by walk_at "e")
  Ziu))⟩)
theorem ZfH(D:Def K mg "read_pattern" Zcj ["word"])(ybh:Cal P w K mg base 4  "read_fraction" ["word"] Zay):Cal P w K mg base 5  "read_pattern" ["word"] Zb6:=by
 exact D.cal Zdj (λf cdv A outer s H E hr=>have hN:=Zdj.nd;⟨_,(Zaj (ZaJ (ZfA (ZfE.blk ⟨rfl,rfl,rfl,rfl⟩) (own:=["row"]) (cap:=[]) (Zb2 (yb7 Vb7 Vcg ZdL Zcw (d_v 0) ZaL)) (by walk_at "co") rfl (by walk_at "cg") (by walk_at "ct") (λ_ _ _ _ _=>(ZfA (Znp ⟨rfl,rfl,rfl,rfl⟩) (own:=["entry"]) (cap:=[]) (Zb2 (yb7 Vb7 Vcg ZdL Zcw (d_v 0) ZaL)) (by walk_at "co") rfl (by walk_at "cg") (by walk_at "ct") (by walk_at "ce"))))))⟩)
theorem Zi1(D:Def K mg "thing_of" ZeV ["head", "triangle"])(ybh:Cal P w K mg base 4  "read_fraction" ["word"] Zay)(ci_Glass:CalJ P w K mg base 7 "Glass" 3 objs Zg0)(ci_Patterned:CalJ P w K mg base 7 "Patterned" 2 objs Zcz)(ci_Plain:CalJ P w K mg base 7 "Plain" 2 objs Zhl)(ci_Shaded:CalJ P w K mg base 7 "Shaded" 1 objs Zff)(c_read_pattern:Cal P w K mg base 5  "read_pattern" ["word"] Zb6):Cal P w K mg base 9  "thing_of" ["head", "triangle"] ZeH:=by
 obtain ⟨ybf,yag,yah⟩:=T.yaW
 exact D.cal Zfp (λf cdv A outer s H E hr=>have hN:=Zfp.nd;⟨_,(Zab (Za5 (by walk_at "e")
  (Zaj (ZaJ (DEf.de (Zhg ci_Plain hr (by decide) rfl ZaM (by walk_at "e")))))
  Zav)
  (Zab (Za5 (by walk_at "e")
  (Zaj (ZaJ (DEf.de (Zhg ci_Shaded hr (by decide) rfl ZaM (Zad (d_v 1) Zan)))))
  Zav)
  (Zab (Za5 (by walk_at "e")
  (Zaj (ZaJ (DEf.de (Zhg ci_Patterned hr (by decide) rfl ZaM (by walk_at "e")))))
  Zav)
  (Zab (Za5 (by walk_at "e")
  (Zaj (ZaJ (DEf.de (Zhg ci_Glass hr (by decide) rfl ZaM (by walk_at "e")))))
  Zav)
  (Zaj (ZcQ (Zbz yah) hr (by decide) rfl yag (Zad ZbA Zan)))))))⟩)
theorem ZhD(D:Def K mg "read_thing" Zdr ["row"])(ycQ:Cal P w K mg base 3  "check_text" ["text"] ZaR)(ycZ:Cal P w K mg base 1  "groups_of" ["words"] ZbT)(c_read_corner:Cal P w K mg base 4  "read_corner" ["words"] ZcY)(ydb:Cal P w K mg base 9  "thing_of" ["head", "triangle"] ZeH):Cal P w K mg base 10  "read_thing" ["row"] Zat:=by
 obtain ⟨ybf,yag,yah⟩:=T.yaW
 exact D.cal ZcE (λf cdv A outer s H E hr=>have hN:=ZcE.nd;⟨_,(Zab (by walk_at "e")
  (Zab (ZbD (i:=1) ZcE.nd rfl (Or.inl rfl) (ZbY ycZ hr (by decide) rfl ZaM (Zad (yb7 Vb7 Vcg ZdL Zcw (d_v 0) ZaL) Zan)))
  (Zab (Za5 (by walk_at "e")
  (Zaj (ZcQ (Zbz yah) hr (by decide) rfl yag (Zad ZbA Zan)))
  Zav)
  (Zaj (ZaJ (ZbY ydb hr (by decide) rfl ZaM (Zad (ydo (d_v 1) ZbA) (Zad (ydp Zcx Zek rfl T.ycj Zfg (Zad (ZfA (ZfE.blk ⟨rfl,rfl,rfl,rfl⟩) (own:=["words"]) (cap:=[]) (by walk_at "e") (by walk_at "co") rfl (by walk_at "cg") (by walk_at "ct") (by walk_at "ce")) Zan)) Zan))))))))⟩)
theorem Zkg(D:Def K mg "read_at" ZfV ["rows", "number", "read"])(ybi:Cal P w K mg base 6  "read_floor" ["row"] ZaH)(ya0:Cal P w K mg base 5  "read_ground" ["row"] Zaw)(ybj:Cal P w K mg base 5  "read_spots" ["row"] ZaA)(yay:Cal P w K mg base 10  "read_thing" ["row"] Zat):Cal P w K mg base 11  "read_at" ["rows", "number", "read"] ZaZ:=by
 obtain ⟨ybf,yag,yah⟩:=T.yaW;obtain ⟨K_YardError,k_YardError⟩:=T.yb2
 exact D.cal Zgp (λf cdv A outer s H E hr=>have hN:=Zgp.nd;⟨_,(Zab (Za5 (by walk_at "e")
  (Zaj (ZcQ (Zbz yah) hr (by decide) rfl yag (Zad (d_v 1) Zan)))
  Zav)
  (Zaj (ZmQ (hits:=["BadFloor", "BadPattern", "BadThing", "BadTriangle", "NoRow"]) (tab:=[("read_floor", ZaH),("read_ground", Zaw),("read_spots", ZaA),("read_thing", Zat)]) (i:=2) ⟨rfl,rfl,rfl,rfl⟩ rfl (Or.inl rfl) (Vch.mpr ⟨ybi.mono (by decide),(Vch.mpr ⟨ya0.mono (by decide),(Vch.mpr ⟨ybj.mono (by decide),(Vch.mpr ⟨yay.mono (by decide),(λ_ h=>absurd h Vb1)⟩)⟩)⟩)⟩) hr (VaL _) (by walk_at "e") rfl k_YardError (T.h_YardError _ k_YardError) (Zbz yah) (by decide) rfl yag (λ_=>(Zad (d_v 1) Zan)))))⟩)
theorem ZgT(D:Def K mg "read_scene" Zdg ["text"])(ycQ:Cal P w K mg base 3  "check_text" ["text"] ZaR)(ybi:Cal P w K mg base 6  "read_floor" ["row"] ZaH)(ya0:Cal P w K mg base 5  "read_ground" ["row"] Zaw)(ybj:Cal P w K mg base 5  "read_spots" ["row"] ZaA)(yay:Cal P w K mg base 10  "read_thing" ["row"] Zat)(ybE:Cal P w K mg base 11  "read_at" ["rows", "number", "read"] ZaZ):Cal P w K mg base 12  "read_scene" ["text"] ZaP:=by
 exact D.cal ZaW (λf cdv A outer s H E hr=>have hN:=ZaW.nd;⟨_,(Zab (by walk_at "e")
  (Zab (ZbD (i:=1) ZaW.nd rfl (Or.inr rfl) (yb7 Vb7 Vcg ZdL Zcw (d_v 0) ZaL))
  (Zab (ZbD (i:=2) ZaW.nd rfl (Or.inl rfl) (ZbY ybE hr (by decide) rfl ZaM (Zad (d_v 1) (Zad ZbA (Zad (ydu ybi rfl) Zan)))))
  (Zab (ZbD (i:=3) ZaW.nd rfl (Or.inl rfl) (ZbY ybE hr (by decide) rfl ZaM (Zad (d_v 1) (Zad ZbA (Zad (ydu ya0 rfl) Zan)))))
  (Zab (ZbD (i:=4) ZaW.nd rfl (Or.inl rfl) (ZbY ybE hr (by decide) rfl ZaM (Zad (d_v 1) (Zad ZbA (Zad (ydu ybj rfl) Zan)))))
  (Zab (Zhk (i:=5) ZaW.nd rfl (Or.inl rfl) ⟨rfl,rfl,rfl,rfl⟩ (own:=["number"]) (cap:=[("rows", 1)]) (Zt7 rfl T.ydf (by walk_at "e")) (by walk_at "co") rfl (by walk_at "cg") (by walk_at "ct") (λ_ _ _ _ _=>(Zld ybE hr (by decide) rfl (Zad (d_v 1) (Zad (d_v 0) (Zad (ydu yay rfl) Zan))))))
  (by walk_at "e")))))))⟩)
theorem Zf4(D:Def K mg "_law_caught" ZcC ["_law_way", "_law_handed"])(yay:Cal P w K mg base 10  "read_thing" ["row"] Zat)(ybk:Cal P w K mg base 12  "read_scene" ["text"] ZaP):Cal P w K mg base 13  "_law_caught" ["_law_way", "_law_handed"] Zao:=by
 obtain ⟨K_BadFloor,k_BadFloor⟩:=T.yc8;obtain ⟨K_BadPattern,k_BadPattern⟩:=T.ycG;obtain ⟨K_BadThing,k_BadThing⟩:=T.yc9;obtain ⟨K_BadTriangle,k_BadTriangle⟩:=T.yck;obtain ⟨K_NoRow,k_NoRow⟩:=T.ydm;obtain ⟨K_YardError,k_YardError⟩:=T.yb2
 exact D.cal Za8 (λf cdv A outer s H E hr=>have hN:=Za8.nd;⟨_,(Zab (by walk_at "e")
  (Zab (Zp8 (hits:=["BadFloor", "BadPattern", "BadThing", "BadTriangle", "NoRow"]) (i:=3) rfl rfl (ZtD (Zlw hr (d_v 0) ZaL)
  (Zlo ybk hr (by decide) rfl (Zad (d_v 1) Zan))
  (Zlo yay hr (by decide) rfl (Zad (d_v 1) Zan))) rfl k_YardError (T.h_YardError _ k_YardError) Za8.nd rfl rfl rfl (λ_ =>
  (by walk_at "e")))
  (Zab (ZbD (i:=4) Za8.nd rfl (Or.inl rfl) (Zkx (Zad (ycY ZdI (Zco T.tab) rfl T.yae ZaO (Zad (d_v 2) (Zad (Zlr rfl k_NoRow) Zan))) (Zad (ycY ZdI (Zco T.tab) rfl T.yae ZaO (Zad (d_v 2) (Zad (Zlr rfl k_BadTriangle) Zan))) (Zad (ycY ZdI (Zco T.tab) rfl T.yae ZaO (Zad (d_v 2) (Zad (Zlr rfl k_BadThing) Zan))) Zan)))))
  (Zab (ZbD (i:=4) Za8.nd rfl (Or.inl rfl) (ZfK (d_v 4) (Zkx (Zad (ycY ZdI (Zco T.tab) rfl T.yae ZaO (Zad (d_v 2) (Zad (Zlr rfl k_BadPattern) Zan))) (Zad (ycY ZdI (Zco T.tab) rfl T.yae ZaO (Zad (d_v 2) (Zad (Zlr rfl k_BadFloor) Zan))) Zan)))))
  (Zab (Za5 (DW.dt (ZhC (ZiS hr (Zuk hr (d_v 4) ydi) ZbA) (by walk_at "e")))
  (by walk_at "e")
  Zav)
  (Zab (Za5 (by walk_at "e")
  (Zaj (ZaJ (ZqJ (Zad (ydo (by walk_at "e") (ZpV hr (d_v 4) ydi)) (Zad ZbA Zan)))))
  Zav)
  (Zab (Za5 (Zey (ycY Zip Zin rfl T.yae ZaO (Zad (ydx T.at_ (d_v 2)) (by walk_at "e"))))
  (by walk_at "e")
  Zav)
  (Zaj (ZaJ (ZqJ (Zad ZaL (Zad (ydx T.at_ (d_v 2)) Zan))))))))))))⟩)
theorem ZgW(D:Def K mg "_law_mixed" Zdb ["_law_cell", "_law_k"])  : Cal P w K mg base 1  "_law_mixed" ["_law_cell", "_law_k"] Zar:=by
 exact D.cal Zel (λf cdv A outer s H E hr=>have hN:=Zel.nd;⟨_,(by walk_at "e")⟩)
theorem ZfU(D:Def K mg "_law_no_form" Zcg ["_law_cell"])  : Cal P w K mg base 1  "_law_no_form" ["_law_cell"] ZaG:=by
 exact D.cal Za3 (λf cdv A outer s H E hr=>have hN:=Za3.nd;⟨_,(Zab (by walk_at "e")
  (Zab (ZbD (i:=2) Za3.nd rfl (Or.inl rfl) (Zk3 (d_v 1) (Zht ZbA) ZgQ))
  (Zab (ZbD (i:=3) Za3.nd rfl (Or.inl rfl) (Zkx (Zad (ZfK ZaL (d_v 2)) (Zad (ZfK (ZfK ZaL (d_v 1)) (Zk3 (d_v 1) ZgQ (Zht ZbA))) (by walk_at "e")))))
  (Zab (by walk_at "e")
  (Zab (by walk_at "e")
  (Zab (by walk_at "e")
  (Zab (by walk_at "e")
  (Zab (ZbD (i:=4) Za3.nd rfl (Or.inl rfl) (Zot ZaL ZbA))
  (by walk_at "e")))))))))⟩)
theorem Ze5(D:Def K mg "_law_no_thing" ZbV ["_law_cell"])  : Cal P w K mg base 1  "_law_no_thing" ["_law_cell"] ZaD:=by
 exact D.cal ZaN (λf cdv A outer s H E hr=>have hN:=ZaN.nd;⟨_,(Zab (by walk_at "e")
  (Zab (by walk_at "e")
  (Zab (by walk_at "e")
  (Zab (Zgw (Zhf (i:=3) ZaN.nd rfl (Or.inl rfl) (d_v 3) (by walk_at "e")))
  (Zab (Zgw (Zhf (i:=3) ZaN.nd rfl (Or.inl rfl) (d_v 3) (by walk_at "e")))
  (Zab (Zgw (Zhf (i:=3) ZaN.nd rfl (Or.inl rfl) (d_v 3) (by walk_at "e")))
  (Zab (Zgw (Zhf (i:=3) ZaN.nd rfl (Or.inl rfl) (d_v 3) (by walk_at "e")))
  (by walk_at "e"))))))))⟩)
theorem Zge(D:Def K mg "_law_things" ZcG ["_law_cell"])(ybS:Cal P w K mg base 1  "_law_mixed" ["_law_cell", "_law_k"] Zar):Cal P w K mg base 2  "_law_things" ["_law_cell"] ZaX:=by
 exact D.cal ZdX (λf cdv A outer s H E hr=>have hN:=ZdX.nd;⟨_,(Zab (by walk_at "e")
  (Zab (ZlG 1 ZaL)
  (Zab (ZlG 1 ZaL)
  (Zaj (Zgw (ZaJ (Zcq (own:=["_law_k"]) (cap:=[("_law_some", 1),("_law_cell", 0)]) (by walk_at "e") (by walk_at "co") rfl (by walk_at "cg") (by walk_at "ct") (by walk_at "ce"))))))))⟩)
theorem Zh4(D:Def K mg "_law_rows" Zeb ["_law_cell"])(ybS:Cal P w K mg base 1  "_law_mixed" ["_law_cell", "_law_k"] Zar)(ycm:Cal P w K mg base 2  "_law_things" ["_law_cell"] ZaX):Cal P w K mg base 3  "_law_rows" ["_law_cell"] ZbW:=by
 exact D.cal Ze2 (λf cdv A outer s H E hr=>have hN:=Ze2.nd;⟨_,(by walk_at "e")⟩)
theorem ZhL(D:Def K mg "_law_head" Zeh ["_law_at", "_law_cell"])  : Cal P w K mg base 1  "_law_head" ["_law_at", "_law_cell"] Zbs:=by
 exact D.cal Zdq (λf cdv A outer s H E hr=>have hN:=Zdq.nd;⟨_,(Zab (by walk_at "e")
  (Zab (Za5 (Zlw hr (d_v 0) ZbA)
  (Zab (by walk_at "e")
  (Zaj (ZaJ (ydo (ZfK (d_v 2) (Zkx (Zad ZaL (Zad ZaL (Zad ZaL (Zad ZaL (Zad (ZfK ZaL (Zot ZaL ZbA)) Zan))))))) (Zra (d_v 1) ZbA)))))
  Zav)
  (Zab (by walk_at "e")
  (Zab (ZbD (i:=3) Zdq.nd rfl (Or.inl rfl) (yb7 Vb8 Vca Zbu Za6 ZaL (Zcq (own:=["_law_k"]) (cap:=[]) (by walk_at "e") (by walk_at "co") rfl (by walk_at "cg") (by walk_at "ct") (by walk_at "ce"))))
  (by walk_at "e")))))⟩)
theorem ZdP(D:Def K mg "_law_turned_about" Zbc ["_law_rows_here", "_law_way", "_law_at"])  : Cal P w K mg base 1  "_law_turned_about" ["_law_rows_here", "_law_way", "_law_at"] ZaI:=by
 exact D.cal Za7 (λf cdv A outer s H E hr=>have hN:=Za7.nd;⟨_,(Zab (by walk_at "e")
  (Zab (Zl1 (i:=5) Za7.nd rfl (Or.inl rfl) rfl T.yc6 ZgR (Zad (d_v 0) Zan))
  (Zab (by walk_at "e")
  (Zab (by walk_at "e")
  (Zab (by walk_at "e")
  (Zab (ZfN 5 (d_v 3) (ydo (d_v 0) (d_v 4)))
  (Zab (ZfN 5 (d_v 4) (ydo (d_v 0) (d_v 3)))
  (by walk_at "e"))))))))⟩)
theorem Zgk(D:Def K mg "_law_spoilt" ZcT ["_law_rows_here", "_law_cell"])(ycb:Cal P w K mg base 1  "_law_no_form" ["_law_cell"] ZaG)(yb3:Cal P w K mg base 1  "_law_no_thing" ["_law_cell"] ZaD)(c__law_head:Cal P w K mg base 1  "_law_head" ["_law_at", "_law_cell"] Zbs)(c__law_turned_about:Cal P w K mg base 1  "_law_turned_about" ["_law_rows_here", "_law_way", "_law_at"] ZaI):Cal P w K mg base 2  "_law_spoilt" ["_law_rows_here", "_law_cell"] Zbl:=by
 exact D.cal Zcb (λf cdv A outer s H E hr=>have hN:=Zcb.nd;⟨_,(Zab (by walk_at "e")
  (Zab (by walk_at "e")
  (Zab (by walk_at "e")
  (Zab (by walk_at "e")
  (Zab (by walk_at "e")
  (Zab (Zl1 (i:=4) Zcb.nd rfl (Or.inl rfl) rfl T.yc6 ZgR (Zad (d_v 0) Zan))
  (Zab (Za5 (by walk_at "e")
  (Zaj (ZfN 4 (d_v 3) (by walk_at "e")))
  (Zab (by walk_at "e")
  (Zaj (ZfN 4 (d_v 3) (by walk_at "e")))))
  (Zab (Za5 (by walk_at "e")
  (Zaj (ZfN 4 (Zrp ZbA) ZaL))
  Zav)
  (by walk_at "e")))))))))⟩)
theorem Zgd(D:Def K mg "number_word" ZcB ["number"])  : Cal P w K mg base 1  "number_word" ["number"] Zam:=by
 exact D.cal ZdW (λf cdv A outer s H E hr=>have hN:=ZdW.nd;⟨_,(Zab (by walk_at "e")
  (Zab (by walk_at "e")
  (Zab (ZnN Vcf (by walk_at "e")
  ZqI)
  (Zab (by walk_at "e")
  (Zab (by walk_at "e")
  (Zaj (ZaJ (Zll 1 rfl rfl T.yc7))))))))⟩)
theorem Ze9(D:Def K mg "fraction_word" ZbL ["fraction"])(ya1:Cal P w K mg base 1  "number_word" ["number"] Zam):Cal P w K mg base 2  "fraction_word" ["fraction"] Zau:=by
 exact D.cal Zc5 (λf cdv A outer s H E hr=>have hN:=Zc5.nd;⟨_,(by walk_at "e")⟩)
theorem ZhZ(D:Def K mg "pair_word" Zea ["pair"])(ya1:Cal P w K mg base 1  "number_word" ["number"] Zam):Cal P w K mg base 2  "pair_word" ["pair"] ZbN:=by
 exact D.cal ZeX (λf cdv A outer s H E hr=>have hN:=ZeX.nd;⟨_,(by walk_at "e")⟩)
theorem ZgZ(D:Def K mg "numbers_of" ZdA ["corner"])  : Cal P w K mg base 1  "numbers_of" ["corner"] Zdf:=by
 exact D.cal ZeE (λf cdv A outer s H E hr=>have hN:=ZeE.nd;⟨_,(by walk_at "e")⟩)
theorem Zf8(D:Def K mg "corner_text" ZcD ["corner"])(ya1:Cal P w K mg base 1  "number_word" ["number"] Zam)(c_numbers_of:Cal P w K mg base 1  "numbers_of" ["corner"] Zdf):Cal P w K mg base 2  "corner_text" ["corner"] ZcN:=by
 exact D.cal Zd1 (λf cdv A outer s H E hr=>have hN:=Zd1.nd;⟨_,(Zaj (ZaJ (yb7 Vb8 Vca Zbu Za6 ZaL (ZfK (by walk_at "e") (Zcq (own:=["number"]) (cap:=[]) (by walk_at "e") (by walk_at "co") rfl (by walk_at "cg") (by walk_at "ct") (by walk_at "ce"))))))⟩)
theorem Zgn{f:Addr}{fd:FuncData}(F:Fun K "word" "Glass.word" ZcL f fd)  : FnOk P w K mg base (CXR P w) 1 f fd ["self"] (spD K mg 1 ZeG):=by
 exact okM F Zd4 (λcdv A outer s H E hr=>have hN:=Zd4.nd;⟨_,(Zaj (ZaJ ZaL))⟩)
theorem Zen{f:Addr}{fd:FuncData}(F:Fun K "word" "Patterned.word" Zbx f fd)  : FnOk P w K mg base (CXR P w) 1 f fd ["self"] (spD K mg 1 Zcn):=by
 exact okM F ZbZ (λcdv A outer s H E hr=>have hN:=ZbZ.nd;⟨_,(Zaj (ZaJ ZaL))⟩)
theorem Zgl{f:Addr}{fd:FuncData}(F:Fun K "word" "Plain.word" Zcy f fd)  : FnOk P w K mg base (CXR P w) 1 f fd ["self"] (spD K mg 1 ZeA):=by
 exact okM F Zd2 (λcdv A outer s H E hr=>have hN:=Zd2.nd;⟨_,(Zaj (ZaJ ZaL))⟩)
theorem ZfS{f:Addr}{fd:FuncData}(F:Fun K "word" "Shaded.word" Zci f fd)  : FnOk P w K mg base (CXR P w) 1 f fd ["self"] (spD K mg 1 ZdZ):=by
 exact okM F Zde (λcdv A outer s H E hr=>have hN:=Zde.nd;⟨_,(Zaj (ZaJ ZaL))⟩)
theorem Zfl(D:Def K mg "pattern_word" Zb9 ["pattern"])(ybl:Cal P w K mg base 2  "fraction_word" ["fraction"] Zau):Cal P w K mg base 3  "pattern_word" ["pattern"] Zca:=by
 exact D.cal Zdv (λf cdv A outer s H E hr=>have hN:=Zdv.nd;⟨_,(Zaj (ZaJ (yb7 Vb8 Vca Zbu Za6 ZaL (Zcq (own:=["row"]) (cap:=[]) (Zb2 (d_v 0)) (by walk_at "co") rfl (by walk_at "cg") (by walk_at "ct") (λ_ _ _ _ _=>(yb7 Vb8 Vca Zbu Za6 ZaL (Zcq (own:=["entry"]) (cap:=[]) (Zb2 (d_v 0)) (by walk_at "co") rfl (by walk_at "cg") (by walk_at "ct") (by walk_at "ce"))))))))⟩)
theorem ZhF(D:Def K mg "head_words" Zdx ["thing"])(ybl:Cal P w K mg base 2  "fraction_word" ["fraction"] Zau)(cm_word:Zer P w K mg base 1 0 "word" Zg8)(c_pattern_word:Cal P w K mg base 3  "pattern_word" ["pattern"] Zca):Cal P w K mg base 4  "head_words" ["thing"] Zdo:=by
 exact D.cal Zc0 (λf cdv A outer s H E hr=>have hN:=Zc0.nd;⟨_,(Zab (ZbD (i:=1) Zc0.nd rfl (Or.inl rfl) (Zpc cm_word hr (by decide) ZaM (d_v 0)))
  (by walk_at "e"))⟩)
theorem Zha(D:Def K mg "thing_text" ZdF ["thing"])(c_corner_text:Cal P w K mg base 2  "corner_text" ["corner"] ZcN)(c_head_words:Cal P w K mg base 4  "head_words" ["thing"] Zdo):Cal P w K mg base 5  "thing_text" ["thing"] ZbB:=by
 exact D.cal Zeo (λf cdv A outer s H E hr=>have hN:=Zeo.nd;⟨_,(Zaj (ZaJ (yb7 Vb8 Vca Zbu Za6 ZaL (ZfK (by walk_at "e") (Zcq (own:=["corner"]) (cap:=[]) (by walk_at "e") (by walk_at "co") rfl (by walk_at "cg") (by walk_at "ct") (by walk_at "ce"))))))⟩)
theorem ZgV(D:Def K mg "scene_text" Zdd ["scene"])(ya1:Cal P w K mg base 1  "number_word" ["number"] Zam)(ybl:Cal P w K mg base 2  "fraction_word" ["fraction"] Zau)(c_pair_word:Cal P w K mg base 2  "pair_word" ["pair"] ZbN)(c_thing_text:Cal P w K mg base 5  "thing_text" ["thing"] ZbB):Cal P w K mg base 6  "scene_text" ["scene"] ZbC:=by
 exact D.cal ZcJ (λf cdv A outer s H E hr=>have hN:=ZcJ.nd;⟨_,(Zab (ZbD (i:=1) ZcJ.nd rfl (Or.inl rfl) (Zkx (Zad (yb7 Vb8 Vca Zbu Za6 ZaL (by walk_at "e")) (Zad (yb7 Vb8 Vca Zbu Za6 ZaL (by walk_at "e")) (Zad (yb7 Vb8 Vca Zbu Za6 ZaL (ZfK (by walk_at "e") (Zcq (own:=["spot"]) (cap:=[]) (by walk_at "e") (by walk_at "co") rfl (by walk_at "cg") (by walk_at "ct") (by walk_at "ce")))) Zan)))))
  (Zaj (ZaJ (yb7 Vb8 Vca Zbu Za6 ZaL (ZfK (d_v 1) (Zcq (own:=["thing"]) (cap:=[]) (by walk_at "e") (by walk_at "co") rfl (by walk_at "cg") (by walk_at "ct") (by walk_at "ce")))))))⟩)
theorem Zr4{f:Addr}{fd:FuncData}(F:Fun K "law" "law" Zhw f fd)(ybk:Cal P w K mg base 12  "read_scene" ["text"] ZaP)(ybF:Cal P w K mg base 13  "_law_caught" ["_law_way", "_law_handed"] Zao)(ybS:Cal P w K mg base 1  "_law_mixed" ["_law_cell", "_law_k"] Zar)(ycb:Cal P w K mg base 1  "_law_no_form" ["_law_cell"] ZaG)(yb3:Cal P w K mg base 1  "_law_no_thing" ["_law_cell"] ZaD)(ycm:Cal P w K mg base 2  "_law_things" ["_law_cell"] ZaX)(c__law_rows:Cal P w K mg base 3  "_law_rows" ["_law_cell"] ZbW)(c__law_spoilt:Cal P w K mg base 2  "_law_spoilt" ["_law_rows_here", "_law_cell"] Zbl)(ycR:Cal P w K mg base 6  "scene_text" ["scene"] ZbC):FnOk P w K mg base (CXR P w) 14 f fd ["_law_script"] (spD K mg 1 Zo5):=by
 exact okD F ZnM (λcdv A outer s H E hr=>have hN:=ZnM.nd;⟨_,(Zab (ZjG Vcf rfl (by walk_at "e") (by walk_at "e")
  (Zab (by walk_at "e")
  (Zab (Za5 (ZiS hr (ZbY ycR hr (by decide) rfl ZaM (Zad (ZbY ybk hr (by decide) rfl ZaM (Zad (yb7 Vb8 Vca Zbu Za6 ZaL (d_v 2)) Zan)) Zan)) (yb7 Vb8 Vca Zbu Za6 ZaL (d_v 2)))
  (Zaj (ZaJ ydi))
  Zav)
  (Zab (by walk_at "e")
  (Zab (Za5 (ZiS hr (ZbY ybF hr (by decide) rfl ZaM (Zad ZaL (Zad (yb7 Vb8 Vca Zbu Za6 ZaL (d_v 3)) Zan))) (by walk_at "e"))
  (Zaj (ZaJ ydi))
  Zav)
  (Zab (Za5 (ZiS hr (ZbY ybF hr (by decide) rfl ZaM (Zad ZaL (Zad (yb7 Vb8 Vca Zbu Za6 ZaL (by walk_at "e")) Zan))) (by walk_at "e"))
  (Zaj (ZaJ ydi))
  Zav)
  (by walk_at "e")))))))
  (by walk_at "e"))⟩)
end
def ln1{P:List Value->Prop}(q:∀a,P [a]):∀us,us.length=1->P us:=by intro us h;rcases us with _|⟨a,_|_⟩<;>first | exact q _ | cases h
def ln2{P:List Value->Prop}(q:∀a b,P [a,b]):∀us,us.length=2->P us:=by intro us h;rcases us with _|⟨a,_|⟨b,_|_⟩⟩<;>first | exact q _ _ | cases h
def ln3{P:List Value->Prop}(q:∀a b c,P [a,b,c]):∀us,us.length=3->P us:=by intro us h;rcases us with _|⟨a,_|⟨b,_|⟨c,_|_⟩⟩⟩<;>first | exact q _ _ _ | cases h
def ln4{P:List Value->Prop}(q:∀a b c d,P [a,b,c,d]):∀us,us.length=4->P us:=by intro us h;rcases us with _|⟨a,_|⟨b,_|⟨c,_|⟨d,_|_⟩⟩⟩⟩<;>first | exact q _ _ _ _ | cases h
def dmk{K:W.Frag}{mg:Str->Option Value}{x:Str}{st:Stmt}{ps:List Str}{f:Addr}{fd:FuncData}(F:Fun K x x st f fd)(b:Binds K fd ps [])(m:mg x=some (.ref f)):Def K mg x st ps:=⟨f,fd,F,b,m⟩
local macro_rules | `(tactic| walk_at "b1")=>`(tactic| exact λ_ _ _ _ _ _=>My.ln1 λ_=>rfl)
local macro_rules | `(tactic| walk_at "b2")=>`(tactic| exact λ_ _ _ _ _ _=>My.ln2 λ_ _=>rfl)
local macro_rules | `(tactic| walk_at "b3")=>`(tactic| exact λ_ _ _ _ _ _=>My.ln3 λ_ _ _=>rfl)
local macro_rules | `(tactic| walk_at "b4")=>`(tactic| exact λ_ _ _ _ _ _=>My.ln4 λ_ _ _ _=>rfl)
abbrev NI(K:W.Frag)(x:Str)(f:Addr):Prop:=W.nsIn K mainGlobals x=some (some (.ref f))
abbrev Df(K:W.Frag)(x q:Str)(st:Stmt)(f:Addr):Prop:=∃fd,Fun K x q st f fd
def Zrr{l:W.OpenLaw}{w:World}{K:W.Frag}{h:Heap}{mg:Str->Option Value}{fa f25 f28 f32 f33 f34 f54 f55 f56 f57 f62:Addr}(X:K.In h)(G:h.Ns mainGlobals mg)(hfa:mg "law"=some (.ref fa))
  {od62 an62:Option Addr} {sl62:Array (Option Value)} {oc62 kV62 dc62 pm62 cd62 ct62:Value} {tk0 tk1 tk2 tk3 tk4 gtk0_0 gtk0_1 gtk0_2 gtk0_3 gtk0_4:Tok} {GA0 C0 C1 C2 C3 C4 C5 X0 X1 X2 X3 X4 fx4 yai yab yaj yad ybG:Addr} {godt0:Option Addr} {gnn0:Nat} {gsl0:Array (Option Value)}
  (yaQ:NI K "Glass" yai)
  (yaf:NI K "Patterned" yab)
  (yaR:NI K "Plain" yaj)
  (yaz:NI K "Shaded" yad)
  (ycn:NI K "Thing" ybG)
  (D1:Def K mg "check_text" Zdk ["text"])
  (D2:Def K mg "is_whole" ZeR ["thing"])
  (D3:Def K mg "is_between" ZdC ["thing", "least", "most"])
  (D4:Def K mg "check_floor" Zc1 ["width", "height"])
  (D5:Def K mg "words_behind" Zb7 ["head", "row"])
  (D6:Def K mg "just_words_behind" Zbd ["head", "row", "count"])
  (D7:Def K mg "are_figures" ZcR ["word"])
  (D8:Def K mg "read_number" ZcX ["word"])
  (D9:Def K mg "numbers_behind" ZbH ["head", "row", "count"])
  (D10:Def K mg "read_floor" Zdt ["row"])
  (D11:Def K mg "greatest_divisor" Zbk ["numbers"])
  (D12:Def K mg "is_fraction" ZcI ["thing"])
  (D13:Def K mg "read_fraction" ZbO ["word"])
  (D14:Def K mg "read_ground" ZcM ["row"])
  (D15:Def K mg "is_spot" ZfL ["thing"])
  (D16:Def K mg "check_spots" ZcH ["spots"])
  (D17:Def K mg "read_spot" Zej ["word"])
  (D18:Def K mg "read_spots" Zdi ["row"])
  (D19:Def K mg "groups_of" Zd5 ["words"])
  (D20:Def K mg "read_corner" ZcU ["words"])
  (D21:Def K mg "check_before_eye" Zbj ["corners"])
  (D22:Def K mg "are_values" Zc9 ["thing"])
  (D23:Def K mg "is_corner" Zee ["thing"])
  (D24:Def K mg "check_triangle" ZbI ["triangle"])
  (a25:W.findIn K (.ref ybG) "__init__"=some (some (.ref f25))) (d25:Df K "__init__" "Thing.__init__" Zby f25) (q25:W.isFn K (.ref f25)=true)
  (D26:Def K mg "check_colour" Zcl ["colour"])
  (D27:Def K mg "check_part" Zds ["part"])
  (a28:W.findIn K (.ref yai) "__init__"=some (some (.ref f28))) (d28:Df K "__init__" "Glass.__init__" Zbw f28) (q28:W.isFn K (.ref f28)=true)
  (D29:Def K mg "check_pattern" ZbP ["pattern"])
  (D30:Def K mg "check_values" Zcc ["triangle", "least"])
  (D31:Def K mg "copied" Zhp ["pattern"])
  (a32:W.findIn K (.ref yab) "__init__"=some (some (.ref f32))) (d32:Df K "__init__" "Patterned.__init__" Za2 f32) (q32:W.isFn K (.ref f32)=true)
  (a33:W.findIn K (.ref yaj) "__init__"=some (some (.ref f33))) (d33:Df K "__init__" "Plain.__init__" Zbv f33) (q33:W.isFn K (.ref f33)=true)
  (a34:W.findIn K (.ref yad) "__init__"=some (some (.ref f34))) (d34:Df K "__init__" "Shaded.__init__" Zbi f34) (q34:W.isFn K (.ref f34)=true)
  (D35:Def K mg "read_pattern" Zcj ["word"])
  (D36:Def K mg "thing_of" ZeV ["head", "triangle"])
  (D37:Def K mg "read_thing" Zdr ["row"])
  (D38:Def K mg "read_at" ZfV ["rows", "number", "read"])
  (D39:Def K mg "read_scene" Zdg ["text"])
  (D40:Def K mg "_law_caught" ZcC ["_law_way", "_law_handed"])
  (D41:Def K mg "_law_mixed" Zdb ["_law_cell", "_law_k"])
  (D42:Def K mg "_law_no_form" Zcg ["_law_cell"])
  (D43:Def K mg "_law_no_thing" ZbV ["_law_cell"])
  (D44:Def K mg "_law_things" ZcG ["_law_cell"])
  (D45:Def K mg "_law_rows" Zeb ["_law_cell"])
  (D46:Def K mg "_law_head" Zeh ["_law_at", "_law_cell"])
  (D47:Def K mg "_law_turned_about" Zbc ["_law_rows_here", "_law_way", "_law_at"])
  (D48:Def K mg "_law_spoilt" ZcT ["_law_rows_here", "_law_cell"])
  (D49:Def K mg "number_word" ZcB ["number"])
  (D50:Def K mg "fraction_word" ZbL ["fraction"])
  (D51:Def K mg "pair_word" Zea ["pair"])
  (D52:Def K mg "numbers_of" ZdA ["corner"])
  (D53:Def K mg "corner_text" ZcD ["corner"])
  (a54:W.findIn K (.ref yai) "word"=some (some (.ref f54))) (d54:Df K "word" "Glass.word" ZcL f54) (q54:W.isFn K (.ref f54)=true)
  (a55:W.findIn K (.ref yab) "word"=some (some (.ref f55))) (d55:Df K "word" "Patterned.word" Zbx f55) (q55:W.isFn K (.ref f55)=true)
  (a56:W.findIn K (.ref yaj) "word"=some (some (.ref f56))) (d56:Df K "word" "Plain.word" Zcy f56) (q56:W.isFn K (.ref f56)=true)
  (a57:W.findIn K (.ref yad) "word"=some (some (.ref f57))) (d57:Df K "word" "Shaded.word" Zci f57) (q57:W.isFn K (.ref f57)=true)
  (D58:Def K mg "pattern_word" Zb9 ["pattern"])
  (D59:Def K mg "head_words" Zdx ["thing"])
  (D60:Def K mg "thing_text" ZdF ["thing"])
  (D61:Def K mg "scene_text" Zdd ["scene"])
  (a62:W.nsIn K mainGlobals "law"=some (some (.ref f62))) (l62:K.lookup f62=some ⟨oc62,od62,.func (W.fnOf "law" "law" (Zeg Zhw) (Zbn Zhw) (Zac Zhw) .none kV62 dc62 pm62 an62 cd62 ct62),sl62⟩) (c62:W.codeIn K cd62 "law"=true) (k62:W.keepIn K (.ref f62)=true)
  (ya2:W.plainGet K yai Str.empty=true) (ya3:W.hasDictIn K yai=true) (ya4:W.plainOver K yai=true) (ya5:W.findIn K (.ref yai) "__setattr__"=some (some (.builtin "object.__setattr__")))
  (yaG:W.findIn K (.ref yai) "colour"=some none)
  (ya6:W.findIn K (.ref yai) "part"=some none)
  (yaA:W.findIn K (.ref yai) "pattern"=some none)
  (yat:W.findIn K (.ref yai) "triangle"=some none)
  (ya7:W.findIn K (.ref yai) "word"=some (some (.ref f54)))
  (yco:W.makesIn K yai=true) (ycp:W.keepIn K (.ref yai)=true)
  (yak:W.plainGet K yab Str.empty=true) (yal:W.hasDictIn K yab=true) (yam:W.plainOver K yab=true) (yan:W.findIn K (.ref yab) "__setattr__"=some (some (.builtin "object.__setattr__")))
  (yaq:W.findIn K (.ref yab) "colour"=some none)
  (yau:W.findIn K (.ref yab) "part"=some none)
  (yap:W.findIn K (.ref yab) "pattern"=some none)
  (yao:W.findIn K (.ref yab) "triangle"=some none)
  (yav:W.findIn K (.ref yab) "word"=some (some (.ref f55)))
  (ybm:W.makesIn K yab=true) (ybn:W.keepIn K (.ref yab)=true)
  (ya8:W.plainGet K yaj Str.empty=true) (ya9:W.hasDictIn K yaj=true) (yba:W.plainOver K yaj=true) (ybb:W.findIn K (.ref yaj) "__setattr__"=some (some (.builtin "object.__setattr__")))
  (yaH:W.findIn K (.ref yaj) "colour"=some none)
  (ybc:W.findIn K (.ref yaj) "part"=some none)
  (yaB:W.findIn K (.ref yaj) "pattern"=some none)
  (yaw:W.findIn K (.ref yaj) "triangle"=some none)
  (ybd:W.findIn K (.ref yaj) "word"=some (some (.ref f56)))
  (ycq:W.makesIn K yaj=true) (ycr:W.keepIn K (.ref yaj)=true)
  (yaI:W.plainGet K yad Str.empty=true) (yaJ:W.hasDictIn K yad=true) (yaK:W.plainOver K yad=true) (yaL:W.findIn K (.ref yad) "__setattr__"=some (some (.builtin "object.__setattr__")))
  (yaC:W.findIn K (.ref yad) "colour"=some none)
  (yaT:W.findIn K (.ref yad) "part"=some none)
  (yax:W.findIn K (.ref yad) "pattern"=some none)
  (yas:W.findIn K (.ref yad) "triangle"=some none)
  (yaU:W.findIn K (.ref yad) "word"=some (some (.ref f57)))
  (yb4:W.makesIn K yad=true) (yb5:W.keepIn K (.ref yad)=true)
  (ycs:W.specialIn K (.ref ybG) "__getattribute__"=some (some (.builtin "type.__getattribute__"))) (yct:W.readsIn K ybG (.type "type")=true) (ycu:W.findCls K (.ref ybG) (.type "type") "__init__"=some (.val (.ref f25))) (ycv:W.handedIn (.ref f25)=true)
  (z0:W.nsIn K mainGlobals "ValueError"=some none)
  (z1:W.nsIn K mainGlobals "abs"=some none)
  (z2:W.nsIn K mainGlobals "all"=some none)
  (z3:W.nsIn K mainGlobals "bool"=some none)
  (z4:W.nsIn K mainGlobals "int"=some none)
  (z5:W.nsIn K mainGlobals "isinstance"=some none)
  (z6:W.nsIn K mainGlobals "len"=some none)
  (z7:W.nsIn K mainGlobals "list"=some none)
  (z8:W.nsIn K mainGlobals "range"=some none)
  (z9:W.nsIn K mainGlobals "reversed"=some none)
  (z10:W.nsIn K mainGlobals "set"=some none)
  (z11:W.nsIn K mainGlobals "str"=some none)
  (z12:W.nsIn K mainGlobals "tuple"=some none)
  (gc0:W.nsIn K mainGlobals "FIGURES"=some (some (.str "0123456789" tk0)))
  (gc1:W.nsIn K mainGlobals "MOST_CELLS"=some (some (.int 64 tk1)))
  (gc2:W.nsIn K mainGlobals "MOST_FIGURES"=some (some (.int 30 tk2)))
  (gc3:W.nsIn K mainGlobals "MOST_SPOTS"=some (some (.int 16 tk3)))
  (gc4:W.nsIn K mainGlobals "MOST_VALUES"=some (some (.int 3 tk4)))
  (gta0:W.nsIn K mainGlobals "COUNTS"=some (some (.ref GA0))) (gtl0:K.lookup GA0=some ⟨.type "tuple", godt0,.seq #[.int 1 gtk0_0,.int 2 gtk0_1,.int 4 gtk0_2,.int 8 gtk0_3,.int 16 gtk0_4] gnn0,gsl0⟩)
  (cl0:NI K "BadFloor" C0)
  (cl1:NI K "BadPattern" C1)
  (cl2:NI K "BadThing" C2)
  (cl3:NI K "BadTriangle" C3)
  (cl4:NI K "NoRow" C4)
  (cl5:NI K "YardError" C5)
  (xa0:W.nsIn K mainGlobals "BadFloor"=some (some (.ref X0))) (xb0:W.excIn K X0 Zc7 "ValueError.__new__"=true)
  (xa1:W.nsIn K mainGlobals "BadPattern"=some (some (.ref X1))) (xb1:W.excIn K X1 Zc7 "ValueError.__new__"=true)
  (xa2:W.nsIn K mainGlobals "BadThing"=some (some (.ref X2))) (xb2:W.excIn K X2 Zc7 "ValueError.__new__"=true)
  (xa3:W.nsIn K mainGlobals "BadTriangle"=some (some (.ref X3))) (xb3:W.excIn K X3 Zc7 "ValueError.__new__"=true)
  (xa4:W.nsIn K mainGlobals "NoRow"=some (some (.ref X4))) (xf4:W.findIn K (.ref X4) "__init__"=some (some (.ref fx4))) (xd4:Df K "__init__" "NoRow.__init__" Zbr fx4) (xe4:ZgI K X4 fx4=true) (xk4:W.keepIn K (.ref X4)=true) (xr4:W.mroIn K X4 (.type "BaseException")=some true) (xt4:W.typeIn K (.ref X4)=some (.type "type")) (xo4:W.mroIn K X4 (.type "object")=some true) (xv4:((W.clsIn K X4).any λcd=>Znl cd.mro)=true) (xh4:W.hasDictIn K X4=true) (xs4:W.findIn K (.ref X4) "__setattr__"=some (some (.builtin "object.__setattr__"))) (xn4:W.findIn K (.ref X4) "at"=some none)
  (xm0_5:W.exmOne K (.ref X0) (.ref C5)=some true)
  (xm1_5:W.exmOne K (.ref X1) (.ref C5)=some true)
  (xm2_5:W.exmOne K (.ref X2) (.ref C5)=some true)
  (xm3_5:W.exmOne K (.ref X3) (.ref C5)=some true)
  (xm4_5:W.exmOne K (.ref X4) (.ref C5)=some true)
  (kg0:W.findIn K (.ref X0) "__getattribute__"=some (some (.builtin "BaseException.__getattribute__"))) (kn0:W.findIn K (.ref X0) "__getattr__"=some none) (kb0:W.mroIn K X0 (.type "BaseException")=some true) (kd0:W.hasDictIn K X0=true) (kf0:W.findIn K (.ref X0) "__class__"=some (some (.builtin "object.__class__"))) (ks0:W.specialIn K (.builtin "object.__class__") "__get__"=some (some (.builtin "getset_descriptor.__get__"))) (ku0:W.takesIn K (.builtin "object.__class__")=some true) (km0:W.mroIn K X0 (.type "object")=some true)
  (kg1:W.findIn K (.ref X1) "__getattribute__"=some (some (.builtin "BaseException.__getattribute__"))) (kn1:W.findIn K (.ref X1) "__getattr__"=some none) (kb1:W.mroIn K X1 (.type "BaseException")=some true) (kd1:W.hasDictIn K X1=true) (kf1:W.findIn K (.ref X1) "__class__"=some (some (.builtin "object.__class__"))) (ks1:W.specialIn K (.builtin "object.__class__") "__get__"=some (some (.builtin "getset_descriptor.__get__"))) (ku1:W.takesIn K (.builtin "object.__class__")=some true) (km1:W.mroIn K X1 (.type "object")=some true)
  (kg2:W.findIn K (.ref X2) "__getattribute__"=some (some (.builtin "BaseException.__getattribute__"))) (kn2:W.findIn K (.ref X2) "__getattr__"=some none) (kb2:W.mroIn K X2 (.type "BaseException")=some true) (kd2:W.hasDictIn K X2=true) (kf2:W.findIn K (.ref X2) "__class__"=some (some (.builtin "object.__class__"))) (ks2:W.specialIn K (.builtin "object.__class__") "__get__"=some (some (.builtin "getset_descriptor.__get__"))) (ku2:W.takesIn K (.builtin "object.__class__")=some true) (km2:W.mroIn K X2 (.type "object")=some true)
  (kg3:W.findIn K (.ref X3) "__getattribute__"=some (some (.builtin "BaseException.__getattribute__"))) (kn3:W.findIn K (.ref X3) "__getattr__"=some none) (kb3:W.mroIn K X3 (.type "BaseException")=some true) (kd3:W.hasDictIn K X3=true) (kf3:W.findIn K (.ref X3) "__class__"=some (some (.builtin "object.__class__"))) (ks3:W.specialIn K (.builtin "object.__class__") "__get__"=some (some (.builtin "getset_descriptor.__get__"))) (ku3:W.takesIn K (.builtin "object.__class__")=some true) (km3:W.mroIn K X3 (.type "object")=some true)
  (kg4:W.findIn K (.ref X4) "__getattribute__"=some (some (.builtin "BaseException.__getattribute__"))) (kn4:W.findIn K (.ref X4) "__getattr__"=some none) (kb4:W.mroIn K X4 (.type "BaseException")=some true) (kd4:W.hasDictIn K X4=true) (kf4:W.findIn K (.ref X4) "__class__"=some (some (.builtin "object.__class__"))) (ks4:W.specialIn K (.builtin "object.__class__") "__get__"=some (some (.builtin "getset_descriptor.__get__"))) (ku4:W.takesIn K (.builtin "object.__class__")=some true) (km4:W.mroIn K X4 (.type "object")=some true)
  (kt0_0:W.kitOne K (.ref X0) (.ref C0)=some true)
  (kt0_1:W.kitOne K (.ref X0) (.ref C1)=some false)
  (kt0_2:W.kitOne K (.ref X0) (.ref C2)=some false)
  (kt0_3:W.kitOne K (.ref X0) (.ref C3)=some false)
  (kt0_4:W.kitOne K (.ref X0) (.ref C4)=some false)
  (kt1_0:W.kitOne K (.ref X1) (.ref C0)=some false)
  (kt1_1:W.kitOne K (.ref X1) (.ref C1)=some true)
  (kt1_2:W.kitOne K (.ref X1) (.ref C2)=some false)
  (kt1_3:W.kitOne K (.ref X1) (.ref C3)=some false)
  (kt1_4:W.kitOne K (.ref X1) (.ref C4)=some false)
  (kt2_0:W.kitOne K (.ref X2) (.ref C0)=some false)
  (kt2_1:W.kitOne K (.ref X2) (.ref C1)=some false)
  (kt2_2:W.kitOne K (.ref X2) (.ref C2)=some true)
  (kt2_3:W.kitOne K (.ref X2) (.ref C3)=some false)
  (kt2_4:W.kitOne K (.ref X2) (.ref C4)=some false)
  (kt3_0:W.kitOne K (.ref X3) (.ref C0)=some false)
  (kt3_1:W.kitOne K (.ref X3) (.ref C1)=some false)
  (kt3_2:W.kitOne K (.ref X3) (.ref C2)=some false)
  (kt3_3:W.kitOne K (.ref X3) (.ref C3)=some true)
  (kt3_4:W.kitOne K (.ref X3) (.ref C4)=some false)
  (kt4_0:W.kitOne K (.ref X4) (.ref C0)=some false)
  (kt4_1:W.kitOne K (.ref X4) (.ref C1)=some false)
  (kt4_2:W.kitOne K (.ref X4) (.ref C2)=some false)
  (kt4_3:W.kitOne K (.ref X4) (.ref C3)=some false)
  (kt4_4:W.kitOne K (.ref X4) (.ref C4)=some true)
  (kv0_ValueError:W.kitOne K (.ref X0) (.type "ValueError")=some true)
  (kv1_ValueError:W.kitOne K (.ref X1) (.type "ValueError")=some true)
  (kv2_ValueError:W.kitOne K (.ref X2) (.type "ValueError")=some true)
  (kv3_ValueError:W.kitOne K (.ref X3) (.type "ValueError")=some true)
  (kv4_ValueError:W.kitOne K (.ref X4) (.type "ValueError")=some true)
  : ∃fd:FuncData,(∀(s:Shared) (v:Value),BindsTo s fd ⟨[v],[]⟩ [("_law_script", v)])/\∀base:Heap,K.In base->base.Ns mainGlobals mg->FnOk l.prog w K mg base (CXR l.prog w) 14 fa fd ["_law_script"] (Zm0 K):=by
 have e:=hfa.symm.trans (Vci X G a62);cases e;have T:∀base,Txt l.prog w base K mg:=λ_=>⟨Vcj X G z0,Vcj X G z1,Vcj X G z2,Vcj X G z3,Vcj X G z4,Vcj X G z5,Vcj X G z6,Vcj X G z7,Vcj X G z8,Vcj X G z9,Vcj X G z10,Vcj X G z11,Vcj X G z12,⟨_,Vci X G gc0⟩,⟨_,Vci X G gc1⟩,⟨_,Vci X G gc2⟩,⟨_,Vci X G gc3⟩,⟨_,Vci X G gc4⟩,⟨_,_,_,_,Vci X G gta0,gtl0,rfl,rfl,show (5:Nat)<=sizeLine by decide,(.cons ⟨_,rfl⟩ (.cons ⟨_,rfl⟩ (.cons ⟨_,rfl⟩ (.cons ⟨_,rfl⟩ (.cons ⟨_,rfl⟩ .nil)))))⟩,⟨_,Vci X G cl0⟩,⟨_,Vci X G cl1⟩,⟨_,Vci X G cl2⟩,⟨_,Vci X G cl3⟩,⟨_,Vci X G cl4⟩,⟨_,Vci X G cl5⟩,⟨_,Vci X G xa0,xb0⟩,⟨_,Vci X G xa1,xb1⟩,⟨_,Vci X G xa2,xb2⟩,⟨_,Vci X G xa3,xb3⟩,⟨_,Vci X G xa4,⟨Exists.elim xd4 λfd F=>⟨_,fd,xe4,F,F.binds (ps:=["self", "at"]) (by walk_at "b2")⟩,xk4,⟨xr4,xt4⟩,⟨xo4,xv4,xh4,xs4⟩,xn4⟩⟩,λC hC=>by cases (Vci X G cl5).symm.trans hC;exact (Vch.mpr ⟨⟨_,Vci X G xa0,xm0_5⟩,(Vch.mpr ⟨⟨_,Vci X G xa1,xm1_5⟩,(Vch.mpr ⟨⟨_,Vci X G xa2,xm2_5⟩,(Vch.mpr ⟨⟨_,Vci X G xa3,xm3_5⟩,(Vch.mpr ⟨⟨_,Vci X G xa4,xm4_5⟩,(λ_ h=>absurd h Vb1)⟩)⟩)⟩)⟩)⟩),⟨(Vch.mpr ⟨⟨_,_,Vci X G xa0,Vci X G cl0,⟨kg0,kn0,kb0,kd0,kf0,ks0,ku0,km0⟩,kt0_0⟩,(Vch.mpr ⟨⟨_,_,Vci X G xa0,Vci X G cl1,⟨kg0,kn0,kb0,kd0,kf0,ks0,ku0,km0⟩,kt0_1⟩,(Vch.mpr ⟨⟨_,_,Vci X G xa0,Vci X G cl2,⟨kg0,kn0,kb0,kd0,kf0,ks0,ku0,km0⟩,kt0_2⟩,(Vch.mpr ⟨⟨_,_,Vci X G xa0,Vci X G cl3,⟨kg0,kn0,kb0,kd0,kf0,ks0,ku0,km0⟩,kt0_3⟩,(Vch.mpr ⟨⟨_,_,Vci X G xa0,Vci X G cl4,⟨kg0,kn0,kb0,kd0,kf0,ks0,ku0,km0⟩,kt0_4⟩,(Vch.mpr ⟨⟨_,_,Vci X G xa1,Vci X G cl0,⟨kg1,kn1,kb1,kd1,kf1,ks1,ku1,km1⟩,kt1_0⟩,(Vch.mpr ⟨⟨_,_,Vci X G xa1,Vci X G cl1,⟨kg1,kn1,kb1,kd1,kf1,ks1,ku1,km1⟩,kt1_1⟩,(Vch.mpr ⟨⟨_,_,Vci X G xa1,Vci X G cl2,⟨kg1,kn1,kb1,kd1,kf1,ks1,ku1,km1⟩,kt1_2⟩,(Vch.mpr ⟨⟨_,_,Vci X G xa1,Vci X G cl3,⟨kg1,kn1,kb1,kd1,kf1,ks1,ku1,km1⟩,kt1_3⟩,(Vch.mpr ⟨⟨_,_,Vci X G xa1,Vci X G cl4,⟨kg1,kn1,kb1,kd1,kf1,ks1,ku1,km1⟩,kt1_4⟩,(Vch.mpr ⟨⟨_,_,Vci X G xa2,Vci X G cl0,⟨kg2,kn2,kb2,kd2,kf2,ks2,ku2,km2⟩,kt2_0⟩,(Vch.mpr ⟨⟨_,_,Vci X G xa2,Vci X G cl1,⟨kg2,kn2,kb2,kd2,kf2,ks2,ku2,km2⟩,kt2_1⟩,(Vch.mpr ⟨⟨_,_,Vci X G xa2,Vci X G cl2,⟨kg2,kn2,kb2,kd2,kf2,ks2,ku2,km2⟩,kt2_2⟩,(Vch.mpr ⟨⟨_,_,Vci X G xa2,Vci X G cl3,⟨kg2,kn2,kb2,kd2,kf2,ks2,ku2,km2⟩,kt2_3⟩,(Vch.mpr ⟨⟨_,_,Vci X G xa2,Vci X G cl4,⟨kg2,kn2,kb2,kd2,kf2,ks2,ku2,km2⟩,kt2_4⟩,(Vch.mpr ⟨⟨_,_,Vci X G xa3,Vci X G cl0,⟨kg3,kn3,kb3,kd3,kf3,ks3,ku3,km3⟩,kt3_0⟩,(Vch.mpr ⟨⟨_,_,Vci X G xa3,Vci X G cl1,⟨kg3,kn3,kb3,kd3,kf3,ks3,ku3,km3⟩,kt3_1⟩,(Vch.mpr ⟨⟨_,_,Vci X G xa3,Vci X G cl2,⟨kg3,kn3,kb3,kd3,kf3,ks3,ku3,km3⟩,kt3_2⟩,(Vch.mpr ⟨⟨_,_,Vci X G xa3,Vci X G cl3,⟨kg3,kn3,kb3,kd3,kf3,ks3,ku3,km3⟩,kt3_3⟩,(Vch.mpr ⟨⟨_,_,Vci X G xa3,Vci X G cl4,⟨kg3,kn3,kb3,kd3,kf3,ks3,ku3,km3⟩,kt3_4⟩,(Vch.mpr ⟨⟨_,_,Vci X G xa4,Vci X G cl0,⟨kg4,kn4,kb4,kd4,kf4,ks4,ku4,km4⟩,kt4_0⟩,(Vch.mpr ⟨⟨_,_,Vci X G xa4,Vci X G cl1,⟨kg4,kn4,kb4,kd4,kf4,ks4,ku4,km4⟩,kt4_1⟩,(Vch.mpr ⟨⟨_,_,Vci X G xa4,Vci X G cl2,⟨kg4,kn4,kb4,kd4,kf4,ks4,ku4,km4⟩,kt4_2⟩,(Vch.mpr ⟨⟨_,_,Vci X G xa4,Vci X G cl3,⟨kg4,kn4,kb4,kd4,kf4,ks4,ku4,km4⟩,kt4_3⟩,(Vch.mpr ⟨⟨_,_,Vci X G xa4,Vci X G cl4,⟨kg4,kn4,kb4,kd4,kf4,ks4,ku4,km4⟩,kt4_4⟩,(λ_ h=>absurd h Vb1)⟩)⟩)⟩)⟩)⟩)⟩)⟩)⟩)⟩)⟩)⟩)⟩)⟩)⟩)⟩)⟩)⟩)⟩)⟩)⟩)⟩)⟩)⟩)⟩)⟩),(Vch.mpr ⟨⟨_,Vci X G xa0,⟨kg0,kn0,kb0,kd0,kf0,ks0,ku0,km0⟩,kv0_ValueError⟩,(Vch.mpr ⟨⟨_,Vci X G xa1,⟨kg1,kn1,kb1,kd1,kf1,ks1,ku1,km1⟩,kv1_ValueError⟩,(Vch.mpr ⟨⟨_,Vci X G xa2,⟨kg2,kn2,kb2,kd2,kf2,ks2,ku2,km2⟩,kv2_ValueError⟩,(Vch.mpr ⟨⟨_,Vci X G xa3,⟨kg3,kn3,kb3,kd3,kf3,ks3,ku3,km3⟩,kv3_ValueError⟩,(Vch.mpr ⟨⟨_,Vci X G xa4,⟨kg4,kn4,kb4,kd4,kf4,ks4,ku4,km4⟩,kv4_ValueError⟩,(λ_ h=>absurd h Vb1)⟩)⟩)⟩)⟩)⟩)⟩,(Vch.mpr ⟨⟨_,Vci X G xa4,⟨kg4,kn4,kb4,kd4,kf4,ks4,ku4,km4⟩,xn4⟩,(λ_ h=>absurd h Vb1)⟩),(.cons (λC hC=>by cases (Vci X G yaR).symm.trans hC;exact ⟨⟨ya8,ya9,yba,ybb⟩,yaH⟩) (.cons (λC hC=>by cases (Vci X G yaz).symm.trans hC;exact ⟨⟨yaI,yaJ,yaK,yaL⟩,yaC⟩) (.cons (λC hC=>by cases (Vci X G yaf).symm.trans hC;exact ⟨⟨yak,yal,yam,yan⟩,yaq⟩) (.cons (λC hC=>by cases (Vci X G yaQ).symm.trans hC;exact ⟨⟨ya2,ya3,ya4,ya5⟩,yaG⟩) .nil)))),(.cons (λC hC=>by cases (Vci X G yaR).symm.trans hC;exact ⟨⟨ya8,ya9,yba,ybb⟩,ybc⟩) (.cons (λC hC=>by cases (Vci X G yaz).symm.trans hC;exact ⟨⟨yaI,yaJ,yaK,yaL⟩,yaT⟩) (.cons (λC hC=>by cases (Vci X G yaf).symm.trans hC;exact ⟨⟨yak,yal,yam,yan⟩,yau⟩) (.cons (λC hC=>by cases (Vci X G yaQ).symm.trans hC;exact ⟨⟨ya2,ya3,ya4,ya5⟩,ya6⟩) .nil)))),(.cons (λC hC=>by cases (Vci X G yaR).symm.trans hC;exact ⟨⟨ya8,ya9,yba,ybb⟩,yaB⟩) (.cons (λC hC=>by cases (Vci X G yaz).symm.trans hC;exact ⟨⟨yaI,yaJ,yaK,yaL⟩,yax⟩) (.cons (λC hC=>by cases (Vci X G yaf).symm.trans hC;exact ⟨⟨yak,yal,yam,yan⟩,yap⟩) (.cons (λC hC=>by cases (Vci X G yaQ).symm.trans hC;exact ⟨⟨ya2,ya3,ya4,ya5⟩,yaA⟩) .nil)))),(.cons (λC hC=>by cases (Vci X G yaR).symm.trans hC;exact ⟨⟨ya8,ya9,yba,ybb⟩,yaw⟩) (.cons (λC hC=>by cases (Vci X G yaz).symm.trans hC;exact ⟨⟨yaI,yaJ,yaK,yaL⟩,yas⟩) (.cons (λC hC=>by cases (Vci X G yaf).symm.trans hC;exact ⟨⟨yak,yal,yam,yan⟩,yao⟩) (.cons (λC hC=>by cases (Vci X G yaQ).symm.trans hC;exact ⟨⟨ya2,ya3,ya4,ya5⟩,yat⟩) .nil))))⟩;obtain ⟨_,F25⟩:=d25;have B25:=F25.binds (ps:=["self", "triangle"]) (by walk_at "b2");obtain ⟨_,F28⟩:=d28;have B28:=F28.binds (ps:=["self", "triangle", "colour", "part"]) (by walk_at "b4");obtain ⟨_,F32⟩:=d32;have B32:=F32.binds (ps:=["self", "triangle", "pattern"]) (by walk_at "b3");obtain ⟨_,F33⟩:=d33;have B33:=F33.binds (ps:=["self", "triangle", "colour"]) (by walk_at "b3");obtain ⟨_,F34⟩:=d34;have B34:=F34.binds (ps:=["self", "triangle"]) (by walk_at "b2");obtain ⟨_,F54⟩:=d54;have B54:=F54.binds (ps:=["self"]) (by walk_at "b1");obtain ⟨_,F55⟩:=d55;have B55:=F55.binds (ps:=["self"]) (by walk_at "b1");obtain ⟨_,F56⟩:=d56;have B56:=F56.binds (ps:=["self"]) (by walk_at "b1");obtain ⟨_,F57⟩:=d57;have B57:=F57.binds (ps:=["self"]) (by walk_at "b1");have F62:=Ze4 (st:=Zhw) l62 c62 k62;have D62:=dmk F62 (F62.binds (ps:=["_law_script"]) (by walk_at "b1")) (Vci X G a62);refine ⟨W.fnOf "law" "law" (Zeg Zhw) (Zbn Zhw) (Zac Zhw) .none kV62 dc62 pm62 an62 cd62 ct62,λs v=>.of_eq rfl,λbase _ _=>?_⟩;have T:=T base;have ybT:=Zhv T D1;have ybu:=ZiM T D2;have ybU:=ZgS T D3 ybu;have ycw:=Zf5 T D4 ybU;have ybv:=ZfR T D5;have yaM:=ZdO T D6 ybv;have ycx:=Zf7 T D7;have yaD:=Zgh T D8 ycx;have ybZ:=ZeJ T D9 yaM yaD;have ybV:=Zhi T D10 ycw ybZ;have ybH:=Zei T D11;have yaE:=Zgm T D12 ybu ybH;have yaN:=Ze6 T D13 yaD yaE;have ybI:=Zgi T D14 yaM yaN;have ydg:=Zka T D15 ybU;have ycy:=Zgj T D16 ydg;have yc0:=Zh1 T D17 yaD;have ybW:=ZhB T D18 ybv ycy yc0;have yc1:=Zh0 T D19;have ycz:=Zgf T D20 yaD;have ybJ:=Zd7 T D21;have ycS:=Zg6 T D22 ybu;have yc2:=ZiC T D23 ybu ycS;have yb0:=ZeS T D24 yc2;have ybO:=Znm T F25 ybJ yb0;have CS_Thing:Zkm l.prog w K mg base 5 "Thing" "__init__" 1 objs Zck:=⟨_,_,_,_,Vci X G ycn,⟨ycs,⟨_,yct,ycu⟩,ycv,F25.kp⟩,ybO,B25⟩;have ybw:=Zfn T D26 yaE;have ycT:=Zho T D27 yaE;have ybP:=ZnA T F28 CS_Thing ybw ycT;have CI_Glass:CalJ l.prog w K mg base 7 "Glass" 3 objs Zg0:=⟨_,_,_,_,Vci X G yaQ,⟨yco,a28,q28,ycp⟩,ybP,B28,rfl⟩;have yb6:=Zfa T D29 yaE;have ybx:=Zf0 T D30;have ydj:=ZlZ T D31;have ybo:=ZiA T F32 CS_Thing yb6 ybx ydj;have CI_Patterned:CalJ l.prog w K mg base 7 "Patterned" 2 objs Zcz:=⟨_,_,_,_,Vci X G yaf,⟨ybm,a32,q32,ybn⟩,ybo,B32,rfl⟩;have ybQ:=Zne T F33 CS_Thing ybw;have CI_Plain:CalJ l.prog w K mg base 7 "Plain" 2 objs Zhl:=⟨_,_,_,_,Vci X G yaR,⟨ycq,a33,q33,ycr⟩,ybQ,B33,rfl⟩;have ybK:=Zlc T F34 CS_Thing ybx;have CI_Shaded:CalJ l.prog w K mg base 7 "Shaded" 1 objs Zff:=⟨_,_,_,_,Vci X G yaz,⟨yb4,a34,q34,yb5⟩,ybK,B34,rfl⟩;have ycc:=ZfH T D35 yaN;have ydc:=Zi1 T D36 yaN CI_Glass CI_Patterned CI_Plain CI_Shaded ycc;have ybp:=ZhD T D37 ybT yc1 ycz ydc;have ydh:=Zkg T D38 ybV ybI ybW ybp;have ybX:=ZgT T D39 ybT ybV ybI ybW ybp ydh;have ycA:=Zf4 T D40 ybp ybX;have ybq:=ZgW T D41;have yby:=ZfU T D42;have ybr:=Ze5 T D43;have ybL:=Zge T D44 ybq;have yc3:=Zh4 T D45 ybq ybL;have yc4:=ZhL T D46;have ybA:=ZdP T D47;have ycB:=Zgk T D48 yby ybr yc4 ybA;have yaF:=Zgd T D49;have yaO:=Ze9 T D50 yaF;have yc5:=ZhZ T D51 yaF;have ycU:=ZgZ T D52;have ycC:=Zf8 T D53 yaF ycU;have ycD:=Zgn T F54;have ybR:=Zen T F55;have ycE:=Zgl T F56;have ycd:=ZfS T F57;have CM_word:Zer l.prog w K mg base 1 0 "word" Zg8:=(.cons (λC hC=>by cases (Vci X G yaR).symm.trans hC;exact ⟨⟨ya8,ya9,yba,ybb⟩,_,_,_,⟨ybd,q56,F56.kp⟩,ycE.mono (by decide),B56,rfl⟩) (.cons (λC hC=>by cases (Vci X G yaz).symm.trans hC;exact ⟨⟨yaI,yaJ,yaK,yaL⟩,_,_,_,⟨yaU,q57,F57.kp⟩,ycd.mono (by decide),B57,rfl⟩) (.cons (λC hC=>by cases (Vci X G yaf).symm.trans hC;exact ⟨⟨yak,yal,yam,yan⟩,_,_,_,⟨yav,q55,F55.kp⟩,ybR.mono (by decide),B55,rfl⟩) (.cons (λC hC=>by cases (Vci X G yaQ).symm.trans hC;exact ⟨⟨ya2,ya3,ya4,ya5⟩,_,_,_,⟨ya7,q54,F54.kp⟩,ycD.mono (by decide),B54,rfl⟩) .nil))));have yce:=Zfl T D58 yaO;have ycV:=ZhF T D59 yaO CM_word yce;have ycW:=Zha T D60 ycC ycV;have ycX:=ZgV T D61 yaF yaO yc5 ycW;exact (Zr4 T F62 ybX ycA ybq yby ybr ybL yc3 ycB ycX).imp (Zrs Zmu)
def walk{l:W.OpenLaw}{q:Program}{loose:List Str}{XP:(Str->Option Value)->Heap->Prop}{YP:World->Heap->Prop}{d:DefRec}{K:Params->W.Frag}(hn:l.most=some 63)(hdf:d.params.defaults=[])
  (hY:∀(w:World) (h:Heap),YP w h->(K w.params).In h)
  (F:∀(w:World) (mg:Str->Option Value) (fa:Addr) (h:Heap),(K w.params).In h->h.Ns mainGlobals mg->mg d.name=some (.ref fa) ->
   ∃fd:FuncData,(∀(s:Shared) (u:Value),BindsTo s fd ⟨[u],[]⟩ [("_law_script", u)])/\∀base:Heap,(K w.params).In base->base.Ns mainGlobals mg->FnOk l.prog w (K w.params) mg base (CXR l.prog w) 14 fa fd ["_law_script"] (Zm0 (K w.params))) :
  W.WalkO q loose XP YP l.row.toRowW d [] (λf vs=>PySem.call f vs) :=
 L2.ZpB (n:=63) (k:=14) (x := "_law_script") (CX:=λw=>CXR l.prog w) (sp:=λw=>Zm0 (K w.params)) hn (by decide) hdf ⟨rfl,by decide,by decide⟩ hY F (λ_ _ a ns hl _ hS=>⟨a,ns,rfl,hS,hl,λ_=>rfl⟩) λ_ _ _ _ _ z=>ZsQ z
end My
set_option hygiene false in
local macro_rules | `(tactic| walk_at "df")=>`(tactic| (refine' ⟨_,L2.Ze4 ?l ?c ?k⟩;(case l=>k_is);(case c=>k_is);(case k=>k_is)))
set_option hygiene false in
local macro_rules | `(tactic| walk_at "dd1")=>`(tactic| (refine' ⟨_,_,L2.Ze4 ?l ?c ?k,L2.Fun.binds (L2.Ze4 ?l ?c ?k) (λ_ _ _ _ _ _=>My.ln1 λ_=>rfl),Vci KX G ?a⟩;(case a=>k_is);(case l=>k_is);(case c=>k_is);(case k=>k_is)))
set_option hygiene false in
local macro_rules | `(tactic| walk_at "dd2")=>`(tactic| (refine' ⟨_,_,L2.Ze4 ?l ?c ?k,L2.Fun.binds (L2.Ze4 ?l ?c ?k) (λ_ _ _ _ _ _=>My.ln2 λ_ _=>rfl),Vci KX G ?a⟩;(case a=>k_is);(case l=>k_is);(case c=>k_is);(case k=>k_is)))
set_option hygiene false in
local macro_rules | `(tactic| walk_at "dd3")=>`(tactic| (refine' ⟨_,_,L2.Ze4 ?l ?c ?k,L2.Fun.binds (L2.Ze4 ?l ?c ?k) (λ_ _ _ _ _ _=>My.ln3 λ_ _ _=>rfl),W.mg_of KX G ?a⟩;(case a=>k_is);(case l=>k_is);(case c=>k_is);(case k=>k_is)))
local macro_rules | `(tactic| walk_at "ni")=>`(tactic| (delta My.NI;k_is))
open PySem PySem.W PyProof.Rows
set_option maxRecDepth 100000 in
set_option maxHeartbeats 0 in
theorem PySem.Challenge.cw_sampleyard_k83_rows_refused_holds : PySem.Challenge.rw_sampleyard_k83_rows_refused.Holds := by
 w_on;refine holds_law Hd.said λsaid=>?_
 refine holds_open (r:=PySem.Challenge.rw_sampleyard_k83_rows_refused.row) (q:=Hd.view) (loose:=[]) (Xt:=(λs=>xlAt Hd.view [] s&&recOk (RowW.records PySem.Challenge.rw_sampleyard_k83_rows_refused.row.toRowW) s)) (XP:=XL Hd.view []) (Yf:=Hook.obs (kHook Hd.heap Hd.addrs Hd.ZdM)) (Ya:=Hook.val (kHook Hd.heap Hd.addrs Hd.ZdM)) (YP:=Hook.says (kHook Hd.heap Hd.addrs Hd.ZdM)) (N:=Hd.most) Hd.left (Hook.of (kHook Hd.heap Hd.addrs Hd.ZdM)) (Hook.keeps (kHook Hd.heap Hd.addrs Hd.ZdM)) (λs e=>xl_of s (Bool.and_eq_true_iff.mp e).1) XL.keeps (by rfl) (by rfl) (by rfl) (λs e=>recFacts_of (Bool.and_eq_true_iff.mp e).2) (by rfl) (by assumption) (by decide +kernel) ⟨rfl,rfl,rfl,rfl,rfl,by decide +kernel⟩ ?hw ?hc
 case hw=>w_witness2
 k_fill
 refine My.walk (l:=PySem.Challenge.rw_sampleyard_k83_rows_refused) rfl rfl (λw h Y=>W.kIn_of Y) ?F
 case F =>
  intro w mg fa h KX G hmg;refine' My.Zrr KX G hmg ?yaQ ?yaf ?yaR ?yaz ?ycn ?D1 ?D2 ?D3 ?D4 ?D5 ?D6 ?D7 ?D8 ?D9 ?D10 ?D11 ?D12 ?D13 ?D14 ?D15 ?D16 ?D17 ?D18 ?D19 ?D20 ?D21 ?D22 ?D23 ?D24 ?a25 ?d25 ?q25 ?D26 ?D27 ?a28 ?d28 ?q28 ?D29 ?D30 ?D31 ?a32 ?d32 ?q32 ?a33 ?d33 ?q33 ?a34 ?d34 ?q34 ?D35 ?D36 ?D37 ?D38 ?D39 ?D40 ?D41 ?D42 ?D43 ?D44 ?D45 ?D46 ?D47 ?D48 ?D49 ?D50 ?D51 ?D52 ?D53 ?a54 ?d54 ?q54 ?a55 ?d55 ?q55 ?a56 ?d56 ?q56 ?a57 ?d57 ?q57 ?D58 ?D59 ?D60 ?D61 ?a62 ?l62 ?c62 ?k62 ?ya2 ?ya3 ?ya4 ?ya5 ?yaG ?ya6 ?yaA ?yat ?ya7 ?yco ?ycp ?yak ?yal ?yam ?yan ?yaq ?yau ?yap ?yao ?yav ?ybm ?ybn ?ya8 ?ya9 ?yba ?ybb ?yaH ?ybc ?yaB ?yaw ?ybd ?ycq ?ycr ?yaI ?yaJ ?yaK ?yaL ?yaC ?yaT ?yax ?yas ?yaU ?yb4 ?yb5 ?ycs ?yct ?ycu ?ycv ?z0 ?z1 ?z2 ?z3 ?z4 ?z5 ?z6 ?z7 ?z8 ?z9 ?z10 ?z11 ?z12 ?gc0 ?gc1 ?gc2 ?gc3 ?gc4 ?gta0 ?gtl0 ?cl0 ?cl1 ?cl2 ?cl3 ?cl4 ?cl5 ?xa0 ?xb0 ?xa1 ?xb1 ?xa2 ?xb2 ?xa3 ?xb3 ?xa4 ?xf4 ?xd4 ?xe4 ?xk4 ?xr4 ?xt4 ?xo4 ?xv4 ?xh4 ?xs4 ?xn4 ?xm0_5 ?xm1_5 ?xm2_5 ?xm3_5 ?xm4_5 ?kg0 ?kn0 ?kb0 ?kd0 ?kf0 ?ks0 ?ku0 ?km0 ?kg1 ?kn1 ?kb1 ?kd1 ?kf1 ?ks1 ?ku1 ?km1 ?kg2 ?kn2 ?kb2 ?kd2 ?kf2 ?ks2 ?ku2 ?km2 ?kg3 ?kn3 ?kb3 ?kd3 ?kf3 ?ks3 ?ku3 ?km3 ?kg4 ?kn4 ?kb4 ?kd4 ?kf4 ?ks4 ?ku4 ?km4 ?kt0_0 ?kt0_1 ?kt0_2 ?kt0_3 ?kt0_4 ?kt1_0 ?kt1_1 ?kt1_2 ?kt1_3 ?kt1_4 ?kt2_0 ?kt2_1 ?kt2_2 ?kt2_3 ?kt2_4 ?kt3_0 ?kt3_1 ?kt3_2 ?kt3_3 ?kt3_4 ?kt4_0 ?kt4_1 ?kt4_2 ?kt4_3 ?kt4_4 ?kv0_ValueError ?kv1_ValueError ?kv2_ValueError ?kv3_ValueError ?kv4_ValueError
  (case yaQ=>walk_at "ni")
  (case yaf=>walk_at "ni")
  (case yaR=>walk_at "ni")
  (case yaz=>walk_at "ni")
  (case ycn=>walk_at "ni")
  (case D1=>walk_at "dd1")
  (case D2=>walk_at "dd1")
  (case D3=>walk_at "dd3")
  (case D4=>walk_at "dd2")
  (case D5=>walk_at "dd2")
  (case D6=>walk_at "dd3")
  (case D7=>walk_at "dd1")
  (case D8=>walk_at "dd1")
  (case D9=>walk_at "dd3")
  (case D10=>walk_at "dd1")
  (case D11=>walk_at "dd1")
  (case D12=>walk_at "dd1")
  (case D13=>walk_at "dd1")
  (case D14=>walk_at "dd1")
  (case D15=>walk_at "dd1")
  (case D16=>walk_at "dd1")
  (case D17=>walk_at "dd1")
  (case D18=>walk_at "dd1")
  (case D19=>walk_at "dd1")
  (case D20=>walk_at "dd1")
  (case D21=>walk_at "dd1")
  (case D22=>walk_at "dd1")
  (case D23=>walk_at "dd1")
  (case D24=>walk_at "dd1")
  case a25=>k_is
  (case d25=>walk_at "df")
  case q25=>k_is
  (case D26=>walk_at "dd1")
  (case D27=>walk_at "dd1")
  case a28=>k_is
  (case d28=>walk_at "df")
  case q28=>k_is
  (case D29=>walk_at "dd1")
  (case D30=>walk_at "dd2")
  (case D31=>walk_at "dd1")
  case a32=>k_is
  (case d32=>walk_at "df")
  case q32 | a33=>k_is
  (case d33=>walk_at "df")
  case q33 | a34=>k_is
  (case d34=>walk_at "df")
  case q34=>k_is
  (case D35=>walk_at "dd1")
  (case D36=>walk_at "dd2")
  (case D37=>walk_at "dd1")
  (case D38=>walk_at "dd3")
  (case D39=>walk_at "dd1")
  (case D40=>walk_at "dd2")
  (case D41=>walk_at "dd2")
  (case D42=>walk_at "dd1")
  (case D43=>walk_at "dd1")
  (case D44=>walk_at "dd1")
  (case D45=>walk_at "dd1")
  (case D46=>walk_at "dd2")
  (case D47=>walk_at "dd3")
  (case D48=>walk_at "dd2")
  (case D49=>walk_at "dd1")
  (case D50=>walk_at "dd1")
  (case D51=>walk_at "dd1")
  (case D52=>walk_at "dd1")
  (case D53=>walk_at "dd1")
  case a54=>k_is
  (case d54=>walk_at "df")
  case q54 | a55=>k_is
  (case d55=>walk_at "df")
  case q55 | a56=>k_is
  (case d56=>walk_at "df")
  case q56 | a57=>k_is
  (case d57=>walk_at "df")
  case q57=>k_is
  (case D58=>walk_at "dd1")
  (case D59=>walk_at "dd1")
  (case D60=>walk_at "dd1")
  (case D61=>walk_at "dd1")
  case a62 | l62 | c62 | k62 | ya2 | ya3 | ya4 | ya5 | yaG | ya6 | yaA | yat | ya7 | yco | ycp | yak | yal | yam | yan | yaq | yau | yap | yao | yav | ybm=>k_is
  case ybn | ya8 | ya9 | yba | ybb | yaH | ybc | yaB | yaw | ybd | ycq | ycr | yaI | yaJ | yaK | yaL | yaC | yaT | yax | yas | yaU | yb4 | yb5 | ycs | yct=>k_is
  case ycu=>k_is
  case ycv=>rfl
  case z0 | z1 | z2 | z3 | z4 | z5 | z6 | z7 | z8 | z9 | z10 | z11 | z12 | gc0 | gc1 | gc2 | gc3 | gc4 | gta0 | gtl0=>k_is
  (case cl0=>walk_at "ni")
  (case cl1=>walk_at "ni")
  (case cl2=>walk_at "ni")
  (case cl3=>walk_at "ni")
  (case cl4=>walk_at "ni")
  (case cl5=>walk_at "ni")
  case xa0=>k_is
  case xb0=>k_exc
  case xa1=>k_is
  case xb1=>k_exc
  case xa2=>k_is
  case xb2=>k_exc
  case xa3=>k_is
  case xb3=>k_exc
  case xa4 | xf4=>k_is
  (case xd4=>walk_at "df")
  case xe4=>kernel_rfl
  case xk4 | xr4 | xt4 | xo4=>k_is
  case xv4=>kernel_rfl
  case xh4 | xs4 | xn4=>k_is
  case xm0_5 | xm1_5 | xm2_5 | xm3_5 | xm4_5=>kts_exm
  case kg0 | kn0 | kb0 | kd0 | kf0 | ks0 | ku0 | km0 | kg1 | kn1 | kb1 | kd1 | kf1 | ks1 | ku1 | km1 | kg2 | kn2 | kb2 | kd2 | kf2 | ks2 | ku2 | km2 | kg3=>k_is
  case kn3 | kb3 | kd3 | kf3 | ks3 | ku3 | km3 | kg4 | kn4 | kb4 | kd4 | kf4 | ks4 | ku4 | km4=>k_is
  case kt0_0 | kt0_1 | kt0_2 | kt0_3 | kt0_4 | kt1_0 | kt1_1 | kt1_2 | kt1_3 | kt1_4 | kt2_0 | kt2_1 | kt2_2 | kt2_3 | kt2_4 | kt3_0 | kt3_1 | kt3_2 | kt3_3 | kt3_4 | kt4_0 | kt4_1 | kt4_2 | kt4_3 | kt4_4=>kit_is
  case kv0_ValueError | kv1_ValueError | kv2_ValueError | kv3_ValueError | kv4_ValueError=>kit_is
