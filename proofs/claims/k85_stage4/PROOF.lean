import PyProof.Rows.All
import Wide.All
import OpenK.AllK
import Wide.FinOn
import Lean
import KE.KIntText
import KE.KRevIter
import PyProof.StrLawsTight
import PyProof.StrLawsChain
import PyProof.Rows.CatFin
import PyProof.CollectIter
import PyProof.JoinWalk
import PyProof.Rows.StrDigitsNeg
import PyProof.Rows.StrJoinMade
import PyProof.Rows.StrBin
import KE.KLam
import KE.KNestM
import PyProof.EqAt
import PyProof.EqKinds
import PyProof.TupleCall
import PyProof.P3Eq
import PyProof.NeData
import PySem.Challenge.RW_sampleyard_k85_whole_texts_by_signs
set_option Elab.async false
set_option linter.all false
set_option maxRecDepth 100000
noncomputable section
abbrev iP:=@if_pos
abbrev iN:=@if_neg
abbrev aB:=@absurd
def Hd.said:PySem.W.OpenLaw.wellSaid PySem.Challenge.rw_sampleyard_k85_whole_texts_by_signs=true:=by kernel_rfl
abbrev Vaa:=@List.map_congr_left
abbrev Vab:=@Bool.eq_false_iff
abbrev Vac:=@Option.some.inj
abbrev Vad:=@decide_eq_false
abbrev Vae:=@beq_eq_false_iff_ne
abbrev Vaf:=@PySem.Heap.lt_size
abbrev Vag:=@Nat.lt_of_lt_of_le
abbrev Vah:=@Nat.lt_irrefl
abbrev Vai:=@Nat.ne_of_lt
abbrev Vaj:=@PySem.W.hideAll_get
abbrev Vak:=@PySem.W.of_hideAll
abbrev Vam:=@List.mem_range
abbrev Van:=@PySem.W.hideAll_none
abbrev Vao:=@Nat.le_trans
abbrev Vap:=@List.filterMap_cons
abbrev Vaq:=@List.mem_cons_self
abbrev Var:=@List.mem_cons_of_mem
abbrev Vas:=@PySem.Heap.get?_none_of_le
abbrev Vat:=@List.mem_cons
abbrev Vau:=@List.mem_append
abbrev Vav:=@List.mem_append_left
abbrev Vaw:=@List.getElem?_eq_some_iff
abbrev Vax:=@PySem.wpAny_mono
abbrev Vay:=@PySem.wpAny_truthy_bool
abbrev Vaz:=@Array.length_toList
abbrev VaA:=@congrArg
abbrev VaB:=@PySem.wpAny_execs_nil
abbrev VaC:=@PySem.wpAny_execs_cons
abbrev VaD:=@PySem.wpAny_bind
abbrev VaE:=@PySem.wpAny_standAt
abbrev VaF:=@PySem.wpAny_pure
abbrev VaG:=@PySem.wpAny_newObj_type
abbrev VaH:=@PySem.Heap.get?_push_of_some
abbrev VaI:=@PySem.wpAny_passesOwn
abbrev VaJ:=@Bool.false_ne_true
abbrev VaK:=@Nat.ne_of_gt
abbrev VaL:=@Bool.false_and
abbrev VaM:=@PySem.Heap.get?_push_size
abbrev VaN:=@Nat.le_refl
abbrev VaO:=@PyProof.Rows.callWith_type1
abbrev VaP:=@List.mem_filterMap
abbrev VaQ:=@List.mem_append_right
abbrev VaR:=@List.size_toArray
abbrev VaS:=@beq_iff_eq
abbrev VaT:=@PySem.wpAny_loadPart
abbrev VaU:=@List.length_cons
abbrev VaV:=@PySem.W.looks_findIn
abbrev VaW:=@List.map_cons
abbrev VaX:=@List.length_map
abbrev VaY:=@PySem.Heap.size_push
abbrev VaZ:=@Nat.lt_succ_self
abbrev Va0:=@Nat.zero_le
abbrev Va1:=@PySem.W.kia_one
abbrev Va2:=@List.append_nil
abbrev Va3:=@PySem.wpAny_call
abbrev Va4:=@PySem.codeAny_mono
abbrev Va5:=@PySem.wpAny_Call_Name_kw
abbrev Va6:=@PySem.W.callWith_K
abbrev Va7:=@List.nodup_cons
abbrev Va8:=@List.length_take
abbrev Va9:=@PySem.mem_of_lookup
abbrev Vba:=@List.getElem?_append_right
abbrev Vbb:=@List.getElem?_replicate
abbrev Vbc:=@List.getElem?_append_left
abbrev Vbd:=@List.getElem?_map
abbrev Vbe:=@List.mem_of_getElem?
abbrev Vbf:=@List.length_append
abbrev Vbg:=@List.length_replicate
abbrev Vbh:=@if_false
abbrev Vbi:=@if_true
abbrev Vbj:=@PySem.wpAny_field
abbrev Vbk:=@List.length_drop
abbrev Vbl:=@PySem.wpAny_holding
abbrev Vbm:=@PyProof.Rows.slot_tuple_getitem
abbrev Vbn:=@PySem.wpAny_typeOf
abbrev Vbo:=@Bool.and_eq_true
abbrev Vbp:=@PySem.typeIs_str
abbrev Vbq:=@PySem.Heap.get?_update_other
abbrev Vbr:=@decide_eq_true
abbrev Vbs:=@Nat.lt_of_le_of_lt
abbrev Vbt:=@List.lookup_cons
abbrev Vbu:=@Nat.lt_trans
abbrev Vbv:=@PySem.wpAny_comprehension_free
abbrev Vbw:=@List.mem_map
abbrev Vbx:=@List.all_eq_true
abbrev Vby:=@Array.getElem?_eq_some_iff
abbrev Vbz:=@PySem.F.excBase_ValueError
abbrev VbA:=@PySem.codeAny_call_builtin
abbrev VbB:=@PySem.Code.quiet_builtin
abbrev VbC:=@PySem.codeAny_builtin
abbrev VbD:=@PySem.W.looks_mroIn
abbrev VbE:=@List.drop_eq_getElem_cons
abbrev VbF:=@Bool.false_eq_true
abbrev VbG:=@List.drop_zero
abbrev VbH:=@List.take_of_length_le
abbrev VbI:=@List.length_set
abbrev VbJ:=@List.getElem?_eq_none
abbrev VbK:=@List.length_range
abbrev VbL:=@List.getElem?_eq_getElem
abbrev VbM:=@List.drop_eq_nil_of_le
abbrev VbN:=@List.map_map
abbrev VbO:=@List.append_assoc
abbrev VbP:=@Nat.succ_le_succ
abbrev VbQ:=@List.all_cons
abbrev VbR:=@List.all_map
abbrev VbS:=@List.getD_eq_getElem?_getD
abbrev VbT:=@List.not_mem_nil
abbrev VbU:=@List.getElem_mem
abbrev VbV:=@List.mem_iff_getElem
abbrev VbW:=@PySem.wpAny_setField
abbrev VbX:=@PySem.Heap.get?_update_self
abbrev VbY:=@PySem.Obj.data_mapFields
abbrev VbZ:=@List.mem_singleton
abbrev Vb0:=@List.contains_cons
abbrev Vb1:=@List.map_append
abbrev Vb2:=@List.pairwise_iff_getElem
abbrev Vb3:=@Array.getElem?_eq_getElem
abbrev Vb4:=@List.take_append_drop
abbrev Vb5:=@Classical.byContradiction
abbrev Vb6:=@Array.getElem?_toList
abbrev Vb7:=@PySem.wpAny_setState_of
abbrev Vb8:=@Bool.and_true
abbrev Vb9:=@Bool.and_false
abbrev Vca:=@of_decide_eq_true
abbrev Vcb:=@or_false
abbrev Vcc:=@PySem.F.slot_str_startswith
abbrev Vcd:=@decide_eq_true_eq
abbrev Vce:=@PySem.F.slot_str_join
abbrev Vcf:=@List.map_reverse
abbrev Vcg:=@PySem.F.type_str_join
abbrev Vch:=@List.length_nil
abbrev Vci:=@PySem.F.slot_str_split
abbrev Vcj:=@Int.toNat_natCast
abbrev Vck:=@PyProof.Rows.signs_ofString
abbrev Vcl:=@Bool.eq_iff_iff
abbrev Vcm:=@Int.natAbs_natCast
abbrev Vcn:=@List.cons.inj
abbrev Vco:=@List.length_eq_zero_iff
abbrev Vcp:=@decide_eq_decide
abbrev Vcq:=@Option.bind_some
abbrev Vcr:=@List.filter_eq_self
abbrev Vcs:=@Bool.true_and
abbrev Vct:=@List.mem_map_of_mem
abbrev Vcu:=@List.getElem?_eq_none_iff
abbrev Vcv:=@PySem.PassesOwn.leaving
abbrev Vcw:=@PySem.F.type_str_split
abbrev Vcx:=@List.forall_mem_cons
abbrev Vcy:=@PySem.W.mg_of
abbrev Vcz:=@PySem.W.mg_none_of
set_option hygiene false
set_option compiler.extract_closed false
local macro_rules |`(00)=>`(by decide)
local macro_rules |`(01)=>`(List Nat)
local macro_rules |`(02)=>`(by walk_at "e")
local macro_rules |`(03)=>`(by simp)
local macro_rules |`(04)=>`(by ac_rfl)
local macro_rules |`(05)=>`(.ref C)
local macro_rules |`(06)=>`(c (.int 1))
local macro_rules |`(07)=>`(Zaa (v 0) yaa)
local macro_rules |`(08)=>`(model prog w)
local macro_rules |`(09)=>`(Inv X pins σ H s)
local macro_rules |`(000)=>`(by omega)
local macro_rules |`(001)=>`(Str->Option Value)
local macro_rules |`(002)=>`(c (.int 0))
local macro_rules |`(003)=>`(λ_ z=>by cases z)
local macro_rules |`(004)=>`(DE X E a ta ma)
local macro_rules |`(005)=>`((own++cap.map (·.1)))
local macro_rules |`(006)=>`(cxOf (CXR P w) P w K mg base N qual scope f cd A outer s₀ H₀ E)
local macro_rules |`(007)=>`(st "sampleyard.things" 429)
local macro_rules |`(008)=>`(.builtin "object.__class__")
local macro_rules |`(009)=>`((noA own.length (ybu ρ (cap.map (·.2)))))
local macro_rules |`(010)=>`(tupleKeyHash (intKind prog w) ks)
local macro_rules |`(011)=>`(starEach (e::es) X.env=(false,eval e X.env)::starEach es X.env)
local macro_rules |`(012)=>`(.ListComp elt [⟨tg,iter,ts,0⟩] scope pos)
local macro_rules |`(013)=>`(X.fn x=true\/X.env.scope.names.lookup x=some .local)
namespace L2
open PySem
def inClass(s:Stmt)(j:Nat):Stmt:=match s with
 | .ClassDef _ _ _ body _ _ _ _ _ _ _=>body.getD j (.Pass ⟨0,0,0,0⟩)
 | _=>.Pass ⟨0,0,0,0⟩
def Ze2(s:Stmt):Arguments:=match s with
 | .FunctionDef _ a _ _ _ _ _ _ _ _=>a
 | _=>{ posonlyargs:=[],args:=[],vararg:=none,kwonlyargs:=[],kw_defaults:=[],kwarg:=none,defaults:=[] }
def Zb8(s:Stmt):List Stmt:=match s with
 | .FunctionDef _ _ b _ _ _ _ _ _ _=>b
 | _=>[]
def Zad(s:Stmt):Scope:=match s with
 | .FunctionDef _ _ _ _ _ _ sc _ _ _=>sc
 | _=>{ kind:=.function,names:=[],isGenerator:=false,isCoroutine:=false }
end L2
namespace Hd
open PySem PySem.W L2
abbrev top(i:Nat):Stmt:=PySem.Challenge.pw_sampleyard_k85_whole_texts_by_signs.main.body.getD i (.Pass ⟨0,0,0,0⟩)
def view:Program:={ PySem.Challenge.pw_sampleyard_k85_whole_texts_by_signs with main:={ PySem.Challenge.pw_sampleyard_k85_whole_texts_by_signs.main with body:=[top 0,top 2,top 3,top 4,top 5,top 6,top 7,top 9,top 10,top 11,top 13,top 15,top 16,top 17,top 18,top 19,top 21,top 23,top 24,top 25,top 26,top 27,top 29,top 30,top 31,top 33,top 34,top 35,top 36,top 37,top 38,top 39,top 40,top 42,top 43,top 44,top 45,top 46,top 47,top 48,top 49,top 50,top 51,top 52,top 53,top 54,top 55,top 56,top 57,top 58,top 59,top 60,top 61,top 62,top 63,top 64,top 65,top 66,top 67,top 68,top 69,top 71,top 72,top 73,top 74,top 75,top 76,top 77,top 78,top 79,top 80,top 81,top 82,top 83,top 84,top 85] } }
abbrev S(x:String):Str:=Str.ofString x
abbrev st(x:String)(t:Nat):Value:=.str (Str.ofString x) t
abbrev en(P:Params)(x:String)(t:Nat)(v:Value):DictEntry:=⟨PyData.keyHash P (Str.ofString x),.str (Str.ofString x) t,v⟩
abbrev fd(s:Stmt)(n q:String)(an:Option Addr)(d k c e m t:Value):Data:=.func { name:=Str.ofString n,qualname:=Str.ofString q,params:=Ze2 s,body:=.stmts (Zb8 s),scope:=Zad s,globals:=mainGlobals,closure:=[],defaults:=d,kwdefaults:=k,doc:=e,pyModule:=m,annotations:=an,code:=c,closureTuple:=t,builtins:=builtinsNs }
abbrev T(xs:Array Value):Obj:=⟨.type "tuple",none,.seq xs 0,#[]⟩
abbrev F(s:Stmt)(n q:String)(an:Option Addr)(d k c e m t:Value):Obj:=⟨.type "function",none,fd s n q an d k c e m t,#[]⟩
abbrev G(i:Nat)(n:String)(c:Nat)(m:String)(t:Nat):Obj:=F (top i) n n none .none .none (.ref c) .none (st m t) .none
abbrev D(es:List DictEntry)(n:Nat):Obj:=⟨.type "dict",none,.dict (List.toArray es) n,#[]⟩
abbrev C(n:String)(a:Nat)(q:String)(b c:Nat)(d e f g h:Int)(i:Value)(j:Bool)(k:Int)(l m o p r:Value)(s t:Int)(u:Nat):Obj:=⟨.type "code",none,.fields #[st n a,st q b,st "/claim/cut.py" c,.int d 0,.int e 0,.int f 0,.int g 0,.int h 0,i,.bool j,.int k 0,l,m,o,p,r,.int s 0,.int t 0,st "/claim/cut.py" u],#[]⟩
abbrev B(n:String)(a b c:Nat)(d e:Int)(i l o p r:Nat)(s:Int)(u:Nat):Obj:=C n a n b c d e 0 0 3 (.ref i) true 181 (.ref l) .none (.ref o) (.ref p) (.ref r) s d u
abbrev E(n:String)(a b c:Nat)(d e:Int)(i l r:Nat)(s:Int)(u:Nat):Obj:=C n a n b c d e 0 0 3 (.ref i) true 181 (.ref l) .none .none .none (.ref r) s d u
abbrev L(n:String)(b m:List Value)(a:Addr)(s:List Value)(sl:Array (Option Value)):Obj:=⟨.type "type",none,.cls { name:=Str.ofString n,bases:=b,mro:=m,ns:=a,qualname:=Str.ofString n,hasDict:=true,slotNames:=[],subclasses:=s,abstract:=false,collection:=none,hasDel:=false },sl⟩
def heap:Params->Frag:=λP=>
  (nat_lit 2,⟨.none,none,(.dict (List.toArray []) 0),#[]⟩)::
(nat_lit 3,(D [(en P "__name__" 165 (st "law_sampleyard_k85_whole_texts_by_signs" 885)),(en P "__doc__" 166 .none),(en P "__package__" 167 .none),(en P "__loader__" 168 (.builtin "__main__.__loader__#opaque")),(en P "__spec__" 169 .none),(en P "__annotations__" 170 (.ref 6)),(en P "__builtins__" 171 (.ref 4)),(en P "__file__" 173 (st "/claim/cut.py" 172)),(en P "__cached__" 174 .none),(en P "_wall" 193 (.ref 21)),(en P "YardError" 213 (.ref 31)),(en P "BadTriangle" 229 (.ref 44)),(en P "BadThing" 245 (.ref 56)),(en P "BadFloor" 261 (.ref 68)),(en P "BadPattern" 277 (.ref 80)),(en P "NoRow" 302 (.ref 99)),(en P "is_whole" 311 (.ref 108)),(en P "is_between" 320 (.ref 115)),(en P "greatest_divisor" 331 (.ref 122)),(en P "is_fraction" 340 (.ref 129)),(en P "MOST_VALUES" 344 (.int (3) 343)),(en P "check_triangle" 352 (.ref 136)),(en P "is_corner" 358 (.ref 141)),(en P "are_values" 364 (.ref 146)),(en P "numbers_of" 371 (.ref 153)),(en P "check_before_eye" 381 (.ref 160)),(en P "MOST_CELLS" 385 (.int (64) 384)),(en P "MOST_SPOTS" 387 (.int (16) 386)),(en P "check_floor" 395 (.ref 167)),(en P "check_spots" 401 (.ref 172)),(en P "is_spot" 408 (.ref 179)),(en P "COUNTS" 416 (.ref 180)),(en P "check_pattern" 422 (.ref 185)),(en P "copied" 428 (.ref 190)),(en P "Thing" 466 (.ref 214)),(en P "Plain" 515 (.ref 256)),(en P "Shaded" 562 (.ref 296)),(en P "Patterned" 611 (.ref 336)),(en P "Glass" 669 (.ref 383)),(en P "check_values" 677 (.ref 392)),(en P "check_colour" 684 (.ref 399)),(en P "check_part" 691 (.ref 406)),(en P "FIGURES" 695 (st "0123456789" 694)),(en P "MOST_FIGURES" 697 (.int (30) 696)),(en P "number_word" 706 (.ref 413)),(en P "fraction_word" 713 (.ref 420)),(en P "read_number" 721 (.ref 427)),(en P "are_figures" 727 (.ref 432)),(en P "read_fraction" 736 (.ref 439)),(en P "words_behind" 745 (.ref 446)),(en P "just_words_behind" 755 (.ref 453)),(en P "numbers_behind" 761 (.ref 458)),(en P "thing_text" 767 (.ref 463)),(en P "head_words" 775 (.ref 470)),(en P "pattern_word" 781 (.ref 475)),(en P "corner_text" 787 (.ref 480)),(en P "read_thing" 793 (.ref 485)),(en P "check_text" 800 (.ref 492)),(en P "groups_of" 809 (.ref 499)),(en P "read_corner" 815 (.ref 504)),(en P "thing_of" 823 (.ref 511)),(en P "read_pattern" 829 (.ref 516)),(en P "scene_text" 835 (.ref 521)),(en P "pair_word" 842 (.ref 528)),(en P "read_scene" 848 (.ref 533)),(en P "read_at" 857 (.ref 540)),(en P "read_floor" 865 (.ref 547)),(en P "read_ground" 872 (.ref 554)),(en P "read_spots" 878 (.ref 559)),(en P "read_spot" 884 (.ref 564)),(en P "_law_cell_at" 894 (.ref 571)),(en P "_law_divisor" 902 (.ref 578)),(en P "_law_mixed" 911 (.ref 585)),(en P "_law_rows" 917 (.ref 590)),(en P "_law_changed" 932 (.ref 597)),(en P "_law_number" 938 (.ref 602)),(en P "_law_fraction" 944 (.ref 607)),(en P "_law_is_pattern" 950 (.ref 612)),(en P "_law_corners" 956 (.ref 617)),(en P "_law_is_thing" 967 (.ref 624)),(en P "_law_is_spots" 973 (.ref 629)),(en P "_law_stands" 979 (.ref 634)),(en P "_law_due" 988 (.ref 641)),(en P "_law_right" 999 (.ref 648)),(en P "law" 1007 (.ref 655))] 85))::
(nat_lit 20,(B "_wall" 187 188 189 1 1 15 16 17 18 19 191 192))::
(nat_lit 21,(G 0 "_wall" 20 "__main__" 164))::
(nat_lit 22,(T #[(.type "ValueError")]))::
(nat_lit 30,(D [(en P "__module__" 203 (st "sampleyard.errors" 194)),(en P "__firstlineno__" 207 (.int (5) 206)),(en P "__static_attributes__" 208 (.ref 29)),(en P "__weakref__" 210 (.ref 32)),(en P "__doc__" 211 .none)] 3))::
(nat_lit 31,(L "YardError" [(.type "ValueError")] [(.ref 31),(.type "ValueError"),(.type "Exception"),(.type "BaseException"),(.type "object")] 30 [(.ref 44),(.ref 56),(.ref 68),(.ref 80),(.ref 99)] #[(some (.ref 22)),none,(some (st "YardError" 196)),(some (st "YardError" 204)),(some (.builtin "ValueError.__new__")),(some (.bool true))]))::
(nat_lit 32,⟨(.type "getset_descriptor"),none,(.fields #[(st "__weakref__" 209),(.ref 31),(.builtin "ExceptionGroup.__weakref__"),.none]),#[]⟩)::
(nat_lit 35,(T #[(.ref 31)]))::
(nat_lit 43,(D [(en P "__module__" 221 (st "sampleyard.errors" 194)),(en P "__firstlineno__" 225 (.int (7) 224)),(en P "__static_attributes__" 226 (.ref 42)),(en P "__doc__" 227 .none)] 2))::
(nat_lit 44,(L "BadTriangle" [(.ref 31)] [(.ref 44),(.ref 31),(.type "ValueError"),(.type "Exception"),(.type "BaseException"),(.type "object")] 43 [] #[(some (.ref 35)),none,(some (st "BadTriangle" 214)),(some (st "BadTriangle" 222)),(some (.builtin "ValueError.__new__")),(some (.bool true))]))::
(nat_lit 47,(T #[(.ref 31)]))::
(nat_lit 55,(D [(en P "__module__" 237 (st "sampleyard.errors" 194)),(en P "__firstlineno__" 241 (.int (9) 240)),(en P "__static_attributes__" 242 (.ref 54)),(en P "__doc__" 243 .none)] 2))::
(nat_lit 56,(L "BadThing" [(.ref 31)] [(.ref 56),(.ref 31),(.type "ValueError"),(.type "Exception"),(.type "BaseException"),(.type "object")] 55 [] #[(some (.ref 47)),none,(some (st "BadThing" 230)),(some (st "BadThing" 238)),(some (.builtin "ValueError.__new__")),(some (.bool true))]))::
(nat_lit 59,(T #[(.ref 31)]))::
(nat_lit 67,(D [(en P "__module__" 253 (st "sampleyard.errors" 194)),(en P "__firstlineno__" 257 (.int (11) 256)),(en P "__static_attributes__" 258 (.ref 66)),(en P "__doc__" 259 .none)] 2))::
(nat_lit 68,(L "BadFloor" [(.ref 31)] [(.ref 68),(.ref 31),(.type "ValueError"),(.type "Exception"),(.type "BaseException"),(.type "object")] 67 [] #[(some (.ref 59)),none,(some (st "BadFloor" 246)),(some (st "BadFloor" 254)),(some (.builtin "ValueError.__new__")),(some (.bool true))]))::
(nat_lit 71,(T #[(.ref 31)]))::
(nat_lit 79,(D [(en P "__module__" 269 (st "sampleyard.errors" 194)),(en P "__firstlineno__" 273 (.int (13) 272)),(en P "__static_attributes__" 274 (.ref 78)),(en P "__doc__" 275 .none)] 2))::
(nat_lit 80,(L "BadPattern" [(.ref 31)] [(.ref 80),(.ref 31),(.type "ValueError"),(.type "Exception"),(.type "BaseException"),(.type "object")] 79 [] #[(some (.ref 71)),none,(some (st "BadPattern" 262)),(some (st "BadPattern" 270)),(some (.builtin "ValueError.__new__")),(some (.bool true))]))::
(nat_lit 83,(T #[(.ref 31)]))::
(nat_lit 95,(C "__init__" 290 "NoRow.__init__" 291 292 17 2 0 0 3 (.ref 90) true 181 (.ref 91) .none (.ref 92) (.ref 93) (.ref 94) 295 17 296))::
(nat_lit 96,(F (inClass (top 7) 0) "__init__" "NoRow.__init__" none .none .none (.ref 95) .none (st "sampleyard.errors" 194) .none))::
(nat_lit 98,(D [(en P "__module__" 285 (st "sampleyard.errors" 194)),(en P "__firstlineno__" 289 (.int (15) 288)),(en P "__init__" 297 (.ref 96)),(en P "__static_attributes__" 299 (.ref 97)),(en P "__doc__" 300 .none)] 2))::
(nat_lit 99,(L "NoRow" [(.ref 31)] [(.ref 99),(.ref 31),(.type "ValueError"),(.type "Exception"),(.type "BaseException"),(.type "object")] 98 [] #[(some (.ref 83)),none,(some (st "NoRow" 278)),(some (st "NoRow" 286)),(some (.builtin "ValueError.__new__")),(some (.bool true))]))::
(nat_lit 107,(B "is_whole" 305 306 307 20 1 102 103 104 105 106 309 310))::
(nat_lit 108,(G 9 "is_whole" 107 "sampleyard.whole" 303))::
(nat_lit 114,(B "is_between" 312 313 314 22 3 109 110 111 112 113 318 319))::
(nat_lit 115,(G 10 "is_between" 114 "sampleyard.whole" 303))::
(nat_lit 121,(B "greatest_divisor" 321 322 323 24 1 116 117 118 119 120 329 330))::
(nat_lit 122,(G 11 "greatest_divisor" 121 "sampleyard.whole" 303))::
(nat_lit 128,(B "is_fraction" 334 335 336 34 1 123 124 125 126 127 338 339))::
(nat_lit 129,(G 13 "is_fraction" 128 "sampleyard.fractions" 332))::
(nat_lit 135,(B "check_triangle" 345 346 347 42 1 130 131 132 133 134 350 351))::
(nat_lit 136,(G 16 "check_triangle" 135 "sampleyard.corners" 341))::
(nat_lit 140,(E "is_corner" 353 354 355 50 1 137 138 139 356 357))::
(nat_lit 141,(G 17 "is_corner" 140 "sampleyard.corners" 341))::
(nat_lit 145,(E "are_values" 359 360 361 56 1 142 143 144 362 363))::
(nat_lit 146,(G 18 "are_values" 145 "sampleyard.corners" 341))::
(nat_lit 152,(B "numbers_of" 365 366 367 60 1 147 148 149 150 151 369 370))::
(nat_lit 153,(G 19 "numbers_of" 152 "sampleyard.corners" 341))::
(nat_lit 159,(B "check_before_eye" 374 375 376 63 1 154 155 156 157 158 379 380))::
(nat_lit 160,(G 21 "check_before_eye" 159 "sampleyard.edges" 372))::
(nat_lit 166,(B "check_floor" 388 389 390 70 2 161 162 163 164 165 393 394))::
(nat_lit 167,(G 25 "check_floor" 166 "sampleyard.paint" 382))::
(nat_lit 171,(E "check_spots" 396 397 398 73 1 168 169 170 399 400))::
(nat_lit 172,(G 26 "check_spots" 171 "sampleyard.paint" 382))::
(nat_lit 178,(B "is_spot" 402 403 404 80 1 173 174 175 176 177 406 407))::
(nat_lit 179,(G 27 "is_spot" 178 "sampleyard.paint" 382))::
(nat_lit 180,(T #[(.int (1) 411),(.int (2) 412),(.int (4) 413),(.int (8) 414),(.int (16) 415)]))::
(nat_lit 184,(E "check_pattern" 417 418 419 86 1 181 182 183 420 421))::
(nat_lit 185,(G 30 "check_pattern" 184 "sampleyard.patterns" 409))::
(nat_lit 189,(E "copied" 423 424 425 96 1 186 187 188 426 427))::
(nat_lit 190,(G 31 "copied" 189 "sampleyard.patterns" 409))::
(nat_lit 203,(C "__init__" 443 "Thing.__init__" 444 445 101 2 0 0 3 (.ref 198) true 181 (.ref 199) .none (.ref 200) (.ref 201) (.ref 202) 448 101 449))::
(nat_lit 204,(F (inClass (top 33) 0) "__init__" "Thing.__init__" none .none .none (.ref 203) .none 007 .none))::
(nat_lit 210,(C "is_glass" 451 "Thing.is_glass" 452 453 106 1 0 0 3 (.ref 205) true 181 (.ref 206) .none (.ref 207) (.ref 208) (.ref 209) 455 106 456))::
(nat_lit 211,(F (inClass (top 33) 1) "is_glass" "Thing.is_glass" none .none .none (.ref 210) .none 007 .none))::
(nat_lit 213,(D [(en P "__module__" 438 007),(en P "__firstlineno__" 442 (.int (99) 441)),(en P "__init__" 450 (.ref 204)),(en P "is_glass" 457 (.ref 211)),(en P "__static_attributes__" 459 (.ref 212)),(en P "__dict__" 461 (.ref 215)),(en P "__weakref__" 463 (.ref 216)),(en P "__doc__" 464 .none)] 4))::
(nat_lit 214,(L "Thing" [(.type "object")] [(.ref 214),(.type "object")] 213 [(.ref 256),(.ref 296),(.ref 336),(.ref 383)] #[none,none,(some (st "Thing" 431)),(some (st "Thing" 439)),(some (.builtin "object.__new__")),(some (.bool true))]))::
(nat_lit 215,⟨(.type "getset_descriptor"),none,(.fields #[(st "__dict__" 460),(.ref 214),(.builtin "function.__dict__"),(.builtin "function.__dict__#set")]),#[]⟩)::
(nat_lit 216,⟨(.type "getset_descriptor"),none,(.fields #[(st "__weakref__" 462),(.ref 214),(.builtin "ExceptionGroup.__weakref__"),.none]),#[]⟩)::
(nat_lit 219,(T #[(.ref 214)]))::
(nat_lit 231,(C "__init__" 479 "Plain.__init__" 480 481 110 3 0 0 3 (.ref 226) true 181 (.ref 227) .none (.ref 228) (.ref 229) (.ref 230) 485 110 486))::
(nat_lit 232,(F (inClass (top 34) 0) "__init__" "Plain.__init__" none .none .none (.ref 231) .none 007 .none))::
(nat_lit 238,(C "word" 488 "Plain.word" 489 490 115 1 0 0 3 (.ref 233) true 181 (.ref 234) .none (.ref 235) (.ref 236) (.ref 237) 492 115 493))::
(nat_lit 239,(F (inClass (top 34) 1) "word" "Plain.word" none .none .none (.ref 238) .none 007 .none))::
(nat_lit 245,(C "colour_at" 495 "Plain.colour_at" 496 497 118 2 0 0 3 (.ref 240) true 181 (.ref 241) .none (.ref 242) (.ref 243) (.ref 244) 500 118 501))::
(nat_lit 246,(F (inClass (top 34) 2) "colour_at" "Plain.colour_at" none .none .none (.ref 245) .none 007 .none))::
(nat_lit 252,(C "like" 503 "Plain.like" 504 505 121 2 0 0 3 (.ref 247) true 181 (.ref 248) .none (.ref 249) (.ref 250) (.ref 251) 508 121 509))::
(nat_lit 253,(F (inClass (top 34) 3) "like" "Plain.like" none .none .none (.ref 252) .none 007 .none))::
(nat_lit 255,(D [(en P "__module__" 474 007),(en P "__firstlineno__" 478 (.int (108) 477)),(en P "__init__" 487 (.ref 232)),(en P "word" 494 (.ref 239)),(en P "colour_at" 502 (.ref 246)),(en P "like" 510 (.ref 253)),(en P "__static_attributes__" 512 (.ref 254)),(en P "__doc__" 513 .none)] 2))::
(nat_lit 256,(L "Plain" [(.ref 214)] [(.ref 256),(.ref 214),(.type "object")] 255 [] #[(some (.ref 219)),none,(some (st "Plain" 467)),(some (st "Plain" 475)),(some (.builtin "object.__new__")),(some (.bool true))]))::
(nat_lit 259,(T #[(.ref 214)]))::
(nat_lit 271,(C "__init__" 528 "Shaded.__init__" 529 530 125 2 0 0 3 (.ref 266) true 181 (.ref 267) .none (.ref 268) (.ref 269) (.ref 270) 533 125 534))::
(nat_lit 272,(F (inClass (top 35) 0) "__init__" "Shaded.__init__" none .none .none (.ref 271) .none 007 .none))::
(nat_lit 278,(C "word" 536 "Shaded.word" 537 538 129 1 0 0 3 (.ref 273) true 181 (.ref 274) .none (.ref 275) (.ref 276) (.ref 277) 540 129 541))::
(nat_lit 279,(F (inClass (top 35) 1) "word" "Shaded.word" none .none .none (.ref 278) .none 007 .none))::
(nat_lit 285,(C "colour_at" 543 "Shaded.colour_at" 544 545 132 2 0 0 3 (.ref 280) true 181 (.ref 281) .none (.ref 282) (.ref 283) (.ref 284) 548 132 549))::
(nat_lit 286,(F (inClass (top 35) 2) "colour_at" "Shaded.colour_at" none .none .none (.ref 285) .none 007 .none))::
(nat_lit 292,(C "like" 551 "Shaded.like" 552 553 135 2 0 0 3 (.ref 287) true 181 (.ref 288) .none (.ref 289) (.ref 290) (.ref 291) 556 135 557))::
(nat_lit 293,(F (inClass (top 35) 3) "like" "Shaded.like" none .none .none (.ref 292) .none 007 .none))::
(nat_lit 295,(D [(en P "__module__" 523 007),(en P "__firstlineno__" 527 (.int (123) 526)),(en P "__init__" 535 (.ref 272)),(en P "word" 542 (.ref 279)),(en P "colour_at" 550 (.ref 286)),(en P "like" 558 (.ref 293)),(en P "__static_attributes__" 559 (.ref 294)),(en P "__doc__" 560 .none)] 2))::
(nat_lit 296,(L "Shaded" [(.ref 214)] [(.ref 296),(.ref 214),(.type "object")] 295 [] #[(some (.ref 259)),none,(some (st "Shaded" 516)),(some (st "Shaded" 524)),(some (.builtin "object.__new__")),(some (.bool true))]))::
(nat_lit 299,(T #[(.ref 214)]))::
(nat_lit 311,(C "__init__" 575 "Patterned.__init__" 576 577 139 3 0 0 3 (.ref 306) true 181 (.ref 307) .none (.ref 308) (.ref 309) (.ref 310) 581 139 582))::
(nat_lit 312,(F (inClass (top 36) 0) "__init__" "Patterned.__init__" none .none .none (.ref 311) .none 007 .none))::
(nat_lit 318,(C "word" 584 "Patterned.word" 585 586 145 1 0 0 3 (.ref 313) true 181 (.ref 314) .none (.ref 315) (.ref 316) (.ref 317) 588 145 589))::
(nat_lit 319,(F (inClass (top 36) 1) "word" "Patterned.word" none .none .none (.ref 318) .none 007 .none))::
(nat_lit 325,(C "colour_at" 591 "Patterned.colour_at" 592 593 148 2 0 0 3 (.ref 320) true 181 (.ref 321) .none (.ref 322) (.ref 323) (.ref 324) 596 148 597))::
(nat_lit 326,(F (inClass (top 36) 2) "colour_at" "Patterned.colour_at" none .none .none (.ref 325) .none 007 .none))::
(nat_lit 332,(C "like" 599 "Patterned.like" 600 601 151 2 0 0 3 (.ref 327) true 181 (.ref 328) .none (.ref 329) (.ref 330) (.ref 331) 604 151 605))::
(nat_lit 333,(F (inClass (top 36) 3) "like" "Patterned.like" none .none .none (.ref 332) .none 007 .none))::
(nat_lit 335,(D [(en P "__module__" 570 007),(en P "__firstlineno__" 574 (.int (137) 573)),(en P "__init__" 583 (.ref 312)),(en P "word" 590 (.ref 319)),(en P "colour_at" 598 (.ref 326)),(en P "like" 606 (.ref 333)),(en P "__static_attributes__" 608 (.ref 334)),(en P "__doc__" 609 .none)] 2))::
(nat_lit 336,(L "Patterned" [(.ref 214)] [(.ref 336),(.ref 214),(.type "object")] 335 [] #[(some (.ref 299)),none,(some (st "Patterned" 563)),(some (st "Patterned" 571)),(some (.builtin "object.__new__")),(some (.bool true))]))::
(nat_lit 339,(T #[(.ref 214)]))::
(nat_lit 351,(C "__init__" 624 "Glass.__init__" 625 626 155 4 0 0 3 (.ref 346) true 181 (.ref 347) .none (.ref 348) (.ref 349) (.ref 350) 631 155 632))::
(nat_lit 352,(F (inClass (top 37) 0) "__init__" "Glass.__init__" none .none .none (.ref 351) .none 007 .none))::
(nat_lit 358,(C "word" 634 "Glass.word" 635 636 162 1 0 0 3 (.ref 353) true 181 (.ref 354) .none (.ref 355) (.ref 356) (.ref 357) 638 162 639))::
(nat_lit 359,(F (inClass (top 37) 1) "word" "Glass.word" none .none .none (.ref 358) .none 007 .none))::
(nat_lit 365,(C "is_glass" 641 "Glass.is_glass" 642 643 165 1 0 0 3 (.ref 360) true 181 (.ref 361) .none (.ref 362) (.ref 363) (.ref 364) 645 165 646))::
(nat_lit 366,(F (inClass (top 37) 2) "is_glass" "Glass.is_glass" none .none .none (.ref 365) .none 007 .none))::
(nat_lit 372,(C "colour_at" 648 "Glass.colour_at" 649 650 168 2 0 0 3 (.ref 367) true 181 (.ref 368) .none (.ref 369) (.ref 370) (.ref 371) 653 168 654))::
(nat_lit 373,(F (inClass (top 37) 3) "colour_at" "Glass.colour_at" none .none .none (.ref 372) .none 007 .none))::
(nat_lit 379,(C "like" 656 "Glass.like" 657 658 171 2 0 0 3 (.ref 374) true 181 (.ref 375) .none (.ref 376) (.ref 377) (.ref 378) 661 171 662))::
(nat_lit 380,(F (inClass (top 37) 4) "like" "Glass.like" none .none .none (.ref 379) .none 007 .none))::
(nat_lit 382,(D [(en P "__module__" 619 007),(en P "__firstlineno__" 623 (.int (153) 622)),(en P "__init__" 633 (.ref 352)),(en P "word" 640 (.ref 359)),(en P "is_glass" 647 (.ref 366)),(en P "colour_at" 655 (.ref 373)),(en P "like" 663 (.ref 380)),(en P "__static_attributes__" 666 (.ref 381)),(en P "__doc__" 667 .none)] 2))::
(nat_lit 383,(L "Glass" [(.ref 214)] [(.ref 383),(.ref 214),(.type "object")] 382 [] #[(some (.ref 339)),none,(some (st "Glass" 612)),(some (st "Glass" 620)),(some (.builtin "object.__new__")),(some (.bool true))]))::
(nat_lit 391,(B "check_values" 670 671 672 173 2 386 387 388 389 390 675 676))::
(nat_lit 392,(G 38 "check_values" 391 "sampleyard.things" 429))::
(nat_lit 398,(B "check_colour" 678 679 680 176 1 393 394 395 396 397 682 683))::
(nat_lit 399,(G 39 "check_colour" 398 "sampleyard.things" 429))::
(nat_lit 405,(B "check_part" 685 686 687 179 1 400 401 402 403 404 689 690))::
(nat_lit 406,(G 40 "check_part" 405 "sampleyard.things" 429))::
(nat_lit 412,(B "number_word" 698 699 700 185 1 407 408 409 410 411 704 705))::
(nat_lit 413,(G 44 "number_word" 412 "sampleyard.texts" 692))::
(nat_lit 419,(B "fraction_word" 707 708 709 195 1 414 415 416 417 418 711 712))::
(nat_lit 420,(G 45 "fraction_word" 419 "sampleyard.texts" 692))::
(nat_lit 426,(B "read_number" 714 715 716 199 1 421 422 423 424 425 719 720))::
(nat_lit 427,(G 46 "read_number" 426 "sampleyard.texts" 692))::
(nat_lit 431,(E "are_figures" 722 723 724 204 1 428 429 430 725 726))::
(nat_lit 432,(G 47 "are_figures" 431 "sampleyard.texts" 692))::
(nat_lit 438,(B "read_fraction" 728 729 730 210 1 433 434 435 436 437 734 735))::
(nat_lit 439,(G 48 "read_fraction" 438 "sampleyard.texts" 692))::
(nat_lit 445,(B "words_behind" 737 738 739 218 2 440 441 442 443 444 743 744))::
(nat_lit 446,(G 49 "words_behind" 445 "sampleyard.texts" 692))::
(nat_lit 452,(B "just_words_behind" 746 747 748 223 3 447 448 449 450 451 753 754))::
(nat_lit 453,(G 50 "just_words_behind" 452 "sampleyard.texts" 692))::
(nat_lit 457,(E "numbers_behind" 756 757 758 228 3 454 455 456 759 760))::
(nat_lit 458,(G 51 "numbers_behind" 457 "sampleyard.texts" 692))::
(nat_lit 462,(E "thing_text" 762 763 764 230 1 459 460 461 765 766))::
(nat_lit 463,(G 52 "thing_text" 462 "sampleyard.texts" 692))::
(nat_lit 469,(B "head_words" 768 769 770 232 1 464 465 466 467 468 773 774))::
(nat_lit 470,(G 53 "head_words" 469 "sampleyard.texts" 692))::
(nat_lit 474,(E "pattern_word" 776 777 778 241 1 471 472 473 779 780))::
(nat_lit 475,(G 54 "pattern_word" 474 "sampleyard.texts" 692))::
(nat_lit 479,(E "corner_text" 782 783 784 243 1 476 477 478 785 786))::
(nat_lit 480,(G 55 "corner_text" 479 "sampleyard.texts" 692))::
(nat_lit 484,(E "read_thing" 788 789 790 245 1 481 482 483 791 792))::
(nat_lit 485,(G 56 "read_thing" 484 "sampleyard.texts" 692))::
(nat_lit 491,(B "check_text" 794 795 796 251 1 486 487 488 489 490 798 799))::
(nat_lit 492,(G 57 "check_text" 491 "sampleyard.texts" 692))::
(nat_lit 498,(B "groups_of" 801 802 803 254 1 493 494 495 496 497 807 808))::
(nat_lit 499,(G 58 "groups_of" 498 "sampleyard.texts" 692))::
(nat_lit 503,(E "read_corner" 810 811 812 262 1 500 501 502 813 814))::
(nat_lit 504,(G 59 "read_corner" 503 "sampleyard.texts" 692))::
(nat_lit 510,(B "thing_of" 816 817 818 267 2 505 506 507 508 509 821 822))::
(nat_lit 511,(G 60 "thing_of" 510 "sampleyard.texts" 692))::
(nat_lit 515,(E "read_pattern" 824 825 826 277 1 512 513 514 827 828))::
(nat_lit 516,(G 61 "read_pattern" 515 "sampleyard.texts" 692))::
(nat_lit 520,(E "scene_text" 830 831 832 279 1 517 518 519 833 834))::
(nat_lit 521,(G 62 "scene_text" 520 "sampleyard.texts" 692))::
(nat_lit 527,(B "pair_word" 836 837 838 282 1 522 523 524 525 526 840 841))::
(nat_lit 528,(G 63 "pair_word" 527 "sampleyard.texts" 692))::
(nat_lit 532,(E "read_scene" 843 844 845 284 1 529 530 531 846 847))::
(nat_lit 533,(G 64 "read_scene" 532 "sampleyard.texts" 692))::
(nat_lit 539,(B "read_at" 849 850 851 292 3 534 535 536 537 538 855 856))::
(nat_lit 540,(G 65 "read_at" 539 "sampleyard.texts" 692))::
(nat_lit 546,(B "read_floor" 858 859 860 299 1 541 542 543 544 545 863 864))::
(nat_lit 547,(G 66 "read_floor" 546 "sampleyard.texts" 692))::
(nat_lit 553,(B "read_ground" 866 867 868 303 1 548 549 550 551 552 870 871))::
(nat_lit 554,(G 67 "read_ground" 553 "sampleyard.texts" 692))::
(nat_lit 558,(E "read_spots" 873 874 875 305 1 555 556 557 876 877))::
(nat_lit 559,(G 68 "read_spots" 558 "sampleyard.texts" 692))::
(nat_lit 563,(E "read_spot" 879 880 881 309 1 560 561 562 882 883))::
(nat_lit 564,(G 69 "read_spot" 563 "sampleyard.texts" 692))::
(nat_lit 570,(B "_law_cell_at" 887 888 889 312 2 565 566 567 568 569 892 893))::
(nat_lit 571,(G 71 "_law_cell_at" 570 "law_sampleyard_k85_whole_texts_by_signs" 885))::
(nat_lit 577,(B "_law_divisor" 895 896 897 316 2 572 573 574 575 576 900 901))::
(nat_lit 578,(G 72 "_law_divisor" 577 "law_sampleyard_k85_whole_texts_by_signs" 885))::
(nat_lit 584,(B "_law_mixed" 903 904 905 320 2 579 580 581 582 583 909 910))::
(nat_lit 585,(G 73 "_law_mixed" 584 "law_sampleyard_k85_whole_texts_by_signs" 885))::
(nat_lit 589,(E "_law_rows" 912 913 914 326 1 586 587 588 915 916))::
(nat_lit 590,(G 74 "_law_rows" 589 "law_sampleyard_k85_whole_texts_by_signs" 885))::
(nat_lit 596,(B "_law_changed" 918 919 920 334 2 591 592 593 594 595 930 931))::
(nat_lit 597,(G 75 "_law_changed" 596 "law_sampleyard_k85_whole_texts_by_signs" 885))::
(nat_lit 601,(E "_law_number" 933 934 935 345 1 598 599 600 936 937))::
(nat_lit 602,(G 76 "_law_number" 601 "law_sampleyard_k85_whole_texts_by_signs" 885))::
(nat_lit 606,(E "_law_fraction" 939 940 941 354 1 603 604 605 942 943))::
(nat_lit 607,(G 77 "_law_fraction" 606 "law_sampleyard_k85_whole_texts_by_signs" 885))::
(nat_lit 611,(E "_law_is_pattern" 945 946 947 363 1 608 609 610 948 949))::
(nat_lit 612,(G 78 "_law_is_pattern" 611 "law_sampleyard_k85_whole_texts_by_signs" 885))::
(nat_lit 616,(E "_law_corners" 951 952 953 368 1 613 614 615 954 955))::
(nat_lit 617,(G 79 "_law_corners" 616 "law_sampleyard_k85_whole_texts_by_signs" 885))::
(nat_lit 623,(B "_law_is_thing" 957 958 959 375 1 618 619 620 621 622 965 966))::
(nat_lit 624,(G 80 "_law_is_thing" 623 "law_sampleyard_k85_whole_texts_by_signs" 885))::
(nat_lit 628,(E "_law_is_spots" 968 969 970 391 1 625 626 627 971 972))::
(nat_lit 629,(G 81 "_law_is_spots" 628 "law_sampleyard_k85_whole_texts_by_signs" 885))::
(nat_lit 633,(E "_law_stands" 974 975 976 399 2 630 631 632 977 978))::
(nat_lit 634,(G 82 "_law_stands" 633 "law_sampleyard_k85_whole_texts_by_signs" 885))::
(nat_lit 640,(B "_law_due" 980 981 982 411 1 635 636 637 638 639 986 987))::
(nat_lit 641,(G 83 "_law_due" 640 "law_sampleyard_k85_whole_texts_by_signs" 885))::
(nat_lit 647,(B "_law_right" 989 990 991 417 1 642 643 644 645 646 997 998))::
(nat_lit 648,(G 84 "_law_right" 647 "law_sampleyard_k85_whole_texts_by_signs" 885))::
(nat_lit 654,(B "law" 1000 1001 1002 428 1 649 650 651 652 653 1005 1006))::
(nat_lit 655,(G 85 "law" 654 "law_sampleyard_k85_whole_texts_by_signs" 885))::
[]
abbrev addrs:List Addr:=[2,3,20,21,22,30,31,32,35,43,44,47,55,56,59,67,68,71,79,80,83,95,96,98,99,107,108,114,115,121,122,128,129,135,136,140,141,145,146,152,153,159,160,166,167,171,172,178,179,180,184,185,189,190,203,204,210,211,213,214,215,216,219,231,232,238,239,245,246,252,253,255,256,259,271,272,278,279,285,286,292,293,295,296,299,311,312,318,319,325,326,332,333,335,336,339,351,352,358,359,365,366,372,373,379,380,382,383,391,392,398,399,405,406,412,413,419,420,426,427,431,432,438,439,445,446,452,453,457,458,462,463,469,470,474,475,479,480,484,485,491,492,498,499,503,504,510,511,515,516,520,521,527,528,532,533,539,540,546,547,553,554,558,559,563,564,570,571,577,578,584,585,589,590,596,597,601,602,606,607,611,612,616,617,623,624,628,629,633,634,640,641,647,648,654,655]
abbrev most:Nat:=9666
def Zex(P:Params):addrs=(heap P).map (·.1):=rfl
abbrev hook:Hook:=kHook heap addrs Zex
end Hd
namespace Hd
open PySem PySem.W PyProof.Rows
def Zg7(tb:String->Option Builtin)(p:Program)(w:World)(n₀:Nat)(ann:Option Value):Nat->SharedT->Thread->Option SharedT
 | 0,_,_=>none
 | n+1,s,t=>match through t with
  | true=>some s
  | false=>match stepOk n₀ ann t with
   | false=>none
   | true=>match stepT (denote tb) p w s t with
    | some (s',t')=>Zg7 tb p w n₀ ann n s' t'
    | none=>none
def ZhV{tb:String->Option Builtin}{p:Program}{w:World}{n₀:Nat}{ann:Option Value}:∀{n:Nat} {s s':SharedT} {t:Thread},Zg7 tb p w n₀ ann n s t=some s'->topRun tb p w n₀ ann n s.abs t=some s'.abs
 | 0,_,_,_,h=>by cases h
 | n+1,s,s',t,h=>by
  unfold Zg7 at h;unfold topRun;cases he:through t with
  | true=>rw [he] at h;cases h;rfl
  | false=>
   rw [he] at h;cases hk:stepOk n₀ ann t with
   | false=>rw [hk] at h;cases h
   | true=>
    rw [hk] at h;cases hs:stepT (denote tb) p w s t with
    | none=>rw [hs] at h;cases h
    | some r=>obtain ⟨s₂,t₂⟩:=r;rw [hs] at h;rw [stepT_spec hs];exact ZhV h
def Ziq(p:Program)(w:World)(n₀:Nat)(ann:Option Value):Nat->SharedT->Thread->Option SharedT
 | 0,_,_=>none
 | n+1,s,t=>match through t with
  | true=>some s
  | false=>match Fast.tw6613529449190102663 n₀ ann t with
   | false=>none
   | true=>match Fast.tw10156331382660048174 (Fast.tw11892475500146522536 Fast.tw14364793385576792824) p w s t with
    | some (s',t')=>Ziq p w n₀ ann n s' t'
    | none=>none
def ZhX(p:Program)(w:World)(n₀:Nat)(ann:Option Value):∀(n:Nat) (s:SharedT) (t:Thread),Zg7 treeTable p w n₀ ann n s t=Ziq p w n₀ ann n s t
 | 0,_,_=>rfl
 | n+1,s,t=>by
  unfold Zg7 Ziq;rw [Fast.te6613529449190102663,Fast.te10156331382660048174,Fast.te11892475500146522536,Fast.te14364793385576792824];cases through t with
  | true=>rfl
  | false=>
   cases Fast.tw6613529449190102663 n₀ ann t with
   | false=>rfl
   | true=>
    cases Fast.tw10156331382660048174 (Fast.tw11892475500146522536 Fast.tw14364793385576792824) p w s t with
    | none=>rfl
    | some r=>
     obtain ⟨a,b⟩:=r;have:=ZhX p w n₀ ann n a b;rw [Fast.te14364793385576792824] at this;exact this
def Zlo(i:Nat)(t:BT):List Obj->BT
 | []=>t
 | o::r=>Zlo (i+1) (t.ins i o) r
def Zu7(w:World)(os:OsState):SharedT:=⟨Zlo 0 .nil (boot_heap w.params).objs.toList,(boot_heap w.params).objs.size,(boot_heap w.params).life,Array.mk [],boot_drawn,boot_toks,os⟩
def ZmB(w:World)(os:OsState):(Zu7 w os).abs=⟨boot_heap w.params,Array.mk [],boot_drawn,boot_toks,os⟩:=by kernel_rfl
def obsT(as:List Addr)(s:SharedT):List (Option Obj):=as.map λa=>match Nat.blt a s.n with
 | true=>alive ((s.tree.get a).getD default)
 | false=>none
def ZtV(as:List Addr)(s:SharedT):as.map s.abs.heap.get?=obsT as s:=by
 unfold obsT;refine Vaa λa _=>?_;show (absHeap s.tree s.n s.life).get? a=_;unfold Heap.get?;rw [absHeap_at];by_cases h:a<s.n
 ·rw [iP h,show Nat.blt a s.n=true from Nat.ble_eq.mpr h];generalize (s.tree.get a).getD default=o;obtain ⟨c,d,b,e⟩:=o;cases b<;>rfl
 ·rw [iN h,show Nat.blt a s.n=false from Vab.mpr λz=>h (Nat.le_of_ble_eq_true z)]
abbrev U0{α:Type}(p:Program)(N m₀:Nat)(ann:Option Value)(f:SharedT->α)(d:α)(w:World)(os:OsState):Prop:=(Ziq p w m₀ ann N (Zu7 w os) (topStub p)).map f=some d
abbrev U1{α:Type}(p q:Program)(loose:List Str)(Xt:Shared->Bool)(N m₀:Nat)(ann:Option Value)(g0:Bool)(Yt:SharedT->α)(Ya:World->α):Prop:=∀w os,U0 p N m₀ ann (λs=>((staticsOk (importedModules p.main.body) (boot_heap w.params) s.abs.heap&&namesBound p s.abs.heap&&gensDone s.abs&&laidKept (boot_heap w.params) s.abs.heap),Yt s,(Fast.tw4187177175401517315 q loose (importedModules p.main.body) Xt g0 s.abs).1)) (true,Ya w,expectedOf q) w os
abbrev U2(p q:Program)(loose:List Str)(Xt:Shared->Bool)(N m₀:Nat)(ann:Option Value)(g0:Bool):Prop:=∀w os,U0 p N m₀ ann (λs=>((Fast.tw4187177175401517315 q loose (importedModules p.main.body) Xt g0 s.abs).2.1,(Fast.tw4187177175401517315 q loose (importedModules p.main.body) Xt g0 s.abs).2.2.1,(Fast.tw4187177175401517315 q loose (importedModules p.main.body) Xt g0 s.abs).2.2.2.1)) (bltViewBooted,true,true) w os
abbrev U3(p q:Program)(loose:List Str)(Xt:Shared->Bool)(N m₀:Nat)(ann:Option Value)(g0:Bool):Prop:=∀w os,U0 p N m₀ ann (λs=>(Fast.tw4187177175401517315 q loose (importedModules p.main.body) Xt g0 s.abs).2.2.2.2) (pinGoodD (drecsOf q),plainGoodE q (looseW q loose),plainGoodD q loose,wideGood q,clsGoodW q loose) w os
def ZnA{p q:Program}{loose:List Str}{Xt:Shared->Bool}{α:Type}{Yf:Shared->α}{Yt:SharedT->α}{Ya:World->α}{N m₀:Nat}{ann:Option Value}{g0:Bool}(hY:∀s,Yf s.abs=Yt s)
  (e:opening p=plainProg p.main.scope.names) (hN:Nat.ble 600 N=true) (f:∀s,fenceModules? p s=some s)
  (hz:∀w:World,((boot_heap w.params).isNs mainGlobals,(boot_heap w.params).objs.size,(boot_heap w.params).nsMap mainGlobals "__annotations__")=(true,m₀,ann))
  (h:U1 p q loose Xt N m₀ ann g0 Yt Ya) (hh:U2 p q loose Xt N m₀ ann g0) (hj:U3 p q loose Xt N m₀ ann g0) :
  LeftO p q loose Xt Yf Ya N g0:=λw=>by
 obtain ⟨s,n,y⟩:=Option.map_eq_some_iff.mp (boot_open e hN f w);unfold openEnds;rw [n];obtain ⟨m,g,d,k,b⟩:=s;obtain ⟨rfl,rfl,rfl,rfl⟩ : m=boot_heap w.params/\g=Array.mk []/\d=boot_drawn/\k=boot_toks:=by simpa using y
 obtain ⟨a,i,l⟩:=Option.map_eq_some_iff.mp (h w b);have c:(_:Option _).map _=_:=hh w b;have j:(_:Option _).map _=_:=hj w b;rw [i] at c j;rw [<-ZhX] at i;rw [<-Fast.te4187177175401517315] at l c j;have r:=ZhV i;rw [ZmB] at r;obtain ⟨C,x,t⟩ : _/\_/\_:=by simpa only [Prod.mk.injEq] using hz w
 obtain ⟨A,z,u⟩ : _/\_/\_:=by simpa only [Prod.mk.injEq] using l
 obtain ⟨o,v,D⟩ : _/\_/\_:=by simpa only [Prod.mk.injEq] using Vac c
 have B:openSeen q loose (importedModules p.main.body) Xt g0 a.abs=openGood q loose:=Prod.ext u (Prod.ext o (Prod.ext v (Prod.ext D (Vac j))));show (topFrom treeTable p w N ⟨boot_heap w.params,Array.mk [],boot_drawn,boot_toks,b⟩).map _=_;unfold topFrom;dsimp only;rw [C]
 show (((topRun treeTable p w (boot_heap w.params).objs.size ((boot_heap w.params).nsMap mainGlobals "__annotations__") N ⟨boot_heap w.params,Array.mk [],boot_drawn,boot_toks,b⟩ (topStub p)).bind λa=>match staticsOk (importedModules p.main.body) (boot_heap w.params) a.heap&&namesBound p a.heap&&gensDone a&&laidKept (boot_heap w.params) a.heap with
   | true=>some a
   | false=>none).map _)=_
 rw [x,t,r]
 show ((match staticsOk (importedModules p.main.body) (boot_heap w.params) a.abs.heap&&namesBound p a.abs.heap&&gensDone a.abs&&laidKept (boot_heap w.params) a.abs.heap with
   | true=>some a.abs
   | false=>none).map _)=_
 rw [A];show some (openSeen q loose (importedModules p.main.body) Xt g0 a.abs,Yf a.abs)=_;rw [B,hY,z]
set_option maxRecDepth 100000 in
set_option maxHeartbeats 0 in
def l1:U1 PySem.Challenge.pw_sampleyard_k85_whole_texts_by_signs view [] (λs=>xlAt view [] s&&recOk (RowW.records PySem.Challenge.rw_sampleyard_k85_whole_texts_by_signs.row.toRowW) s) most 11 (some (.ref 6)) true (obsT addrs) (Hook.val hook):=λw a=>by kernel_rfl
set_option maxRecDepth 100000 in
set_option maxHeartbeats 0 in
def l2:U2 PySem.Challenge.pw_sampleyard_k85_whole_texts_by_signs view [] (λs=>xlAt view [] s&&recOk (RowW.records PySem.Challenge.rw_sampleyard_k85_whole_texts_by_signs.row.toRowW) s) most 11 (some (.ref 6)) true:=λw a=>by kernel_rfl
set_option maxRecDepth 100000 in
set_option maxHeartbeats 0 in
def l3:U3 PySem.Challenge.pw_sampleyard_k85_whole_texts_by_signs view [] (λs=>xlAt view [] s&&recOk (RowW.records PySem.Challenge.rw_sampleyard_k85_whole_texts_by_signs.row.toRowW) s) most 11 (some (.ref 6)) true:=λw a=>by kernel_rfl
def left:LeftO PySem.Challenge.pw_sampleyard_k85_whole_texts_by_signs view [] (λs=>xlAt view [] s&&recOk (RowW.records PySem.Challenge.rw_sampleyard_k85_whole_texts_by_signs.row.toRowW) s) (Hook.obs hook) (Hook.val hook) most :=
 ZnA (ZtV addrs) (by kernel_rfl) 00 (λs=>by kernel_rfl) (λw=>by kernel_rfl) l1 l2 l3
end Hd
set_option maxHeartbeats 4000000
section
open PySem PySem.Spec PyProof.Rows
abbrev ND(x:PySem.Str):=(x==("__debug__" : PySem.Str))=false
abbrev NE(x:PySem.Str):=(x==("__classdict__" : PySem.Str))=false
namespace L2
abbrev Key:=Sum Int Str
def ZvI:Key->Value->Bool
 | .inl k,v=>Value.isInt k v
 | .inr x,v=>Value.isStrOf x v
def keyH(w:World):Key->Int
 | .inl k=>hashInt k
 | .inr x=>hashStr w x
def Zbb:∀{k:Key} {v:Value},ZvI k v=true->(∃i t,k=Sum.inl i/\v=Value.int i t)\/(∃x t,k=Sum.inr x/\v=Value.str x t)
 | .inl i,v,h=>by
  obtain ⟨t,e⟩:=Value.isInt_shape h;exact .inl ⟨i,t,rfl,e⟩
 | .inr x,v,h=>by
  obtain ⟨t,e⟩:=Value.isStrOf_shape h;exact .inr ⟨x,t,rfl,e⟩
def Zwl(a b):decide ((Sum.inl a:Key)=Sum.inl b)=(a==b):=by
 by_cases e:a=b
 ·subst e;simp
 ·have h:¬(Sum.inl a:Key)=Sum.inl b:=λq=>e (Sum.inl.inj q);rw [Vad h];exact (Vae.mpr e).symm
def Zup(a b):decide ((Sum.inr a:Key)=Sum.inr b)=decide (a=b):=by
 by_cases e:a=b
 ·subst e;simp
 ·have h:¬(Sum.inr a:Key)=Sum.inr b:=λq=>e (Sum.inr.inj q);rw [Vad h,Vad e]
def ZvW(a)(b):decide ((Sum.inl a:Key)=Sum.inr b)=false:=Vad (λq=>nomatch q)
def ZuQ(a)(b):decide ((Sum.inr a:Key)=Sum.inl b)=false:=Vad (λq=>nomatch q)
def Zod(prog)(w):PySem.KeyKind prog w Key where
 is:=ZvI
 hash:=keyH w
 inj:=λv a b f d=>by
  rcases Zbb f with ⟨i,t,rfl,rfl⟩ | ⟨x,t,rfl,rfl⟩
  ·rcases Zbb d with ⟨j,u,rfl,e⟩ | ⟨y,u,rfl,e⟩
   ·injection e with e1 _;rw [e1]
   ·exact nomatch e
  ·rcases Zbb d with ⟨j,u,rfl,e⟩ | ⟨y,u,rfl,e⟩
   ·exact nomatch e
   ·injection e with e1 _;rw [e1]
 byValue:=λk v h=>by
  rcases Zbb h with ⟨i,t,rfl,rfl⟩ | ⟨x,t,rfl,rfl⟩<;>rfl
 pyHash:=λc h=>by
  rcases Zbb c with ⟨i,t,rfl,rfl⟩ | ⟨x,t,rfl,rfl⟩
  ·exact wpAny_pyHash_int h
  ·exact wpAny_pyHash_str h
 eqBool:=λg c h=>by
  rcases Zbb g with ⟨i,t,rfl,rfl⟩ | ⟨x,t,rfl,rfl⟩
  ·rcases Zbb c with ⟨j,u,rfl,rfl⟩ | ⟨y,u,rfl,rfl⟩
   ·rw [Zwl] at h;exact wpAny_eqBool_int h
   ·rw [ZvW] at h;exact SeqAt.EqAt.int_str i t y u _ _ _ _ h
  ·rcases Zbb c with ⟨j,u,rfl,rfl⟩ | ⟨y,u,rfl,rfl⟩
   ·rw [ZuQ] at h;exact SeqAt.EqAt.str_int x t j u _ _ _ _ h
   ·rw [Zup] at h;exact wpAny_eqBool_str h
 «strs»:=λk x t v h=>by
  rcases Zbb h with ⟨i,u,rfl,e⟩ | ⟨y,u,rfl,e⟩
  ·exact nomatch e
  ·injection e with e1 _
   subst e1;cases v<;>rfl
inductive V where
 | non | bl (b:Bool) | int (i:Int) | str (x:Str) | byt (b:Array UInt8) | flt (b:UInt64) | ref (a:Addr) | ty (n:String)
 deriving DecidableEq
def RelV:V->Value->Prop
 | .non,u=>u=Value.none
 | .bl b,u=>u=Value.bool b
 | .int i,u=>∃t,u=Value.int i t
 | .str x,u=>∃t,u=Value.str x t
 | .byt b,u=>∃t,u=Value.bytes b t
 | .flt b,u=>∃t,u=Value.float b t
 | .ref a,u=>u=Value.ref a
 | .ty n,u=>u=Value.type n
abbrev Vals:List V->List Value->Prop:=Paired RelV
def Vals.length(r:Vals xs us):xs.length=us.length:=Paired.length r
def Vals.get:∀{xs:List V} {us:List Value} {i:Nat} {x:V},Vals xs us->xs[i]?=some x->∃u,us[i]?=some u/\RelV x u
 | _,_,_,_,.nil,e=>by simp at e
 | _,_,0,_,.cons r _,e=>by simp at e;subst e;exact ⟨_,rfl,r⟩
 | _,_,i+1,x,.cons _ t,e=>by
  obtain ⟨u,a,b⟩:=Vals.get t (by simpa using e);exact ⟨u,by simpa using a,b⟩
def Vals.append:∀{xs ys:List V} {us ws:List Value},Vals xs us->Vals ys ws->Vals (xs++ys) (us++ws)
 | _,_,_,_,.nil,s=>s
 | _,_,_,_,.cons r t,s=>.cons r (Vals.append t s)
def Vals.take:∀{xs:List V} {us:List Value} (n:Nat),Vals xs us->Vals (xs.take n) (us.take n)
 | _,_,0,_=>.nil
 | _,_,_+1,.nil=>.nil
 | _,_,n+1,.cons r t=>.cons r (Vals.take n t)
def Vals.drop:∀{xs:List V} {us:List Value} (n:Nat),Vals xs us->Vals (xs.drop n) (us.drop n)
 | _,_,0,r=>r
 | _,_,_+1,.nil=>.nil
 | _,_,n+1,.cons _ t=>Vals.drop n t
def RelO:Option V->Option Value->Prop
 | some v,some u=>RelV v u
 | none,none=>True
 | _,_=>False
def KV:List (κ×V)->List (κ×Value)->Prop:=Paired λ(p:κ×V) (q:κ×Value)=>p.1=q.1/\RelV p.2 q.2
def kV:Key->V
 | .inl i=>.int i
 | .inr x=>.str x
inductive HO where
 | lst (xs:List V)
 | tup (xs:List V)
 | dK (kvs:List (Key×V)) | dT (kvs:List (List Key×V))
 | set (S:Int->Bool) (n:Nat)
 | ins (C dx:Addr) (fs:List (Str×V))
 | own (x:Addr)
 | xd (fs:List (Str×V))
 | met (f x:Addr)
 | rng (lo hi:Int)
 | frz (o:Obj) (u:HO)
 | tbl (ps:Array Value)
 | ext (φ:Heap->Prop)
abbrev Hp:=Addr->Option HO
def upd(H:Hp)(a:Addr)(o:HO):Hp:=λb=>if b=a then some o else H b
def Zah:upd H a o a=some o:=by unfold upd;rw [iP rfl]
def Zaf(h:b≠a):upd H a o b=H b:=by unfold upd;rw [iN h]
def Zai{H:Hp}{a b:Addr}{o:HO}(h:H a=some o)(h':H b=none):a≠b:=by
 intro e;subst e;rw [h] at h';cases h'
section
variable(P:Program)(w:World)
def Zdl(H:Hp)(h:Heap)(a:Addr):HO->Prop
 | .lst c=>c.length<=sizeLine/\∃b n,Vals c b/\h.get? a=some { cls:=.type "list",data:=.seq b.toArray n }
 | .tup c=>c.length<=sizeLine/\∃b,Vals c b/\IsTup h a b.toArray
 | .dK kvs=>kvs.length<=sizeLine/\(a==sysModules)=false/\∃j,KV kvs j/\h.DictOf (Zod P w) a j
 | .dT kvs=>kvs.length<=sizeLine/\(a==sysModules)=false/\∃c,
   Paired (λ(p:List Key×V) (q:List Key×Addr×Value)=>p.1=q.1/\H q.2.1=some (.tup (p.1.map kV))/\RelV p.2 q.2.2) kvs c /\
   ∃o e k,h.get? a=some o/\o.ExactDict/\o.data=.dict e k/\e.toList=c.map (entryOfKey (tupleKind (Zod P w)))/\(c.map (·.1)).Nodup
 | .set S n=>h.SetOf (intKind P w) a S n
 | .ins C dx fs=>H dx=some (.own a)/\fs.length<=1000/\dx≠a/\h.get? a=some (W.instObj C dx) /\
   ∃d,h.Ns1 dx d/\(∀f,RelO (fs.lookup f) (d f))/\PySem.Within d (fs.map (·.1))
 | .own _=>∃o,h.get? a=some o
 | .xd fs=>∃d,h.Ns1 a d/\∀f,RelO (fs.lookup f) (d f)
 | .rng lo hi=>∃t u v,h.get? a=some { cls:=.type "range",data:=.fields #[.int lo t,.int hi u,.int 1 v] }
 | .frz o u=>h.get? a=some o/\Zdl H h a u
 | .tbl ps=>h.get? a=some { cls:=.none,data:=.fields ps }
 | .met f x=>h.get? a=some (W.methodObj (.ref f) (.ref x))
 | .ext φ=>φ h/\(∃o,h.get? a=some o)/\∀g i,φ g->(∀o,g.get? a=some o->i.get? a=some o)->φ i
def HOk(H:Hp)(h:Heap):Prop:=∀a o,H a=some o->Zdl P w H h a o
end
section
variable{P:Program}{w:World}{H H':Hp}{h h':Heap}{a:Addr}{o:HO}
def Zdl.lt(x:Zdl P w H h a o):a<h.objs.size:=by
 cases o with
 | lst xs=>obtain ⟨_,_,_,_,e⟩:=x;exact Vaf e
 | tup xs=>obtain ⟨_,_,_,p⟩:=x;exact p.lt
 | dK kvs=>obtain ⟨_,_,_,_,o,_,_,e,_⟩:=x;exact Vaf e
 | dT kvs=>obtain ⟨_,_,_,_,o,_,_,e,_⟩:=x;exact Vaf e
 | set S n=>obtain ⟨o,_,_,_,e,_⟩:=x;exact Vaf e
 | ins C dx fs=>obtain ⟨_,_,_,e,_⟩:=x;exact Vaf e
 | own y=>obtain ⟨_,e⟩:=x;exact Vaf e
 | xd fs=>obtain ⟨_,⟨_,_,_,e,_⟩,_⟩:=x;exact Vaf e
 | rng lo hi=>obtain ⟨_,_,_,e⟩:=x;exact Vaf e
 | frz ob u=>obtain ⟨e,_⟩:=x;exact Vaf e
 | tbl ps=>exact Vaf (x)
 | met f y=>exact Vaf (x)
 | ext φ=>obtain ⟨_,⟨_,e⟩,_⟩:=x;exact Vaf e
def Paired.mapP{F:α->β->Prop}:∀{l₁:List α} {l₂:List β},Paired F l₁ l₂->(∀a b,F a b->G a b)->Paired G l₁ l₂
 | _,_,.nil,_=>.nil
 | _,_,.cons r t,f=>.cons (f _ _ r) (Paired.mapP t f)
def Zdl.stay(x:Zdl P w H h a o)(k:∀b u,(b=a\/H b=some (.own a))->h.get? b=some u->h'.get? b=some u)(ho:∀b,H b=some (.own a)->H' b=some (.own a))(ht:∀b xs,H b=some (.tup xs)->H' b=some (.tup xs)):Zdl P w H' h' a o:=by
 induction o with
 | lst xs=>obtain ⟨z,its,n,r,e⟩:=x;exact ⟨z,its,n,r,k _ _ (.inl rfl) e⟩
 | tup xs=>obtain ⟨z,its,r,g,e,c⟩:=x;exact ⟨z,its,r,g,k _ _ (.inl rfl) e,c⟩
 | dK kvs=>obtain ⟨z,y,vs,r,g,i,j,e,c⟩:=x;exact ⟨z,y,vs,r,g,i,j,k _ _ (.inl rfl) e,c⟩
 | dT kvs=>
  obtain ⟨z,y,xs,r,g,i,j,e,c⟩:=x;exact ⟨z,y,xs,Paired.mapP r λp q z=>⟨z.1,ht _ _ z.2.1,z.2.2⟩,g,i,j,k _ _ (.inl rfl) e,c⟩
 | set S n=>obtain ⟨g,i,j,t,e,c⟩:=x;exact ⟨g,i,j,t,k _ _ (.inl rfl) e,c⟩
 | ins C dx fs=>
  obtain ⟨d,z,A,e,m,⟨l,i,j,s,c⟩,r⟩:=x;exact ⟨ho _ d,z,A,k _ _ (.inl rfl) e,m,⟨l,i,j,k _ _ (.inr d) s,c⟩,r⟩
 | own y=>obtain ⟨g,e⟩:=x;exact ⟨g,k _ _ (.inl rfl) e⟩
 | xd fs=>obtain ⟨m,⟨l,i,j,e,c⟩,r⟩:=x;exact ⟨m,⟨l,i,j,k _ _ (.inl rfl) e,c⟩,r⟩
 | rng lo hi=>obtain ⟨t,u,v,e⟩:=x;exact ⟨t,u,v,k _ _ (.inl rfl) e⟩
 | frz g u ih=>obtain ⟨e,q⟩:=x;exact ⟨k _ _ (.inl rfl) e,ih q⟩
 | tbl ps=>
  have e:=x;exact k a _ (.inl rfl) e
 | met f y=>
  have e:=x;exact k a _ (.inl rfl) e
 | ext φ=>obtain ⟨p,⟨o,e⟩,st⟩:=x;exact ⟨st _ _ p λo q=>k _ _ (.inl rfl) q,⟨o,k _ _ (.inl rfl) e⟩,st⟩
def HOk.lt(x:HOk P w H h)(e:H a=some o):a<h.objs.size:=(x a o e).lt
def HOk.fresh(x:HOk P w H h)(e:h.objs.size<=a):H a=none:=by
 cases q:H a with
 | none=>rfl
 | some u=>exact aB (Vag (x.lt q) e) (Vah _)
def HOk.kept(x:HOk P w H h)(k:∀b u,h.get? b=some u->h'.get? b=some u):HOk P w H h':=λa o e=>
 (x a o e).stay (λb u _ q=>k b u q) (λ_ q=>q) λ_ _ q=>q
def HOk.laid(x:HOk P w H h)(k:∀b u,h.get? b=some u->h'.get? b=some u)(hp:h.objs.size<=a)(new:Zdl P w (upd H a o) h' a o):HOk P w (upd H a o) h':=λb u e=>by
 have d:=x.fresh hp;by_cases hb:b=a
 ·subst hb;rw [Zah] at e;cases e;exact new
 ·rw [Zaf hb] at e;exact (x b u e).stay (λc v _ q=>k c v q) (λc q=>by rw [Zaf (Zai q d)];exact q) λc f q=>by rw [Zaf (Zai q d)];exact q
end
def Rd(H:Hp)(a:Addr)(u:HO):Prop:=H a=some u\/∃o,H a=some (.frz o u)
def Rd.ok(r:Rd H a u)(x:HOk P w H h):Zdl P w H h a u:=by
 rcases r with r | ⟨o,r⟩
 ·exact x a u r
 ·obtain ⟨_,q⟩:=x a _ r;exact q
def Mut:Option HO->Prop
 | some (.lst _)=>True
 | some (.dK _)=>True
 | some (.dT _)=>True
 | some (.set _ _)=>True
 | some (.ins _ _ _)=>True
 | some (.ext _)=>True
 | _=>False
section
variable{P:Program}{w:World}{H:Hp}{h h':Heap}{x e:Addr}{o':HO}
def HOk.write(ok:HOk P w H h)(mu:Mut (H x))(he:e=x\/H e=some (.own x))(k:∀b u,b≠e->h.get? b=some u->h'.get? b=some u)(heo:∃u,h'.get? e=some u)(new:Zdl P w (upd H x o') h' x o'):HOk P w (upd H x o') h':=λb u q=>by
 have a:∀c y,H c=some (.own y)->c≠x:=λc y r z=>by subst z;rw [r] at mu;exact mu
 have d:∀c f,H c=some (.tup f)->c≠x:=λc f r z=>by subst z;rw [r] at mu;exact mu
 by_cases hb:b=x
 ·subst hb;rw [Zah] at q;cases q;exact new
 ·rw [Zaf hb] at q;by_cases hbe:b=e
  ·have g:H b=some (.own x):=by
    rcases he with z | z
    ·exact aB (hbe.trans z) hb
    ·rw [hbe];exact z
   rw [q] at g;cases g;obtain ⟨v,i⟩:=heo;exact ⟨v,by rw [hbe];exact i⟩
  ·refine (ok b u q).stay (λc v hc r=>k c v ?_ r) (λc r=>by rw [Zaf (a c b r)];exact r) λc f r=>by rw [Zaf (d c f r)];exact r
   rcases hc with rfl | hc
   ·exact hbe
   ·rintro rfl;rcases he with z | z
    ·exact a c b hc z
    ·rw [hc] at z;cases z;exact hb rfl
end
structure Un(fs ex:List Addr)(H H':Hp)(h h':Heap):Prop where
 keep:∀b o,h.get? b=some o->H b=none->b∉fs->b∉ex->h'.get? b=some o
 slot:∀b o,h.get? b=some o->H b=none->b∈fs->b∉ex->∃sl,h'.get? b=some { o with slots:=sl }
 free:∀b o,h.get? b=some o->H b=none->b∉ex->H' b=none
 there:∀b o,h.get? b=some o->b∉ex->∃o',h'.get? b=some o'
 tups:∀b xs,H b=some (.tup xs)->H' b=some (.tup xs)
 frzs:∀b o u,H b=some (.frz o u)->H' b=some (.frz o u)
 tbls:∀b ps,H b=some (.tbl ps)->∃more,H' b=some (.tbl (ps++more))
section
variable{fs fs' ex ex':List Addr}{H H1 H2:Hp}{h h1 h2 h':Heap}{a x e:Addr}{o:HO}
def Un.any(u:Un fs ex H H1 h h1)(q:h.get? b=some ob)(n:H b=none)(hx:b∉ex):∃sl,h1.get? b=some { ob with slots:=sl }:=by
 by_cases hb:b∈fs
 ·exact u.slot b ob q n hb hx
 ·exact ⟨ob.slots,u.keep b ob q n hb hx⟩
def Un.trans(a:Un fs ex H H1 h h1)(b:Un fs ex H1 H2 h1 h2):Un fs ex H H2 h h2 where
 keep:=λc d q n g e=>b.keep c d (a.keep c d q n g e) (a.free c d q n e) g e
 slot:=λc d q n g e=>by
  obtain ⟨r,f⟩:=a.slot c d q n g e;obtain ⟨j,l⟩:=b.slot c _ f (a.free c d q n e) g e;exact ⟨j,l⟩
 free:=λc d q n e=>by
  obtain ⟨k,f⟩:=a.there c d q e;exact b.free c k f (a.free c d q n e) e
 there:=λc d q e=>by
  obtain ⟨k,f⟩:=a.there c d q e;exact b.there c k f e
 tups:=λc i q=>b.tups c i (a.tups c i q)
 frzs:=λc d i q=>b.frzs c d i (a.frzs c d i q)
 tbls:=λc m q=>by
  obtain ⟨p,f⟩:=a.tbls c m q;obtain ⟨o,l⟩:=b.tbls c _ f;exact ⟨p++o,by rw [l,Array.append_assoc]⟩
def Un.kept(k:∀b u,h.get? b=some u->h'.get? b=some u):Un fs ex H H h h' :=
 ⟨λb a q _ _ _=>k b a q,λb a q _ _ _=>⟨a.slots,k b a q⟩,λ_ _ _ n _=>n,λb a q _=>⟨a,k b a q⟩,λ_ _ q=>q,λ_ _ _ q=>q,λ_ c q=>⟨#[],by rw [q];simp⟩⟩
def Un.refl:Un fs ex H H h h:=Un.kept λ_ _ q=>q
def Un.laid(k:∀b u,h.get? b=some u->h'.get? b=some u)(hp:h.objs.size<=a)(hn:H a=none):Un fs ex H (upd H a o) h h' where
 keep:=λb u q _ _ _=>k b u q
 slot:=λb u q _ _ _=>⟨u.slots,k b u q⟩
 free:=λb u q n _=>by rw [Zaf (Vai (Vag (Vaf q) hp))];exact n
 there:=λb u q _=>⟨u,k b u q⟩
 tups:=λb c q=>by rw [Zaf (Zai q hn)];exact q
 frzs:=λb u c q=>by rw [Zaf (Zai q hn)];exact q
 tbls:=λb d q=>⟨#[],by rw [Zaf (Zai q hn),q];simp⟩
def Un.write(mu:Mut (H x))(he:e=x\/H e=some (.own x))(k:∀b u,b≠e->h.get? b=some u->h'.get? b=some u)(heo:∃u,h'.get? e=some u):Un fs ex H (upd H x o) h h':=by
 have d:∀b,H b=none->b≠x:=λb n z=>by subst z;rw [n] at mu;exact mu
 have c:∀b,H b=none->b≠e:=λb n z=>by
  subst z;rcases he with r | r
  ·exact d b n r
  ·rw [n] at r;cases r
 have a:∀b u,H b=some u->¬Mut (some u)->b≠x:=λb u q f z=>by subst z;rw [q] at mu;exact f mu
 refine ⟨λb u q n _ _=>k b u (c b n) q,λb u q n _ _=>⟨u.slots,k b u (c b n) q⟩,λb u q n _=>by rw [Zaf (d b n)];exact n,λb u q _=>?_,
  λb g q=>by rw [Zaf (a b _ q λz=>z)];exact q,λb u g q=>by rw [Zaf (a b _ q λz=>z)];exact q,λb i q=>⟨#[],by rw [Zaf (a b _ q λz=>z),q];simp⟩⟩
 by_cases hbe:b=e
 ·subst hbe;exact heo
 ·exact ⟨u,k b u hbe q⟩
def Un.mono(u:Un fs ex H H1 h h1)(hs:∀b∈fs,b∈fs')(hx:∀b∈ex,b∈ex'):Un fs' ex' H H1 h h1 :=
 ⟨λb c q n d a=>u.keep b c q n (λz=>d (hs b z)) λz=>a (hx b z),λ_ _ q n _ a=>u.any q n λz=>a (hx _ z),λb c q n a=>u.free b c q n λz=>a (hx b z),λb c q a=>u.there b c q λz=>a (hx b z),u.tups,u.frzs,u.tbls⟩
end
def trk(h:Heap)(H:Hp):List Addr:=(List.range h.objs.size).filter λa=>(H a).isSome
def hidT(h:Heap)(H:Hp):Heap:=W.hideAll h (trk h H)
def ZoH(h)(H):(hidT h H).objs.size=h.objs.size:=W.hideAll_size _ _
def Zqm(e:h.get? b=some o)(n:H b=none):(hidT h H).get? b=some o :=
 Vaj _ e λa=>by
  have q:=(List.mem_filter.mp a).2;rw [n] at q;simp at q
def ZtG(e:(hidT h H).get? b=some o):h.get? b=some o/\H b=none:=by
 have a:=Vak (trk h H) e;refine ⟨a,?_⟩;cases q:H b with
 | none=>rfl
 | some x=>
  have c:b∈trk h H:=List.mem_filter.mpr ⟨Vam.mpr (Vaf a),by simp [q]⟩;have z:(hidT h H).get? b=none:=Van (trk h H) c;rw [z] at e;cases e
structure Mod(K:W.Frag)(mg:001)(base:Heap):Prop where
 kin:K.In base
 glob:base.Ns mainGlobals mg
 blt:∃mb,base.Ns builtinsNs mb/\∀x:Str,x ≠ "__name__"->mb x=bootBuiltins x
 nolimit:base.NoLimit
structure Cx where
 prog:Program
 w:World
 K:W.Frag
 mg:Str->Option Value
 base:Heap
 A:Around
 N:List Str
 s₀:Shared
 H₀:Hp
 env:Env
 outer:List Env
 stack:List Env
 ex:List Addr
 fn:Str->Bool
 calm:Bool
 pn:List (Addr×Obj)
 xe:Value->Shared->Prop
def frs(l:List Env):List Addr:=l.filterMap (·.frame)
abbrev Cx.fs(X:Cx):List Addr:=frs X.outer
def Vis(sc:Scope)(x:Str):Prop:=sc.names.lookup x=some .local\/sc.names.lookup x=some .cell\/sc.names.lookup x=some .free
def Loc(sc:Scope)(x:Str):Prop:=sc.names.lookup x=some .local\/sc.names.lookup x=some .cell
def Look(env:Env)(h:Heap)(m:001)(x:Str)(u:Value):Prop :=
 (env.kindOf x=some .local/\m x=some u)\/((env.kindOf x=some .cell\/env.kindOf x=some .free)/\∃c,env.cells.lookup x=some c/\h.IsCell c (some u))
structure Cx.Ok(X:Cx):Prop where
 mod:Mod X.K X.mg X.base
 kind:X.env.scope.kind=.function
 glob:X.env.globals=mainGlobals
 blt:X.env.builtins=builtinsNs
 above:X.s₀.heap.objs.size<=X.env.locals
 inj:∀x y c,X.env.cells.lookup x=some c->X.env.cells.lookup y=some c->x=y
 has:∀x,(X.env.kindOf x=some .cell\/X.env.kindOf x=some .free)->∃c,X.env.cells.lookup x=some c
 cab:∀x c,X.fn x=true->X.env.cells.lookup x=some c->X.s₀.heap.objs.size<=c
 hd:X.calm=true->X.A.handled=none
 frames:X.A.frames=some X.stack
 stk:X.stack=X.outer\/(X.stack=X.env::X.outer/\X.env.frame=some X.env.locals)
 exf:∀b∈X.ex,b≠X.env.locals/\∀x c,X.env.cells.lookup x=some c->c≠b
 bs:∀b o,X.base.get? b=some o->X.s₀.heap.get? b=some o/\X.H₀ b=none
 bsz:X.base.objs.size<=X.s₀.heap.objs.size
 noex:∀b o,X.base.get? b=some o->b∉X.ex
 exfs:∀b∈X.ex,b∉X.fs
 funs:X.s₀.heap.FunFrames X.base X.outer
 frf:∀b∈X.fs,X.H₀ b=none
structure Inv(X:Cx)(pins:List (Addr×Obj))(σ:List (Option V))(H:Hp)(s:Shared):Prop where
 ok:X.Ok
 os:s.os=X.s₀.os
 bare:AllBare s.gens
 base:Un X.fs X.ex X.H₀ H X.s₀.heap s.heap
 loc:∃m,s.heap.Ns X.env.locals m/\∀(i:Nat) (x:Str) (v:V),X.N[i]?=some x->σ[i]?=some (some v)->Vis X.env.scope x->∃u,RelV v u/\Look X.env s.heap m x u
 cell:∀x c,X.env.cells.lookup x=some c->∃v,s.heap.IsCell c v
 free:H X.env.locals=none
 freeC:∀x c,X.env.cells.lookup x=some c->H c=none
 pin:∀p∈X.pn++pins,s.heap.get? p.1=some p.2/\H p.1=none/\p.1≠X.env.locals/\p.1∉X.fs/\∀v,p.2.data≠.cell v
 hok:HOk X.prog X.w H s.heap
 len:σ.length=X.N.length
section
variable{X:Cx}{pins:List (Addr×Obj)}{σ:List (Option V)}{H H':Hp}{s:Shared}{h':Heap}
def Cx.Ok.nofr(ok:X.Ok)(e:X.base.get? b=some o):b∉X.fs:=λa=>by
 have:=(ok.funs.mem a).1;rw [e] at this;cases this
def Inv.bs(I:09):∀b o,X.base.get? b=some o->s.heap.get? b=some o/\H b=none:=λb o e=>
 ⟨I.base.keep b o (I.ok.bs b o e).1 (I.ok.bs b o e).2 (I.ok.nofr e) (I.ok.noex b o e),I.base.free b o (I.ok.bs b o e).1 (I.ok.bs b o e).2 (I.ok.noex b o e)⟩
def Inv.bk(I:09):∀b o,X.base.get? b=some o->s.heap.get? b=some o:=λb o e=>(I.bs b o e).1
def Inv.mod(I:09):Mod X.K X.mg X.base:=I.ok.mod
def Inv.kIn(I:09):X.K.In s.heap:=I.ok.mod.kin.keeps I.bk
def Inv.lt(I:09):X.env.locals<s.heap.objs.size:=let ⟨_,hn,_⟩:=I.loc;hn.lt
def Inv.sz(I:09):X.s₀.heap.objs.size<=s.heap.objs.size:=Vao I.ok.above (Nat.le_of_lt I.lt)
def Inv.nofs(I:09)(h:s.heap.objs.size<=a):a∉X.fs:=λc=>by
 obtain ⟨_,o,b,_⟩:=I.ok.funs.mem c;exact aB (Vag (Vaf b) (Vao I.sz h)) (Vah _)
def Inv.cne(I:09):∀x c,X.env.cells.lookup x=some c->c≠X.env.locals:=λx c e z=>by
 obtain ⟨v,o,f,d⟩:=I.cell x c e;obtain ⟨m,⟨g,h,i,a,b,_⟩,_⟩:=I.loc;rw [z,a] at f;cases f;rw [b] at d;cases d
def Inv.funs(I:09):s.heap.FunFrames X.base X.outer:=by
 have a:∀l,(∀b∈frs l,b∈X.fs)->X.s₀.heap.FunFrames X.base l->s.heap.FunFrames X.base l:=by
  intro l
  induction l with
  | nil=>intro _ _;trivial
  | cons env r ih=>
   intro g k;obtain ⟨n,⟨L,o,d,i,m,h⟩,j⟩:=k;have c:=g L (by unfold frs;rw [List.filterMap_cons,d];exact List.mem_cons_self);obtain ⟨p,e⟩:=I.base.slot L o m (I.ok.frf L c) c λz=>I.ok.exfs L z c;exact ⟨n,⟨L,_,d,i,e,h⟩,ih (λb f=>g b (by unfold frs;rw [List.filterMap_cons,d];exact List.mem_cons_of_mem _ f)) j⟩
 exact a X.outer (λ_ f=>f) I.ok.funs
def Inv.stack(I:09):s.heap.FunFrames X.base X.stack:=by
 rcases I.ok.stk with e | ⟨e,hf⟩
 ·rw [e];exact I.funs
 ·rw [e];obtain ⟨m,a,_⟩:=I.loc;refine .cons (by rw [I.ok.kind];decide) hf a ?_ I.funs;exact Vas (Vao I.ok.bsz I.ok.above)
def Inv.stkSub(I:09):∀b∈frs X.stack,b∈X.env.locals::X.fs:=λb a=>by
 rcases I.ok.stk with e | ⟨e,hf⟩
 ·rw [e] at a;exact Var _ a
 ·rw [e] at a;unfold frs at a;rw [Vap,hf] at a;exact a
def Inv.stkFree(I:09):∀b∈frs X.stack,H b=none:=λb hb=>by
 rcases Vat.mp (I.stkSub b hb) with e | hb
 ·rw [e];exact I.free
 ·obtain ⟨_,o,a,_⟩:=I.ok.funs.mem hb;exact I.base.free b o a (I.ok.frf b hb) λz=>I.ok.exfs b z hb
def Inv.step{g':Array GenState}{t':Nat}{d':Drawn}{ch:List Addr}(I:09)(hch:∀b∈ch,(b∈X.ex\/X.s₀.heap.objs.size<=b)/\b≠X.env.locals/\(∀x c,X.env.cells.lookup x=some c->c≠b)/\∀p∈X.pn++pins,p.1≠b)(keep:∀b o,b≠X.env.locals->b∉X.fs->b∉ch->s.heap.get? b=some o->H b=none->h'.get? b=some o)(slot:∀b o,b≠X.env.locals->b∈X.fs->b∉ch->s.heap.get? b=some o->H b=none->∃sl,h'.get? b=some { o with slots:=sl })(free:∀b o,b∉ch->s.heap.get? b=some o->H b=none->H' b=none)(there:∀b o,b∉ch->s.heap.get? b=some o->∃o',h'.get? b=some o')(tups:∀b xs,H b=some (.tup xs)->H' b=some (.tup xs))(frzs:∀b o u,H b=some (.frz o u)->H' b=some (.frz o u))(tbls:∀b ps,H b=some (.tbl ps)->∃more,H' b=some (.tbl (ps++more)))(ns:∀m,s.heap.Ns X.env.locals m->h'.Ns X.env.locals m)(hok:HOk X.prog X.w H' h')(hg:AllBare g') :
  Inv X pins σ H' { s with heap:=h',gens:=g',drawn:=d',toks:=t' }:=by
 have B:∀b o,X.s₀.heap.get? b=some o->b≠X.env.locals:=λb o e=>Vai (Vag (Vaf e) I.ok.above);have j:∀b o,X.s₀.heap.get? b=some o->b∉X.ex->b∉ch:=λb o e a t=>by
  rcases (hch b t).1 with z | z
  ·exact a z
  ·exact aB (Vag (Vaf e) z) (Vah _)
 have f:∀x c,X.env.cells.lookup x=some c->∀v,s.heap.IsCell c v->h'.IsCell c v:=λx c e v ⟨o,y,C⟩=>by
  have g:=λz=>(hch c z).2.2.1 x c e rfl;by_cases hc:c∈X.fs
  ·obtain ⟨sl,q⟩:=slot c o (I.cne x c e) hc g y (I.freeC x c e);exact ⟨_,q,C⟩
  ·exact ⟨o,keep c o (I.cne x c e) hc g y (I.freeC x c e),C⟩
 refine ⟨I.ok,I.os,hg,⟨λb o e n t a=>?_,λb o e n t a=>?_,λb o e n a=>?_,λb o e a=>?_,λb xs e=>tups b xs (I.base.tups b xs e),λb o xs e=>frzs b o xs (I.base.frzs b o xs e),λb ps e=>?_⟩,?_,λx c e=>?_,?_,λx c e=>?_,λp E=>?_,hok,I.len⟩
 ·exact keep b o (B b o e) t (j b o e a) (I.base.keep b o e n t a) (I.base.free b o e n a)
 ·obtain ⟨sl,h⟩:=I.base.slot b o e n t a;obtain ⟨D,A⟩:=slot b _ (B b o e) t (j b o e a) h (I.base.free b o e n a);exact ⟨D,A⟩
 ·obtain ⟨o',h⟩:=I.base.there b o e a;exact free b o' (j b o e a) h (I.base.free b o e n a)
 ·obtain ⟨o',h⟩:=I.base.there b o e a;exact there b o' (j b o e a) h
 ·obtain ⟨L,h⟩:=I.base.tbls b ps e;obtain ⟨M,A⟩:=tbls b _ h;exact ⟨L++M,by rw [A,Array.append_assoc]⟩
 ·obtain ⟨m,K,J⟩:=I.loc;refine ⟨m,ns m K,λi x v h A N=>?_⟩;obtain ⟨u,r,l⟩:=J i x v h A N;refine ⟨u,r,?_⟩;rcases l with l | ⟨k,c,e,z⟩
  ·exact .inl l
  ·exact .inr ⟨k,c,e,f x c e _ z⟩
 ·obtain ⟨v,z⟩:=I.cell x c e;exact ⟨v,f x c e v z⟩
 ·obtain ⟨m,⟨o,_,_,y,_⟩,_⟩:=I.loc;exact free _ o (λz=>(hch _ z).2.1 rfl) y I.free
 ·obtain ⟨v,o,y,C⟩:=I.cell x c e;exact free c o (λz=>(hch c z).2.2.1 x c e rfl) y (I.freeC x c e)
 ·obtain ⟨e,n,G,F,d⟩:=I.pin p E;have g:=λz=>(hch p.1 z).2.2.2 p E rfl;exact ⟨keep p.1 p.2 G F g e n,free p.1 p.2 g e n,G,F,d⟩
def Inv.un{t':Nat}(I:09)(u:Un X.fs [] H H' s.heap h')(hok:HOk X.prog X.w H' h'):Inv X pins σ H' { s with heap:=h',toks:=t' }:=by
 obtain ⟨m,⟨o,k,l,g,r⟩,_⟩:=id I.loc;obtain ⟨p,h⟩:=u.any g I.free 03
 exact I.step (ch:=[]) (λ_ z=>nomatch z) (λb o _ d _ e n=>u.keep b o e n d 03) (λb o _ d _ e n=>u.slot b o e n d 03) (λb o _ e n=>u.free b o e n 03) (λb o _ e=>u.there b o e 03) u.tups u.frzs u.tbls (λt j=>by
  obtain ⟨q,f,c,a,i⟩:=j;rw [g] at a;cases a
  exact ⟨_,f,c,h,i⟩) hok I.bare
def Inv.call{g':Array GenState}{t':Nat}{d':Drawn}{ch:List Addr}(I:09)(u:Un (frs X.stack) ch H H' s.heap h')(hok:HOk X.prog X.w H' h')(hg:AllBare g')(hch:∀b∈ch,(b∈X.ex\/X.s₀.heap.objs.size<=b)/\b≠X.env.locals/\(∀x c,X.env.cells.lookup x=some c->c≠b)/\∀p∈X.pn++pins,p.1≠b) :
  Inv X pins σ H' { s with heap:=h',gens:=g',drawn:=d',toks:=t' }:=by
 obtain ⟨m,⟨o,q,t,i,r⟩,_⟩:=id I.loc;obtain ⟨v,g⟩:=u.any i I.free λz=>(hch _ z).2.1 rfl
 exact I.step hch (λb o g j a e n=>u.keep b o e n (λz=>(Vat.mp (I.stkSub b z)).elim g j) a) (λb o _ _ a e n=>u.any e n a) (λb o a e n=>u.free b o e n a) (λb o a e=>u.there b o e a) u.tups u.frzs u.tbls (λA l=>by
  obtain ⟨y,h,f,d,k⟩:=l;rw [i] at d;cases d
  exact ⟨_,h,f,g,k⟩) hok hg
def Inv.turned{t':Nat}{it:Addr}(I:09)(k:∀b o,b≠it->s.heap.get? b=some o->h'.get? b=some o)(hn:H it=none)(hL:it≠X.env.locals)(h1:it∈X.ex\/X.s₀.heap.objs.size<=it)(h2:∀x c,X.env.cells.lookup x=some c->c≠it)(h3:∀p∈X.pn++pins,p.1≠it):Inv X pins σ H { s with heap:=h',toks:=t' }:=by
 have d:∀b u,H b=some u->b≠it:=λb u e z=>by rw [z,hn] at e;cases e
 refine I.step (ch:=[it]) (λb h=>?_) (λb o _ _ a e _=>k b o (λz=>a (by simp [z])) e) (λb o _ _ a e _=>⟨o.slots,k b o (λz=>a (by simp [z])) e⟩) (λ_ _ _ _ n=>n)
  (λb o a e=>⟨o,k b o (λz=>a (by simp [z])) e⟩) (λ_ _ e=>e) (λ_ _ _ e=>e) (λb l e=>⟨#[],by rw [e];simp⟩) (λm j=>?_) (λb u e=>?_) I.bare
 ·have e:b=it:=by simpa using h
  subst e;exact ⟨h1,hL,h2,h3⟩
 ·obtain ⟨o,f,g,i,r⟩:=j;exact ⟨o,f,g,k _ o (Ne.symm hL) i,r⟩
 ·refine (I.hok b u e).stay (λc v a q=>k c v ?_ q) (λ_ q=>q) λ_ _ q=>q;rcases a with z | z
  ·rw [z];exact d b u e
  ·exact d c _ z
def Inv.tok(I:09)(t):Inv X pins σ H { s with toks:=t }:=I.un (h':=s.heap) (t':=t) Un.refl I.hok
def Inv.kept(I:09)(k:∀b u,s.heap.get? b=some u->h'.get? b=some u):Inv X pins σ H { s with heap:=h',toks:=t' }:=I.un (Un.kept k) (I.hok.kept k)
def Inv.laid(I:09)(k:∀b u,s.heap.get? b=some u->h'.get? b=some u)(hp:s.heap.objs.size<=a)(new:Zdl X.prog X.w (upd H a o) h' a o) :
  Inv X pins σ (upd H a o) { s with heap:=h',toks:=t' }:=I.un (Un.laid k hp (I.hok.fresh hp)) (I.hok.laid k hp new)
def Inv.write(I:09)(mu:Mut (H x))(he:e=x\/H e=some (.own x))(k:∀b u,b≠e->s.heap.get? b=some u->h'.get? b=some u)(heo:∃u,h'.get? e=some u)(new:Zdl X.prog X.w (upd H x o) h' x o):Inv X pins σ (upd H x o) { s with heap:=h',toks:=t' }:=I.un (Un.write mu he k heo) (I.hok.write mu he k heo new)
def Inv.weak{σ':List (Option V)}(I:09)(hl:σ'.length=σ.length)(w:∀(i:Nat) v,σ'[i]?=some (some v)->σ[i]?=some (some v)):Inv X pins σ' H s :=
 ⟨I.ok,I.os,I.bare,I.base,let ⟨m,hn,hl'⟩:=I.loc;⟨m,hn,λi x v b c a=>hl' i x v b (w i v c) a⟩,I.cell,I.free,I.freeC,I.pin,I.hok,hl.trans I.len⟩
def Inv.pins_of(I:09)(h:∀p∈pins',s.heap.get? p.1=some p.2/\H p.1=none/\p.1≠X.env.locals/\p.1∉X.fs/\∀v,p.2.data≠.cell v):Inv X pins' σ H s :=
 ⟨I.ok,I.os,I.bare,I.base,I.loc,I.cell,I.free,I.freeC,λp a=>(Vau.mp a).elim (λz=>I.pin p (Vav _ z)) (h p),I.hok,I.len⟩
def Zh1{N:List Str}(hN:N.Nodup){i j:Nat}{x:Str}(a:N[i]?=some x)(b:N[j]?=some x):i=j:=by
 obtain ⟨e,c⟩:=Vaw.mp a;obtain ⟨f,d⟩:=Vaw.mp b;exact (List.getElem_inj hN).mp (c.trans d.symm)
def Znw(I:09)(hN:X.N.Nodup)(hi:X.N[i]?=some x)(hx:Loc X.env.scope x)(r:RelV v u)(h:∀s',Inv X pins (σ.set i (some v)) H s'->(∃a,Heap.SameBut a s.heap s'.heap/\(a=X.env.locals\/X.env.cells.lookup x=some a))->Q () s')(hf:013:=by first | exact .inl rfl | exact .inr rfl | assumption):wpAny M A (storeName X.env x u) Q E s:=by
 obtain ⟨m,Y,hl⟩:=id I.loc;have P:(X.env.scope.kind==.class||(X.env.scope.kind==.module&&X.env.locals != X.env.globals))=false:=by rw [I.ok.kind];rfl
 have C:i<σ.length:=by rw [I.len];exact (Vaw.mp hi).1
 have D:=I.cne;have l:∀{a:Addr} {J:Heap},(∃o,s.heap.get? a=some o/\H a=none)->Heap.SameBut a s.heap J->HOk X.prog X.w H J:=λ{a J} ha f b ob e=>by
  obtain ⟨_,_,t⟩:=ha;refine (I.hok b ob e).stay (λc S hc q=>(f.2 c ?_).trans q) (λ_ q=>q) λ_ _ q=>q;rintro rfl;rcases hc with rfl | hc
  ·rw [t] at e;cases e
  ·rw [t] at hc;cases hc
 rcases hx with hk | hk
 ·refine wpAny_storeName_local hk Y (λJ hn' f=>?_) P;obtain ⟨oL,_,_,hoL,_⟩:=id Y;refine h _ ⟨I.ok,I.os,I.bare,⟨λb o e n F hx=>?_,λb o e n F hx=>?_,I.base.free,λb o e hx=>?_,I.base.tups,I.base.frzs,I.base.tbls⟩,⟨_,hn',λj y v' g B e3=>?_⟩,λy c e=>?_,I.free,I.freeC,λp U=>?_,l ⟨oL,hoL,I.free⟩ f,by simpa using I.len⟩ ⟨_,f,.inl rfl⟩
  ·exact (f.2 b (Vai (Vag (Vaf e) I.ok.above))).trans (I.base.keep b o e n F hx)
  ·obtain ⟨V,g⟩:=I.base.slot b o e n F hx;exact ⟨V,(f.2 b (Vai (Vag (Vaf e) I.ok.above))).trans g⟩
  ·obtain ⟨W,g⟩:=I.base.there b o e hx;exact ⟨W,(f.2 b (Vai (Vag (Vaf e) I.ok.above))).trans g⟩
  ·by_cases hj:j=i
   ·subst hj;rw [hi] at g;cases g;rw [List.getElem?_set_self C] at B;cases B;exact ⟨u,r,.inl ⟨hk,by simp⟩⟩
   ·rw [List.getElem?_set_ne (Ne.symm hj)] at B;obtain ⟨u',r',q⟩:=hl j y v' g B e3;refine ⟨u',r',?_⟩;rcases q with ⟨k,e⟩ | ⟨k,c,e,z⟩
    ·refine .inl ⟨k,?_⟩;have:y≠x:=λe=>hj (Zh1 hN g (e▸hi));simp [this,e]
    ·exact .inr ⟨k,c,e,z.sameBut f (D y c e)⟩
  ·obtain ⟨S,z⟩:=I.cell y c e;exact ⟨S,z.sameBut f (D y c e)⟩
  ·obtain ⟨e,n,T,Z,d⟩:=I.pin p U;exact ⟨(f.2 p.1 T).trans e,n,T,Z,d⟩
 ·have G:X.fn x=true:=by
   rcases hf with z | z
   ·exact z
   ·rw [z] at hk;cases hk
  obtain ⟨c,hc⟩:=I.ok.has x (.inl hk);obtain ⟨S,z⟩:=I.cell x c hc;refine wpAny_storeName_cell I.ok.kind hk hc z (λJ L f=>?_);obtain ⟨oc,K,O⟩:=id z;refine h { s with heap:=J } ⟨I.ok,I.os,I.bare,⟨λb o e n F hx=>?_,λb o e n F hx=>?_,I.base.free,λb o e hx=>?_,I.base.tups,I.base.frzs,I.base.tbls⟩,⟨m,Y.sameBut f (Ne.symm (D x c hc)),λj y v' g B e3=>?_⟩,λy R e=>?_,I.free,I.freeC,λp U=>?_,l ⟨oc,K,I.freeC x c hc⟩ f,by simpa using I.len⟩ ⟨c,f,.inr hc⟩
  ·exact (f.2 b (Vai (Vag (Vaf e) (I.ok.cab x c G hc)))).trans (I.base.keep b o e n F hx)
  ·obtain ⟨V,g⟩:=I.base.slot b o e n F hx;exact ⟨V,(f.2 b (Vai (Vag (Vaf e) (I.ok.cab x c G hc)))).trans g⟩
  ·obtain ⟨W,g⟩:=I.base.there b o e hx;exact ⟨W,(f.2 b (Vai (Vag (Vaf e) (I.ok.cab x c G hc)))).trans g⟩
  ·by_cases hj:j=i
   ·subst hj;rw [hi] at g;cases g;rw [List.getElem?_set_self C] at B;cases B;exact ⟨u,r,.inr ⟨.inl hk,c,hc,L⟩⟩
   ·rw [List.getElem?_set_ne (Ne.symm hj)] at B;obtain ⟨u',r',q⟩:=hl j y v' g B e3;refine ⟨u',r',?_⟩;rcases q with q | ⟨k,R,e,z'⟩
    ·exact .inl q
    ·refine .inr ⟨k,R,e,z'.sameBut f ?_⟩;rintro rfl;exact hj (Zh1 hN g (I.ok.inj _ _ _ e hc▸hi))
  ·by_cases hcc:R=c
   ·subst hcc;exact ⟨_,L⟩
   ·obtain ⟨w2,z2⟩:=I.cell y R e;exact ⟨w2,z2.sameBut f hcc⟩
  ·obtain ⟨e,n,T,Z,d⟩:=I.pin p U;refine ⟨(f.2 p.1 ?_).trans e,n,T,Z,d⟩;intro q;rw [q,K] at e;have q':=Vac e;exact d S (by rw [<-q'];exact O)
def ZdR(I:09)(hN:X.N.Nodup)(hi:X.N[i]?=some x)(hx:Loc X.env.scope x)(r:RelV v u)(h:∀s',Inv X pins (σ.set i (some v)) H s'->Q () s')(hf:013:=by first | exact .inl rfl | exact .inr rfl | assumption):wpAny M A (storeName X.env x u) Q E s :=
 Znw I hN hi hx r (λs' a _=>h s' a) hf
def Inv.call'(I:09)(ho:s'.os=s.os)(u:Un (frs X.stack) ch H H' s.heap s'.heap)(hok:HOk X.prog X.w H' s'.heap)(hg:AllBare s'.gens)(hch:∀b∈ch,(b∈X.ex\/X.s₀.heap.objs.size<=b)/\b≠X.env.locals/\(∀x c,X.env.cells.lookup x=some c->c≠b)/\∀p∈X.pn++pins,p.1≠b):Inv X pins σ H' s':=by
 obtain ⟨f,h,g,d,a⟩:=s';have e:=ho;subst e;exact I.call u hok hg hch
end
abbrev XK:=Value->Option Addr->Hp->Prop
abbrev St:=List (Option V)
abbrev VK:=V->Hp->Prop
abbrev TE:=St->Hp->VK->Prop
abbrev TT:=St->Hp->(Bool->Hp->Prop)->Prop
abbrev TA:=St->Hp->(List V->Hp->Prop)->Prop
structure Ends where
 nx:St->Hp->Prop
 rt:VK
 bk:St->Hp->Prop:=λ_ _=>False
 ct:St->Hp->Prop:=λ_ _=>False
abbrev TS:=Ends->St->Hp->Prop
def EP(X:Cx)(pins:List (Addr×Obj))(σ:St)(Q:VK)(u:Value)(s':Shared):Prop:=∃v a,Inv X pins σ a s'/\RelV v u/\Q v a
def TP(X:Cx)(pins:List (Addr×Obj))(σ:St)(Q:Bool->Hp->Prop)(b:Bool)(s':Shared):Prop:=∃a,Inv X pins σ a s'/\Q b a
def AP(X:Cx)(pins:List (Addr×Obj))(σ:St)(Q:List V->Hp->Prop)(us:List Value)(s':Shared):Prop:=∃b a,Inv X pins σ a s'/\Vals b us/\Q b a
def SP(X:Cx)(pins:List (Addr×Obj))(D:Ends)(f:Flow)(s':Shared):Prop :=
 match f with
 | .next=>∃a b,Inv X pins a b s'/\D.nx a b
 | .brk=>∃a b,Inv X pins a b s'/\D.bk a b
 | .cont=>∃a b,Inv X pins a b s'/\D.ct a b
 | .ret u=>∃v a b,Inv X pins a b s'/\RelV v u/\D.rt v b
abbrev wX{α}(X:Cx):=@wpAny α (model X.prog X.w) X.A
def PE(X:Cx)(e:Expr)(t:TE):Prop :=
 ∀a s σ H Q,Inv X a σ H s->t σ H Q->wX X (eval e X.env) (EP X a σ Q) X.xe s
def PT(X:Cx)(e:Expr)(t:TT):Prop :=
 ∀a s σ H Q,Inv X a σ H s->t σ H Q->wX X (isTrue e X.env (eval e X.env)) (TP X a σ Q) X.xe s
def PW(X:Cx)(e:Expr)(t:TT):Prop :=
 ∀b a s σ H Q,Inv X a σ H s->t σ H Q->wX X (isTrue e X.env b) (TP X a σ Q) X.xe s
def PW.pt(h:PW X e t):PT X e t:=h _
def PA(X:Cx)(es:List Expr)(t:TA):Prop :=
 ∀b a s σ H Q,Inv X a σ H s->t σ H Q->wX X (spliced (backTo b (starEach es X.env))) (AP X a σ Q) X.xe s
def PS(X:Cx)(st:Stmt)(t:TS):Prop :=
 ∀a s σ H D,Inv X a σ H s->t D σ H->wX X (exec st X.env) (SP X a D) X.xe s
def PSs(X:Cx)(st:List Stmt)(t:TS):Prop :=
 ∀a s σ H D,Inv X a σ H s->t D σ H->wX X (execs st X.env) (SP X a D) X.xe s
def thn(h:wpAny M A t Q E s)(hQ:∀a s,Q a s->Q' a s):wpAny M A t Q' E s:=Vax h hQ λ_ _ x=>x
section
variable{X:Cx}
def tVar(i:Nat):TE:=λσ H Q=>∃v,σ[i]?=some (some v)/\Q v H
def tC(v:V):TE:=λ_ H Q=>Q v H
def ZdT(hN:X.N[i]?=some x)(hv:Vis X.env.scope x)(hd:ND x:=by decide)(hcd:NE x:=by decide):PE X (.Name x pos) (tVar i):=by
 intro b s σ H Q I h;obtain ⟨v,e,h⟩:=h;obtain ⟨m,d,f⟩:=I.loc;obtain ⟨u,r,l⟩:=f i x v hN e hv;have a:EP X b σ Q u s:=⟨v,H,I,r,h⟩;rcases l with ⟨hk,hm⟩ | ⟨hk,c,hc,hcell⟩
 ·exact wpAny_Name (wpAny_loadName_local I.ok.kind hk d hm a) hd
 ·rcases hk with hk | hk
  ·exact wpAny_Name (wpAny_loadName_cell I.ok.kind hk hc hcell a) hd
  ·exact wpAny_Name (wpAny_loadName_free I.ok.kind hk hc hcell a hcd) hd
def Zq8{i j pos}:PE X (.Constant (.int i) j pos) (tC (.int i)):=λ_ _ _ H _ I h=>wpAny_Constant_int ⟨.int i,H,I.tok _,⟨_,rfl⟩,h⟩
def ZxN{b j pos}:PE X (.Constant (.bool b) j pos) (tC (.bl b)):=λ_ _ _ H _ I h=>Constant_bool ⟨.bl b,H,I,rfl,h⟩
def ZlD{j pos}:PE X (.Constant .none j pos) (tC .non):=λ_ _ _ H _ I h=>Constant_none ⟨.non,H,I,rfl,h⟩
def Zle{x j pos}:PE X (.Constant (.str x) j pos) (tC (.str x)):=λ_ _ _ H _ I h=>Calls.Constant_str ⟨.str x,H,I.tok _,⟨_,rfl⟩,h⟩
def Gl(X:Cx)(x:Str):Prop:=X.env.kindOf x=some .globalImplicit
def ZdN(I:09)(hg:Gl X x)(hm:X.mg x=some u)(h:Q u s)(hd:ND x:=by decide):wX X (eval (.Name x pos) X.env) Q E s :=
 Calls.Name_function_global I.ok.kind hg (Calls.loadGlobal_global (by rw [I.ok.glob];exact I.mod.glob.keeps I.bk) hm h) hd
def ZhG(I:09)(hg:Gl X x)(hm:X.mg x=none)(hv:bootBuiltins x=some u)(h:Q u s)(hn:x ≠ "__name__":=by decide)(hd:ND x:=by decide):wX X (eval (.Name x pos) X.env) Q E s:=by
 obtain ⟨c,b,a⟩:=I.mod.blt;exact Calls.Name_function_global I.ok.kind hg (Calls.loadGlobal_builtin (by rw [I.ok.glob];exact I.mod.glob.keeps I.bk) hm (by rw [I.ok.blt];exact b.keeps I.bk) ((a x hn).trans hv) h) hd
def ZfX(hg:Gl X x)(hm:X.mg x=some u)(r:RelV v u)(hd:ND x:=by decide):PE X (.Name x pos) (tC v) :=
 λ_ _ _ H _ I h=>ZdN I hg hm ⟨v,H,I,r,h⟩ hd
def ZsM(hg:Gl X x)(hm:X.mg x=none)(hv:bootBuiltins x=some u)(r:RelV v u)(hn:x ≠ "__name__":=by decide)(hd:ND x:=by decide):PE X (.Name x pos) (tC v) :=
 λ_ _ _ H _ I h=>ZhG I hg hm hv ⟨v,H,I,r,h⟩ hn hd
variable{a b:Expr}{ta tb:TE}{pos:Pos}
def tB(t:TE):TT:=λσ H Q=>t σ H λx a=>∃c,x=.bl c/\Q c a
def Zvh(h:PE X e t)(he:∀whole,isTrue e X.env whole=(do let v <-whole;standAt e.pos;holding [v] (truthy v)):=by intro _;rfl):PT X e (tB t):=by
 intro a s σ H Q I i;refine isTrue_plain (thn (h a s σ H _ I i) λv j zq=>?_) (he _);obtain ⟨x,f,g,b,c⟩:=zq;obtain ⟨d,rfl,q⟩:=c;cases b;exact Vay ⟨f,g,q⟩
variable{tA tB':TT}{rest:List Expr}
def tAnd(t u:TT):TT:=λσ H Q=>t σ H λc a=>if c=true then u σ a Q else Q false a
def tOr(t u:TT):TT:=λσ H Q=>t σ H λc a=>if c=true then Q true a else u σ a Q
def tNot(t:TT):TT:=λσ H Q=>t σ H λc a=>Q (!c) a
def Ztc(ha:PT X a tA):PW X (.BoolOp .And [a] pos) tA:=by
 intro d b s σ H Q I h;refine isTrue_and (thn (ha b s σ H Q I h) λc f e=>?_);cases c with
 | true=>exact isTrue_and_nil e
 | false=>exact e
def Zuo(ha:PT X a tA):PW X (.BoolOp .Or [a] pos) tA:=by
 intro d b s σ H Q I h;refine isTrue_or (thn (ha b s σ H Q I h) λc f e=>?_);cases c with
 | false=>exact isTrue_or_nil e
 | true=>exact e
def Zuk(ha:PT X a tA)(hb:PW X (.BoolOp .And (b::rest) pos) tB'):PW X (.BoolOp .And (a::b::rest) pos) (tAnd tA tB'):=by
 intro i d s σ H Q I h;refine isTrue_and (thn (ha d s σ H _ I h) λc j zq=>?_);obtain ⟨f,g,e⟩:=zq;cases c with
 | true=>exact hb i d j σ f Q g e
 | false=>exact ⟨f,g,e⟩
def ZxQ(ha:PT X a tA)(hb:PW X (.BoolOp .Or (b::rest) pos) tB'):PW X (.BoolOp .Or (a::b::rest) pos) (tOr tA tB'):=by
 intro i d s σ H Q I h;refine isTrue_or (thn (ha d s σ H _ I h) λc j zq=>?_);obtain ⟨f,g,e⟩:=zq;cases c with
 | true=>exact ⟨f,g,e⟩
 | false=>exact hb i d j σ f Q g e
def ZuE(ha:PT X a tA):PT X (.UnaryOp .Not a pos) (tNot tA):=by
 intro b s σ H Q I h;exact isTrue_not (ha b s σ H (λc d=>Q (!c) d) I h)
def ZtQ(ta tb:TE):TE:=λσ H Q=>ta σ H λx a=>∃c,x=.bl c/\if c=true then tb σ a Q else Q (.bl false) a
def ZrQ(ta:TE):TE:=λσ H Q=>ta σ H λx a=>∃c,x=.bl c/\Q (.bl (!c)) a
def ZvD{op}(h:PE X a t):PE X (.BoolOp op [a] pos) t:=λb s σ H Q I c=>BoolOp_one (h b s σ H Q I c)
def Zuf(ha:PE X a ta)(hb:PE X (.BoolOp .And (b::rest) pos) tb):PE X (.BoolOp .And (a::b::rest) pos) (ZtQ ta tb):=by
 intro d s σ H Q I h;refine BoolOp_and (thn (ha d s σ H _ I h) λv j zq=>?_);obtain ⟨x,f,g,i,e⟩:=zq;obtain ⟨c,rfl,e⟩:=e;cases i;refine Vay ?_;cases c with
 | true=>exact hb d j σ f Q g e
 | false=>exact ⟨.bl false,f,g,rfl,e⟩
def Zwm(ha:PE X a ta):PE X (.UnaryOp .Not a pos) (ZrQ ta):=by
 intro b s σ H Q I h;refine UnaryOp_ (thn (ha b s σ H _ I h) λv i zq=>?_);obtain ⟨x,f,g,e,d⟩:=zq;obtain ⟨c,rfl,d⟩:=d;cases e;exact not_of (Vay ⟨.bl (!c),f,g,rfl,d⟩)
def tIf(t:TT)(ta tb:TE):TE:=λσ H Q=>t σ H λc a=>if c=true then ta σ a Q else tb σ a Q
def ZpQ(hc:PT X c tA)(ha:PE X a ta)(hb:PE X b tb):PE X (.IfExp c a b pos) (tIf tA ta tb):=by
 intro e s σ H Q I h;refine wpAny_IfExp (thn (hc e s σ H _ I h) λd g zq=>?_);obtain ⟨i,j,f⟩:=zq;cases d with
 | true=>exact ha e g σ i Q j f
 | false=>exact hb e g σ i Q j f
end
def SqL(K:W.Frag)(H:Hp)(a:Addr)(xs:List V):Prop :=
 Rd H a (.lst xs) \/
  ∃o b n,K.lookup a=some o/\o.cls=.type "list"/\o.dict=none/\o.data=.seq b n/\b.size<=sizeLine/\Vals xs b.toList
def SqT(K:W.Frag)(H:Hp)(a:Addr)(xs:List V):Prop :=
 Rd H a (.tup xs) \/
  ∃o b n,K.lookup a=some o/\o.cls=.type "tuple"/\o.data=.seq b n/\b.size<=sizeLine/\Vals xs b.toList
def absV:Value->Option V
 | .none=>some .non
 | .bool b=>some (.bl b)
 | .int i _=>some (.int i)
 | .str x _=>some (.str x)
 | .bytes b _=>some (.byt b)
 | .float b _=>some (.flt b)
 | .ref a=>some (.ref a)
 | .type n=>some (.ty n)
 | _=>none
def RelV.abs(r:RelV x u):absV u=some x:=by
 cases x with
 | non=>cases r;rfl
 | bl _=>cases r;rfl
 | int _=>obtain ⟨t,rfl⟩:=r;rfl
 | str _=>obtain ⟨t,rfl⟩:=r;rfl
 | byt _=>obtain ⟨t,rfl⟩:=r;rfl
 | flt _=>obtain ⟨t,rfl⟩:=r;rfl
 | ref _=>cases r;rfl
 | ty _=>cases r;rfl
def RelV.inj(r:RelV x u)(q:RelV y u):x=y:=Vac (r.abs.symm.trans q.abs)
def Vals.inj:∀{xs ys:List V} {us:List Value},Vals xs us->Vals ys us->xs=ys
 | _,_,_,.nil,.nil=>rfl
 | _,_,_,.cons r t,.cons r' t'=>by rw [r.inj r',Vals.inj t t']
section
variable{X:Cx}{pins:List (Addr×Obj)}{σ:St}{H:Hp}{s:Shared}{a:Addr}{xs ys:List V}
def SqL.of{K:W.Frag}(h:H a=some (.lst xs)):SqL K H a xs:=.inl (.inl h)
def SqT.of{K:W.Frag}(h:H a=some (.tup xs)):SqT K H a xs:=.inl (.inl h)
def Inv.list(I:09)(h:SqL X.K H a xs):∃its,Vals xs its/\PlainL s.heap a its.toArray/\xs.length<=sizeLine:=by
 rcases h with h | ⟨o,its,n,hk,hc,hd,hs,hz,r⟩
 ·obtain ⟨z,its,n,r,e⟩:=h.ok I.hok;exact ⟨its,r,⟨_,n,e,rfl,rfl,rfl⟩,z⟩
 ·refine ⟨its.toList,r,⟨o,n,I.kIn a o hk,hc,hd,by simpa using hs⟩,?_⟩;have e:=r.length;simp only [Vaz] at e;omega
def Inv.tuple(I:09)(h:SqT X.K H a xs):∃its,Vals xs its/\IsTup s.heap a its.toArray/\xs.length<=sizeLine:=by
 rcases h with h | ⟨o,its,n,hk,hc,hs,hz,r⟩
 ·obtain ⟨z,its,r,p⟩:=h.ok I.hok;exact ⟨its,r,p,z⟩
 ·refine ⟨its.toList,r,⟨o,I.kIn a o hk,hc,n,by simpa using hs⟩,?_⟩;have e:=r.length;simp only [Vaz] at e;omega
def Inv.list_inj(I:09)(h:SqL X.K H a xs)(h':SqL X.K H a ys):xs=ys:=by
 obtain ⟨c,r,⟨o,n,e,_,_,d⟩,_⟩:=I.list h;obtain ⟨b,i,⟨j,k,g,_,_,f⟩,_⟩:=I.list h';rw [e] at g;cases g;rw [d] at f;injection f with d1 _
 have:c=b:=by simpa using VaA Array.toList d1
 subst this;exact r.inj i
def Inv.tuple_inj(I:09)(h:SqT X.K H a xs)(h':SqT X.K H a ys):xs=ys:=by
 obtain ⟨c,r,⟨o,e,_,n,d⟩,_⟩:=I.tuple h;obtain ⟨b,i,⟨j,g,_,k,f⟩,_⟩:=I.tuple h';rw [e] at g;cases g;rw [d] at f;injection f with d1 _
 have:c=b:=by simpa using VaA Array.toList d1
 subst this;exact r.inj i
end
abbrev Cx.wish(X:Cx)(E:Value->Shared->Prop):Cx:={ X with xe:=E }
abbrev Cx.nox(X:Cx):Cx:=X.wish λ_ _=>False
def Cx.Ok.wish{X:Cx}(ok:X.Ok)(E):(X.wish E).Ok :=
 ⟨ok.mod,ok.kind,ok.glob,ok.blt,ok.above,ok.inj,ok.has,ok.cab,ok.hd,ok.frames,ok.stk,ok.exf,ok.bs,ok.bsz,ok.noex,ok.exfs,ok.funs,ok.frf⟩
def Cx.Ok.unwish{X:Cx}(ok:(X.wish E).Ok):X.Ok :=
 ⟨ok.mod,ok.kind,ok.glob,ok.blt,ok.above,ok.inj,ok.has,ok.cab,ok.hd,ok.frames,ok.stk,ok.exf,ok.bs,ok.bsz,ok.noex,ok.exfs,ok.funs,ok.frf⟩
section
variable{X:Cx}{pins:List (Addr×Obj)}{σ:St}{H:Hp}{s:Shared}{E:Value->Shared->Prop}
def Inv.wish(I:09)(E):Inv (X.wish E) pins σ H s:=⟨I.ok.wish E,I.os,I.bare,I.base,I.loc,I.cell,I.free,I.freeC,I.pin,I.hok,I.len⟩
def Inv.unwish(I:Inv (X.wish E) pins σ H s):Inv X pins σ H s:=⟨I.ok.unwish,I.os,I.bare,I.base,I.loc,I.cell,I.free,I.freeC,I.pin,I.hok,I.len⟩
end
section
variable{X:Cx}{st:Stmt}{rest:List Stmt}{t u:TS}{e:Expr}{te:TE}{pos:Pos}
def Zo3:TS:=λD σ H=>D.nx σ H
def tSeq(t u:TS):TS:=λD σ H=>t { D with nx:=u D } σ H
def ZmC:PSs X [] Zo3:=λ_ _ σ H _ I h=>VaB ⟨σ,H,I,h⟩
def Zez(h1:PS X st t)(h2:PSs X rest u):PSs X (st::rest) (tSeq t u):=by
 intro a s σ H D I h;refine VaC (thn (h1 a s σ H { D with nx:=u D } I h) λf c q=>?_)
 cases f with
 | next=>
  obtain ⟨b,e,d,q⟩:=q;exact h2 a c b e D d q
 | ret v=>exact q
 | brk=>exact q
 | cont=>exact q
def ZfV(h1:PS X st t):PSs X [st] t:=by
 intro a s σ H D I h;refine VaC (thn (h1 a s σ H D I h) λf b q=>?_);cases f with
 | next=>exact VaB q
 | ret v=>exact q
 | brk=>exact q
 | cont=>exact q
def Inv.quiet(I:09):interactive X.env=false:=by simp [interactive,I.ok.kind]
def Zhz(te:TE):TS:=λD σ H=>te σ H λ_ a=>D.nx σ a
def ZfR(he:PE X e te)(hs:swapsWith e none pos.line X.env=pure false:=by rfl):PS X (.Expr e pos) (Zhz te):=by
 intro a s σ H D I h;exact wpAny_Expr_any (thn (he a s σ H _ I h) λv g zq=>by obtain ⟨x,c,d,f,b⟩:=zq;exact ⟨σ,c,d,b⟩) I.quiet hs
def tRet(te:TE):TS:=λD σ H=>te σ H D.rt
def Zro(he:PE X e te):PS X (.Return (some e) pos) (tRet te):=by
 intro a s σ H D I h;exact wpAny_Return_some (thn (he a s σ H _ I h) λv g zq=>by obtain ⟨x,d,f,b,c⟩:=zq;exact ⟨x,σ,d,f,b,c⟩)
def tIfS(c:TT)(t u:TS):TS:=λD σ H=>c σ H λb a=>if b=true then t D σ a else u D σ a
def Zvn(hc:PT X c tc)(ha:PSs X a t)(hb:PSs X b u):PS X (.If c a b pos) (tIfS tc t u):=by
 intro e s σ H D I h;refine wpAny_If (thn (hc e s σ H _ I h) λd g zq=>?_);obtain ⟨i,j,f⟩:=zq;cases d with
 | true=>exact ha e g σ i D j f
 | false=>exact hb e g σ i D j f
end
abbrev TG:=V->St->Hp->(St->Hp->Prop)->Prop
abbrev TGs:=List V->St->Hp->(St->Hp->Prop)->Prop
def PG(X:Cx)(target:Expr)(t:TG):Prop :=
 ∀a s σ H v u Q,Inv X a σ H s->RelV v u->t v σ H Q ->
  wX X (assign target X.env u) (λ_ d=>∃b c,Inv X a b c d/\Q b c) X.xe s
def PGs(X:Cx)(ts:List Expr)(t:TGs):Prop :=
 ∀a s σ H c d Q,Inv X a σ H s->Vals c d->t c σ H Q ->
  wX X (assignInOrder ((assignEach ts X.env).map (·.2)) d) (λ_ f=>∃b e,Inv X a b e f/\Q b e) X.xe s
section
variable{X:Cx}{pos:Pos}
def ZfB(i:Nat):TG:=λv σ H Q=>Q (σ.set i (some v)) H
def ZoA(hN:X.N.Nodup)(hi:X.N[i]?=some x)(hx:Loc X.env.scope x)(hf:013:=by first | exact .inl rfl | exact .inr rfl | assumption):PG X (.Name x pos) (ZfB i):=by
 intro a s σ H v u Q I r h;exact wpAny_assign_Name (ZdR I hN hi hx r (λc b=>⟨_,H,b,h⟩) hf)
def gNil:TGs:=λa σ H Q=>a=[]/\Q σ H
def ZrL(t:TG)(u:TGs):TGs:=λb σ H Q=>∃v r,b=v::r/\t v σ H λa c=>u r a c Q
def ZsQ:PGs X [] gNil:=by
 intro a s σ H b c Q I r h;obtain ⟨e,h⟩:=h;subst e;cases r;exact assignInOrder_nil ⟨σ,H,I,h⟩
def Zpz(h1:PG X e t)(h2:PGs X es u)(hs:(assignEach (e::es) X.env).map (·.2)=assign e X.env::(assignEach es X.env).map (·.2):=by rfl):PGs X (e::es) (ZrL t u):=by
 intro a s σ H k l Q I r h;obtain ⟨v,j,d,h⟩:=h;subst d;cases r with
 | cons r rr=>
  rw [hs];refine assignInOrder_cons (thn (h1 a s σ H _ _ _ I r h) λ_ c zq=>?_);obtain ⟨b,g,i,f⟩:=zq;exact h2 a c b g _ _ Q i rr f
def gTup(K:W.Frag)(n:Nat)(t:TGs):TG:=λv σ H Q=>∃a b,v=.ref a/\SqT K H a b/\b.length=n/\t b σ H Q
def Zv8(hc:X.calm=true)(h:PGs X es t)(hn:(assignEach es X.env).length=n:=by rfl)(hst:(assignEach es X.env).findIdx? (·.1)=none:=by rfl):PG X (.Tuple es k pos) (gTup X.K n t):=by
 intro c s σ H v u Q I r d;obtain ⟨a,w,g,m,j,d⟩:=d;subst g;cases r;obtain ⟨l,f,q,y⟩:=I.tuple m;refine assign_Tuple_tuple (I.ok.hd hc) q (by simp [hn,<-j,f.length]) hst λx i=>?_;have p:=I.kept (t':=s.toks) λb o e=>i b o (Vai (Vaf e)) e;exact h c _ σ H w _ Q p (by simpa using f) d
def tAsg(te:TE)(g:TG):TS:=λD σ H=>te σ H λx a=>g x σ a D.nx
def Zu8(he:PE X e te)(hg:PG X tg g)(hs:swapsWithSole [tg] e pos.line X.env=pure false:=by rfl)(hw:swappedStores [tg] e X.env=pure none:=by rfl)(h1:(assignEach [tg] X.env).map (·.2)=[assign tg X.env]:=by rfl):PS X (.Assign [tg] e pos) (tAsg te g):=by
 intro a s σ H D I h;refine wpAny_Assign_stores (thn (he a s σ H _ I h) λv f zq=>?_) hs hw;obtain ⟨x,d,i,b,c⟩:=zq;rw [h1];exact thn (hg a f σ d x v _ i b c) λ_ j q=>q
def Zne(hN:X.N.Nodup)(hi:X.N[i]?=some x)(hx:Loc X.env.scope x)(he:PE X e te)(hs:swapsWith e (some (.Name x pos')) pos.line X.env=pure false:=by rfl)(hf:013:=by first | exact .inl rfl | exact .inr rfl | assumption) :
  PS X (.Assign [.Name x pos'] e pos) (tAsg te (ZfB i)):=by
 intro a s σ H D I h;refine wpAny_Assign_Name (thn (he a s σ H _ I h) λv k zq=>?_) hs;obtain ⟨y,f,g,b,c⟩:=zq;exact ZdR g hN hi hx b (λj d=>⟨_,f,d,c⟩) hf
def tPar(i j:Nat)(ta:TA):TS:=λD σ H=>ta σ H λa b=>∃v w,a=[v,w]/\D.nx ((σ.set i (some v)).set j (some w)) b
def Zvx{kt k2 pt2}(hc:X.calm=true)(hN:X.N.Nodup)(hi:X.N[i]?=some x)(hj:X.N[j]?=some y)(hij:i≠j)(hx:X.env.scope.names.lookup x=some .local)(hy:X.env.scope.names.lookup y=some .local)(ha:PA X [a,b] ta)(hw:swappedStores [.Tuple [.Name x px,.Name y py] kt pt] (.Tuple [a,b] k2 pt2) X.env=pure (some [x,y]))(hs:swapsWithSole [.Tuple [.Name x px,.Name y py] kt pt] (.Tuple [a,b] k2 pt2) pos.line X.env=pure false:=by rfl) :
  PS X (.Assign [.Tuple [.Name x px,.Name y py] kt pt] (.Tuple [a,b] k2 pt2) pos) (tPar i j ta):=by
 intro c s σ H D I h;rw [exec_Assign_arm];refine VaD (VaE ?_);rw [hs];refine VaD (VaF ?_);rw [iN 00];refine VaD (Tuple_ (thn (ha _ c s σ H _ I h) λF g zq=>?_));obtain ⟨K,n,E,A,m⟩:=zq;obtain ⟨v,w,u,m⟩:=m;subst u;obtain ⟨f,d,rfl,B,l⟩ : ∃f d,F=[f,d]/\RelV v f/\RelV w d:=by
  cases A with
  | cons p q=>
   cases q with
   | cons p' q'=>
    cases q';exact ⟨_,_,rfl,p,p'⟩
 refine VaG ?_ (by show 2<=sizeLine;decide);have t:Inv X c σ n { g with heap:=g.heap.push { cls:=.type "tuple",data:=.seq [f,d].toArray } }:=E.kept λb o e=>VaH _ e
 rw [hw];refine VaD (VaF ?_);refine VaD (wpAny_rule (VaD (unpackItems_tuple (items:=#[f,d]) (I.ok.hd hc) (IsTup.new g.heap _) λL k=>?_)));have z:=t.kept (t':=g.toks) λb o e=>k b o (Vai (Vaf e)) e;refine VaD (assignInOrder_cons (wpAny_bindName (ZdR z hN hj (.inl hy) l (λJ C=>?_) (.inr hy))));refine assignInOrder_cons (wpAny_bindName (ZdR C hN hi (.inl hx) B (λG r=>assignInOrder_nil (VaF ?_)) (.inr hx)));rw [List.set_comm _ _ (Ne.symm hij)] at r;exact ⟨_,n,r,m⟩
end
section
variable{X:Cx}{pos:Pos}
def ZlH(c:TT)(tb:TS):TS:=λD σ H=>∃W:Nat->St->Hp->Prop,(∃m,W m σ H)/\∀m σ H,W m σ H ->
 c σ H λb d=>if b=true then ∃N:St->Hp->Prop,(∀a f,N a f->∃e,e<m/\W e a f)/\tb { D with nx:=N,ct:=N,bk:=D.nx } σ d else D.nx σ d
def Zqo(hp:PassesOwn (model X.prog X.w) X.A X.env X.xe)(hc:PT X c tc)(hb:PSs X body tb):PS X (.While c body [] pos) (ZlH tc tb):=by
 intro a s σ H D I h;obtain ⟨W,⟨G,F⟩,g⟩:=h;refine wpAny_While (codeAny_whileLoop (λn C=>∃i x,Inv X a i x C/\W n i x) ?_ G ⟨σ,H,I,F⟩);rintro n E ⟨e,y,K,B⟩;refine VaI hp (thn (hc a E e y _ K (g n e y B)) λb J zq=>?_);obtain ⟨t,u,k⟩:=zq;cases b with
 | true=>
  obtain ⟨N,z,k⟩:=k;rw [iP rfl];refine VaI hp (thn (hb a J e t _ u k) λf L l=>?_);cases f with
  | next=>
   obtain ⟨d,j,m,p⟩:=l;obtain ⟨r,q,o⟩:=z d j p;exact ⟨r,q,d,j,m,o⟩
  | cont=>
   obtain ⟨d,j,m,p⟩:=l;obtain ⟨r,q,o⟩:=z d j p;exact ⟨r,q,d,j,m,o⟩
  | brk=>exact l
  | ret v=>exact l
 | false=>
  rw [iN VaJ];exact VaB ⟨e,t,u,k⟩
end
structure It where
 go:Nat->Hp->Prop
 yld:Nat->Hp->V->Hp->Prop
 stop:Nat->Hp->Prop
def FpOk(X:Cx)(pins:List (Addr×Obj))(H:Hp)(b:Addr):Prop :=
 H b=none/\b≠X.env.locals/\b∉X.fs/\(b∈X.ex\/X.s₀.heap.objs.size<=b)/\(∀x c,X.env.cells.lookup x=some c->c≠b)/\∀p∈X.pn++pins,p.1≠b
def Inv.fpOk(I:09)(hb:s.heap.objs.size<=b)(hn:H' b=none):FpOk X pins H' b:=by
 refine ⟨hn,VaK (Vag I.lt hb),I.nofs hb,.inr (Vao I.sz hb),λx c e z=>?_,λp a z=>?_⟩
 ·obtain ⟨v,q⟩:=I.cell x c e;exact aB (Vag q.lt (by rw [z];exact hb)) (Vah _)
 ·exact aB (Vag (Vaf (I.pin p a).1) (by rw [z];exact hb)) (Vah _)
structure Turn(P:Program)(w:World)(K:W.Frag)(tg:Expr)(J:It)(fp:List Addr)(it:Addr)(tn:Nat->Heap->Prop):Prop where
 mem:it∈fp
 obj:∀i h,tn i h->∀b∈fp,∃o,h.get? b=some o/\∀v,o.data≠.cell v
 keep:∀i h h',tn i h->(∀b∈fp,∀o,h.get? b=some o->h'.get? b=some o)->tn i h'
 item:∀(X:Cx),X.prog=P->X.w=w->X.K=K->X.calm=true->∀(i:Nat) (pins:List (Addr×Obj)) (s:Shared) (σ:St) (H:Hp) (E:Value->Shared->Prop),Inv X pins σ H s->(∀b∈fp,FpOk X pins H b)->tn i s.heap->J.go i H ->
  wpAny (model P w) X.A (pyNext (.ref it)) (λr s1=>∃u,r=some u /\
   wpAny (model P w) X.A (letOwnedTupleGo tg (.ref it) u) (λ_ s2=>∃x H',Inv X pins σ H' s2/\RelV x u/\J.yld i H x H'/\tn (i+1) s2.heap/\∀b∈fp,H' b=none) E s1) E s
 done:∀(X:Cx),X.prog=P->X.w=w->X.K=K->X.calm=true->∀(i:Nat) (pins:List (Addr×Obj)) (s:Shared) (σ:St) (H:Hp) (E:Value->Shared->Prop),Inv X pins σ H s->(∀b∈fp,FpOk X pins H b)->tn i s.heap->J.stop i H ->
  wpAny (model P w) X.A (pyNext (.ref it)) (λr s1=>r=none/\Inv X pins σ H s1) E s
 self:∀(A:Around) (i:Nat) (s:Shared) (Q:Value->Shared->Prop) (E:Value->Shared->Prop),tn i s.heap->Q (.ref it) s->wpAny (model P w) A (pyIter (.ref it)) Q E s
abbrev TI:=St->Hp->(It->Hp->Prop)->Prop
def PIE(X:Cx)(pins:List (Addr×Obj))(σ:St)(tg:Expr)(R:It->Hp->Prop)(itv:Value)(s2:Shared):Prop :=
 ∃c d e J a,itv=.ref c/\Inv X pins σ a s2/\Turn X.prog X.w X.K tg J d c e/\e 0 s2.heap/\(∀b∈d,FpOk X pins a b)/\R J a
def PI(X:Cx)(tg iter:Expr)(wi:TI):Prop :=
 ∀a s σ H R,Inv X a σ H s->wi σ H R ->
  wX X (eval iter X.env) (λv b=>wX X (pyIter v) (PIE X a σ tg R) X.xe b) X.xe s
def ZpB(ho:s.heap.get? it=some o)(hc:o.cls=.type n)(hd:o.data=.fields vs)(hn:["enumerate","zip","dict_itemiterator","dict_reverseitemiterator","odict_iterator","itertools.zip_longest","itertools.pairwise"].contains n=false)(hQ:Q () s):wpAny M A (letOwnedTupleGo tg (.ref it) u) Q E s:=by
 unfold letOwnedTupleGo;cases tg<;>first
  | exact VaF hQ
  | (cases u<;>first
    | exact VaF hQ
    | (refine VaD (wpAny_load ho ?_)
       rw [hc,hd];show wpAny M A (if (["enumerate","zip","dict_itemiterator","dict_reverseitemiterator","odict_iterator","itertools.zip_longest","itertools.pairwise"].contains n&&vs[0]?==some (rawInt _))=true then _ else _) Q E s
       rw [iN (by intro h;rw [hn,VaL] at h;cases h)]
       exact VaF hQ))
def Itl(K:W.Frag)(a:Addr):It :=
 ⟨λi H=>∃b x,SqL K H a b/\b[i]?=some x,λi H x c=>c=H/\∀b,SqL K H a b->b[i]?=some x,λi H=>∃b,SqL K H a b/\b.length<=i⟩
def Itt(K:W.Frag)(a:Addr):It :=
 ⟨λi H=>∃b x,SqT K H a b/\b[i]?=some x,λi H x c=>c=H/\∀b,SqT K H a b->b[i]?=some x,λi H=>∃b,SqT K H a b/\b.length<=i⟩
def Itr(lo:Int)(n:Nat):It:=⟨λi _=>i<n,λi H x a=>a=H/\x=.int (lo+i),λi _=>n<=i⟩
def ZnD{P:Program}{w:World}{K:W.Frag}{tg:Expr}(a it):Turn P w K tg (Itl K a) [it] it (λi h=>h.IsListIter it a i) where
 mem:=by simp
 obj:=λi h f b g=>by
  have e:b=it:=by simpa using g
  subst e;obtain ⟨o,e,c,d⟩:=f;exact ⟨o,e,λv z=>by rw [d] at z;cases z⟩
 keep:=λi h M f k=>f.at λo e=>k it 03 o e
 item:=by
  intro X C D t N i j s σ H E I m f q;subst C D t;obtain ⟨Z,x,n,B⟩:=q;obtain ⟨r,G,p,R⟩:=I.list n;obtain ⟨u,Q,O⟩:=G.get B;obtain ⟨F,A,T,y,L,J⟩:=m it 03;refine wpAny_pyNext_list_item f p.isList (by simpa using Q) λM l V=>?_;have Y:=I.turned (t':=s.toks) (λb o g e=>(V.2 b g).trans e) F A y L J;obtain ⟨o,e,c,d⟩:=id l;exact ⟨u,rfl,ZpB e c d 00 ⟨x,H,Y,O,⟨rfl,λys S=>by rw [I.list_inj S n];exact B⟩,l,λb g=>(m b g).1⟩⟩
 done:=by
  intro X C D t N i j s σ H E I m f q;subst C D t;obtain ⟨Z,n,B⟩:=q;obtain ⟨r,G,p,R⟩:=I.list n;obtain ⟨F,A,T,y,L,J⟩:=m it 03;have hl:=G.length;exact wpAny_pyNext_list_end (I.ok.hd N) f p.isList (by simp;omega) λM U=>⟨rfl,I.turned (λb o g e=>U b o g e) F A y L J⟩
 self:=λ_ _ _ _ _ f h=>wpAny_pyIter_listiter f h
def Zmg{P:Program}{w:World}{K:W.Frag}{tg:Expr}(a it):Turn P w K tg (Itt K a) [it] it (λi h=>h.IsTupleIter it a i) where
 mem:=by simp
 obj:=λi h f b g=>by
  have e:b=it:=by simpa using g
  subst e;obtain ⟨o,e,c,d⟩:=f;exact ⟨o,e,λv z=>by rw [d] at z;cases z⟩
 keep:=λi h M f k=>f.at λo e=>k it 03 o e
 item:=by
  intro X C D t N i j s σ H E I m f q;subst C D t;obtain ⟨Z,x,n,B⟩:=q;obtain ⟨r,G,p,R⟩:=I.tuple n;obtain ⟨u,Q,O⟩:=G.get B;obtain ⟨F,A,T,y,L,J⟩:=m it 03;refine wpAny_pyNext_tuple_item f (p) (by simpa using Q) λM l V=>?_;have Y:=I.turned (t':=s.toks) (λb o g e=>(V.2 b g).trans e) F A y L J;obtain ⟨o,e,c,d⟩:=id l;exact ⟨u,rfl,ZpB e c d 00 ⟨x,H,Y,O,⟨rfl,λys S=>by rw [I.tuple_inj S n];exact B⟩,l,λb g=>(m b g).1⟩⟩
 done:=by
  intro X C D t N i j s σ H E I m f q;subst C D t;obtain ⟨Z,n,B⟩:=q;obtain ⟨r,G,p,R⟩:=I.tuple n;obtain ⟨F,A,T,y,L,J⟩:=m it 03;have hl:=G.length;exact wpAny_pyNext_tuple_end (I.ok.hd N) f (p) (by simp;omega) λM U=>⟨rfl,I.turned (λb o g e=>U b o g e) F A y L J⟩
 self:=λ_ _ _ _ _ f h=>wpAny_pyIter_tupleiter f h
def Zl7{P:Program}{w:World}{K:W.Frag}{tg:Expr}(it)(lo)(n):Turn P w K tg (Itr lo n) [it] it (λi h=>IsRangeIter h it (lo+(i:Nat)*1) ((n:Int) - (i:Nat)) 1) where
 mem:=by simp
 obj:=λi h a b d=>by
  have e:b=it:=by simpa using d
  subst e
  exact ⟨_,a,λv z=>by
   have C:Data.fields _=Data.cell v:=z
   cases C⟩
 keep:=λi h p a k=>k it 03 _ a
 item:=by
  intro X r u l y i c s σ H E I g a j;subst r u l;obtain ⟨x,q,G,m,B,A⟩:=g it 03;have W:=Walks.range (prog:=X.prog) (w:=X.w) (I.ok.hd y) it lo 1 n;refine W.item i s _ _ j a λv p F L f D=>?_;obtain ⟨t,rfl⟩:=L;have M:Inv X c σ H { s with heap:=p,toks:=F }:=I.turned (λb o d e=>D b o (by simpa using d) e) x q m B A
  refine ⟨_,rfl,ZpB f rfl rfl 00 ⟨.int (lo+i),H,M,⟨t,?_⟩,⟨rfl,rfl⟩,f,λb d=>(g b d).1⟩⟩;rw [Int.mul_one]
 done:=by
  intro X r u l y i c s σ H E I g a j;subst r u l;obtain ⟨x,q,G,m,B,A⟩:=g it 03;exact wpAny_pyNext_range_end (I.ok.hd y) a (by have:n<=i:=j;omega) λp J=>⟨rfl,I.turned (λb o d e=>J b o d e) x q m B A⟩
 self:=λ_ _ _ _ _ a h=>wpAny_pyIter_rangeiter a h
section
variable{X:Cx}{tg:Expr}
def Zlx{pins:List (Addr×Obj)}{σ:St}{H:Hp}{s:Shared}{R:It->Hp->Prop}{E:Value->Shared->Prop}{lo hi:Int}{t u v:Tok}{tk:Nat}(I:09)(h1:-(2^62)<=lo)(h2:lo<2^62)(h3:-(2^62)<=hi)(h4:hi<2^62)(q:R (Itr lo (hi - lo).toNat) H):wX X (pyIter (.ref s.heap.objs.size)) (PIE X pins σ tg R) E { s with heap:=s.heap.push { cls:=.type "range",data:=.fields #[.int lo t,.int hi u,.int 1 v] },toks:=tk }:=by
 refine wpAny_pyIter_range (IsRange.new ..) (small_one h1 h2 h3 h4) ?_;have a:Inv X pins σ H { s with heap:=s.heap.push { cls:=.type "range",data:=.fields #[.int lo t,.int hi u,.int 1 v] },toks:=tk }:=I.kept λb o e=>VaH _ e
 refine ⟨(s.heap.push { cls:=.type "range",data:=.fields #[.int lo t,.int hi u,.int 1 v] }).objs.size,[(s.heap.push { cls:=.type "range",data:=.fields #[.int lo t,.int hi u,.int 1 v] }).objs.size],_,_,H,rfl,
  a.kept λb o e=>VaH _ e,Zl7 _ lo (hi - lo).toNat,?_,λb f=>?_,q⟩
 ·have c:lo+((0:Nat):Int)*1=lo:=by simp
  have d:(((hi - lo).toNat:Nat):Int) - ((0:Nat):Int)=Builtin.Range.rangeSize lo hi 1:=by rw [rangeSize_one];split<;>omega
  rw [c,d];exact VaM _ rfl
 ·have e:b=(s.heap.push { cls:=.type "range",data:=.fields #[.int lo t,.int hi u,.int 1 v] }).objs.size:=by simpa using f
  subst e;exact a.fpOk (VaN _) (a.hok.fresh (VaN _))
def ZtT(ta:TA):TI:=λσ H R=>ta σ H λa b=>∃j,a=[.int j]/\-(2^62)<=j/\j<2^62/\R (Itr 0 j.toNat) b
def ZsP(ta:TA):TI:=λσ H R=>ta σ H λa b=>∃i j,a=[.int i,.int j]/\(-(2^62)<=i/\i<2^62/\-(2^62)<=j/\j<2^62)/\R (Itr i (j - i).toNat) b
def ZmN{a:Expr}{ta:TA}{p pos:Pos}(hg:Gl X "range")(hm:X.mg "range"=none)(ha:PA X [a] ta)(hs:starEach [a] X.env=[(false,eval a X.env)]:=by rfl):PI X tg (.Call (.Name "range" p) [a] [] pos) (ZtT ta):=by
 intro b s σ H R I h;refine Call_ (ZhG I hg hm boot_range (VaO (thn (ha pos b s σ H _ I h) λm i zq=>?_) hs rfl));obtain ⟨k,l,g,f,c⟩:=zq;obtain ⟨j,e,c,d,q⟩:=c;subst e;cases f with
 | cons r rr=>
  cases rr;obtain ⟨t,rfl⟩:=r;exact call_range_1 (Zlx g 000 000 c d (by simpa using q))
def Zox(hg:Gl X "range")(hm:X.mg "range"=none)(ha:PA X [a,b] ta)(hs:starEach [a,b] X.env=[(false,eval a X.env),(false,eval b X.env)]:=by rfl)(hs2:starEach [b] X.env=[(false,eval b X.env)]:=by rfl) :
  PI X tg (.Call (.Name "range" p) [a,b] [] pos) (ZsP ta):=by
 intro c s σ H R I h;refine Call_ (ZhG I hg hm boot_range (VaO (thn (ha pos c s σ H _ I h) λw n zq=>?_) (by rw [hs,hs2]) (by rw [hs2];rfl)));obtain ⟨u,v,m,g,d⟩:=zq;obtain ⟨i,j,e,⟨d,f,k,l⟩,q⟩:=d;subst e;cases g with
 | cons r rr=>
  cases rr with
  | cons r' rr=>
   cases rr;obtain ⟨t,rfl⟩:=r;obtain ⟨o,rfl⟩:=r';exact call_range_2 (Zlx m d f k l q)
def tFor(wi:TI)(g:TG)(tb:TS):TS:=λD σ H=>wi σ H λJ f=>∃W:Nat->Nat->St->Hp->Prop,(∃m,W 0 m σ f)/\∀i m σ H,W i m σ H ->
 (J.stop i H/\D.nx σ H)\/(J.go i H/\∃N:St->Hp->Prop,(∀b a,N b a->∃d,d<m/\W (i+1) d b a)/\∀x a,J.yld i H x a->g x σ a λc e=>tb { D with nx:=N,ct:=N,bk:=D.nx } c e)
def ZlI(fp:List Addr)(h:Heap):List (Addr×Obj):=fp.filterMap λb=>(h.get? b).map λo=>(b,o)
def Zcy(hb:b∈fp)(e:h.get? b=some o):(b,o)∈ZlI fp h:=VaP.mpr ⟨b,hb,by rw [e];rfl⟩
def ZmY(hp:p∈ZlI fp h):p.1∈fp/\h.get? p.1=some p.2:=by
 obtain ⟨b,c,e⟩:=VaP.mp hp;cases q:h.get? b with
 | none=>rw [q] at e;cases e
 | some o=>
  rw [q] at e;have a:=Vac e;subst a;exact ⟨c,q⟩
def Inv.pinned(I:09)(hf:∀b∈fp,FpOk X pins H b)(ho:∀b∈fp,∃o,s.heap.get? b=some o/\∀v,o.data≠.cell v):Inv X (pins++ZlI fp s.heap) σ H s :=
 I.pins_of λp g=>(Vau.mp g).elim (λz=>I.pin p (VaQ _ z)) λz=>by
  obtain ⟨c,e⟩:=ZmY z;obtain ⟨f,h,i,_⟩:=hf p.1 c;obtain ⟨o,a,d⟩:=ho p.1 c;rw [e] at a;cases a;exact ⟨e,f,h,i,d⟩
def Inv.unpinned(I:Inv X (pins++pl) σ H s):Inv X pins σ H s:=I.pins_of λp a=>I.pin p (VaQ _ (Vav _ a))
def ZrA(hp:PassesOwn (model X.prog X.w) X.A X.env X.xe)(hc:X.calm=true)(hi:PI X tg iter wi)(hg:PG X tg g)(hb:PSs X body tb)(hs:∀x,foldedSetIterable iter X.env x=pure x:=by intro _;rfl):PS X (.For tg iter body [] pos) (tFor wi g tb):=by
 intro a s σ H D I h;refine wpAny_For (thn (hi a s σ H _ I h) λv s1 h1=>thn h1 λitv s2 h2=>?_) hs;obtain ⟨it,G,V,J,H2,e,I2,T,Q,Z,W,⟨m0,w0⟩,C⟩:=h2;subst e;have k:∀{y:Hp},(∀b∈G,y b=none)->∀b∈G,FpOk X a y b:=λhn b hb=>⟨hn b hb,(Z b hb).2⟩;refine codeAny_forLoop_any (λn Y=>∃i p y,Inv X a p y Y/\V i Y.heap/\(∀b∈G,y b=none)/\W i n p y) ?_ m0 ⟨0,σ,H2,I2,Q,λb hb=>(Z b hb).1,w0⟩;rintro n s3 ⟨i,j,L,U,E,K,w3⟩;rcases C i n j L w3 with ⟨stop,qn⟩ | ⟨go,N,hN,step⟩
 ·refine VaI hp (thn (T.done X rfl rfl rfl hc i a s3 j L X.xe U (k K) E stop) λr s4 ⟨P,I4⟩=>?_);subst P;exact VaB ⟨j,L,I4,qn⟩
 ·refine VaI hp (thn (T.item X rfl rfl rfl hc i a s3 j L X.xe U (k K) E go) λr s4 zq=>?_);obtain ⟨u,P,h4⟩:=zq;subst P;refine VaI hp (thn h4 λ_ s5 zq=>?_);obtain ⟨x,H5,I5,r5,y5,B,R⟩:=zq;have M:=I5.pinned (k R) (T.obj _ _ B);refine VaI hp (thn (hg _ s5 j H5 x u _ M r5 (step x H5 y5)) λ_ s6 zq=>?_);obtain ⟨O,H6,I6,q6⟩:=zq;refine VaI hp (thn (hb _ s6 O H6 _ I6 q6) λf S z=>?_);have q:∀{c:St} {t:Hp},Inv X (a++ZlI G s5.heap) c t S->N c t->∃m,m<n/\∃i p y,Inv X a p y S/\V i S.heap/\(∀b∈G,y b=none)/\W i m p y:=λ{c t} l F=>by
   obtain ⟨m',hm,w7⟩:=hN c t F;refine ⟨m',hm,i+1,c,t,l.unpinned,T.keep _ _ _ B λb hb o e=>(l.pin (b,o) (VaQ _ (VaQ _ (Zcy hb e)))).1,λb hb=>?_,w7⟩;obtain ⟨o,e,d⟩:=T.obj _ _ B b hb;exact (l.pin (b,o) (VaQ _ (VaQ _ (Zcy hb e)))).2.1
  cases f with
  | next=>obtain ⟨c,t,l,F⟩:=z;exact q l F
  | cont=>obtain ⟨c,t,l,F⟩:=z;exact q l F
  | brk=>obtain ⟨c,t,l,z⟩:=z;exact ⟨c,t,l.unpinned,z⟩
  | ret v=>obtain ⟨x7,c,t,l,r7,z⟩:=z;exact ⟨x7,c,t,l.unpinned,r7,z⟩
end
abbrev R2:=V->V->Hp->VK->Prop
def OpR(X:Cx)(f:Value->Value->Sem Value)(r:R2):Prop :=
 ∀a s σ H x y v u Q,Inv X a σ H s->RelV x v->RelV y u->r x y H Q ->
  wX X (f v u) (EP X a σ Q) X.xe s
def UnR(X:Cx)(f:Value->Sem Value)(r:V->Hp->VK->Prop):Prop :=
 ∀a s σ H x v Q,Inv X a σ H s->RelV x v->r x H Q ->
  wX X (f v) (EP X a σ Q) X.xe s
def ZdA(X:Cx)(f:Value)(r:List V->Hp->VK->Prop):Prop :=
 ∀a s σ H c b Q,Inv X a σ H s->Vals c b->r c H Q ->
  wX X (call f b) (EP X a σ Q) X.xe s
def tOp(r:R2)(ta tb:TE):TE:=λσ H Q=>ta σ H λx b=>tb σ b λy a=>r x y a Q
def tUn(r:V->Hp->VK->Prop)(ta:TE):TE:=λσ H Q=>ta σ H λx a=>r x a Q
def rI(C:Int->Int->Prop)(g:Int->Int->V):R2:=λx y H Q=>∃i j,x=.int i/\y=.int j/\C i j/\Q (g i j) H
def rI0(g:Int->Int->V):R2:=λx y H Q=>∃i j,x=.int i/\y=.int j/\Q (g i j) H
def rU(g:Int->V):V->Hp->VK->Prop:=λx H Q=>∃i,x=.int i/\Q (g i) H
section
variable{X:Cx}{a b c:Expr}{ta tb tc:TE}{pos:Pos}
def binT(ha:PE X a ta)(hb:PE X b tb){pins:List (Addr×Obj)}{s:Shared}{σ:St}{H:Hp}{R:V->V->Hp->Prop}(I:09)(h:ta σ H λx H1=>tb σ H1 λy H2=>R x y H2){Q:Value->Shared->Prop}{f:Value->Value->Sem Value}(hf:∀v u s2 x y H2,Inv X pins σ H2 s2->RelV x v->RelV y u->R x y H2->wX X (f v u) Q X.xe s2) :
  wX X (eval a X.env) (λv s₁=>wX X (eval b X.env) (λu s₂=>wX X (f v u) Q X.xe s₂) X.xe s₁) X.xe s:=by
 refine thn (ha pins s σ H _ I h) λv i zq=>?_;obtain ⟨x,H1,k,d,g⟩:=zq;refine thn (hb pins i σ H1 _ k g) λu s2 zq=>?_;obtain ⟨y,H2,e,j,c⟩:=zq;exact hf v u s2 x y H2 e d j c
def ZwZ(ho:OpR X (binaryOp op) r)(ha:PE X a ta)(hb:PE X b tb):PE X (.BinOp a op b pos) (tOp r ta tb):=by
 intro c s σ H Q I h;exact wpAny_BinOp (binT ha hb I h λv u f x y d e g i q=>ho c f σ d x y v u Q e g i q)
def ZvZ(ho:UnR X (unaryOp op) r)(ha:PE X a ta):PE X (.UnaryOp op a pos) (tUn r ta):=by
 intro b s σ H Q I h;exact UnaryOp_ (thn (ha b s σ H _ I h) λv f zq=>by obtain ⟨x,e,g,c,d⟩:=zq;exact ho b f σ e x v Q g c d)
def opI{f:Value->Value->Sem Value}{C:Int->Int->Prop}{g:Int->Int->Int}(rule:∀(i j:Int) (t u:Tok) (s:Shared) (Q:Value->Shared->Prop) (E:Value->Shared->Prop),C i j->Q (.int (g i j) s.toks) { s with toks:=s.toks+1 }->wX X (f (.int i t) (.int j u)) Q E s) :
  OpR X f (rI C λi j=>.int (g i j)):=by
 intro a s σ H x y v u Q I c d h;obtain ⟨i,j,rfl,rfl,e,q⟩:=h;obtain ⟨t,rfl⟩:=c;obtain ⟨b,rfl⟩:=d;exact rule i j t b s _ _ e ⟨.int (g i j),H,I.tok _,⟨_,rfl⟩,q⟩
def opI0{f:Value->Value->Sem Value}{g:Int->Int->Int}(rule:∀(i j:Int) (t u:Tok) (s:Shared) (Q:Value->Shared->Prop) (E:Value->Shared->Prop),Q (.int (g i j) s.toks) { s with toks:=s.toks+1 }->wX X (f (.int i t) (.int j u)) Q E s) :
  OpR X f (rI0 λi j=>.int (g i j)):=by
 intro a s σ H x y v u Q I b c h;obtain ⟨i,j,rfl,rfl,q⟩:=h;obtain ⟨t,rfl⟩:=b;obtain ⟨d,rfl⟩:=c;exact rule i j t d s _ _ ⟨.int (g i j),H,I.tok _,⟨_,rfl⟩,q⟩
def opB0{f:Value->Value->Sem Value}{g:Int->Int->Bool}(rule:∀(i j:Int) (t u:Tok) (s:Shared) (Q:Value->Shared->Prop) (E:Value->Shared->Prop),Q (.bool (g i j)) s->wX X (f (.int i t) (.int j u)) Q E s) :
  OpR X f (rI0 λi j=>.bl (g i j)):=by
 intro a s σ H x y v u Q I b c h;obtain ⟨i,j,rfl,rfl,q⟩:=h;obtain ⟨t,rfl⟩:=b;obtain ⟨d,rfl⟩:=c;exact rule i j t d s _ _ ⟨.bl (g i j),H,I,rfl,q⟩
def CPow(i j:Int):Prop:=0<=j/\j<=1000000/\i.natAbs<2^64
def Zl9(k):(0:Int)<=2^k:=by
 rw [two_pow_cast];exact Int.natCast_nonneg _
def Zt5:OpR X (binaryOp .Add) (rI0 λi j=>.int (i+j)):=opI0 λ_ _ _ _ _ _ _ q=>add_int q
def ZvP:OpR X (binaryOp .Sub) (rI0 λi j=>.int (i - j)):=opI0 λ_ _ _ _ _ _ _ q=>sub_int q
def ZrR:OpR X (binaryOp .Mod) (rI (λ_ j=>j≠0) λi j=>.int (i.fmod j)):=opI λ_ _ _ _ _ _ _ a q=>mod_int' a q
def Zvb:OpR X (binaryOp .Pow) (rI CPow λi j=>.int (i^j.toNat)):=opI λ_ _ _ _ _ _ _ a q=>pow_int_small a.1 a.2.1 a.2.2 q
def ZwB:OpR X (binaryOp .LShift) (rI CPow λi j=>.int (i*2^j.toNat)):=opI λ_ _ _ _ _ _ _ a q=>lshift_int_small a.1 a.2.1 a.2.2 q
def Zwe:OpR X (binaryOp .RShift) (rI (λ_ j=>0<=j) λi j=>.int (i/2^j.toNat)):=opI λi j _ _ _ _ _ a q=>
 rshift_int a (by rw [Int.fdiv_eq_ediv_of_nonneg i (Zl9 _)];exact q)
def unI{f:Value->Sem Value}{g:Int->Int}(rule:∀(i:Int) (t:Tok) (s:Shared) (Q:Value->Shared->Prop) (E:Value->Shared->Prop),Q (.int (g i) s.toks) { s with toks:=s.toks+1 }->wX X (f (.int i t)) Q E s) :
  UnR X f (rU λi=>.int (g i)):=by
 intro a s σ H x v Q I b h;obtain ⟨i,rfl,q⟩:=h;obtain ⟨t,rfl⟩:=b;exact rule i t s _ _ ⟨.int (g i),H,I.tok _,⟨_,rfl⟩,q⟩
def Zrs:UnR X (unaryOp .USub) (rU λi=>.int (-i)):=unI λ_ _ _ _ _ q=>neg_int q
end
section
variable{X:Cx}{a b c:Expr}{ta tb tc:TE}{pos:Pos}
def ZhY(I:09)(q:Q (.bl k) H)(e:k=k'):EP X pins σ Q (.bool k') s:=by
 subst e;exact ⟨.bl k,H,I,rfl,q⟩
def Zw0:OpR X (compareOp .Lt) (rI0 λi j=>.bl (decide (i<j))):=opB0 λ_ _ _ _ _ _ _ q=>lt_int q
def Zff:OpR X (compareOp .LtE) (rI0 λi j=>.bl (decide (i<=j))):=opB0 λ_ _ _ _ _ _ _ q=>le_int q
def Zub:OpR X (compareOp .Gt) (rI0 λi j=>.bl (decide (j<i))):=opB0 λ_ _ _ _ _ _ _ q=>gt_int q
def ZuO:OpR X (compareOp .GtE) (rI0 λi j=>.bl (decide (j<=i))):=opB0 λ_ _ _ _ _ _ _ q=>ge_int q
def Zn1:OpR X (compareOp .In) (λx y H Q=>∃i j,x=.str i/\y=.str j/\Q (.bl (!(Builtin.Str.occurrences j i 0 j.length 1).isEmpty)) H):=by
 intro a s σ H x y v u Q I b c h;obtain ⟨i,j,rfl,rfl,q⟩:=h;obtain ⟨t,rfl⟩:=b;obtain ⟨d,rfl⟩:=c;exact in_str (ZhY I q rfl)
def Zrg:OpR X (compareOp .Is) (λx y H Q=>y=.non/\Q (.bl (decide (x=.non))) H):=by
 intro a s σ H x y v u Q I b c h;obtain ⟨rfl,q⟩:=h;cases c;refine is_none_gen (ZhY I q ?_);cases x<;>first
  | (cases b;rfl)
  | (obtain ⟨t,rfl⟩:=b;rfl)
def Ztq:OpR X (compareOp .IsNot) (λx y H Q=>y=.non/\Q (.bl (!decide (x=.non))) H):=by
 intro a s σ H x y v u Q I b c h;obtain ⟨rfl,q⟩:=h;cases c;refine isnot_none_gen (ZhY I q ?_);cases x<;>first
  | (cases b;rfl)
  | (obtain ⟨t,rfl⟩:=b;rfl)
def Zjt:OpR X (compareOp .NotIn) (λx y H Q=>∃i j,x=.str i/\y=.str j/\Q (.bl (!(!(Builtin.Str.occurrences j i 0 j.length 1).isEmpty))) H):=by
 intro a s σ H x y v u Q I b c h;obtain ⟨i,j,rfl,rfl,q⟩:=h;obtain ⟨t,rfl⟩:=b;obtain ⟨d,rfl⟩:=c;exact notIn_str (ZhY I q rfl)
def Zdd(b)(h:op≠.In:=by decide)(h2:op≠.NotIn:=by decide):behindInMarks op b=false:=by
 have a:(op==CmpOp.In)=false:=by cases op<;>first | rfl | exact aB rfl h
 have c:(op==CmpOp.NotIn)=false:=by cases op<;>first | rfl | exact aB rfl h2
 cases b<;>simp [behindInMarks,a,c]
def Zkb(ho:OpR X (compareOp op) r)(ha:PE X a ta)(hb:PE X b tb)(hm:behindInMarks op b=false):PE X (.Compare a [op] [b] pos) (tOp r ta tb):=by
 intro c s σ H Q I h;exact wpAny_Compare1 (binT ha hb I h λv u f x y d e g i q=>ho c f σ d x y v u Q e g i q) hm
def Zek(t:TE):TT:=λσ H Q=>t σ H λx a=>∃k,x=.bl k/\Q k a
def Zog(ho:OpR X (compareOp op) r)(ha:PE X a ta)(hb:PE X b tb)(hm:behindInMarks op b=false):PT X (.Compare a [op] [b] pos) (Zek (tOp r ta tb)):=by
 intro d s σ H Q I h
 refine wpAny_isTrue_Compare1 (thn (ha d s σ H _ I h) λv j zq=>?_) hm;obtain ⟨x,t,B,p,q⟩:=zq;refine thn (hb d j σ t _ B q) λu n zq=>?_;obtain ⟨y,g,i,m,f⟩:=zq;refine thn (ho d n σ g x y v u _ i p m f) λc C zq=>?_;obtain ⟨z,l,o,w,k,e,A⟩:=zq
 subst e;cases w;exact Vay ⟨l,o,A⟩
def ZjT(r r':R2)(ta tb tc:TE):TE:=λσ H Q=>ta σ H λx c=>tb σ c λy b=>r x y b λz a=>∃k,z=.bl k /\
 (if k=true then tc σ a λd e=>r' y d e Q else Q (.bl false) a)
def Zqh(ho:OpR X (compareOp op) r)(ho':OpR X (compareOp op') r')(ha:PE X a ta)(hb:PE X b tb)(hc:PE X c tc)(hm:lastMarks [op,op'] [b,c]=false:=by with_unfolding_all rfl):PE X (.Compare a [op,op'] [b,c] pos) (ZjT r r' ta tb tc):=by
 intro f s σ H Q I h
 refine Compare_chain (thn (ha f s σ H _ I h) λv t zq=>?_) hm;obtain ⟨x,G,L,E,F⟩:=zq;refine chain_link (thn (hb f t σ G _ L F) λu D zq=>?_);obtain ⟨y,n,o,i,m⟩:=zq;refine thn (ho f D σ n x y v u _ o E i m) λd p zq=>?_;obtain ⟨z,g,j,J,k,e,l⟩:=zq
 subst e;cases J;refine Vay ?_;cases k with
 | false=>exact ite_ff ⟨.bl false,g,j,rfl,l⟩
 | true=>exact ite_tt (chain_last (thn (hc f p σ g _ j l) λA C zq=>by obtain ⟨w,B,K,q,M⟩:=zq;exact ho' f C σ B y w u A Q K i q M))
def Zp4(ho:OpR X (compareOp op) r)(ho':OpR X (compareOp op') r')(ha:PE X a ta)(hb:PE X b tb)(hc:PE X c tc)(hm:lastMarks [op,op'] [b,c]=false:=by with_unfolding_all rfl):PT X (.Compare a [op,op'] [b,c] pos) (Zek (ZjT r r' ta tb tc)):=by
 intro f s σ H Q I h
 refine isTrue_chain (thn (ha f s σ H _ I h) λv G zq=>?_) hm;obtain ⟨x,O,T,M,N⟩:=zq;refine test_link (thn (hb f G σ O _ T N) λu L zq=>?_);obtain ⟨y,n,o,l,m⟩:=zq;refine thn (ho f L σ n x y v u _ o M l m) λd p zq=>?_;obtain ⟨z,j,i,B,k,e,g⟩:=zq
 subst e;cases B;refine Vay ?_;cases k with
 | false=>
  obtain ⟨k',P,S⟩:=g;cases P;exact ite_ff ⟨j,i,S⟩
 | true=>
  refine ite_tt (test_last (thn (hc f p σ j _ i g) λJ w zq=>?_));obtain ⟨q,U,R,F,D⟩:=zq;refine thn (ho' f w σ U y q u J _ R l F D) λY V zq=>?_;obtain ⟨Z,C,E,A,W,t,K⟩:=zq;subst t;cases A;exact Vay ⟨C,E,K⟩
def ZjV:(sizeLine:Nat)<2^63:=by rw [sizeLine_eq];decide
def Zme:OpR X (binaryOp .Add) (λx y H Q=>∃i j,x=.str i/\y=.str j/\i.length+j.length<=sizeLine/\Q (.str (i++j)) H):=by
 intro a s σ H x y v u Q I c d h;obtain ⟨i,j,rfl,rfl,e,q⟩:=h;obtain ⟨t,rfl⟩:=c;obtain ⟨b,rfl⟩:=d;exact add_str (λb f=>⟨.str (i++j),H,I.tok _,⟨_,rfl⟩,q⟩) e
def vals1(r:Vals [x] us):∃u,us=[u]/\RelV x u:=by
 cases r with
 | cons r1 r2=>cases r2;exact ⟨_,rfl,r1⟩
def vals2(r:Vals [x,y] us):∃u w',us=[u,w']/\RelV x u/\RelV y w':=by
 cases r with
 | cons r1 r2=>
  cases r2 with
  | cons r3 r4=>cases r4;exact ⟨_,_,rfl,r1,r3⟩
def Zqf:ZdA X (.builtin "abs") (λxs H Q=>∃i,xs=[.int i]/\Q (.int (if i<0 then -i else i)) H):=by
 intro a s σ H xs c Q I r h;obtain ⟨i,rfl,q⟩:=h;obtain ⟨u,rfl,t,rfl⟩:=vals1 r;exact call_abs_int λu b=>⟨.int (if i<0 then -i else i),H,I.tok _,⟨_,rfl⟩,q⟩
def Znb(hc:X.calm=true):ZdA X (.builtin "max") (λxs H Q=>∃i j,xs=[.int i,.int j]/\Q (.int (if j>i then j else i)) H):=by
 intro a s σ H xs f Q I r h;obtain ⟨i,j,rfl,q⟩:=h;obtain ⟨u,d,rfl,⟨t,rfl⟩,⟨c,rfl⟩⟩:=vals2 r;refine max_two_ints (I.ok.hd hc) λe b k=>⟨_,H,I.kept k,?_,q⟩;by_cases hj:j>i
 ·rw [iP hj,iP hj];exact ⟨_,rfl⟩
 ·rw [iN hj,iN hj];exact ⟨_,rfl⟩
def Zi1:ZdA X (.type "str") (λxs H Q=>∃i,xs=[.int i]/\i.natAbs.log2<1920/\Q (.str (toString i)) H):=by
 intro a s σ H xs c Q I r h;obtain ⟨i,rfl,b,q⟩:=h;obtain ⟨u,rfl,t,rfl⟩:=vals1 r;exact PySem.P.str_of_int b ⟨.str _,H,I.tok _,⟨_,rfl⟩,q⟩
def LenV(K:W.Frag)(x:V)(H:Hp)(n:Nat):Prop :=
 match x with
 | .str y=>y.length<=sizeLine/\n=y.length
 | .byt y=>y.size<=sizeLine/\n=y.size
 | .ref p=>(∃a,SqL K H p a/\n=a.length)\/∃a,SqT K H p a/\n=a.length
 | _=>False
def ZpF:ZdA X (.builtin "len") (λxs H Q=>∃x n,xs=[x]/\LenV X.K x H n/\Q (.int n) H):=by
 intro i s σ H xs o Q I r h;obtain ⟨x,n,rfl,e,q⟩:=h;obtain ⟨u,rfl,g⟩:=vals1 r;have m:=ZjV;have l:=sizeLine_eq;cases x with
 | str y=>
  obtain ⟨t,rfl⟩:=g;obtain ⟨j,b⟩ : y.length<=sizeLine/\n=y.length:=e;subst b;exact len_str 000 ⟨.int _,H,I.tok _,⟨_,rfl⟩,q⟩
 | byt y=>
  obtain ⟨t,rfl⟩:=g;obtain ⟨j,b⟩ : y.size<=sizeLine/\n=y.size:=e;subst b;exact W.len_bytes 000 ⟨.int _,H,I.tok _,⟨_,rfl⟩,q⟩
 | ref p=>
  cases g;have b:=e;rcases b with ⟨xs,hx,b⟩ | ⟨xs,hx,b⟩
  ·subst b;obtain ⟨d,c,f,k⟩:=I.list hx;have a:=c.length;exact Calls.call_len_list f.isList (by simp only [VaR];omega) ⟨.int xs.length,H,I.tok _,⟨_,by simp only [VaR];rw [a]⟩,q⟩
  ·subst b;obtain ⟨d,c,f,k⟩:=I.tuple hx;have a:=c.length;exact len_tuple f (by simp only [VaR];omega) ⟨.int xs.length,H,I.tok _,⟨_,by simp only [VaR];rw [a]⟩,q⟩
 | _=>exact (e).elim
end
structure ObjM(h:Heap)(x dx C:Addr)(mA:001):Prop where
 obj:h.get? x=some (W.instObj C dx)
 ns:h.Ns1 dx mA
 ne:dx≠x
def Zjs{h:Heap}(n:h.Ns1 dx mA):∃od,h.get? dx=some od/\∀name,W.lookIn name od=some (mA name):=by
 obtain ⟨o,c,l,k,d,i,_,j⟩:=n;refine ⟨o,k,λname=>?_⟩;have e:=j name;unfold nsFind findBy at e;rw [<-Array.find?_toList] at e;unfold W.lookIn;rw [d];dsimp only;split
 ·rename_i y q;rw [q] at e;exact VaA some e
 ·rename_i q;rw [q] at e;have a:c.toList.any (·.refKey)=false:=by
   rw [List.any_eq_false];intro y f;obtain ⟨z,t,b⟩:=i y (Array.mem_toList_iff.mp f);simp [DictEntry.refKey,b]
  have g:¬c.toList.any (·.refKey)=true:=by rw [a];exact VaJ
  rw [iN g];exact VaA some e
def ObjM.look(I:ObjM h x dx C mA):∃od,W.InstAt h x (W.instObj C dx) C (some od)/\∀name,W.lookIn name od=some (mA name) :=
 let ⟨od,ho,hl⟩:=Zjs I.ns
 ⟨od,⟨I.obj,rfl,rfl,ho⟩,hl⟩
section
variable{prog:Program}{w:World}{A:Around}{E:Value->Shared->Prop}{s:Shared}{K:W.Frag}{x dx C f:Addr}{mA:Str->Option Value}{name:Str}{v:Value}
def Zr2(X:K.In s.heap)(I:ObjM s.heap x dx C mA)(hg:W.plainGet K C name=true)(hh:W.hasDictIn K C=true)(ha:W.findIn K 05 name=some none)(hv:mA name=some v)(hv':W.handedIn v=true)(h:Q v { s with toks:=s.toks+1 }) :
  wpAny 08 A (getAttr (.ref x) name expr) Q E s:=by
 obtain ⟨b,J,a⟩:=I.look;exact W.get_value X J (W.plainGet_of hg).1 (W.findObj_own hh ha rfl (by rw [a,hv])) hv' h
def ZqG(X:K.In s.heap)(I:ObjM s.heap x dx C mA)(hg:W.plainGet K C name=true)(hf:W.findIn K 05 name=some (some (.ref f)))(ht:W.isFn K (.ref f)=true)(hv:mA name=none)(h:Q (.ref f,[.ref x]) s) :
  wpAny 08 A (getMethod (.ref x) name pl) Q E s:=by
 obtain ⟨a,J,b⟩:=I.look;exact W.method_fn X J (W.plainGet_of hg).1 (W.plainGet_of hg).2 hf (VaS.mp ht) (by show (W.lookIn name a).map (·.isSome)=some false;rw [b,hv];rfl) h
def Zso(X:K.In s.heap)(I:ObjM s.heap x dx C mA)(hs:W.findIn K 05 "__setattr__"=some (some (.builtin "object.__setattr__")))(hp:W.plainOver K C=true)(ht:W.takerIn K C name=some none)(hh:W.hasDictIn K C=true)(hw:PySem.Within mA ns)(hsz:ns.length<=sizeLine)(h:∀h',ObjM h' x dx C (λy=>if y=name then some v else mA y)->Heap.SameBut dx s.heap h'->Q () { s with heap:=h',toks:=s.toks+2 }) :
  wpAny 08 A (setAttr (.ref x) name v) Q E s:=by
 obtain ⟨n,J,o⟩:=I.look;refine W.set_plain X J hs (W.osa_open X J hp ht λb=>?_);obtain ⟨p,i,g⟩:=W.any_some hh;have j:=I.obj;refine VaD (VaF (VaD (VaD (VaT j (VaD (W.Looks.here (W.looks_clsIn X i) ?_))))));rw [g];refine VaF (VaD (VaF (VaD ?_)));refine wpAny_nsSet1 I.ns λh' c a=>?_;obtain ⟨m,k,l,f,e,d⟩:=c.count (PySem.Within.cons name v hw);refine VaD (wpAny_lookBehind f (by rw [e];exact pastItsLine_dict (Vao d (by rw [VaU];omega))) ?_);exact VaF (h _ ⟨(a.2 _ (Ne.symm I.ne)).trans I.obj,c,I.ne⟩ a)
def Zp1(X:K.In s.heap)(hm:W.makesIn K C=true)(hi:W.findIn K 05 "__init__"=some (some (.ref f)))(hf:W.typeIn K (.ref f)=some (.type "function")) (h:codeAny 08 (A.under (.builtin "type.__call__" ⟨.ref C::vs,kw⟩)) (.call (.ref f) ⟨.ref (s.heap.objs.size+1)::vs,kw⟩) (W.InitBack (s.heap.objs.size+1) R)
   { s with heap:=(s.heap.push W.emptyDict).push (W.instObj C s.heap.objs.size) }) :
  codeAny 08 A (.call 05 ⟨vs,kw⟩) R s:=by
 obtain ⟨c,g,d,t,b⟩:=s;exact W.make_core (W.makes_of X hm) (VaV X hi) (λa=>W.bind_fn X a hf) (.inl rfl) h
end
def putF(f:Str)(v:V):List (Str×V)->List (Str×V)
 | []=>[(f,v)]
 | (g,x)::r=>if g=f then (g,v)::r else (g,x)::putF f v r
def ZgW(f g)(v):∀fs,(putF f v fs).lookup g=if g=f then some v else fs.lookup g
 | []=>by
  show List.lookup g [(f,v)]=_;by_cases h:g=f
  ·have a:(g==f)=true:=VaS.mpr h;simp only [List.lookup,a,iP h]
  ·have a:(g==f)=false:=Vae.mpr h;simp only [List.lookup,a,iN h]
 | (k,x)::r=>by
  have ih:=ZgW f g v r;rw [show putF f v ((k,x)::r)=(if k=f then (k,v)::r else (k,x)::putF f v r) from rfl]
  by_cases hk:k=f
  ·rw [iP hk];by_cases h:g=k
   ·have a:(g==k)=true:=VaS.mpr h;simp only [List.lookup,a,iP (h.trans hk)]
   ·have a:(g==k)=false:=Vae.mpr h;simp only [List.lookup,a,iN (λe:g=f=>h (e.trans hk.symm))]
  ·rw [iN hk];by_cases h:g=k
   ·have a:(g==k)=true:=VaS.mpr h;simp only [List.lookup,a,iN (λe:g=f=>hk (h.symm.trans e))]
   ·have a:(g==k)=false:=Vae.mpr h;simp only [List.lookup,a];exact ih
def ZgI(f)(v):∀fs,f∈(putF f v fs).map (·.1)/\∀g,g∈fs.map (·.1)->g∈(putF f v fs).map (·.1)
 | []=>⟨by simp [putF],λg h=>by simp at h⟩
 | (k,x)::r=>by
  obtain ⟨b,a⟩:=ZgI f v r;rw [show putF f v ((k,x)::r)=(if k=f then (k,v)::r else (k,x)::putF f v r) from rfl]
  by_cases hk:k=f
  ·rw [iP hk];subst hk;exact ⟨by simp,λg h=>by simpa using h⟩
  ·rw [iN hk];refine ⟨?_,λg h=>?_⟩
   ·rw [VaW];exact Var _ b
   ·rw [VaW] at h ⊢;rcases Vat.mp h with e | e
    ·exact Vat.mpr (.inl e)
    ·exact Var _ (a g e)
def Zhg(f)(v):∀fs,(putF f v fs).length<=fs.length+1
 | []=>by simp [putF]
 | (k,x)::r=>by
  have ih:=Zhg f v r;rw [show putF f v ((k,x)::r)=(if k=f then (k,v)::r else (k,x)::putF f v r) from rfl]
  by_cases hk:k=f
  ·rw [iP hk,VaU,VaU];omega
  ·rw [iN hk,VaU,VaU];omega
def RelO.some_of(r:RelO (some v) o):∃u,o=some u/\RelV v u:=by
 cases o with
 | none=>exact (r).elim
 | some u=>exact ⟨u,rfl,r⟩
def RelO.none_of(r:RelO none o):o=none:=by
 cases o with
 | none=>rfl
 | some u=>exact (r).elim
def Zi5(r:RelV v u):W.handedIn u=true:=by
 cases v with
 | non=>cases (r);rfl
 | bl b=>cases (r);rfl
 | int i=>obtain ⟨t,e⟩:=(r);cases e;rfl
 | str x=>obtain ⟨t,e⟩:=(r);cases e;rfl
 | byt b=>obtain ⟨t,e⟩:=(r);cases e;rfl
 | flt b=>obtain ⟨t,e⟩:=(r);cases e;rfl
 | ref a=>cases (r);rfl
 | ty n=>cases (r);rfl
section
variable{P:Program}{w:World}{H H':Hp}{h h':Heap}{a C dx:Addr}{fs fs':List (Str×V)}
def ZiT(hok:HOk P w H h)(e:H a=some (.ins C dx fs)):∃mA,ObjM h a dx C mA/\(∀f,RelO (fs.lookup f) (mA f))/\PySem.Within mA (fs.map (·.1))/\fs.length<=1000/\H dx=some (.own a):=by
 obtain ⟨d,z,c,b,mA,n,r,q⟩:=(hok a _ e);exact ⟨mA,⟨b,n,c⟩,r,q,z,d⟩
end
structure Cls(K:W.Frag)(C:Addr):Prop where
 pg:W.plainGet K C Str.empty=true
 hd:W.hasDictIn K C=true
 po:W.plainOver K C=true
 sa:W.findIn K 05 "__setattr__"=some (some (.builtin "object.__setattr__"))
def Cls.get{K:W.Frag}{C:Addr}(c:Cls K C)(f):W.plainGet K C f=true:=c.pg
def Zfg(K:W.Frag)(C:Addr)(f:Str):Prop:=W.findIn K 05 f=some none
def Zfg.taker{K:W.Frag}{C:Addr}{f:Str}(n:Zfg K C f):W.takerIn K C f=some none:=by
 unfold W.takerIn;rw [show W.findIn K 05 f=some none from n];rfl
structure Meth(K:W.Frag)(C:Addr)(m:Str)(f:Addr):Prop where
 at_:W.findIn K 05 m=some (some (.ref f))
 fn:W.isFn K (.ref f)=true
 kp:W.keepIn K (.ref f)=true
section
variable{X:Cx}{pins:List (Addr×Obj)}{σ:St}{H:Hp}{s:Shared}{a C dx:Addr}{fs:List (Str×V)}{f:Str}{v:V}{A:Around}{E:Value->Shared->Prop}
def ZlV(I:09)(e:H a=some (.ins C dx fs))(c:Cls X.K C)(n:Zfg X.K C f)(l:fs.lookup f=some v)(h:∀u s',Inv X pins σ H s'->RelV v u->Q u s'):wpAny (model X.prog X.w) A (getAttr (.ref a) f b) Q E s:=by
 obtain ⟨i,O,r,_,_,_⟩:=ZiT I.hok e;obtain ⟨u,g,d⟩:=RelO.some_of (by rw [<-l];exact r f);exact Zr2 I.kIn O (c.get f) c.hd n g (Zi5 d) (h u _ (I.tok _) d)
def Zmx(I:09)(e:H a=some (.ins C dx fs))(c:Cls X.K C)(k:Meth X.K C m g)(l:fs.lookup m=none)(h:Q (.ref g,[.ref a]) s):wpAny (model X.prog X.w) A (getMethod (.ref a) m pl) Q E s:=by
 obtain ⟨d,O,r,_,_,_⟩:=ZiT I.hok e;have b:=RelO.none_of (by rw [<-l];exact r m);exact ZqG I.kIn O (c.get m) k.at_ k.fn b h
def Zl4(I:09)(e:H a=some (.ins C dx fs))(c:Cls X.K C)(n:Zfg X.K C f)(hl:fs.length<1000)(ry:RelV y u)(h:∀s',Inv X pins σ (upd H a (.ins C dx (putF f y fs))) s'->Q () s'):wpAny (model X.prog X.w) A (setAttr (.ref a) f u) Q E s:=by
 obtain ⟨j,O,r,i,_,k⟩:=ZiT I.hok e;have v:(fs.map (·.1)).length<=sizeLine:=by rw [VaX,sizeLine_eq];omega
 refine Zso I.kIn O c.sa c.po n.taker c.hd i v λx d t=>h _ ?_;have l:∃o,x.get? dx=some o:=let ⟨o,_,_,e',_⟩:=d.ns;⟨o,e'⟩;refine I.write (by rw [e];exact True.intro) (.inr k) (λb q p z=>(t.2 b p).trans z) l ?_;refine ⟨by rw [Zaf O.ne];exact k,?_,O.ne,d.obj,_,d.ns,λg=>?_,λg m=>?_⟩
 ·have:=Zhg f y fs;omega
 ·show RelO ((putF f y fs).lookup g) (if g=f then some u else j g)
  rw [ZgW];by_cases q:g=f
  ·rw [iP q,iP q];exact ry
  ·rw [iN q,iN q];exact r g
 ·by_cases q:g=f
  ·rw [q];exact (ZgI f y fs).1
  ·refine (ZgI f y fs).2 g (i g λz=>m ?_);show (if g=f then some u else j g)=none
   rw [iN q];exact z
def Inv.made(I:09):Inv X pins σ (upd (upd H s.heap.objs.size (.own (s.heap.objs.size+1))) (s.heap.objs.size+1) (.ins C s.heap.objs.size []))
  { s with heap:=(s.heap.push W.emptyDict).push (W.instObj C s.heap.objs.size) }:=by
 have a:(s.heap.push W.emptyDict).get? s.heap.objs.size=some W.emptyDict:=VaM s.heap rfl;have h:((s.heap.push W.emptyDict).push (W.instObj C s.heap.objs.size)).get? (s.heap.objs.size+1)=some (W.instObj C s.heap.objs.size):=by
  have:=VaM (s.heap.push W.emptyDict) (o:=W.instObj C s.heap.objs.size) rfl;rwa [VaY] at this
 have g:(s.heap.push W.emptyDict).Ns s.heap.objs.size (λ_=>none):=⟨W.emptyDict,#[],_,a,rfl,(λe f=>aB f 03),λ_=>rfl⟩;have i:=I.laid (o:=.own (s.heap.objs.size+1)) (t':=s.toks) (λb u q=>VaH _ q) (VaN _) ⟨_,a⟩;refine i.laid (λb u q=>VaH _ q) (Nat.le_of_eq (VaY _ _)) ?_;have c:s.heap.objs.size≠s.heap.objs.size+1:=Vai (VaZ _);refine ⟨by rw [Zaf c,Zah],Va0 _,c,h,λ_=>none,(Heap.Ns1.of_empty g).at λo q=>VaH _ q,λ_=>True.intro,λy d=>aB rfl d⟩
def ZnE(hb:attributeBase e f env (eval e env)=eval e env)(h:wpAny 08 A (eval e env) (λo s₁=>wpAny 08 A (getAttr o f true) Q E s₁) E s):wpAny 08 A (eval (.Attribute e f pos) env) Q E s :=
 Attribute_any_ h (by rw [arm_eval_Attribute,hb])
end
def tFld(K:W.Frag)(ta:TE)(f:Str):TE:=λσ H Q=>ta σ H λx c=>∃a C d b v,x=.ref a/\c a=some (.ins C d b)/\Cls K C/\Zfg K C f/\b.lookup f=some v/\Q v c
def sFld(K:W.Frag)(ta tv:TE)(f:Str):TS:=λD σ H=>tv σ H λy e=>ta σ e λx c=>∃a C d b,x=.ref a/\c a=some (.ins C d b)/\Cls K C/\Zfg K C f/\b.length<1000 /\
 D.nx σ (upd c a (.ins C d (putF f y b)))
section
variable{X:Cx}{o e value:Expr}{f:Str}{pos pos' tpos:Pos}{ta tv:TE}
def Zwt(he:PE X e ta)(hb:attributeBase e f X.env (eval e X.env)=eval e X.env):PE X (.Attribute e f pos) (tFld X.K ta f):=by
 intro b s σ H Q I h;refine ZnE hb (thn (he b s σ H _ I h) λu s1 zq=>?_);obtain ⟨x,H1,I1,rx,a,C,dx,fs,v,ex,ea,c,n,l,q⟩:=zq;subst ex;obtain rfl:u=Value.ref a:=rx;exact ZlV I1 ea c n l λj i g d=>⟨v,H1,g,d,q⟩
def Zum(ha:PE X o ta)(hv:PE X value tv)(hs:swapsWith value (some (.Attribute o f pos')) pos.line X.env=pure false):PS X (.Assign [.Attribute o f pos'] value pos) (sFld X.K ta tv f):=by
 intro b s σ H D I h;refine plainObj_wpAny_Assign_Attribute (thn (hv b s σ H _ I h) λu e zq=>?_) hs;obtain ⟨y,g,j,i,q⟩:=zq;refine thn (ha b e σ g _ j q) λov s2 zq=>?_;obtain ⟨x,H2,I2,rx,a,C,dx,fs,ex,ea,c,n,l,q2⟩:=zq;subst ex;obtain rfl:ov=Value.ref a:=rx;exact Zl4 I2 ea c n l i λk d=>⟨σ,_,d,q2⟩
end
section
variable{X:Cx}{pins:List (Addr×Obj)}{σ:St}{H:Hp}{s:Shared}{A:Around}{E:Value->Shared->Prop}{Q:Value->Shared->Prop}{c:Value}{b:Bool}
inductive TyOf(K:W.Frag)(H:Hp):V->Value->Prop where
 | non:TyOf K H .non (.type "NoneType")
 | bl (x:Bool):TyOf K H (.bl x) (.type "bool")
 | int (i:Int):TyOf K H (.int i) (.type "int")
 | str (x:Str):TyOf K H (.str x) (.type "str")
 | flt (x:UInt64):TyOf K H (.flt x) (.type "float")
 | lst {a:Addr} {xs:List V} (e:H a=some (.lst xs)):TyOf K H (.ref a) (.type "list")
 | frz {a:Addr} {o:Obj} {xs:List V} (e:H a=some (.frz o (.lst xs))):TyOf K H (.ref a) (.type "list")
 | tup {a:Addr} {xs:List V} (e:H a=some (.tup xs)):TyOf K H (.ref a) (.type "tuple")
 | dK {a:Addr} {kvs:List (Key×V)} (e:H a=some (.dK kvs)):TyOf K H (.ref a) (.type "dict")
 | dT {a:Addr} {kvs:List (List Key×V)} (e:H a=some (.dT kvs)):TyOf K H (.ref a) (.type "dict")
 | ins {a C dx:Addr} {fs:List (Str×V)} (e:H a=some (.ins C dx fs)) (cl:Cls K C) (ha:W.findIn K 05 "__class__"=some (some 008))
   (hn:W.specialIn K 008 "__get__"=some (some (.builtin "getset_descriptor.__get__"))) (htk:W.takesIn K 008=some true)
   (hm:W.mroIn K C (.type "object")=some true):TyOf K H (.ref a) 05
def Zfj(I:09)(rx:RelV x u)(ty:TyOf X.K H x t)(e:W.kitOne X.K t c=some b)(h:∀tk,Q (.bool b) { s with toks:=tk }) :
  wpAny (model X.prog X.w) A (call (.builtin "isinstance") [u,c]) Q E s:=by
 cases ty with
 | non=>cases (show u=Value.none from rx);exact Va1 W.kitx_none I.kIn True.intro e (λz=>nomatch z) h
 | bl y=>cases (rx);exact Va1 W.kitx_bool I.kIn True.intro e (λz=>nomatch z) h
 | int i=>obtain ⟨t,q⟩:=(rx);cases q;exact Va1 W.kitx_int I.kIn True.intro e (λz=>nomatch z) h
 | str y=>obtain ⟨t,q⟩:=(rx);cases q;exact Va1 W.kitx_str I.kIn True.intro e (λz=>nomatch z) h
 | flt y=>obtain ⟨t,q⟩:=(rx);cases q;exact Va1 W.kitx_float I.kIn True.intro e (λz=>nomatch z) h
 | @lst a g ea=>
  cases (rx);obtain ⟨_,_,n,_,d⟩:=(I.hok a _ ea);exact Va1 W.kitx_list I.kIn ⟨_,d,rfl⟩ e (λz=>nomatch z) h
 | @frz a ob g ea=>
  cases (rx);obtain ⟨_,_,_,n,_,d⟩:=(I.hok a _ ea);exact Va1 W.kitx_list I.kIn ⟨_,d,rfl⟩ e (λz=>nomatch z) h
 | @tup a g ea=>
  cases (rx);obtain ⟨_,_,_,p⟩:=(I.hok a _ ea);obtain ⟨o,d,f,_⟩:=p;exact Va1 W.kitx_tuple I.kIn ⟨o,d,f⟩ e (λz=>nomatch z) h
 | @dK a kvs ea=>
  cases (rx);obtain ⟨_,_,l,_,p⟩:=(I.hok a _ ea);obtain ⟨o,j,k,d,f,_⟩:=p;exact Va1 W.kitx_dict I.kIn ⟨o,d,f.1⟩ e (λz=>nomatch z) h
 | @dT a kvs ea=>
  cases (show u=Value.ref a from rx);obtain ⟨_,_,g,_,o,j,k,d,f,_⟩:=(I.hok a _ ea);exact Va1 W.kitx_dict I.kIn ⟨o,d,f.1⟩ e (λz=>nomatch z) h
 | @ins a C dx fs ea cl ha hn htk hm=>
  cases (show u=Value.ref a from rx);obtain ⟨r,O,_⟩:=ZiT I.hok ea;obtain ⟨m,J,_⟩:=O.look;exact Va1 (W.kitx_own (cl.get _) cl.hd ha hn htk hm) I.kIn J e (λz=>nomatch z) h
end
structure Room(k:Nat)(A:Around):Prop where
 hd:A.handled=none
 dp:A.depth+3*k+5<recursionLimit
 un:A.units+16*k+200<cLine
def Room.mono(r:Room k A)(h:j<=k):Room j A:=⟨r.hd,by have:=r.dp;omega,by have:=r.un;omega⟩
def Room.deeper(r:Room (k+1) A)(env):Room k (A.deeper env) :=
 ⟨r.hd,by have:=r.dp;show A.depth+1+3*k+5<_;omega,by have:=r.un;show A.units+3+16*k+200<_;omega⟩
def Zmq{A:Around}:(A.under (.builtin "type.__call__" ⟨.ref C::us,kw⟩)).depth=A.depth+1:=by
 first | rfl | simp [Around.under,Code.weight,Code.isCreation,Code.isGuard,Code.isCaller,Code.frames,Code.isFrame,guardIds]
def Zma{A:Around}:(A.under (.builtin "type.__call__" ⟨.ref C::us,kw⟩)).units=A.units+1:=by
 first | rfl | simp [Around.under,Code.cUnits,Code.frames,Code.isFrame]
def Room.make(r:Room (k+1) A)(C)(us)(kw):Room k (A.under (.builtin "type.__call__" ⟨.ref C::us,kw⟩)) :=
 ⟨r.hd,by have:=r.dp;rw [Zmq];omega,by have:=r.un;rw [Zma];omega⟩
def Room.depth(r:Room k A):A.depth<recursionLimit:=by have:=r.dp;omega
def Room.units(r:Room k A):A.units+64<cLine:=by have:=r.un;omega
def tNil:TA:=λ_ H Q=>Q [] H
def ZdX(ta:TE)(tr:TA):TA:=λσ H Q=>ta σ H λx c=>tr σ c λa b=>Q (x::a) b
section
variable{X:Cx}{e:Expr}{es:List Expr}{te:TE}{t:TA}{pos:Pos}
def ZdV:PA X [] tNil:=λ_ _ _ _ H Q I h=>Calls.spliced_nil ⟨[],H,I,.nil,h⟩
def Zck(ha:PE X e te)(hr:PA X es t)(hs:011:=by rfl):PA X (e::es) (ZdX te t):=by
 intro b a s σ H Q I h;rw [hs];refine Calls.spliced_cons (thn (ha a s σ H _ I h) λu g zq=>?_);obtain ⟨x,m,n,k,l⟩:=zq;exact thn (hr b a g σ m _ n l) λp o ⟨j,d,f,i,c⟩=>⟨x::j,d,f,.cons k i,c⟩
def tTup(t:TA):TE:=λσ H Q=>t σ H λa b=>a.length<=sizeLine/\∀p,b p=none->Q (.ref p) (upd b p (.tup a))
def tLst(t:TA):TE:=λσ H Q=>t σ H λa b=>a.length<=sizeLine/\∀p,b p=none->Q (.ref p) (upd b p (.lst a))
def Zvd{x1}(h:PA X es t):PE X (.Tuple es x1 pos) (tTup t):=by
 intro a s σ H Q I g;refine wpAny_Tuple_spliced (thn (h pos a s σ H _ I g) λk c zq=>?_);obtain ⟨j,i,d,r,z,q⟩:=zq;refine ⟨by rw [<-r.length];exact z,?_⟩;have f:=d.hok.fresh (VaN _);refine ⟨.ref c.heap.objs.size,upd i c.heap.objs.size (.tup j),d.laid (λb u e=>VaH _ e) (VaN _) ?_,rfl,q _ f⟩;exact ⟨z,k,r,⟨_,VaM _ rfl,rfl,_,rfl⟩⟩
def Zj1(h:PA X es t):PE X (.List es pos) (tLst t):=by
 intro a s σ H Q I g;refine wpAny_List_spliced (thn (h pos a s σ H _ I g) λk c zq=>?_);obtain ⟨j,i,d,r,z,q⟩:=zq;refine ⟨by rw [<-r.length];exact z,?_⟩;have f:=d.hok.fresh (VaN _);refine ⟨.ref c.heap.objs.size,upd i c.heap.objs.size (.lst j),d.laid (λb u e=>VaH _ e) (VaN _) ?_,rfl,q _ f⟩;exact ⟨z,k,0,r,VaM _ rfl⟩
end
abbrev Sp:=List V->Hp->VK->XK->Prop
abbrev CXT:=List Env->Hp->Shared->XK->Value->Shared->Prop
structure Env0(P:Program)(w:World)(K:W.Frag)(mg:001)(base:Heap)(A:Around)(outer:List Env)(s:Shared)(H:Hp):Prop where
 frames:A.frames=some outer
 mod:Mod K mg base
 bs:∀b o,base.get? b=some o->s.heap.get? b=some o/\H b=none
 bsz:base.objs.size<=s.heap.objs.size
 funs:s.heap.FunFrames base outer
 frf:∀b∈frs outer,H b=none
 hok:HOk P w H s.heap
 bare:AllBare s.gens
def CE(outer:List Env)(P:Program)(w:World)(H:Hp)(s:Shared)(Q:VK)(u:Value)(s':Shared):Prop :=
 ∃v a,s'.os=s.os/\AllBare s'.gens/\Un (frs outer) [] H a s.heap s'.heap/\HOk P w a s'.heap/\RelV v u/\Q v a
def CR(CX:CXT)(outer:List Env)(P:Program)(w:World)(H:Hp)(s:Shared)(Q:VK)(E:XK)(r:Result)(s':Shared):Prop :=
 match r with
 | .ok (.ret u)=>CE outer P w H s Q u s'
 | .ok _=>False
 | .error e=>CX outer H s E e s'
structure FnOk(P:Program)(w:World)(K:W.Frag)(mg:001)(base:Heap)(CX:CXT)(k:Nat)(f:Addr)(fd:FuncData)(ps:List Str)(sp:Sp):Prop where
 len:∀vs H Q E,sp vs H Q E->vs.length=ps.length
 run:∀(A:Around) (outer:List Env) (s:Shared) (H:Hp) (args:Args) (us:List Value) (vs:List V) (Q:VK) (E:XK),Room k A->Env0 P w K mg base A outer s H->BindsTo s fd args (ps.zip us)->Vals vs us->sp vs H Q E ->
  codeAny (model P w) A (.call (.ref f) args) (CR CX outer P w H s Q E) s
def FnOk.mono{P:Program}{w:World}{K:W.Frag}{mg:001}{base:Heap}{CX:CXT}{j k:Nat}{f:Addr}{fd:FuncData}{ps:List Str}{sp:Sp}(F:FnOk P w K mg base CX j f fd ps sp)(h:j<=k) :
  FnOk P w K mg base CX k f fd ps sp:=⟨F.len,λA a s H b e c Q E d=>F.run A a s H b e c Q E (d.mono h)⟩
def FnOk.imp{P:Program}{w:World}{K:W.Frag}{mg:001}{base:Heap}{CX:CXT}{k:Nat}{f:Addr}{fd:FuncData}{ps:List Str}{sp sp':Sp}(F:FnOk P w K mg base CX k f fd ps sp)(h:∀vs H Q E,sp' vs H Q E->sp vs H Q E):FnOk P w K mg base CX k f fd ps sp' :=
 ⟨λvs H Q E q=>F.len vs H Q E (h _ _ _ _ q),λA a s H b j vs Q E c d g i e=>F.run A a s H b j vs Q E c d g i (h _ _ _ _ e)⟩
def Env0.make{P:Program}{w:World}{K:W.Frag}{mg:001}{base:Heap}{A:Around}{outer:List Env}{s:Shared}{H:Hp}(e:Env0 P w K mg base A outer s H)(C)(us)(kw) :
  Env0 P w K mg base (A.under (.builtin "type.__call__" ⟨.ref C::us,kw⟩)) outer s H:=⟨by first | exact e.frames | (simpa [Around.under,Code.envs,Code.isFrame,pushEnvs] using e.frames),e.mod,e.bs,e.bsz,e.funs,e.frf,e.hok,e.bare⟩
section
variable{X:Cx}{pins:List (Addr×Obj)}{σ:St}{H:Hp}{s s':Shared}
def Inv.env0(I:09):Env0 X.prog X.w X.K X.mg X.base X.A X.stack s H :=
 ⟨I.ok.frames,I.ok.mod,I.bs,Vao I.ok.bsz I.sz,I.stack,I.stkFree,I.hok,I.bare⟩
def Inv.after(I:09)(h:CE X.stack X.prog X.w H s Q u s'):EP X pins σ Q u s':=by
 obtain ⟨v,f,i,a,j,c,r,q⟩:=h;obtain ⟨k,g,d,t,e⟩:=s';obtain rfl:e=s.os:=i;exact ⟨v,f,I.call j c a (λb z=>aB z 03),r,q⟩
end
def Zkw(sp:Sp)(dvs:List V)(E:XK)(t:TA):TE:=λσ H Q=>t σ H λa b=>sp (a++dvs) b Q E
def ZvM(C:Addr)(sp:Sp)(dvs:List V)(E:XK)(t:TA):TE:=λσ H Q=>t σ H λc b=>∀x a,b x=none->b a=none->a≠x ->
 sp (.ref x::(c++dvs)) (upd (upd b a (.own x)) x (.ins C a [])) (λv d=>v=.non/\Q (.ref x) d) E
def Binds(K:W.Frag)(fd:FuncData)(ps:List Str)(ds:List Value):Prop :=
 ∀s a,K.In s.heap->(a++ds).length=ps.length->BindsTo s fd ⟨a,[]⟩ (ps.zip (a++ds))
def Binds.all{K:W.Frag}{fd:FuncData}{ps:List Str}(h:∀us:List Value,us.length=ps.length->bindArgs fd ⟨us,[]⟩=pure (ps.zip us)):Binds K fd ps []:=λs us _ a=>by
 rw [Va2] at a ⊢;exact .of_eq (h us a)
def Zdg(CX:CXT)(X:Cx)(E:XK):Prop:=∀a σ H s e b,Inv X a σ H s->CX X.stack H s E e b->X.xe e b
section
variable{X:Cx}{CX:CXT}{k:Nat}{f C:Addr}{fd:FuncData}{ps:List Str}{sp:Sp}{dvs:List V}{ds:List Value}{E:XK}{x m:Str}{p pos apos:Pos}{e o:Expr}{es:List Expr}{ta:TE}{t:TA}
def ZoN(F:FnOk X.prog X.w X.K X.mg X.base CX k f fd ps sp)(hr:Room k X.A)(hb:Binds X.K fd ps ds)(hd:Vals dvs ds)(hx:Zdg CX X E)(I:09)(r:Vals vs us)(h:sp (vs++dvs) H Q E):wX X (call (.ref f) us) (EP X pins σ Q) X.xe s:=by
 have b:=r.append hd;have d:(us++ds).length=ps.length:=by rw [<-b.length];exact F.len _ _ _ _ h
 refine Va3 (Va4 (F.run X.A X.stack s H ⟨us,[]⟩ (us++ds) (vs++dvs) Q E hr I.env0 (hb s us I.kIn d) b h) λr c a=>?_);cases r with
 | error e=>exact hx pins σ H s e c I a
 | ok fl=>
  cases fl with
  | ret u=>exact I.after a
  | next=>exact False.elim a
  | brk=>exact False.elim a
  | cont=>exact False.elim a
def ZtP(F:FnOk X.prog X.w X.K X.mg X.base CX k f fd ps sp)(hr:Room k X.A)(hg:Gl X x)(hm:X.mg x=some (.ref f))(hk:W.keepIn X.K (.ref f)=true)(hb:Binds X.K fd ps ds)(hd:Vals dvs ds)(hx:Zdg CX X E)(ha:PA X (e::es) t)(hdb:ND x:=by decide)(he:011:=by rfl)(hpl:(backTo pos (starEach es X.env)).any (·.1)=false:=by rfl) :
  PE X (.Call (.Name x p) (e::es) [] pos) (Zkw sp dvs E t):=by
 intro a s σ H Q I h;refine Va5 (ZdN I hg hm ?_ hdb);refine Va6 I.ok.mod.kin hk (thn (ha pos a s σ H _ I h) λi d zq=>?_) he hpl;obtain ⟨c,g,b,r,q⟩:=zq;refine ⟨b.kIn,?_⟩;exact ZoN F hr hb hd hx b r q
structure Mk(K:W.Frag)(C f:Addr):Prop where
 makes:W.makesIn K C=true
 init:W.findIn K 05 "__init__"=some (some (.ref f))
 fn:W.isFn K (.ref f)=true
 kp:W.keepIn K 05=true
def Zpn(M:Mk X.K C f)(F:FnOk X.prog X.w X.K X.mg X.base CX k f fd ps sp)(hr:Room (k+1) X.A)(hb:Binds X.K fd ps ds)(hd:Vals dvs ds)(hx:Zdg CX X E)(I:09)(r:Vals vs us)(h:∀x dx,H x=none->H dx=none->dx≠x->sp (.ref x::(vs++dvs)) (upd (upd H dx (.own x)) x (.ins C dx [])) (λv H2=>v=.non/\Q (.ref x) H2) E) :
  wX X (call 05 us) (EP X pins σ Q) X.xe s:=by
 have c:=h (s.heap.objs.size+1) s.heap.objs.size (I.hok.fresh (Nat.le_succ _)) (I.hok.fresh (VaN _)) (Vai (VaZ _));have b:=Inv.made (C:=C) I;have d:Vals (V.ref (s.heap.objs.size+1)::(vs++dvs)) (Value.ref (s.heap.objs.size+1)::(us++ds)):=.cons rfl (r.append hd);have n:(Value.ref (s.heap.objs.size+1)::us++ds).length=ps.length:=by
  have e:=d.length;rw [F.len _ _ _ _ c] at e;exact e.symm
 refine Va3 (Zp1 I.kIn M.makes M.init (VaS.mp M.fn) (Va4 (F.run _ X.stack _ _ ⟨Value.ref (s.heap.objs.size+1)::us,[]⟩ (Value.ref (s.heap.objs.size+1)::(us++ds)) _ _ E (hr.make C us [])
  (b.env0.make C us []) (hb _ (Value.ref (s.heap.objs.size+1)::us) b.kIn n) d c) λr g a=>?_))
 cases r with
 | error e=>exact hx pins σ _ _ e g b a
 | ok fl=>
  cases fl with
  | ret u=>
   obtain ⟨v,o,i,m,j,l⟩:=b.after a;subst j;exact ⟨m,⟨V.ref (s.heap.objs.size+1),o,i,rfl,l⟩⟩
  | next=>exact False.elim a
  | brk=>exact False.elim a
  | cont=>exact False.elim a
def Zsz(M:Mk X.K C f)(F:FnOk X.prog X.w X.K X.mg X.base CX k f fd ps sp)(hr:Room (k+1) X.A)(hg:Gl X x)(hm:X.mg x=some 05)(hb:Binds X.K fd ps ds)(hd:Vals dvs ds)(hx:Zdg CX X E)(ha:PA X (e::es) t)(hdb:ND x:=by decide)(he:011:=by rfl)(hpl:(backTo pos (starEach es X.env)).any (·.1)=false:=by rfl) :
  PE X (.Call (.Name x p) (e::es) [] pos) (ZvM C sp dvs E t):=by
 intro a s σ H Q I h;refine Va5 (ZdN I hg hm ?_ hdb);refine Va6 I.ok.mod.kin M.kp (thn (ha pos a s σ H _ I h) λi d zq=>?_) he hpl;obtain ⟨c,g,b,r,q⟩:=zq;refine ⟨b.kIn,?_⟩;exact Zpn M F hr hb hd hx b r q
end
structure Zag(N P:List Str)(sc:Scope):Prop where
 kind:sc.kind=.function
 co:sc.isCoroutine=false
 gen:sc.isGenerator=false
 nd:N.Nodup
 pre:N.take P.length=P
 par:∀x∈P,sc.names.lookup x=some .local\/sc.names.lookup x=some .cell
 nofree:∀y∈sc.names,y.2≠.free
def Zjd{kindOf:Str->Option NameKind}{x:Str}:∀{binds:List (Str×Value)} {m:001},(∀v,(x,v)∉binds)->bindL kindOf binds m x=m x
 | [],_,_=>rfl
 | (n,v)::r,m,h=>by
  unfold bindL;rw [Zjd λw a=>h w (Var _ a)];split
  ·have:x≠n:=by rintro rfl;exact h v Vaq
   simp [this]
  ·rfl
def Zju{kindOf:Str->Option NameKind}{x:Str}:∀{binds:List (Str×Value)} {m:001},(∀v,(x,v)∉binds)->bindC kindOf binds m x=m x
 | [],_,_=>rfl
 | (n,v)::r,m,h=>by
  unfold bindC;rw [Zju λw a=>h w (Var _ a)];split
  ·rfl
  ·have:x≠n:=by rintro rfl;exact h v Vaq
   simp [this]
def Zjb{kindOf:Str->Option NameKind}{x:Str}{v:Value}:∀{P:List Str} {vs:List Value} {i:Nat} {m:001},P.Nodup->P[i]?=some x->vs[i]?=some v->kindOf x=some .local ->
  bindL kindOf (P.zip vs) m x=some v
 | [],_,_,_,_,h,_,_=>by simp at h
 | _::_,[],_,_,_,_,h,_=>by simp at h
 | p::P,w::vs,0,m,nd,h1,h2,hk=>by
  simp at h1 h2;subst h1;subst h2;show bindL kindOf ((p,w)::P.zip vs) m p=_;unfold bindL;rw [Zjd λv a=>(Va7.mp nd).1 (List.of_mem_zip a).1,iP hk];simp
 | p::P,w::vs,i+1,m,nd,h1,h2,hk=>by
  show bindL kindOf ((p,w)::P.zip vs) m x=_;unfold bindL;exact Zjb (i:=i) (Va7.mp nd).2 (by simpa using h1) (by simpa using h2) hk
def Zjg{kindOf:Str->Option NameKind}{x:Str}{v:Value}:∀{P:List Str} {vs:List Value} {i:Nat} {m:001},P.Nodup->P[i]?=some x->vs[i]?=some v->kindOf x≠some .local ->
  bindC kindOf (P.zip vs) m x=some v
 | [],_,_,_,_,h,_,_=>by simp at h
 | _::_,[],_,_,_,_,h,_=>by simp at h
 | p::P,w::vs,0,m,nd,h1,h2,hk=>by
  simp at h1 h2;subst h1;subst h2;show bindC kindOf ((p,w)::P.zip vs) m p=_;unfold bindC;rw [Zju λv a=>(Va7.mp nd).1 (List.of_mem_zip a).1,iN hk];simp
 | p::P,w::vs,i+1,m,nd,h1,h2,hk=>by
  show bindC kindOf ((p,w)::P.zip vs) m x=_;unfold bindC;exact Zjg (i:=i) (Va7.mp nd).2 (by simpa using h1) (by simpa using h2) hk
def start(N:List Str)(vs:List V):St:=vs.map some++List.replicate (N.length - vs.length) none
def cxOf(CX:CXT)(P:Program)(w:World)(K:W.Frag)(mg:001)(base:Heap)(N:List Str)(qual:Str)(scope:Scope)(f:Addr)(cd:Value)(A:Around)(outer:List Env)(s:Shared)(H:Hp)(E:XK):Cx where
 prog:=P
 w:=w
 K:=K
 mg:=mg
 base:=base
 A:=A.deeper (envOfC qual scope s.heap.objs.size f cd)
 N:=N
 s₀:=s
 H₀:=H
 env:=envOfC qual scope s.heap.objs.size f cd
 outer:=outer
 stack:=envOfC qual scope s.heap.objs.size f cd::outer
 ex:=[]
 calm:=true
 fn:=λ_=>true
 pn:=[]
 xe:=λe b=>wpAny (model P w) (A.deeper (envOfC qual scope s.heap.objs.size f cd)) (leaving (envOfC qual scope s.heap.objs.size f cd) e) (λ_ a=>CX outer H s E e a) (λc a=>CX outer H s E c a) b
def ZkY{sc:Scope}(h:sc.names.lookup x=some .cell):∃c,(cellsFrom n sc.names []).lookup x=some c:=by
 have q:=W.cellsFrom_some sc.names n [] (.inl h);exact Option.isSome_iff_exists.mp q
def Zjc{CX:CXT}{P:Program}{w:World}{K:W.Frag}{mg:001}{base:Heap}{N ps:List Str}{qual:Str}{scope:Scope}{f:Addr}{cd:Value}{A:Around}{outer:List Env}{s s1:Shared}{H:Hp}{E:XK}{us:List Value}{vs:List V}(S:Zag N ps scope)(hd:A.handled=none)(e0:Env0 P w K mg base A outer s H)(hl:vs.length=ps.length)(r:Vals vs us)(x:InCallC s s.heap.objs.size (bindL (envOfC qual scope s.heap.objs.size f cd).kindOf (ps.zip us) λ_=>none) (cellsFrom (s.heap.objs.size+1) scope.names []) (bindC (envOfC qual scope s.heap.objs.size f cd).kindOf (ps.zip us) λ_=>none) s1) :
  Inv (cxOf CX P w K mg base N qual scope f cd A outer s H E) [] (start N vs) H s1:=by
 have C:ps.length<=N.length:=by have:=VaA List.length S.pre;rw [Va8] at this;omega
 obtain ⟨m,F,rfl,t⟩:=x.done;have g:∀b:Addr,b∉(cxOf CX P w K mg base N qual scope f cd A outer s H E).ex:=λb z=>aB (show b∈([]:List Addr) from z) 03
 refine ⟨⟨e0.mod,S.kind,rfl,rfl,VaN _,λy z c m d=>?_,λy hy=>?_,λy c _ h=>?_,λ_=>hd,Around.frames_deeper e0.frames,.inr ⟨rfl,rfl⟩,λb z=>aB z (g b),e0.bs,e0.bsz,λb _ _=>g b,λb z=>aB z (g b),e0.funs,e0.frf⟩,
  rfl,e0.bare,Un.kept t,⟨_,x.toInCall.ns,λi y v m d G=>?_⟩,λy c h=>⟨_,x.cell y c h⟩,e0.hok.fresh (VaN _),λy c h=>?_,λp j=>aB (show p∈([]:List (Addr×Obj)) from j) 03,e0.hok.kept t,?_⟩
 ·exact name_of_addr x.apart (Va9 m) (Va9 d)
 ·have hy:scope.names.lookup y=some .cell\/scope.names.lookup y=some .free:=hy;rcases hy with hy | hy
  ·exact ZkY hy
  ·exact aB rfl (S.nofree _ (Va9 hy))
 ·exact Nat.le_of_lt (x.above y c (Va9 h))
 ·have n:i<vs.length:=by
   unfold start at d;by_cases n:i<vs.length
   ·exact n
   ·rw [Vba (by simpa using n)] at d;rw [Vbb] at d;split at d<;>cases d
  have B:vs[i]?=some v:=by
   unfold start at d;rw [Vbc (by simpa using n),Vbd] at d;cases e:vs[i]? with
   | none=>rw [e] at d;cases d
   | some a=>rw [e] at d;cases d;rfl
  obtain ⟨u,o,D⟩:=r.get B;have j:ps[i]?=some y:=by
   rw [<-S.pre,List.getElem?_take_of_lt 000];exact m
  have l:ps.Nodup:=by rw [<-S.pre];exact S.nd.sublist (List.take_sublist _ _)
  refine ⟨u,D,?_⟩;rcases S.par y (Vbe j) with k | k
  ·exact .inl ⟨k,Zjb l j o k⟩
  ·obtain ⟨c,e⟩:=ZkY k;refine .inr ⟨.inl k,c,e,?_⟩;have q:=x.cell y c e;rw [Zjg l j o (by show scope.names.lookup y≠_;rw [k];decide)] at q;exact q
 ·exact e0.hok.fresh (Nat.le_of_lt (x.above y c (Va9 h)))
 ·unfold start;show _=N.length;rw [Vbf,VaX,Vbg];omega
def Zsa{CX:CXT}{P:Program}{w:World}{K:W.Frag}{mg:001}{base:Heap}{k:Nat}{f:Addr}{name qual:Str}{params:Arguments}{body:List Stmt}{scope:Scope}{dV kV doc pm cdv ct oc:Value}{an od:Option Addr}{osl:Array (Option Value)}{N ps:List Str}{sp:Sp}(lk:K.lookup f=some ⟨oc,od,.func (W.fnOf name qual params body scope dV kV doc pm an cdv ct),osl⟩)(hcd:W.codeIn K cdv qual=true)(S:Zag N ps scope)(len:∀vs H Q E,sp vs H Q E->vs.length=ps.length) (hbody:∀(A:Around) (outer:List Env) (s:Shared) (H:Hp) (vs:List V) (Q:VK) (E:XK),Room k (A.deeper (envOfC qual scope s.heap.objs.size f cdv))->sp vs H Q E ->
   ∃t,PSs (cxOf CX P w K mg base N qual scope f cdv A outer s H E) body t/\t { nx:=λ_ H'=>Q .non H',rt:=Q } (start N vs) H) :
  FnOk P w K mg base CX (k+1) f (W.fnOf name qual params body scope dV kV doc pm an cdv ct) ps sp:=by
 refine ⟨len,λA outer s H z U vs Q E l g R r i=>?_⟩;have F:=len _ _ _ _ i;have B:=g.mod.kin.keeps λb o e=>(g.bs b o e).1;have m:=g.mod.nolimit.keeps λb o e=>(g.bs b o e).1;have c:∀y∈ps.zip U,scope.names.lookup y.1=some .local\/(scope.names.lookup y.1=some .cell/\((cellsFrom (s.heap.objs.size+1) scope.names []).lookup y.1).isSome=true):=λ⟨n,v⟩ M=>by
  rcases S.par n (List.of_mem_zip M).1 with q | q
  ·exact .inl q
  ·exact .inr ⟨q,W.cellsFrom_some _ _ _ (.inl q)⟩
 refine codeAny_call_function l.depth (B _ _ lk) rfl S.co S.gen rfl (W.codeRec_of B hcd) (R _ _ _ _ ?_);refine wpAny_newFunctionEnv_cells S.kind c λD O C x=>?_;subst O;refine ⟨m.keeps x.toInCall.keep,codeAny_func ?_⟩;obtain ⟨t,G,T⟩:=hbody A outer s H vs Q E (l.deeper _) i;have I:Inv (cxOf CX P w K mg base N qual scope f cdv A outer s H E) [] (start N vs) H C:=Zjc S l.hd g F r x;refine Vax (G [] C (start N vs) H _ I T) (λL j d=>?_) λe j d=>d;have h:∀{a:St} {H':Hp} {v:V} {u:Value},Inv (cxOf CX P w K mg base N qual scope f cdv A outer s H E) [] a H' j->RelV v u->Q v H'->CE outer P w H s Q u j :=
  λ{a H' v u} J p q=>⟨v,H',J.os,J.bare,J.base,J.hok,p,q⟩
 cases L with
 | ret u=>
  obtain ⟨v,a,H',J,p,q⟩:=d;exact h J p q
 | next=>
  obtain ⟨a,H',J,q⟩:=d;exact h (v:=V.non) J rfl q
 | brk=>
  obtain ⟨_,_,_,q⟩:=d;exact False.elim q
 | cont=>
  obtain ⟨_,_,_,q⟩:=d;exact False.elim q
section
variable{X:Cx}{x:Str}{p pos:Pos}{e:Expr}{es:List Expr}{t:TA}{id T:String}{r:List V->Hp->VK->Prop}
def tCB(r:List V->Hp->VK->Prop)(t:TA):TE:=λσ H Q=>t σ H λa b=>r a b Q
def ZkX(hc:ZdA X (.builtin id) r)(hg:Gl X x)(hm:X.mg x=none)(hv:bootBuiltins x=some (.builtin id))(ha:PA X (e::es) t)(hn:x ≠ "__name__":=by decide)(hdb:ND x:=by decide)(he:011:=by rfl)(hpl:(backTo pos (starEach es X.env)).any (·.1)=false:=by rfl):PE X (.Call (.Name x p) (e::es) [] pos) (tCB r t):=by
 intro a s σ H Q I h;refine Va5 (ZhG I hg hm hv ?_ hn hdb);exact PyProof.Rows.callWith_builtin1 (thn (ha pos a s σ H _ I h) λi f zq=>by obtain ⟨b,g,j,c,d⟩:=zq;exact hc a f σ g b i Q j c d) he hpl
def Zjl(hc:ZdA X (.type T) r)(hg:Gl X x)(hm:X.mg x=none)(hv:bootBuiltins x=some (.type T))(ha:PA X (e::es) t)(hn:x ≠ "__name__":=by decide)(hdb:ND x:=by decide)(he:011:=by rfl)(hpl:(backTo pos (starEach es X.env)).any (·.1)=false:=by rfl):PE X (.Call (.Name x p) (e::es) [] pos) (tCB r t):=by
 intro a s σ H Q I h;refine Va5 (ZhG I hg hm hv ?_ hn hdb);exact VaO (thn (ha pos a s σ H _ I h) λi f zq=>by obtain ⟨b,g,j,c,d⟩:=zq;exact hc a f σ g b i Q j c d) he hpl
end
end L2
namespace HT
section
open PySem.SeqAt
open PySem.AutoSeq1 (wpAny_loadPart')
open PySem.MeetsSeq PySem.MeetsSeq2 PySem.MeetsSeq3
end
section
variable{prog:Program}{w:World}{A:Around}{E:Value->Shared->Prop}{s:Shared}
def Zs9(ht:IsTup s.heap t vs.toArray)(hb:IsTup s.heap b ws.toArray)(hv:vs≠[])(h1:ws=[]->Q (.ref t) s)(h2:ws≠[]->Q (.ref s.heap.objs.size) { s with heap:=s.heap.push { cls:=.type "tuple",data:=.seq (vs++ws).toArray } })(hsz:vs.length+ws.length<=sizeLine):wpAny 08 A (binaryOp .Add (.ref t) (.ref b)) Q E s:=by
 obtain ⟨⟨cls,j,data,k⟩,h,o,n,l⟩:=id ht;obtain ⟨⟨p,g,i,d⟩,a,f,m,c⟩:=id hb;simp only at o l f c;subst o l f c;have e:vs.toArray++ws.toArray=(vs++ws).toArray:=by simp
 by_cases hw:ws=[]
 ·exact concat_meets ⟨_,h,rfl⟩ ⟨_,a,rfl⟩ noFill_tuple_add seq_tuple_add PySem.F.slot_tuple_add PySem.F.entry_tuple_add (PySem.F.args_tuple_add_2 _ _)
   (tuple_addW1 t b vs.toArray ws.toArray n m j g k d (by simpa using hv) (by simp [hw])) ⟨h,a,h1 hw⟩
 ·refine concat_meets ⟨_,h,rfl⟩ ⟨_,a,rfl⟩ noFill_tuple_add seq_tuple_add PySem.F.slot_tuple_add PySem.F.entry_tuple_add (PySem.F.args_tuple_add_2 _ _)
   (tuple_addW2 t b vs.toArray ws.toArray n m j g k d (by simpa using hv) (by simpa using hw) (by rw [VaR,VaR];exact hsz)) ⟨h,a,?_⟩
  rw [e];exact h2 hw
def sIx(n d:Nat):Option Int->Nat
 | none=>d
 | some v=>if v<0 then (v+(n:Int)).toNat else min v.toNat n
def Zx7(n d)(hd:d<=n)(o):sIx n d o<=n:=by
 cases o with
 | none=>exact hd
 | some v=>
  show (if v<0 then (v+(n:Int)).toNat else min v.toNat n)<=n
  by_cases hv:v<0
  ·rw [iP hv];omega
  ·rw [iN hv];exact Nat.min_le_right _ _
def ZnP(v:Int)(n d:Nat):(if v<0 then max (v+(n:Int)) 0 else min v (n:Int))=((sIx n d (some v):Nat):Int):=by
 show (if v<0 then max (v+(n:Int)) 0 else min v (n:Int))=(((if v<0 then (v+(n:Int)).toNat else min v.toNat n):Nat):Int)
 by_cases hv:v<0
 ·simp only [iP hv];omega
 ·simp only [iN hv];omega
def ZlX(lo hi:Option Int)(n:Nat):Builtin.Slice.sliceAdjust lo hi 1 (n:Int)=(((sIx n 0 lo:Nat):Int),((sIx n n hi:Nat):Int)):=by
 have a:¬((1:Int)<0):=by omega
 unfold Builtin.Slice.sliceAdjust;simp only [a,Vbh];refine Prod.ext ?_ ?_
 ·cases lo with
  | none=>rfl
  | some v=>exact ZnP v n 0
 ·cases hi with
  | none=>rfl
  | some v=>exact ZnP v n n
def Zmv(i j:Nat):Builtin.Slice.slicePlaces (i:Int) (j:Int) 1=j - i:=by
 unfold Builtin.Slice.slicePlaces;have a:(1:Int)>0:=by omega
 simp only [a,Vbi,Int.ediv_one];split<;>omega
def ZhI(p:IsPart v o)(h:Q o s):wpAny 08 A (Builtin.Slice.slicePartIndex v) Q E s:=by
 cases p with
 | none=>exact slicePart_none h
 | int i t=>exact slicePart_int h
def ZdU{sl:Addr}{vl vu:Value}{lo hi:Option Int}{n:Nat}{Q:Int×Int×Nat->Shared->Prop}(hs:s.heap.IsSliceOf sl vl vu .none)(pl:IsPart vl lo)(pu:IsPart vu hi)(h:Q (((sIx n 0 lo:Nat):Int),1,sIx n n hi - sIx n 0 lo) s):wpAny 08 A (Builtin.Slice.sliceApplied (.ref sl) (pure (n:Int))) Q E s:=by
 obtain ⟨d,b,c,a⟩:=id hs;unfold Builtin.Slice.sliceApplied Builtin.Slice.sliceFields;refine VaD (VaD (Vbj b a rfl (VaD (Vbj b a rfl (VaD (Vbj b a rfl (VaF ?_)))))));refine VaD (slicePart_none ?_);rw [iN 00];refine VaD (ZhI pl (VaD (ZhI pu (VaD (VaF ?_)))));show wpAny _ _ (match Builtin.Slice.sliceAdjust lo hi 1 (n:Int) with | (lo,hi)=>pure (lo,(1:Int),Builtin.Slice.slicePlaces lo hi 1)) _ _ s
 rw [ZlX lo hi n];show wpAny _ _ (pure (((sIx n 0 lo:Nat):Int),(1:Int),Builtin.Slice.slicePlaces ((sIx n 0 lo:Nat):Int) ((sIx n n hi:Nat):Int) 1)) _ _ s;rw [Zmv];exact VaF h
def Zqy(xs:Array Value)(i k:Nat):((List.range k).filterMap λ(m:Nat)=>xs[((i:Int)+(m:Int)*1).toNat]?).toArray=((xs.toList.drop i).take k).toArray:=by
 have e:(λ(m:Nat)=>xs[((i:Int)+(m:Int)*1).toNat]?)=λm=>xs[i+m]?:=by
  funext m;have:((i:Int)+(m:Int)*1).toNat=i+m:=by omega
  rw [this]
 rw [e];have:=pick_run xs i k;rw [List.filterMap_map] at this;have a:((λx=>xs[x]?) ∘ λx=>i+x)=λm=>xs[i+m]?:=rfl;rw [a] at this;rw [this]
def ZfE{t sl:Addr}{items:Array Value}{vl vu:Value}{lo hi:Option Int}{Q:Value->Shared->Prop}(ht:IsTup s.heap t items)(hs:s.heap.IsSliceOf sl vl vu .none)(pl:IsPart vl lo)(pu:IsPart vu hi)(hw:¬(sIx items.size 0 lo=0/\sIx items.size items.size hi=items.size))(h:Q (.ref s.heap.objs.size) { s with heap:=s.heap.push { cls:=.type "tuple",data:=.seq ((items.toList.drop (sIx items.size 0 lo)).take (sIx items.size items.size hi - sIx items.size 0 lo)).toArray } })(hsz:items.size<=sizeLine):wpAny 08 A (getItem (.ref t) (.ref sl)) Q E s:=by
 have a:sizeOk (.seq ((items.toList.drop (sIx items.size 0 lo)).take (sIx items.size items.size hi - sIx items.size 0 lo)).toArray):=by
  show ((items.toList.drop (sIx items.size 0 lo)).take (sIx items.size items.size hi - sIx items.size 0 lo)).toArray.size<=sizeLine;rw [VaR,Va8,Vbk,Vaz];omega
 obtain ⟨f,e,c,g⟩:=id hs;have d:s.TypeIs (.ref sl) "slice":=⟨f,e,c⟩;unfold getItem
 try with_reducible refine Vbl ?_
 first | refine VaD (VaF ?_) | skip
 refine VaD (wpAny_sequenceKey ht.typeIs 00 ?_)
 refine VaD (wpAny_callSpecial?_slot ht.typeIs Vbm
  (wpAny_call_entry Vbm ht.typeIs entry_tuple_getitem ?_ (args_tuple_getitem _ _)))
 show wpAny _ _ (Builtin.Tuple.tupleItemsOf (.ref t) >>= _) _ _ s;refine VaD (tupleItemsOf_ ht ?_);refine VaD (Vbn d ?_);rw [iP 00];refine VaD (ZdU hs pl pu ?_);have b:¬((((sIx items.size 0 lo:Nat):Int)==0&&(1:Int)==1&&(sIx items.size items.size hi - sIx items.size 0 lo)==items.size)=true):=by
  intro q;rw [Vbo,Vbo] at q;have j:=eq_of_beq q.1.1;have i:=eq_of_beq q.2;exact hw ⟨by omega,by omega⟩
 show wpAny _ _ (if (((sIx items.size 0 lo:Nat):Int)==0&&(1:Int)==1&&(sIx items.size items.size hi - sIx items.size 0 lo)==items.size)=true then _ else _) _ _ s
 rw [iN b,Zqy]
 first
  | exact VaD (VaG (VaF ⟨_,rfl,VaF h⟩) a)
  | exact VaD (VaG (VaD (VaF (VaF ⟨_,rfl,VaF h⟩))) a)
  | exact VaD (VaD (VaG (VaF (VaF ⟨_,rfl,VaF h⟩)) a))
  | exact VaD (VaD (VaG (VaF ⟨_,rfl,VaF h⟩) a))
end
end HT
namespace L2
abbrev TO:=St->Hp->(Option Int->Hp->Prop)->Prop
def PO(X:Cx)(e:Option Expr)(t:TO):Prop :=
 ∀a s σ H Q,Inv X a σ H s->t σ H Q ->
  wX X (evalPart e X.env) (λu c=>∃o b,Inv X a σ b c/\IsPart u o/\Q o b) X.xe s
def ZkC:TO:=λ_ H Q=>Q none H
def Zsw(t:TE):TO:=λσ H Q=>t σ H λx a=>∃i,x=.int i/\Q (some i) a
section
variable{X:Cx}{e:Expr}{te:TE}{lo hi:Option Expr}{tl th:TO}{pos p2:Pos}
def ZsB:PO X none ZkC:=by
 intro a s σ H Q I h;rw [evalPart_none];exact VaF ⟨none,H,I,.none,h⟩
def Zr5(h:PE X e te):PO X (some e) (Zsw te):=by
 intro a s σ H Q I g;rw [evalPart_some];refine thn (h a s σ H _ I g) λu j zq=>?_;obtain ⟨x,d,f,b,c⟩:=zq;obtain ⟨i,rfl,q⟩:=c;obtain ⟨t,rfl⟩:=b;exact ⟨some i,d,f,.int i t,q⟩
def SlR(X:Cx)(r:V->Option Int->Option Int->Hp->VK->Prop):Prop :=
 ∀a s σ H x v f d b e c Q,Inv X a σ H s->RelV x v->s.heap.IsSliceOf c f d .none->IsPart f b->IsPart d e->r x b e H Q ->
  ∃T g,typeLookup (.type T) "__getitem__"=pure (some (.builtin g))/\s.TypeIs v T/\wX X (getItem v (.ref c)) (EP X a σ Q) X.xe s
def SlR.or(h:SlR X r)(h':SlR X r'):SlR X (λx lo hi H Q=>r x lo hi H Q\/r' x lo hi H Q):=by
 intro a s σ H x v e c lo hi f Q I i b g d q;rcases q with q | q
 ·exact h a s σ H x v e c lo hi f Q I i b g d q
 ·exact h' a s σ H x v e c lo hi f Q I i b g d q
def tSl(r:V->Option Int->Option Int->Hp->VK->Prop)(te:TE)(tl th:TO):TE:=λσ H Q=>te σ H λx c=>tl σ c λl b=>th σ b λu a=>r x l u a Q
def Zly(hr:SlR X r)(he:PE X e te)(hl:PO X lo tl)(hu:PO X hi th):PE X (.Subscript e (.Slice lo hi none p2) pos) (tSl r te tl th):=by
 intro a s σ H Q I h;refine Subscript_ (thn (he a s σ H _ I h) λv m zq=>?_);obtain ⟨x,A,E,w,z⟩:=zq;refine wpAny_Slice (thn (hl a m σ A _ E z) λf o zq=>?_);obtain ⟨l,j,k,y,i⟩:=zq;refine thn (hu a o σ j _ k i) λd c zq=>?_;obtain ⟨u,g,t,p,B⟩:=zq;rw [evalPart_none];refine VaF ?_;have C:Inv X a σ g { c with heap:=c.heap.push { cls:=.type "slice",data:=.fields #[f,d,.none] } }:=t.kept λb J q=>VaH _ q
 obtain ⟨T,G,D,F,n⟩:=hr a { c with heap:=c.heap.push { cls:=.type "slice",data:=.fields #[f,d,.none] } } σ g x v f d l u c.heap.objs.size Q C w (Heap.IsSliceOf.new ..) y p B;exact tail_any F D n (by with_unfolding_all rfl)
def cutV(xs:List V)(lo hi:Option Int):List V:=(xs.drop (HT.sIx xs.length 0 lo)).take (HT.sIx xs.length xs.length hi - HT.sIx xs.length 0 lo)
def Zgr(xs)(lo hi):(cutV xs lo hi).length<=xs.length:=by
 unfold cutV;rw [Va8,Vbk];omega
def rSlT(K:W.Frag):V->Option Int->Option Int->Hp->VK->Prop:=λx c d H Q=>∃a b,x=.ref a/\SqT K H a b /\
 ¬(HT.sIx b.length 0 c=0/\HT.sIx b.length b.length d=b.length)/\∀p,H p=none->Q (.ref p) (upd H p (.tup (cutV b c d)))
def ZwO:SlR X (rSlT X.K):=by
 intro g s σ H x v y u e i w Q I t l p o h;obtain ⟨a,d,rfl,m,n,q⟩:=h;cases t;obtain ⟨f,r,k,j⟩:=I.tuple m;have c:f.toArray.size=d.length:=by rw [VaR];exact r.length.symm
 refine ⟨"tuple",_,PyProof.Rows.slot_tuple_getitem.lookup,k.typeIs,?_⟩;refine HT.ZfE k l p o (by rw [c];exact n) ?_ (by rw [c];exact j);rw [c];refine ⟨.ref s.heap.objs.size,_,I.laid (λb z q=>VaH _ q) (VaN _) ?_,rfl,q _ (I.hok.fresh (VaN _))⟩;exact ⟨Vao (Zgr d e i) j,_,(r.drop (HT.sIx d.length 0 e)).take (HT.sIx d.length d.length i - HT.sIx d.length 0 e),IsTup.new _ _⟩
def Zx1(K:W.Frag):R2:=λx y H Q=>∃a b d c,x=.ref a/\y=.ref b/\SqT K H a d/\SqT K H b c/\d≠[]/\d.length+c.length<=sizeLine /\
 (c=[]->Q (.ref a) H)/\(c≠[]->∀p,H p=none->Q (.ref p) (upd H p (.tup (d++c))))
def Vals.nil_iff(r:Vals xs us):us=[]↔xs=[]:=by
 cases r with
 | nil=>simp
 | cons _ _=>simp
def ZtA:OpR X (binaryOp .Add) (Zx1 X.K):=by
 intro e s σ H x y v u Q I p r h;obtain ⟨a,b,A,C,rfl,rfl,i,l,k,g,t,j⟩:=h;cases p;cases r;obtain ⟨m,d,n,_⟩:=I.tuple i;obtain ⟨f,c,o,_⟩:=I.tuple l;refine HT.Zs9 n o (λz=>k (d.nil_iff.mp z)) (λz=>⟨.ref a,H,I,rfl,t (c.nil_iff.mp z)⟩) (λz=>?_) (by rw [<-d.length,<-c.length];exact g);refine ⟨.ref s.heap.objs.size,_,I.laid (λb B q=>VaH _ q) (VaN _) ?_,rfl,j (λw=>z (c.nil_iff.mpr w)) _ (I.hok.fresh (VaN _))⟩;exact ⟨by rw [Vbf];exact g,_,d.append c,IsTup.new _ _⟩
end
def ixN(n:Nat)(i:Int):Option Nat:=if 0<=i then (if i<n then some i.toNat else none) else if -(n:Int)<=i then some (i+n).toNat else none
def atI(xs:List α)(i:Int):Option α:=(ixN xs.length i).bind λj=>xs[j]?
def ZtW(h:ixN n i=some j):seqIndex? i n=some j/\j<n/\-(n:Int)<=i/\i<n:=by
 unfold ixN at h;by_cases h0:0<=i
 ·rw [iP h0] at h;by_cases h1:i<n
  ·rw [iP h1] at h;have e:=Vac h;exact ⟨by rw [seqIndex_of h0 h1,e],by omega,by omega,h1⟩
  ·rw [iN h1] at h;cases h
 ·rw [iN h0] at h;by_cases h1:-(n:Int)<=i
  ·rw [iP h1] at h;have e:=Vac h;exact ⟨by rw [seqIndex_neg 000 h1,e],by omega,h1,by omega⟩
  ·rw [iN h1] at h;cases h
def Zkf(h:atI xs i=some v):∃j,seqIndex? i xs.length=some j/\xs[j]?=some v/\j<xs.length/\-(xs.length:Int)<=i/\i<xs.length:=by
 unfold atI at h;cases e:ixN xs.length i with
 | none=>rw [e] at h;cases h
 | some j=>
  rw [e] at h;obtain ⟨b,d,a,c⟩:=ZtW e;exact ⟨j,b,h,d,a,c⟩
def Zky(b:Expr):Prop:=∀o i,subscripted b false o i=operate [o,i] (getItem o i)
def IxR(X:Cx)(r:R2):Prop :=
 ∀c a b s σ H x y v u Q,Inv X b σ H s->RelV x v->RelV y u->r x y H Q ->
  subscripted a false v u=operate [v,u] (getItem v u)->wX X (subscriptTail c a v u) (EP X b σ Q) X.xe s
def MtR(X:Cx)(id:String)(r:V->List V->Hp->VK->Prop):Prop :=
 ∀a s σ H x c v b Q,Inv X a σ H s->RelV x v->Vals c b->r x c H Q ->
  wX X (call (.builtin id) (v::b)) (EP X a σ Q) X.xe s
section
variable{X:Cx}{a b:Expr}{ta tb:TE}{pos:Pos}
def IxR.or(h:IxR X r)(h':IxR X r'):IxR X (λx y H Q=>r x y H Q\/r' x y H Q):=by
 intro b a c s σ H x y v u Q I e f q d;rcases q with q | q
 ·exact h b a c s σ H x y v u Q I e f q d
 ·exact h' b a c s σ H x y v u Q I e f q d
def Zt3(hr:IxR X r)(ha:PE X a ta)(hb:PE X b tb)(hs:Zky b):PE X (.Subscript a b pos) (tOp r ta tb):=by
 intro c s σ H Q I h;exact Subscript_ (binT ha hb I h λv u f x y d e g i q=>hr a b c f σ d x y v u Q e g i q (hs _ _))
def rIxL(K:W.Frag):R2:=λx y H Q=>∃p a i v,x=.ref p/\y=.int i/\SqL K H p a/\atI a i=some v/\Q v H
def rIxT(K:W.Frag):R2:=λx y H Q=>∃p a i v,x=.ref p/\y=.int i/\SqT K H p a/\atI a i=some v/\Q v H
def rIxS:R2:=λx y H Q=>∃z i c,x=.str z/\y=.int i/\z.length<=sizeLine/\atI z.cps.toList i=some c/\Q (.str ⟨#[c]⟩) H
def ZnG:IxR X (rIxL X.K):=by
 intro k g a s σ H x y v u Q I o E h n;obtain ⟨p,L,i,z,rfl,rfl,C,B,q⟩:=h;cases o;obtain ⟨t,rfl⟩:=E;obtain ⟨f,r,l,M⟩:=I.list C;obtain ⟨j,c,G,N,A,F⟩:=Zkf B;obtain ⟨w,m,d⟩:=r.get G;have D:=r.length;have J:=ZjV;have b:EP X a σ Q w s:=⟨z,H,I,d,q⟩;by_cases h0:0<=i
 ·have e:i.toNat=j:=by
   rw [seqIndex_of h0 F] at c;exact Vac c
  exact item_listR l.isList h0 000 (by rw [e];simpa using m) b n
 ·have e:(i+(f.toArray.size:Int)).toNat=j:=by
   rw [seqIndex_neg 000 A] at c;rw [VaR,<-D];exact Vac c
  exact subscriptTail_builtinR l.isList.typeIs slot_list_getitem.lookup
   (wpAny_getItem_list_neg l.isList 000 (by rw [VaR]<;>omega) 000 (by rw [e];simpa using m) ⟨rfl,b⟩) n
def Zry:IxR X (rIxT X.K):=by
 intro d c a s σ H x y v u Q I l B h C;obtain ⟨p,G,i,z,rfl,rfl,o,m,q⟩:=h;cases l;obtain ⟨t,rfl⟩:=B;obtain ⟨k,r,f,J⟩:=I.tuple o;obtain ⟨j,g,D,L,F,M⟩:=Zkf m;obtain ⟨w,n,b⟩:=r.get D;have A:=r.length;have E:=ZjV;have e:EP X a σ Q w s:=⟨z,H,I,b,q⟩;exact subscriptTail_builtinR f.typeIs slot_tuple_getitem.lookup
  (getItem_tuple f 000 000 (by rw [VaR,<-A];exact g) (by simpa using n) ⟨rfl,e⟩) C
def Zwk:IxR X rIxS:=by
 intro b a d s σ H x y v u Q I r w h f;obtain ⟨z,i,c,rfl,rfl,D,g,q⟩:=h;obtain ⟨t,rfl⟩:=r;obtain ⟨C,rfl⟩:=w;obtain ⟨j,e,p,A,k,m⟩:=Zkf g;have n:z.cps.toList.length=z.length:=by simp [Str.length]
 rw [n] at e k m;have B:=ZjV
 exact tail_any (Vbp s z t) slot_str_getitem.lookup (getItem_str (by
  have l:decide (i < -(2^63:Int))=false:=Vad 000;have o:decide (i>=2^63)=false:=Vad 000
  rw [l,o,Bool.or_false]) (by rw [e];simpa using p) ⟨.str ⟨#[c]⟩,H,I.tok _,⟨_,rfl⟩,q⟩) f
def Zjq(lo hi)(n):(sliceBounds lo hi none n).1=((HT.sIx n 0 lo:Nat):Int)/\(sliceBounds lo hi none n).2.1=((HT.sIx n n hi:Nat):Int)/\(sliceBounds lo hi none n).2.2=1:=by
 refine ⟨?_,?_,rfl⟩
 ·cases lo with
  | none=>simp [sliceBounds,HT.sIx]
  | some i=>
   simp only [sliceBounds,HT.sIx,Option.getD_none,show (1:Int)>0 by decide,Vbi];by_cases h:i<0
   ·simp only [h,Vbi]<;>omega
   ·simp only [h,Vbh]<;>omega
 ·cases hi with
  | none=>simp [sliceBounds,HT.sIx]
  | some i=>
   simp only [sliceBounds,HT.sIx,Option.getD_none,show (1:Int)>0 by decide,Vbi];by_cases h:i<0
   ·simp only [h,Vbi]<;>omega
   ·simp only [h,Vbh]<;>omega
def Zh8(its:List Value)(lo hi:Option Int):slicePick its.toArray lo hi none=((its.drop (HT.sIx its.length 0 lo)).take (HT.sIx its.length its.length hi - HT.sIx its.length 0 lo)).toArray:=by
 obtain ⟨b,c,a⟩:=Zjq lo hi its.toArray.size;unfold slicePick;rw [b,c,a];simp only [sliceRange_one,pick_run,VaR]<;>rfl
def rSlL(K:W.Frag):V->Option Int->Option Int->Hp->VK->Prop:=λx c d H Q=>∃a b,x=.ref a/\SqL K H a b/\∀p,H p=none->Q (.ref p) (upd H p (.lst (cutV b c d)))
def Zsl:SlR X (rSlL X.K):=by
 intro f s σ H x v w t e g u Q I o j n m h;obtain ⟨a,d,rfl,k,q⟩:=h;cases o;obtain ⟨l,r,i,p⟩:=I.list k;have c:=r.length;refine ⟨"list",_,slot_list_getitem.lookup,i.isList.typeIs,?_⟩;refine wpAny_getItem_list_slice i.isList j n m .none 03 ?_ (by rw [VaR]<;>omega);rw [Zh8,<-c];refine ⟨.ref s.heap.objs.size,_,I.laid (λb y q=>VaH _ q) (VaN _) ?_,rfl,q _ (I.hok.fresh (VaN _))⟩;exact ⟨Vao (Zgr d e g) p,_,0,(r.drop (HT.sIx d.length 0 e)).take (HT.sIx d.length d.length g - HT.sIx d.length 0 e),VaM _ rfl⟩
def Zf6:ZdA X (.builtin "len") (λxs H Q=>∃p ys,xs=[.ref p]/\(SqL X.K H p ys\/SqT X.K H p ys)/\Q (.int ys.length) H):=by
 intro e s σ H xs j Q I r h;obtain ⟨p,ys,rfl,hq,q⟩:=h;obtain ⟨u,rfl,f⟩:=vals1 r;cases f;have i:=ZjV;rcases hq with hq | hq
 ·obtain ⟨c,b,d,g⟩:=I.list hq;have a:=b.length;exact Calls.call_len_list d.isList (by simp only [VaR]<;>omega) ⟨.int ys.length,H,I.tok _,⟨s.toks+1,by rw [VaR,a]⟩,q⟩
 ·obtain ⟨c,b,d,g⟩:=I.tuple hq;have a:=b.length;exact len_tuple d (by simp only [VaR]<;>omega) ⟨.int ys.length,H,I.tok _,⟨s.toks+1,by rw [VaR,a]⟩,q⟩
def ZiX:ZdA X (.type "list") (λxs H Q=>∃p ys,xs=[.ref p]/\(SqL X.K H p ys\/SqT X.K H p ys)/\∀l,H l=none->Q (.ref l) (upd H l (.lst ys))):=by
 intro g s σ H xs B Q I r h;obtain ⟨p,ys,rfl,hq,q⟩:=h;obtain ⟨u,rfl,A⟩:=vals1 r;cases A;have m:∀a,Vals ys a->ys.length<=sizeLine->∀c d,(∀b z,s.heap.get? b=some z->c.get? b=some z) ->
   c.get? s.heap.objs.size=some { cls:=.type "list",dict:=none,data:=.seq a.toArray d,slots:=#[] }->EP X g σ Q (.ref s.heap.objs.size) { s with heap:=c }:=λa f i c d j e=>
  ⟨.ref s.heap.objs.size,_,I.laid j (VaN _) (show Zdl X.prog X.w _ c _ (.lst ys) from ⟨i,a,d,f,e⟩),rfl,q _ (I.hok.fresh (VaN _))⟩
 rcases hq with hq | hq
 ·obtain ⟨a,f,v,i⟩:=I.list hq;have k:=f.length;obtain ⟨o,x,y,n,t⟩:=v.isList;exact call_list_seq p (.inl rfl) x y t (λc d j e=>m a f i c d j e) (by simp only [VaR]<;>omega)
 ·obtain ⟨a,f,v,i⟩:=I.tuple hq;have k:=f.length;obtain ⟨o,x,y,n,t⟩:=v;exact call_list_seq p (.inr rfl) x y t (λc d j e=>m a f i c d j e) (by simp only [VaR]<;>omega)
def ZdO:ZdA X (.type "tuple") (λxs H Q=>∃p ys,xs=[.ref p]/\((SqL X.K H p ys/\∀l,H l=none->Q (.ref l) (upd H l (.tup ys)))\/(SqT X.K H p ys/\Q (.ref p) H))):=by
 intro c s σ H xs v Q I r h;obtain ⟨p,ys,rfl,h⟩:=h;obtain ⟨u,rfl,n⟩:=vals1 r;cases n;rcases h with ⟨hq,q⟩ | ⟨hq,q⟩
 ·obtain ⟨a,g,d,i⟩:=I.list hq;have j:=g.length;refine call_tuple_list d.isList (λf t=>?_) (by simp only [VaR]<;>omega);have k:=I.kept (t':=s.toks) t;have m:Inv X c σ (upd H f.objs.size (.tup ys)) { s with heap:=f.push { cls:=.type "tuple",data:=.seq a.toArray } } :=
   k.laid (λb o e=>VaH _ e) (VaN _) (⟨i,a,g,IsTup.new _ _⟩)
  exact ⟨.ref f.objs.size,_,m,rfl,q _ (k.hok.fresh (VaN _))⟩
 ·obtain ⟨a,g,d,i⟩:=I.tuple hq;exact call_tuple_same d ⟨.ref p,H,I,rfl,q⟩
def tyV(K:W.Frag)(T:String)(x:V)(H:Hp):Prop:=match x with
 | .str _=>T = "str"
 | .int _=>T = "int"
 | .ref p=>(T = "list"/\∃b,SqL K H p b)\/(T = "tuple"/\∃o,K.lookup p=some o/\o.cls=.type "tuple"/\o.dict=none) \/
   (T = "dict"/\((∃a,H p=some (.dK a))\/∃a,H p=some (.dT a)))\/(T = "set"/\∃S n,H p=some (.set S n))
 | _=>False
def Zud(I:09)(r:RelV x v)(ty:tyV X.K T x H) :
  s.TypeIs v T/\∀a,v=.ref a->∃ob,s.heap.get? a=some ob/\ob.dict=none:=by
 cases x with
 | str z=>
  obtain ⟨t,rfl⟩:=r;cases (ty);exact ⟨Vbp s z t,λ_ e=>nomatch e⟩
 | int i=>
  obtain ⟨t,rfl⟩:=r;cases (ty);exact ⟨typeIs_int s i t,λ_ e=>nomatch e⟩
 | ref p=>
  cases r;rcases ty with ⟨rfl,xs,hq⟩ | ⟨rfl,o,hk,hc,b⟩ | ⟨rfl,hk⟩ | ⟨rfl,S,n,hk⟩
  ·obtain ⟨g,_,f,_⟩:=I.list hq;refine ⟨f.isList.typeIs,λa e=>?_⟩;cases e;obtain ⟨o,n,e,c,b,_⟩:=f;exact ⟨o,e,b⟩
  ·refine ⟨⟨o,I.kIn p o hk,hc⟩,λa e=>?_⟩;cases e;exact ⟨o,I.kIn _ o hk,b⟩
  ·have z:∃o,s.heap.get? p=some o/\o.ExactDict:=by
    rcases hk with ⟨kvs,hk⟩ | ⟨kvs,hk⟩
    ·obtain ⟨_,_,_,_,o,_,_,e,ex,_⟩:=I.hok p _ hk;exact ⟨o,e,ex⟩
    ·obtain ⟨_,_,_,_,o,_,_,e,ex,_⟩:=I.hok p _ hk;exact ⟨o,e,ex⟩
   obtain ⟨o,e,ex⟩:=z;refine ⟨⟨o,e,ex.1⟩,λa d=>?_⟩;cases d;exact ⟨o,e,ex.2.1⟩
  ·obtain ⟨o,_,_,_,e,ex,_⟩:=I.hok p _ hk;refine ⟨⟨o,e,ex.1⟩,λa d=>?_⟩;cases d;exact ⟨o,e,ex.2.1⟩
 | _=>exact False.elim ty
def tBM(K:W.Frag)(T:String)(r:V->List V->Hp->VK->Prop)(to:TE)(t:TA):TE:=λσ H Q=>to σ H λx a=>tyV K T x a/\t σ a λb c=>r x b c Q
variable{o e:Expr}{es:List Expr}{to:TE}{t:TA}{name:Str}{apos cpos:Pos}{T id:String}{r:V->List V->Hp->VK->Prop}
def Zpd(pa:PlainAttrs T)(slot:Slot T name id)(hty:typeOf (.builtin id)=pure (.type "method_descriptor"))(hm:MtR X id r)(ho:PE X o to)(ha:PA X (e::es) t)(hbase:attributeBase o name X.env (eval o X.env)=eval o X.env:=by rfl) (hfew:((backTo cpos (starEach (e::es) X.env)).all (λx=>!x.1)&&(backToKw cpos (keywordEach [] X.env)).all (λx=>x.1.isSome)
   && decide ((e::es).length+([]:List Keyword).length+(if ([]:List Keyword).isEmpty then 0 else 1)<30))=true:=by rfl) (hline:(apos.endLine==cpos.line)=true:=by rfl) (hs:011:=by rfl) (hplain:(backTo cpos (starEach es X.env)).any (·.1)=false:=by rfl) :
  PE X (.Call (.Attribute o name apos) (e::es) [] cpos) (tBM X.K T r to t):=by
 intro a s σ H Q I h;refine wpAny_Call_method_late hbase hfew hline rfl (thn (ho a s σ H _ I h) λv j zq=>?_);obtain ⟨x,w,d,c,l,u⟩:=zq;obtain ⟨k,m⟩:=Zud d c l;refine ⟨T,id,pa,slot,hty,k,m,?_⟩;have b:=ha cpos a j σ w _ d u;rw [hs] at b ⊢;refine Calls.callWith_builtin (by show (false||(backTo cpos (starEach es X.env)).any (·.1))=false;rw [hplain]<;>rfl) (Calls.evalArgs_plain ?_);exact thn b λy p ⟨q,g,i,n,f⟩=>hm a p σ g x q v y Q i c n f
end
def MtM(X:Cx)(id:String)(r:V->List V->Hp->VK->Prop):Prop :=
 ∀a s σ H x c v b Q,Inv X a σ H s->RelV x v->Vals c b->r x c H Q ->
  wX X (call (.builtin id) (v::b)) (EP X a σ Q) X.xe s
def Vals.one:∀{x:V} {us:List Value},Vals [x] us->∃u,us=[u]/\RelV x u
 | _,_,.cons r .nil=>⟨_,rfl,r⟩
section
variable{X:Cx}{pins:List (Addr×Obj)}{σ:St}{H:Hp}{s:Shared}{l b:Addr}{xs ys zs:List V}
def Inv.lset{its its':List Value}(I:09)(hH:H l=some (.lst xs))(e:s.heap.get? l=some { cls:=.type "list",data:=.seq its.toArray n })(hf:f its.toArray=its'.toArray)(hv:Vals ys its')(hz:ys.length<=sizeLine) :
  Inv X pins σ (upd H l (.lst ys)) { s with heap:=s.heap.update l (Obj.mapSeq f),toks:=t' }:=by
 have q:=PySem.IsL.update e f;rw [hf] at q;refine I.write (by rw [hH];exact trivial) (.inl rfl) (λc u b a=>(Vbq s.heap (Obj.mapSeq f) (Ne.symm b)).trans a) ⟨_,q⟩ ?_;exact ⟨hz,its',_,hv,q⟩
def Inv.lnew(I:09)(hv:Vals ys its)(hz:ys.length<=sizeLine) :
  Inv X pins σ (upd H s.heap.objs.size (.lst ys)) { s with heap:=s.heap.push { cls:=.type "list",data:=.seq its.toArray },toks:=t' } :=
 I.laid (λ_ _ q=>VaH _ q) (VaN _) ⟨hz,its,0,hv,VaM _ rfl⟩
def Inv.fresh(I:09):H s.heap.objs.size=none:=I.hok.fresh (VaN _)
def Inv.lstM(I:09)(hH:H l=some (.lst xs)):xs.length<=sizeLine/\∃its n,Vals xs its/\xs.length=its.length/\s.heap.get? l=some { cls:=.type "list",data:=.seq its.toArray n }:=by
 obtain ⟨z,its,n,r,e⟩:=I.hok l _ hH;exact ⟨z,its,n,r,r.length,e⟩
end
section
variable{X:Cx}
def Zd6:V->List V->Hp->VK->Prop:=λx b H Q=>∃l a y,x=.ref l/\b=[y]/\H l=some (.lst a)/\a.length<sizeLine/\Q .non (upd H l (.lst (a++[y])))
def ZgG:MtM X "list.append" Zd6:=by
 intro c s σ H x j v o Q I f g h;obtain ⟨l,m,y,rfl,rfl,b,k,q⟩:=h;cases f;obtain ⟨u,rfl,d⟩:=g.one;obtain ⟨z,a,n,r,i,e⟩:=I.lstM b;refine call_meets F.slot_list_append ⟨_,e,rfl⟩ F.entry_list_append (F.args_list_append_2 _ _) (PySem.list_append l a.toArray n u (by rw [VaR];omega)) ⟨e,?_⟩;refine ⟨.non,_,I.lset b e 03 (r.append (.cons d .nil)) ?_,rfl,q⟩;rw [Vbf,List.length_singleton];omega
end
section
variable{prog:Program}{w:World}{A:Around}{E:Value->Shared->Prop}{s:Shared}
set_option maxRecDepth 100000 in
end
end L2
namespace Att
open PySem.W PySem.Calls
def Zgw:∀ns vs,WellAll P h vs (ns.map WData.int)->IntsAre vs ns:=by
 intro ns
 induction ns with
 | nil=>
  intro vs w;rw [List.map_nil] at w;cases w;exact .nil
 | cons n ns ih=>
  intro vs w;rw [VaW] at w;cases w with
  | cons a b=>
   cases a;exact .cons _ _ (ih _ b)
def ZmE{l:OpenLaw}(hn:l.most=some n){h:Heap}(hpre:l.row.toRowW.claim.pre args=true)(hwl:WellAll P h vals args) :
  ∃a vs ns,vals=[Value.ref a]/\args=[WData.list (ns.map WData.int)]/\h.get? a=some { cls:=.type "list",data:=.seq vs.toArray }/\IntsAre vs ns/\ns.length<=n:=by
 have f:=(pre_splitW hpre).1;have g:l.pre.holds [] { args:=args }=true:=(pre_splitW hpre).2;obtain ⟨d,r,rfl,j,m⟩:=hasAllW_cons f;obtain rfl:=hasAllW_nil m;obtain ⟨o,rfl,i⟩:=hasW_list j;obtain ⟨ns,rfl⟩:=items_int i;have b:ns.length<=n:=by
  unfold OpenLaw.pre at g;have c:(WTm.not (.lt (.lit (.int (n:Int))) (.len (.arg 0)))).holds [] { args:=[.list (ns.map .int)] }=true:=by
   have c:=(holds_andW g).1;rw [hn] at c;exact c
  have e:=condW_of c (w_not (w_lt w_lit (w_len_list (w_arg rfl))));rw [VaX] at e;refine Nat.le_of_not_lt λq=>?_;have k:(n:Int)<((ns.length:Nat):Int):=by omega
  first
   | (rw [Vbr k] at e;exact aB e 00)
   | (simp at e;omega)
 cases hwl with
 | cons w1 w2=>
  cases w2;cases w1 with
  | list ho hall=>exact ⟨_,_,ns,rfl,rfl,ho,Zgw ns _ hall,b⟩
def ZnW(l:OpenLaw)(args:List WData):l.row.toRowW.claim.post args (.bool true) args=true :=
 postW_of
  (by first | rfl | decide | simp [WShape.has,WShape.arms,WShape.armsAll])
  (w_eq_bool (w_res rfl) w_lit) rfl
def Zkz{l:OpenLaw}{d:DefRec}(hn:l.most=some n)(hdf:d.params.defaults=[]) (call:∀(w:World) (s₀ s₁:Shared) (mg mb:001) (fa:Addr) (o:Obj) (pm cd doc:Value) (a:Addr) (vs:List Value) (ns:List Int),
   Ground q loose [] XP w s₀ mg mb s₁.heap->YP w s₁.heap ->
   s₁.heap.get? fa=some o->o.data=.func (docDef d.name d.params d.body d.scope pm cd doc)->s₁.heap.CodeRec cd d.name->mg d.name=some (.ref fa) ->
   s₁.heap.get? a=some { cls:=.type "list",data:=.seq vs.toArray }->IntsAre vs ns->ns.length<=n->s₁.gens=#[] ->
   codeAny (model l.prog w) callerA (.call (.ref fa) ⟨[.ref a],[]⟩) (λr s'=>r=.ok (.ret (.bool true))/\OldK s₁.heap s'.heap/\s'.os=s₁.os/\AllBare s'.gens) s₁) :
  WalkO q loose XP YP l.row.toRowW d [] (λf vs=>PySem.call f vs):=by
 intro w s₀ s₁ mg mb G Y fa o pm cd doc u x B t h m i v k s H e p y j E;obtain rfl:u=.none:=Dflts.none m hdf;obtain rfl:x=.none:=Dflts.noKw m;obtain ⟨a,vs,ns,rfl,rfl,c,b,g⟩:=ZmE hn e j;refine enter_call (Va4 (call w s₀ s₁ mg mb fa o pm cd doc a vs ns G Y B (fd_plain t) h i c b g v) λr s' D=>?_);obtain ⟨rfl,C,z,A⟩:=D;exact ⟨.inl ⟨.bool true,.bool true,[],rfl,λ_=>rfl,.bool true,ZnW l _,λ_=>⟨List.Pairwise.nil,λ_ F=>(nomatch F)⟩⟩,C,z,A⟩
end Att
namespace L2
def Zdi:∀{vs:List Value} {ns:List Int},IntsAre vs ns->Vals (ns.map V.int) vs
 | _,_,.nil=>.nil
 | _,_,.cons n t h=>.cons ⟨t,rfl⟩ (Zdi h)
def Only(H:Hp):Prop:=∀b,H b=none\/∃o a,H b=some (.frz o (.lst a))
def ZoZ{K:W.Frag}{s₁:Shared}{vs:List Value}{ns:List Int}(KX:K.In s₁.heap)(hns:s₁.heap.Ns mainGlobals mg)(hb:s₁.heap.Ns builtinsNs mb)(hbb:∀x:Str,x ≠ "__name__"->mb x=bootBuiltins x)(hlim:s₁.heap.NoLimit)(hg:s₁.gens=#[])(ha:s₁.heap.get? a=some { cls:=.type "list",data:=.seq vs.toArray })(hi:IntsAre vs ns)(hl:ns.length<=sizeLine)(hr:Room k callerA)(F:∀base:Heap,K.In base->base.Ns mainGlobals mg->FnOk P w K mg base CX k fa fd [x] sp)(hbind:∀(s:Shared) (u:Value),BindsTo s fd ⟨[u],[]⟩ [(x,u)])(hsp:∀H:Hp,Only H->SqL K H a (ns.map V.int)->sp [.ref a] H (λv _=>v=.bl true) λ_ _ _=>False)(hCX:∀H e s',CX [] H s₁ (λ_ _ _=>False) e s'->False) :
  codeAny (model P w) callerA (.call (.ref fa) ⟨[.ref a],[]⟩) (λr s'=>r=.ok (.ret (.bool true))/\OldK s₁.heap s'.heap/\s'.os=s₁.os/\AllBare s'.gens) s₁:=by
 have I:=Zdi hi;have p:=hi.length;have g:∀H:Hp,Only H->SqL K H a (ns.map V.int)->HOk P w H s₁.heap->(∀b,H b≠none->b=a)->(H a≠none->K.lookup a=none) ->
   codeAny (model P w) callerA (.call (.ref fa) ⟨[.ref a],[]⟩) (λr s'=>r=.ok (.ret (.bool true))/\OldK s₁.heap s'.heap/\s'.os=s₁.os/\AllBare s'.gens) s₁:=by
  intro H J S y L N;have c:∀{b:Addr} {o:Obj},s₁.heap.get? b=some o->H b=none->(hidT s₁.heap H).get? b=some o:=λe n=>Zqm e n;have C:∀{b:Addr} {o:Obj} {A:Array DictEntry} {B:Nat},s₁.heap.get? b=some o->o.data=.dict A B->H b=none:=λ{b o A B} e d=>by
   cases q:H b with
   | none=>rfl
   | some u=>
    have D:=L b (by rw [q];simp);subst D;rw [ha] at e;cases e;have O:=d;cases O
  have f:∀{b:Addr} {m:001},s₁.heap.Ns b m->(hidT s₁.heap H).Ns b m:=λ{b m} ⟨o,A,B,e,d,r⟩=>⟨o,A,B,c e (C e d),d,r⟩
  have i:K.In (hidT s₁.heap H):=λb o e=>c (KX b o e) (by
   cases q:H b with
   | none=>rfl
   | some u=>
    have D:=L b (by rw [q];simp);subst D
    rw [N (by rw [q];simp)] at e;cases e)
  have T:Mod K mg (hidT s₁.heap H):=⟨i,f hns,⟨mb,f hb,hbb⟩,let ⟨mc,h1,h2⟩:=hlim;⟨mc,f h1,h2⟩⟩;have R:Env0 P w K mg (hidT s₁.heap H) callerA [] s₁ H:=⟨rfl,T,λb o e=>ZtG e,Nat.le_of_eq (ZoH _ _),trivial,λb hb=>aB (show b∈([]:List Addr) from hb) 03,y,.of_eq hg⟩;refine Va4 ((F _ i (f hns)).run callerA [] s₁ H ⟨[.ref a],[]⟩ [.ref a] [.ref a] _ _ hr R (hbind s₁ (.ref a)) (.cons rfl .nil) (hsp H J S)) λr s' h=>?_;cases r with
  | error e=>exact (hCX H e s' h).elim
  | ok fl=>
   cases fl with
   | next=>exact False.elim h
   | brk=>exact False.elim h
   | cont=>exact False.elim h
   | ret u=>
    obtain ⟨v,Y,os,l,G,j,U,q⟩:=h;have Q:=q;subst Q;obtain rfl:u=Value.bool true:=U;refine ⟨rfl,OldK.of_keep λb o e=>?_,os,l⟩;cases q:H b with
    | none=>exact G.keep b o e q (by intro z;exact aB (show b∈([]:List Addr) from z) 03) 03
    | some u=>
     rcases J b with z | ⟨ob,xs,z⟩
     ·rw [q] at z;cases z
     ·have X:=G.frzs b ob _ z;obtain ⟨E,_⟩:=y b _ z;obtain ⟨M,_⟩:=j b _ X;rw [e] at E;cases E;exact M
 cases hk:K.lookup a with
 | some o=>
  have e:=KX a o hk;rw [ha] at e;cases e;refine g (λ_=>none) (λ_=>.inl rfl) (.inr ⟨_,vs.toArray,_,hk,rfl,rfl,rfl,by rw [VaR,p];exact hl,by simpa using I⟩) (λb u z=>by have t:(none:Option HO)=some u:=z;cases t) (λb z=>aB rfl z) λz=>aB rfl z
 | none=>
  refine g (λb=>if b=a then some (.frz { cls:=.type "list",data:=.seq vs.toArray } (.lst (ns.map V.int))) else none) (λb=>?_) (.inl (.inr ⟨{ cls:=.type "list",data:=.seq vs.toArray },iP rfl⟩)) (λb u z=>?_) (λb z=>?_) λ_=>hk
  ·by_cases hb:b=a
   ·exact .inr ⟨_,_,iP hb⟩
   ·exact .inl (iN hb)
  ·by_cases hb:b=a
   ·have t:=(iP hb).symm.trans z;cases t;subst hb;exact ⟨ha,by rw [VaX];exact hl,vs,_,I,ha⟩
   ·have t:=(iN hb).symm.trans z;cases t
  ·by_cases hb:b=a
   ·exact hb
   ·exact aB (iN hb) z
def ZsN{l:W.OpenLaw}{n k:Nat}{q:Program}{loose:List Str}{XP:001->Heap->Prop}{YP:World->Heap->Prop}{d:DefRec}{K:Params->W.Frag}{CX:World->CXT}{sp:World->Sp}{x:Str}(hn:l.most=some n)(hn2:n<=sizeLine)(hdf:d.params.defaults=[])(hr:Room k callerA)(hY:∀(w:World) (h:Heap),YP w h->(K w.params).In h) (F:∀(w:World) (mg:001) (fa:Addr) (h:Heap),(K w.params).In h->h.Ns mainGlobals mg->mg d.name=some (.ref fa) ->
   ∃fd:FuncData,(∀(s:Shared) (u:Value),BindsTo s fd ⟨[u],[]⟩ [(x,u)]) /\
    ∀base:Heap,(K w.params).In base->base.Ns mainGlobals mg->FnOk l.prog w (K w.params) mg base (CX w) k fa fd [x] (sp w)) (hsp:∀(w:World) (H:Hp) (a:Addr) (ns:List Int),ns.length<=n->Only H->SqL (K w.params) H a (ns.map V.int)->sp w [.ref a] H (λv _=>v=.bl true) λ_ _ _=>False) (hCX:∀(w:World) (H:Hp) (s:Shared) (e:Value) (s':Shared),CX w [] H s (λ_ _ _=>False) e s'->False) :
  W.WalkO q loose XP YP l.row.toRowW d [] (λf vs=>PySem.call f vs):=by
 refine Att.Zkz hn hdf λw r m mg M fa o L N A a vs ns G Y J I C p j i c z=>?_;have t:=hY w _ Y;obtain ⟨fd,B,D⟩:=F w mg fa _ t G.T.g p;exact ZoZ t G.T.g G.T.b G.T.builtins G.T.nolimit z j i (Vao c hn2) hr D B (λH E y=>hsp w H a ns c E y) λH e s'=>hCX w H m e s'
abbrev E0:XK:=λ_ _ _=>False
structure Fun(K:W.Frag)(x qual:Str)(st:Stmt)(f:Addr)(fd:FuncData):Prop where
 ex:∃(oc:Value) (od:Option Addr) (kV doc pm:Value) (an:Option Addr) (cdv ct:Value) (osl:Array (Option Value)),
  fd=W.fnOf x qual (Ze2 st) (Zb8 st) (Zad st) .none kV doc pm an cdv ct/\K.lookup f=some ⟨oc,od,.func fd,osl⟩/\W.codeIn K cdv qual=true
 kp:W.keepIn K (.ref f)=true
section
variable{P:Program}{w:World}{K:W.Frag}{mg:Str->Option Value}{base:Heap}
def Fun.binds{x qual:Str}{st:Stmt}{f:Addr}{fd:FuncData}{ps:List Str}(F:Fun K x qual st f fd)(h:∀(kV doc pm:Value) (an:Option Addr) (cdv ct:Value) (us:List Value),us.length=ps.length->bindArgs (W.fnOf x qual (Ze2 st) (Zb8 st) (Zad st) .none kV doc pm an cdv ct) ⟨us,[]⟩=pure (ps.zip us)):Binds K fd ps []:=by
 obtain ⟨d,e,kV,doc,pm,an,cdv,ct,b,rfl,c,a⟩:=F.ex;exact .all (h kV doc pm an cdv ct)
def Zf5{x qual:Str}{st:Stmt}{f:Addr}{oc:Value}{od an:Option Addr}{osl:Array (Option Value)}{kV doc pm cdv ct:Value}(l:K.lookup f=some ⟨oc,od,.func (W.fnOf x qual (Ze2 st) (Zb8 st) (Zad st) .none kV doc pm an cdv ct),osl⟩)(c:W.codeIn K cdv qual=true)(k:W.keepIn K (.ref f)=true):Fun K x qual st f (W.fnOf x qual (Ze2 st) (Zb8 st) (Zad st) .none kV doc pm an cdv ct):=⟨⟨oc,od,kV,doc,pm,an,cdv,ct,osl,rfl,l,c⟩,k⟩
end
def Zn9(h:n<=1000):n<sizeLine:=Vbs h 00
def Same(H H':Hp):Prop:=∀b o,H b=some o->H' b=some o
def Same.refl(H):Same H H:=λ_ _ h=>h
def Same.trans(a:Same H H1)(b:Same H1 H2):Same H H2:=λc o h=>b c o (a c o h)
def Same.free(e:Same H H')(h:H' l=Option.none):H l=Option.none:=by
 cases q:H l with
 | none=>rfl
 | some o=>
  rw [e l o q] at h;cases h
def Same.seq{K:W.Frag}{H H':Hp}{a:Addr}{xs:List V}(e:Same H H')(h:SqL K H a xs):SqL K H' a xs:=by
 rcases h with (h | ⟨o,h⟩) | h
 ·exact .inl (.inl (e _ _ h))
 ·exact .inl (.inr ⟨o,e _ _ h⟩)
 ·exact .inr h
end L2
section
variable{X:L2.Cx}{σ:L2.St}{H:L2.Hp}{s:PySem.Shared}{pins:List (PySem.Addr×PySem.Obj)}{us:List PySem.Value}{pos spos cpos pos':PySem.Pos}{A:PySem.Around}{i n k j:Nat}{e:PySem.Expr}{w:PySem.World}{P:PySem.Program}{K:W.Frag}{x:PySem.Str}{xs:List L2.V}{mg:PySem.Str->Option PySem.Value}{base:PySem.Heap}{ps N:List PySem.Str}{es:List PySem.Expr}{te:L2.TE}{fd:PySem.FuncData}
namespace L2
section
def ZtK:OpR X (binaryOp .Mult) (rI IntMulOk λi j=>.int (i*j)):=opI λ_ _ _ _ _ _ _ a q=>mul_int q a
def ZrH(_ j:Int):Prop:=j≠0/\j.natAbs.log2<9000
def ZpG:OpR X (binaryOp .FloorDiv) (rI ZrH λi j=>.int (i.fdiv j)):=opI λ_ _ _ _ _ _ _ a q=>floordiv_int a.1 q (.inl (PyProof.noPylong_of_log2 a.2))
def ZwF{n:String}(hg:Gl X x)(hm:X.mg x=none)(hv:bootBuiltins x=some (.type n))(hn:x ≠ "__name__":=by decide)(hd:ND x:=by decide):PE X (.Name x pos) (tC (.ty n)) :=
 ZsM hg hm hv rfl hn hd
end
def Zun:bootBuiltins "abs"=some (.builtin "abs"):=by decide +kernel
def ZgX:bootBuiltins "all"=some (.builtin "all"):=by decide +kernel
def ZdL:bootBuiltins "isinstance"=some (.builtin "isinstance"):=by decide +kernel
def Zls:bootBuiltins "len"=some (.builtin "len"):=by decide +kernel
def Zrx:bootBuiltins "max"=some (.builtin "max"):=by decide +kernel
def ZuV:bootBuiltins "min"=some (.builtin "min"):=by decide +kernel
def Zrk:bootBuiltins "int"=some (.type "int"):=by decide +kernel
def ZtI:bootBuiltins "bool"=some (.type "bool"):=by decide +kernel
def Zgk:bootBuiltins "tuple"=some (.type "tuple"):=by decide +kernel
def ZnM:bootBuiltins "list"=some (.type "list"):=by decide +kernel
def ZrC:bootBuiltins "str"=some (.type "str"):=by decide +kernel
def ZoU(K)(t):W.kitOne K t t=some true:=by
 unfold W.kitOne;rw [iP (beq_self_eq_true t)]
def ZuM(K)(hne:(Value.type T==Value.type U)=false)(hm:W.kitMeta U=true)(h:(fastBuiltinMro T).map (·.contains (Value.type U))=some b):W.kitOne K (.type T) (.type U)=some b:=by
 unfold W.kitOne;rw [iN (by rw [hne];exact VaJ)];show (if W.kitMeta U=true then _ else none)=_
 rw [iP hm];exact h
mutual
inductive DV(K:W.Frag)(H:Hp):V->PyData->Prop
 | non:DV K H .non .none
 | bl (b:Bool):DV K H (.bl b) (.bool b)
 | int (i:Int):DV K H (.int i) (.int i)
 | str (x:Str):DV K H (.str x) (.str x)
 | tup {a:Addr} {xs:List V} {ds:List PyData} (h:SqT K H a xs) (r:DVs K H xs ds):DV K H (.ref a) (.tuple ds)
 | lst {a:Addr} {xs:List V} {ds:List PyData} (h:SqL K H a xs) (r:DVs K H xs ds):DV K H (.ref a) (.list ds)
inductive DVs(K:W.Frag)(H:Hp):List V->List PyData->Prop
 | nil:DVs K H [] []
 | cons {x:V} {xs:List V} {d:PyData} {ds:List PyData} (h:DV K H x d) (r:DVs K H xs ds):DVs K H (x::xs) (d::ds)
end
section
mutual
def DV.reads(I:09){x:V}{d:PyData}{u:Value}(h:DV X.K H x d)(r:RelV x u):∃as,Reads s.heap u d as:=by
 cases h with
 | non=>cases r;exact ⟨_,.none⟩
 | bl b=>cases r;exact ⟨_,.bool b⟩
 | int i=>obtain ⟨t,rfl⟩:=r;exact ⟨_,.int i t⟩
 | str i=>obtain ⟨t,rfl⟩:=r;exact ⟨_,.str i t⟩
 | tup h q=>
  cases r;obtain ⟨a,e,⟨o,f,j,n,c⟩,_⟩:=I.tuple h;obtain ⟨as,g⟩:=DVs.reads I q e;exact ⟨_,.tuple f j c (by simpa using g)⟩
 | lst h q=>
  cases r;obtain ⟨a,e,k,_⟩:=I.list h;obtain ⟨o,f,j,n,c⟩:=k.isList;obtain ⟨as,g⟩:=DVs.reads I q e;exact ⟨_,.list f j c (by simpa using g)⟩
def DVs.reads(I:09){xs:List V}{ds:List PyData}{us:List Value}(h:DVs X.K H xs ds)(r:Vals xs us):∃as,ReadsAll s.heap us ds as:=by
 cases h with
 | nil=>cases r;exact ⟨_,.nil⟩
 | cons h q=>
  cases r with
  | cons r1 r2=>
   obtain ⟨as,b⟩:=DV.reads I h r1;obtain ⟨c,a⟩:=DVs.reads I q r2;exact ⟨_,.cons b a⟩
end
end
section
def rEqD(K:W.Frag)(f:Bool->Bool):R2:=λx y H Q=>∃a b,DV K H x a/\DV K H y b/\a.canLay0=true/\b.canLay0=true/\a.depth<=60/\Q (.bl (f (PyData.eqv a b))) H
def ZqS(hu:X.A.units+64<cLine):OpR X (compareOp .Eq) (rEqD X.K id):=by
 intro a s σ H x y v u Q I g i h;obtain ⟨n,o,d,f,b,c,m,q⟩:=h;obtain ⟨l,e⟩:=d.reads I g;obtain ⟨k,j⟩:=f.reads I i;exact PySem.SeqAt.compareEq_reads e j b c 000 (ZhY I q rfl)
def Zuu(hu:X.A.units+64<cLine):OpR X (compareOp .NotEq) (rEqD X.K not):=by
 intro a s σ H x y v u Q I g i h;obtain ⟨n,o,d,f,b,c,m,q⟩:=h;obtain ⟨l,e⟩:=d.reads I g;obtain ⟨k,j⟩:=f.reads I i;exact PySem.SeqAt.compareNe_reads e j b c 000 (ZhY I q rfl)
end
structure Def(K:W.Frag)(mg:001)(x:Str)(st:Stmt)(ps:List Str):Prop where
 ex:∃(f:Addr) (fd:FuncData),Fun K x x st f fd/\Binds K fd ps []/\mg x=some (.ref f)
def ZaV(h:H p=none)(o):Same H (upd H p o):=λb u q=>by rw [Zaf (Zai q h)];exact q
end L2
namespace L2
def ZqO(ts:List Expr)(env:Env):Sem Bool:=match ts with
 | []=>pure true
 | c::_=>isTrue c env (eval c env)
def Zke(elt target iter c)(scope)(pos)(it acc)(env) :
  compTurn (.ListComp elt [⟨target,iter,[c],0⟩] scope pos) 0 it acc env=(standAt iter.pos >>= λ_=>pyNext it >>= λr=>match r with
   | none=>pure (.done .next)
   | some v=>letOwnedTupleGo target it v >>= λ_=>assign target env v >>= λ_=>
    (forIn [c] true λ(c:Expr) (s:Bool)=>if s=true then (isTrue c env (eval c env) >>= λok=>pure (ForInStep.yield ok)) else pure (ForInStep.yield s)) >>= λs=>if s=true then
     (eval elt env >>= λx=>call (.builtin "list.append") [acc,x] >>= λ_=>pure ()) >>= λ_=>
      again (.compLoop (.ListComp elt [⟨target,iter,[c],0⟩] scope pos) 0 it acc env)
     else again (.compLoop (.ListComp elt [⟨target,iter,[c],0⟩] scope pos) 0 it acc env)):=by rfl
def ZjJ(hts:ts.length<=1)(I:Nat->Shared->Prop) (turn:∀n s,I n s->wpAny 08 A (pyNext it) (λr s₁=>match r with
   | none=>R (.ok .next) s₁
   | some v=>wpAny 08 A (letOwnedTupleGo target it v) (λ_ s₁'=>wpAny 08 A (assign target env v) (λ_ s₂=>wpAny 08 A (ZqO ts env) (λb s₂'=>if b=true then wpAny 08 A (eval elt env) (λx s₃=>
     wpAny 08 A (call (.builtin "list.append") [acc,x]) (λ_ s₄=>∃m,m<n/\I m s₄) (notedBy 08 A env λe s'=>R (.error e) s') s₃)
     (notedBy 08 A env λe s'=>R (.error e) s') s₂' else ∃m,m<n/\I m s₂') (notedBy 08 A env λe s'=>R (.error e) s') s₂) (notedBy 08 A env λe s'=>R (.error e) s') s₁') (notedBy 08 A env λe s'=>R (.error e) s') s₁) (notedBy 08 A env λe s'=>R (.error e) s') s) (n:Nat) (h:I n s) :
  codeAny 08 A (.compLoop (.ListComp elt [⟨target,iter,ts,0⟩] scope pos) 0 it acc env) R s:=by
 refine codeAny_loop rfl I (λn s l=>?_) n h;refine wpAny_noted ?_
 match ts,hts with
 | [],_=>
  refine VaD (VaE (VaD (Vax (turn n s l) (λr s₁ f=>?_) λ_ _ d=>d)));cases r with
  | none=>exact VaF f
  | some v=>
   refine VaD (Vax f (λ_ s₁' g=>?_) λ_ _ d=>d);refine VaD (Vax g (λ_ s₂ j=>?_) λ_ _ d=>d);show wpAny _ _ ((pure true:Sem Bool) >>= λb=>if b=true then ((eval elt env >>= λx=>call (.builtin "list.append") [acc,x] >>= λ_=>pure ()) >>= λ_=>again (.compLoop (.ListComp elt [⟨target,iter,[],0⟩] scope pos) 0 it acc env)) else again (.compLoop (.ListComp elt [⟨target,iter,[],0⟩] scope pos) 0 it acc env)) _ _ s₂
   refine VaD (Vax j (λb s₂' a=>?_) λ_ _ d=>d);cases b with
   | true=>
    exact VaD (VaD (Vax a (λx s₃ k=>VaD (Vax k (λ_ s₄ i=>VaF (VaF ⟨rfl,i⟩)) λ_ _ d=>d)) λ_ _ d=>d))
   | false=>
    exact VaF ⟨rfl,a⟩
 | [c],_=>
  rw [Zke];refine VaD (VaE (VaD (Vax (turn n s l) (λr s₁ f=>?_) λ_ _ d=>d)));cases r with
  | none=>exact VaF f
  | some v=>
   refine VaD (Vax f (λ_ s₁' g=>?_) λ_ _ d=>d);refine VaD (Vax g (λ_ s₂ j=>?_) λ_ _ d=>d);rw [List.forIn_cons];refine VaD (VaD ?_);refine VaD (Vax j (λb s₂' a=>VaF ?_) λ_ _ d=>d);refine VaF ?_;cases b with
   | true=>
    exact VaD (VaD (Vax a (λx s₃ k=>VaD (Vax k (λ_ s₄ i=>VaF (VaF ⟨rfl,i⟩)) λ_ _ d=>d)) λ_ _ d=>d))
   | false=>
    exact VaF ⟨rfl,a⟩
def Zg5:∀names h acc n c,(n,c)∈PySem.cellsFrom h.objs.size names acc->(n,c)∈acc\/((PySem.pushCells h names).IsCell c none/\h.objs.size<=c)
 | [],_,_,_,_,hm=>.inl hm
 | (name,kind)::r,h,acc,n,c,hm=>by
  unfold PySem.cellsFrom at hm;unfold PySem.pushCells;split at hm
  ·rename_i hk;rw [iP hk];have a:(n,c)∈PySem.cellsFrom (h.push { cls:=.type "cell",data:=.cell none }).objs.size r ((name,h.objs.size)::acc):=by rw [VaY];exact hm
   rcases Zg5 r (h.push { cls:=.type "cell",data:=.cell none }) ((name,h.objs.size)::acc) n c a with z | ⟨z1,z2⟩
   ·rcases Vat.mp z with e | z
    ·cases e;exact .inr ⟨⟨_,PySem.pushCells_keeps r _ _ _ (VaM _ rfl),rfl⟩,VaN _⟩
    ·exact .inl z
   ·rw [VaY] at z2;exact .inr ⟨z1,by omega⟩
  ·rename_i hk;rw [iN hk];exact Zg5 r h acc n c hm
def ZgL:∀names k acc,(∀n c,(n,c)∈acc->c<k)->(∀n n' c,(n,c)∈acc->(n',c)∈acc->n=n')->∀n n' c,(n,c)∈PySem.cellsFrom k names acc->(n',c)∈PySem.cellsFrom k names acc->n=n'
 | [],_,_,_,hi,n,n',c,h1,h2=>hi n n' c h1 h2
 | (name,kind)::r,k,acc,hl,hi,n,n',c,h1,h2=>by
  unfold PySem.cellsFrom at h1 h2;split at h1
  ·rename_i hk;rw [iP hk] at h2;refine ZgL r (k+1) ((name,k)::acc) (λm d hm=>?_) (λm a d hm hm'=>?_) n n' c h1 h2
   ·rcases Vat.mp hm with e | hm
    ·cases e;exact VaZ _
    ·exact Nat.lt_succ_of_lt (hl m d hm)
   ·rcases Vat.mp hm with e | hm<;>rcases Vat.mp hm' with e' | hm'
    ·cases e;cases e';rfl
    ·cases e;exact aB (hl _ _ hm') (Vah _)
    ·cases e';exact aB (hl _ _ hm) (Vah _)
    ·exact hi m a d hm hm'
  ·rename_i hk;rw [iN hk] at h2;exact ZgL r k acc hl hi n n' c h1 h2
def ZgM:∀names k acc,(∀y∈names,y.2=.cell->y.1≠x)->(PySem.cellsFrom k names acc).lookup x=acc.lookup x
 | [],_,_,_=>rfl
 | (name,kind)::r,k,acc,h=>by
  unfold PySem.cellsFrom;split
  ·rename_i hk;rw [ZgM r (k+1) _ λy a=>h y (Var _ a)];have b:name≠x:=h (name,kind) Vaq (by simpa using hk);rw [Vbt,beq_false_of_ne (Ne.symm b)]
  ·exact ZgM r k acc λy a=>h y (Var _ a)
def ZfI:∀names k acc,((acc.lookup x).isSome=true\/(x,NameKind.cell)∈names)->((PySem.cellsFrom k names acc).lookup x).isSome=true
 | [],_,_,h=>by
  rcases h with h | h
  ·exact h
  ·cases h
 | (name,kind)::r,k,acc,h=>by
  unfold PySem.cellsFrom;split
  ·rename_i hk;refine ZfI r (k+1) _ ?_;by_cases e:x=name
   ·subst e;exact .inl 03
   ·rcases h with h | h
    ·exact .inl (by rw [Vbt,beq_false_of_ne e];exact h)
    ·rcases Vat.mp h with z | h
     ·cases z;exact aB rfl e
     ·exact .inr h
  ·rename_i hk;refine ZfI r k acc ?_;rcases h with h | h
   ·exact .inl h
   ·rcases Vat.mp h with z | h
    ·cases z;exact aB rfl hk
    ·exact .inr h
def ZlY{M:Model}{E:Value->Shared->Prop}{scope:Scope}{globals:Addr}{closure:List (Str×Addr)}{qual:Str}{func:Option Addr}{code:Value}{outer:Env}{builtins:Addr}{Q:Env->Shared->Prop} (hQ:∀h',h'.Ns s.heap.objs.size (λ_=>none)->(∀b o,s.heap.get? b=some o->h'.get? b=some o)->(∀n c,(n,c)∈PySem.cellsFrom (s.heap.objs.size+1) scope.names closure->(n,c)∈closure\/(h'.IsCell c none/\s.heap.objs.size+1<=c)) ->
   Q (newEnv scope s.heap.objs.size globals (PySem.cellsFrom (s.heap.objs.size+1) scope.names closure) qual func code (some outer) builtins) { s with heap:=h' }) :
  wpAny M A (newFunctionEnv scope globals closure [] qual func code (some outer) builtins) Q E s:=by
 simp only [newFunctionEnv,Option.isSome_some,Vbi];refine VaD (wpAny_alloc ?_);refine VaD (wpAny_layCells _ (λf a d=>by cases hkc:a==NameKind.cell<;>simp [hkc]) _ _ _ _ ?_);rw [show ({ s with heap:=s.heap.push { cls:=.type "dict",data:=.dict #[] } }:Shared).heap.objs.size=s.heap.objs.size+1 from VaY ..]
 refine VaD (VaF (VaF ?_));refine hQ _ ((Heap.Ns.new s.heap (.type "dict")).keeps (PySem.pushCells_keeps _ _)) (λb o e=>PySem.pushCells_keeps _ _ b o (VaH _ e)) λn c g=>?_;have z:=Zg5 scope.names (s.heap.push { cls:=.type "dict",data:=.dict #[] }) closure n c (by rw [VaY];exact g);rwa [VaY] at z
def PTs(X:Cx)(ts:List Expr)(tt:TT):Prop :=
 ∀a s σ H Q,Inv X a σ H s->tt σ H Q->wX X (ZqO ts X.env) (TP X a σ Q) X.xe s
def tYes:TT:=λ_ H Q=>Q true H
def Ztw:PTs X [] tYes:=λ_ _ _ H _ I h=>VaF ⟨H,I,h⟩
def Za4(X:Cx)(N:List Str)(scope:Scope)(cl:List (Str×Addr))(C:Addr)(s₂:Shared)(H₂:Hp)(fp:List Addr)(pn:List (Addr×Obj)):Cx :=
 { X with N:=N,s₀:=s₂,H₀:=H₂,env:=compEnvC scope (PySem.cellsFrom (C+1) scope.names cl) C X.env,outer:=X.stack,ex:=fp,fn:=λx=>scope.names.lookup x==some .cell,pn:=pn,xe:=λ_ _=>False }
def ZlQ(X:Cx)(sc:Scope)(cl:List (Str×Addr)):List (Str×Nat)->Prop
 | []=>True
 | p::r=>(X.N[p.2]?=some p.1/\X.env.scope.names.lookup p.1=some .cell/\(sc.names.lookup p.1=some .cell)/\∃c,cl.lookup p.1=some c/\X.env.cells.lookup p.1=some c)/\ZlQ X sc cl r
def ZlQ.get:∀{cap:List (Str×Nat)} {j:Nat} {p:Str×Nat},ZlQ X sc cl cap->cap[j]?=some p ->
  X.N[p.2]?=some p.1/\X.env.scope.names.lookup p.1=some .cell/\(sc.names.lookup p.1=some .cell)/\∃c,cl.lookup p.1=some c/\X.env.cells.lookup p.1=some c
 | [],_,_,_,e=>by simp at e
 | _::_,0,_,h,e=>by simp at e;subst e;exact h.1
 | _::_,j+1,_,h,e=>ZlQ.get (j:=j) h.2 (by simpa using e)
def capt(σ:St)(cap:List (Str×Nat)):St:=cap.map λp=>(σ[p.2]?).join
def st0(own:List Str)(σ:St)(cap:List (Str×Nat)):St:=List.replicate own.length none++capt σ cap
def ZfT(J:It)(g:TG)(tt:TT)(te:TE)(own:List Str)(cap:List (Str×Nat))(σ:St)(Q:VK)(H1:Hp):Prop:=∃W:Nat->Nat->List V->Hp->Prop,(∃m,W 0 m [] H1)/\∀i m a H,W i m a H->a.length<=sizeLine /\
 ((J.stop i H/\∀p,H p=none->Q (.ref p) (upd H p (.lst a))) \/
  (J.go i H/\∀x e,J.yld i H x e->g x (st0 own σ cap) e λc h=>c.drop own.length=capt σ cap/\tt c h λb f=>if b=true then te c f λv j=>a.length<sizeLine/\∃d,d<m/\W (i+1) d (a++[v]) j else ∃d,d<m/\W (i+1) d a f))
abbrev Fam(α:Type):=Addr->Shared->Hp->List Addr->List (Addr×Obj)->α
def ZeL(wi:TI)(g:Fam TG)(tt:Fam TT)(te:Fam TE)(own:List Str)(cap:List (Str×Nat)):TE:=λσ H Q=>wi σ H λJ d=>∀C s a b c,ZfT J (g C s a b c) (tt C s a b c) (te C s a b c) own cap σ Q d
structure ZcR(X:Cx)(own:List Str)(cap:List (Str×Nat))(scope:Scope)(cl:List (Str×Addr)):Prop where
 clos:closureFor scope X.env=pure cl
 kind:scope.kind=.function
 nown:∀x c,(x,c)∈cl->∀y∈scope.names,y.2=.cell->y.1≠x
 locals:∀y∈scope.names,y.2=.local->scope.names.lookup y.1=some .local
 sub:∀x c,(x,c)∈cl->X.env.cells.lookup x=some c
 has:∀k x,((relabel scope X.env).names.lookup x=some .cell\/(relabel scope X.env).names.lookup x=some .free)->∃c,(PySem.cellsFrom k scope.names cl).lookup x=some c
 cap:ZlQ X (relabel scope X.env) cl cap
section
variable {own:List Str} {cap:List (Str×Nat)} {scope:Scope} {cl:List (Str×Addr)} {fp:List Addr} {tg:Expr} {J:It} {it:Addr} {tn:Nat->Heap->Prop}
def ZmX(e:(st0 own σ cap)[i]?=some (some v)):∃j p,i=own.length+j/\cap[j]?=some p/\σ[p.2]?=some (some v):=by
 unfold st0 at e;by_cases hi:i<own.length
 ·rw [Vbc (by simpa using hi),Vbb,iP hi] at e;cases e
 ·rw [Vba (by simpa using hi),Vbg] at e;unfold capt at e;rw [Vbd] at e;cases q:cap[i - own.length]? with
  | none=>rw [q] at e;cases e
  | some p=>
   rw [q] at e;have a:(σ[p.2]?).join=some v:=Vac e;refine ⟨i - own.length,p,by omega,q,?_⟩;cases z:σ[p.2]? with
   | none=>rw [z] at a;cases a
   | some o=>rw [z] at a;have b:o=some v:=a;rw [b]
def Inv.comp(I:09)(O:ZcR X own cap scope cl)(T:Turn X.prog X.w X.K tg J fp it tn)(st:tn 0 s.heap)(f:∀b∈fp,FpOk X pins H b)(hC:s.heap.objs.size<=C)(k:∀b o,s.heap.get? b=some o->h'.get? b=some o)(hn:h'.Ns C m)(hx:∀n c,(n,c)∈PySem.cellsFrom (C+1) scope.names cl->(n,c)∈cl\/(h'.IsCell c none/\C+1<=c)) :
  Inv (Za4 X 005 scope cl C s H fp (X.pn++pins)) [] (st0 own σ cap) H { s with heap:=h',toks:=t' }:=by
 have D:∀{b:Addr} {o:Obj},s.heap.get? b=some o->b≠C:=λe=>Vai (Vag (Vaf e) hC);have a:=λx c e=>I.cell x c (O.sub x c e);have M:∀x c,(x,c)∈cl->c<C+1:=λx c e=>by
  obtain ⟨v,o,B,_⟩:=a x c e;exact Nat.lt_succ_of_le (Nat.le_of_lt (Vag (Vaf B) hC))
 have E:∀b∈fp,b≠C:=λb g=>by
  obtain ⟨o,e,_⟩:=T.obj _ _ st b g;exact D e
 refine ⟨⟨I.ok.mod,O.kind,I.ok.glob,I.ok.blt,hC,λx y c t A=>ZgL scope.names (C+1) cl M (λn Q c S h2=>I.ok.inj n Q c (O.sub n c S) (O.sub Q c h2)) x y c (Va9 t) (Va9 A),O.has (C+1),λx c t A=>?_,I.ok.hd,I.ok.frames,.inl rfl,λb g=>⟨E b g,λx c e=>?_⟩,I.bs,Vao I.ok.bsz I.sz,λb o e g=>?_,λb g z=>?_,I.stack,I.stkFree⟩,
  rfl,I.bare,Un.kept k,⟨m,hn,λi x v t A e3=>?_⟩,λx c e=>?_,?_,λx c e=>?_,λp F=>?_,I.hok.kept k,?_⟩
 ·have h:scope.names.lookup x=some .cell:=by simpa [Za4] using t
  rcases hx x c (Va9 A) with z | ⟨_,z⟩
  ·exact aB rfl (O.nown x c z (x,.cell) (Va9 h) rfl)
  ·exact Vao hC (Nat.le_of_succ_le z)
 ·rcases hx x c (Va9 e) with z | ⟨_,z⟩
  ·exact (f b g).2.2.2.2.1 x c (O.sub x c z)
  ·obtain ⟨o,W,_⟩:=T.obj _ _ st b g;exact VaK (Vag (Vag (Vaf W) hC) (Nat.le_of_succ_le z))
 ·rcases (f b g).2.2.2.1 with z | z
  ·exact I.ok.noex b o e z
  ·exact aB (Vag (Vaf (I.ok.bs b o e).1) z) (Vah _)
 ·rcases Vat.mp (I.stkSub b z) with q | q
  ·exact (f b g).2.1 q
  ·exact (f b g).2.2.1 q
 ·obtain ⟨j,p,rfl,F,Y⟩:=ZmX A;obtain ⟨c1,R,c3,c,P,c5⟩:=O.cap.get F;have h:(005)[own.length+j]?=some x:=t;rw [Vba (Nat.le_add_right _ _),Nat.add_sub_cancel_left,Vbd,F] at h;have ex:=Vac h;subst ex;obtain ⟨m2,_,U⟩:=I.loc;obtain ⟨u,r,l⟩:=U p.2 p.1 v c1 Y (.inr (.inl R));refine ⟨u,r,.inr ⟨.inl c3,c,(ZgM scope.names (C+1) cl λy V hk=>O.nown p.1 c (Va9 P) y V hk).trans P,?_⟩⟩;rcases l with ⟨z,_⟩ | ⟨_,c',z,⟨o,B,G⟩⟩
  ·have N:X.env.scope.names.lookup p.1=some .local:=z;rw [R] at N;cases N
  ·rw [c5] at z;cases z;exact ⟨o,k _ _ B,G⟩
 ·rcases hx x c (Va9 e) with z | ⟨z,_⟩
  ·obtain ⟨v,o,B,G⟩:=a x c z;exact ⟨v,o,k _ _ B,G⟩
  ·exact ⟨none,z⟩
 ·exact I.hok.fresh hC
 ·rcases hx x c (Va9 e) with z | ⟨_,z⟩
  ·exact I.freeC x c (O.sub x c z)
  ·exact I.hok.fresh (Vao hC (Nat.le_of_succ_le z))
 ·have L:p∈X.pn++pins:=by simpa [Za4] using F
  obtain ⟨e,n,ne,Z,d⟩:=I.pin p L;exact ⟨k _ _ e,n,D e,λz=>(Vat.mp (I.stkSub p.1 z)).elim ne Z,d⟩
 ·show (st0 own σ cap).length=(005).length;unfold st0 capt;simp
def Cx.Ok.rexe{xe:Value->Shared->Prop}(o:X.Ok):({ X with xe:=xe }:Cx).Ok:=by
 cases o;constructor<;>assumption
def Inv.rexe(I:09):Inv { X with xe:=xe } pins σ H s:=by
 obtain ⟨ok,i1,i2,i3,i4,i5,i6,i7,i8,i9,i10⟩:=I;exact ⟨ok.rexe,i1,i2,i3,i4,i5,i6,i7,i8,i9,i10⟩
def Zay(xf:Addr->Shared->Hp->List Addr->Value->Shared->Prop)(X:Cx)(N:List Str)(scope:Scope)(cl:List (Str×Addr))(C:Addr)(s₂:Shared)(H₂:Hp)(fp:List Addr)(pn:List (Addr×Obj)):Cx:={ Za4 X N scope cl C s₂ H₂ fp pn with xe:=xf C s₂ H₂ fp }
def Zhj{xf:Addr->Shared->Hp->List Addr->Value->Shared->Prop}{elt iter:Expr}{ts:List Expr}{gF:Fam TG}{ttF:Fam TT}{teF:Fam TE}{E:Value->Shared->Prop}(O:ZcR X own cap scope cl)(hc:X.calm=true)(hgF:∀C s H fp pn,PG (Zay xf X 005 scope cl C s H fp pn) tg (gF C s H fp pn))(htF:∀C s H fp pn,PTs (Zay xf X 005 scope cl C s H fp pn) ts (ttF C s H fp pn))(heF:∀C s H fp pn,PE (Zay xf X 005 scope cl C s H fp pn) elt (teF C s H fp pn))(hts:ts.length<=1)(I2:09)(T:Turn X.prog X.w X.K tg J fp it tn)(st2:tn 0 s.heap)(f2:∀b∈fp,FpOk X pins H b){Q:VK}(hw:∀C s H2 fp pn,ZfT J (gF C s H2 fp pn) (ttF C s H2 fp pn) (teF C s H2 fp pn) own cap σ Q H){R:Value->Addr->Result->Shared->Prop} (fin:∀(D C:Addr) (H':Hp) (s':Shared) (m:001),s.heap.objs.size<=C->s'.heap.Ns C m->H' C=none ->
   (∀h',Heap.SameBut C s'.heap h'->Inv X pins σ H' { s' with heap:=h' })->Q (.ref D) H'->R (.ref D) C (.ok .next) s') (hexc:∀(D C:Addr) (cells:List (Str×Addr)) (e:Value) (s':Shared),s.heap.objs.size<=C->xf C s H fp e s'->notedBy (model X.prog X.w) X.A (compEnvC scope cells C X.env) (λe s'=>R (.ref D) C (.error e) s') e s') :
  wX X (newList []) (λacc s₃=>wX X (newFunctionEnv scope X.env.globals cl [] X.env.qual none .none (some X.env)) (λcenv s₄=>
   codeAny (model X.prog X.w) X.A (.compStart 012 0 (.ref it) acc { cenv with scope:=relabel scope X.env }) (R acc cenv.locals) s₄) E s₃) E s:=by
 refine VaG (ZlY (λt g k f=>?_));generalize hHh:s.heap.push { cls:=.type "list",dict:=none,data:=.seq ([]:List Value).toArray }=Hh at g k f ⊢;have hCs:Hh.objs.size=s.heap.objs.size+1:=by rw [<-hHh,VaY]
 generalize hCC:Hh.objs.size=C at g f hCs ⊢;generalize hDD:s.heap.objs.size=D at hCs ⊢;have h:D<C:=by omega
 have Y:=Vai h;have hsD:=Nat.le_of_eq hDD;have I:s.heap.objs.size<=C:=by omega
 have M:∀{b:Addr} {o:Obj},s.heap.get? b=some o->b<D:=λe=>by rw [<-hDD];exact Vaf e
 have old:∀b o,s.heap.get? b=some o->t.get? b=some o:=λb o e=>by
  refine k b o ?_;rw [<-hHh];exact VaH _ e
 have hD0:t.PlainList D #[]:=by
  have z:Hh.get? D=some { cls:=.type "list",dict:=none,data:=.seq ([]:List Value).toArray }:=by
   rw [<-hHh,<-hDD];exact VaM _ rfl
  exact ⟨_,k D _ z⟩
 obtain ⟨W,⟨m0,w0⟩,turn⟩:=hw C s H fp (X.pn++pins);have hg:=hgF C s H fp (X.pn++pins);have ht:=htF C s H fp (X.pn++pins);have he:=heF C s H fp (X.pn++pins);have I':Inv (Zay xf X 005 scope cl C s H fp (X.pn++pins)) [] (st0 own σ cap) H { s with heap:=t,toks:=s.toks }:=(I2.comp O T st2 f2 I old g f).rexe
 have cne:∀x c,(PySem.cellsFrom (C+1) scope.names cl).lookup x=some c->(∃v,s.heap.IsCell c v/\X.env.cells.lookup x=some c)\/C<c:=λx c e=>by
  rcases f x c (Va9 e) with z | ⟨_,z⟩
  ·obtain ⟨v,hv⟩:=I2.cell x c (O.sub x c z);exact .inl ⟨v,hv,O.sub x c z⟩
  ·exact .inr z
 have st':=T.keep _ _ _ st2 λb hb o e=>old b o e;have nofr:∀{a:Addr},s.heap.objs.size<=a->a∉frs X.stack:=λ{a} ha z=>by
  rcases Vat.mp (I2.stkSub a z) with q | q
  ·exact aB (Vag I2.lt ha) (by rw [q];exact Vah _)
  ·exact I2.nofs ha q
 have Z:∀b∈fp,b<D:=λb hb=>by
  obtain ⟨o,e,_⟩:=T.obj _ _ st2 b hb;exact M e
 have fpk:∀{H3:Hp} {P:Obj},(∀b∈fp,H3 b=none)->∀b∈fp,FpOk (Zay xf X 005 scope cl C s H fp (X.pn++pins)) [(D,P)] H3 b:=λ{H3 P} hn b hb=>by
  obtain ⟨_,f1,f3,f4,f5,f6⟩:=f2 b hb;have lb:=Z b hb;refine ⟨hn b hb,(Vai (Vbu lb h)),λz=>?_,.inl hb,λx c e=>?_,λp G=>?_⟩
  ·rcases Vat.mp (I2.stkSub b z) with q | q
   ·exact f1 q
   ·exact f3 q
  ·rcases cne x c e with ⟨_,_,z⟩ | z
   ·exact f5 x c z
   ·exact VaK (Vbu lb (Vbu h z))
  ·rcases Vau.mp G with z | z
   ·exact f6 p z
   ·have z':p=(D,P):=by simpa using z
    subst z';exact VaK lb
 have loop:∀s₃:Shared,s₃={ s with heap:=t } ->
   codeAny (model X.prog X.w) X.A (.compLoop 012 0 (.ref it) (.ref D) (compEnvC scope (PySem.cellsFrom (C+1) scope.names cl) C X.env)) (R (.ref D) C) s₃:=by
  rintro s₃ rfl
  refine ZjJ hts (λn s'=>∃(i:Nat) (acc:List V) (d:List Value) (H':Hp),Inv (Zay xf X 005 scope cl C s H fp (X.pn++pins)) [] (st0 own σ cap) H' s'/\tn i s'.heap/\(∀b∈fp,H' b=none)/\H' D=none /\
   s'.heap.PlainList D d.toArray/\Vals acc d/\W i n acc H') ?_ m0 ⟨0,[],[],H,I',st',λb hb=>(f2 b hb).1,I2.hok.fresh hsD,hD0,.nil,w0⟩
  rintro n s3 ⟨i,acc,d,H3,I3,st3,fr3,nD,⟨S,hD⟩,rv,w3⟩;obtain ⟨hlen,hturn⟩:=turn i n acc H3 w3;have lenV:=rv.length;have pinD:∀{s5:Shared} {H5:Hp},s5.heap.get? D=some { cls:=.type "list",data:=.seq d.toArray S }->H5 D=none->∀p∈[(D,({ cls:=.type "list",data:=.seq d.toArray S }:Obj))],s5.heap.get? p.1=some p.2/\H5 p.1=none/\p.1≠C/\p.1∉frs X.stack/\∀v,p.2.data≠.cell v:=by
   intro s5 H5 e1 e2 p G;have z':p=(D,({ cls:=.type "list",data:=.seq d.toArray S }:Obj)):=by simpa using G
   subst z';exact ⟨e1,e2,Y,nofr hsD,λv z=>by cases z⟩
  have I3p:=I3.pins_of (pinD hD nD);rcases hturn with ⟨stop,qn⟩ | ⟨go,step⟩
  ·refine Vax (T.done (Zay xf X 005 scope cl C s H fp (X.pn++pins)) rfl rfl rfl hc i _ s3 _ H3 (λ_ _=>False) I3p (fpk fr3) st3 stop) (λr s4 h4=>?_) (λ_ _ z=>z.elim);obtain ⟨hr,F⟩:=h4;subst hr;obtain ⟨m4,hm4,_⟩:=F.loc;have hD4:=(F.pin (D,{ cls:=.type "list",data:=.seq d.toArray S }) (VaQ _ 03)).1;have nC:=F.free;refine fin D C (upd H3 D (.lst acc)) s4 m4 I hm4 (by rw [Zaf (Ne.symm Y)];exact nC) (λh' sb=>?_) (qn D nD);have kc:=λb o hb e=>sb.extBut b o hb e;have neD:∀{b:Addr} {o:Obj},s.heap.get? b=some o->b≠D:=λe=>Vai (M e);have neC:∀{b:Addr} {o:Obj},s.heap.get? b=some o->b≠C:=λe=>Vai (Vbu (M e) h);refine I2.call' (ch:=fp) F.os ⟨?_,?_,?_,?_,?_,?_,?_⟩ (λa o e=>?_) F.bare (λb hb=>?_)
   ·exact λb o e n hb hx=>kc b o (neC e) (F.base.keep b o e n hb hx)
   ·intro b o e n hb hx;obtain ⟨sl,q⟩:=F.base.slot b o e n hb hx;exact ⟨sl,kc b _ (neC e) q⟩
   ·intro b o e n hx;rw [Zaf (neD e)];exact F.base.free b o e n hx
   ·intro b o e hx;obtain ⟨o',q⟩:=F.base.there b o e hx;exact ⟨o',kc b _ (neC e) q⟩
   ·intro b xs e;have q:=F.base.tups b xs e;rw [Zaf (Zai q nD)];exact q
   ·intro b o u e;have q:=F.base.frzs b o u e;rw [Zaf (Zai q nD)];exact q
   ·intro b ps e;obtain ⟨more,q⟩:=F.base.tbls b ps e;exact ⟨more,by rw [Zaf (Zai q nD)];exact q⟩
   ·by_cases ha:a=D
    ·subst ha;rw [Zah] at e;cases e;exact ⟨hlen,d,S,rv,kc _ _ Y hD4⟩
    ·rw [Zaf ha] at e;refine (F.hok a o e).stay (λb u hb q=>kc b u ?_ q) (λb q=>?_) (λb xs q=>?_)
     ·rcases hb with rfl | hb
      ·exact Zai e nC
      ·exact Zai hb nC
     ·rw [Zaf (Zai q nD)];exact q
     ·rw [Zaf (Zai q nD)];exact q
   ·obtain ⟨_,f1,_,f4,f5,f6⟩:=f2 b hb;exact ⟨f4,f1,f5,f6⟩
  ·refine Vax (T.item (Zay xf X 005 scope cl C s H fp (X.pn++pins)) rfl rfl rfl hc i _ s3 _ H3 (λ_ _=>False) I3p (fpk fr3) st3 go) (λr s4 h4=>?_) (λ_ _ z=>z.elim);obtain ⟨u,hr,h4⟩:=h4;subst hr;refine Vax h4 (λ_ s5 h5=>?_) (λ_ _ z=>z.elim);obtain ⟨x,H5,I5,r5,y5,L,fr5⟩:=h5;have I5':=I5.pinned (fpk fr5) (T.obj _ _ L);refine Vax (hg _ s5 _ H5 x u _ I5' r5 (step x H5 y5)) (λ_ s6 h6=>?_) (λe s' z=>hexc D C _ e s' I z);obtain ⟨B,H6,I6,e6,q6⟩:=h6;refine Vax (ht _ s6 B H6 _ I6 q6) (λbb s6' h6'=>?_) (λe s' z=>hexc D C _ e s' I z);obtain ⟨H6',N,q6'⟩:=h6';have stay:∀{H7:Hp} {s7:Shared},Inv (Zay xf X 005 scope cl C s H fp (X.pn++pins)) [] B H7 s7->Inv (Zay xf X 005 scope cl C s H fp (X.pn++pins)) [] (st0 own σ cap) H7 s7:=λ{H7 s7} I8=>by
    refine I8.weak (I'.len.trans I8.len.symm) (λj v e=>?_);obtain ⟨l,p,rfl,G,hs⟩:=ZmX e;have q:(B.drop own.length)[l]?=some (some v):=by
     rw [e6];unfold capt;rw [Vbd,G];show some ((σ[p.2]?).join)=_;rw [hs];rfl
    rwa [List.getElem?_drop] at q
   cases bb with
   | false=>
    obtain ⟨m',hm,w7⟩:=q6';obtain ⟨hD7,U,_⟩:=N.pin (D,{ cls:=.type "list",data:=.seq d.toArray S }) (VaQ _ 03);have st7:=T.keep _ _ _ L λb hb o e=>(N.pin (b,o) (VaQ _ (VaQ _ (Zcy hb e)))).1;have fr7:∀b∈fp,H6' b=none:=λb hb=>by
     obtain ⟨o,e,_⟩:=T.obj _ _ L b hb;exact (N.pin (b,o) (VaQ _ (VaQ _ (Zcy hb e)))).2.1
    exact ⟨m',hm,i+1,acc,d,H6',stay (N.pins_of λp G=>nomatch G),st7,fr7,U,⟨S,hD7⟩,rv,w7⟩
   | true=>
   refine Vax (he _ s6' B H6' _ N q6') (λy s7 h7=>?_) (λe s' z=>hexc D C _ e s' I z);obtain ⟨v,H7,I7,r7,hl7,m',hm,w7⟩:=h7;obtain ⟨hD7,U,_⟩:=I7.pin (D,{ cls:=.type "list",data:=.seq d.toArray S }) (VaQ _ 03);have st7:=T.keep _ _ _ L λb hb o e=>(I7.pin (b,o) (VaQ _ (VaQ _ (Zcy hb e)))).1;have fr7:∀b∈fp,H7 b=none:=λb hb=>by
    obtain ⟨o,e,_⟩:=T.obj _ _ L b hb;exact (I7.pin (b,o) (VaQ _ (VaQ _ (Zcy hb e)))).2.1
   refine wpAny_list_append_plain ⟨S,hD7⟩ (λh8 hp8 hs8=>?_) (by rw [VaR];omega);have I7w:Inv (Zay xf X 005 scope cl C s H fp (X.pn++pins)) [] B H7 s7:=I7.pins_of λp G=>nomatch G;have I8:Inv (Zay xf X 005 scope cl C s H fp (X.pn++pins)) [] B H7 { s7 with heap:=h8 }:=by
    refine I7w.turned (λb o hb e=>hs8.extBut b o hb e) U Y (.inr hsD) (λx c e=>?_) (λp G=>?_)
    ·rcases cne x c e with ⟨v,⟨o,ho,_⟩,_⟩ | z
     ·exact Vai (M ho)
     ·exact VaK (Vbu h z)
    ·have hp':p∈X.pn++pins:=by simpa [Zay,Za4] using G
     exact Vai (M (I2.pin p hp').1)
   have I9:=stay I8;refine ⟨m',hm,i+1,acc++[v],d++[y],H7,I9,T.keep _ _ _ st7 (λb hb o e=>hs8.extBut b o (Vai (Z b hb)) e),fr7,U,?_,rv.append (.cons r7 .nil),w7⟩;simpa using hp8
 exact codeAny_compStart_list (loop _ rfl) (T.self X.A 0 _ _ _ st' (loop _ rfl))
def ZlA{elt iter:Expr}{ts:List Expr}{gF:Fam TG}{ttF:Fam TT}{teF:Fam TE}{E:Value->Shared->Prop}(O:ZcR X own cap scope cl)(hc:X.calm=true)(hgF:∀C s H fp pn,PG (Za4 X 005 scope cl C s H fp pn) tg (gF C s H fp pn))(htF:∀C s H fp pn,PTs (Za4 X 005 scope cl C s H fp pn) ts (ttF C s H fp pn))(heF:∀C s H fp pn,PE (Za4 X 005 scope cl C s H fp pn) elt (teF C s H fp pn))(hts:ts.length<=1)(I2:09)(T:Turn X.prog X.w X.K tg J fp it tn)(st2:tn 0 s.heap)(f2:∀b∈fp,FpOk X pins H b){Q:VK}(hw:∀C s H2 fp pn,ZfT J (gF C s H2 fp pn) (ttF C s H2 fp pn) (teF C s H2 fp pn) own cap σ Q H){R:Value->Addr->Result->Shared->Prop} (fin:∀(D C:Addr) (H':Hp) (s':Shared) (m:001),s.heap.objs.size<=C->s'.heap.Ns C m->H' C=none ->
   (∀h',Heap.SameBut C s'.heap h'->Inv X pins σ H' { s' with heap:=h' })->Q (.ref D) H'->R (.ref D) C (.ok .next) s') :
  wX X (newList []) (λacc s₃=>wX X (newFunctionEnv scope X.env.globals cl [] X.env.qual none .none (some X.env)) (λcenv s₄=>
   codeAny (model X.prog X.w) X.A (.compStart 012 0 (.ref it) acc { cenv with scope:=relabel scope X.env }) (R acc cenv.locals) s₄) E s₃) E s :=
 Zhj O hc hgF htF heF hts I2 T st2 f2 hw fin λ_ _ _ _ _ _ z=>z.elim
def Ztz{elt iter:Expr}{wi:TI}{ts:List Expr}{g:Fam TG}{tt:Fam TT}{te:Fam TE}(hi:PI X tg iter wi)(O:ZcR X own cap scope cl)(hc:X.calm=true)(hg:∀C s H fp pn,PG (Za4 X 005 scope cl C s H fp pn) tg (g C s H fp pn))(ht:∀C s H fp pn,PTs (Za4 X 005 scope cl C s H fp pn) ts (tt C s H fp pn))(he:∀C s H fp pn,PE (Za4 X 005 scope cl C s H fp pn) elt (te C s H fp pn))(hts:ts.length<=1)(hs:∀x,foldedSetIterable iter X.env x=pure x:=by intro _;rfl):PE X 012 (ZeL wi g tt te own cap):=by
 intro b s σ H Q I h;refine Vbv rfl hs O.clos O.kind O.locals (thn (hi b s σ H _ I h) λA f a=>thn a λo e c=>?_);obtain ⟨u,fp,B,J,y,rfl,j,T,d,k,n⟩:=c;refine ZlA O hc hg ht he hts j T d k n ?_;intro D C l v m z i w t q;exact ⟨m,i,λr p=>⟨.ref D,l,t r p,rfl,q⟩⟩
def Zl1{elt iter:Expr}{wi:TI}{ts:List Expr}{g:Fam TG}{tt:Fam TT}{te:Fam TE}(hN:X.N.Nodup)(hix:X.N[i]?=some x)(hx:Loc X.env.scope x)(hi:PI X tg iter wi)(O:ZcR X own cap scope cl)(hc:X.calm=true)(hg:∀C s H fp pn,PG (Za4 X 005 scope cl C s H fp pn) tg (g C s H fp pn))(ht:∀C s H fp pn,PTs (Za4 X 005 scope cl C s H fp pn) ts (tt C s H fp pn))(he:∀C s H fp pn,PE (Za4 X 005 scope cl C s H fp pn) elt (te C s H fp pn))(hts:ts.length<=1)(hsw:swapsWith 012 (some (.Name x pos')) spos.line X.env=pure true:=by rfl)(hs:∀x,foldedSetIterable iter X.env x=pure x:=by intro _;rfl)(hf:013:=by first | exact .inl rfl | exact .inr rfl | assumption):PS X (.Assign [.Name x pos'] 012 spos) (tAsg (ZeL wi g tt te own cap) (ZfB i)):=by
 intro a s σ H D I h;rw [exec_Assign_Name_used _ _ _ _ hsw];refine VaD (VaE (VaD ?_))
 refine VaD (Vax (Vbv rfl hs O.clos O.kind O.locals
  (thn (hi a s σ H _ I h) λxv Q k=>thn k λitv L j=>?_)) (λ_ w hq=>VaF (VaF hq)) λ_ _ e=>e)
 obtain ⟨it,fp,tn,J,H2,rfl,d,T,t,V,Z⟩:=j;refine ZlA O hc hg ht he hts d T t V Z ?_;intro A C K w m f U F IV q;have M:=IV w.heap (Heap.SameBut.refl ..);obtain ⟨n,R,W,ho,G,hk⟩:=id U;have l:=VaK (Vag d.lt f);have E:=d.nofs f;have I4:Inv X (a++[(C,n)]) σ K w:=M.pins_of λp r=>by
  rcases Vau.mp r with z | z
  ·exact M.pin p (VaQ _ z)
  ·have S:p=(C,n):=by simpa using z
   subst S;exact ⟨ho,F,l,E,λv e=>by rw [G] at e;cases e⟩
 refine wpAny_assign_Name (ZdR I4 hN hix hx (v:=.ref A) rfl (λs5 P=>?_) hf);have u:=(P.pin (C,n) (VaQ _ (VaQ _ 03))).1;refine ⟨m,⟨n,R,W,u,G,hk⟩,λh' sb=>⟨_,K,?_,q⟩⟩;refine (P.unpinned).turned (λb o Y e=>sb.extBut b o Y e) F l (.inr (Vao d.sz f)) (λy c e=>?_) (λp r=>?_)
 ·obtain ⟨v,o,B,_⟩:=d.cell y c e;exact Vai (Vag (Vaf B) f)
 ·exact Vai (Vag (Vaf (d.pin p r).1) f)
end
def Zgm(scope out:Scope):List (Str×NameKind):=scope.names.map λ(n,k)=>if (k==.free&&out.kind==.function&&out.names.lookup n==some .cell) then (n,.cell) else (n,k)
def Znk(scope out:Scope)(cn:List Str):Bool :=
 scope.names.all (λy=>y.2 != .cell||!cn.contains y.1)&&scope.names.all (λy=>y.2 != .local||scope.names.lookup y.1==some .local)&&(Zgm scope out).all (λy=>!(y.2==.cell||y.2==.free)||cn.contains y.1||scope.names.contains (y.1,.cell))&&cn.all (λn=>out.names.lookup n==some .cell&&(Zgm scope out).lookup n==some .cell)
def ZmW(X:Cx):List (Str×Addr)->Prop
 | []=>True
 | p::r=>X.env.cells.lookup p.1=some p.2/\ZmW X r
def ZmW.mem:∀{cl:List (Str×Addr)} {p:Str×Addr},ZmW X cl->p∈cl->X.env.cells.lookup p.1=some p.2
 | _::_,_,h,.head _=>h.1
 | _::_,_,h,.tail _ m=>ZmW.mem h.2 m
def CapN(X:Cx):List (Str×Nat)->Prop
 | []=>True
 | p::r=>X.N[p.2]?=some p.1/\CapN X r
def Zhb:∀{l:List (Str×α)},x∈l.map (·.1)->∃c,l.lookup x=some c
 | [],h=>by simp at h
 | (y,c)::r,h=>by
  by_cases e:x=y
  ·subst e;exact ⟨c,by simp⟩
  ·have a:x∈r.map (·.1):=by
    rcases Vbw.mp h with ⟨p,hp,rfl⟩;rcases Vat.mp hp with rfl | hp
    ·exact aB rfl e
    ·exact Vbw.mpr ⟨p,hp,rfl⟩
   obtain ⟨d,b⟩:=Zhb a;exact ⟨d,by rw [Vbt,beq_false_of_ne e];exact b⟩
def ZcR.of{cap:List (Str×Nat)}{scope:Scope}{cl:List (Str×Addr)}(clos:closureFor scope X.env=pure cl)(kind:scope.kind=.function)(chk:Znk scope X.env.scope (cap.map (·.1))=true)(names:cl.map (·.1)=cap.map (·.1))(sub:ZmW X cl)(capn:CapN X cap):ZcR X own cap scope cl:=by
 unfold Znk at chk;simp only [Vbo,Vbx] at chk;obtain ⟨⟨⟨B,E⟩,u⟩,w⟩:=chk;have h:∀x c,cl.lookup x=some c->X.env.cells.lookup x=some c:=λx c e=>sub.mem (Va9 e);have i:∀l,(∀p∈l,p.1∈cap.map (·.1))->CapN X l->ZlQ X (relabel scope X.env) cl l:=by
  intro l
  induction l with
  | nil=>exact λ_ _=>trivial
  | cons p r ih=>
   intro f t;have j:=f p Vaq;have m:=w p.1 j;have A:X.env.scope.names.lookup p.1=some .cell:=by simpa using m.1
   have C:(Zgm scope X.env.scope).lookup p.1=some .cell:=by simpa using m.2
   obtain ⟨c,d⟩:=Zhb (by rw [names];exact j);exact ⟨⟨t.1,A,C,c,d,h _ _ d⟩,ih (λq m=>f q (Var _ m)) t.2⟩
 refine ⟨clos,kind,λx c f y o s=>?_,λy o e=>?_,λx c f=>sub.mem f,λk x D=>?_,i cap (λp j=>Vbw.mpr ⟨p,j,rfl⟩) capn⟩
 ·have:=B y o;rw [s] at this;rintro rfl;have d:y.1∈cap.map (·.1):=by rw [<-names];exact Vbw.mpr ⟨_,f,rfl⟩
  simp at this;simp at d;obtain ⟨a,v⟩:=d;exact this a v
 ·have:=E y o;rw [e] at this;simpa using this
 ·have g:∀n,(Zgm scope X.env.scope).lookup x=some n->(n=.cell\/n=.free)->∃c,(PySem.cellsFrom k scope.names cl).lookup x=some c:=by
   intro n e s;have:=u _ (Va9 e);refine Option.isSome_iff_exists.mp (ZfI scope.names k cl ?_);have b:x∈cap.map (·.1)\/(x,NameKind.cell)∈scope.names:=by
    rcases s with rfl | rfl
    ·simpa using this
    ·simpa using this
   rcases b with z | z
   ·obtain ⟨c,d⟩:=Zhb (by rw [names];exact z);exact .inl (by rw [d];rfl)
   ·exact .inr z
  rcases D with e | e
  ·exact g _ e (.inl rfl)
  ·exact g _ e (.inr rfl)
end L2
namespace L2
open PySem.Calls
structure Sk(o o':Obj):Prop where
 d:o'.dict=o.dict
 f:∀vs,o.data=.fields vs->∃vs':Array Value,o'.data=.fields vs'/\vs'[2]?=vs[2]?
def Sk.refl(o):Sk o o:=⟨rfl,λa e=>⟨a,e,rfl⟩⟩
def Sk.trans(x:Sk a b)(y:Sk b c):Sk a c:=⟨y.d.trans x.d,λk e=>by
 obtain ⟨m,h,l⟩:=x.f k e;obtain ⟨g,j,i⟩:=y.f m h
 exact ⟨g,j,i.trans l⟩⟩
def KD(h h':Heap):Prop:=∀(b:Nat) (o:Obj),h.objs[b]?=some o->∃a:Obj,h'.objs[b]?=some a/\Sk o a
def KD.refl(h:Heap):KD h h:=λ_ o e=>⟨o,e,.refl o⟩
def KD.trans(x:KD a b)(y:KD b c):KD a c:=λk o e=>by
 obtain ⟨d,i,f⟩:=x k o e;obtain ⟨h,j,g⟩:=y k d i;exact ⟨h,j,f.trans g⟩
def KD.push(h:Heap)(o:Obj):KD h (h.push o):=λb u e=>by
 obtain ⟨a,l⟩:=h;refine ⟨u,?_,.refl u⟩;show (a.push o)[b]?=some u;have e:a[b]?=some u:=e;have c:=(Vby.mp e).1;rw [Array.getElem?_push,iN 000];exact e
def KD.update(h:Heap)(a:Addr)(hf:∀o,Sk o (f o)):KD h (h.update a f):=λb u e=>by
 obtain ⟨c,l⟩:=h;have e:=e;show ∃d,(c.modify a f)[b]?=some d/\_;rw [Array.getElem?_modify];by_cases q:a=b
 ·rw [iP q,e];exact ⟨f u,rfl,hf u⟩
 ·rw [iN q];exact ⟨u,e,.refl u⟩
def Zlc{h:Heap}(e:h.get? a=some o):h.objs[a]?=some o:=by
 unfold Heap.get? at e;split at e
 ·cases e
 ·exact e
def KD.at{h h':Heap}(x:KD h h')(e:h.get? a=some o)(e':h'.get? a=some o'):Sk o o':=by
 obtain ⟨d,b,c⟩:=x a o (Zlc e);rw [Zlc e'] at b;cases b;exact c
def Dk:Sem α->Prop
 | .pure _=>True
 | .raise _=>True
 | .unsupported _=>True
 | .finish _=>True
 | .rule _ k=>Dk (k ())
 | .at _ k=>Dk (k ())
 | .load _ _ k=>∀o,Dk (k o)
 | .update _ _ f k=>(∀o,Sk o (f o))/\Dk (k ())
 | .loadIfAlive _ k=>∀o,Dk (k o)
 | .point _ k=>Dk (k ())
 | .alloc _ k=>∀a,Dk (k a)
 | .fresh k=>∀t,Dk (k t)
 | .ask k=>∀x,Dk (k x)
 | .choose _ _ k=>∀n,Dk (k n)
 | .handled _ k=>∀x,Dk (k x)
 | .stack k=>∀l,Dk (k l)
 | .thread k=>∀n,Dk (k n)
 | .register _ _=>True
 | _=>False
def ZxK:∀(t:Sem α) {Q:α->Pos->Shared->Prop} {E:Value->Pos->Shared->Prop} {p:Pos} {s:Shared},Dk t->Sem.wp M Γ t Q E p s ->
  Sem.wp M Γ t (λa p' s'=>Q a p' s'/\KD s.heap s'.heap) (λe p' s'=>E e p' s'/\KD s.heap s'.heap) p s:=by
 intro t
 induction t with
 | pure a=>intro Q E p s _ h;exact ⟨h,.refl _⟩
 | raise e=>intro Q E p s _ h;exact ⟨h,.refl _⟩
 | unsupported w=>intro Q E p s _ h;exact h
 | finish e=>intro Q E p s _ h;exact h
 | rule t k ih=>intro Q E p s d h;exact ih () d h
 | «at» q k ih=>intro Q E p s d h;exact ih () d h
 | load a q k ih=>intro Q E p s d h;obtain ⟨o,e,h⟩:=h;exact ⟨o,e,ih o (d o) h⟩
 | update a q f k ih=>
  intro Q E p s d h;refine ⟨h.1,?_⟩;have z:=ih () d.2 h.2;exact Sem.wp_mono _ _ _ (λ_ _ _ x=>⟨x.1,(KD.update _ _ d.1).trans x.2⟩) (λ_ _ _ x=>⟨x.1,(KD.update _ _ d.1).trans x.2⟩) _ _ z
 | alloc o k ih=>
  intro Q E p s d h;exact Sem.wp_mono _ _ _ (λ_ _ _ x=>⟨x.1,(KD.push _ _).trans x.2⟩) (λ_ _ _ x=>⟨x.1,(KD.push _ _).trans x.2⟩) _ _ (ih _ (d _) h)
 | loadIfAlive a k ih=>intro Q E p s d h;exact ih _ (d _) h
 | point l k ih=>intro Q E p s d h;exact ih () d h
 | register a k ih=>intro Q E p s d h;exact h
 | fresh k ih=>intro Q E p s d h;exact ih _ (d _) h
 | ask k ih=>intro Q E p s d h;exact ih _ (d _) h
 | choose src n k ih=>intro Q E p s d h;exact ⟨h.1,ih _ (d _) h.2⟩
 | handled o k ih=>intro Q E p s d h;exact ih _ (d _) h
 | stack k ih=>intro Q E p s d h;exact ih _ (d _) h
 | thread k ih=>intro Q E p s d h;exact ih _ (d _) h
 | _=>intro Q E p s d h;exact d.elim
def Ze9(d:Dk t)(h:wpAny M A t Q E s):wpAny M A t (λa s'=>Q a s'/\KD s.heap s'.heap) (λe s'=>E e s'/\KD s.heap s'.heap) s :=
 λΓ p b=>ZxK t d (h Γ p b)
def Dk.bind:∀{t:Sem α} {k:α->Sem β},Dk t->(∀a,Dk (k a))->Dk (t >>= k):=by
 intro t
 induction t with
 | pure a=>intro k _ h;exact h a
 | raise e=>intro k _ h;trivial
 | unsupported w=>intro k _ h;trivial
 | finish e=>intro k _ h;trivial
 | rule t k ih=>intro k d h;exact ih () d h
 | «at» q k ih=>intro k d h;exact ih () d h
 | load a q k ih=>intro k d h o;exact ih o (d o) h
 | update a q f k ih=>intro k d h;exact ⟨d.1,ih () d.2 h⟩
 | alloc o k ih=>intro k d h a;exact ih a (d a) h
 | loadIfAlive a k ih=>intro k d h o;exact ih o (d o) h
 | point l k ih=>intro k d h;exact ih () d h
 | register a k ih=>intro k d h;trivial
 | fresh k ih=>intro k d h o;exact ih o (d o) h
 | ask k ih=>intro k d h o;exact ih o (d o) h
 | choose src n k ih=>intro k d h o;exact ih o (d o) h
 | handled o k ih=>intro k d h o;exact ih o (d o) h
 | stack k ih=>intro k d h o;exact ih o (d o) h
 | thread k ih=>intro k d h o;exact ih o (d o) h
 | _=>intro k d h;exact d.elim
def ZkE(a):Dk (load a):=λ_=>trivial
def Zim:Dk stack:=λ_=>trivial
def ZjU(a)(hf:∀o,Sk o (f o)):Dk (update a f):=⟨hf,trivial⟩
def ZoX(o):Dk (alloc o):=λ_=>trivial
def ZkJ(v):Dk (fieldsOf v):=by
 unfold fieldsOf;split
 ·refine Dk.bind (ZkE _) λo=>?_;split
  ·trivial
  ·trivial
 ·trivial
def Zgh(v)(i):Dk (field v i):=by
 unfold field;refine Dk.bind (ZkJ v) λo=>?_;split
 ·trivial
 ·trivial
def Zh4(hi:i≠2)(v)(o):Sk o (Obj.mapFields (·.setIfInBounds i v) o):=by
 obtain ⟨c,d,b,f⟩:=o;refine ⟨by cases b<;>rfl,λa e=>?_⟩;have e:=e;subst e;exact ⟨a.setIfInBounds i v,rfl,by rw [Array.getElem?_setIfInBounds_ne hi]⟩
def Zsf(a)(hi:i≠2)(v):Dk (updateField a i v):=by
 unfold updateField;refine Dk.bind (ZkE _) λo=>?_;split
 ·split
  ·exact ZjU _ (Zh4 hi _)
  ·trivial
 ·trivial
def ZeY(e)(hi:i≠2)(v):Dk (setField e i v):=by
 unfold setField;split
 ·exact Zsf _ hi _
 ·trivial
def Zd3(e)(f):Dk (setFlight e f):=by
 unfold setFlight;refine Dk.bind (Zgh _ _) λo=>?_;split
 ·exact ZeY _ 00 _
 ·trivial
def ZkW:∀l,Dk (readyFrames l)
 | []=>trivial
 | env::outer=>by
  unfold readyFrames;split
  ·refine Dk.bind (ZkE _) λo=>?_;split
   ·trivial
   ·refine Dk.bind ?_ λb=>Dk.bind ?_ λk=>Dk.bind (ZjU _ λo=>⟨rfl,λa e=>⟨a,e,rfl⟩⟩) λ_=>ZkW outer
    ·unfold behindIsImport;split
     ·trivial
     ·split
      ·trivial
      ·exact Dk.bind (Zgh _ _) λ_=>trivial
    ·unfold keptBack;split
     ·split
      ·trivial
      ·unfold underTheClaimsCaller;exact Dk.bind (Dk.bind Zim λ_=>trivial) λ_=>trivial
     ·trivial
  ·trivial
def Zms(env):Dk (PySem.frameOf env):=by
 unfold PySem.frameOf frameEnvs;refine Dk.bind (Dk.bind Zim λ_=>trivial) λl=>Dk.bind ?_ λo=>?_
 ·unfold frameObject;split
  ·trivial
  ·exact Dk.bind (ZkW _) λ_=>trivial
 ·split
  ·trivial
  ·trivial
def Zo1(a b c d e)(l):Dk (EntryCells.newEntry a b c d e l):=by
 unfold EntryCells.newEntry newFields;generalize ([a,b,c,d,e]++_)=vs;unfold newObj newObjAsIs;have f:Dk (alloc { cls:=Value.type "traceback",data:=Data.fields vs.toArray } >>= λa=>(pure (Value.ref a):Sem Value)):=Dk.bind (ZoX _) λ_=>trivial;by_cases h:vs.toArray.size>sizeLine+2
 ·show Dk (if vs.toArray.size>sizeLine+2 then _ else _)
  rw [iP h];trivial
 ·show Dk (if vs.toArray.size>sizeLine+2 then _ else _)
  rw [iN h];exact f
def Zid(e)(env):Dk (noteFrame e env):=by
 unfold noteFrame;split
 ·refine Dk.bind (Zgh _ _) λo=>?_;have a:Dk (do setField e 1 (<-EntryCells.newEntry o (<-PySem.frameOf env) .none (rawInt ‹Addr›) .none (<-entryPlaceOf ‹Addr› (o != .none)))):=by
   refine Dk.bind (Zms _) λ_=>Dk.bind ?_ λ_=>Dk.bind (Zo1 _ _ _ _ _ _) λ_=>ZeY _ 00 _;unfold entryPlaceOf;refine Dk.bind Zim λ_=>?_;split
   ·trivial
   ·trivial
  split
  ·refine Dk.bind (Zgh _ _) λ_=>?_;split
   ·trivial
   ·exact Dk.bind (ZeY _ 00 _) λ_=>a
  ·exact a
 ·trivial
def ZeA(env)(e):Dk (leaving env e):=Dk.bind (Zid _ _) λ_=>Zd3 _ _
end L2
namespace L2
def Zdl.there(x:Zdl P w H h a o):∃ob,h.get? a=some ob:=by
 cases o with
 | lst xs=>obtain ⟨_,_,_,_,e⟩:=x;exact ⟨_,e⟩
 | tup xs=>obtain ⟨_,_,_,o,e,_⟩:=x;exact ⟨_,e⟩
 | dK kvs=>obtain ⟨_,_,_,_,o,_,_,e,_⟩:=x;exact ⟨_,e⟩
 | dT kvs=>obtain ⟨_,_,_,_,o,_,_,e,_⟩:=x;exact ⟨_,e⟩
 | set S n=>obtain ⟨o,_,_,_,e,_⟩:=x;exact ⟨_,e⟩
 | ins C dx fs=>obtain ⟨_,_,_,e,_⟩:=x;exact ⟨_,e⟩
 | own y=>obtain ⟨_,e⟩:=x;exact ⟨_,e⟩
 | xd fs=>obtain ⟨_,⟨_,_,_,e,_⟩,_⟩:=x;exact ⟨_,e⟩
 | rng lo hi=>obtain ⟨_,_,_,e⟩:=x;exact ⟨_,e⟩
 | frz ob u=>obtain ⟨e,_⟩:=x;exact ⟨_,e⟩
 | tbl ps=>exact ⟨_,(x)⟩
 | met f y=>exact ⟨_,(x)⟩
 | ext φ=>obtain ⟨_,⟨_,e⟩,_⟩:=x;exact ⟨_,e⟩
def HOk.free(x:HOk P w H h)(e:h.get? a=none):H a=none:=by
 cases q:H a with
 | none=>rfl
 | some o=>
  obtain ⟨b,z⟩:=(x a o q).there;rw [e] at z;cases z
structure Fly(P:Program)(w:World)(l:List Env)(H H':Hp)(s s':Shared)(x:Addr)(cls:Value):Prop where
 os:s'.os=s.os
 bare:AllBare s'.gens
 un:Un (frs l) [] H H' s.heap s'.heap
 hok:HOk P w H' s'.heap
 frf:∀b∈frs l,H' b=none
 free:H' x=none
 ex:∃(B:Heap) (a0:Value),Heap.FlyingW B l x cls a0 s'.heap/\∀b o,s'.heap.get? b=some o->(H' b≠none\/∃o',s.heap.get? b=some o')->b∉frs l->B.get? b=some o
def ZjM{s':Shared}{x:Addr}{B:Heap}(os:s'.os=s.os)(bare:AllBare s'.gens)(un:Un (frs l) [] H H' s.heap s'.heap)(hok:HOk P w H' s'.heap)(frf:∀b∈frs l,H' b=none)(nf:∀b∈frs l,∃o,s'.heap.get? b=some o/\∀vs,o.data≠.fields vs)(cov:∀b o,s'.heap.get? b=some o->(H' b≠none\/∃o',s.heap.get? b=some o')->b∉frs l->B.get? b=some o)(sub:∀b∈frs l',b∈frs l)(new:∀b∈frs l,b∉frs l'->s.heap.get? b=none)(fl:Heap.FlyingW B l' x cls a0 h')(sm:s'.heap.UpToSlots h')(free:H' x=none) :
  Fly P w l' H H' s { s' with heap:=h' } x cls:=by
 have d:=λb o e q hb=>fl.1 b o (cov b o e q hb);have f:∀{b:Addr} {o:Obj},s.heap.get? b=some o->b∉frs l'->b∉frs l:=λ{b o} e hb z=>by
  rw [new b z hb] at e;cases e
 refine ⟨os,bare,⟨λb o e n hb j=>?_,λb o e n hb j=>?_,un.free,λb o e j=>?_,un.tups,un.frzs,un.tbls⟩,λa o e=>?_,λb hb=>frf b (sub b hb),free,B,a0,fl,λb o e q hb=>?_⟩
 ·exact d b o (un.keep b o e n (f e hb) j) (.inr ⟨o,e⟩) (f e hb)
 ·obtain ⟨v,q⟩:=un.slot b o e n (sub b hb) j;obtain ⟨g,h,m⟩:=nf b (sub b hb);rw [q] at h;cases h;obtain ⟨i,k⟩:=sm b _ q m;exact ⟨i,k⟩
 ·obtain ⟨o',q⟩:=un.there b o e j;by_cases hb:b∈frs l
  ·obtain ⟨g,h,m⟩:=nf b hb;obtain ⟨i,k⟩:=sm b _ h m;exact ⟨_,k⟩
  ·exact ⟨o',d b o' q (.inr ⟨o,e⟩) hb⟩
 ·refine (hok a o e).stay (λb u hb q=>?_) (λ_ q=>q) λ_ _ q=>q;have r:H' b≠none:=by
   rcases hb with rfl | hb
   ·rw [e];simp
   ·rw [hb];simp
  exact d b u q (.inl r) λz=>r (frf b z)
 ·have p:b∉frs l:=by
   intro z;rcases q with q | ⟨o',q⟩
   ·exact q (frf b z)
   ·exact f q hb z
  have ⟨g,h⟩ : ∃g,s'.heap.get? b=some g:=by
   rcases q with q | ⟨o',q⟩
   ·cases z:H' b with
    | none=>exact aB z q
    | some u=>exact (hok b u z).there
   ·exact un.there b o' q 03
  have c:=cov b g h q p;have z:=fl.1 b g c;have t:=e;rw [t] at z;cases z;exact c
def Fly.moved{x:Addr}(F:Fly P w l H H' s s' x cls)(fl0:Heap.FlyingW B l x cls a0 s'.heap)(cov:∀b o,s'.heap.get? b=some o->(H' b≠none\/∃o',s.heap.get? b=some o')->b∉frs l->B.get? b=some o)(fl:Heap.FlyingW B l x cls a0 h')(sm:s'.heap.UpToSlots h') :
  Fly P w l H H' s { s' with heap:=h' } x cls :=
 ZjM F.os F.bare F.un F.hok F.frf (λb a=>(fl0.2.2.1.mem a).2) cov (λ_ a=>a) (λ_ c d=>aB c d) fl sm F.free
section
variable {H':Hp} {s':Shared} {x:Addr} {cls:Value}
def Inv.unStack(I:09)(hex:X.ex=[])(hfs:∀b∈X.fs,b∈frs X.stack):Un (frs X.stack) [] X.H₀ H X.s₀.heap s.heap:=I.base.mono hfs (by rw [hex];exact λ_ z=>z)
def Inv.sub(I:09):∀b∈X.fs,b∈frs X.stack:=λb a=>by
 rcases I.ok.stk with e | ⟨e,hf⟩
 ·rw [e];exact a
 ·rw [e];unfold frs;rw [Vap,hf];exact Var _ a
def Inv.flyOut(I:09)(hex:X.ex=[])(F:Fly X.prog X.w X.stack H H' s s' x cls){B:Heap}(fl0:Heap.FlyingW B X.stack x cls a0 s'.heap)(cov:∀b o,s'.heap.get? b=some o->(H' b≠none\/∃o',s.heap.get? b=some o')->b∉frs X.stack->B.get? b=some o)(fl:Heap.FlyingW B X.outer x cls a0 h')(sm:s'.heap.UpToSlots h') :
  Fly X.prog X.w X.outer X.H₀ H' X.s₀ { s' with heap:=h' } x cls:=by
 refine ZjM (F.os.trans I.os) F.bare ((I.unStack hex I.sub).trans F.un) F.hok F.frf (λb a=>(fl0.2.2.1.mem a).2) (λb o e q a=>cov b o e (q.imp id λ⟨o',z⟩=>I.base.there b o' z (by rw [hex];simp)) a) I.sub (λb c d=>?_) fl sm F.free;rcases Vat.mp (I.stkSub b c) with e | e
 ·rw [e];exact Vas I.ok.above
 ·exact aB e d
end
def CtxN(x:Addr)(h:Heap):Prop:=∃b a,h.get? x=some b/\b.data=.fields a/\a[2]?=some .none
def CtxN.on{x:Addr}(k:CtxN x h)(kd:KD h h')(ht:∃ox,h'.get? x=some ox):CtxN x h':=by
 obtain ⟨ox,d,i,j,g⟩:=k;obtain ⟨b,a⟩:=ht;obtain ⟨c,e,l⟩:=(kd.at i a).f d j;exact ⟨b,c,a,e,l.trans g⟩
def ZiK(p:Option Addr)(x:Addr)(H':Hp)(h0 h:Heap):Prop:=(p=none->CtxN x h)/\∀n:Nat,p=some n->∃(ox:Obj) (d:Addr) (m:001),h.get? x=some ox/\ox.dict=some d/\h.Ns1 d m/\(∀g,RelO (([("at",V.int ((n/2:Nat):Int))]:List (Str×V)).lookup g) (m g))/\H' d=none/\h0.get? d=none/\d≠x/\(n%2=0->∃a:Array Value,ox.data=.fields a/\a[2]?=some .none)
def ZiK.no{x:Addr}(k:CtxN x h):ZiK none x H' h0 h:=⟨λ_=>k,λ_ z=>by cases z⟩
def Ziu{h h':Heap}(x:h.UpToSlots h')(hn:h.Ns1 a m):h'.Ns1 a m:=by
 obtain ⟨o,d,e,f,b,r⟩:=hn;obtain ⟨g,c⟩:=x a o f λi q=>by rw [b] at q;cases q
 exact ⟨_,d,e,c,b,r⟩
def ZiK.on{x:Addr}(k:ZiK p x H' h0 h)(kd:KD h h')(sm:h.UpToSlots h')(ht:∃ox,h'.get? x=some ox)(h01:∀b o,h1.get? b=some o->∃o',h0.get? b=some o'):ZiK p x H' h1 h':=⟨λe=>(k.1 e).on kd ht,λn e=>by
 obtain ⟨ox,d,m,i,l,B,u,v,s,A,r⟩:=k.2 n e;obtain ⟨c,a⟩:=ht;refine ⟨c,d,m,a,(kd.at i a).d.trans l,Ziu sm B,u,v,?_,A,λz=>?_⟩
 rotate_left
 ·obtain ⟨t,w,j⟩:=r z;obtain ⟨g,y,C⟩:=(kd.at i a).f t w;exact ⟨g,y,C.trans j⟩
 cases q:h1.get? d with
 | none=>rfl
 | some o=>
  obtain ⟨o',z⟩:=h01 d o q
  rw [s] at z;cases z⟩
def CXR(P:Program)(w:World):CXT:=λa H s E e d=>∃x b p c,e=.ref x/\Fly P w a H c s d x b/\ZiK p x c s.heap d.heap/\E b p c
section
variable {qual:Str} {scope:Scope} {f:Addr} {cd:Value} {outer:List Env} {s₀:Shared} {H₀:Hp} {E:XK}
def Zbe:Zdg (CXR P w) 006 E:=by
 intro k σ H s e j I h;obtain ⟨x,d,p,r,rfl,F,t,q⟩:=h;obtain ⟨B,n,m,i⟩:=F.ex;refine Vax (Ze9 (ZeA _ _) (wpAny_leaves_onW (Q:=λ_ l=>∃c,l={ j with heap:=c }/\Heap.FlyingW B outer x d n c/\j.heap.UpToSlots c) I.ok.frames rfl m λc a g=>⟨c,rfl,a,g⟩)) (λ_ l z=>?_) λ_ _ z=>z.1
 obtain ⟨⟨c,rfl,a,g⟩,u⟩:=z;exact ⟨x,d,p,r,rfl,I.flyOut rfl F m i a g,t.on u g (let ⟨o,e,_⟩:=a.there;⟨o,e⟩) (λb o e=>I.base.there b o e (λz=>nomatch z)),q⟩
end
abbrev Zfk:List Value:=[.type "ValueError",.type "Exception",.type "BaseException",.type "object"]
def ZuH(X:K.In h₀)(m:mg x=some 05)(q:W.excIn K C bmB newId=true):OwnCls x C bmB newId mg h₀:=by
 refine ⟨m,?_⟩;unfold W.excIn at q;split at q
 ·rename_i dd cd sl ho;split at q
  ·rename_i C' bm k0 k1 k2 k3 n k5 hm hs;simp only [Vbo,VaS,Bool.not_eq_true'] at q;obtain ⟨⟨⟨⟨⟨rfl,rfl⟩,a⟩,s⟩,b⟩,d⟩:=q;obtain ⟨g,t,k,o,r,i,p,e,h,c,j⟩:=cd;subst hm a;have f:sl=#[k0,k1,k2,k3,some (.builtin n),k5]:=by
    obtain ⟨l⟩:=sl;simp only at hs;rw [hs]
   subst f;exact ⟨bm,o,g,r,t,i,p,e,h,c,dd,k0,k1,k2,k3,k5,_,X _ _ ho,.of_isNs (W.isNs_of_in X b),W.nsMap_none_of_in X b d,W.tail_of_in X s⟩
  ·cases q
 ·cases q
section
def Inv.flyMade(I:09)(hex:X.ex=[])(hst:X.stack=X.env::X.outer)(hfr:X.env.frame=some X.env.locals){x:Addr}{s1:Shared}(e1:s1={ s with heap:=h1,toks:=s1.toks })(hx:Heap.MadeExcOf s.heap h1 x cls args)(k:∀s2,Fly X.prog X.w X.outer X.H₀ H X.s₀ s2 x cls->CtxN x s2.heap->Q () s2):wX X (leaving X.env (.ref x)) Q E s1:=by
 have h:∀env∈X.stack,∀b,env.frame=some b->b∈frs X.stack:=λenv i b d=>VaP.mpr ⟨env,i,d⟩;have c:s1.heap=h1:=by rw [e1]
 refine Vax (Ze9 (ZeA _ _) (wpAny_leaves_madeW (Q:=λ_ s2=>∃a t,s2={ s1 with heap:=a }/\Heap.FlyingW (W.hideAll s.heap (frs X.stack)) X.outer x cls (.ref t) a/\s1.heap.UpToSlots a) (by rw [<-hst];exact I.ok.frames) hfr (λb o q=>Vak _ q) (by rw [<-hst];exact W.funFrames_hide I.stack h) (by rw [c];exact hx) λa t f _ _ g=>⟨a,t,rfl,f,g⟩)) (λ_ s2 z=>?_) λ_ _ z=>z.1
 obtain ⟨⟨a,t,rfl,f,g⟩,j⟩:=z;refine k _ ?_ (CtxN.on (by rw [c];exact let ⟨t,e,_⟩:=hx.there;⟨_,_,e,rfl,rfl⟩) j (let ⟨o,e,_⟩:=f.there;⟨o,e⟩));have F:Fly X.prog X.w X.outer X.H₀ H X.s₀ { s with heap:=a } x cls:=by
  refine ZjM I.os I.bare (I.unStack hex I.sub) I.hok I.stkFree (λb d=>(I.stack.mem d).2) (λb o e _ d=>Vaj _ e d) I.sub (λb h1 a=>?_) f ((Heap.UpToSlots.of_keeps hx.keeps).trans (by rw [<-c];exact g)) (I.hok.free hx.new);rcases Vat.mp (I.stkSub b h1) with e | e
  ·rw [e];exact Vas I.ok.above
  ·exact aB e a
 refine ⟨?_,?_,F.un,F.hok,F.frf,F.free,F.ex⟩
 ·rw [e1];exact I.os
 ·rw [e1];exact I.bare
end
section
variable {qual:Str} {scope:Scope} {f:Addr} {cd:Value} {outer:List Env} {s₀:Shared} {H₀:Hp} {E:XK}
def Zra(E:XK)(C:Addr)(te:TA):TS:=λ_ σ H=>te σ H λb a=>b.length<=1000/\E 05 none a
def Zpf(hg:Gl 006 x)(hm:mg x=some 05)(hq:W.excIn K C Zfk "ValueError.__new__"=true)(ha:PA 006 (e::es) t)(hd:ND x:=by decide)(he:starEach (e::es) (006).env=(false,eval e (006).env)::starEach es (006).env:=by rfl)(hpl:(backTo cpos (starEach es (006).env)).any (·.1)=false:=by rfl) :
  PS 006 (.Raise (some (.Call (.Name x np) (e::es) [] cpos)) none pos) (Zra E C t):=by
 intro a s σ H D I h;obtain ⟨u,m,nm,q,bs,hdct,sn,sub,ab,col,dd,k0,k1,k2,k3,k5,r,k,o,c,T⟩:=(ZuH I.mod.kin hm hq).obj;refine wpAny_Raise_call_subU (nm:=nm) (q:=q) (N:=m) (bs:=bs) (hdct:=hdct) (sn:=sn) (sub:=sub) (ab:=ab) (col:=col) (dd:=dd) (k0:=k0) (k1:=k1) (k2:=k2) (k3:=k3) (k5:=k5)
  Vbz (by decide +kernel) Vbz (T.hasType PySem.F.excBase_ValueError.hasBase) (I.ok.hd rfl) (by rw [he];show (false||(backTo cpos (starEach es _)).any (·.1))=false;rw [hpl];rfl) c (ZdN I hg hm ⟨rfl,?_⟩ hd)
 have d:=ha cpos a s σ H _ I h;rw [he] at d ⊢;refine Calls.evalArgs_plain (Vax d (λG v z=>?_) λ_ _ y=>y);obtain ⟨B,i,b,n,l,g⟩:=z;refine ⟨rfl,by rw [<-n.length];exact Nat.le_of_lt (Zn9 l),b.bk _ _ k,o.keeps b.bk,T.keeps b.bk,λh' ex hx=>?_⟩;exact b.flyMade rfl rfl rfl rfl hx λp F j=>⟨ex,.ref C,none,i,rfl,F,.no j,g⟩
end
def ExcAt(a:Addr)(C:Value)(h:Heap):Prop:=∃b,h.get? a=some b/\b.cls=C
def exO(a:Addr)(C:Value):HO:=.ext (ExcAt a C)
end L2
namespace L2
open PySem.Calls
def ZvN(e:ExcAt a C h):Zdl P w H h a (exO a C) :=
 ⟨e,e.imp λ_ z=>z.1,λ_ _ ⟨o,q,c⟩ k=>⟨o,k o q,c⟩⟩
def ExcAt.ty(e:ExcAt a C h):W.Looks M h (typeOf (.ref a)) C:=by
 obtain ⟨o,c,b⟩:=e;exact b▸(W.Looks.ld c).andThen .now
structure Zhs(K:W.Frag)(D:Addr):Prop where
 g:W.findIn K (.ref D) "__getattribute__"=some (some (.builtin "BaseException.__getattribute__"))
 n:W.findIn K (.ref D) "__getattr__"=some none
 b:W.mroIn K D (.type "BaseException")=some true
 d:W.hasDictIn K D=true
 f:W.findIn K (.ref D) "__class__"=some (some 008)
 s:W.specialIn K 008 "__get__"=some (some (.builtin "getset_descriptor.__get__"))
 t:W.takesIn K 008=some true
 m:W.mroIn K D (.type "object")=some true
section
open PySem.Builtin PySem.Builtin.ObjectAttr PySem.Builtin.Getset_descriptor PySem.W
variable{prog:Program} {E:Value->Shared->Prop} {x D:Addr} {name:Str} {M:Model} {h:Heap}
def Zpg(XI:K.In h)(ha:W.findIn K (.ref D) name=some (some a))(hg:W.specialIn K a "__get__"=some (some g))(ht:W.takesIn K a=some true):W.Looks M h (find v (.ref D) name) (.bind g a):=by
 have b:=VaV (M:=M) XI ha;have c:W.Looks M h (getOf (some a)) (some g):=W.looks_specialIn XI hg;have d:W.Looks M h (dataDescriptor? (some a) (some g)) (some (g,a)):=(W.looks_takesIn XI ht).andThen .now;exact b.andThen (c.andThen (d.andThen (W.Looks.tag .now)))
def ZlK{nameV:Value}{Q:Unit->Shared->Prop}{hh:Heap}{gg:Array GenState}{dd:Drawn}{tt:Nat}{os:OsState}(t0:Looks M hh (typeOf (.ref x)) (.ref D))(t5:Looks M hh (isSubtype (.ref D) (.type "BaseException")) true)(hq:Q () ⟨hh,gg,dd,tt,os⟩) :
  wpAny M A (checkBuiltinCall "BaseException.__getattribute__" ⟨[.ref x,nameV],[]⟩) Q E ⟨hh,gg,dd,tt,os⟩:=by
 have a:=F.args_bexc_ga (.ref x) nameV;refine VaD ?_;refine VaD (t0.at (t5.at ?_))
 repeat (first | wp_step)
 exact hq
def Zqc{tk:Tok}{Q:Fin->Shared->Prop}{hh:Heap}{gg:Array GenState}{dd:Drawn}{tt:Nat}{os:OsState}(t0:Looks 08 hh (typeOf (.ref x)) (.ref D))(t2:Looks 08 hh (find (.ref x) (.ref D) "__class__") (.bind (.builtin "getset_descriptor.__get__") 008))(t4:Looks 08 hh (isSubtype (.ref D) (.type "object")) true)(hq:Q (.done (.ret (.ref D))) ⟨hh,gg,dd,tt,os⟩) :
  wpAny 08 A (Builtin.«object.__getattribute__» ⟨[.ref x,.str "__class__" tk],[]⟩) Q E ⟨hh,gg,dd,tt,os⟩:=by
 refine VaD (VaF (VaD (VaF (VaD (t0.at (VaD (t2.at ?_)))))));unfold bindTo
 repeat (first | with_reducible refine VaD ?_ | with_reducible refine Vbl ?_)
 refine Va3 (VbA KF.slot_gs.plain KF.entry_gs (KF.slot_gs.check _ _ _ _ _ _ _ _ KF.type_class (KF.args_gs _ _ _) ?_));refine VaD (VaF ?_);unfold descrGetter descrCheckInstance descrNameAndClass isInstance;simp only [KF.owner_class]
 repeat lk
 refine ⟨VbB _ (by decide +kernel),VbC KF.entry_class ?_⟩
 repeat lk
 exact hq
def Zm3(XI:K.In s.heap)(I:ExcAt x (.ref D) s.heap)(C:Zhs K D)(hQ:Q (some (.ref D)) { s with toks:=s.toks+1 }):wpAny 08 A (getAttr? (.ref x) "__class__") Q E s:=by
 obtain ⟨k,p,o,q,l⟩:=s;have a:=I.ty (M:=08);have i:=VaV (M:=08) XI C.g;have d:=Zpg (M:=08) (v:=.ref x) XI C.f C.s C.t;have c:=VaV (M:=08) XI C.n;have e:=VbD (M:=08) XI C.m;have h:=VbD (M:=08) XI C.b;have j:=(F.excAttr_ValueError.ga).bind (.ref x);refine VaD (wpAny_mkText (VaD (wpAny_attempt (Vbl (VaD (a.at (VaD (i.at ?_))))))));refine VaD (c.at (VaD (wpAny_attempt (Vbl ?_))));refine VaD (VaF (Va3 ?_));refine VbA F.excAttr_ValueError.ga.plain F.entry_bexc_ga (ZlK a h (Zqc a d e ?_));exact handed_on rfl (VaF hQ)
def ZkV(C:Zhs K D):KitX K (.ref x) (.ref D) (ExcAt x (.ref D)) where
 ty:=λ_ _ _ I=>I.ty
 it:=λ_ _ b _=>by
  obtain ⟨g,a,_⟩:=any_some C.d;unfold clsIn at a;split at a
  ·rename_i c1 c2 c3 c4 ho;intro _ _ _ _ k q;exact VaD (VaT (k _ _ (b _ _ ho)) (VaF q))
  ·cases a
 ne:=λh l i f n j b c=>by
  obtain ⟨g,a,_⟩:=any_some C.d;refine Vab.mpr λq=>?_;have e:=Value.ref.inj (VaS.mp q);subst e;unfold clsIn at a;split at a
  ·rename_i c1 c2 c3 c4 ho;have z:=(b _ _ ho).symm.trans c;cases z
  ·cases a
 ca:=λb I k=>Zm3 b I C k
end
def Cx.inX(X:Cx)(e:Addr):Cx:={ X with A:=X.A.mark (some (.ref e)),calm:=false,xe:=λ_ _=>False }
section
variable {H':Hp} {s':Shared} {x:Addr} {cls:Value}
def Cx.Ok.inX(ok:X.Ok)(e):(X.inX e).Ok :=
 ⟨ok.mod,ok.kind,ok.glob,ok.blt,ok.above,ok.inj,ok.has,ok.cab,(λz=>nomatch z),ok.frames,ok.stk,ok.exf,ok.bs,ok.bsz,ok.noex,ok.exfs,ok.funs,ok.frf⟩
def Inv.inX(I:09)(e):Inv (X.inX e) pins σ H s:=⟨I.ok.inX e,I.os,I.bare,I.base,I.loc,I.cell,I.free,I.freeC,I.pin,I.hok,I.len⟩
def Inv.outX{e:Addr}(I:Inv (X.inX e) pins σ H s)(ok:X.Ok):Inv X pins σ H s:=⟨ok,I.os,I.bare,I.base,I.loc,I.cell,I.free,I.freeC,I.pin,I.hok,I.len⟩
def Inv.goes{n:Str}(I:09)(hN:X.N.Nodup)(hi:X.N[i]?=some n)(hk:X.env.kindOf n=some .local)(h:∀s',Inv X pins (σ.set i none) H s'->Q () s'):wpAny M A (do bindName X.env n .none;unbindBehindTheSuite X.env n pos) Q E s:=by
 obtain ⟨m,C,J⟩:=id I.loc;have t:(X.env.scope.kind==.class||(X.env.scope.kind==.module&&X.env.locals != X.env.globals))=false:=by rw [I.ok.kind];rfl
 have u:i<σ.length:=by rw [I.len];exact (Vaw.mp hi).1
 have l:=I.cne;obtain ⟨Y,_,_,S,_⟩:=id C;refine wpAny_nameGoes_keeps hk C t λZ v B a=>?_;have f:∀b o,X.s₀.heap.get? b=some o->b≠X.env.locals:=λb o e=>Vai (Vag (Vaf e) I.ok.above);refine h _ ⟨I.ok,I.os,I.bare,⟨λb o e n x r=>?_,λb o e n x r=>?_,I.base.free,λb o e r=>?_,I.base.tups,I.base.frzs,I.base.tbls⟩,⟨_,B,λj y U g w W=>?_⟩,λy c e=>?_,I.free,I.freeC,λp G=>?_,λb O e=>?_,by simpa using I.len⟩
 ·exact (a.2 b (f b o e)).trans (I.base.keep b o e n x r)
 ·obtain ⟨K,g⟩:=I.base.slot b o e n x r;exact ⟨K,(a.2 b (f b o e)).trans g⟩
 ·obtain ⟨L,g⟩:=I.base.there b o e r;exact ⟨L,(a.2 b (f b o e)).trans g⟩
 ·by_cases hj:j=i
  ·subst hj;rw [List.getElem?_set_self u] at w;cases w
  ·rw [List.getElem?_set_ne (Ne.symm hj)] at w;obtain ⟨V,T,q⟩:=J j y U g w W;refine ⟨V,T,?_⟩;rcases q with ⟨k,e⟩ | ⟨k,c,e,z⟩
   ·refine .inl ⟨k,?_⟩;have P:y≠n:=λe=>hj (Zh1 hN g (e▸hi));simp [P,e]
   ·exact .inr ⟨k,c,e,z.sameBut a (l y c e)⟩
 ·obtain ⟨D,z⟩:=I.cell y c e;exact ⟨D,z.sameBut a (l y c e)⟩
 ·obtain ⟨e,n,F,R,d⟩:=I.pin p G;exact ⟨(a.2 p.1 F).trans e,n,F,R,d⟩
 ·refine (I.hok b O e).stay (λc D hc q=>(a.2 c ?_).trans q) (λ_ q=>q) λ_ _ q=>q;rintro rfl;rcases hc with rfl | hc
  ·rw [I.free] at e;cases e
  ·rw [I.free] at hc;cases hc
def Inv.landed(I:09)(F:Fly X.prog X.w X.stack H H' s s' x cls):Inv X pins σ H' s':=I.call' (ch:=[]) F.os F.un F.hok F.bare λ_ z=>nomatch z
def Inv.caught(I:09)(F:Fly X.prog X.w X.stack H H' s s' x cls):Inv X pins σ (upd H' x (exO x cls)) s':=by
 obtain ⟨B,D,f,g⟩:=F.ex;have ex:=f.there;have A:s.heap.get? x=none:=by
  cases q:s.heap.get? x with
  | none=>rfl
  | some o=>
   obtain ⟨C,k,_⟩:=ex;have p:x∉frs X.stack:=λz=>by
    obtain ⟨_,J,i,y⟩:=f.2.2.1.mem z;obtain ⟨_,_,_,E,K,T,G,L,m,_,l,_⟩:=f;rw [m] at i;cases i;exact y _ l
   have z:=g x C k (.inr ⟨o,q⟩) p;rw [f.2.1] at z;cases z
 have h:∀b o,s.heap.get? b=some o->b≠x:=λb o e z=>by rw [z,A] at e;cases e
 have a:∀b o,H' b=some o->b≠x:=λb o e z=>by rw [z,F.free] at e;cases e
 refine I.call' F.os ⟨F.un.keep,F.un.slot,λb o e n t=>?_,F.un.there,λb j e=>?_,λb o u e=>?_,λb v e=>?_⟩ (λb o e=>?_) F.bare λ_ z=>nomatch z
 ·rw [Zaf (h b o e)];exact F.un.free b o e n t
 ·have z:=F.un.tups b j e;rw [Zaf (a b _ z)];exact z
 ·have z:=F.un.frzs b o u e;rw [Zaf (a b _ z)];exact z
 ·obtain ⟨d,z⟩:=F.un.tbls b v e;exact ⟨d,by rw [Zaf (a b _ z)];exact z⟩
 ·by_cases hb:b=x
  ·subst hb;rw [Zah] at e;cases e;exact ZvN ex
  ·rw [Zaf hb] at e;exact (F.hok b o e).stay (λ_ _ _ r=>r) (λc r=>by rw [Zaf (a c _ r)];exact r) λc j r=>by rw [Zaf (a c _ r)];exact r
end
section
variable{M:Model} {E:Value->Shared->Prop} {env:Env} {outer l:List Env} {L e:Addr} {cls a0:Value} {Q:Unit->Shared->Prop}
def Zj4(hfr:A.frames=some (env::outer))(hf:env.frame=some L)(hfl:Heap.FlyingW base (env::outer) e cls a0 s.heap)(hQ:∀h',Heap.HeldW base (env::outer) e cls a0 L h'->s.heap.UpToSlots h'->KD s.heap h'->Q () { s with heap:=h' }):wpAny M A (noteFrame (.ref e) env) Q E s :=
 Vax (Ze9 (Zid _ _) (wpAny_looks_onW (Q:=λ_ c=>∃h',c={ s with heap:=h' }/\Heap.HeldW base (env::outer) e cls a0 L h'/\s.heap.UpToSlots h') hfr hf hfl λh' b a=>⟨h',rfl,b,a⟩))
  (λ_ _ ⟨⟨h',z,b,a⟩,d⟩=>by subst z;exact hQ h' b a d) λ_ _ z=>z.1
def ZqK(hh:Heap.HeldW base l e cls a0 L s.heap)(hQ:∀h',Heap.FlyingW base l e cls a0 h'->s.heap.UpToSlots h'->KD s.heap h'->Q () { s with heap:=h' }):wpAny M A (setFlight (.ref e) none) Q E s :=
 Vax (Ze9 (Zd3 _ _) (wpAny_landsW (Q:=λ_ c=>∃h',c={ s with heap:=h' }/\Heap.FlyingW base l e cls a0 h'/\s.heap.UpToSlots h') hh λh' b a=>⟨h',rfl,b,a⟩))
  (λ_ _ ⟨⟨h',z,b,a⟩,d⟩=>by subst z;exact hQ h' b a d) λ_ _ z=>z.1
def ZqL(hh:Heap.FlyingW base l e cls a0 s.heap)(hQ:∀h',Heap.FlyingW base l e cls a0 h'->s.heap.UpToSlots h'->KD s.heap h'->Q () { s with heap:=h' }):wpAny M A (setFlight (.ref e) none) Q E s :=
 Vax (Ze9 (Zd3 _ _) (lands_againW (Q:=λ_ c=>∃h',c={ s with heap:=h' }/\Heap.FlyingW base l e cls a0 h'/\s.heap.UpToSlots h') hh λh' b a=>⟨h',rfl,b,a⟩))
  (λ_ _ ⟨⟨h',z,b,a⟩,d⟩=>by subst z;exact hQ h' b a d) λ_ _ z=>z.1
end
def Zlq(a:Addr)(C:Value)(d:Addr)(h:Heap):Prop:=∃b,h.get? a=some b/\b.cls=C/\b.dict=some d/\∃c,b.data=.fields c
def exC(a:Addr)(C:Value)(d:Addr):HO:=.ext (Zlq a C d)
def ZwI(e:Zlq a C d h):Zdl P w H h a (exC a C d) :=
 ⟨e,e.imp λ_ z=>z.1,λ_ _ ⟨o,q,c⟩ k=>⟨o,k o q,c⟩⟩
def trkX(p:Option Addr)(x d:Addr)(cls:Value)(H:Hp):Hp:=match p with
 | none=>upd H x (exO x cls)
 | some n=>upd (upd H x (exC x cls d)) d (.xd [("at",.int (((n)/2:Nat):Int))])
section
variable {H':Hp} {s':Shared} {x:Addr} {cls:Value}
def Inv.caughtP(I:09)(F:Fly X.prog X.w X.stack H H' s s' x cls)(py:ZiK p x H' s.heap s'.heap):∃d,(p.isSome=true->H' d=none/\d≠x)/\Inv X pins σ (trkX p x d cls H') s':=by
 cases p with
 | none=>exact ⟨0,(λz=>by cases z),I.caught F⟩
 | some n=>
  obtain ⟨R,d,m,y,K,V,S,D,M,N,_⟩:=py.2 n rfl;refine ⟨d,λ_=>⟨D,N⟩,?_⟩;obtain ⟨B,W,k,t⟩:=F.ex;have ex:Zlq x cls d s'.heap:=by
   obtain ⟨A,C,i,l,J,_⟩:=k.first;rw [y] at i;cases i;exact ⟨R,y,l,K,C,J⟩
  have U:s.heap.get? x=none:=by
   cases q:s.heap.get? x with
   | none=>rfl
   | some o=>
    obtain ⟨A,G,_⟩:=ex;have P:x∉frs X.stack:=λz=>by
     obtain ⟨_,Y,i,l⟩:=k.2.2.1.mem z;obtain ⟨_,_,_,Z,C,T,oT,ts,O,_,j,_⟩:=k;rw [O] at i;cases i;exact l _ j
    have z:=t x A G (.inr ⟨o,q⟩) P;rw [k.2.1] at z;cases z
  have v:∀b o,s.heap.get? b=some o->b≠x:=λb o e z=>by rw [z,U] at e;cases e
  have g:∀b o,s.heap.get? b=some o->b≠d:=λb o e z=>by rw [z,M] at e;cases e
  have f:∀b o,H' b=some o->b≠x:=λb o e z=>by rw [z,F.free] at e;cases e
  have a:∀b o,H' b=some o->b≠d:=λb o e z=>by rw [z,D] at e;cases e
  refine I.call' F.os ⟨F.un.keep,F.un.slot,λb o e n Q=>?_,F.un.there,λb E e=>?_,λb o u e=>?_,λb L e=>?_⟩ (λb o e=>?_) F.bare λ_ z=>nomatch z
  ·unfold trkX;dsimp only;rw [Zaf (g b o e),Zaf (v b o e)];exact F.un.free b o e n Q
  ·have z:=F.un.tups b E e;unfold trkX;dsimp only;rw [Zaf (a b _ z),Zaf (f b _ z)];exact z
  ·have z:=F.un.frzs b o u e;unfold trkX;dsimp only;rw [Zaf (a b _ z),Zaf (f b _ z)];exact z
  ·obtain ⟨h,z⟩:=F.un.tbls b L e;exact ⟨h,by unfold trkX;dsimp only;rw [Zaf (a b _ z),Zaf (f b _ z)];exact z⟩
  ·unfold trkX at e;dsimp only at e;by_cases j:b=d
   ·subst j;rw [Zah] at e;cases e;exact ⟨m,V,S⟩
   ·rw [Zaf j] at e;by_cases hb:b=x
    ·subst hb;rw [Zah] at e;cases e;exact ZwI ex
    ·rw [Zaf hb] at e;exact (F.hok b o e).stay (λ_ _ _ r=>r) (λc r=>by unfold trkX;dsimp only;rw [Zaf (a c _ r),Zaf (f c _ r)];exact r) λc E r=>by unfold trkX;dsimp only;rw [Zaf (a c _ r),Zaf (f c _ r)];exact r
end
def offI(i:Nat)(D:Ends):Ends:={ nx:=λσ H=>D.nx (σ.set i none) H,rt:=D.rt,bk:=λσ H=>D.bk (σ.set i none) H,ct:=λσ H=>D.ct (σ.set i none) H }
def tTry(sp:Sp)(hit:Value->Prop)(i:Nat)(u:Addr->TS)(t:TA):TS:=λD σ H=>t σ H λc e=>sp c e (λ_ a=>D.nx σ a) λb p a=>hit b/\∀x d,a x=none->(p.isSome=true->a d=none/\d≠x)->u x (offI i D) (σ.set i (some (.ref x))) (trkX p x d b a)
section
variable {y n:Str} {Cy fa:Addr} {sp:Sp} {t:TA} {u:Addr->TS} {p yp epos hpos:Pos} {b₀:Stmt} {suite:List Stmt}
def Zu1(hst:X.stack=X.env::X.outer)(hfr:X.env.frame=some X.env.locals)(F:FnOk X.prog X.w X.K X.mg X.base (CXR X.prog X.w) k fa fd ps sp)(hr:Room k X.A)(hg:Gl X x)(hm:X.mg x=some (.ref fa))(hk:W.keepIn X.K (.ref fa)=true)(hb:Binds X.K fd ps [])(ha:PA X.nox (e::es) t)(hgy:Gl X y)(hmy:X.mg y=some (.ref Cy))(hN:X.N.Nodup)(hi:X.N[i]?=some n)(hlo:X.env.kindOf n=some .local)(hnl:X.env.scope.names.lookup n=some .local)(hs:∀a,PSs (X.inX a) (b₀::suite) (u a))(hdb:ND x)(hdy:ND y)(hsw:swapsWith (.Call (.Name x p) (e::es) [] cpos) none epos.line X.env=pure false)(he:011)(hpl:(backTo cpos (starEach es X.env)).any (·.1)=false) :
  PS X (.Try [.Expr (.Call (.Name x p) (e::es) [] cpos) epos] [.ExceptHandler (some (.Name y yp)) (some n) (b₀::suite) hpos] [] [] pos) (tTry sp (λcls=>W.exmOne X.K cls (.ref Cy)=some true) i u t):=by
 intro b s σ H D I h;refine wpAny_Try_except (VaC (wpAny_Expr_any ?_ I.quiet hsw));refine Va5 (ZdN I hg hm ?_ hdb);refine Va6 I.ok.mod.kin hk (Vax (ha cpos b s σ H _ (I.wish _) h) (λY s1 zq=>?_) λ_ _ z=>z.elim) he hpl;obtain ⟨vs,H1,L,r,q⟩:=zq;refine ⟨L.unwish.kIn,?_⟩;have P:=L.unwish;have hl:(Y++[]).length=ps.length:=by rw [Va2,<-r.length];exact F.len _ _ _ _ q
 have S:=hb s1 Y P.kIn hl;rw [Va2] at S;refine Va3 (Va4 (F.run X.A X.stack s1 H1 ⟨Y,[]⟩ Y vs _ _ hr P.env0 S r q) λrr s' O=>?_);cases rr with
 | ok J=>
  cases J with
  | ret v=>
   obtain ⟨v',H2,V,_,q2⟩:=P.after O;exact VaB (VaB ⟨σ,H2,V,q2⟩)
  | next=>exact False.elim O
  | brk=>exact False.elim O
  | cont=>exact False.elim O
 | error ev=>
  obtain ⟨a,cls,p,H',rfl,Fl,py,hit,kk⟩:=O;obtain ⟨B,a0,J,U⟩:=Fl.ex;have fl':=hst▸J;refine Zj4 (by rw [I.ok.frames,hst]) hfr fl' λh1 M C kd1=>?_;refine ZqK M λh2 G m kd2=>?_;have F2:=Fl.moved J U (hst.symm▸G) (C.trans m);have V:=P.landed F2;refine wpAny_handleBy_cons (codeAny_handlers_test ?_) (by intro q;cases q);refine ZdN (V.inX a) hgy hmy ?_ hdy;have LT:W.Looks (model X.prog X.w) h2 (typeOf (.ref a)) cls:=ExcAt.ty (G.there);refine (W.exm_one (V.kIn) LT hit).here ?_;refine codeAny_handlers_suite_as ?_;refine ZqL G λh3 T R kd3=>?_;have F3:=Fl.moved J U (hst.symm▸T) ((C.trans m).trans R);obtain ⟨dx,hdx,I3⟩:=P.caughtP F3 (py.on ((kd1.trans kd2).trans kd3) ((C.trans m).trans R) (let ⟨o,e,_⟩:=T.there;⟨o,e⟩) λ_ o e=>⟨o,e⟩);refine ZdR (X:=X.inX a) (v:=.ref a) (I3.inX a) hN hi (.inl hnl) rfl (λs4 I4=>?_) (.inr hnl);refine Vax (hs a b s4 _ _ _ I4 (kk a dx F3.free hdx)) (λf s5 Z=>?_) λ_ _ z=>False.elim z;have l:∀{c:St} {d:Hp} {Q:Unit->Shared->Prop},Inv (X.inX a) b c d s5->(∀s',Inv X b (c.set i none) d s'->Q () s')->wX X (do bindName X.env n .none;unbindBehindTheSuite X.env n hpos) Q X.xe s5:=λj g=>(j.outX I.ok).goes hN hi hlo g
  cases f with
  | next=>
   obtain ⟨c,d,j,q⟩:=Z;exact l j λs6 E=>⟨_,d,E,q⟩
  | brk=>
   obtain ⟨c,d,j,q⟩:=Z;exact l j λs6 E=>⟨_,d,E,q⟩
  | cont=>
   obtain ⟨c,d,j,q⟩:=Z;exact l j λs6 E=>⟨_,d,E,q⟩
  | ret v=>
   obtain ⟨v',c,d,j,r5,q⟩:=Z;exact l j λs6 E=>⟨v',_,d,E,r5,q⟩
end
end L2
namespace L2
def Zoj(l)(items)(n)(sl)(b)(items2)(n2)(sl2)(hc0:items.size+items2.size<=sizeLine) :
  Meets (Builtin.«list.__add__» ⟨[.ref l,.ref b],[]⟩) (λ_ R s=>s.heap.get? l=some { cls:=.type "list",dict:=none,data:=.seq items n,slots:=sl }/\s.heap.get? b=some { cls:=.type "list",dict:=none,data:=.seq items2 n2,slots:=sl2 }/\R (.ok (.ret (Value.ref s.heap.objs.size))) { s with heap:=s.heap.push { cls:=Value.type "list",data:=Data.seq (items++items2) },toks:=s.toks }) :=
 .of_wp λa w A R s h=>by obtain ⟨i,g,d,f,m⟩:=s;obtain ⟨c,e,h⟩:=h;have j:=AutoSeq1.idx_int;have k:=AutoSeq1.sub_tuple_tuple;have o:=AutoSeq1.sub_list_list;have p:=AutoSeq1.sub_tuple_list;have q:=AutoSeq1.sub_list_tuple;wp_walk using AutoSeq1.wpAny_loadPart' c,AutoSeq1.wpAny_loadPart' e;exact ⟨_,rfl,h⟩
section
def Zpp(I:09)(hH:SqL X.K H l xs)(hB:SqL X.K H b zs)(hz:xs.length+zs.length<=sizeLine)(q:∀p,H p=none->Q (.ref p) (upd H p (.lst (xs++zs)))) :
  wX X (binaryOp .Add (.ref l) (.ref b)) (EP X pins σ Q) X.xe s:=by
 obtain ⟨c,r,⟨⟨E,B,G,f⟩,n,e,i,m,g⟩,z⟩:=I.list hH;obtain ⟨a,k,⟨⟨D,x,y,d⟩,u,j,o,h,t⟩,C⟩:=I.list hB;simp only at i m g o h t;subst i m g o h t;refine concat_meets ⟨_,e,rfl⟩ ⟨_,j,rfl⟩ noFill_list_add seq_list_add F.slot_list_add F.entry_list_add (F.args_list_add_2 _ _) (Zoj l c.toArray n f b a.toArray u d (by rw [VaR,VaR,<-r.length,<-k.length];exact hz)) ⟨e,j,?_⟩;have v:c.toArray++a.toArray=(c++a).toArray:=by simp
 rw [v];exact ⟨.ref _,_,I.lnew (r.append k) (by rw [Vbf];exact hz),rfl,q _ I.fresh⟩
def Zp3(I:09)(ha:SqT X.K H a xs)(hb:SqT X.K H b ys)(hz:xs.length+ys.length<=sizeLine)(q0:xs=[]->Q (.ref b) H)(q1:xs≠[]->ys=[]->Q (.ref a) H)(q2:xs≠[]->ys≠[]->∀p,H p=none->Q (.ref p) (upd H p (.tup (xs++ys)))) :
  wX X (binaryOp .Add (.ref a) (.ref b)) (EP X pins σ Q) X.xe s:=by
 by_cases hx:xs=[]
 ·obtain ⟨t,z,u,_⟩:=I.tuple ha;obtain ⟨d,C,y,_⟩:=I.tuple hb;have r:=z.nil_iff.mpr hx;subst r;obtain ⟨⟨q,v,k,x⟩,m,o,n,j⟩:=id u;obtain ⟨⟨l,h,i,g⟩,e,f,B,c⟩:=id y;simp only at o j f c;subst o j f c;exact concat_meets ⟨_,m,rfl⟩ ⟨_,e,rfl⟩ noFill_tuple_add seq_tuple_add PySem.F.slot_tuple_add PySem.F.entry_tuple_add (PySem.F.args_tuple_add_2 _ _)
   (tuple_addW0 a b ([]:List Value).toArray d.toArray n B v h x g rfl) ⟨m,e,⟨.ref b,H,I,rfl,q0 hx⟩⟩
 ·exact ZtA pins s σ H (.ref a) (.ref b) _ _ Q I rfl rfl ⟨a,b,xs,ys,rfl,rfl,ha,hb,hx,hz,q1 hx,q2 hx⟩
end
end L2
namespace HT
section
variable{prog:Program} {E:Value->Shared->Prop}
def ZeV{t sl:Addr}{items:Array Value}{vl vu:Value}{lo hi:Option Int}{Q:Value->Shared->Prop}(ht:IsTup s.heap t items)(hs:s.heap.IsSliceOf sl vl vu .none)(pl:IsPart vl lo)(pu:IsPart vu hi)(hw:sIx items.size 0 lo=0/\sIx items.size items.size hi=items.size)(h:Q (.ref t) s):wpAny 08 A (getItem (.ref t) (.ref sl)) Q E s:=by
 obtain ⟨f,d,b,e⟩:=id hs;have c:s.TypeIs (.ref sl) "slice":=⟨f,d,b⟩;unfold getItem
 try with_reducible refine Vbl ?_
 first | refine VaD (VaF ?_) | skip
 refine VaD (wpAny_sequenceKey ht.typeIs 00 ?_)
 refine VaD (wpAny_callSpecial?_slot ht.typeIs Vbm
  (wpAny_call_entry Vbm ht.typeIs entry_tuple_getitem ?_ (args_tuple_getitem _ _)))
 show wpAny _ _ (Builtin.Tuple.tupleItemsOf (.ref t) >>= _) _ _ s;refine VaD (tupleItemsOf_ ht ?_);refine VaD (Vbn c ?_);rw [iP 00];refine VaD (ZdU hs pl pu ?_);have a:(((sIx items.size 0 lo:Nat):Int)==0&&(1:Int)==1&&(sIx items.size items.size hi - sIx items.size 0 lo)==items.size)=true:=by
  rw [hw.1,hw.2];simp
 show wpAny _ _ (if (((sIx items.size 0 lo:Nat):Int)==0&&(1:Int)==1&&(sIx items.size items.size hi - sIx items.size 0 lo)==items.size)=true then _ else _) _ _ s
 rw [iP a]
 first
  | exact VaD (VaD (Vbn ht.typeIs (VaF (by rw [iP 00];exact VaD (wpAny_rule (VaF ⟨_,rfl,VaF h⟩))))))
  | (refine VaD (VaD (Vbn ht.typeIs (VaF ?_)))
     rw [iP 00]
     trace_state
     exact VaD (wpAny_rule (VaF ⟨_,rfl,VaF h⟩)))
end
end HT
namespace L2
section
variable{prog:Program} {E:Value->Shared->Prop}
def Zjr(hne:t≠it):∀n i s Q,s.heap.IsListIter it t i->s.heap.IsList t items->i+n<=items.size ->
  (∀h',h'.IsListIter it t (i+n)->Heap.SameBut it s.heap h'->Q ((items.toList.drop i).take n) { s with heap:=h' })->wpAny 08 A (draw (.ref it) n) Q E s
 | 0,i,s,Q,hit,_,_,hQ=>by
  exact VaF (by simpa using hQ s.heap hit (Heap.SameBut.refl ..))
 | n+1,i,s,Q,hit,ht,hle,hQ=>by
  have e:i<items.size:=by omega
  refine VaD (wpAny_pyNext_list_item hit ht (x:=items[i]) (by simp [e]) λg b a=>?_);refine VaD (Vbl (Zjr hne n (i+1) _ _ b (ht.extBut a.extBut hne) 000 λf c d=>VaF ?_));have h:items.toList.drop i=items[i]::items.toList.drop (i+1):=by simp [VbE,e]
  have:=hQ f (by rw [show i+(n+1)=i+1+n by omega];exact c) (a.trans d);rw [h,List.take_succ_cons] at this;exact this
def Zgg(hh:A.handled=none)(ht:s.heap.IsList t items)(hQ:∀h',Heap.ExtBut s.heap.objs.size s.heap h'->Q items.toList { s with heap:=h' }):wpAny 08 A (unpackItems (.ref t) items.size none) Q E s:=by
 have i:t≠s.heap.objs.size:=by obtain ⟨o,l,_⟩:=ht;exact Vai (Vaf l)
 unfold unpackItems;refine VaD ?_
 ·unfold notIterableAtAll;refine VaD (wpAny_specialOf ht.typeIs F.slot_list_iter.lookup ?_);refine VaF ?_;simp only [VbF,Vbh];refine VaD (Vbl (wpAny_pyIter_list ht ?_));refine VaD (Vbl (Zjr i items.size 0 _ _ ⟨_,VaM _ rfl,rfl,rfl⟩ (ht.push _) 000 λj c a=>?_));have g:List.take items.size (List.drop 0 items.toList)=items.toList:=by
   rw [VbG];exact VbH 03
  rw [g];rw [iN 03];have f:=(ht.push _).extBut a.extBut i;refine VaD (Vbl (wpAny_pyNext_list_end hh c f 03 λh d=>?_));simp only [Option.isSome_none,VbF,Vbh];refine VaF (hQ h λb o k e=>d b o k (a.extBut b o k (VaH _ e)))
def ZfJ{x1}(hh:A.handled=none)(ht:s.heap.IsList t items)(hn:(assignEach elts env).length=items.size)(hstar:(assignEach elts env).findIdx? (·.1)=none)(h:∀h',Heap.ExtBut s.heap.objs.size s.heap h'->wpAny 08 A (assignInOrder ((assignEach elts env).map (·.2)) items.toList) Q E { s with heap:=h' }) :
  wpAny 08 A (assign (.Tuple elts x1 pos) env (.ref t)) Q E s:=by
 rw [assign_Tuple];refine VaD (VaE ?_);unfold unpack;rw [hn,hstar];exact VaD (Vbl (Zgg hh ht h))
end
end L2
namespace Dl
inductive D where
 | non | bl (b:Bool) | int (i:Int) | str (x:Str) | ty (n:String) | cls (c:Str)
 | tup (xs:List D) | lst (xs:List D) | exc (c:Str) | ins (c:Str) (ns:List Str) (vs:List D)
def tagX(n:Nat)(c:Str):Str:=⟨((0x110000+n)::c.cps.toList).toArray⟩
def pay(c:Str):Option Nat:=match c.cps.toList with
 | k::_=>if 0x110000<=k then some (k - 0x110000) else none
 | []=>none
def clsOf(c:Str):Str:=match c.cps.toList with
 | k::r=>if 0x110000<=k then ⟨r.toArray⟩ else c
 | []=>c
def Zkl(n)(c):pay (tagX n c)=some n:=by
 unfold pay tagX;simp
def ZgD(n)(c):clsOf (tagX n c)=c:=by
 unfold clsOf tagX;simp
inductive Res(α:Type) where
 | ok (a:α) | ex (c:Str) | bad
def Res.bind:Res α->(α->Res β)->Res β
 | .ok a,f=>f a
 | .ex c,_=>.ex c
 | .bad,_=>.bad
def ZaH(a:α)(f:α->Res β):(Res.ok a).bind f=f a:=rfl
inductive Cl where
 | no | im (d:D) | ow (ds:List D)
abbrev Ev:=List Cl
abbrev ME:=Ev->Res D
abbrev MB:=Ev->Res Bool
abbrev MA:=Ev->Res (List D)
def getC:Option Cl->Res D
 | some (.im d)=>.ok d
 | _=>.bad
def v(i:Nat):ME:=λρ=>getC ρ[i]?
def c(d:D):ME:=λ_=>.ok d
def o1(f:D->Res D)(a:ME):ME:=λρ=>(a ρ).bind f
def o2(f:D->D->Res D)(a b:ME):ME:=λρ=>(a ρ).bind λx=>(b ρ).bind λy=>f x y
def yaa:MA:=λ_=>.ok []
def Zaa(a:ME)(r:MA):MA:=λρ=>(a ρ).bind λx=>(r ρ).bind λb=>.ok (x::b)
def on(f:List D->Res D)(a:MA):ME:=λρ=>(a ρ).bind f
def mtp(a:MA):ME:=λρ=>(a ρ).bind λb=>.ok (.tup b)
def mls(a:MA):ME:=λρ=>(a ρ).bind λb=>.ok (.lst b)
def tru:D->Res Bool
 | .bl b=>.ok b
 | _=>.bad
def trb(a:ME):MB:=λρ=>(a ρ).bind tru
def bAnd(a b:MB):MB:=λρ=>(a ρ).bind λx=>if x=true then b ρ else .ok false
def bOr(a b:MB):MB:=λρ=>(a ρ).bind λx=>if x=true then .ok true else b ρ
def bNot(a:MB):MB:=λρ=>(a ρ).bind λx=>.ok (!x)
def eAnd(a b:ME):ME:=λρ=>(trb a ρ).bind λx=>if x=true then b ρ else .ok (.bl false)
def eNot(a:ME):ME:=λρ=>(trb a ρ).bind λx=>.ok (.bl (!x))
def ife(t:MB)(a b:ME):ME:=λρ=>(t ρ).bind λx=>if x=true then a ρ else b ρ
def Zhl(a b:Int):Bool:=decide (a.natAbs<2^64)||decide (b.natAbs<2^64)||decide (a.natAbs.log2+b.natAbs.log2<100000000)
def LIM:Nat:=1000000
def yaT:D->D->Res D
 | .int a,.int b=>.ok (.int (a+b))
 | .lst a,.lst b=>if a.length+b.length<=LIM then .ok (.lst (a++b)) else .bad
 | .tup a,.tup b=>if a.length+b.length<=LIM then .ok (.tup (a++b)) else .bad
 | .str a,.str b=>if a.length+b.length<=LIM then .ok (.str (a++b)) else .bad
 | _,_=>.bad
def ii(f:Int->Int->Res D):D->D->Res D
 | .int a,.int b=>f a b
 | _,_=>.bad
def iSub(a b:Int):Res D:=.ok (.int (a - b))
def iMul(a b:Int):Res D:=if Zhl a b=true then .ok (.int (a*b)) else .bad
def iMod(a b:Int):Res D:=if 0<b then .ok (.int (a%b)) else if b=0 then .bad else .ok (.int (a.fmod b))
def iDiv(a b:Int):Res D:=if b.natAbs.log2<9000 then (if 0<b then .ok (.int (a/b)) else if b=0 then .bad else .ok (.int (a.fdiv b))) else .bad
def iPow(a b:Int):Res D:=if 0<=b/\b<=1000000/\a.natAbs<2^64 then .ok (.int (a^b.toNat)) else .bad
def iShl(a b:Int):Res D:=if 0<=b/\b<=1000000/\a.natAbs<2^64 then .ok (.int (a*2^b.toNat)) else .bad
def iShr(a b:Int):Res D:=if 0<=b then .ok (.int (a/2^b.toNat)) else .bad
def iLt(a b:Int):Res D:=.ok (.bl (decide (a<b)))
def iLe(a b:Int):Res D:=.ok (.bl (decide (a<=b)))
def iGt(a b:Int):Res D:=.ok (.bl (decide (b<a)))
def iGe(a b:Int):Res D:=.ok (.bl (decide (b<=a)))
abbrev dSub:=ii iSub
abbrev ydb:=ii iMul
abbrev yb5:=ii iMod
abbrev ydi:=ii iDiv
abbrev dPow:=ii iPow
abbrev dShl:=ii iShl
abbrev dShr:=ii iShr
abbrev dLt:=ii iLt
abbrev dLe:=ii iLe
abbrev dGt:=ii iGt
abbrev dGe:=ii iGe
def dNeg:D->Res D
 | .int a=>.ok (.int (-a))
 | _=>.bad
def chain(f g:D->D->Res D)(a b d:ME):ME:=λρ=>(a ρ).bind λx=>(b ρ).bind λy=>(f x y).bind λz=>(tru z).bind λb=>if b=true then (d ρ).bind λu=>g y u else .ok (.bl false)
mutual
def eqD:D->D->Bool
 | .non,.non=>true
 | .bl a,.bl b=>a==b
 | .bl a,.int j=>(if a then 1 else 0)==j
 | .int i,.bl b=>i==(if b then 1 else 0)
 | .int i,.int j=>i==j
 | .str x,.str y=>x==y
 | .lst xs,.lst ys=>eqDs xs ys
 | .tup xs,.tup ys=>eqDs xs ys
 | _,_=>false
def eqDs:List D->List D->Bool
 | [],[]=>true
 | x::xs,y::ys=>eqD x y&&eqDs xs ys
 | _,_=>false
end
mutual
def plain:Nat->D->Bool
 | _,.non=>true
 | _,.bl _=>true
 | _,.int _=>true
 | _,.str x=>x.cps.all (·<0x110000)
 | k+1,.tup xs=>ZaR k xs
 | k+1,.lst xs=>ZaR k xs
 | _,_=>false
def ZaR:Nat->List D->Bool
 | _,[]=>true
 | k,x::xs=>plain k x&&ZaR k xs
end
def dEq(x y:D):Res D:=if plain 50 x&&plain 50 y then .ok (.bl (eqD x y)) else .bad
def dNe(x y:D):Res D:=if plain 50 x&&plain 50 y then .ok (.bl (!eqD x y)) else .bad
def inD(x:D)(ys:List D):Bool:=ys.any λy=>eqD y x
def seqD:D->Res (List D)
 | .lst ys=>.ok ys
 | .tup ys=>.ok ys
 | _=>.bad
def dIn(x y:D):Res D:=(seqD y).bind λa=>if plain 50 x&&ZaR 50 a then .ok (.bl (inD x a)) else .bad
def dNin(x y:D):Res D:=(seqD y).bind λa=>if plain 50 x&&ZaR 50 a then .ok (.bl (!inD x a)) else .bad
def ZkF:D->Bool
 | .non=>true
 | _=>false
def dIsN(x:D):Res D:=.ok (.bl (ZkF x))
def Zmu(x:D):Res D:=.ok (.bl (!ZkF x))
def at_(xs:List α)(i:Int):Option α:=if 0<=i then xs[i.toNat]? else if -(xs.length:Int)<=i then xs[(i+xs.length).toNat]? else none
def ofO:Option α->Res α
 | some a=>.ok a
 | none=>.bad
def dIx:D->D->Res D
 | .lst xs,.int i=>ofO (at_ xs i)
 | .tup xs,.int i=>ofO (at_ xs i)
 | _,_=>.bad
def cutAt(n d:Nat):Option Int->Nat
 | none=>d
 | some i=>if i<0 then (i+n).toNat else min i.toNat n
def cutL(xs:List D)(lo hi:Option Int):List D:=(xs.drop (cutAt xs.length 0 lo)).take (cutAt xs.length xs.length hi - cutAt xs.length 0 lo)
def dCut(x:D)(lo hi:Option Int):Res D:=match x with
 | .lst xs=>.ok (.lst (cutL xs lo hi))
 | .tup xs=>.ok (.tup (cutL xs lo hi))
 | _=>.bad
def pno:Ev->Res (Option Int):=λ_=>.ok none
def optI:D->Res (Option Int)
 | .int i=>.ok (some i)
 | _=>.bad
def pso(a:ME):Ev->Res (Option Int):=λρ=>(a ρ).bind optI
def cut(a:ME)(lo hi:Ev->Res (Option Int)):ME:=λρ=>(a ρ).bind λx=>(lo ρ).bind λl=>(hi ρ).bind λh=>dCut x l h
def bLen:List D->Res D
 | [.lst xs]=>.ok (.int xs.length)
 | [.tup xs]=>.ok (.int xs.length)
 | _=>.bad
def bAbs:List D->Res D
 | [.int i]=>.ok (.int (if i<0 then -i else i))
 | _=>.bad
def bMax:List D->Res D
 | [.int i,.int j]=>.ok (.int (if j>i then j else i))
 | _=>.bad
def bTup:List D->Res D
 | [.lst xs]=>.ok (.tup xs)
 | [.tup xs]=>.ok (.tup xs)
 | _=>.bad
def bLst:List D->Res D
 | [.lst xs]=>.ok (.lst xs)
 | [.tup xs]=>.ok (.lst xs)
 | _=>.bad
def Zlj:D->Option String
 | .non=>some "NoneType"
 | .bl _=>some "bool"
 | .int _=>some "int"
 | .str _=>some "str"
 | .tup _=>some "tuple"
 | .lst _=>some "list"
 | _=>none
def isTy(t n:String):Bool:=t==n||(t == "bool"&&n == "int")
def Zlr:List String:=["int","bool","str","tuple","list","dict"]
def bIsi:List D->Res D
 | [x,.ty n]=>if Zlr.contains n=true then (ofO (Zlj x)).bind λt=>.ok (.bl (isTy t n)) else .bad
 | _=>.bad
def bools:List D->Res (List Bool)
 | []=>.ok []
 | d::r=>match d with
  | .bl b=>(bools r).bind λa=>.ok (b::a)
  | _=>.bad
def bAll:List D->Res D
 | [d]=>match d with
  | .lst xs=>(bools xs).bind λa=>.ok (.bl (a.all id))
  | _=>.bad
 | _=>.bad
def Zen:List D->Res (List Int)
 | []=>.ok []
 | d::r=>match d with
  | .int n=>(Zen r).bind λa=>.ok (n::a)
  | _=>.bad
def maxI:List Int->Res D
 | []=>.bad
 | n::r=>.ok (.int (r.foldl max n))
def minI:List Int->Res D
 | []=>.bad
 | n::r=>.ok (.int (r.foldl min n))
def ZjN:List D->Res D
 | [d]=>match d with
  | .lst xs=>(Zen xs).bind maxI
  | _=>.bad
 | _=>.bad
def Zjy:List D->Res D
 | [d]=>match d with
  | .lst xs=>(Zen xs).bind minI
  | _=>.bad
 | _=>.bad
def oneX(tc:List (Str×Str×Bool))(tt:List (Str×String×Bool))(c:Str):D->Res Bool
 | .cls k=>ofO ((tc.find? λe=>e.1==c&&e.2.1==k).map (·.2.2))
 | .ty n=>ofO ((tt.find? λe=>e.1==c&&e.2.1==n).map (·.2.2))
 | _=>.bad
def anyX(tc:List (Str×Str×Bool))(tt:List (Str×String×Bool))(c:Str):List D->Res Bool
 | []=>.ok false
 | k::r=>(oneX tc tt c k).bind λb=>if b=true then .ok true else anyX tc tt c r
def askX(tc:List (Str×Str×Bool))(tt:List (Str×String×Bool))(c:Str):D->Res D
 | .tup []=>.bad
 | .tup (k::ks)=>(anyX tc tt c (k::ks)).bind λb=>.ok (.bl b)
 | k=>(oneX tc tt c k).bind λb=>.ok (.bl b)
def bIsX(tc:List (Str×Str×Bool))(tt:List (Str×String×Bool)):List D->Res D
 | [d,k]=>match d with
  | .exc c=>askX tc tt (clsOf c) k
  | _=>.bad
 | _=>.bad
abbrev MI:=Ev->Res (List D)
def items:D->Res (List D)
 | .lst xs=>.ok xs
 | .tup xs=>.ok xs
 | _=>.bad
def iv(a:ME):MI:=λρ=>(a ρ).bind items
def Za5(lo:Int)(n:Nat):List D:=(List.range n).map λ(k:Nat)=>D.int (lo+(k:Int))
def rng1:List D->Res (List D)
 | [.int j]=>if -1000000000<=j/\j<=1000000000 then .ok (Za5 0 j.toNat) else .bad
 | _=>.bad
def r1(a:MA):MI:=λρ=>(a ρ).bind rng1
def rng2:List D->Res (List D)
 | [.int i,.int j]=>if (-1000000000<=i/\i<=1000000000)/\(-1000000000<=j/\j<=1000000000) then .ok (Za5 i (j - i).toNat) else .bad
 | _=>.bad
def r2(a:MA):MI:=λρ=>(a ρ).bind rng2
abbrev MG:=D->Ev->Res Ev
abbrev MGs:=List D->Ev->Res Ev
def gN(i:Nat):MG:=λd ρ=>.ok (ρ.set i (.im d))
def gs0:MGs:=λa ρ=>match a with
 | []=>.ok ρ
 | _=>.bad
def gs1(g:MG)(r:MGs):MGs:=λa ρ=>match a with
 | d::a=>(g d ρ).bind λb=>r a b
 | []=>.bad
def gU(n:Nat)(g:MGs):MG:=λd ρ=>(items d).bind λa=>if a.length=n then g a ρ else .bad
def imOf:Option Cl->Cl
 | some (.im d)=>.im d
 | _=>.no
def ybu(ρ:Ev):List Nat->Ev
 | []=>[]
 | j::r=>imOf ρ[j]?::ybu ρ r
def noA:Nat->Ev->Ev
 | 0,e=>e
 | k+1,e=>.no::noA k e
def Zaz(g:MG)(t:MB)(e:ME)(ρ0:Ev):List D->Res (List D)
 | []=>.ok []
 | x::r=>(g x ρ0).bind λa=>(t a).bind λb=>if b=true then (e a).bind λy=>(Zaz g t e ρ0 r).bind λc=>.ok (y::c) else Zaz g t e ρ0 r
def yes:MB:=λ_=>.ok true
def noEx:Res α->Res α
 | .ex _=>.bad
 | r=>r
def comp(it:MI)(own:Nat)(cap:01)(g:MG)(t:MB)(e:ME):ME:=λρ=>(it ρ).bind λa=>
 if a.length<=LIM then (noEx (Zaz g t e (noA own (ybu ρ cap)) a)).bind λb=>.ok (.lst b) else .bad
inductive Fl where
 | nx (ρ:Ev) | rt (d:D) | bk (ρ:Ev) | ct (ρ:Ev)
abbrev MS:=Ev->Res Fl
def nop:MS:=λρ=>.ok (.nx ρ)
def goOn(b:MS):Fl->Res Fl
 | .nx ρ=>b ρ
 | f=>.ok f
def sq(a b:MS):MS:=λρ=>(a ρ).bind (goOn b)
def st(i:Nat)(e:ME):MS:=λρ=>(e ρ).bind λd=>.ok (.nx (ρ.set i (.im d)))
def lstO:D->Res (List D)
 | .lst xs=>.ok xs
 | _=>.bad
def stO(i:Nat)(e:ME):MS:=λρ=>(e ρ).bind λd=>(lstO d).bind λa=>.ok (.nx (ρ.set i (.ow a)))
def getO:Option Cl->Res (List D)
 | some (.ow xs)=>.ok xs
 | _=>.bad
def frz(i:Nat)(m:MS):MS:=λρ=>(getO ρ[i]?).bind λa=>m (ρ.set i (.im (.lst a)))
def app(i:Nat)(e:ME):MS:=λρ=>(getO ρ[i]?).bind λa=>(e ρ).bind λd=>if a.length<LIM then .ok (.nx (ρ.set i (.ow (a++[d])))) else .bad
def asg(g:MG)(e:ME):MS:=λρ=>(e ρ).bind λd=>(g d ρ).bind λa=>.ok (.nx a)
def par(i j:Nat)(a b:ME):MS:=λρ=>(a ρ).bind λx=>(b ρ).bind λy=>.ok (.nx ((ρ.set i (.im x)).set j (.im y)))
def drp(e:ME):MS:=λρ=>(e ρ).bind λ_=>.ok (.nx ρ)
def ret(e:ME):MS:=λρ=>(e ρ).bind λd=>.ok (.rt d)
def ifs(t:MB)(a b:MS):MS:=λρ=>(t ρ).bind λx=>if x=true then a ρ else b ρ
def rse(c:Str)(a:MA):MS:=λρ=>(a ρ).bind λ_=>.ex c
def endT(i:Nat):Res Fl->Res Fl
 | .ok (.nx ρ)=>.ok (.nx (ρ.set i .no))
 | .ok (.bk ρ)=>.ok (.bk (ρ.set i .no))
 | .ok (.ct ρ)=>.ok (.ct (ρ.set i .no))
 | .ok (.rt d)=>.ok (.rt d)
 | _=>.bad
def ZhH(hits:List Str)(i:Nat)(b:MS)(ρ:Ev):Res D->Res Fl
 | .ok _=>.ok (.nx ρ)
 | .ex c=>if hits.contains (clsOf c)=true then endT i (b (ρ.set i (.im (.exc c)))) else .bad
 | .bad=>.bad
def pkB(i:Nat)(m:MB):MB:=λρ=>(getO ρ[i]?).bind λa=>m (ρ.set i (.im (.lst a)))
def try_(f:List D->Res D)(a:MA)(hits:List Str)(i:Nat)(b:MS):MS:=λρ=>(noEx (a ρ)).bind λc=>ZhH hits i b ρ (f c)
def turn(k:MS):Fl->Res Fl
 | .nx ρ=>k ρ
 | .ct ρ=>k ρ
 | .bk ρ=>.ok (.nx ρ)
 | .rt d=>.ok (.rt d)
def ZbJ(g:MG)(b:MS):List D->MS
 | [],ρ=>.ok (.nx ρ)
 | x::r,ρ=>(g x ρ).bind λa=>(b a).bind (turn (ZbJ g b r))
def for_(it:MI)(g:MG)(b:MS):MS:=λρ=>(it ρ).bind λa=>ZbJ g b a ρ
def whGo(t:MB)(b:MS):Nat->MS
 | 0,_=>.bad
 | n+1,ρ=>(t ρ).bind λx=>if x=true then (b ρ).bind (turn (whGo t b n)) else .ok (.nx ρ)
def absC:Cl->Nat
 | .im (.int i)=>i.natAbs
 | _=>0
def fuel(ρ:Ev):Nat:=(ρ.map absC).sum+1
def whl(n:Ev->Nat)(t:MB)(b:MS):MS:=λρ=>whGo t b (n ρ) ρ
def evF:List D->Nat->Ev
 | [],k=>noA k []
 | d::r,k=>.im d::evF r (k - 1)
def ev0(n:Nat)(ds:List D):Ev:=evF ds n
def Zla:∀k e,noA k e=List.replicate k .no++e
 | 0,_=>rfl
 | k+1,e=>by rw [noA,Zla k e,List.replicate_succ,List.cons_append]
def ZiU(ρ):∀cap,ybu ρ cap=cap.map λj=>imOf ρ[j]?
 | []=>rfl
 | j::r=>by rw [ybu,ZiU ρ r,VaW]
def Zi2:∀ds n,ev0 n ds=ds.map .im++List.replicate (n - ds.length) .no
 | [],n=>by show noA n []=_;rw [Zla];simp
 | d::r,n=>by
  have ih:=Zi2 r (n - 1);show .im d::ev0 (n - 1) r=_;rw [ih,VaW,List.cons_append,VaU,Nat.sub_sub,Nat.add_comm 1]
def endOf:Fl->Res D
 | .rt d=>.ok d
 | .nx _=>.ok .non
 | _=>.bad
def fn(n:Nat)(b:MS)(ds:List D):Res D:=(b (ev0 n ds)).bind endOf
end Dl
variable{H' F0 H0 F':L2.Hp}{E:L2.XK}{ρ:Dl.Ev}{ds:List Dl.D}{me:Dl.ME}{d:Dl.D}
namespace L2.Ds
open Dl
def XcO(H:Hp)(a:Addr)(cls:Value)(d:Addr)(p:Option Addr):Prop:=match p with
 | none=>H a=some (exO a cls)
 | some n=>H a=some (exC a cls d)/\H d=some (.xd [("at",.int (((n)/2:Nat):Int))])
def XcO.same{d:Addr}(h:XcO H a cls d p)(e:∀b o,H b=some o->(∀xs,o≠.lst xs)->H' b=some o):XcO H' a cls d p:=by
 cases p with
 | none=>exact e _ _ h λ_ z=>by cases z
 | some n=>exact ⟨e _ _ h.1 003,e _ _ h.2 003⟩
def XcO.ext{d:Addr}(h:XcO H a cls d p):∃φ,H a=some (.ext φ)/\∀g,φ g->ExcAt a cls g:=by
 cases p with
 | none=>exact ⟨_,h,λ_ z=>z⟩
 | some n=>exact ⟨_,h.1,λ_ ⟨o,c,b,_⟩=>⟨o,c,b⟩⟩
mutual
inductive Rp(K:W.Frag)(mg:001)(H:Hp):V->D->Prop
 | non:Rp K mg H .non .non
 | bl (b:Bool):Rp K mg H (.bl b) (.bl b)
 | int (i:Int):Rp K mg H (.int i) (.int i)
 | str (x:Str):Rp K mg H (.str x) (.str x)
 | ty (n:String):Rp K mg H (.ty n) (.ty n)
 | cls {c:Str} {C:Addr} (h:mg c=some 05):Rp K mg H 05 (.cls c)
 | tup {a:Addr} {xs:List V} {ds:List D} (h:SqT K H a xs) (r:Rps K mg H xs ds):Rp K mg H (.ref a) (.tup ds)
 | lst {a:Addr} {xs:List V} {ds:List D} (h:SqL K H a xs) (r:Rps K mg H xs ds):Rp K mg H (.ref a) (.lst ds)
 | exc {c:Str} {C a d:Addr} (m:mg (clsOf c)=some 05) (h:XcO H a 05 d (pay c)):Rp K mg H (.ref a) (.exc c)
 | ins {c:Str} {C a dx:Addr} {fs:List (Str×V)} {xs:List V} {vs:List D} (m:mg c=some 05) (h:H a=some (.ins C dx fs)) (o:H dx=some (.own a)) (e:fs.map (·.2)=xs) (r:Rps K mg H xs vs):Rp K mg H (.ref a) (.ins c (fs.map (·.1)) vs)
inductive Rps(K:W.Frag)(mg:001)(H:Hp):List V->List D->Prop
 | nil:Rps K mg H [] []
 | cons {x:V} {xs:List V} {d:D} {ds:List D} (h:Rp K mg H x d) (r:Rps K mg H xs ds):Rps K mg H (x::xs) (d::ds)
end
section
def ZaK(e:Same H H')(h:SqT K H a xs):SqT K H' a xs:=by
 rcases h with (h | ⟨o,h⟩) | h
 ·exact .inl (.inl (e _ _ h))
 ·exact .inl (.inr ⟨o,e _ _ h⟩)
 ·exact .inr h
mutual
def Rp.same(e:Same H H'){x:V}{d:D}(h:Rp K mg H x d):Rp K mg H' x d:=by
 cases h with
 | non=>exact .non
 | bl b=>exact .bl b
 | int i=>exact .int i
 | str x=>exact .str x
 | ty n=>exact .ty n
 | cls h=>exact .cls h
 | tup h r=>exact .tup (ZaK e h) (Rps.same e r)
 | lst h r=>exact .lst (e.seq h) (Rps.same e r)
 | exc m h=>exact .exc m (h.same λb o z _=>e b o z)
 | ins m h o q r=>exact .ins m (e _ _ h) (e _ _ o) q (Rps.same e r)
def Rps.same(e:Same H H'){xs:List V}{ds:List D}(h:Rps K mg H xs ds):Rps K mg H' xs ds:=by
 cases h with
 | nil=>exact .nil
 | cons h r=>exact .cons (Rp.same e h) (Rps.same e r)
end
def Rps.length:∀{xs:List V} {ds:List D},Rps K mg H xs ds->xs.length=ds.length
 | _,_,.nil=>rfl
 | _,_,.cons _ r=>VaA (·+1) (Rps.length r)
def Rps.get:∀{xs:List V} {ds:List D} {i:Nat} {d:D},Rps K mg H xs ds->ds[i]?=some d->∃x,xs[i]?=some x/\Rp K mg H x d
 | _,_,_,_,.nil,e=>by simp at e
 | _,_,0,_,.cons h _,e=>by simp at e;subst e;exact ⟨_,rfl,h⟩
 | _,_,i+1,_,.cons _ r,e=>by
  obtain ⟨x,a,b⟩:=Rps.get r (by simpa using e);exact ⟨x,by simpa using a,b⟩
def Rps.app{es:List D}(q:Rps K mg H ys es):∀{xs:List V} {ds:List D},Rps K mg H xs ds->Rps K mg H (xs++ys) (ds++es)
 | _,_,.nil=>q
 | _,_,.cons h r=>.cons h (Rps.app q r)
def Rps.rev:∀{xs:List V} {ds:List D},Rps K mg H xs ds->Rps K mg H xs.reverse ds.reverse
 | _,_,.nil=>.nil
 | _,_,.cons h r=>by
  rw [List.reverse_cons,List.reverse_cons];exact Rps.app (.cons h .nil) (Rps.rev r)
def Rps.drop:∀{xs:List V} {ds:List D} (n:Nat),Rps K mg H xs ds->Rps K mg H (xs.drop n) (ds.drop n)
 | _,_,0,r=>r
 | _,_,_+1,.nil=>.nil
 | _,_,n+1,.cons _ r=>Rps.drop n r
def Rps.take:∀{xs:List V} {ds:List D} (n:Nat),Rps K mg H xs ds->Rps K mg H (xs.take n) (ds.take n)
 | _,_,0,_=>.nil
 | _,_,_+1,.nil=>.nil
 | _,_,n+1,.cons h r=>.cons h (Rps.take n r)
def Rps.one{xs:List V}{d:D}(h:Rps K mg H xs [d]):∃x,xs=[x]/\Rp K mg H x d:=by
 cases h with | cons h r=>cases r;exact ⟨_,rfl,h⟩
def Rps.two{xs:List V}{d e:D}(h:Rps K mg H xs [d,e]):∃x y,xs=[x,y]/\Rp K mg H x d/\Rp K mg H y e:=by
 cases h with | cons h r=>obtain ⟨_,rfl,g⟩:=Rps.one r;exact ⟨_,_,rfl,h,g⟩
end
structure Gr(F H F' H':Hp):Prop where
 f:Same F F'
 s:Same F' H'
 o:∀a o,F a=none->H a=some o->F' a=none/\H' a=some o
 z:∀a o u,F' a=some (.frz o u)->F a=some (.frz o u)
def Gr.refl{F:Hp}(s:Same F H):Gr F H F H:=⟨Same.refl _,s,λ_ _ a b=>⟨a,b⟩,λ_ _ _ h=>h⟩
def Gr.trans{F:Hp}(g:Gr F H F1 H1)(h:Gr F1 H1 F2 H2):Gr F H F2 H2:=⟨g.f.trans h.f,h.s,λa o b c=>let ⟨q1,q2⟩:=g.o a o b c;h.o a o q1 q2,λa o u e=>g.z a o u (h.z a o u e)⟩
def Zqi{F:Hp}(s:Same F H):Same (upd F p o) (upd H p o):=λb u e=>by
 by_cases hb:b=p
 ·subst hb;rw [Zah] at e ⊢;exact e
 ·rw [Zaf hb] at e ⊢;exact s b u e
def ZgC{F:Hp}(nz:∀o' u,o≠.frz o' u)(e:upd F p o a=some (.frz o' u)):F a=some (.frz o' u):=by
 by_cases ne:a=p
 ·subst ne;rw [Zah] at e;exact aB (Vac e) (nz o' u)
 ·rw [Zaf ne] at e;exact e
def Gr.new{F:Hp}(s:Same F H)(h:H p=none)(o)(nz:∀o' u,o≠.frz o' u:=by intro _ _ z;cases z):Gr F H (upd F p o) (upd H p o) :=
 ⟨ZaV (s.free h) o,Zqi s,λa u d c=>by
  have b:=Zai c h;rw [Zaf b,Zaf b];exact ⟨d,c⟩,λa o' u e=>by
  by_cases b:a=p
  ·subst b;rw [Zah] at e;exact aB (Vac e) (nz o' u)
  ·rw [Zaf b] at e;exact e⟩
def Zv0{F:Hp}{x d:Addr}(s:Same F H)(hx:H x=none)(hd:p.isSome=true->H d=none/\d≠x):∃F',Gr F H F' (trkX p x d cls H)/\XcO F' x cls d p:=by
 cases p with
 | none=>exact ⟨_,Gr.new s hx _,Zah⟩
 | some n=>
  obtain ⟨e,b⟩:=hd rfl;have a:=Gr.new s hx (exC x cls d);have c:=Gr.new a.s (by rw [Zaf b];exact e) (.xd [("at",.int (((n)/2:Nat):Int))]);exact ⟨_,a.trans c,by rw [Zaf (Ne.symm b)];exact Zah,Zah⟩
structure Rep(K:W.Frag)(mg:001)(F0 H0 F H:Hp)(σ:St)(ρ:Ev):Prop where
 g:Gr F0 H0 F H
 len:σ.length=ρ.length
 im:∀(i:Nat) (d:D),ρ[i]?=some (.im d)->∃x,σ[i]?=some (some x)/\Rp K mg F x d
 ow:∀(i:Nat) (ds:List D),ρ[i]?=some (.ow ds)->∃a xs,σ[i]?=some (some (.ref a))/\H0 a=none/\F a=none/\H a=some (.lst xs)/\Rps K mg F xs ds
 ne:∀(i j:Nat) (ds es:List D) (a:Addr),ρ[i]?=some (.ow ds)->ρ[j]?=some (.ow es)->σ[i]?=some (some (.ref a))->σ[j]?=some (some (.ref a))->i=j
section
variable {F:Hp}
def Rep.gr(r:Rep K mg F0 H0 F H σ ρ)(g:Gr F H F' H'):Rep K mg F0 H0 F' H' σ ρ:=by
 refine ⟨r.g.trans g,r.len,λi d e=>?_,λi m e=>?_,r.ne⟩
 ·obtain ⟨x,b,c⟩:=r.im i d e;exact ⟨x,b,c.same g.f⟩
 ·obtain ⟨a,p,b,c,h,k,n⟩:=r.ow i m e;obtain ⟨l,j⟩:=g.o a _ h k;exact ⟨a,p,b,c,l,j,n.same g.f⟩
def ZaM{l:List α}{x:α}(h:(l.set i x)[j]?=some y):(i=j/\y=x/\i<l.length)\/(i≠j/\l[j]?=some y):=by
 rw [List.getElem?_set] at h;by_cases e:i=j
 ·rw [iP e] at h;split at h
  ·exact .inl ⟨e,(Vac h).symm,by assumption⟩
  ·cases h
 ·rw [iN e] at h;exact .inr ⟨e,h⟩
def ZhE{l:List α}{x:α}(h:i<l.length):(l.set i x)[i]?=some x:=by
 rw [List.getElem?_set,iP rfl,iP h]
def Zbh{l:List α}{x:α}(h:i≠j):(l.set i x)[j]?=l[j]?:=by
 rw [List.getElem?_set,iN h]
def Rep.set{x:V}(r:Rep K mg F0 H0 F H σ ρ)(i:Nat)(h:Rp K mg F x d):Rep K mg F0 H0 F H (σ.set i (some x)) (ρ.set i (.im d)):=by
 refine ⟨r.g,by rw [VbI,VbI];exact r.len,λj e q=>?_,λj f q=>?_,λj k f o a c b m n=>?_⟩
 ·rcases ZaM q with ⟨rfl,z,l⟩ | ⟨hij,q⟩
  ·cases z;exact ⟨x,ZhE (by rw [r.len];exact l),h⟩
  ·rw [Zbh hij];exact r.im j e q
 ·rcases ZaM q with ⟨_,z,_⟩ | ⟨hij,q⟩
  ·cases z
  ·rw [Zbh hij];exact r.ow j f q
 ·rcases ZaM c with ⟨_,z,_⟩ | ⟨h1,c⟩
  ·cases z
  ·rcases ZaM b with ⟨_,z,_⟩ | ⟨h2,b⟩
   ·cases z
   ·rw [Zbh h1] at m;rw [Zbh h2] at n;exact r.ne j k f o a c b m n
def Rep.own(r:Rep K mg F0 H0 F H σ ρ)(i:Nat)(hn:H a=none)(h:Rps K mg F xs ds):Rep K mg F0 H0 F (upd H a (.lst xs)) (σ.set i (some (.ref a))) (ρ.set i (.ow ds)):=by
 have y:=r.g.s.free hn;have w:H0 a=none:=by
  cases q:H0 a with
  | none=>rfl
  | some o=>
   cases c:F0 a with
   | none=>rw [(r.g.o a o c q).2] at hn;cases hn
   | some u=>rw [r.g.f a u c] at y;cases y
 have x:∀{j:Nat} {d:List D} {b:Addr},ρ[j]?=some (.ow d)->σ[j]?=some (some (.ref b))->b≠a:=λ{j d b} n c=>by
  obtain ⟨M,G,m,_,_,A,_⟩:=r.ow j d n;rw [c] at m;cases m;exact Zai A hn
 refine ⟨⟨r.g.f,λb o e=>?_,λb o E B=>?_,r.g.z⟩,by rw [VbI,VbI];exact r.len,λj e q=>?_,λj d q=>?_,λj k d J b n c p t=>?_⟩
 ·rw [Zaf (Zai e y)];exact r.g.s b o e
 ·rw [Zaf (Zai B w)];exact r.g.o b o E B
 ·rcases ZaM q with ⟨_,z,_⟩ | ⟨hij,q⟩
  ·cases z
  ·rw [Zbh hij];exact r.im j e q
 ·rcases ZaM q with ⟨rfl,z,l⟩ | ⟨hij,q⟩
  ·cases z;exact ⟨a,xs,ZhE (by rw [r.len];exact l),w,y,Zah,h⟩
  ·rw [Zbh hij];obtain ⟨b,L,m,v,C,A,I⟩:=r.ow j d q;exact ⟨b,L,m,v,C,by rw [Zaf (Zai A hn)];exact A,I⟩
 ·rcases ZaM n with ⟨rfl,_,l1⟩ | ⟨m,n⟩
  ·rcases ZaM c with ⟨rfl,_,_⟩ | ⟨v,c⟩
   ·rfl
   ·rw [ZhE (by rw [r.len];exact l1)] at p;rw [Zbh v] at t;cases p;exact aB rfl (x c t)
  ·rcases ZaM c with ⟨rfl,_,l2⟩ | ⟨v,c⟩
   ·rw [ZhE (by rw [r.len];exact l2)] at t;rw [Zbh m] at p;cases t;exact aB rfl (x n p)
   ·rw [Zbh m] at p;rw [Zbh v] at t;exact r.ne j k d J b n c p t
def Rep.app{x:V}(r:Rep K mg F0 H0 F H σ ρ)(e:ρ[i]?=some (.ow ds))(e2:σ[i]?=some (some (.ref a)))(e3:H a=some (.lst xs))(e4:H0 a=none)(e5:F a=none)(hr:Rps K mg F xs ds)(h:Rp K mg F x d) :
  Rep K mg F0 H0 F (upd H a (.lst (xs++[x]))) σ (ρ.set i (.ow (ds++[d]))):=by
 refine ⟨⟨r.g.f,λb o q=>?_,λb o t m=>?_,r.g.z⟩,by rw [VbI];exact r.len,λj u q=>?_,λj n q=>?_,λj k n J b t m D I=>?_⟩
 ·rw [Zaf (Zai q e5)];exact r.g.s b o q
 ·rw [Zaf (Zai m e4)];exact r.g.o b o t m
 ·rcases ZaM q with ⟨_,z,_⟩ | ⟨_,q⟩
  ·cases z
  ·exact r.im j u q
 ·rcases ZaM q with ⟨rfl,z,l⟩ | ⟨hij,q⟩
  ·cases z;exact ⟨a,_,e2,e4,e5,Zah,Rps.app (.cons h .nil) hr⟩
  ·obtain ⟨b,G,w,C,y,A,B⟩:=r.ow j n q;have E:b≠a:=by
    rintro rfl;exact hij (r.ne i j ds n b e q e2 w)
   exact ⟨b,G,w,C,y,by rw [Zaf E];exact A,B⟩
 ·have p:∃c,ρ[j]?=some (.ow c):=by
   rcases ZaM t with ⟨rfl,_,_⟩ | ⟨_,q⟩
   ·exact ⟨_,e⟩
   ·exact ⟨_,q⟩
  have v:∃c,ρ[k]?=some (.ow c):=by
   rcases ZaM m with ⟨rfl,_,_⟩ | ⟨_,q⟩
   ·exact ⟨_,e⟩
   ·exact ⟨_,q⟩
  obtain ⟨_,p⟩:=p;obtain ⟨_,v⟩:=v;exact r.ne j k _ _ b p v D I
def Rep.frz{i:Nat}{ds:List D}(r:Rep K mg F0 H0 F H σ ρ)(e:ρ[i]?=some (.ow ds)):∃F',Same F F'/\Rep K mg F0 H0 F' H σ (ρ.set i (.im (.lst ds))):=by
 obtain ⟨a,t,p,B,C,I,w⟩:=r.ow i ds e;have h:Same F (upd F a (.lst t)):=ZaV C _;refine ⟨upd F a (.lst t),h,⟨r.g.f.trans h,λb o q=>?_,λb o d c=>?_,λb o u q=>r.g.z b o u (ZgC (λ_ _ z=>by cases z) q)⟩,by rw [VbI];exact r.len,λj u q=>?_,λj l q=>?_,λj k l E b d c G M=>?_⟩
 ·by_cases hb:b=a
  ·subst hb;rw [Zah] at q;cases q;exact I
  ·rw [Zaf hb] at q;exact r.g.s b o q
 ·rw [Zaf (Zai c B)];exact r.g.o b o d c
 ·rcases ZaM q with ⟨rfl,z,_⟩ | ⟨_,q⟩
  ·cases z;exact ⟨.ref a,p,.lst (SqL.of Zah) (w.same h)⟩
  ·obtain ⟨x,m,n⟩:=r.im j u q;exact ⟨x,m,n.same h⟩
 ·rcases ZaM q with ⟨_,z,_⟩ | ⟨hij,q⟩
  ·cases z
  ·obtain ⟨b,L,m,n,v,y,A⟩:=r.ow j l q;have J:b≠a:=by
    rintro rfl;exact hij (r.ne i j ds l b e q p m)
   exact ⟨b,L,m,n,by rw [Zaf J];exact v,y,A.same h⟩
 ·rcases ZaM d with ⟨_,z,_⟩ | ⟨_,d⟩
  ·cases z
  ·rcases ZaM c with ⟨_,z,_⟩ | ⟨_,c⟩
   ·cases z
   ·exact r.ne j k l E b d c G M
end
def Ans(mg:001)(E:XK)(R:Hp->β->α->Prop)(F H:Hp)(r:Res α)(w:(β->Hp->Prop)->Prop):Prop :=
 match r with
 | .ok a=>∀Q,(∀e d b,Gr F H e d->R e b a->Q b d)->w Q
 | .ex c=>∀Q,(∀e d C,Gr F H e d->mg (clsOf c)=some 05->E 05 (pay c) d)->w Q
 | .bad=>True
section
variable{α β γ δ:Type} {R:Hp->β->α->Prop} {R':Hp->δ->γ->Prop} {F:Hp}
def Ans.ret{w:(β->Hp->Prop)->Prop}(s:Same F H)(r:R F b a)(h:∀Q,Q b H->w Q):Ans mg E R F H (.ok a) w:=λQ q=>h Q (q F H b (.refl s) r)
def Ans.bindE{r:Res α}{w:(β->Hp->Prop)->Prop}{k:α->Res γ}{w':β->Hp->(δ->Hp->Prop)->Prop}(h1:Ans mg E R F H r w)(h2:∀a,r=.ok a->∀F1 H1 b,Gr F H F1 H1->R F1 b a->Ans mg E R' F1 H1 (k a) (w' b H1)) :
  Ans mg E R' F H (r.bind k) (λQ=>w λb H1=>w' b H1 Q):=by
 cases r with
 | ok a=>
  show Ans mg E R' F H (k a) _;have f:=h2 a rfl;generalize k a=r2 at f;cases r2 with
  | ok d=>exact λQ q=>h1 _ λF1 H1 b g l=>f F1 H1 b g l Q λi h e j m=>q i h e (g.trans j) m
  | ex c=>exact λQ q=>h1 _ λF1 H1 b g l=>f F1 H1 b g l Q λi h C j n=>q i h C (g.trans j) n
  | bad=>trivial
 | ex c=>exact λQ q=>h1 _ q
 | bad=>trivial
def Ans.bind{r:Res α}{w:(β->Hp->Prop)->Prop}{k:α->Res γ}{w':β->Hp->(δ->Hp->Prop)->Prop}(h1:Ans mg E R F H r w)(h2:∀F1 H1 b a,Gr F H F1 H1->R F1 b a->Ans mg E R' F1 H1 (k a) (w' b H1)) :
  Ans mg E R' F H (r.bind k) (λQ=>w λb H1=>w' b H1 Q):=h1.bindE λa _ F1 H1 b g q=>h2 F1 H1 b a g q
end
def AnsS(K:W.Frag)(mg:001)(E:XK)(F0 H0 F:Hp)(r:Res Fl)(w:Ends->Prop):Prop :=
 match r with
 | .ok (.nx ρ)=>∀D,(∀e b a,Same F e->Rep K mg F0 H0 e b a ρ->D.nx a b)->w D
 | .ok (.bk ρ)=>∀D,(∀e b a,Same F e->Rep K mg F0 H0 e b a ρ->D.bk a b)->w D
 | .ok (.ct ρ)=>∀D,(∀e b a,Same F e->Rep K mg F0 H0 e b a ρ->D.ct a b)->w D
 | .ok (.rt d)=>∀D,(∀e b x,Gr F0 H0 e b->Rp K mg e x d->D.rt x b)->w D
 | .ex c=>∀D,(∀e b C,Gr F0 H0 e b->mg (clsOf c)=some 05->E 05 (pay c) b)->w D
 | .bad=>True
abbrev RB:Hp->Bool->Bool->Prop:=λ_ b b'=>b=b'
abbrev RO:Hp->Option Int->Option Int->Prop:=λ_ b b'=>b=b'
def SE(K:W.Frag)(mg:001)(E:XK)(t:TE)(m:ME):Prop:=∀a b F H σ ρ,Rep K mg a b F H σ ρ->Ans mg E (Rp K mg) F H (m ρ) (t σ H)
def STt(K:W.Frag)(mg:001)(E:XK)(t:TT)(m:MB):Prop:=∀a b F H σ ρ,Rep K mg a b F H σ ρ->Ans mg E RB F H (m ρ) (t σ H)
def SA(K:W.Frag)(mg:001)(E:XK)(t:TA)(m:MA):Prop:=∀a b F H σ ρ,Rep K mg a b F H σ ρ->Ans mg E (Rps K mg) F H (m ρ) (t σ H)
def SO(K:W.Frag)(mg:001)(E:XK)(t:TO)(m:Ev->Res (Option Int)):Prop:=∀a b F H σ ρ,Rep K mg a b F H σ ρ->Ans mg E RO F H (m ρ) (t σ H)
def SS(K:W.Frag)(mg:001)(E:XK)(t:TS)(m:MS):Prop:=∀a b F H σ ρ,Rep K mg a b F H σ ρ->AnsS K mg E a b F (m ρ) (λD=>t D σ H)
def AnsG(K:W.Frag)(mg:001)(F0 H0 F:Hp)(n:Nat)(σ:St)(r:Res Ev)(w:(St->Hp->Prop)->Prop):Prop :=
 match r with
 | .ok ρ'=>∀Q,(∀c b a,Same F c->Rep K mg F0 H0 c b a ρ'->a.drop n=σ.drop n->Q a b)->w Q
 | _=>True
def SG(K:W.Frag)(mg:001)(n:Nat)(t:TG)(g:MG):Prop:=∀a b F H σ ρ x d,Rep K mg a b F H σ ρ->Rp K mg F x d->AnsG K mg a b F n σ (g d ρ) (t x σ H)
def SGs(K:W.Frag)(mg:001)(n:Nat)(t:TGs)(g:MGs):Prop:=∀c d F H σ ρ a b,Rep K mg c d F H σ ρ->Rps K mg F a b->AnsG K mg c d F n σ (g b ρ) (t a σ H)
def ItOk(K:W.Frag)(mg:001)(F:Hp)(J:It)(ds:List D):Prop:=∀e c,Same F e->Same e c->∀i,
 (∀d,ds[i]?=some d->J.go i c/\∀x b,J.yld i c x b->∃a,Gr e c a b/\Rp K mg a x d)/\(ds.length<=i->J.stop i c)
def SI(K:W.Frag)(mg:001)(E:XK)(t:TI)(m:MI):Prop:=∀a b F H σ ρ,Rep K mg a b F H σ ρ->Ans mg E (ItOk K mg) F H (m ρ) (t σ H)
def OpD(K:W.Frag)(mg:001)(r:R2)(f:D->D->Res D):Prop:=∀E F H x y a b,Same F H->Rp K mg F x a->Rp K mg F y b->Ans mg E (Rp K mg) F H (f a b) (r x y H)
def UnD(K:W.Frag)(mg:001)(r:V->Hp->VK->Prop)(f:D->Res D):Prop:=∀E F H x a,Same F H->Rp K mg F x a->Ans mg E (Rp K mg) F H (f a) (r x H)
def CallD(K:W.Frag)(mg:001)(r:List V->Hp->VK->Prop)(f:List D->Res D):Prop:=∀E F H b a,Same F H->Rps K mg F b a->Ans mg E (Rp K mg) F H (f a) (r b H)
section
variable {ta tb tc:TE} {ma mb mc:ME} {sa sb:TT} {na nb:MB}
def Rep.ss{F:Hp}(r:Rep K mg F0 H0 F H σ ρ):Same F H:=r.g.s
def se_v(i):SE K mg E (tVar i) (v i):=by
 intro c e F H σ ρ r;unfold v getC;split
 ·next d h=>
  obtain ⟨x,a,b⟩:=r.im i d h;exact .ret r.ss b λQ q=>⟨x,a,q⟩
 ·trivial
def se_c{x:V}(h:∀F,Rp K mg F x d):SE K mg E (tC x) (c d):=λ_ _ F _ _ _ r=>.ret r.ss (h F) λ_ q=>q
def Zno(hf:OpD K mg r f)(ha:SE K mg E ta ma)(hb:SE K mg E tb mb):SE K mg E (tOp r ta tb) (o2 f ma mb):=by
 intro c d F H σ ρ a;refine (ha c d F H σ ρ a).bind λm j x h l i=>?_;refine (hb c d m j σ ρ (a.gr l)).bind λg e y n b k=>?_;exact hf E g e x y h n b.s (i.same b.f) k
def Zwy(hf:UnD K mg r f)(ha:SE K mg E ta ma):SE K mg E (tUn r ta) (o1 f ma):=by
 intro h i F H σ ρ a;exact (ha h i F H σ ρ a).bind λe c x g d b=>hf E e c x g d.s b
def Zrp:SA K mg E tNil yaa:=λ_ _ _ _ _ _ r=>.ret r.ss .nil λ_ q=>q
def ZsX(ha:SE K mg E ta ma)(hr:SA K mg E t m):SA K mg E (ZdX ta t) (Zaa ma m):=by
 intro c d F H σ ρ a;refine (ha c d F H σ ρ a).bind λj h x o i g=>?_;refine (hr c d j h σ ρ (a.gr i)).bind λl k p n b e=>?_;exact .ret b.s (.cons (g.same b.f) e) λ_ q=>q
def Zt9(hf:CallD K mg r f)(ha:SA K mg E t m):SE K mg E (tCB r t) (on f m):=by
 intro h i F H σ ρ a;exact (ha h i F H σ ρ a).bind λe c x g d b=>hf E e c x g d.s b
def Zee{F:Hp}{w:VK->Prop}(s:Same F H)(hr:∀p,H p=none->R (upd F p o) (.ref p) a)(h:∀Q,(∀p,H p=none->Q (.ref p) (upd H p o))->w Q)(nz:∀o' u,o≠.frz o' u:=by intro _ _ z;cases z):Ans mg E R F H (.ok a) w :=
 λQ q=>h Q λp b=>q (upd F p o) (upd H p o) (.ref p) (.new s b o nz) (hr p b)
def SAn(n:Nat)(m:MA):Prop:=∀ρ a,m ρ=.ok a->a.length=n
def ZoB:SAn 0 yaa:=λρ a h=>by cases h;rfl
def Zpc(h:SAn n m):SAn (n+1) (Zaa ma m):=λρ d e=>by
 unfold Zaa at e;cases ea:ma ρ with
 | ok x=>
  rw [ea] at e;cases em:m ρ with
  | ok xs=>
   have a:=e;rw [em] at a;have b:=a;cases b;exact VaA (·+1) (h ρ xs em)
  | ex c=>
   have a:=e;rw [em] at a;cases a
  | bad=>
   have a:=e;rw [em] at a;cases a
 | ex c=>rw [ea] at e;cases e
 | bad=>rw [ea] at e;cases e
def Zv1(ha:SA K mg E t m)(hl:SAn n m)(hn:n<=sizeLine):SE K mg E (tTup t) (mtp m):=by
 intro f i F H σ ρ d;have h:=ha f i F H σ ρ d;unfold mtp;cases e:m ρ with
 | ok ds=>
  rw [e] at h;exact λQ q=>h _ λj k l g b=>⟨by rw [b.length,hl ρ ds e];exact hn,λp a=>q _ _ _ (g.trans (.new g.s a _)) (.tup (SqT.of Zah) (b.same (ZaV (g.s.free a) _)))⟩
 | ex c=>
  rw [e] at h;exact λQ q=>h _ q
 | bad=>trivial
def Zws(ha:SA K mg E t m)(hl:SAn n m)(hn:n<=sizeLine):SE K mg E (tLst t) (mls m):=by
 intro f i F H σ ρ d;have h:=ha f i F H σ ρ d;unfold mls;cases e:m ρ with
 | ok ds=>
  rw [e] at h;exact λQ q=>h _ λj k l g b=>⟨by rw [b.length,hl ρ ds e];exact hn,λp a=>q _ _ _ (g.trans (.new g.s a _)) (.lst (SqL.of Zah) (b.same (ZaV (g.s.free a) _)))⟩
 | ex c=>
  rw [e] at h;exact λQ q=>h _ q
 | bad=>trivial
def st_b(ha:SE K mg E ta ma):STt K mg E (L2.tB ta) (trb ma):=by
 intro f g F H σ ρ a;refine (ha f g F H σ ρ a).bind λi h x e d c=>?_;cases e with
 | bl b=>cases c;exact .ret d.s rfl λQ q=>⟨b,rfl,q⟩
 | _=>trivial
def Ziw(ha:SE K mg E ta ma):STt K mg E (Zek ta) (trb ma):=st_b ha
def ZwN(ha:STt K mg E sa na)(hb:STt K mg E sb nb):STt K mg E (tAnd sa sb) (bAnd na nb):=by
 intro c d F H σ ρ a;refine (ha c d F H σ ρ a).bind λg f x h b e=>?_;cases (e);cases x with
 | true=>
  have z:=hb c d g f σ ρ (a.gr b);simp only [Vbi];exact z
 | false=>
  exact Ans.ret b.s rfl λQ q=>q
def ZxM(ha:STt K mg E sa na)(hb:STt K mg E sb nb):STt K mg E (tOr sa sb) (bOr na nb):=by
 intro c d F H σ ρ a;refine (ha c d F H σ ρ a).bind λg f x h b e=>?_;cases (e);cases x with
 | true=>
  exact Ans.ret b.s rfl λQ q=>q
 | false=>
  have z:=hb c d g f σ ρ (a.gr b);simp only [VbF,Vbh];exact z
def ZvQ(ha:STt K mg E sa na):STt K mg E (tNot sa) (bNot na):=by
 intro d e F H σ ρ a;refine (ha d e F H σ ρ a).bind λg f x h c b=>?_;cases (b);exact Ans.ret c.s rfl λQ q=>q
def Zvc(ha:SE K mg E ta ma)(hb:SE K mg E tb mb):SE K mg E (ZtQ ta tb) (eAnd ma mb):=by
 intro e f F H σ ρ b;have z:=(st_b ha e f F H σ ρ b).bind (k:=λx=>if x=true then mb ρ else .ok (D.bl false)) (w':=λc a Q=>if c=true then tb σ a Q else Q (V.bl false) a) λh a x i d g=>by
  cases (g);cases x with
  | true=>
   have z:=hb e f h a σ ρ (b.gr d);simp only [Vbi];exact z
  | false=>
   exact Ans.ret d.s (.bl false) λQ q=>q
 exact z
def Zuj(ha:SE K mg E ta ma):SE K mg E (ZrQ ta) (eNot ma):=by
 intro d e F H σ ρ a;exact (st_b ha d e F H σ ρ a).bind λg f x h c b=>by
  cases (b);exact Ans.ret c.s (.bl _) λQ q=>q
def Zt7(hc:STt K mg E sa na)(ha:SE K mg E ta ma)(hb:SE K mg E tb mb):SE K mg E (tIf sa ta tb) (ife na ma mb):=by
 intro b c F H σ ρ a;refine (hc b c F H σ ρ a).bind λf d x h e g=>?_;cases (g);cases x with
 | true=>
  have z:=ha b c f d σ ρ (a.gr e);simp only [Vbi];exact z
 | false=>
  have z:=hb b c f d σ ρ (a.gr e);simp only [VbF,Vbh];exact z
def ZlO(hf:OpD K mg r f)(hg:OpD K mg r' g)(ha:SE K mg E ta ma)(hb:SE K mg E tb mb)(hc:SE K mg E tc mc):SE K mg E (ZjT r r' ta tb tc) (chain f g ma mb mc):=by
 intro i k F H σ ρ e;refine (ha i k F H σ ρ e).bind λJ I x D p G=>?_;refine (hb i k J I σ ρ (e.gr p)).bind λA t y a h o=>?_;refine (hf E A t x y D a h.s (G.same h.f) o).bind λl n z v j N=>?_;cases v with
 | bl b=>
  cases N;show Ans mg E (Rp K mg) l n (if b=true then (mc ρ).bind λu=>g a u else .ok (.bl false)) _
  cases b with
  | true=>
   have w:=(hc i k l n σ ρ ((e.gr p).gr (h.trans j))).bind λC M u L m B=>hg E C M y u a L m.s (o.same (j.f.trans m.f)) B;generalize ((mc ρ).bind λu=>g a u)=res at w;cases res with
   | ok d=>exact λQ q=>⟨true,rfl,by simp only [Vbi];exact w Q q⟩
   | ex c=>exact λQ q=>⟨true,rfl,by simp only [Vbi];exact w Q q⟩
   | bad=>trivial
  | false=>
   exact .ret j.s (.bl false) λQ q=>⟨false,rfl,by simp only [VbF,Vbh];exact q⟩
 | _=>trivial
end
section
def Zrw(h:∀E F H a b,Same F H->Ans mg E (Rp K mg) F H (f a b) (r (.int a) (.int b) H)):OpD K mg r (ii f):=by
 intro E F H x y e g s c d;unfold ii;split
 ·cases c;cases d;exact h E F H _ _ s
 ·trivial
def Zl2(h:∀a b,(∃d,f a b=.ok d/\C a b/\∀F,Rp K mg F (g a b) d)\/f a b=.bad):OpD K mg (rI C g) (ii f):=by
 refine Zrw λE F H a b s=>?_;rcases h a b with ⟨d,e,hc,hr⟩ | e
 ·rw [e];exact .ret s (hr F) λQ q=>⟨a,b,rfl,rfl,hc,q⟩
 ·rw [e];trivial
def ZjG(h:∀a b,(∃d,f a b=.ok d/\∀F,Rp K mg F (g a b) d)\/f a b=.bad):OpD K mg (rI0 g) (ii f):=by
 refine Zrw λE F H a b s=>?_;rcases h a b with ⟨d,e,hr⟩ | e
 ·rw [e];exact .ret s (hr F) λQ q=>⟨a,b,rfl,rfl,q⟩
 ·rw [e];trivial
def ZrU:OpD K mg (rI0 λi j=>.int (i - j)) dSub:=ZjG λ_ _=>.inl ⟨_,rfl,λ_=>.int _⟩
def Zuy:OpD K mg (rI0 λi j=>.bl (decide (i<j))) dLt:=ZjG λ_ _=>.inl ⟨_,rfl,λ_=>.bl _⟩
def ZcT:OpD K mg (rI0 λi j=>.bl (decide (i<=j))) dLe:=ZjG λ_ _=>.inl ⟨_,rfl,λ_=>.bl _⟩
def ZrD:OpD K mg (rI0 λi j=>.bl (decide (j<i))) dGt:=ZjG λ_ _=>.inl ⟨_,rfl,λ_=>.bl _⟩
def Zq7:OpD K mg (rI0 λi j=>.bl (decide (j<=i))) dGe:=ZjG λ_ _=>.inl ⟨_,rfl,λ_=>.bl _⟩
def Zt0:OpD K mg (rI (λ_ j=>j≠0) λi j=>.int (i.fmod j)) yb5:=Zl2 λa b=>by
 unfold iMod;by_cases h1:0<b
 ·rw [iP h1];exact .inl ⟨_,rfl,by omega,λ_=>by rw [Int.fmod_eq_emod_of_nonneg a 000];exact .int _⟩
 ·rw [iN h1];by_cases h2:b=0
  ·rw [iP h2];exact .inr rfl
  ·rw [iN h2];exact .inl ⟨_,rfl,h2,λ_=>.int _⟩
def ZsW:OpD K mg (rI ZrH λi j=>.int (i.fdiv j)) ydi:=Zl2 λa b=>by
 unfold iDiv;by_cases h0:b.natAbs.log2<9000
 ·rw [iP h0];by_cases h1:0<b
  ·rw [iP h1];exact .inl ⟨_,rfl,⟨by omega,h0⟩,λ_=>by rw [Int.fdiv_eq_ediv_of_nonneg a 000];exact .int _⟩
  ·rw [iN h1];by_cases h2:b=0
   ·rw [iP h2];exact .inr rfl
   ·rw [iN h2];exact .inl ⟨_,rfl,⟨h2,h0⟩,λ_=>.int _⟩
 ·rw [iN h0];exact .inr rfl
def ZtR:OpD K mg (rI CPow λi j=>.int (i^j.toNat)) dPow:=Zl2 λa b=>by
 unfold iPow;by_cases h:0<=b/\b<=1000000/\a.natAbs<2^64
 ·rw [iP h];exact .inl ⟨_,rfl,h,λ_=>.int _⟩
 ·rw [iN h];exact .inr rfl
def ZtB:OpD K mg (rI CPow λi j=>.int (i*2^j.toNat)) dShl:=Zl2 λa b=>by
 unfold iShl;by_cases h:0<=b/\b<=1000000/\a.natAbs<2^64
 ·rw [iP h];exact .inl ⟨_,rfl,h,λ_=>.int _⟩
 ·rw [iN h];exact .inr rfl
def Zta:OpD K mg (rI (λ_ j=>0<=j) λi j=>.int (i/2^j.toNat)) dShr:=Zl2 λa b=>by
 unfold iShr;by_cases h:0<=b
 ·rw [iP h];exact .inl ⟨_,rfl,h,λ_=>.int _⟩
 ·rw [iN h];exact .inr rfl
def Ztm(h:∀i H Q,Q (.int (-i)) H->r (.int i) H Q):UnD K mg r dNeg:=by
 intro E F H x b s a;unfold dNeg;split
 ·cases a;exact .ret s (.int _) λQ q=>h _ _ _ q
 ·trivial
def Zwh(K:W.Frag):R2:=λx y H Q=>∃l b c a,x=.ref l/\y=.ref b/\SqL K H l c/\SqL K H b a/\c.length+a.length<=sizeLine/\∀p,H p=none->Q (.ref p) (upd H p (.lst (c++a)))
def Zu6(K:W.Frag):R2:=λx y H Q=>∃a b c d,x=.ref a/\y=.ref b/\SqT K H a c/\SqT K H b d/\c.length+d.length<=sizeLine /\
 (c=[]->Q (.ref b) H)/\(c≠[]->d=[]->Q (.ref a) H)/\(c≠[]->d≠[]->∀p,H p=none->Q (.ref p) (upd H p (.tup (c++d))))
def ZxJ:R2:=λx y H Q=>∃i j,x=.str i/\y=.str j/\i.length+j.length<=sizeLine/\Q (.str (i++j)) H
def ZsH(K:W.Frag):R2:=λx y H Q=>rI0 (λi j=>.int (i+j)) x y H Q\/Zwh K x y H Q\/Zu6 K x y H Q\/ZxJ x y H Q
def ZhW(h:n<=LIM):n<=sizeLine:=Vao h 00
def Zr9:OpD K mg (ZsH K) yaT:=by
 intro E F H x y k l s d f;unfold yaT;split
 ·cases d;cases f;exact .ret s (.int _) λQ q=>.inl ⟨_,_,rfl,rfl,q⟩
 ·next g i=>
  by_cases h:g.length+i.length<=LIM
  ·rw [iP h];cases d with
   | lst ha ra=>
    cases f with
    | lst hb rb=>
     refine Zee s (λp c=>.lst (SqL.of Zah) ((Rps.app rb ra).same (ZaV (s.free c) _))) λQ q=>.inr (.inl ⟨_,_,_,_,rfl,rfl,s.seq ha,s.seq hb,?_,q⟩);rw [ra.length,rb.length];exact ZhW h
  ·rw [iN h];trivial
 ·next g i=>
  by_cases h:g.length+i.length<=LIM
  ·rw [iP h];cases d with
   | tup ha ra=>
    cases f with
    | tup hb rb=>
     rename_i a xs b ys;have j:xs.length+ys.length<=sizeLine:=by rw [ra.length,rb.length];exact ZhW h
     intro Q q;refine .inr (.inr (.inl ⟨a,b,xs,ys,rfl,rfl,ZaK s ha,ZaK s hb,j,λe=>?_,λ_ e=>?_,λ_ _ p c=>?_⟩))
     ·subst e;cases ra;exact q F H _ (.refl s) (.tup hb rb)
     ·subst e;cases rb;rw [Va2] at q;exact q F H _ (.refl s) (.tup ha ra)
     ·exact q _ _ _ (.new s c _) (.tup (SqT.of Zah) ((Rps.app rb ra).same (ZaV (s.free c) _)))
  ·rw [iN h];trivial
 ·next a b=>
  by_cases h:a.length+b.length<=LIM
  ·rw [iP h];cases d;cases f;exact .ret s (.str _) λQ q=>.inr (.inr (.inr ⟨_,_,rfl,rfl,ZhW h,q⟩))
  ·rw [iN h];trivial
 ·trivial
def Zrl(ha:SE K mg E ta ma):SE K mg E (tOp (λx y H Q=>y=.non/\Q (.bl (decide (x=.non))) H) ta (tC .non)) (o1 dIsN ma):=by
 intro f g F H σ ρ a;refine (ha f g F H σ ρ a).bind λi h x d c b=>?_;have e:decide (x=V.non)=ZkF d:=by cases b<;>rfl
 exact .ret c.s (.bl _) λQ q=>⟨rfl,by rw [e];exact q⟩
def ZrK(ha:SE K mg E ta ma):SE K mg E (tOp (λx y H Q=>y=.non/\Q (.bl (!decide (x=.non))) H) ta (tC .non)) (o1 Zmu ma):=by
 intro f g F H σ ρ a;refine (ha f g F H σ ρ a).bind λi h x d c b=>?_;have e:decide (x=V.non)=ZkF d:=by cases b<;>rfl
 exact .ret c.s (.bl _) λQ q=>⟨rfl,by rw [e];exact q⟩
def Zq1{F:Hp}{i:Int}(r:Rps K mg F xs ds)(h:at_ ds i=some d):∃x,atI xs i=some x/\Rp K mg F x d:=by
 have b:=r.length;unfold at_ at h;unfold atI ixN;by_cases h0:0<=i
 ·rw [iP h0] at h;obtain ⟨x,e,a⟩:=r.get h;have c:=(Vaw.mp e).1;exact ⟨x,by rw [iP h0,iP 000];exact e,a⟩
 ·rw [iN h0] at h;by_cases h1:-(ds.length:Int)<=i
  ·rw [iP h1] at h;obtain ⟨x,e,a⟩:=r.get h;exact ⟨x,by rw [iN h0,iP 000,b];exact e,a⟩
  ·rw [iN h1] at h;cases h
def rIxD(K:W.Frag):R2:=λx y H Q=>rIxL K x y H Q\/rIxT K x y H Q
def Zus:OpD K mg (rIxD K) dIx:=by
 intro E F H x y h j s f g;unfold dIx;split
 ·next a i=>
  cases e:at_ a i with
  | none=>trivial
  | some d=>
   cases f with
   | lst ha ra=>
    cases g;obtain ⟨z,b,c⟩:=Zq1 ra e;exact Ans.ret s c λQ q=>.inl ⟨_,_,_,_,rfl,rfl,s.seq ha,b,q⟩
 ·next a i=>
  cases e:at_ a i with
  | none=>trivial
  | some d=>
   cases f with
   | tup ha ra=>
    cases g;obtain ⟨z,b,c⟩:=Zq1 ra e;exact Ans.ret s c λQ q=>.inr ⟨_,_,_,_,rfl,rfl,ZaK s ha,b,q⟩
 ·trivial
def ZlB(n d)(o):cutAt n d o=HT.sIx n d o:=by cases o<;>rfl
def Zov{F:Hp}(r:Rps K mg F xs ds)(lo hi):Rps K mg F (cutV xs lo hi) (cutL ds lo hi):=by
 unfold cutV cutL;simp only [ZlB,r.length];exact (r.drop _).take _
def rSlU(K:W.Frag):V->Option Int->Option Int->Hp->VK->Prop:=λx c d H Q=>∃a b,x=.ref a/\SqT K H a b /\
 ((HT.sIx b.length 0 c=0/\HT.sIx b.length b.length d=b.length)->Q (.ref a) H)/\(¬(HT.sIx b.length 0 c=0/\HT.sIx b.length b.length d=b.length)->∀p,H p=none->Q (.ref p) (upd H p (.tup (cutV b c d))))
def rSlD(K:W.Frag):V->Option Int->Option Int->Hp->VK->Prop:=λx a b H Q=>rSlL K x a b H Q\/rSlU K x a b H Q
def ZwA(ha:SE K mg E ta ma)(hl:SO K mg E tl ml)(hh:SO K mg E th mh):SE K mg E (tSl (rSlD K) ta tl th) (cut ma ml mh):=by
 intro i j F H σ ρ g;refine (ha i j F H σ ρ g).bind λA z x D m y=>?_;refine (hl i j A z σ ρ (g.gr m)).bind λo n l C k t=>?_;cases (t);refine (hh i j o n σ ρ ((g.gr m).gr k)).bind λu w h G b B=>?_;cases (B);have c:=y.same (k.f.trans b.f);unfold dCut;split
 ·cases c with
  | lst hx r=>
   refine Zee b.s (λp d=>.lst (SqL.of Zah) ((Zov r l h).same (ZaV (b.s.free d) _))) λQ q=>.inl ⟨_,_,rfl,b.s.seq hx,q⟩
 ·cases c with
  | tup hx r=>
   rename_i ds a xs;intro Q q;refine .inr ⟨a,xs,rfl,ZaK b.s hx,λe=>?_,λ_ p d=>q _ _ _ (.new b.s d _) (.tup (SqT.of Zah) ((Zov r l h).same (ZaV (b.s.free d) _)))⟩;have v:cutL ds l h=ds:=by
    unfold cutL;simp only [ZlB,<-r.length,e.1,e.2];rw [VbG,Nat.sub_zero,r.length,List.take_length]
   rw [v] at q;exact q u w _ (.refl b.s) (.tup hx r)
 ·trivial
def Zsu:SO K mg E ZkC pno:=λ_ _ _ _ _ _ r=>Ans.ret (R:=RO) r.ss rfl λ_ q=>q
def ZtU(ha:SE K mg E ta ma):SO K mg E (Zsw ta) (pso ma):=by
 intro e f F H σ ρ a;refine (ha e f F H σ ρ a).bind λh g x d c b=>?_;cases d with
 | int i=>cases b;exact Ans.ret c.s rfl λQ q=>⟨i,rfl,q⟩
 | _=>trivial
def ZjQ:CallD K mg (λxs H Q=>∃p ys,xs=[.ref p]/\(SqL K H p ys\/SqT K H p ys)/\Q (.int ys.length) H) bLen:=by
 intro E F H xs b s r;unfold bLen;split
 ·obtain ⟨x,rfl,a⟩:=r.one;cases a with
  | lst h q=>rw [<-q.length];exact .ret s (.int _) λQ q=>⟨_,_,rfl,.inl (s.seq h),q⟩
 ·obtain ⟨x,rfl,a⟩:=r.one;cases a with
  | tup h q=>rw [<-q.length];exact .ret s (.int _) λQ q=>⟨_,_,rfl,.inr (ZaK s h),q⟩
 ·trivial
def Zn0:CallD K mg (λxs H Q=>∃i,xs=[.int i]/\Q (.int (if i<0 then -i else i)) H) bAbs:=by
 intro E F H xs b s r;unfold bAbs;split
 ·obtain ⟨x,rfl,a⟩:=r.one;cases a;exact .ret s (.int _) λQ q=>⟨_,rfl,q⟩
 ·trivial
def Zng:CallD K mg (λxs H Q=>∃i j,xs=[.int i,.int j]/\Q (.int (if j>i then j else i)) H) bMax:=by
 intro E F H xs c s r;unfold bMax;split
 ·obtain ⟨x,y,rfl,a,b⟩:=r.two;cases a;cases b;exact .ret s (.int _) λQ q=>⟨_,_,rfl,q⟩
 ·trivial
def Ze7:CallD K mg (λxs H Q=>∃p ys,xs=[.ref p]/\((SqL K H p ys/\∀l,H l=none->Q (.ref l) (upd H l (.tup ys)))\/(SqT K H p ys/\Q (.ref p) H))) bTup:=by
 intro E F H xs c s r;unfold bTup;split
 ·obtain ⟨x,rfl,a⟩:=r.one;cases a with
  | lst h q=>exact Zee s (λp b=>.tup (SqT.of Zah) (q.same (ZaV (s.free b) _))) λQ z=>⟨_,_,rfl,.inl ⟨s.seq h,z⟩⟩
 ·obtain ⟨x,rfl,a⟩:=r.one;cases a with
  | tup h q=>exact .ret s (.tup h q) λQ z=>⟨_,_,rfl,.inr ⟨ZaK s h,z⟩⟩
 ·trivial
def Zmf:CallD K mg (λxs H Q=>∃p ys,xs=[.ref p]/\(SqL K H p ys\/SqT K H p ys)/\∀l,H l=none->Q (.ref l) (upd H l (.lst ys))) bLst:=by
 intro E F H xs c s r;unfold bLst;split
 ·obtain ⟨x,rfl,b⟩:=r.one;cases b with
  | lst h q=>exact Zee s (λp a=>.lst (SqL.of Zah) (q.same (ZaV (s.free a) _))) λQ z=>⟨_,_,rfl,.inl (s.seq h),z⟩
 ·obtain ⟨x,rfl,b⟩:=r.one;cases b with
  | tup h q=>exact Zee s (λp a=>.lst (SqL.of Zah) (q.same (ZaV (s.free a) _))) λQ z=>⟨_,_,rfl,.inr (ZaK s h),z⟩
 ·trivial
def spD(K:W.Frag)(mg:001)(n:Nat)(m:List D->Res D):Sp:=λf H Q E=>f.length=n/\∃F e,Same F H/\Rps K mg F f e/\m e≠.bad /\
 (∀d,m e=.ok d->∀b a x,Gr F H b a->Rp K mg b x d->Q x a)/\(∀c,m e=.ex c->∀b a C,Gr F H b a->mg (clsOf c)=some 05->E 05 (pay c) a)
def Zlz{F:Hp}(s:Same F H)(r:Rps K mg F vs ds)(hl:ds.length=n):Ans mg E (Rp K mg) F H (m ds) (λQ=>spD K mg n m vs H Q E):=by
 have b:=r.length.trans hl;cases e:m ds with
 | ok d=>
  intro Q q;refine ⟨b,F,ds,s,r,λz=>?_,λf a=>?_,λc a=>?_⟩
  ·rw [e] at z;cases z
  ·rw [e] at a;cases a;exact q
  ·rw [e] at a;cases a
 | ex c=>
  intro Q q;refine ⟨b,F,ds,s,r,λz=>?_,λf a=>?_,λc a=>?_⟩
  ·rw [e] at z;cases z
  ·rw [e] at a;cases a
  ·rw [e] at a;cases a;exact q
 | bad=>trivial
def ZsS(ha:SA K mg E t ma)(hl:SAn n ma):SE K mg E (Zkw (spD K mg n m) [] E t) (on m ma):=by
 intro d g F H σ ρ a;refine (ha d g F H σ ρ a).bindE λc e j i h b f=>?_;have z:=Zlz (E:=E) (m:=m) b.s f (hl ρ c e);simp only [Va2];exact z
end
section
variable {ta:TE} {ma:ME} {F:Hp}
def AnsS.mono{w:Ends->Prop}(s:Same F F1)(h:AnsS K mg E F0 H0 F1 r w):AnsS K mg E F0 H0 F r w:=by
 cases r with
 | ok f=>
  cases f with
  | nx ρ=>exact λD q=>h D λe g a b i=>q e g a (s.trans b) i
  | bk ρ=>exact λD q=>h D λe g a b i=>q e g a (s.trans b) i
  | ct ρ=>exact λD q=>h D λe g a b i=>q e g a (s.trans b) i
  | rt d=>exact h
 | ex c=>exact h
 | bad=>trivial
def Ans.stm{α β:Type}{R:Hp->β->α->Prop}{r:Res α}{w:(β->Hp->Prop)->Prop}{k:α->Res Fl}{w':β->Hp->Ends->Prop}(h1:Ans mg E R F H r w)(g0:Gr F0 H0 F H)(h2:∀a,r=.ok a->∀F1 H1 b,Gr F H F1 H1->R F1 b a->AnsS K mg E F0 H0 F1 (k a) (w' b H1)) :
  AnsS K mg E F0 H0 F (r.bind k) (λD=>w λb H1=>w' b H1 D):=by
 cases r with
 | ok a=>
  show AnsS K mg E F0 H0 F (k a) _;have e:=λF1 H1 b (g:Gr F H F1 H1) q=>(h2 a rfl F1 H1 b g q).mono g.f;generalize k a=r2 at e;cases r2 with
  | ok f=>
   cases f with
   | nx ρ=>exact λD q=>h1 _ λF1 H1 b g h=>e F1 H1 b g h D q
   | bk ρ=>exact λD q=>h1 _ λF1 H1 b g h=>e F1 H1 b g h D q
   | ct ρ=>exact λD q=>h1 _ λF1 H1 b g h=>e F1 H1 b g h D q
   | rt d=>exact λD q=>h1 _ λF1 H1 b g h=>e F1 H1 b g h D q
  | ex c=>exact λD q=>h1 _ λF1 H1 b g h=>e F1 H1 b g h D q
  | bad=>trivial
 | ex c=>exact λD q=>h1 _ λF1 H1 C g i=>q F1 H1 C (g0.trans g) i
 | bad=>trivial
def ZvA:SS K mg E Zo3 nop:=λ_ _ _ _ _ _ r D q=>q _ _ _ (Same.refl _) r
def ZuR{n:MS}(h1:SS K mg E t m)(h2:SS K mg E u n):SS K mg E (tSeq t u) (sq m n):=by
 intro k l F H σ ρ o;have h:=h1 k l F H σ ρ o;unfold sq;cases e:m ρ with
 | ok f=>
  rw [e] at h;cases f with
  | nx ρ'=>
   show AnsS K mg E k l F (n ρ') _;have b:=λg j a (s:Same F g) i=>(h2 k l g j a ρ' i).mono s;generalize n ρ'=r2 at b;cases r2 with
   | ok f=>
    cases f with
    | nx ρ=>exact λD q=>h _ λg j a s i=>b g j a s i D q
    | bk ρ=>exact λD q=>h _ λg j a s i=>b g j a s i D q
    | ct ρ=>exact λD q=>h _ λg j a s i=>b g j a s i D q
    | rt d=>exact λD q=>h _ λg j a s i=>b g j a s i D q
   | ex c=>exact λD q=>h _ λg j a s i=>b g j a s i D q
   | bad=>trivial
  | bk ρ'=>exact λD q=>h _ q
  | ct ρ'=>exact λD q=>h _ q
  | rt d=>exact λD q=>h _ q
 | ex c=>rw [e] at h;exact λD q=>h _ q
 | bad=>trivial
def ZsK(ha:SE K mg E ta ma):SS K mg E (Zhz ta) (drp ma):=by
 intro f h F H σ ρ a;exact (ha f h F H σ ρ a).stm a.g λd _ e b x c i=>λD q=>q e b σ (Same.refl _) (a.gr c)
def Zul(ha:SE K mg E ta ma):SS K mg E (tRet ta) (ret ma):=by
 intro h i F H σ ρ a;exact (ha h i F H σ ρ a).stm a.g λd _ f c x e b=>λD q=>q f c x (a.g.trans e) b
def Zx3{n:MS}(hc:STt K mg E sc nc)(h1:SS K mg E t m)(h2:SS K mg E u n):SS K mg E (tIfS sc t u) (ifs nc m n):=by
 intro c d F H σ ρ a;refine (hc c d F H σ ρ a).stm a.g λb _ h e x f i=>?_;cases (i);cases b with
 | true=>
  have z:=h1 c d h e σ ρ (a.gr f);simp only [Vbi];exact z
 | false=>
  have z:=h2 c d h e σ ρ (a.gr f);simp only [VbF,Vbh];exact z
def ZkD{l:List α}{x:α}(h:i<n):(l.set i x).drop n=l.drop n:=by
 rw [List.drop_set,iP h]
def ZrP(h:i<n):SG K mg n (ZfB i) (gN i):=λ_ _ _ _ _ _ _ _ r a _ q=>q _ _ _ (Same.refl _) (r.set i a) (ZkD h)
def Zsm:SGs K mg n gNil gs0:=by
 intro d e F H σ ρ b c r a;unfold gs0;split
 ·cases a;exact λQ q=>⟨rfl,q _ _ _ (Same.refl _) r rfl⟩
 ·trivial
def ZpE(h1:SG K mg n t g)(h2:SGs K mg n u gs):SGs K mg n (ZrL t u) (gs1 g gs):=by
 intro f i F H σ ρ m b r k;cases k with
 | nil=>trivial
 | cons rx k=>
  rename_i x m d b;have h:=h1 f i F H σ ρ x d r rx;show AnsG K mg f i F n σ ((g d ρ).bind λa=>gs b a) _;cases e:g d ρ with
  | ok a=>
   rw [e] at h;show AnsG K mg f i F n σ (gs b a) _;cases e2:gs b a with
   | ok ρ''=>
    refine λQ q=>⟨x,m,rfl,h _ λD C j o B A=>?_⟩;have p:=h2 f i D C j a m b B (k.same o);rw [e2] at p;exact p _ λv s l z y w=>q v s l (o.trans z) y (w.trans A)
   | ex c=>trivial
   | bad=>trivial
  | ex c=>trivial
  | bad=>trivial
def gLst(K:W.Frag)(n:Nat)(t:TGs):TG:=λv σ H Q=>∃a b,v=.ref a/\SqL K H a b/\b.length=n/\t b σ H Q
def gSeq(K:W.Frag)(n:Nat)(t:TGs):TG:=λv σ H Q=>gTup K n t v σ H Q\/gLst K n t v σ H Q
def Zva(h:SGs K mg n t g):SG K mg n (gSeq K k t) (gU k g):=by
 intro f i F H σ ρ x d r j;unfold gU items;split
 ·next a=>
  show AnsG K mg f i F n σ (if a.length=k then g a ρ else .bad) _
  by_cases hl:a.length=k
  ·rw [iP hl];cases j with
   | lst ha ra=>
    have b:=h f i F H σ ρ _ _ r ra;cases e:g a ρ with
    | ok ρ'=>
     rw [e] at b;exact λQ q=>.inr ⟨_,_,rfl,r.ss.seq ha,ra.length.trans hl,b Q q⟩
    | ex c=>trivial
    | bad=>trivial
  ·rw [iN hl];trivial
 ·next a=>
  show AnsG K mg f i F n σ (if a.length=k then g a ρ else .bad) _
  by_cases hl:a.length=k
  ·rw [iP hl];cases j with
   | tup ha ra=>
    have b:=h f i F H σ ρ _ _ r ra;cases e:g a ρ with
    | ok ρ'=>
     rw [e] at b;exact λQ q=>.inl ⟨_,_,rfl,ZaK r.ss ha,ra.length.trans hl,b Q q⟩
    | ex c=>trivial
    | bad=>trivial
  ·rw [iN hl];trivial
 ·trivial
def ZuN{t:TG}{g:MG}(ha:SE K mg E ta ma)(hg:SG K mg n t g)(hx:∀d ρ c,g d ρ≠.ex c):SS K mg E (tAsg ta t) (asg g ma):=by
 intro f i F H σ ρ a;refine (ha f i F H σ ρ a).stm a.g λd _ r o x p m=>?_;have h:=hg f i r o σ ρ x d (a.gr p) m;cases e:g d ρ with
 | ok ρ'=>
  rw [e] at h;exact λD q=>h _ λj k b s l _=>q j k b s l
 | ex c=>exact aB e (hx d ρ c)
 | bad=>trivial
def Zn8(ha:SE K mg E ta ma):SS K mg E (tAsg ta (ZfB i)) (st i ma):=by
 intro h j F H σ ρ a;exact (ha h j F H σ ρ a).stm a.g λd _ f c x e b=>λD q=>q f c _ (Same.refl _) ((a.gr e).set i b)
def Zua{tb:TE}{mb:ME}(ha:SE K mg E ta ma)(hb:SE K mg E tb mb):SS K mg E (tPar i j (ZdX ta (ZdX tb tNil))) (par i j ma mb):=by
 intro h k F H σ ρ a;refine (ha h k F H σ ρ a).stm a.g λd _ r o x b n=>?_;refine (hb h k r o σ ρ (a.gr b)).stm (a.g.trans b) λe _ m l y c p=>?_;exact λD q=>⟨x,y,rfl,q m l _ (Same.refl _) ((((a.gr b).gr c).set i (n.same c.f)).set j p)⟩
def Zv6(h:SS K mg E t m):SS K mg E t (frz i m):=by
 intro d f F H σ ρ a;unfold frz getO;split
 ·next g e=>
  obtain ⟨b,s,c⟩:=a.frz e;exact (h d f b H σ _ c).mono s
 ·trivial
def ZuZ(ha:SE K mg E ta ma)(hty:∀H a xs,H a=some (.lst xs)->tyV K "list" (.ref a) H):SS K mg E (Zhz (tBM K "list" Zd6 (tVar i) (ZdX ta tNil))) (app i ma):=by
 intro t u F H σ ρ l;unfold app getO;split
 ·next j e=>
  show AnsS K mg E t u F ((ma ρ).bind λd=>if j.length<LIM then .ok (.nx (ρ.set i (.ow (j++[d])))) else .bad) _
  obtain ⟨a,xs,s,C,G,w,v⟩:=l.ow i j e;have y:=v.length;have h:=(ha t u F H σ ρ l).stm (K:=K) (k:=λd=>if j.length<LIM then .ok (.nx (ρ.set i (.ow (j++[d])))) else .bad) (w':=λx m D=>Zd6 (.ref a) [x] m λ_ n=>D.nx σ n) l.g λd _ J L x p A=>?_
  ·generalize ((ma ρ).bind λd=>if j.length<LIM then Res.ok (Fl.nx (ρ.set i (.ow (j++[d])))) else .bad)=res at h
   have b:∀D:Ends,(ta σ H λx m=>Zd6 (.ref a) [x] m λ_ n=>D.nx σ n)->Zhz (tBM K "list" Zd6 (tVar i) (ZdX ta tNil)) D σ H:=λD z=>⟨.ref a,s,hty H a xs w,z⟩;cases res with
   | ok f=>
    cases f with
    | nx ρ=>exact λD q=>b D (h D q)
    | bk ρ=>exact λD q=>b D (h D q)
    | ct ρ=>exact λD q=>b D (h D q)
    | rt d=>exact λD q=>b D (h D q)
   | ex c=>exact λD q=>b D (h D q)
   | bad=>trivial
  ·by_cases hlim:j.length<LIM
   ·simp only [hlim,Vbi];have B:=l.gr p;obtain ⟨I,r⟩:=p.o a _ G w;exact λD q=>⟨a,xs,x,rfl,rfl,r,by rw [y];exact Vag hlim 00,q J _ σ (Same.refl _) (B.app e s r C I (v.same p.f) A)⟩
   ·simp only [hlim,Vbh];trivial
 ·trivial
def iSeq(K:W.Frag)(tl:TE):TI:=λσ H R=>tl σ H λx b=>∃a,x=.ref a/\(((∃c,SqL K b a c)/\R (Itl K a) b)\/((∃c,SqT K b a c)/\R (Itt K a) b))
def Zv4(h:SqL K F a xs)(r:Rps K mg F xs ds):ItOk K mg F (Itl K a) ds:=by
 intro k o f c i;have b:=(f.trans c).seq h;refine ⟨λd e=>?_,λn=>⟨xs,b,by rw [r.length];exact n⟩⟩;obtain ⟨x,g,l⟩:=r.get e;refine ⟨⟨xs,x,b,g⟩,λy m q=>?_⟩;obtain ⟨rfl,q⟩:=q;have j:=q xs b;rw [g] at j;cases j;exact ⟨k,.refl c,l.same f⟩
def ZuP(h:SqT K F a xs)(r:Rps K mg F xs ds):ItOk K mg F (Itt K a) ds:=by
 intro k o f c i;have b:=ZaK (f.trans c) h;refine ⟨λd e=>?_,λn=>⟨xs,b,by rw [r.length];exact n⟩⟩;obtain ⟨x,g,l⟩:=r.get e;refine ⟨⟨xs,x,b,g⟩,λy m q=>?_⟩;obtain ⟨rfl,q⟩:=q;have j:=q xs b;rw [g] at j;cases j;exact ⟨k,.refl c,l.same f⟩
def ZqN(lo)(n):ItOk K mg F (Itr lo n) (Za5 lo n):=by
 intro c j h f i;unfold Za5;refine ⟨λd e=>?_,λa=>?_⟩
 ·rw [Vbd] at e;have b:i<n:=by
   rcases Nat.lt_or_ge i n with z | z
   ·exact z
   ·rw [VbJ (by rw [VbK];exact z)] at e;cases e
  rw [List.getElem?_range b] at e;cases e;refine ⟨b,λy g q=>?_⟩;obtain ⟨rfl,rfl⟩:=q;exact ⟨c,.refl f,.int _⟩
 ·rw [VaX,VbK] at a;exact a
def Zwf(ha:SE K mg E ta ma):SI K mg E (iSeq K ta) (iv ma):=by
 intro e f F H σ ρ c;refine (ha e f F H σ ρ c).bind λi g x d a b=>?_;cases d with
 | lst ds=>
  cases b with
  | lst h r=>exact Ans.ret a.s (Zv4 h r) λQ q=>⟨_,rfl,.inl ⟨⟨_,a.s.seq h⟩,q⟩⟩
 | tup ds=>
  cases b with
  | tup h r=>exact Ans.ret a.s (ZuP h r) λQ q=>⟨_,rfl,.inr ⟨⟨_,ZaK a.s h⟩,q⟩⟩
 | _=>trivial
def ZxL(ha:SA K mg E t m):SI K mg E (ZtT t) (r1 m):=by
 intro d f F H σ ρ a;refine (ha d f F H σ ρ a).bind λk i g l c e=>?_;unfold rng1;split
 ·next j=>
  by_cases h:-1000000000<=j/\j<=1000000000
  ·rw [iP h];obtain ⟨x,rfl,b⟩:=e.one;cases b;exact Ans.ret c.s (ZqN 0 _) λQ q=>⟨j,rfl,by omega,by omega,q⟩
  ·rw [iN h];trivial
 ·trivial
def ZxD(ha:SA K mg E t m):SI K mg E (ZsP t) (r2 m):=by
 intro b g F H σ ρ a;refine (ha b g F H σ ρ a).bind λn l o k f c=>?_;unfold rng2;split
 ·next i j=>
  by_cases h:(-1000000000<=i/\i<=1000000000)/\(-1000000000<=j/\j<=1000000000)
  ·rw [iP h];obtain ⟨x,y,rfl,d,e⟩:=c.two;cases d;cases e;exact Ans.ret f.s (ZqN i _) λQ q=>⟨i,j,rfl,by omega,q⟩
  ·rw [iN h];trivial
 ·trivial
def ZvJ{wi:TI}{mi:MI}{t:TG}{g:MG}{u:TS}{m:MS}(hi:SI K mg E wi mi)(hg:SG K mg n t g)(hx:∀d ρ c,g d ρ≠.ex c)(hb:SS K mg E u m):SS K mg E (tFor wi t u) (for_ mi g m):=by
 intro A B F H σ ρ rr
 refine (hi A B F H σ ρ rr).stm (w':=λJ H1 D=>∃W:Nat->Nat->St->Hp->Prop,(∃m,W 0 m σ H1)/\∀i m σ H,W i m σ H ->
  (J.stop i H/\D.nx σ H)\/(J.go i H/\∃N:St->Hp->Prop,(∀a h,N a h->∃U,U<m/\W (i+1) U a h)/\∀x h,J.yld i H x h->t x σ h λr G=>u { D with nx:=N,ct:=N,bk:=D.nx } r G)) rr.g λp _ R H1 J g1 jo=>?_
 have r1:=rr.gr g1;have w:∀(D:Ends) (l:Res Fl),l≠.bad->(∀b,l=.ok (.nx b)->∀o h a,Same R o->Rep K mg A B o h a b->D.nx a h)->(∀b,l=.ok (.bk b)->∀o h a,Same R o->Rep K mg A B o h a b->D.bk a h) ->
   (∀b,l=.ok (.ct b)->∀o h a,Same R o->Rep K mg A B o h a b->D.ct a h)->(∀d,l=.ok (.rt d)->∀o h x,Gr A B o h->Rp K mg o x d->D.rt x h) ->
   (∀c,l=.ex c->∀o h C,Gr A B o h->mg (clsOf c)=some 05->E 05 (pay c) h)->ZbJ g m p ρ=l ->
   ∃W:Nat->Nat->St->Hp->Prop,(∃m,W 0 m σ H1)/\∀i m σ H,W i m σ H ->
    (J.stop i H/\D.nx σ H)\/(J.go i H/\∃N:St->Hp->Prop,(∀a h,N a h->∃U,U<m/\W (i+1) U a h)/\∀x h,J.yld i H x h->t x σ h λr G=>u { D with nx:=N,ct:=N,bk:=D.nx } r G):=by
  intro D l L qn qb qc qr qe e0;refine ⟨λi k a h=>k=p.length - i/\i<=p.length/\∃b o,Same R o/\Rep K mg A B o h a b/\ZbJ g m (p.drop i) b=l,⟨p.length,by simp,Va0 _,ρ,R,Same.refl _,r1,e0⟩,?_⟩;rintro i k a h ⟨rfl,hi',b,o,V,X,e⟩;by_cases hlt:i<p.length
  ·refine .inr ?_;have hd:=VbL hlt;obtain ⟨go,yl⟩:=(jo o h V X.ss i).1 _ hd;rw [VbE hlt] at e;refine ⟨go,λr G=>∃j Q,Same R Q/\Rep K mg A B Q G r j/\ZbJ g m (p.drop (i+1)) j=l,λr G zq=>by obtain ⟨j,Q,s2,r2,s⟩:=zq;exact ⟨p.length - (i+1),by omega,rfl,hlt,j,Q,s2,r2,s⟩,λx G y=>?_⟩;obtain ⟨Q,g2,rx⟩:=yl x G y;have r2:=X.gr g2;have hG:=hg A B Q G a b x _ r2 rx;have Y:(g p[i] b).bind (λv=>(m v).bind (turn (ZbJ g m (p.drop (i+1)))))=l:=e;cases eg:g p[i] b with
   | ok v=>
    rw [eg] at Y hG;refine hG _ λF3 H3 Z s3 r3 _=>?_;have M:=hb A B F3 H3 Z v r3;have sF:=V.trans (g2.f.trans s3);have s:(m v).bind (turn (ZbJ g m (p.drop (i+1))))=l:=Y;cases em:m v with
    | ok f=>
     rw [em] at s M;cases f with
     | nx j=>exact M _ λI P O S T=>⟨j,I,sF.trans S,T,s⟩
     | ct j=>exact M _ λI P O S T=>⟨j,I,sF.trans S,T,s⟩
     | bk j=>exact M _ λI P O S T=>qn j s.symm I P O (sF.trans S) T
     | rt d=>exact M _ λI P y g4 ry=>qr d s.symm I P y g4 ry
    | ex c=>
     rw [em] at s M;exact M _ λI P C g4 hc=>qe c s.symm I P C g4 hc
    | bad=>rw [em] at s;exact aB s.symm L
   | ex c=>exact aB eg (hx _ _ c)
   | bad=>rw [eg] at Y;exact aB Y.symm L
  ·have hi2:i=p.length:=by omega
   subst hi2;rw [VbM (VaN _)] at e;exact .inl ⟨(jo o h V X.ss _).2 (VaN _),qn b e.symm o h a V X⟩
 cases e:ZbJ g m p ρ with
 | ok f=>
  cases f with
  | nx j=>exact λD q=>w D _ (λz=>by cases z) (λ_ z=>by cases z;exact q) 003 003 003 003 e
  | bk j=>exact λD q=>w D _ (λz=>by cases z) 003 (λ_ z=>by cases z;exact q) 003 003 003 e
  | ct j=>exact λD q=>w D _ (λz=>by cases z) 003 003 (λ_ z=>by cases z;exact q) 003 003 e
  | rt d=>exact λD q=>w D _ (λz=>by cases z) 003 003 003 (λ_ z=>by cases z;exact q) 003 e
 | ex c=>exact λD q=>w D _ (λz=>by cases z) 003 003 003 003 (λ_ z=>by cases z;exact q) e
 | bad=>trivial
def Zp2{n:Ev->Nat}(hc:STt K mg E sc nc)(hb:SS K mg E u m):SS K mg E (ZlH sc u) (whl n nc m):=by
 intro v w F H σ ρ rr;have r:∀D j,j≠.bad->(∀a,j=.ok (.nx a)->∀o l i,Same F o->Rep K mg v w o l i a->D.nx i l)->(∀a,j=.ok (.bk a)->∀o l i,Same F o->Rep K mg v w o l i a->D.bk i l) ->
   (∀a,j=.ok (.ct a)->∀o l i,Same F o->Rep K mg v w o l i a->D.ct i l)->(∀d,j=.ok (.rt d)->∀o l x,Gr v w o l->Rp K mg o x d->D.rt x l) ->
   (∀c,j=.ex c->∀o l C,Gr v w o l->mg (clsOf c)=some 05->E 05 (pay c) l)->whGo nc m (n ρ) ρ=j->ZlH sc u D σ H:=by
  intro D j t X qb qc qr Y e0;refine ⟨λk i l=>∃a o,Same F o/\Rep K mg v w o l i a/\whGo nc m k a=j,⟨n ρ,ρ,F,Same.refl _,rr,e0⟩,?_⟩;rintro k i l ⟨a,o,W,S,e⟩;cases k with
  | zero=>exact aB e.symm t
  | succ k=>
   have I:(nc a).bind (λx=>if x=true then (m a).bind (turn (whGo nc m k)) else .ok (.nx a))=j:=e
   have P:=hc v w o l i a S;cases ec:nc a with
   | ok b=>
    rw [ec] at I P;refine P _ λV T b' Q eb=>?_;cases (eb);have r2:=S.gr Q;cases b with
    | true=>
     have B:=hb v w V T i a r2;have p:=I;refine ⟨λJ Z=>∃N U,Same F U/\Rep K mg v w U Z J N/\whGo nc m k N=j,λJ Z h=>⟨k,VaZ _,h⟩,?_⟩;have R:=W.trans Q.f;cases em:m a with
     | ok f=>
      rw [em] at p B;cases f with
      | nx ρ2=>exact B _ λs A G L M=>⟨ρ2,s,R.trans L,M,p⟩
      | ct ρ2=>exact B _ λs A G L M=>⟨ρ2,s,R.trans L,M,p⟩
      | bk ρ2=>exact B _ λs A G L M=>X ρ2 p.symm s A G (R.trans L) M
      | rt d=>exact B _ λs A y O ry=>qr d p.symm s A y O ry
     | ex c=>
      rw [em] at p B;exact B _ λs A C O hc=>Y c p.symm s A C O hc
     | bad=>rw [em] at p;exact aB p.symm t
    | false=>
     have p:=I;exact X a p.symm V T i (W.trans Q.f) r2
   | ex c=>
    rw [ec] at I P;exact P _ λs A C O hc=>Y c I.symm s A C (S.g.trans O) hc
   | bad=>rw [ec] at I;exact aB I.symm t
 unfold whl;cases e:whGo nc m (n ρ) ρ with
 | ok f=>
  cases f with
  | nx ρ2=>exact λD q=>r D _ (λz=>by cases z) (λ_ z=>by cases z;exact q) 003 003 003 003 e
  | bk ρ2=>exact λD q=>r D _ (λz=>by cases z) 003 (λ_ z=>by cases z;exact q) 003 003 003 e
  | ct ρ2=>exact λD q=>r D _ (λz=>by cases z) 003 003 (λ_ z=>by cases z;exact q) 003 003 e
  | rt d=>exact λD q=>r D _ (λz=>by cases z) 003 003 003 (λ_ z=>by cases z;exact q) 003 e
 | ex c=>exact λD q=>r D _ (λz=>by cases z) 003 003 003 003 (λ_ z=>by cases z;exact q) e
 | bad=>trivial
end
section
variable {F:Hp}
def Rep.inner{own:List Str}{cap:List (Str×Nat)}(r:Rep K mg F0 H0 F H σ ρ)(gb:Gr Fb Hb F H):Rep K mg Fb Hb F H (st0 own σ cap) 009:=by
 have b:∀i c,(009)[i]?=some c->c=.no\/∃j p d,i=own.length+j/\cap[j]?=some p/\ρ[p.2]?=some (.im d)/\c=.im d:=by
  intro i c e;rw [Zla,ZiU] at e;by_cases hi:i<own.length
  ·rw [Vbc (by simpa using hi),Vbb,iP hi] at e;cases e;exact .inl rfl
  ·rw [Vba (by simpa using hi),Vbg] at e;rw [VbN,Vbd] at e;cases q:cap[i - own.length]? with
   | none=>rw [q] at e;cases e
   | some p=>
    rw [q] at e;have f:imOf ρ[p.2]?=c:=Vac e;unfold imOf at f;split at f
    ·next d h=>exact .inr ⟨i - own.length,p,d,by omega,q,h,f.symm⟩
    ·exact .inl f.symm
 refine ⟨gb,?_,λi d e=>?_,λi k e=>?_,λi j k m a e=>?_⟩
 ·rw [Zla,ZiU];unfold st0 capt;simp
 ·rcases b i _ e with z | ⟨j,p,d',rfl,hp,hρ,z⟩
  ·cases z
  ·cases z;obtain ⟨x,l,g⟩:=r.im p.2 d hρ;refine ⟨x,?_,g⟩;unfold st0 capt;rw [Vba 03,Vbg,Nat.add_sub_cancel_left,Vbd,hp];show some ((σ[p.2]?).join)=_;rw [l];rfl
 ·rcases b i _ e with z | ⟨j,p,d',rfl,hp,hρ,z⟩<;>cases z
 ·rcases b i _ e with z | ⟨j,p,d',rfl,hp,hρ,z⟩<;>cases z
def Znu:(st0 own σ cap).drop own.length=capt σ cap:=by
 unfold st0;rw [List.drop_append_of_le_length 03,List.drop_of_length_le 03];rfl
def Zm4{own:List Str}{cap:List (Str×Nat)}(r:Rep K mg F0 H0 F H σ ρ)(jo:ItOk K mg F J ds)(hg:SG K mg own.length t g)(ht:STt K mg E tt nt)(he:SE K mg E te me)(hl:ds.length<=LIM)(e0:Dl.Zaz g nt me 009 ds=.ok ys)(Q)(q:∀F' H' xs,Gr F H F' H'->Rps K mg F' xs ys->xs.length<=sizeLine->∀p,H' p=none->Q (.ref p) (upd H' p (.lst xs))) :
  ZfT J t tt te own cap σ Q H:=by
 refine ⟨λi k d H'=>k=ds.length - i/\i<=ds.length/\d.length<=i/\∃F' v m,Gr F H F' H'/\Rps K mg F' d v/\Dl.Zaz g nt me 009 (ds.drop i)=.ok m/\v++m=ys,
  ⟨ds.length,by simp,Va0 _,VaN _,F,[],ys,.refl r.ss,.nil,e0,rfl⟩,?_⟩
 rintro i k d H' ⟨rfl,V,ha,F',v,m,j,D,z,A⟩;have I:=Vao ha (Vao V hl);refine ⟨ZhW I,?_⟩;by_cases hlt:i<ds.length
 ·refine .inr ?_;have hd:=VbL hlt;obtain ⟨go,Z⟩:=(jo F' H' j.f j.s i).1 _ hd;rw [VbE hlt] at z;refine ⟨go,λx L y=>?_⟩;obtain ⟨X,C,W⟩:=Z x L y;have rr:=(r.gr (j.trans C)).inner (own:=own) (cap:=cap) (j.trans C);have S:=hg F H X L _ _ x _ rr W;have n:(g ds[i] 009).bind (λa=>(nt a).bind λb=>if b=true then (me a).bind λy=>(Dl.Zaz g nt me 009 (ds.drop (i+1))).bind λys=>.ok (y::ys) else Dl.Zaz g nt me 009 (ds.drop (i+1)))=.ok m:=z
  cases eg:g ds[i] 009 with
  | ok a=>
   rw [eg] at n S;refine S _ λU H3 o s3 B d3=>⟨d3.trans Znu,?_⟩;have M:=ht F H U H3 o a B;have R:=C.f.trans s3;have h:(nt a).bind (λb=>if b=true then (me a).bind λy=>(Dl.Zaz g nt me 009 (ds.drop (i+1))).bind λys=>.ok (y::ys) else Dl.Zaz g nt me 009 (ds.drop (i+1)))=.ok m:=n
   cases et:nt a with
   | ok b=>
    rw [et] at h M;refine M _ λP H4 b' w Y=>?_;cases (Y);cases b with
    | true=>
     have e:=h;have O:=he F H P H4 o a (B.gr w);cases em:me a with
     | ok y'=>
      rw [em] at e O;refine O _ λT H5 u N ru=>⟨Vbs I 00,ds.length - (i+1),by omega,rfl,hlt,by rw [Vbf];show d.length+1<=i+1;omega,?_⟩;have l:=e;cases ec:Dl.Zaz g nt me 009 (ds.drop (i+1)) with
      | ok rs'=>
       rw [ec] at l;have e6:=l;cases e6;exact ⟨T,v++[y'],rs',B.g.trans (w.trans N),Rps.app (.cons ru .nil) (D.same (R.trans (w.f.trans N.f))),rfl,by rw [VbO];exact A⟩
      | ex c=>rw [ec] at l;cases l
      | bad=>rw [ec] at l;cases l
     | ex c=>rw [em] at e;cases e
     | bad=>rw [em] at e;cases e
    | false=>
     have e:=h;exact ⟨ds.length - (i+1),by omega,rfl,hlt,by omega,P,v,m,B.g.trans w,D.same (R.trans w.f),e,A⟩
   | ex c=>rw [et] at h;cases h
   | bad=>rw [et] at h;cases h
  | ex c=>rw [eg] at n;cases n
  | bad=>rw [eg] at n;cases n
 ·have G:i=ds.length:=by omega
  subst G;rw [VbM (VaN _)] at z;cases z;rw [Va2] at A;subst A;exact .inl ⟨(jo F' H' j.f j.s _).2 (VaN _),q F' H' d j D (ZhW I)⟩
def Zos{te:Fam TE}(hi:SI K mg E wi mi)(hg:∀C s H fp pn,SG K mg own.length (t C s H fp pn) g)(ht:∀C s H fp pn,STt K mg E0 (tt C s H fp pn) nt)(he:∀C s H fp pn,SE K mg E0 (te C s H fp pn) me) :
  SE K mg E (ZeL wi t tt te own cap) (comp mi own.length (cap.map (·.2)) g nt me):=by
 intro i m F H σ ρ f;refine (hi i m F H σ ρ f).bind λu r J h k l=>?_;by_cases hl:h.length<=LIM
 ·rw [iP hl];cases e:Dl.Zaz g nt me 009 h with
  | ok ys=>exact λQ q C s a fp pn=>Zm4 (f.gr k) l (hg C s a fp pn) (ht C s a fp pn) (he C s a fp pn) hl e Q λn o v b j _ p d=>q _ _ _ (b.trans (.new b.s d _)) (.lst (SqL.of Zah) (j.same (ZaV (b.s.free d) _)))
  | ex c=>trivial
  | bad=>trivial
 ·rw [iN hl];trivial
end
structure DE(X:Cx)(E:XK)(e:Expr)(t:TE)(m:ME):Prop where
 p:PE X e t
 s:SE X.K X.mg E t m
structure DT(X:Cx)(E:XK)(e:Expr)(t:TT)(m:MB):Prop where
 p:PT X e t
 s:STt X.K X.mg E t m
structure DW(X:Cx)(E:XK)(e:Expr)(t:TT)(m:MB):Prop where
 p:PW X e t
 s:STt X.K X.mg E t m
structure DA(X:Cx)(E:XK)(n:Nat)(es:List Expr)(t:TA)(m:MA):Prop where
 p:PA X es t
 s:SA X.K X.mg E t m
 n:SAn n m
structure DO(X:Cx)(E:XK)(e:Option Expr)(t:TO)(m:Ev->Res (Option Int)):Prop where
 p:PO X e t
 s:SO X.K X.mg E t m
structure DS(X:Cx)(E:XK)(st:Stmt)(t:TS)(m:MS):Prop where
 p:PS X st t
 s:SS X.K X.mg E t m
structure DSs(X:Cx)(E:XK)(st:List Stmt)(t:TS)(m:MS):Prop where
 p:PSs X st t
 s:SS X.K X.mg E t m
structure DG(X:Cx)(n:Nat)(e:Expr)(t:TG)(g:MG):Prop where
 p:PG X e t
 s:SG X.K X.mg n t g
 x:∀d ρ c,g d ρ≠.ex c
structure DGs(X:Cx)(n:Nat)(es:List Expr)(t:TGs)(g:MGs):Prop where
 p:PGs X es t
 s:SGs X.K X.mg n t g
 x:∀d ρ c,g d ρ≠.ex c
structure DI(X:Cx)(E:XK)(tg e:Expr)(t:TI)(m:MI):Prop where
 p:PI X tg e t
 s:SI X.K X.mg E t m
section
variable {a b c':Expr} {ta tb tc:TE} {ma mb mc:ME} {sa sb:TT} {na nb:MB} {t:TA} {m:MA}
def d_v(i)(hN:X.N[i]?=some x:=by rfl)(hv:Vis X.env.scope x:=by first | exact Or.inl rfl | exact Or.inr (Or.inl rfl) | exact Or.inr (Or.inr rfl))(hd:ND x:=by decide)(hcd:NE x:=by decide):DE X E (.Name x pos) (tVar i) (v i):=⟨ZdT hN hv hd hcd,se_v i⟩
def Zbn{i j}:DE X E (.Constant (.int i) j pos) (tC (.int i)) (c (.int i)):=⟨Zq8,se_c λ_=>.int _⟩
def ydk{i j}:DE X E (.Constant (.bool i) j pos) (tC (.bl i)) (c (.bl i)):=⟨ZxN,se_c λ_=>.bl _⟩
def Zmw{j}:DE X E (.Constant .none j pos) (tC .non) (c .non):=⟨ZlD,se_c λ_=>.non⟩
def Za6{i j}:DE X E (.Constant (.str i) j pos) (tC (.str i)) (c (.str i)):=⟨Zle,se_c λ_=>.str _⟩
def ydn{k:String}(hg:Gl X x)(hm:X.mg x=none)(hv:bootBuiltins x=some (.type k))(hn:x ≠ "__name__":=by decide)(hd:ND x:=by decide):DE X E (.Name x pos) (tC (.ty k)) (c (.ty k)) :=
 ⟨ZwF hg hm hv hn hd,se_c λ_=>.ty _⟩
def ydo{i:Int}(hg:Gl X x)(hm:X.mg x=some (.int i tk))(hd:ND x:=by decide):DE X E (.Name x pos) (tC (.int i)) (c (.int i)):=⟨ZfX hg hm ⟨_,rfl⟩ hd,se_c λ_=>.int _⟩
def ZjP(ho:OpR X (binaryOp op) r)(hf:OpD X.K X.mg r f)(ha:004)(hb:DE X E b tb mb):DE X E (.BinOp a op b pos) (tOp r ta tb) (o2 f ma mb):=⟨ZwZ ho ha.p hb.p,Zno hf ha.s hb.s⟩
def Zmj(ho:OpR X (compareOp op) r)(hf:OpD X.K X.mg r f)(ha:004)(hb:DE X E b tb mb)(hm:behindInMarks op b=false):DE X E (.Compare a [op] [b] pos) (tOp r ta tb) (o2 f ma mb):=⟨Zkb ho ha.p hb.p hm,Zno hf ha.s hb.s⟩
def Zfr(ho:OpR X (compareOp op) r)(hf:OpD X.K X.mg r f)(ha:004)(hb:DE X E b tb mb)(hm:behindInMarks op b=false):DT X E (.Compare a [op] [b] pos) (Zek (tOp r ta tb)) (trb (o2 f ma mb)):=⟨Zog ho ha.p hb.p hm,Ziw (Zno hf ha.s hb.s)⟩
def OpR.or(h:OpR X f r)(h':OpR X f r'):OpR X f (λx y H Q=>r x y H Q\/r' x y H Q):=by
 intro a s σ H x y v u Q I b c q;rcases q with q | q
 ·exact h a s σ H x y v u Q I b c q
 ·exact h' a s σ H x y v u Q I b c q
def Ztk:OpR X (binaryOp .Add) (Zwh X.K):=by
 intro a s σ H x y v u Q I e f h;obtain ⟨l,b,i,j,rfl,rfl,c,d,g,q⟩:=h;cases e;cases f;exact Zpp I c d g q
def ZtN:OpR X (binaryOp .Add) (Zu6 X.K):=by
 intro c s σ H x y v u Q I g i h;obtain ⟨a,b,m,n,rfl,rfl,d,f,l,k,j,e⟩:=h;cases g;cases i;exact Zp3 I d f l k j e
def ZtO:OpR X (binaryOp .Add) (ZsH X.K):=OpR.or Zt5 (OpR.or Ztk (OpR.or ZtN Zme))
def ZjI(ha:004)(hb:DE X E b tb mb):DE X E (.BinOp a .Add b pos) (tOp (ZsH X.K) ta tb) (o2 yaT ma mb):=ZjP ZtO Zr9 ha hb
def ZxZ(ha:004)(hb:DE X E b tb mb):DE X E (.BinOp a .Sub b pos) (tOp (rI0 λi j=>V.int (i - j)) ta tb) (o2 dSub ma mb):=ZjP ZvP ZrU ha hb
def Zwn{a b:Int}(h:Zhl a b=true):IntMulOk a b:=by
 have h':(a.natAbs<2^64\/b.natAbs<2^64)\/a.natAbs.log2+b.natAbs.log2<100000000:=by simpa [Zhl] using h
 rcases h' with (h' | h') | h'
 ·exact .of_left (intBits_le_iff.mpr h')
 ·exact .of_right (intBits_le_iff.mpr h')
 ·have c:a.natAbs<2^(a.natAbs.log2+1):=Nat.lt_log2_self;have d:b.natAbs<2^(b.natAbs.log2+1):=Nat.lt_log2_self;exact IntMulOk.of_le (intBits_le_iff.mpr c) (intBits_le_iff.mpr d) 000
def Zsy:OpD K mg (rI IntMulOk λi j=>.int (i*j)) ydb:=Zl2 λa b=>by
 unfold iMul;by_cases h:Zhl a b=true
 ·rw [iP h];exact .inl ⟨_,rfl,Zwn h,λ_=>.int _⟩
 ·rw [iN h];exact .inr rfl
def ZwV(ha:004)(hb:DE X E b tb mb):DE X E (.BinOp a .Mult b pos) (tOp (rI IntMulOk λi j=>V.int (i*j)) ta tb) (o2 ydb ma mb):=ZjP ZtK Zsy ha hb
def Zt6(ha:004)(hb:DE X E b tb mb):DE X E (.BinOp a .Mod b pos) (tOp (rI (λ_ j=>j≠0) λi j=>V.int (i.fmod j)) ta tb) (o2 yb5 ma mb):=ZjP ZrR Zt0 ha hb
def ZxY(ha:004)(hb:DE X E b tb mb):DE X E (.BinOp a .FloorDiv b pos) (tOp (rI ZrH λi j=>V.int (i.fdiv j)) ta tb) (o2 ydi ma mb):=ZjP ZpG ZsW ha hb
def Zx6(ha:004)(hb:DE X E b tb mb):DE X E (.BinOp a .Pow b pos) (tOp (rI CPow λi j=>V.int (i^j.toNat)) ta tb) (o2 dPow ma mb):=ZjP Zvb ZtR ha hb
def Zxx(ha:004)(hb:DE X E b tb mb):DE X E (.BinOp a .LShift b pos) (tOp (rI CPow λi j=>V.int (i*2^j.toNat)) ta tb) (o2 dShl ma mb):=ZjP ZwB ZtB ha hb
def ZxS(ha:004)(hb:DE X E b tb mb):DE X E (.BinOp a .RShift b pos) (tOp (rI (λ_ j=>0<=j) λi j=>V.int (i/2^j.toNat)) ta tb) (o2 dShr ma mb):=ZjP Zwe Zta ha hb
def ZxP(ha:004):DE X E (.UnaryOp .USub a pos) (tUn (rU λi=>V.int (-i)) ta) (o1 dNeg ma):=⟨ZvZ Zrs ha.p,Zwy (Ztm λ_ _ _ q=>⟨_,rfl,q⟩) ha.s⟩
def ydz(ha:004)(hb:DE X E b tb mb):DE X E (.Compare a [.LtE] [b] pos) (tOp (rI0 λi j=>V.bl (decide (i<=j))) ta tb) (o2 dLe ma mb):=Zmj Zff ZcT ha hb (Zdd _)
def ydA(ha:004)(hb:DE X E b tb mb):DE X E (.Compare a [.Gt] [b] pos) (tOp (rI0 λi j=>V.bl (decide (j<i))) ta tb) (o2 dGt ma mb):=Zmj Zub ZrD ha hb (Zdd _)
def ydB(ha:004)(hb:DE X E b tb mb):DE X E (.Compare a [.GtE] [b] pos) (tOp (rI0 λi j=>V.bl (decide (j<=i))) ta tb) (o2 dGe ma mb):=Zmj ZuO Zq7 ha hb (Zdd _)
def ZxX(ha:004)(hb:DE X E b tb mb):DT X E (.Compare a [.Lt] [b] pos) (Zek (tOp (rI0 λi j=>V.bl (decide (i<j))) ta tb)) (trb (o2 dLt ma mb)):=Zfr Zw0 Zuy ha hb (Zdd _)
def ZxI(ha:004)(hb:DE X E b tb mb):DT X E (.Compare a [.LtE] [b] pos) (Zek (tOp (rI0 λi j=>V.bl (decide (i<=j))) ta tb)) (trb (o2 dLe ma mb)):=Zfr Zff ZcT ha hb (Zdd _)
def Zpb(ha:004)(hb:DE X E b tb mb):DT X E (.Compare a [.Gt] [b] pos) (Zek (tOp (rI0 λi j=>V.bl (decide (j<i))) ta tb)) (trb (o2 dGt ma mb)):=Zfr Zub ZrD ha hb (Zdd _)
def ZwY(ha:004)(hb:DE X E b tb mb):DT X E (.Compare a [.GtE] [b] pos) (Zek (tOp (rI0 λi j=>V.bl (decide (j<=i))) ta tb)) (trb (o2 dGe ma mb)):=Zfr ZuO Zq7 ha hb (Zdd _)
mutual
def pyD:D->PyData
 | .non=>.none
 | .bl b=>.bool b
 | .int i=>.int i
 | .str x=>.str x
 | .tup xs=>.tuple (pyDs xs)
 | .lst xs=>.list (pyDs xs)
 | _=>.none
def pyDs:List D->List PyData
 | []=>[]
 | x::r=>pyD x::pyDs r
end
mutual
def Zlp:∀x y,∀k l,Dl.plain k x=true->Dl.plain l y=true->eqD x y=PyData.eqv (pyD x) (pyD y)
 | .non,y,_,_,_,hy=>by cases y<;>first | rfl | (simp [Dl.plain] at hy)
 | .bl _,y,_,_,_,hy=>by cases y<;>first | rfl | (simp [Dl.plain] at hy)
 | .int _,y,_,_,_,hy=>by cases y<;>first | rfl | (simp [Dl.plain] at hy)
 | .str _,y,_,_,_,hy=>by cases y<;>first | rfl | (simp [Dl.plain] at hy)
 | .tup xs,y,k,l,hx,hy=>by
  cases y<;>first | rfl | (simp [Dl.plain] at hy;done) | skip
  rename_i ys;cases k with
  | zero=>simp [Dl.plain] at hx
  | succ k=>
   cases l with
   | zero=>simp [Dl.plain] at hy
   | succ l=>exact Zkv xs ys k l (by simpa [Dl.plain] using hx) (by simpa [Dl.plain] using hy)
 | .lst xs,y,k,l,hx,hy=>by
  cases y<;>first | rfl | (simp [Dl.plain] at hy;done) | skip
  rename_i ys;cases k with
  | zero=>simp [Dl.plain] at hx
  | succ k=>
   cases l with
   | zero=>simp [Dl.plain] at hy
   | succ l=>exact Zkv xs ys k l (by simpa [Dl.plain] using hx) (by simpa [Dl.plain] using hy)
 | .ty _,_,k,_,hx,_=>by cases k<;>simp [Dl.plain] at hx
 | .cls _,_,k,_,hx,_=>by cases k<;>simp [Dl.plain] at hx
 | .exc _,_,k,_,hx,_=>by cases k<;>simp [Dl.plain] at hx
 | .ins _ _ _,_,k,_,hx,_=>by cases k<;>simp [Dl.plain] at hx
def Zkv:∀xs ys,∀k l,Dl.ZaR k xs=true->Dl.ZaR l ys=true->eqDs xs ys=PyData.eqvAll (pyDs xs) (pyDs ys)
 | [],[],_,_,_,_=>rfl
 | [],_::_,_,_,_,_=>rfl
 | _::_,[],_,_,_,_=>rfl
 | x::xs,y::ys,k,l,hx,hy=>by
  have a:Dl.plain k x=true/\Dl.ZaR k xs=true:=by simpa [Dl.ZaR] using hx
  have b:Dl.plain l y=true/\Dl.ZaR l ys=true:=by simpa [Dl.ZaR] using hy
  show (eqD x y&&eqDs xs ys)=(PyData.eqv (pyD x) (pyD y)&&PyData.eqvAll (pyDs xs) (pyDs ys));rw [Zlp x y k l a.1 b.1,Zkv xs ys k l a.2 b.2]
end
mutual
def Zeu:∀x k,Dl.plain k x=true->(pyD x).canLay0=true/\(pyD x).depth<=k
 | .non,_,_=>⟨rfl,Va0 _⟩
 | .bl _,_,_=>⟨rfl,Va0 _⟩
 | .int _,_,_=>⟨rfl,Va0 _⟩
 | .str x,_,h=>⟨by simpa [Dl.plain,pyD,PyData.canLay0,PyData.strOk] using h,Va0 _⟩
 | .tup xs,0,h=>by simp [Dl.plain] at h
 | .lst xs,0,h=>by simp [Dl.plain] at h
 | .tup xs,k+1,h=>by
  obtain ⟨a,b⟩:=Zfm xs k (by simpa [Dl.plain] using h);exact ⟨a,VbP b⟩
 | .lst xs,k+1,h=>by
  obtain ⟨a,b⟩:=Zfm xs k (by simpa [Dl.plain] using h);exact ⟨a,VbP b⟩
 | .ty _,k,h=>by cases k<;>simp [Dl.plain] at h
 | .cls _,k,h=>by cases k<;>simp [Dl.plain] at h
 | .exc _,k,h=>by cases k<;>simp [Dl.plain] at h
 | .ins _ _ _,k,h=>by cases k<;>simp [Dl.plain] at h
def Zfm:∀xs k,Dl.ZaR k xs=true->PyData.canLayAll0 (pyDs xs)=true/\PyData.depthAll (pyDs xs)<=k
 | [],_,_=>⟨rfl,Va0 _⟩
 | x::xs,k,h=>by
  have a:Dl.plain k x=true/\Dl.ZaR k xs=true:=by simpa [Dl.ZaR] using h
  obtain ⟨e,b⟩:=Zeu x k a.1;obtain ⟨d,c⟩:=Zfm xs k a.2;refine ⟨?_,Nat.max_le.mpr ⟨b,c⟩⟩;show (PyData.canLay0 (pyD x)&&PyData.canLayAll0 (pyDs xs))=true;rw [e,d];rfl
end
mutual
def Zl5{K:W.Frag}{mg:001}{F:Hp}{x:V}{d:D}{k:Nat}(h:Rp K mg F x d)(p:Dl.plain k d=true):DV K F x (pyD d):=by
 cases h with
 | non=>exact .non
 | bl b=>exact .bl b
 | int b=>exact .int b
 | str b=>exact .str b
 | tup h r=>
  cases k with
  | zero=>simp [Dl.plain] at p
  | succ k=>exact .tup h (Ziy r (by simpa [Dl.plain] using p))
 | lst h r=>
  cases k with
  | zero=>simp [Dl.plain] at p
  | succ k=>exact .lst h (Ziy r (by simpa [Dl.plain] using p))
 | ty _=>cases k<;>simp [Dl.plain] at p
 | cls _=>cases k<;>simp [Dl.plain] at p
 | exc _ _=>cases k<;>simp [Dl.plain] at p
 | ins _ _ _ _ _=>cases k<;>simp [Dl.plain] at p
def Ziy{K:W.Frag}{mg:001}{F:Hp}{xs:List V}{ds:List D}{k:Nat}(h:Rps K mg F xs ds)(p:Dl.ZaR k ds=true):DVs K F xs (pyDs ds):=by
 cases h with
 | nil=>exact .nil
 | cons h r=>
  have a:=(by simpa [Dl.ZaR] using p);exact .cons (Zl5 h a.1) (Ziy r a.2)
end
mutual
def ZfK{K:W.Frag}{F H:Hp}(s:Same F H){x:V}{d:PyData}(h:DV K F x d):DV K H x d:=by
 cases h with
 | non=>exact .non
 | bl b=>exact .bl b
 | int b=>exact .int b
 | str b=>exact .str b
 | tup h r=>exact .tup (ZaK s h) (Zgo s r)
 | lst h r=>exact .lst (s.seq h) (Zgo s r)
def Zgo{K:W.Frag}{F H:Hp}(s:Same F H){xs:List V}{ds:List PyData}(h:DVs K F xs ds):DVs K H xs ds:=by
 cases h with
 | nil=>exact .nil
 | cons h r=>exact .cons (ZfK s h) (Zgo s r)
end
def ZqU:OpD K mg (rEqD K id) dEq:=by
 intro E F H x y b c s e f;unfold dEq;by_cases h:(Dl.plain 50 b&&Dl.plain 50 c)=true
 ·rw [iP h];have a:Dl.plain 50 b=true/\Dl.plain 50 c=true:=by simpa using h
  obtain ⟨i,d⟩:=Zeu b 50 a.1;obtain ⟨g,j⟩:=Zeu c 50 a.2;exact .ret s (.bl _) λQ q=>⟨_,_,ZfK s (Zl5 e a.1),ZfK s (Zl5 f a.2),i,g,Vao d 00,by rw [<-Zlp b c 50 50 a.1 a.2];exact q⟩
 ·rw [iN h];trivial
def ZvU:OpD K mg (rEqD K not) dNe:=by
 intro E F H x y b c s e f;unfold dNe;by_cases h:(Dl.plain 50 b&&Dl.plain 50 c)=true
 ·rw [iP h];have a:Dl.plain 50 b=true/\Dl.plain 50 c=true:=by simpa using h
  obtain ⟨i,d⟩:=Zeu b 50 a.1;obtain ⟨g,j⟩:=Zeu c 50 a.2;exact .ret s (.bl _) λQ q=>⟨_,_,ZfK s (Zl5 e a.1),ZfK s (Zl5 f a.2),i,g,Vao d 00,by rw [<-Zlp b c 50 50 a.1 a.2];exact q⟩
 ·rw [iN h];trivial
def ydx(hr:Room k X.A)(ha:004)(hb:DE X E b tb mb):DE X E (.Compare a [.Eq] [b] pos) (tOp (rEqD X.K id) ta tb) (o2 dEq ma mb):=Zmj (ZqS hr.units) ZqU ha hb (Zdd _)
def ZnB(hr:Room k X.A)(ha:004)(hb:DE X E b tb mb):DT X E (.Compare a [.Eq] [b] pos) (Zek (tOp (rEqD X.K id) ta tb)) (trb (o2 dEq ma mb)):=Zfr (ZqS hr.units) ZqU ha hb (Zdd _)
def Zqx(hr:Room k X.A)(ha:004)(hb:DE X E b tb mb):DT X E (.Compare a [.NotEq] [b] pos) (Zek (tOp (rEqD X.K not) ta tb)) (trb (o2 dNe ma mb)):=Zfr (Zuu hr.units) ZvU ha hb (Zdd _)
def Zx5{j pos'}(ha:004):DE X E (.Compare a [.Is] [.Constant .none j pos'] pos) (tOp (λx y H Q=>y=V.non/\Q (V.bl (decide (x=V.non))) H) ta (tC .non)) (o1 dIsN ma):=⟨Zkb Zrg ha.p ZlD (Zdd _),Zrl ha.s⟩
def Zq9{j pos'}(ha:004):DE X E (.Compare a [.IsNot] [.Constant .none j pos'] pos) (tOp (λx y H Q=>y=V.non/\Q (V.bl (!decide (x=V.non))) H) ta (tC .non)) (o1 Zmu ma):=⟨Zkb Ztq ha.p ZlD (Zdd _),ZrK ha.s⟩
def ZuA{j pos'}(ha:004):DT X E (.Compare a [.Is] [.Constant .none j pos'] pos) (Zek (tOp (λx y H Q=>y=V.non/\Q (V.bl (decide (x=V.non))) H) ta (tC .non))) (trb (o1 dIsN ma)):=⟨Zog Zrg ha.p ZlD (Zdd _),Ziw (Zrl ha.s)⟩
def ydl(ha:004)(hb:DE X E b tb mb)(hs:Zky b:=by exact λ_ _=>rfl):DE X E (.Subscript a b pos) (tOp (rIxD X.K) ta tb) (o2 dIx ma mb):=⟨Zt3 (IxR.or ZnG Zry) ha.p hb.p hs,Zno Zus ha.s hb.s⟩
def Zfw(ha:004)(he:∀whole,isTrue a X.env whole=(do let v <-whole;standAt a.pos;holding [v] (truthy v)):=by intro _;rfl):DT X E a (L2.tB ta) (trb ma):=⟨Zvh ha.p he,st_b ha.s⟩
def Zt1(ha:DT X E a sa na):DW X E (.BoolOp .And [a] pos) sa na:=⟨Ztc ha.p,ha.s⟩
def Zf7(ha:DT X E a sa na):DW X E (.BoolOp .Or [a] pos) sa na:=⟨Zuo ha.p,ha.s⟩
def ZmI{rest:List Expr}(ha:DT X E a sa na)(hb:DW X E (.BoolOp .And (b::rest) pos) sb nb):DW X E (.BoolOp .And (a::b::rest) pos) (tAnd sa sb) (bAnd na nb):=⟨Zuk ha.p hb.p,ZwN ha.s hb.s⟩
def ZeD{rest:List Expr}(ha:DT X E a sa na)(hb:DW X E (.BoolOp .Or (b::rest) pos) sb nb):DW X E (.BoolOp .Or (a::b::rest) pos) (tOr sa sb) (bOr na nb):=⟨ZxQ ha.p hb.p,ZxM ha.s hb.s⟩
def DW.dt(h:DW X E a sa na):DT X E a sa na:=⟨h.p.pt,h.s⟩
def Zft(ha:DT X E a sa na):DT X E (.UnaryOp .Not a pos) (tNot sa) (bNot na):=⟨ZuE ha.p,ZvQ ha.s⟩
def Zpu{op}(ha:004):DE X E (.BoolOp op [a] pos) ta ma:=⟨ZvD ha.p,ha.s⟩
def Zmc{rest:List Expr}(ha:004)(hb:DE X E (.BoolOp .And (b::rest) pos) tb mb):DE X E (.BoolOp .And (a::b::rest) pos) (ZtQ ta tb) (eAnd ma mb):=⟨Zuf ha.p hb.p,Zvc ha.s hb.s⟩
def ZwH(ha:004):DE X E (.UnaryOp .Not a pos) (ZrQ ta) (eNot ma):=⟨Zwm ha.p,Zuj ha.s⟩
def Zt8(hc:DT X E c' sa na)(ha:004)(hb:DE X E b tb mb):DE X E (.IfExp c' a b pos) (tIf sa ta tb) (ife na ma mb):=⟨ZpQ hc.p ha.p hb.p,Zt7 hc.s ha.s hb.s⟩
def ZaE:DA X E 0 [] tNil yaa:=⟨ZdV,Zrp,ZoB⟩
def Zaj(ha:DE X E e te me)(hr:DA X E n es t m)(hs:011:=by rfl):DA X E (n+1) (e::es) (ZdX te t) (Zaa me m):=⟨Zck ha.p hr.p hs,ZsX ha.s hr.s,Zpc hr.n⟩
def Zxb{x1}(h:DA X E n es t m)(hn:n<=sizeLine:=by decide):DE X E (.Tuple es x1 pos) (tTup t) (mtp m):=⟨Zvd h.p,Zv1 h.s h.n hn⟩
def ZvH(h:DA X E n es t m)(hn:n<=sizeLine:=by decide):DE X E (.List es pos) (tLst t) (mls m):=⟨Zj1 h.p,Zws h.s h.n hn⟩
def ycE{id:String}{r:List V->Hp->VK->Prop}{f:List D->Res D}{p:Pos}(hc:ZdA X (.builtin id) r)(hf:CallD X.K X.mg r f)(hg:Gl X x)(hm:X.mg x=none)(hv:bootBuiltins x=some (.builtin id))(ha:DA X E n (e::es) t m)(hn:x ≠ "__name__":=by decide)(hdb:ND x:=by decide)(he:011:=by rfl)(hpl:(backTo pos (starEach es X.env)).any (·.1)=false:=by rfl):DE X E (.Call (.Name x p) (e::es) [] pos) (tCB r t) (on f m):=⟨ZkX hc hg hm hv ha.p hn hdb he hpl,Zt9 hf ha.s⟩
def ydm(hc:ZdA X (.type T) r)(hf:CallD X.K X.mg r f)(hg:Gl X x)(hm:X.mg x=none)(hv:bootBuiltins x=some (.type T))(ha:DA X E n (e::es) t m)(hn:x ≠ "__name__":=by decide)(hdb:ND x:=by decide)(he:011:=by rfl)(hpl:(backTo pos (starEach es X.env)).any (·.1)=false:=by rfl):DE X E (.Call (.Name x p) (e::es) [] pos) (tCB r t) (on f m):=⟨Zjl hc hg hm hv ha.p hn hdb he hpl,Zt9 hf ha.s⟩
structure Cal(P:Program)(w:World)(K:W.Frag)(mg:001)(base:Heap)(n:Nat)(x:Str)(ps:List Str)(m:List D->Res D):Prop where
 ex:∃(f:Addr) (fd:FuncData),FnOk P w K mg base (CXR P w) n f fd ps (spD K mg ps.length m)/\Binds K fd ps []/\W.keepIn K (.ref f)=true/\mg x=some (.ref f)
def Zd0(C:Cal X.prog X.w X.K X.mg X.base k x ps f)(hr:Room l X.A)(hn:k<=l)(hg:Gl X x)(hx:Zdg (CXR X.prog X.w) X E)(ha:DA X E n (e::es) t m)(hps:ps.length=n:=by rfl)(hdb:ND x:=by decide)(he:011:=by rfl)(hpl:(backTo pos (starEach es X.env)).any (·.1)=false:=by rfl) :
  DE X E (.Call (.Name x p) (e::es) [] pos) (Zkw (spD X.K X.mg ps.length f) [] E t) (on f m):=by
 obtain ⟨g,d,F,b,c,a⟩:=C.ex;exact ⟨ZtP F (hr.mono hn) hg a c b .nil hx ha.p hdb he hpl,by rw [hps];exact ZsS ha.s ha.n⟩
def ZvS:Zdg (CXR X.prog X.w) (Za4 X N scope cl C s H fp pn) E0:=by
 intro a σ H s e b I h;obtain ⟨_,_,_,_,_,_,_,q⟩:=h;exact q.elim
end
section
variable {a b c' tg:Expr} {ta tb tc:TE} {ma mb mc:ME} {sa sb:TT} {na nb:MB} {t:TA} {m:MA}
def Ztj:SlR X (rSlU X.K):=by
 intro c s σ H x v t p f j q Q I m g l k h;obtain ⟨a,b,rfl,i,u,o⟩:=h;by_cases hw:HT.sIx b.length 0 f=0/\HT.sIx b.length b.length j=b.length
 ·cases m;obtain ⟨e,r,n,w⟩:=I.tuple i;have d:e.toArray.size=b.length:=by rw [VaR];exact r.length.symm
  exact ⟨"tuple",_,PyProof.Rows.slot_tuple_getitem.lookup,n.typeIs,HT.ZeV n g l k (by rw [d];exact hw) ⟨.ref a,H,I,rfl,u hw⟩⟩
 ·exact ZwO c s σ H (.ref a) v t p f j q Q I m g l k ⟨a,b,rfl,i,hw,o hw⟩
def ZfU:DO X E none ZkC pno:=⟨ZsB,Zsu⟩
def ZgZ(h:004):DO X E (some a) (Zsw ta) (pso ma):=⟨Zr5 h.p,ZtU h.s⟩
def Zxn{lo hi:Option Expr}{tl th:TO}{ml mh:Ev->Res (Option Int)}{p2:Pos}(ha:004)(hl:DO X E lo tl ml)(hh:DO X E hi th mh):DE X E (.Subscript a (.Slice lo hi none p2) pos) (tSl (rSlD X.K) ta tl th) (cut ma ml mh) :=
 ⟨Zly (SlR.or Zsl Ztj) ha.p hl.p hh.p,ZwA ha.s hl.s hh.s⟩
def Zm1(ho:OpR X (compareOp op) r)(hf:OpD X.K X.mg r f)(ho':OpR X (compareOp op') r')(hg:OpD X.K X.mg r' g)(ha:004)(hb:DE X E b tb mb)(hc:DE X E c' tc mc)(hm:lastMarks [op,op'] [b,c']=false:=by with_unfolding_all rfl) :
  DE X E (.Compare a [op,op'] [b,c'] pos) (ZjT r r' ta tb tc) (chain f g ma mb mc):=⟨Zqh ho ho' ha.p hb.p hc.p (hm:=hm),ZlO hf hg ha.s hb.s hc.s⟩
def Zpr(ho:OpR X (compareOp op) r)(hf:OpD X.K X.mg r f)(ho':OpR X (compareOp op') r')(hg:OpD X.K X.mg r' g)(ha:004)(hb:DE X E b tb mb)(hc:DE X E c' tc mc)(hm:lastMarks [op,op'] [b,c']=false:=by with_unfolding_all rfl) :
  DT X E (.Compare a [op,op'] [b,c'] pos) (Zek (ZjT r r' ta tb tc)) (trb (chain f g ma mb mc)):=⟨Zp4 ho ho' ha.p hb.p hc.p (hm:=hm),Ziw (ZlO hf hg ha.s hb.s hc.s)⟩
def ZsT{n:String}(ht:Zlj d=some tn)(hn:Zlr.contains n=true):W.kitOne K (.type tn) (.type n)=some (isTy tn n):=by
 have a:n = "int"\/n = "bool"\/n = "str"\/n = "tuple"\/n = "list"\/n = "dict":=by
  simpa [Zlr] using hn
 have b:tn = "NoneType"\/tn = "bool"\/tn = "int"\/tn = "str"\/tn = "tuple"\/tn = "list":=by
  cases d<;>simp [Zlj] at ht<;>subst ht<;>simp
 rcases b with rfl | rfl | rfl | rfl | rfl | rfl<;>rcases a with rfl | rfl | rfl | rfl | rfl | rfl <;>
  first
  | exact ZoU K _
  | exact ZuM K (by decide +kernel) (by decide +kernel) (by decide +kernel)
def rIsi(K:W.Frag):List V->Hp->VK->Prop:=λd H Q=>∃x n c b,d=[x,.ty n]/\W.kitOne K (.type c) (.type n)=some b/\Q (.bl b) H /\
 ((x=.non/\c = "NoneType")\/(∃y,x=.bl y/\c = "bool")\/(∃y,x=.int y/\c = "int")\/(∃y,x=.str y/\c = "str")\/(∃a d,x=.ref a/\SqT K H a d/\c = "tuple")\/(∃a d,x=.ref a/\SqL K H a d/\c = "list"))
def ZiY:ZdA X (.builtin "isinstance") (rIsi X.K):=by
 intro d s σ H l v Q I r h;obtain ⟨x,n,t,k,rfl,e,q,h⟩:=h;obtain ⟨u,p,rfl,c,m⟩:=vals2 r;cases m;have b:∀j,EP X d σ Q (.bool k) { s with toks:=j }:=λj=>⟨.bl k,H,I.tok _,rfl,q⟩
 rcases h with ⟨rfl,rfl⟩ | ⟨y,rfl,rfl⟩ | ⟨y,rfl,rfl⟩ | ⟨y,rfl,rfl⟩ | ⟨a,l,rfl,hq,rfl⟩ | ⟨a,l,rfl,hq,rfl⟩
 ·exact Zfj I c .non e b
 ·exact Zfj I c (.bl y) e b
 ·exact Zfj I c (.int y) e b
 ·exact Zfj I c (.str y) e b
 ·cases c;obtain ⟨g,_,⟨o,f,i,_⟩,_⟩:=I.tuple hq;exact Va1 W.kitx_tuple I.kIn ⟨o,f,i⟩ e (λz=>nomatch z) b
 ·cases c;obtain ⟨g,_,⟨o,_,f,i,_⟩,_⟩:=I.list hq;exact Va1 W.kitx_list I.kIn ⟨o,f,i⟩ e (λz=>nomatch z) b
def Zj0:CallD K mg (rIsi K) bIsi:=by
 intro E F H g f s r;unfold bIsi;split
 ·next d a=>
  obtain ⟨x,y,rfl,b,c⟩:=r.two;cases c;by_cases hn:Zlr.contains a=true
  ·rw [iP hn];cases e:Zlj d with
   | none=>trivial
   | some tn=>
    have k:=ZsT (K:=K) e hn;refine .ret s (.bl _) λQ q=>⟨x,a,tn,_,rfl,k,q,?_⟩;cases b with
    | non=>cases e;exact .inl ⟨rfl,rfl⟩
    | bl y=>cases e;exact .inr (.inl ⟨y,rfl,rfl⟩)
    | int y=>cases e;exact .inr (.inr (.inl ⟨y,rfl,rfl⟩))
    | str y=>cases e;exact .inr (.inr (.inr (.inl ⟨y,rfl,rfl⟩)))
    | ty y=>cases e
    | cls y=>cases e
    | exc y h=>cases e
    | ins m h o q r=>cases e
    | tup h r=>cases e;exact .inr (.inr (.inr (.inr (.inl ⟨_,_,rfl,ZaK s h,rfl⟩))))
    | lst h r=>cases e;exact .inr (.inr (.inr (.inr (.inr ⟨_,_,rfl,s.seq h,rfl⟩))))
  ·rw [iN hn];trivial
 ·trivial
def Znh(hN:X.N.Nodup)(hi:X.N[i]?=some x)(hx:Loc X.env.scope x)(hl:i<n)(hf:013:=by first | exact .inl rfl | exact .inr rfl | assumption):DG X n (.Name x pos) (ZfB i) (gN i) :=
 ⟨ZoA hN hi hx hf,ZrP hl,λ_ _ _ h=>by cases h⟩
def Zs1:DGs X n [] gNil gs0:=⟨ZsQ,Zsm,λd ρ c h=>by
 unfold gs0 at h
 split at h<;>cases h⟩
def ZoY{t:TG}{u:TGs}{g:MG}{gs:MGs}(h1:DG X n e t g)(h2:DGs X n es u gs)(hs:(assignEach (e::es) X.env).map (·.2)=assign e X.env::(assignEach es X.env).map (·.2):=by rfl):DGs X n (e::es) (ZrL t u) (gs1 g gs) :=
 ⟨Zpz h1.p h2.p hs,ZpE h1.s h2.s,λd ρ c h=>by
  unfold gs1 at h;split at h
  ·next a b=>
   cases eg:g a ρ with
   | ok ρ'=>
    rw [eg] at h;exact h2.x b ρ' c h
   | ex c'=>exact h1.x a ρ c' eg
   | bad=>rw [eg] at h;cases h
  ·cases h⟩
def ZwK(hc:X.calm=true)(h:DGs X n es u g)(hn:(assignEach es X.env).length=j:=by rfl)(hst:(assignEach es X.env).findIdx? (·.1)=none:=by rfl):DG X n (.Tuple es k pos) (gSeq X.K j u) (gU j g):=by
 refine ⟨?_,Zva h.s,λd ρ c l=>?_⟩
 ·intro f s σ H v w Q I r hw;rcases hw with hw | hw
  ·exact Zv8 hc h.p hn hst f s σ H v w Q I r hw
  ·obtain ⟨a,m,t,B,z,hw⟩:=hw;subst t;cases r;obtain ⟨A,q,D,F⟩:=I.list B;refine ZfJ (I.ok.hd hc) D.isList (by simp [hn,<-z,q.length]) hst λE y=>?_;have C:=I.kept (t':=s.toks) λb o e=>y b o (Vai (Vaf e)) e;exact h.p f _ σ H m _ Q C (by simpa using q) hw
 ·unfold gU at l;cases ei:items d with
  | ok m=>
   rw [ei] at l;have i:(if m.length=j then g m ρ else .bad)=.ex c:=l
   split at i
   ·exact h.x m ρ c i
   ·cases i
  | ex c'=>unfold items at ei;split at ei<;>cases ei
  | bad=>rw [ei] at l;cases l
def Zbr(h:004):DI X E tg a (iSeq X.K ta) (iv ma):=by
 refine ⟨?_,Zwf h.s⟩;intro f s σ H R I m;refine thn (h.p f s σ H _ I m) λv d zq=>?_;obtain ⟨x,l,c,n,k⟩:=zq;obtain ⟨p,rfl,k⟩:=k;cases n;rcases k with ⟨⟨xs,hq⟩,q⟩ | ⟨⟨xs,hq⟩,q⟩
 ·obtain ⟨i,r,j,t⟩:=c.list hq;refine wpAny_pyIter_list j.isList ?_;refine ⟨d.heap.objs.size,[d.heap.objs.size],_,_,l,rfl,c.kept λb o e=>VaH _ e,ZnD p _,⟨_,VaM _ rfl,rfl,rfl⟩,λb g=>?_,q⟩;have e:b=d.heap.objs.size:=by simpa using g
  subst e;exact c.fpOk (VaN _) (c.hok.fresh (VaN _))
 ·obtain ⟨i,r,j,t⟩:=c.tuple hq;refine wpAny_pyIter_tuple (j) ?_;refine ⟨d.heap.objs.size,[d.heap.objs.size],_,_,l,rfl,c.kept λb o e=>VaH _ e,Zmg p _,⟨_,VaM _ rfl,rfl,rfl⟩,λb g=>?_,q⟩;have e:b=d.heap.objs.size:=by simpa using g
  subst e;exact c.fpOk (VaN _) (c.hok.fresh (VaN _))
def Zxo(hg:Gl X "range")(hm:X.mg "range"=none)(ha:DA X E n [a] t m)(hs:starEach [a] X.env=[(false,eval a X.env)]:=by rfl):DI X E tg (.Call (.Name "range" p) [a] [] pos) (ZtT t) (r1 m):=⟨ZmN hg hm ha.p hs,ZxL ha.s⟩
def Zxi(hg:Gl X "range")(hm:X.mg "range"=none)(ha:DA X E n [a,b] t m)(hs:starEach [a,b] X.env=[(false,eval a X.env),(false,eval b X.env)]:=by rfl)(hs2:starEach [b] X.env=[(false,eval b X.env)]:=by rfl) :
  DI X E tg (.Call (.Name "range" p) [a,b] [] pos) (ZsP t) (r2 m):=⟨Zox hg hm ha.p hs hs2,ZxD ha.s⟩
end
structure DTs(X:Cx)(E:XK)(ts:List Expr)(t:TT)(m:MB):Prop where
 p:PTs X ts t
 s:STt X.K X.mg E t m
section
variable {a b c' tg iter elt:Expr} {ts:List Expr} {ta tb tc:TE} {ma mb mc:ME} {sa sb:TT} {na nb:MB} {t:TA} {m:MA} {y:Str}
def ZvR:STt K mg E tYes yes:=λ_ _ _ _ _ _ r=>Ans.ret (R:=RB) r.ss rfl λ_ q=>q
def ZrW:DTs X E [] tYes yes:=⟨Ztw,ZvR⟩
def Zcj(hi:DI X E tg iter wi mi)(O:ZcR X own cap scope cl)(hc:X.calm=true)(hg:∀C s H fp pn,DG (Za4 X 005 scope cl C s H fp pn) own.length tg (g C s H fp pn) gm)(ht:∀C s H fp pn,DTs (Za4 X 005 scope cl C s H fp pn) E0 ts (tt C s H fp pn) na)(he:∀C s H fp pn,DE (Za4 X 005 scope cl C s H fp pn) E0 elt (tf C s H fp pn) me)(hts:ts.length<=1:=by decide)(hs:∀x,foldedSetIterable iter X.env x=pure x:=by intro _;rfl) :
  DE X E 012 (ZeL wi g tt tf own cap) (comp mi own.length (cap.map (·.2)) gm na me) :=
 ⟨Ztz hi.p O hc (λC s H fp pn=>(hg C s H fp pn).p) (λC s H fp pn=>(ht C s H fp pn).p) (λC s H fp pn=>(he C s H fp pn).p) hts hs,
  Zos hi.s (λC s H fp pn=>(hg C s H fp pn).s) (λC s H fp pn=>(ht C s H fp pn).s) (λC s H fp pn=>(he C s H fp pn).s)⟩
def ZiW(hN:X.N.Nodup)(hix:X.N[i]?=some x)(hx:Loc X.env.scope x)(hi:DI X E tg iter wi mi)(O:ZcR X own cap scope cl)(hc:X.calm=true)(hg:∀C s H fp pn,DG (Za4 X 005 scope cl C s H fp pn) own.length tg (g C s H fp pn) gm)(ht:∀C s H fp pn,DTs (Za4 X 005 scope cl C s H fp pn) E0 ts (tt C s H fp pn) na)(he:∀C s H fp pn,DE (Za4 X 005 scope cl C s H fp pn) E0 elt (tf C s H fp pn) me)(hts:ts.length<=1:=by decide)(hsw:swapsWith 012 (some (.Name x pos')) spos.line X.env=pure true:=by rfl)(hs:∀x,foldedSetIterable iter X.env x=pure x:=by intro _;rfl)(hf:013:=by first | exact .inl rfl | exact .inr rfl | assumption) :
  DS X E (.Assign [.Name x pos'] 012 spos) (tAsg (ZeL wi g tt tf own cap) (ZfB i)) (st i (comp mi own.length (cap.map (·.2)) gm na me)) :=
 ⟨Zl1 hN hix hx hi.p O hc (λC s H fp pn=>(hg C s H fp pn).p) (λC s H fp pn=>(ht C s H fp pn).p) (λC s H fp pn=>(he C s H fp pn).p) hts hsw hs hf,
  Zn8 (Zos hi.s (λC s H fp pn=>(hg C s H fp pn).s) (λC s H fp pn=>(ht C s H fp pn).s) (λC s H fp pn=>(he C s H fp pn).s))⟩
def Zbt(hN:X.N.Nodup)(hi:X.N[i]?=some x)(hx:Loc X.env.scope x)(he:DE X E e te me)(hs:swapsWith e (some (.Name x pos')) spos.line X.env=pure false:=by rfl)(hf:013:=by first | exact .inl rfl | exact .inr rfl | assumption) :
  DS X E (.Assign [.Name x pos'] e spos) (tAsg te (ZfB i)) (st i me):=⟨Zne hN hi hx he.p hs hf,Zn8 he.s⟩
def ZwC(he:DE X E e te me)(hg:DG X 1000 tg g gm)(hs:swapsWithSole [tg] e spos.line X.env=pure false:=by rfl)(hw:swappedStores [tg] e X.env=pure none:=by rfl)(h1:(assignEach [tg] X.env).map (·.2)=[assign tg X.env]:=by rfl):DS X E (.Assign [tg] e spos) (tAsg te g) (asg gm me):=⟨Zu8 he.p hg.p hs hw h1,ZuN he.s hg.s hg.x⟩
def Zww(he:DE X E e te me)(hs:swapsWith e none spos.line X.env=pure false:=by rfl):DS X E (.Expr e spos) (Zhz te) (drp me):=⟨ZfR he.p hs,ZsK he.s⟩
def ZaO(he:DE X E e te me):DS X E (.Return (some e) spos) (tRet te) (ret me):=⟨Zro he.p,Zul he.s⟩
def Zk1{st:Stmt}{u:TS}{k:MS}(h:DS X E st u k):DS X E st u (frz i k):=⟨h.p,Zv6 h.s⟩
def ZaB:DSs X E [] Zo3 nop:=⟨ZmC,ZvA⟩
def Zak{st:Stmt}{u:TS}{k:MS}(h:DS X E st u k):DSs X E [st] u k:=⟨ZfV h.p,h.s⟩
def Zac{st:Stmt}{rest:List Stmt}{u u':TS}{k k':MS}(h:DS X E st u k)(h':DSs X E rest u' k'):DSs X E (st::rest) (tSeq u u') (sq k k'):=⟨Zez h.p h'.p,ZuR h.s h'.s⟩
def ZbD{k:MS}(hc:DT X E c' sa na)(ha:DSs X E as u k)(hb:DSs X E bs u' k'):DS X E (.If c' as bs spos) (tIfS sa u u') (ifs na k k'):=⟨Zvn hc.p ha.p hb.p,Zx3 hc.s ha.s hb.s⟩
def ZhQ{k:MS}(hp:PassesOwn (model X.prog X.w) X.A X.env X.xe)(hc:X.calm=true)(hi:DI X E tg iter wi mi)(hg:DG X 1000 tg g gm)(hb:DSs X E body u k)(hs:∀x,foldedSetIterable iter X.env x=pure x:=by intro _;rfl):DS X E (.For tg iter body [] spos) (tFor wi g u) (for_ mi gm k):=⟨ZrA hp hc hi.p hg.p hb.p hs,ZvJ hi.s hg.s hg.x hb.s⟩
def ZmH{k:MS}(hp:PassesOwn (model X.prog X.w) X.A X.env X.xe)(hc:DT X E c' sa na)(hb:DSs X E body u k):DS X E (.While c' body [] spos) (ZlH sa u) (whl fu na k):=⟨Zqo hp hc.p hb.p,Zp2 hc.s hb.s⟩
def Zwg{kt k2 pt2}(hc:X.calm=true)(hN:X.N.Nodup)(hi:X.N[i]?=some x)(hj:X.N[j]?=some y)(hij:i≠j)(hx:X.env.scope.names.lookup x=some .local)(hy:X.env.scope.names.lookup y=some .local)(ha:004)(hb:DE X E b tb mb)(hw:swappedStores [.Tuple [.Name x px,.Name y py] kt pt] (.Tuple [a,b] k2 pt2) X.env=pure (some [x,y]):=by rfl)(hs:swapsWithSole [.Tuple [.Name x px,.Name y py] kt pt] (.Tuple [a,b] k2 pt2) spos.line X.env=pure false:=by rfl)(hs1:starEach [a,b] X.env=(false,eval a X.env)::starEach [b] X.env:=by rfl)(hs2:starEach [b] X.env=(false,eval b X.env)::starEach [] X.env:=by rfl) :
  DS X E (.Assign [.Tuple [.Name x px,.Name y py] kt pt] (.Tuple [a,b] k2 pt2) spos) (tPar i j (ZdX ta (ZdX tb tNil))) (par i j ma mb) :=
 ⟨Zvx hc hN hi hj hij hx hy (Zck ha.p (Zck hb.p ZdV hs2) hs1) hw hs,Zua ha.s hb.s⟩
end
section
variable {qual:Str} {scope:Scope} {f:Addr} {cd:Value} {outer:List Env} {s₀:Shared} {H₀:Hp} {t:TA} {m:MA}
def Zjk(hg:Gl 006 x)(hm:mg x=some 05)(hq:W.excIn K C Zfk "ValueError.__new__"=true)(ha:DA 006 E n (e::es) t m)(hn:n<=1000:=by decide)(hd:ND x:=by decide)(he:starEach (e::es) (006).env=(false,eval e (006).env)::starEach es (006).env:=by rfl)(hpl:(backTo cpos (starEach es (006).env)).any (·.1)=false:=by rfl)(hcx:clsOf x=x:=by decide +kernel)(hpx:pay x=none:=by decide +kernel) :
  DS 006 E (.Raise (some (.Call (.Name x np) (e::es) [] cpos)) none pos) (Zra E C t) (rse x m):=by
 refine ⟨Zpf hg hm hq ha.p hd he hpl,?_⟩;intro j l F H σ ρ a;refine (ha.s j l F H σ ρ a).stm a.g λi b h c o d k=>?_
 exact λD q=>⟨by rw [k.length,ha.n ρ i b];exact hn,by
  have z:=q h c C (a.g.trans d) (by rw [hcx];exact hm);rw [hpx] at z
  exact z⟩
def Zj2{F:Hp}(s:Same F H)(r:Rps K mg F vs ds):Rep K mg F H F H (start N vs) (ev0 N.length ds):=by
 have m:=r.length;have b:∀(i:Nat) (c:Cl),(ev0 N.length ds)[i]?=some c->c=.no\/∃d,ds[i]?=some d/\c=.im d:=by
  intro i c e;rw [Zi2] at e;by_cases f:i<ds.length
  ·rw [Vbc (by simpa using f),Vbd,VbL f] at e;exact .inr ⟨ds[i],VbL f,(Vac e).symm⟩
  ·rw [Vba (by simpa using f),Vbb] at e;split at e
   ·exact .inl (Vac e).symm
   ·cases e
 refine ⟨.refl s,?_,λi d e=>?_,λi g e=>?_,λi j g k a e=>?_⟩
 ·rw [Zi2];unfold start;simp [m]
 ·rcases b i _ e with z | ⟨d',e1,z⟩
  ·cases z
  ·cases z;obtain ⟨v,h,l⟩:=r.get e1;refine ⟨v,?_,l⟩;have f:=(Vaw.mp h).1;unfold start;rw [Vbc (by simpa using f),Vbd,h];rfl
 ·rcases b i _ e with z | ⟨d',e1,z⟩<;>cases z
 ·rcases b i _ e with z | ⟨d',e1,z⟩<;>cases z
def okD{st:Stmt}{mb:MS}(F:Fun K x x st f fd)(S:Zag N ps (Zad st))(h:∀(cdv:Value) (A:Around) (outer:List Env) (s:Shared) (H:Hp) (E:XK),Room k (A.deeper (envOfC x (Zad st) s.heap.objs.size f cdv))->∃t,DSs (cxOf (CXR P w) P w K mg base N x (Zad st) f cdv A outer s H E) E (Zb8 st) t mb) :
  FnOk P w K mg base (CXR P w) (k+1) f fd ps (spD K mg ps.length (fn N.length mb)):=by
 obtain ⟨V,Y,X,D,W,U,cdv,ct,T,rfl,G,m⟩:=F.ex;refine Zsa G m S (λy H Q E q=>q.1) λA outer s H y Q E J n=>?_;obtain ⟨t,o⟩:=h cdv A outer s H E J;refine ⟨t,o.p,?_⟩;obtain ⟨_,u,r,B,M,i,a,b⟩:=n;have z:=o.s u H u H (start N y) (ev0 N.length r) (Zj2 B M);unfold fn at i a b;cases e:mb (ev0 N.length r) with
 | ok fl=>
  rw [e] at z i a b;cases fl with
  | nx ρ=>exact z _ λj l I _ L=>a .non rfl j l .non L.g .non
  | rt d=>exact z _ λj l v g O=>a d rfl j l v g O
  | bk ρ=>exact aB rfl i
  | ct ρ=>exact aB rfl i
 | ex c=>
  rw [e] at z b;exact z _ λj l C g R=>b c rfl j l C g R
 | bad=>rw [e] at i;exact aB rfl i
def _root_.L2.Def.cal{st:Stmt}{mb:MS}(D:Def K mg x st ps)(S:Zag N ps (Zad st))(h:∀(f:Addr) (cdv:Value) (A:Around) (outer:List Env) (s:Shared) (H:Hp) (E:XK),Room k (A.deeper (envOfC x (Zad st) s.heap.objs.size f cdv))->∃t,DSs (cxOf (CXR P w) P w K mg base N x (Zad st) f cdv A outer s H E) E (Zb8 st) t mb) :
  Cal P w K mg base (k+1) x ps (fn N.length mb):=by
 obtain ⟨f,c,F,b,a⟩:=D.ex;exact ⟨f,c,okD F S (h f),b,F.kp,a⟩
end
def Zvt{e:Value}(h:CXR P w l H s (λ_ _ _=>False) e s'):False:=by
 obtain ⟨_,_,_,_,_,_,_,q⟩:=h;exact q
def ZqE(K:W.Frag):Sp:=λb H Q _=>∃(a:Addr) (ns:List Int),b=[.ref a]/\SqL K H a (ns.map V.int)/\ns.length<=63/\∀c,Q (.bl true) c
def ZkS:∀ns:List Int,Rps K mg H (ns.map V.int) (ns.map D.int)
 | []=>.nil
 | n::r=>.cons (.int n) (ZkS r)
def Zvs(h:∀ns:List Int,ns.length<=63->m [.lst (ns.map .int)]=.ok (.bl true)):∀vs H Q E,ZqE K vs H Q E->spD K mg 1 m vs H Q E:=by
 rintro vs H Q E ⟨a,ns,rfl,f,g,q⟩;have e:=h ns g;refine ⟨rfl,H,_,Same.refl _,.cons (.lst f (ZkS ns)) .nil,λz=>?_,λd b=>?_,λc b=>?_⟩
 ·rw [e] at z;cases z
 ·rw [e] at b;cases b;intro k i x _ j;cases j;exact q i
 ·rw [e] at b;cases b
def ZtZ(C:Cal X.prog X.w X.K X.mg X.base k x ps f)(hr:Room l X.A)(hn:k<=l)(hg:Gl (Za4 X N scope cl C' s H fp pn) x)(ha:DA (Za4 X N scope cl C' s H fp pn) E0 n (e::es) t m)(hps:ps.length=n:=by rfl)(hdb:ND x:=by decide)(he:starEach (e::es) (Za4 X N scope cl C' s H fp pn).env=(false,eval e (Za4 X N scope cl C' s H fp pn).env)::starEach es (Za4 X N scope cl C' s H fp pn).env:=by rfl)(hpl:(backTo pos (starEach es (Za4 X N scope cl C' s H fp pn).env)).any (·.1)=false:=by rfl) :
  DE (Za4 X N scope cl C' s H fp pn) E0 (.Call (.Name x p) (e::es) [] pos) (Zkw (spD X.K X.mg ps.length f) [] E0 t) (on f m) :=
 Zd0 C hr hn hg ZvS ha hps hdb he hpl
section
def all_range:∀bs:List Bool,((List.range bs.length).all λi=>bs.getD i true)=bs.all id
 | []=>rfl
 | b::r=>by
  rw [VaU,List.range_succ_eq_map,VbQ,VbR,VbQ,<-all_range r];rfl
def ZhP:∀(bs:List Bool) (its:List Value),Vals (bs.map V.bl) its->its=bs.map Value.bool
 | [],_,.nil=>rfl
 | b::r,_,.cons h t=>by
  cases h;rw [VaW,ZhP r _ t]
def rAll(K:W.Frag):List V->Hp->VK->Prop:=λb H Q=>∃(a:Addr) (bs:List Bool),b=[.ref a]/\SqL K H a (bs.map V.bl)/\Q (.bl (bs.all id)) H
def ZcA(hc:X.calm=true):ZdA X (.builtin "all") (rAll X.K):=by
 intro j s σ H x B Q I r h;obtain ⟨a,c,rfl,n,q⟩:=h;obtain ⟨u,rfl,m⟩:=vals1 r;cases m;obtain ⟨f,p,g,C⟩:=I.list n;obtain rfl:=ZhP c f p;have w:a<s.heap.objs.size:=by
  obtain ⟨o,_,l,_⟩:=g;exact Vaf l
 refine call_all_walk (wpAny_pyIter_list g.isList ?_);refine ⟨s.heap.objs.size,_,_,_,_,_,λi=>c.getD i true,rfl,Walks.list (A:=X.A.in1) (I.ok.hd hc) s.heap.objs.size a (Vai w) (c.map Value.bool).toArray,⟨⟨_,VaM _ rfl,rfl,rfl⟩,?_⟩,?_,λD E k=>?_⟩
 ·exact g.isList.at λo e=>VaH _ e
 ·intro i v F G y d t;have e:v=.bool (c.getD i true):=by
   rw [List.getElem?_toArray,Vbd] at d;cases q:c[i]? with
   | none=>rw [q] at d;cases d
   | some b=>
    rw [q] at d;cases d;rw [VbS,q];rfl
  subst e;exact VaF t
 ·have e:(List.range (c.map Value.bool).toArray.size).all (λi=>c.getD i true)=c.all id:=by
   rw [VaR,VaX];exact all_range c
  rw [e];exact ⟨.bl (c.all id),H,I.kept λb o z=>k b o (by simp;exact Vai (Vaf z)) (VaH _ z),rfl,q⟩
def ZkT{F:Hp}:∀{xs:List V} {ds:List D} {bs:List Bool},Rps K mg F xs ds->bools ds=.ok bs->xs=bs.map V.bl
 | _,_,_,.nil,e=>by cases e;rfl
 | _,_,bs,.cons (d:=d) (ds:=ds) h r,e=>by
  unfold bools at e;cases d with
  | bl b=>
   cases q:bools ds with
   | ok bs'=>
    simp only [q,Res.bind] at e;cases e;cases h;rw [VaW,ZkT r q]
   | ex c=>simp only [q,Res.bind] at e;cases e
   | bad=>simp only [q,Res.bind] at e;cases e
  | _=>cases e
def Zlk{c:Str}:∀ds:List D,bools ds≠.ex c
 | [],h=>by cases h
 | d::r,h=>by
  unfold bools at h;cases d with
  | bl b=>
   cases q:bools r with
   | ok bs'=>simp only [q,Res.bind] at h;cases h
   | ex c'=>exact Zlk r q
   | bad=>simp only [q,Res.bind] at h;cases h
  | _=>cases h
def ZcM:CallD K mg (rAll K) bAll:=by
 intro E F H g f s r;unfold bAll;split
 ·next d=>
  obtain ⟨x,rfl,b⟩:=r.one;cases d with
  | lst es=>
   cases b with
   | lst h rs=>
    show Ans mg E (Rp K mg) F H ((bools es).bind λa=>.ok (.bl (a.all id))) _;cases q:bools es with
    | ok a=>
     have e:=ZkT rs q;subst e;exact Ans.ret s (.bl _) λQ z=>⟨_,a,rfl,s.seq h,z⟩
    | ex c=>exact aB q (Zlk es)
    | bad=>trivial
  | _=>trivial
 ·trivial
def ZxB(hg:Gl X x)(hm:X.mg x=some 05)(hd:ND x:=by decide):DE X E (.Name x pos) (tC 05) (c (.cls x)):=⟨ZfX hg hm rfl hd,se_c λ_=>.cls hm⟩
structure TabOk(K:W.Frag)(mg:001)(tc:List (Str×Str×Bool))(tt:List (Str×String×Bool)):Prop where
 c:∀e∈tc,∃D C,mg e.1=some (.ref D)/\mg e.2.1=some 05/\Zhs K D/\W.kitOne K (.ref D) 05=some e.2.2
 t:∀e∈tt,∃D,mg e.1=some (.ref D)/\Zhs K D/\W.kitOne K (.ref D) (.type e.2.1)=some e.2.2
def rIsX(K:W.Frag):List V->Hp->VK->Prop:=λf H Q=>∃a D y b,f=[.ref a,y]/\(∃φ,H a=some (.ext φ)/\∀g,φ g->ExcAt a (.ref D) g)/\Zhs K D/\Q (.bl b) H /\
 ((∀u,RelV y u->W.kitOne K (.ref D) u=some b)\/∃c d,y=.ref c/\SqT K H c d/\∀e,Vals d e->W.kitAny K (.ref D) e=some b)
def Zqu:ZdA X (.builtin "isinstance") (rIsX X.K):=by
 intro b s σ H x B Q I r h;obtain ⟨a,D,y,g,rfl,d,C,q,h⟩:=h;obtain ⟨u,F,rfl,t,i⟩:=vals2 r;cases t;obtain ⟨φ,d,e⟩:=d;have ex:=e _ (I.hok a _ d).1;have c:∀f,EP X b σ Q (.bool g) { s with toks:=f }:=λf=>⟨.bl g,H,I.tok _,rfl,q⟩
 rcases h with h | ⟨tp,ys,rfl,hq,h⟩
 ·exact Va1 (ZkV C) I.kIn ex (h _ i) (λz=>nomatch z) c
 ·cases i;obtain ⟨l,v,⟨o,j,p,n,m⟩,_⟩:=I.tuple hq;obtain ⟨A,E,k,w⟩:=o;subst p m;exact W.kia_tup (ZkV C) I.kIn ex j (h _ v) (λz=>nomatch z) c
def Zrj{F:Hp}{tc:List (Str×Str×Bool)}{tt:List (Str×String×Bool)}(T:TabOk K mg tc tt){c:Str}{C:Addr}(hm:mg c=some 05){y:V}{k:D}{b:Bool}(ry:Rp K mg F y k)(e:oneX tc tt c k=.ok b) :
  Zhs K C/\∀u,RelV y u->W.kitOne K 05 u=some b:=by
 cases k with
 | cls k=>
  cases ry with
  | cls hk=>
   have e:ofO ((tc.find? λe=>e.1==c&&e.2.1==k).map (·.2.2))=.ok b:=e;cases q:tc.find? λe=>e.1==c&&e.2.1==k with
   | none=>rw [q] at e;cases e
   | some en=>
    rw [q] at e;cases e;have d:=List.find?_some q;have a:=List.mem_of_find?_eq_some q;rw [Vbo,VaS,VaS] at d;obtain ⟨j,l,f,i,g,h⟩:=T.c en a;rw [d.1,hm] at f;rw [d.2,hk] at i;cases f;cases i;exact ⟨g,λu r=>by cases r;exact h⟩
 | ty n=>
  cases ry with
  | ty=>
   have e:ofO ((tt.find? λe=>e.1==c&&e.2.1==n).map (·.2.2))=.ok b:=e;cases q:tt.find? λe=>e.1==c&&e.2.1==n with
   | none=>rw [q] at e;cases e
   | some en=>
    rw [q] at e;cases e;have d:=List.find?_some q;have a:=List.mem_of_find?_eq_some q;rw [Vbo,VaS,VaS] at d;obtain ⟨j,f,g,h⟩:=T.t en a;rw [d.1,hm] at f;cases f;exact ⟨g,λu r=>by cases r;rw [<-d.2];exact h⟩
 | _=>cases e
def Zm8{tc:List (Str×Str×Bool)}{tt:List (Str×String×Bool)}{c c':Str}(k):oneX tc tt c k≠.ex c':=by
 intro h;unfold oneX at h;split at h
 ·cases q:(tc.find? λe=>e.1==c&&e.2.1==‹Str›).map (·.2.2)<;>rw [q] at h<;>cases h
 ·cases q:(tt.find? λe=>e.1==c&&e.2.1==‹String›).map (·.2.2)<;>rw [q] at h<;>cases h
 ·cases h
def ZqZ{F:Hp}{tc:List (Str×Str×Bool)}{tt:List (Str×String×Bool)}(T:TabOk K mg tc tt){c:Str}{C:Addr}(hm:mg c=some 05):∀{ys:List V} {ks:List D} {b:Bool},Rps K mg F ys ks->anyX tc tt c ks=.ok b ->
  (ks≠[]->Zhs K C)/\∀us,Vals ys us->W.kitAny K 05 us=some b
 | _,_,b,.nil,e=>by
  cases e;exact ⟨λz=>aB rfl z,λus r=>by cases r;rfl⟩
 | _,_,b,.cons (d:=d) h r,e=>by
  unfold anyX at e;cases q:oneX tc tt c d with
  | ok b1=>
   rw [q] at e;obtain ⟨f,a⟩:=Zrj T hm h q;refine ⟨λ_=>f,λus g=>?_⟩;cases g with
   | cons r1 r2=>
    unfold W.kitAny;rw [a _ r1];cases b1 with
    | true=>cases e;rfl
    | false=>exact (ZqZ T hm r e).2 _ r2
  | ex c'=>exact aB q (Zm8 d)
  | bad=>rw [q] at e;cases e
def ZqJ{tc:List (Str×Str×Bool)}{tt:List (Str×String×Bool)}{c c':Str}:∀ks:List D,anyX tc tt c ks≠.ex c'
 | [],h=>by cases h
 | k::r,h=>by
  unfold anyX at h;cases q:oneX tc tt c k with
  | ok b1=>
   rw [q] at h;cases b1 with
   | true=>cases h
   | false=>exact ZqJ r h
  | ex c'=>exact Zm8 k q
  | bad=>rw [q] at h;cases h
def ZnU(T:TabOk K mg tc tt):CallD K mg (rIsX K) (bIsX tc tt):=by
 intro E F H p n s r;unfold bIsX;split
 ·next d k=>
  obtain ⟨x,y,rfl,l,i⟩:=r.two;cases d with
  | exc c=>
   cases l with
   | @exc _ C' a' _ hm hx0=>
    have j:=(hx0.same λb o z _=>s b o z).ext;show Ans mg E (Rp K mg) F H (askX tc tt (clsOf c) k) _;generalize clsOf c=c at hm ⊢;have h:∀a,Rp K mg F y a->askX tc tt c a=(oneX tc tt c a).bind (λb=>.ok (.bl b))->Ans mg E (Rp K mg) F H (askX tc tt c a) (rIsX K [.ref a',y] H):=by
     intro a m e;rw [e];cases q:oneX tc tt c a with
     | ok b=>
      obtain ⟨g,f⟩:=Zrj T hm m q;exact Ans.ret s (.bl _) λQ z=>⟨_,_,y,b,rfl,j,g,z,.inl f⟩
     | ex c'=>exact aB q (Zm8 a)
     | bad=>trivial
    cases k with
    | tup ks=>
     cases i with
     | tup hq rq=>
      cases ks with
      | nil=>trivial
      | cons k0 kr=>
       show Ans mg E (Rp K mg) F H ((anyX tc tt c (k0::kr)).bind λb=>.ok (.bl b)) _;cases q:anyX tc tt c (k0::kr) with
       | ok b=>
        obtain ⟨g,f⟩:=ZqZ T hm rq q;exact Ans.ret s (.bl _) λQ z=>⟨_,_,_,b,rfl,j,g 03,z,.inr ⟨_,_,rfl,ZaK s hq,f⟩⟩
       | ex c'=>exact aB q (ZqJ _)
       | bad=>trivial
    | _=>exact h _ i rfl
  | _=>trivial
 ·trivial
end
section
variable {F:Hp}
def Rep.unset(r:Rep K mg F0 H0 F H σ ρ)(i):Rep K mg F0 H0 F H (σ.set i none) (ρ.set i .no):=by
 refine ⟨r.g,by rw [VbI,VbI];exact r.len,λj e q=>?_,λj d q=>?_,λj k d l a c b f h=>?_⟩
 ·rcases ZaM q with ⟨_,z,_⟩ | ⟨hij,q⟩
  ·cases z
  ·rw [Zbh hij];exact r.im j e q
 ·rcases ZaM q with ⟨_,z,_⟩ | ⟨hij,q⟩
  ·cases z
  ·rw [Zbh hij];exact r.ow j d q
 ·rcases ZaM c with ⟨_,z,_⟩ | ⟨h1,c⟩
  ·cases z
  ·rcases ZaM b with ⟨_,z,_⟩ | ⟨h2,b⟩
   ·cases z
   ·rw [Zbh h1] at f;rw [Zbh h2] at h;exact r.ne j k d l a c b f h
def Zwq(ha:SA K mg E0 t m)(hn:∀ρ ds,m ρ=.ok ds->ds.length=n)(hh:∀c∈hits,∀C,mg c=some 05->hit 05)(hb:∀a,SS K mg E0 (u a) b):SS K mg E (tTry (spD K mg n f) hit i u t) (try_ f m hits i b):=by
 intro w y F H σ ρ N;have h:=ha w y F H σ ρ N;unfold try_;cases e:m ρ with
 | ex c=>trivial
 | bad=>trivial
 | ok ds=>
  rw [e] at h;show AnsS K mg E w y F (ZhH hits i b ρ (f ds)) _;cases ef:f ds with
  | bad=>trivial
  | ok d=>
   exact λD q=>h _ λO Z Y B M=>⟨by rw [M.length];exact hn ρ ds e,O,ds,B.s,M,(by rw [ef];intro z;cases z),(λX _ k l x R _=>q k l σ (B.trans R).f (N.gr (B.trans R))),λc z=>by rw [ef] at z;cases z⟩
  | ex c=>
   show AnsS K mg E w y F (if hits.contains (clsOf c)=true then endT i (b (ρ.set i (.im (.exc c)))) else .bad) _
   by_cases hc:hits.contains (clsOf c)=true
   ·rw [iP hc];have p:∀D,(∀a k l j,Same F k->Rep K mg w y k l j (ρ.set i (.im (.exc c)))->u a (offI i D) j l)->tTry (spD K mg n f) hit i u t D σ H:=by
     intro D q;refine h _ λO Z Y B M=>⟨by rw [M.length];exact hn ρ ds e,O,ds,B.s,M,(by rw [ef];intro z;cases z),(λX z=>by rw [ef] at z;cases z),λT z F2 H2 C U P=>?_⟩;rw [ef] at z;cases z;refine ⟨hh (clsOf c) (by simpa using hc) C P,λx d W S=>?_⟩;have g:=B.trans U;obtain ⟨r,Q,xc⟩:=Zv0 g.s W S;exact q x _ _ _ (g.f.trans Q.f) (((N.gr g).gr Q).set i (.exc P xc))
    have L:=λ(a:Addr) k l j (o:Rep K mg w y k l j (ρ.set i (.im (.exc c))))=>hb a w y k l j _ o;cases es:b (ρ.set i (.im (.exc c))) with
    | ok fl=>
     rw [es] at L;cases fl with
     | nx ρ2=>exact λD q=>p D λa k l j A o=>L a k l j o _ λr v I G J=>q r v _ (A.trans G) (J.unset i)
     | bk ρ2=>exact λD q=>p D λa k l j A o=>L a k l j o _ λr v I G J=>q r v _ (A.trans G) (J.unset i)
     | ct ρ2=>exact λD q=>p D λa k l j A o=>L a k l j o _ λr v I G J=>q r v _ (A.trans G) (J.unset i)
     | rt d=>exact λD q=>p D λa k l j A o=>L a k l j o _ λr v x g3 V=>q r v x g3 V
    | ex T=>trivial
    | bad=>trivial
   ·rw [iN hc];trivial
end
section
variable {l:Nat} {y n:Str} {Cy:Addr} {f:List D->Res D} {t:TA} {m:MA} {u:Addr->TS} {b:MS} {p yp epos hpos:Pos} {b₀:Stmt} {suite:List Stmt} {hits:List Str}
def Zvj(hst:X.stack=X.env::X.outer)(hfr:X.env.frame=some X.env.locals)(C:Cal X.prog X.w X.K X.mg X.base k x ps f)(hr:Room l X.A)(hn:k<=l)(hg:Gl X x)(ha:DA X.nox E0 j (e::es) t m)(hgy:Gl X y)(hmy:X.mg y=some (.ref Cy))(hh:∀c∈hits,∃D,X.mg c=some (.ref D)/\W.exmOne X.K (.ref D) (.ref Cy)=some true)(hN:X.N.Nodup)(hi:X.N[i]?=some n)(hlo:X.env.kindOf n=some .local)(hnl:X.env.scope.names.lookup n=some .local)(hs:∀a,DSs (X.inX a) E0 (b₀::suite) (u a) b)(hps:ps.length=j:=by rfl)(hdb:ND x:=by decide)(hdy:ND y:=by decide)(hsw:swapsWith (.Call (.Name x p) (e::es) [] cpos) none epos.line X.env=pure false:=by rfl)(he:011:=by rfl)(hpl:(backTo cpos (starEach es X.env)).any (·.1)=false:=by rfl) :
  DS X E (.Try [.Expr (.Call (.Name x p) (e::es) [] cpos) epos] [.ExceptHandler (some (.Name y yp)) (some n) (b₀::suite) hpos] [] [] pos) (tTry (spD X.K X.mg ps.length f) (λcls=>W.exmOne X.K cls (.ref Cy)=some true) i u t) (try_ f m hits i b):=by
 obtain ⟨G,H,F,g,v,r⟩:=C;refine ⟨Zu1 hst hfr (F.mono hn) hr hg r v g ha.p hgy hmy hN hi hlo hnl (λa=>(hs a).p) hdb hdy hsw he hpl,?_⟩;refine Zwq ha.s (λρ o z=>by rw [hps];exact ha.n ρ o z) (λc h D B=>?_) λa=>(hs a).s;obtain ⟨I,d,q⟩:=hh c h;rw [B] at d;cases d;exact q
end
section
def Zdi:∀(ns:List Int) (its:List Value),Vals (ns.map V.int) its->∃xs:List (Int×Tok),its=xs.map (λp=>Value.int p.1 p.2)/\xs.map (·.1)=ns
 | [],_,.nil=>⟨[],rfl,rfl⟩
 | n::r,_,.cons h t=>by
  obtain ⟨a,rfl⟩:=h;obtain ⟨xs,rfl,rfl⟩:=Zdi r _ t;exact ⟨(n,a)::xs,rfl,rfl⟩
def Zfd(xs:List (Int×Tok)):(xs.map (λp=>Value.int p.1 p.2)).toArray=intItems xs.toArray:=by simp [intItems]
def Znj:∀(r:List Int) (n:Int),n<=r.foldl max n/\(∀a∈r,a<=r.foldl max n)/\(r.foldl max n=n\/r.foldl max n∈r)
 | [],n=>⟨Int.le_refl _,(λ_ h=>aB h VbT),.inl rfl⟩
 | a::r,n=>by
  obtain ⟨c,f,d⟩:=Znj r (max n a);refine ⟨Int.le_trans (Int.le_max_left n a) c,λb hb=>?_,?_⟩
  ·rcases Vat.mp hb with rfl | hb
   ·exact Int.le_trans (Int.le_max_right n b) c
   ·exact f b hb
  ·show r.foldl max (max n a)=n\/r.foldl max (max n a)∈a::r;rcases d with e | e
   ·rw [e];rcases Int.le_total n a with z | z
    ·rw [Int.max_eq_right z];exact .inr Vaq
    ·rw [Int.max_eq_left z];exact .inl rfl
   ·exact .inr (Var _ e)
def Zny:∀(r:List Int) (n:Int),r.foldl min n<=n/\(∀a∈r,r.foldl min n<=a)/\(r.foldl min n=n\/r.foldl min n∈r)
 | [],n=>⟨Int.le_refl _,(λ_ h=>aB h VbT),.inl rfl⟩
 | a::r,n=>by
  obtain ⟨c,f,d⟩:=Zny r (min n a);refine ⟨Int.le_trans c (Int.min_le_left n a),λb hb=>?_,?_⟩
  ·rcases Vat.mp hb with rfl | hb
   ·exact Int.le_trans c (Int.min_le_right n b)
   ·exact f b hb
  ·show r.foldl min (min n a)=n\/r.foldl min (min n a)∈a::r;rcases d with e | e
   ·rw [e];rcases Int.le_total n a with z | z
    ·rw [Int.min_eq_left z];exact .inl rfl
    ·rw [Int.min_eq_right z];exact .inr Vaq
   ·exact .inr (Var _ e)
def Zuh(K:W.Frag):List V->Hp->VK->Prop:=λb H Q=>∃a n r,b=[.ref a]/\SqL K H a ((n::r).map V.int)/\Q (.int (r.foldl max n)) H
def Zug(K:W.Frag):List V->Hp->VK->Prop:=λb H Q=>∃a n r,b=[.ref a]/\SqL K H a ((n::r).map V.int)/\Q (.int (r.foldl min n)) H
def Zm2(xs:List (Int×Tok))(h:i<xs.length):numAt xs.toArray i∈xs.map (·.1):=by
 unfold numAt;rw [List.getElem?_toArray,VbL h];exact Vbw.mpr ⟨xs[i],VbU h,rfl⟩
def Zrc(xs:List (Int×Tok))(h:a∈xs.map (·.1)):∃i,i<xs.length/\a=numAt xs.toArray i:=by
 obtain ⟨p,c,rfl⟩:=Vbw.mp h;obtain ⟨i,b,rfl⟩:=VbV.mp c;refine ⟨i,b,?_⟩;unfold numAt;rw [List.getElem?_toArray,VbL b];rfl
def ZmK(hc:X.calm=true):ZdA X (.builtin "max") (Zuh X.K):=by
 intro g s σ H R S Q I r h;obtain ⟨a,n,l,rfl,y,q⟩:=h;obtain ⟨u,rfl,G⟩:=vals1 r;cases G;obtain ⟨o,A,B,T⟩:=I.list y;obtain ⟨c,rfl,f⟩:=Zdi _ _ A;have d:=B.isList;rw [Zfd] at d;have E:c.length=l.length+1:=by rw [<-VaX,f];rfl
 refine max_intList (I.ok.hd hc) d (by simp;omega) λv U O J k=>?_;obtain ⟨t,rfl⟩:=intItems_at J;obtain ⟨L,F⟩:=argBest_gt (numAt c.toArray) (c.toArray.size - 1);generalize hM:argBest (λi j=>decide (numAt c.toArray i>numAt c.toArray j)) (c.toArray.size - 1)=M at *;have P:c.toArray.size=c.length:=by simp
 have w:numAt c.toArray M∈n::l:=by rw [<-f];exact Zm2 c 000
 have x:∀b∈n::l,b<=numAt c.toArray M:=λb m=>by
  rw [<-f] at m;obtain ⟨i,N,rfl⟩:=Zrc c m;exact F i 000
 obtain ⟨D,p,C⟩:=Znj l n;have e:numAt c.toArray M=l.foldl max n:=by
  refine Int.le_antisymm ?_ ?_
  ·rcases Vat.mp w with z | z
   ·rw [z];exact D
   ·exact p _ z
  ·refine x _ ?_;rcases C with z | z
   ·rw [z];exact Vaq
   ·exact Var _ z
 exact ⟨.int (l.foldl max n),H,I.kept k,⟨t,by rw [e]⟩,q⟩
def ZmV(hc:X.calm=true):ZdA X (.builtin "min") (Zug X.K):=by
 intro g s σ H R S Q I r h;obtain ⟨a,n,l,rfl,y,q⟩:=h;obtain ⟨u,rfl,G⟩:=vals1 r;cases G;obtain ⟨o,A,B,T⟩:=I.list y;obtain ⟨c,rfl,f⟩:=Zdi _ _ A;have d:=B.isList;rw [Zfd] at d;have E:c.length=l.length+1:=by rw [<-VaX,f];rfl
 refine min_intList (I.ok.hd hc) d (by simp;omega) λv U O J k=>?_;obtain ⟨t,rfl⟩:=intItems_at J;obtain ⟨L,F⟩:=argBest_lt (numAt c.toArray) (c.toArray.size - 1);generalize hM:argBest (λi j=>decide (numAt c.toArray i<numAt c.toArray j)) (c.toArray.size - 1)=M at *;have P:c.toArray.size=c.length:=by simp
 have w:numAt c.toArray M∈n::l:=by rw [<-f];exact Zm2 c 000
 have x:∀b∈n::l,numAt c.toArray M<=b:=λb m=>by
  rw [<-f] at m;obtain ⟨i,N,rfl⟩:=Zrc c m;exact F i 000
 obtain ⟨D,p,C⟩:=Zny l n;have e:numAt c.toArray M=l.foldl min n:=by
  refine Int.le_antisymm ?_ ?_
  ·refine x _ ?_;rcases C with z | z
   ·rw [z];exact Vaq
   ·exact Var _ z
  ·rcases Vat.mp w with z | z
   ·rw [z];exact D
   ·exact p _ z
 exact ⟨.int (l.foldl min n),H,I.kept k,⟨t,by rw [e]⟩,q⟩
def Zkj{F:Hp}:∀{xs:List V} {ds:List D} {ns:List Int},Rps K mg F xs ds->Zen ds=.ok ns->xs=ns.map V.int
 | _,_,_,.nil,e=>by cases e;rfl
 | _,_,ns,.cons (d:=d) (ds:=ds) h r,e=>by
  unfold Zen at e;cases d with
  | int b=>
   cases q:Zen ds with
   | ok bs'=>
    simp only [q,Res.bind] at e;cases e;cases h;rw [VaW,Zkj r q]
   | ex c=>simp only [q,Res.bind] at e;cases e
   | bad=>simp only [q,Res.bind] at e;cases e
  | _=>cases e
def Zkq{c:Str}:∀ds:List D,Zen ds≠.ex c
 | [],h=>by cases h
 | d::r,h=>by
  unfold Zen at h;cases d with
  | int b=>
   cases q:Zen r with
   | ok bs'=>simp only [q,Res.bind] at h;cases h
   | ex c'=>exact Zkq r q
   | bad=>simp only [q,Res.bind] at h;cases h
  | _=>cases h
def Zmo:CallD K mg (Zuh K) ZjN:=by
 intro E F H f b s r;unfold ZjN;split
 ·next d=>
  obtain ⟨x,rfl,a⟩:=r.one;cases d with
  | lst es=>
   cases a with
   | lst h rs=>
    show Ans mg E (Rp K mg) F H ((Zen es).bind maxI) _;cases q:Zen es with
    | ok ns=>
     have e:=Zkj rs q;subst e;cases ns with
     | nil=>trivial
     | cons n l=>exact Ans.ret s (.int _) λQ z=>⟨_,n,l,rfl,s.seq h,z⟩
    | ex c=>exact aB q (Zkq es)
    | bad=>trivial
  | _=>trivial
 ·trivial
def Zmb:CallD K mg (Zug K) Zjy:=by
 intro E F H f b s r;unfold Zjy;split
 ·next d=>
  obtain ⟨x,rfl,a⟩:=r.one;cases d with
  | lst es=>
   cases a with
   | lst h rs=>
    show Ans mg E (Rp K mg) F H ((Zen es).bind minI) _;cases q:Zen es with
    | ok ns=>
     have e:=Zkj rs q;subst e;cases ns with
     | nil=>trivial
     | cons n l=>exact Ans.ret s (.int _) λQ z=>⟨_,n,l,rfl,s.seq h,z⟩
    | ex c=>exact aB q (Zkq es)
    | bad=>trivial
  | _=>trivial
 ·trivial
end
section
def Ztg(ha:SA K mg E t m)(hl:SAn n m)(hn:n<=sizeLine):SS K mg E (tAsg (tLst t) (ZfB i)) (stO i (mls m)):=by
 intro o r F H σ ρ a;have h:=ha o r F H σ ρ a;unfold stO mls;cases e:m ρ with
 | ok ds=>
  rw [e] at h;exact λD q=>h _ λb d s g j=>⟨by rw [j.length,hl ρ ds e];exact hn,λp k=>q b _ _ g.f ((a.gr g).own i k j)⟩
 | ex c=>
  rw [e] at h;exact λD q=>h _ λb d C g l=>q b d C (a.g.trans g) l
 | bad=>trivial
end
section
variable {a b c' tg iter elt:Expr} {ts:List Expr} {ta tb tc:TE} {ma mb mc:ME} {sa sb:TT} {na nb:MB} {t:TA} {m:MA} {y:Str}
def Zto(hN:X.N.Nodup)(hi:X.N[i]?=some x)(hx:Loc X.env.scope x)(ha:DA X E n es t m)(hn:n<=sizeLine:=by decide)(hs:swapsWith (.List es pos) (some (.Name x pos')) spos.line X.env=pure false:=by rfl)(hf:013:=by first | exact .inl rfl | exact .inr rfl | assumption) :
  DS X E (.Assign [.Name x pos'] (.List es pos) spos) (tAsg (tLst t) (ZfB i)) (stO i (mls m)):=⟨Zne hN hi hx (Zj1 ha.p) hs hf,Ztg ha.s ha.n hn⟩
def ZnQ(i)(he:DE X E e te me)(hN:X.N[i]?=some x:=by rfl)(hv:Vis X.env.scope x:=by first | exact Or.inl rfl | exact Or.inr (Or.inl rfl) | exact Or.inr (Or.inr rfl))(hd:ND x:=by decide)(hcd:NE x:=by decide)(hbase:attributeBase (.Name x np) "append" X.env (eval (.Name x np) X.env)=eval (.Name x np) X.env:=by rfl) (hfew:((backTo cpos (starEach [e] X.env)).all (λx=>!x.1)&&(backToKw cpos (keywordEach [] X.env)).all (λx=>x.1.isSome)
   && decide ([e].length+([]:List Keyword).length+(if ([]:List Keyword).isEmpty then 0 else 1)<30))=true:=by rfl) (hline:(apos.endLine==cpos.line)=true:=by rfl) (hs:starEach [e] X.env=(false,eval e X.env)::starEach [] X.env:=by rfl) (hplain:(backTo cpos (starEach [] X.env)).any (·.1)=false:=by rfl) (hsw:swapsWith (.Call (.Attribute (.Name x np) "append" apos) [e] [] cpos) none spos.line X.env=pure false:=by rfl) :
  DS X E (.Expr (.Call (.Attribute (.Name x np) "append" apos) [e] [] cpos) spos) (Zhz (tBM X.K "list" Zd6 (tVar i) (ZdX te tNil))) (app i me) :=
 ⟨ZfR (Zpd PySem.F.plainAttrs_list PySem.F.slot_list_append PySem.F.type_list_append ZgG (ZdT hN hv hd hcd) (Zck he.p ZdV hs) hbase hfew hline hs hplain) hsw,
  ZuZ he.s λH a b h=>.inl ⟨rfl,b,SqL.of h⟩⟩
end
end L2.Ds
namespace L2.Ds
open Dl
section
def del(F:Hp)(a:Addr):Hp:=λb=>if b=a then none else F b
def Zg4{F:Hp}:del F a a=none:=iP rfl
def ZeG{F:Hp}(h:b≠a):del F a b=F b:=iN h
def ZqC{F:Hp}(h:del F a b=some o):F b=some o:=by
 by_cases hb:b=a
 ·subst hb;rw [Zg4] at h;cases h
 ·rw [ZeG hb] at h;exact h
def Rep.look{F:Hp}(r:Rep K mg F0 H0 F H σ ρ)(e:ρ[i]?=some (.ow ds)) :
  ∃F',Rep K mg F0 H0 F' H σ (ρ.set i (.im (.lst ds)))/\∀F1 H1,Gr F' H F1 H1->∃F2,Gr F H F2 H1:=by
 obtain ⟨a,t,p,D,v,w,A⟩:=r.ow i ds e;have h:Same F (upd F a (.lst t)):=ZaV v _;refine ⟨upd F a (.lst t),⟨⟨r.g.f.trans h,λb o q=>?_,λb o d c=>?_,λb o u q=>r.g.z b o u (ZgC (λ_ _ z=>by cases z) q)⟩,by rw [VbI];exact r.len,λj u q=>?_,λj l q=>?_,λj k l E b d c G J=>?_⟩,λF1 H1 g=>⟨del F1 a,⟨λb o q=>?_,λb o q=>?_,λb o d c=>?_,λb o u q=>ZgC (λ_ _ z=>by cases z) (g.z b o u (ZqC q))⟩⟩⟩
 ·by_cases hb:b=a
  ·subst hb;rw [Zah] at q;cases q;exact w
  ·rw [Zaf hb] at q;exact r.g.s b o q
 ·rw [Zaf (Zai c D)];exact r.g.o b o d c
 ·rcases ZaM q with ⟨rfl,z,_⟩ | ⟨_,q⟩
  ·cases z;exact ⟨.ref a,p,.lst (SqL.of Zah) (A.same h)⟩
  ·obtain ⟨x,m,n⟩:=r.im j u q;exact ⟨x,m,n.same h⟩
 ·rcases ZaM q with ⟨_,z,_⟩ | ⟨hij,q⟩
  ·cases z
  ·obtain ⟨b,L,m,n,y,B,C⟩:=r.ow j l q;have I:b≠a:=by
    rintro rfl;exact hij (r.ne i j ds l b e q p m)
   exact ⟨b,L,m,n,by rw [Zaf I];exact y,B,C.same h⟩
 ·rcases ZaM d with ⟨_,z,_⟩ | ⟨_,d⟩
  ·cases z
  ·rcases ZaM c with ⟨_,z,_⟩ | ⟨_,c⟩
   ·cases z
   ·exact r.ne j k l E b d c G J
 ·rw [ZeG (Zai q v)];exact g.f b o (h b o q)
 ·by_cases hb:b=a
  ·subst hb;rw [Zg4] at q;cases q
  ·rw [ZeG hb] at q;exact g.s b o q
 ·by_cases hb:b=a
  ·subst hb;rw [w] at c;cases c;exact ⟨Zg4,g.s _ _ (g.f _ _ Zah)⟩
  ·rw [ZeG hb];exact g.o b o (by rw [Zaf hb];exact d) c
def Zxt(i)(h:STt K mg E t m):STt K mg E t (pkB i m):=by
 intro u w F H σ ρ o;unfold pkB getO;split
 ·next n e=>
  obtain ⟨p,s,a⟩:=o.look e;have z:=h u w p H σ _ s;show Ans mg E RB F H (m (ρ.set i (.im (.lst n)))) _;cases em:m (ρ.set i (.im (.lst n))) with
  | ok d=>
   rw [em] at z;exact λQ q=>z Q λl f b k v=>by
    obtain ⟨g,j⟩:=a l f k;exact q g f b j v
  | ex c=>
   rw [em] at z;exact λQ q=>z Q λl f C k r=>by
    obtain ⟨g,j⟩:=a l f k;exact q g f C j r
  | bad=>trivial
 ·trivial
end
section
variable {l:Nat} {y:Str} {Cy:Addr} {f:List D->Res D} {t:TA} {m:MA} {u:Addr->TS} {b:MS} {p yp epos hpos:Pos} {b₀:Stmt} {suite:List Stmt} {hits:List Str} {tt:TT} {mt:MB}
def Zw2(i)(h:DT X E e tt mt):DT X E e tt (pkB i mt):=⟨h.p,Zxt i h.s⟩
end
section
mutual
def Zrt(I:09){x:V}{d d':PyData}(h:DV X.K H x d)(h':DV X.K H x d'):d=d':=by
 cases h with
 | non=>cases h';rfl
 | bl _=>cases h';rfl
 | int _=>cases h';rfl
 | str _=>cases h';rfl
 | tup h q=>
  cases h' with
  | tup h' q'=>
   have e:=I.tuple_inj h h';subst e;rw [Zkt I q q']
  | lst h' q'=>
   obtain ⟨_,_,⟨o,c,f,_⟩,_⟩:=I.tuple h;obtain ⟨_,_,⟨g,_,b,a,_⟩,_⟩:=I.list h';rw [c] at b;cases b;rw [f] at a;simp at a
 | lst h q=>
  cases h' with
  | lst h' q'=>
   have e:=I.list_inj h h';subst e;rw [Zkt I q q']
  | tup h' q'=>
   obtain ⟨_,_,⟨o,c,f,_⟩,_⟩:=I.tuple h';obtain ⟨_,_,⟨g,_,b,a,_⟩,_⟩:=I.list h;rw [c] at b;cases b;rw [f] at a;simp at a
def Zkt(I:09){xs:List V}{ds ds':List PyData}(h:DVs X.K H xs ds)(h':DVs X.K H xs ds'):ds=ds':=by
 cases h with
 | nil=>cases h';rfl
 | cons h r=>
  cases h' with
  | cons h' r'=>rw [Zrt I h h',Zkt I r r']
end
def hitE(X:Cx)(H:Hp)(dx:PyData)(u:Value):Bool:=@decide (∃y d,RelV y u/\DV X.K H y d/\PyData.eqv d dx=true) (Classical.propDecidable _)
def ZkL(I:09){d:PyData}(r:RelV y u)(h:DV X.K H y d):hitE X H dx u=PyData.eqv d dx:=by
 unfold hitE;cases e:PyData.eqv d dx with
 | true=>exact @Vbr _ (Classical.propDecidable _) ⟨y,d,r,h,e⟩
 | false=>
  refine @Vad _ (Classical.propDecidable _) ?_;rintro ⟨g,i,a,c,f⟩;have b:=r.inj a;subst b;rw [Zrt I h c,f] at e;cases e
def Zg8(I:09):∀{ys:List V} {its:List Value} {ds:List PyData},Vals ys its->DVs X.K H ys ds->its.any (hitE X H dx)=ds.any λd=>PyData.eqv d dx
 | _,_,_,.nil,.nil=>rfl
 | _,_,_,.cons r1 r2,.cons h1 h2=>by rw [List.any_cons,List.any_cons,Zg8 I r2 h2,ZkL I r1 h1]
def Znz(I:09):∀{ys:List V} {its:List Value} {ds:List PyData} {u:Value},Vals ys its->DVs X.K H ys ds->PyData.canLayAll0 ds=true->u∈its->∃y d,RelV y u/\DV X.K H y d/\d.canLay0=true
 | _,_,_,_,.nil,.nil,_,hu=>by cases hu
 | _,_,_,u,.cons r1 r2,.cons h1 h2,hc,hu=>by
  have a:=(by simpa [PyData.canLayAll0] using hc);rcases Vat.mp hu with rfl | hu
  ·exact ⟨_,_,r1,h1,a.1⟩
  ·exact Znz I r2 h2 a.2 hu
def rInD(K:W.Frag)(f:Bool->Bool):R2:=λx y H Q=>∃a e c b,y=.ref a/\(SqL K H a e\/SqT K H a e)/\DV K H x c/\DVs K H e b/\c.canLay0=true/\PyData.canLayAll0 b=true/\c.depth<=50/\Q (.bl (f (b.any λd=>PyData.eqv d c))) H
end
section
def ZuB(hu:X.A.units+64<cLine):OpR X (compareOp .In) (rInD X.K id):=by
 intro k s σ H x y v u Q I t w h;obtain ⟨a,z,c,g,rfl,hq,r,j,E,F,M,q⟩:=h;cases w;obtain ⟨C,J⟩:=r.reads I t;have n:∀{b:List Value},Vals z b->∀u,u∈b.toArray->PySem.SeqAt.EqAt X.A.in1 s u v (hitE X H c u):=λ{b} f u L=>by
  obtain ⟨N,G,m,l,p⟩:=Znz I f j F (by simpa using L);obtain ⟨o,D⟩:=l.reads I m;rw [ZkL I m l];exact PySem.SeqAt.eqAt_reads G c X.A.in1 s u v o C D J p E (by show X.A.units+1+_<_;omega)
 rcases hq with hq | hq
 ·obtain ⟨b,f,i,B⟩:=I.list hq;refine PySem.SeqAt.in_listAt (hitE X H c) i.isList (n f) ?_;have e:b.toArray.any (hitE X H c)=g.any λd=>PyData.eqv d c:=by rw [List.any_toArray];exact Zg8 I f j
  rw [e];exact ⟨.bl _,H,I,rfl,q⟩
 ·obtain ⟨b,f,i,B⟩:=I.tuple hq;refine PySem.SeqAt.in_tupleAt (hitE X H c) (i) (n f) ?_;have e:b.toArray.any (hitE X H c)=g.any λd=>PyData.eqv d c:=by rw [List.any_toArray];exact Zg8 I f j
  rw [e];exact ⟨.bl _,H,I,rfl,q⟩
def ZoG(hu:X.A.units+64<cLine):OpR X (compareOp .NotIn) (rInD X.K not):=by
 intro k s σ H x y v u Q I t w h;obtain ⟨a,z,c,g,rfl,hq,r,j,E,F,M,q⟩:=h;cases w;obtain ⟨C,J⟩:=r.reads I t;have n:∀{b:List Value},Vals z b->∀u,u∈b.toArray->PySem.SeqAt.EqAt X.A.in1 s u v (hitE X H c u):=λ{b} f u L=>by
  obtain ⟨N,G,m,l,p⟩:=Znz I f j F (by simpa using L);obtain ⟨o,D⟩:=l.reads I m;rw [ZkL I m l];exact PySem.SeqAt.eqAt_reads G c X.A.in1 s u v o C D J p E (by show X.A.units+1+_<_;omega)
 rcases hq with hq | hq
 ·obtain ⟨b,f,i,B⟩:=I.list hq;refine PySem.SeqAt.notIn_listAt (hitE X H c) i.isList (n f) ?_;have e:b.toArray.any (hitE X H c)=g.any λd=>PyData.eqv d c:=by rw [List.any_toArray];exact Zg8 I f j
  rw [e];exact ⟨.bl _,H,I,rfl,q⟩
 ·obtain ⟨b,f,i,B⟩:=I.tuple hq;refine PySem.SeqAt.notIn_tupleAt (hitE X H c) (i) (n f) ?_;have e:b.toArray.any (hitE X H c)=g.any λd=>PyData.eqv d c:=by rw [List.any_toArray];exact Zg8 I f j
  rw [e];exact ⟨.bl _,H,I,rfl,q⟩
def ZqQ(x)(k)(hx:Dl.plain k x=true):∀ys l,Dl.ZaR l ys=true->((pyDs ys).any λd=>PyData.eqv d (pyD x))=inD x ys
 | [],_,_=>rfl
 | y::r,l,h=>by
  have a:Dl.plain l y=true/\Dl.ZaR l r=true:=by simpa [Dl.ZaR] using h
  show (PyData.eqv (pyD y) (pyD x)||(pyDs r).any _)=(eqD y x||inD x r);rw [ZqQ x k hx r l a.2,<-Zlp y x l k a.1 hx]
def ZnC{F:Hp}{x:V}(s:Same F H)(rx:Rp K mg F x dx)(ry:Rp K mg F y dy) :
  Ans mg E (Rp K mg) F H ((seqD dy).bind λys=>if Dl.plain 50 dx&&Dl.ZaR 50 ys then .ok (.bl (f (inD dx ys))) else .bad) (rInD K f x y H):=by
 have b:∀a c ys,y=.ref a->(SqL K H a c\/SqT K H a c)->Rps K mg F c ys->Ans mg E (Rp K mg) F H (if Dl.plain 50 dx&&Dl.ZaR 50 ys then .ok (.bl (f (inD dx ys))) else .bad) (rInD K f x y H):=by
  rintro a c ys rfl e j;by_cases hp:(Dl.plain 50 dx&&Dl.ZaR 50 ys)=true
  ·rw [iP hp];rw [Vbo] at hp;obtain ⟨i,d⟩:=Zeu dx 50 hp.1;obtain ⟨g,_⟩:=Zfm ys 50 hp.2;refine Ans.ret s (.bl _) λQ q=>⟨a,c,pyD dx,pyDs ys,rfl,e,ZfK s (Zl5 rx hp.1),Zgo s (Ziy j hp.2),i,g,d,?_⟩;rw [ZqQ dx 50 hp.1 ys 50 hp.2];exact q
  ·rw [iN hp];trivial
 cases dy with
 | lst ys=>
  cases ry with
  | lst h r=>exact b _ _ ys rfl (.inl (s.seq h)) r
 | tup ys=>
  cases ry with
  | tup h r=>exact b _ _ ys rfl (.inr (ZaK s h)) r
 | _=>trivial
def Zvm:OpD K mg (rInD K id) dIn:=λ_ _ _ _ _ _ _ s a b=>ZnC (f:=id) s a b
def Znr:OpD K mg (rInD K not) dNin:=λ_ _ _ _ _ _ _ s a b=>ZnC (f:=not) s a b
variable{a b:Expr}{ta tb:TE}{ma mb:ME}
def Zv7(hr:Room k X.A)(ha:004)(hb:DE X E b tb mb)(hm:behindInMarks .NotIn b=false:=by rfl):DE X E (.Compare a [.NotIn] [b] pos) (tOp (rInD X.K not) ta tb) (o2 dNin ma mb):=Zmj (ZoG hr.units) Znr ha hb hm
def Zsg(hr:Room k X.A)(ha:004)(hb:DE X E b tb mb)(hm:behindInMarks .In b=false:=by rfl):DT X E (.Compare a [.In] [b] pos) (Zek (tOp (rInD X.K id) ta tb)) (trb (o2 dIn ma mb)):=Zfr (ZuB hr.units) Zvm ha hb hm
def Znf(hr:Room k X.A)(ha:004)(hb:DE X E b tb mb)(hm:behindInMarks .NotIn b=false:=by rfl):DT X E (.Compare a [.NotIn] [b] pos) (Zek (tOp (rInD X.K not) ta tb)) (trb (o2 dNin ma mb)):=Zfr (ZoG hr.units) Znr ha hb hm
end
end L2.Ds
namespace Dl
def Zfq(f g h:D->D->Res D)(a b d e:ME):ME:=λρ=>(a ρ).bind λx=>(b ρ).bind λy=>(f x y).bind λz=>(tru z).bind λb=>if b=true then (d ρ).bind λu=>(g y u).bind λz=>(tru z).bind λb=>if b=true then (e ρ).bind λw=>h u w else .ok (.bl false) else .ok (.bl false)
end Dl
namespace L2.Ds
open PySem.Calls Dl
def GTup(K:W.Frag)(mg:001)(x:Str)(ns:List Int):Prop:=∃a o b n,mg x=some (.ref a)/\K.lookup a=some o/\o.cls=.type "tuple"/\o.data=.seq b n/\b.size<=sizeLine/\Vals (ns.map V.int) b.toList
def Zj7{F:Hp}:∀ns:List Int,Rps K mg F (ns.map V.int) (ns.map D.int)
 | []=>.nil
 | n::r=>.cons (.int n) (Zj7 r)
section
variable {a b c tg:Expr} {t:TA} {m:MA} {tb:TE} {mb:ME} {p lpos:Pos}
def Zrv{ns:List Int}{A:Addr}{o:Obj}{its:Array Value}(hg:Gl X x)(hm:X.mg x=some (.ref A))(h1:X.K.lookup A=some o)(h2:o.cls=.type "tuple")(h3:o.data=.seq its n)(h4:its.size<=sizeLine)(h5:Vals (ns.map V.int) its.toList)(hd:ND x:=by decide) :
  DE X E (.Name x pos) (tC (.ref A)) (Dl.c (.tup (ns.map .int))):=⟨ZfX hg hm rfl hd,se_c λ_=>.tup (.inr ⟨o,its,n,h1,h2,h3,h4,h5⟩) (Zj7 ns)⟩
end
end L2.Ds
namespace L2.Ds
open PySem.Calls Dl
section
variable {a b c d o:Expr} {ta tb tc td to:TE} {ma mb mc md mo:ME} {apos:Pos}
def Zhd(r r' r'':R2)(ta tb tc td:TE):TE:=λσ H Q=>ta σ H λx g=>tb σ g λy e=>r x y e λz a=>∃k,z=.bl k /\
 (if k=true then tc σ a λb j=>r' y b j λh c=>∃d,h=.bl d/\(if d=true then td σ c λf i=>r'' b f i Q else Q (.bl false) c) else Q (.bl false) a)
def Znn(ho:OpR X (compareOp op) r)(ho':OpR X (compareOp op') r')(ho'':OpR X (compareOp op'') r'')(ha:PE X a ta)(hb:PE X b tb)(hc:PE X c tc)(hd:PE X d td)(hm:lastMarks [op,op',op''] [b,c,d]=false:=by with_unfolding_all rfl):PT X (.Compare a [op,op',op''] [b,c,d] pos) (Zek (Zhd r r' r'' ta tb tc td)):=by
 intro f s σ H Q I h
 refine isTrue_chain (thn (ha f s σ H _ I h) λv V zq=>?_) hm;obtain ⟨x,H1,I1,r1,q1⟩:=zq;refine test_link (thn (hb f V σ H1 _ I1 q1) λu Z zq=>?_);obtain ⟨y,C,D,w,B⟩:=zq;refine thn (ho f Z σ C x y v u _ D r1 w B) λd E zq=>?_;obtain ⟨z,t,n,P,k,e,l⟩:=zq
 subst e;cases P;refine Vay ?_;cases k with
 | false=>
  obtain ⟨k',g,i⟩:=l;cases g;exact ite_ff ⟨t,n,i⟩
 | true=>
  refine ite_tt (test_link (thn (hc f E σ t _ n l) λq K zq=>?_));obtain ⟨j,H4,I4,p,S⟩:=zq;refine thn (ho' f K σ H4 y j u q _ I4 w p S) λd' J zq=>?_;obtain ⟨z2,m,o,N,W,G,A⟩:=zq;subst G;cases N;refine Vay ?_;cases W with
  | false=>
   obtain ⟨k',g,i⟩:=A;cases g;exact ite_ff ⟨m,o,i⟩
  | true=>
   refine ite_tt (test_last (thn (hd f J σ m _ o A) λU L zq=>?_));obtain ⟨F,R,O,r6,M⟩:=zq;refine thn (ho'' f L σ R j F q U _ O p r6 M) λd2 s7 zq=>?_;obtain ⟨z4,T,I7,Y,k3,e3,q7⟩:=zq;subst e3;cases Y;exact Vay ⟨T,I7,q7⟩
def Zj8(hf:OpD K mg r f)(hg:OpD K mg r' g)(hh:OpD K mg r'' h)(ha:SE K mg E ta ma)(hb:SE K mg E tb mb)(hc:SE K mg E tc mc)(hd:SE K mg E td md):SE K mg E (Zhd r r' r'' ta tb tc td) (Zfq f g h ma mb mc md):=by
 intro i j F H σ ρ v;refine (ha i j F H σ ρ v).bind λX C x W O U=>?_;refine (hb i j X C σ ρ (v.gr O)).bind λV R y e n M=>?_;refine (hf E V R x y W e n.s (U.same n.f) M).bind λJ N z m D p=>?_;cases m with
 | bl b=>
  cases p;show Ans mg E (Rp K mg) J N (if b=true then (mc ρ).bind λu=>(g e u).bind λz=>(tru z).bind λb=>if b=true then (md ρ).bind λw=>h u w else .ok (.bl false) else .ok (.bl false)) _
  have L:=(v.gr O).gr (n.trans D);cases b with
  | true=>
   rw [iP rfl];have w:=(hc i j J N σ ρ L).bind (k:=λu=>(g e u).bind λz=>(tru z).bind λb=>if b=true then (md ρ).bind λw=>h u w else .ok (.bl false)) (w':=λu C Q=>r' y u C λS a=>∃P,S=.bl P/\(if P=true then td σ a λA o=>r'' u A o Q else Q (.bl false) a)) λT Y u l B G=>by
    refine (hg E T Y y u e l B.s (M.same (D.f.trans B.f)) G).bind (R':=Rp K mg) λI a z m t p=>?_;cases m with
    | bl b=>
     cases p;show Ans mg E (Rp K mg) I a (if b=true then (md ρ).bind λw=>h l w else .ok (.bl false)) _
     cases b with
     | true=>
      rw [iP rfl];have w:=(hd i j I a σ ρ (L.gr (B.trans t))).bind λF6 o A dw g6 rw=>hh E F6 o u A l dw g6.s (G.same (t.f.trans g6.f)) rw;generalize ((md ρ).bind λw=>h l w)=res at w;cases res with
      | ok d=>exact λQ q=>⟨true,rfl,by simp only [Vbi];exact w Q q⟩
      | ex c=>exact λQ q=>⟨true,rfl,by simp only [Vbi];exact w Q q⟩
      | bad=>trivial
     | false=>
      rw [iN VaJ];exact .ret t.s (.bl false) λQ q=>⟨false,rfl,by simp only [VbF,Vbh];exact q⟩
    | _=>trivial
   generalize ((mc ρ).bind λu=>(g e u).bind λz=>(tru z).bind λb=>if b=true then (md ρ).bind λw=>h u w else .ok (.bl false))=res at w
   cases res with
   | ok d=>exact λQ q=>⟨true,rfl,by simp only [Vbi];exact w Q q⟩
   | ex c=>exact λQ q=>⟨true,rfl,by simp only [Vbi];exact w Q q⟩
   | bad=>trivial
  | false=>
   rw [iN VaJ];exact .ret D.s (.bl false) λQ q=>⟨false,rfl,by simp only [VbF,Vbh];exact q⟩
 | _=>trivial
def ZnN(ho:OpR X (compareOp op) r)(hf:OpD X.K X.mg r f)(ho':OpR X (compareOp op') r')(hg:OpD X.K X.mg r' g)(ho'':OpR X (compareOp op'') r'')(hh:OpD X.K X.mg r'' h)(ha:004)(hb:DE X E b tb mb)(hc:DE X E c tc mc)(hd:DE X E d td md)(hm:lastMarks [op,op',op''] [b,c,d]=false:=by with_unfolding_all rfl) :
  DT X E (.Compare a [op,op',op''] [b,c,d] pos) (Zek (Zhd r r' r'' ta tb tc td)) (trb (Zfq f g h ma mb mc md)):=⟨Znn ho ho' ho'' ha.p hb.p hc.p hd.p (hm:=hm),Ziw (Zj8 hf hg hh ha.s hb.s hc.s hd.s)⟩
end
end L2.Ds
namespace Dl
def Zcm(it:MI)(own:Nat)(cap:01)(g:MG)(t:MB)(e:ME):ME:=λρ=>(it ρ).bind λa=>
 if a.length<=LIM then (Zaz g t e (noA own (ybu ρ cap)) a).bind λb=>.ok (.lst b) else .bad
end Dl
namespace L2
section
variable{M:Model} {E:Value->Shared->Prop} {B:Heap} {env cenv:Env} {outer l:List Env} {L e:Addr} {cls a0 fl:Value}
def ZhU{h h' B':Heap}(sB:∀b o,B'.get? b=some o->B.get? b=some o)(k:∀b o,b≠C->h.get? b=some o->h'.get? b=some o):∀{l:List Env},C∉frs l->h.FunFrames B l->h'.FunFrames B' l
 | [],_,_=>trivial
 | v::r,hC,⟨h1,⟨L,o,h2,h3,h4,h5⟩,h6⟩=>by
  have a:L≠C/\C∉frs r:=by
   unfold frs at hC ⊢;rw [Vap,h2] at hC;exact ⟨λz=>hC (z▸Vaq),λz=>hC (Var _ z)⟩
  refine ⟨h1,⟨L,o,h2,?_,k L o a.1 h4,h5⟩,ZhU sB k a.2 h6⟩;cases q:B'.get? L with
  | none=>rfl
  | some u=>rw [sB L u q] at h3;cases h3
def Zf8(hfr:A.frames=some (env::outer))(hf:env.frame=some L)(hkb:B.StaysIn s.heap)(hen:B.get? e=none)(hl:s.heap.FunFrames B (env::outer))(ht:s.heap.TracedAtW B e cls a0 fl)(hQ:∀h',Heap.FlyingW B outer e cls a0 h'->s.heap.UpToSlots h'->Q () { s with heap:=h' }):wpAny M A (leaving env (.ref e)) Q E s:=by
 by_cases hfl:fl=rawInt L
 ·subst hfl;refine VaD (wpAny_noteFrame_againW hf ht ?_);refine wpAny_landsW ⟨hkb,hen,hl,ht⟩ λh' l v=>?_;obtain ⟨w,F,⟨_,_,H⟩,D⟩:=l;exact hQ h' ⟨w,F,H,D⟩ v
 ·obtain ⟨J,u,T,K,I,t,⟨i,G⟩,n,p,j,m,k,f,r⟩:=ht;subst i;have a:∀b,b≠T->(s.heap.update T (Obj.mapFields (·.setIfInBounds 3 Value.none))).get? b=s.heap.get? b:=λb d=>Vbq _ _ (Ne.symm d);have h:∀b o,s.heap.get? b=some o->(∀u,o.data≠.fields u)->b≠T:=λb o d c q=>by
   rw [q,k] at d;cases d;exact c I f
  unfold leaving noteFrame;simp only [hf];refine VaD (VaD (Vbj t n p ?_));refine VaD (Vbj k f r ?_);rw [iN (by simpa using hfl)];refine VaD (VbW k f (Vby.mp r).1 ?_);refine wpAny_newEntryW hfr (hl.of_keeps λb o d c=>⟨o,(a b (h b o d c)).trans d,rfl⟩) hf ((a e (Ne.symm m)).trans t) (λb o g=>(a b λq=>by rw [q,j] at g;cases g).trans (hkb b o g)) hen n (Vby.mp p).1 G λh' x=>?_;obtain ⟨l,⟨_,_,C⟩,z,y⟩:=x;exact hQ h' ⟨l,hen,C,z⟩ λb o d c=>y b o ((a b (h b o d c)).trans d) c
def Zdf(hfr:A.frames=some (env::outer))(hf:env.frame=some L)(hkb:B.StaysIn s.heap)(hen:B.get? e=none)(hl:s.heap.FunFrames B (env::outer))(ht:s.heap.TracedAtW B e cls a0 fl)(hQ:∀h',Heap.FlyingW B outer e cls a0 h'->s.heap.UpToSlots h'->KD s.heap h'->Q () { s with heap:=h' }):wpAny M A (leaving env (.ref e)) Q E s :=
 Vax (Ze9 (ZeA _ _) (Zf8 (Q:=λ_ c=>∃h',c={ s with heap:=h' }/\Heap.FlyingW B outer e cls a0 h'/\s.heap.UpToSlots h') hfr hf hkb hen hl ht λh' b a=>⟨h',rfl,b,a⟩))
  (λ_ _ ⟨⟨h',z,b,a⟩,d⟩=>by subst z;exact hQ h' b a d) λ_ _ z=>z.1
def ZgJ(hkb:B.StaysIn s.heap)(hl:s.heap.FunFrames B l)(ht:s.heap.TracedAtW B e cls a0 fl)(h:∀h' fl',B.StaysIn h'->h'.FunFrames B l->h'.TracedAtW B e cls a0 fl'->(∀b o,s.heap.get? b=some o->(∀vs,o.data≠.fields vs)->h'.get? b=some o)->KD s.heap h'->E (.ref e) { s with heap:=h' }) :
  wpAny M A (PySem.passOn what (.ref e) cenv:Sem Value) (λ_ _=>False) E s:=by
 obtain ⟨y,vs,T,z,x,r,j,p,t,k,n,u,g,w⟩:=ht;have v:=(Vby.mp w).1;have a:∀b,b≠T->(s.heap.update T (Obj.mapFields (·.setIfInBounds 3 (cenv.frame.elim Value.none λf=>rawInt f)))).get? b=s.heap.get? b:=λb d=>Vbq _ _ (Ne.symm d);have m:∀b o,s.heap.get? b=some o->(∀vs,o.data≠.fields vs)->b≠T:=λb o d c q=>by
  rw [q,u] at d;cases d;exact c x g
 refine VaD (Vbj r p t ?_);refine VaD ?_;refine VaD (Vbj r p t ?_);refine VbW u g v ?_;refine wpAny_throw ?_;refine h _ (cenv.frame.elim Value.none λf=>rawInt f) (λb o i=>(a b λq=>by rw [q,k] at i;cases i).trans (hkb b o i)) (hl.of_keeps λb o d c=>⟨o,(a b (m b o d c)).trans d,rfl⟩) ?_ (λb o d c=>(a b (m b o d c)).trans d) (KD.update _ _ (Zh4 00 _));exact ⟨y,vs,T,_,_,(a e (Ne.symm n)).trans r,j,p,t,k,n,VbX _ u (Obj.isFreed_of_fields (VbY g _)),VbY g _,by simp [v]⟩
end
structure FlyA(ff:Value)(P:Program)(w:World)(l:List Env)(H H':Hp)(s s':Shared)(x:Addr)(cls:Value):Prop where
 os:s'.os=s.os
 bare:AllBare s'.gens
 un:Un (frs l) [] H H' s.heap s'.heap
 hok:HOk P w H' s'.heap
 frf:∀b∈frs l,H' b=none
 free:H' x=none
 ex:∃(B:Heap) (a0:Value),(B.StaysIn s'.heap/\B.get? x=none/\s'.heap.FunFrames B l/\s'.heap.TracedAtW B x cls a0 ff)/\∀b o,s'.heap.get? b=some o->(H' b≠none\/∃o',s.heap.get? b=some o')->b∉frs l->B.get? b=some o
def CXA(P:Program)(w:World):CXT:=λa H s E e d=>∃x b p c f,e=.ref x/\FlyA f P w a H c s d x b/\ZiK p x c s.heap d.heap/\E b p c
def CXR.a{e:Value}(h:CXR P w l H s E e s'):CXA P w l H s E e s':=by
 obtain ⟨x,b,p,d,rfl,F,c,q⟩:=h;exact ⟨x,b,p,d,.none,rfl,⟨F.os,F.bare,F.un,F.hok,F.frf,F.free,F.ex⟩,c,q⟩
def ZpR{E:Value->Shared->Prop}{e:Addr}(hfr:A.frames=some (env::outer))(hf:env.frame=some L)(hkb:B.StaysIn s.heap)(hen:B.get? e=none)(hl:s.heap.FunFrames B (env::outer))(ht:s.heap.TracedAtW B e cls a0 fl)(hQ:∀h',Heap.HeldW B (env::outer) e cls a0 L h'->s.heap.UpToSlots h'->KD s.heap h'->Q () { s with heap:=h' }):wpAny M A (noteFrame (.ref e) env) Q E s:=by
 refine Vax (Ze9 (Zid _ _) (Q:=λ_ C=>∃h',C={ s with heap:=h' }/\Heap.HeldW B (env::outer) e cls a0 L h'/\s.heap.UpToSlots h') ?_) (λ_ _ ⟨⟨h',z,j,m⟩,G⟩=>by subst z;exact hQ h' j m G) λ_ _ z=>z.1
 by_cases hfl:fl=rawInt L
 ·subst hfl;exact wpAny_noteFrame_againW hf ht ⟨s.heap,rfl,⟨hkb,hen,hl,ht⟩,λb o z _=>⟨o.slots,z⟩⟩
 ·obtain ⟨I,v,T,H,D,t,⟨h,w⟩,r,u,k,n,l,f,p⟩:=ht;subst h;have a:∀b,b≠T->(s.heap.update T (Obj.mapFields (·.setIfInBounds 3 Value.none))).get? b=s.heap.get? b:=λb d=>Vbq _ _ (Ne.symm d);have i:∀b o,s.heap.get? b=some o->(∀v,o.data≠.fields v)->b≠T:=λb o d c q=>by
   rw [q,l] at d;cases d;exact c D f
  unfold noteFrame;simp only [hf];refine VaD (Vbj t r u ?_);refine VaD (Vbj l f p ?_);rw [iN (by simpa using hfl)];refine VaD (VbW l f (Vby.mp p).1 ?_);refine wpAny_entryW hfr (hl.of_keeps λb o d c=>⟨o,(a b (i b o d c)).trans d,rfl⟩) hf ((a e (Ne.symm n)).trans t) (λb o g=>(a b λq=>by rw [q,k] at g;cases g).trans (hkb b o g)) hen r (Vby.mp u).1 w λh' x=>?_;obtain ⟨j,m,F,y⟩:=x;exact ⟨h',rfl,⟨j,hen,m,F⟩,λb o d c=>y b o ((a b (i b o d c)).trans d) c⟩
def Zoq{s':Shared}{x:Addr}{B h':Heap}(os:s'.os=s.os)(bare:AllBare s'.gens)(un:Un (frs l) [] H H' s.heap s'.heap)(hok:HOk P w H' s'.heap)(frf:∀b∈frs l,H' b=none)(nf:∀b∈frs l,∃o,s'.heap.get? b=some o/\∀vs,o.data≠.fields vs)(cov:∀b o,s'.heap.get? b=some o->(H' b≠none\/∃o',s.heap.get? b=some o')->b∉frs l->B.get? b=some o)(sub:∀b∈frs l',b∈frs l)(new:∀b∈frs l,b∉frs l'->s.heap.get? b=none)(fl:B.StaysIn h'/\B.get? x=none/\h'.FunFrames B l'/\h'.TracedAtW B x cls a0 ff)(sm:∀b∈frs l,∀o,s'.heap.get? b=some o->(∀vs,o.data≠.fields vs)->∃sl,h'.get? b=some { o with slots:=sl })(free:H' x=none) :
  FlyA ff P w l' H H' s { s' with heap:=h' } x cls:=by
 have d:=λb o e q hb=>fl.1 b o (cov b o e q hb);have f:∀{b:Addr} {o:Obj},s.heap.get? b=some o->b∉frs l'->b∉frs l:=λ{b o} e hb z=>by
  rw [new b z hb] at e;cases e
 refine ⟨os,bare,⟨λb o e n hb j=>?_,λb o e n hb j=>?_,un.free,λb o e j=>?_,un.tups,un.frzs,un.tbls⟩,λa o e=>?_,λb hb=>frf b (sub b hb),free,B,a0,fl,λb o e q hb=>?_⟩
 ·exact d b o (un.keep b o e n (f e hb) j) (.inr ⟨o,e⟩) (f e hb)
 ·obtain ⟨sl,q⟩:=un.slot b o e n (sub b hb) j;obtain ⟨g,h,m⟩:=nf b (sub b hb);rw [q] at h;cases h;obtain ⟨i,k⟩:=sm b (sub b hb) _ q m;exact ⟨i,k⟩
 ·obtain ⟨o',q⟩:=un.there b o e j;by_cases hb:b∈frs l
  ·obtain ⟨g,h,m⟩:=nf b hb;obtain ⟨i,k⟩:=sm b hb _ h m;exact ⟨_,k⟩
  ·exact ⟨o',d b o' q (.inr ⟨o,e⟩) hb⟩
 ·refine (hok a o e).stay (λb u hb q=>?_) (λ_ q=>q) λ_ _ q=>q;have r:H' b≠none:=by
   rcases hb with rfl | hb
   ·rw [e];simp
   ·rw [hb];simp
  exact d b u q (.inl r) λz=>r (frf b z)
 ·have p:b∉frs l:=by
   intro z;rcases q with q | ⟨o',q⟩
   ·exact q (frf b z)
   ·exact f q hb z
  have ⟨g,h⟩ : ∃g,s'.heap.get? b=some g:=by
   rcases q with q | ⟨o',q⟩
   ·cases z:H' b with
    | none=>exact aB z q
    | some u=>exact (hok b u z).there
   ·exact un.there b o' q 03
  have c:=cov b g h q p;have z:=fl.1 b g c;have t:=e;rw [t] at z;cases z;exact c
def xfE(E:XK)(X:Cx):Addr->Shared->Hp->List Addr->Value->Shared->Prop:=λC s H d e c=>∃b a,a.os=s.os/\Un (frs X.stack) d H b s.heap a.heap/\(∃m,a.heap.Ns C m)/\b C=none/\CXA X.prog X.w X.stack b a E e c
def ZrV:Zdg (CXR X.prog X.w) (Zay (xfE E X) X N scope cl C s H fp pn) E:=by
 intro b σ f c e g I h;obtain ⟨m,d,_⟩:=I.loc;exact ⟨f,c,I.os,I.base,⟨m,d⟩,I.free,h.a⟩
section
variable {s7:Shared} {fp:List Addr} {scope:Scope} {cells:List (Str×Addr)} {C:Addr} {e acc:Value} {use:Option (Value->Sem Unit)} {Q:Value->Shared->Prop}
def Un.strip(u:Un fs ex H H1 h h1)(n:∀b∈ex,h.get? b=none\/b∈ex'):Un fs ex' H H1 h h1:=by
 have c:∀{b:Addr} {o:Obj},h.get? b=some o->b∉ex'->b∉ex:=λ{b o} e q z=>by
  rcases n b z with z | z
  ·rw [z] at e;cases e
  ·exact q z
 exact ⟨λb o e a d q=>u.keep b o e a d (c e q),λb o e a d q=>u.slot b o e a d (c e q),λb o e a q=>u.free b o e a (c e q),λb o e q=>u.there b o e (c e q),u.tups,u.frzs,u.tbls⟩
def Un.hide(u:Un fs ex H H1 h h1)(n:h.get? C=none):Un fs ex H H1 h (W.hideAll h1 [C]):=by
 have f:∀{b:Addr} {o:Obj},h.get? b=some o->b∉[C]:=λ{b o} e z=>by rw [VbZ.mp z,n] at e;cases e
 exact ⟨λb o e c a d=>Vaj _ (u.keep b o e c a d) (f e),λb o e c a d=>(u.slot b o e c a d).imp λ_ z=>Vaj _ z (f e),u.free,λb o e q=>(u.there b o e q).imp λ_ z=>Vaj _ z (f e),u.tups,u.frzs,u.tbls⟩
def Un.ofHide(u:Un fs ex H H1 h h1):Un fs ex H H1 (W.hideAll h l) h1 :=
 ⟨λb o e=>u.keep b o (Vak _ e),λb o e=>u.slot b o (Vak _ e),λb o e=>u.free b o (Vak _ e),λb o e=>u.there b o (Vak _ e),u.tups,u.frzs,u.tbls⟩
def Zp8{env0:Env}(hst:X.stack=env0::outer0)(hfr:env0.frame=some L0)(hf0:X.env.frame=some L0)(I:09)(hC:s.heap.objs.size<=C)(h:xfE E X C s H fp e s7)(K:∀s',(∃H6 s6,s6.os=s.os/\Un (frs X.stack) fp H H6 s.heap s6.heap/\CXA X.prog X.w X.stack H6 s6 E e s')->X.xe e s') :
  notedBy (model X.prog X.w) X.A (compEnvC scope cells C X.env) (λe s'=>compPost (model X.prog X.w) X.A X.xe use Q acc C (.error e) s') e s7:=by
 obtain ⟨H6,s6,os6,un6,⟨m,oc,es,ep,ho,L,hk⟩,fC,x,O,p,H',ff,rfl,F,py,q⟩:=h;obtain ⟨B,a0,⟨fl1,fl2,fl3,fl4⟩,cov⟩:=F.ex;have v:C∉frs X.stack:=λz=>by
  rcases Vat.mp (I.stkSub C z) with q | q
  ·exact aB (Vag I.lt hC) (by rw [q];exact Vah _)
  ·exact I.nofs hC q
 have C7:=F.un.keep C oc ho fC v 03;have nC7:=F.un.free C oc ho fC 03;have C0:=Vas hC;have ns7:s7.heap.Ns C m:=⟨oc,es,ep,C7,L,hk⟩;have en:noteFrame (.ref x) (compEnvC scope cells C X.env)=noteFrame (.ref x) env0:=by
  unfold noteFrame PySem.frameOf;rw [show (compEnvC scope cells C X.env).frame=env0.frame from hf0.trans hfr.symm]
 show wpAny _ _ (noteFrame (.ref x) (compEnvC scope cells C X.env)) _ _ s7;rw [en];refine ZpR (by rw [<-hst];exact I.ok.frames) hfr fl1 fl2 (by rw [<-hst];exact fl3) fl4 λh8 S k kd8=>?_;obtain ⟨k1,k2,k3,k4⟩:=S;refine ⟨m,k.ns ns7,λh9 sb cenv' _=>?_⟩;have a:=λb o R z=>sb.extBut b o R z;obtain ⟨sl8,C8⟩:=k C oc C7 λvs z=>by rw [L] at z;cases z
 have y:∀{b:Addr} {o:Obj} {vs:Array Value},h8.get? b=some o->o.data=.fields vs->b≠C:=λ{b o vs} j g z3=>by
  rw [z3,C8] at j;cases j;have U:=g;rw [L] at U;cases U
 have c:∀b o,(W.hideAll B [C]).get? b=some o->B.get? b=some o:=λb o z=>Vak _ z;have t:∀b o,(W.hideAll B [C]).get? b=some o->b≠C:=λb o j g=>by
  rw [g,Van [C] 03] at j;cases j
 have t9:h9.TracedAtW (W.hideAll B [C]) x O a0 (rawInt L0):=by
  obtain ⟨oe,vs,T,oT,ts,he,hc,L,h1,hnT,hTe,hT,Z,h3⟩:=k4;refine ⟨oe,vs,T,oT,ts,a _ _ (y he L) he,hc,L,h1,?_,hTe,a _ _ (y hT Z) hT,Z,h3⟩;cases z:(W.hideAll B [C]).get? T with
  | none=>rfl
  | some u=>rw [c _ _ z] at hnT;cases hnT
 have st9:=λb o z=>a b o (t b o z) (k1 b o (c b o z));have en9:(W.hideAll B [C]).get? x=none:=by
  cases z:(W.hideAll B [C]).get? x with
  | none=>rfl
  | some u=>rw [c _ _ z] at k2;cases k2
 have f9:=ZhU c a v (by rw [hst];exact k3);refine ZgJ st9 f9 t9 λh10 fl' Y f10 P r l=>?_;obtain ⟨o8,J,_⟩:=Heap.TracedAtW.there k4;have x9:=a x o8 (let ⟨oe,vs,_,_,_,he,_,hd',_⟩:=k4;y (vs:=vs) J (by rw [he] at J;cases J;exact hd')) J;obtain ⟨M,i,_⟩:=P.there;refine K _ ⟨H6,{ s6 with heap:=W.hideAll s6.heap [C] },os6,un6.hide C0,x,O,p,H',fl',rfl,?_,⟨λe=>?_,λn e=>?_⟩,q⟩
 ·refine Zoq (s:={ s6 with heap:=W.hideAll s6.heap [C] }) (s':=s7) F.os F.bare F.un.ofHide F.hok F.frf (λb R=>(fl3.mem R).2) (λb o j g z3=>?_) (λ_ z=>z) (λb h1 h2=>aB h1 h2) ⟨Y,en9,f10,P⟩ (λb R o j g=>?_) F.free
  ·have nb:b≠C:=by
    rintro rfl;rcases g with g | ⟨o',g⟩
    ·exact g nC7
    ·rw [show (W.hideAll s6.heap [b]).get? b=none from Van [b] 03] at g;cases g
   exact Vaj _ (cov b o j (g.imp id λ⟨o',z⟩=>⟨o',Vak _ z⟩) z3) (by simpa using nb)
  ·have nb:b≠C:=λz=>v (z▸R);obtain ⟨sl,w8⟩:=k b o j g;exact ⟨sl,r b _ (a b _ nb w8) g⟩
 ·obtain ⟨ox,vs,e1,q1,q2⟩:=py.1 e;obtain ⟨G,q3,q4⟩:=((kd8.at e1 J).trans (l.at x9 i)).f vs q1;exact ⟨M,G,i,q3,q4.trans q2⟩
 ·obtain ⟨ox,d,m',e1,e2,e3,e4,e5,e6,e7,e8⟩:=py.2 n e;have nd:d≠C:=λz=>by rw [z,ho] at e6;cases e6
  obtain ⟨od,N,V,hod,D,rd⟩:=e3;have ndf:∀{o:Obj},o.data=.dict N V->∀vs,o.data≠.fields vs:=λz vs q=>by rw [z] at q;cases q
  obtain ⟨sl8,d8⟩:=k d od hod (ndf D);have d10:=r d _ (a d _ nd d8) (ndf D);have sk:=(kd8.at e1 J).trans (l.at x9 i);refine ⟨M,d,m',i,sk.d.trans e2,⟨_,N,V,d10,D,rd⟩,e4,e5,?_,e7,λz=>?_⟩
  rotate_left
  ·obtain ⟨vs,q1,q2⟩:=e8 z;obtain ⟨G,q3,q4⟩:=sk.f vs q1;exact ⟨G,q3,q4.trans q2⟩
  ·cases z:(W.hideAll s6.heap [C]).get? d with
   | none=>rfl
   | some o=>rw [Vak _ z] at e6;cases e6
end
section
variable {own:List Str} {cap:List (Str×Nat)} {scope:Scope} {cl:List (Str×Addr)} {fp:List Addr} {tg:Expr} {J:It} {it:Addr} {tn:Nat->Heap->Prop}
structure Zg2(X:Cx)(E:XK):Prop where
 hst:X.stack=X.env::X.outer
 hfr:X.env.frame=some X.env.locals
 hex:X.ex=[]
 hxe:X.xe=λe s'=>wX X (leaving X.env e) (λ_ s''=>CXR X.prog X.w X.outer X.H₀ X.s₀ E e s'') (λe' s''=>CXR X.prog X.w X.outer X.H₀ X.s₀ E e' s'') s'
structure BlkX(X:Cx)(E:XK):Prop where
 ex:∃(env0:Env) (outer0:List Env) (L0:Addr),X.stack=env0::outer0/\env0.frame=some L0/\X.env.frame=some L0
 pass:∀{pins:List (Addr×Obj)} {σ:St} {H:Hp} {s:Shared} {fp:List Addr} {e:Value} {s':Shared},Inv X pins σ H s->(∀a∈fp,FpOk X pins H a)->(∃H6 s6,s6.os=s.os/\Un (frs X.stack) fp H H6 s.heap s6.heap/\CXA X.prog X.w X.stack H6 s6 E e s')->X.xe e s'
def BlkX.out(b:BlkX X E){e:Value}(I:09)(f2:∀a∈fp,FpOk X pins H a)(hC:s.heap.objs.size<=C)(h:xfE E X C s H fp e s7) :
  notedBy (model X.prog X.w) X.A (compEnvC scope cells C X.env) (λe s'=>compPost (model X.prog X.w) X.A X.xe use Q acc C (.error e) s') e s7:=by
 obtain ⟨d,c,j,g,i,f⟩:=b.ex;exact Zp8 g i f I hC h λs' h=>b.pass I f2 h
def Zg2.blk(b:Zg2 X E):BlkX X E:=by
 refine ⟨⟨_,_,_,b.hst,b.hfr,b.hfr⟩,λ{C σ H s Z e R} I S h=>?_⟩;have i:=λa Q=>(S a Q).2.2.2.1.resolve_left λq=>by rw [b.hex] at q;cases q
 obtain ⟨Y,M,u,j,x,t,p,J,ff,rfl,F,O,q⟩:=h;obtain ⟨B,W,⟨v,r,k,m⟩,y⟩:=F.ex;rw [b.hxe];have D:∀f o,X.s₀.heap.get? f=some o->∃n,M.heap.get? f=some n:=λf o z=>by
  obtain ⟨N,P⟩:=I.base.there f o z (by rw [b.hex];simp);exact j.there f N P λg=>by rw [Vas (i f g)] at z;cases z
 refine Zdf (by rw [<-b.hst];exact I.ok.frames) b.hfr v r (by rw [<-b.hst];exact k) m λT c d l=>?_;refine ⟨x,t,p,J,rfl,?_,O.on l d (let ⟨o,e,_⟩:=c.there;⟨o,e⟩) D,q⟩;have U:Un (frs X.stack) [] X.H₀ J X.s₀.heap R.heap:=by
  refine Un.strip ?_ λb g=>.inl (Vas (i b g));exact ((I.base.mono I.sub (by rw [b.hex];simp)).trans j).trans (F.un.mono (λ_ z=>z) 03)
 have G:=Zoq (F.os.trans (u.trans I.os)) F.bare U F.hok F.frf (λb g=>(k.mem g).2) (λb o A w K=>y b o A (w.imp id λ⟨n,z⟩=>D b n z) K) I.sub (λb L V=>by
  rcases Vat.mp (I.stkSub b L) with e | e
  ·rw [e];exact Vas I.ok.above
  ·exact aB e V) c (λb g o A w=>d b o A w) F.free
 exact ⟨G.os,G.bare,G.un,G.hok,G.frf,G.free,G.ex⟩
def ZoT(b:Zg2 X E):BlkX (Zay (xfE E X) X N scope cl C s H fp pn) E:=by
 refine ⟨⟨_,_,_,b.hst,b.hfr,b.hfr⟩,λ{j σ D B g e A} I k h=>?_⟩;obtain ⟨w,v,f,a,r⟩:=h;obtain ⟨m,⟨i,p,t,c,n,x⟩,_⟩:=I.loc;have c:=c;have l:=λz=>(k C z).2.1 rfl;have d:C∉frs X.stack:=λz=>by
  obtain ⟨_,o,y,_⟩:=I.ok.funs.mem (z);cases (Vas I.ok.above).symm.trans y
 refine ⟨w,v,f.trans I.os,?_,⟨m,i,p,t,a.keep C i c I.free d l,n,x⟩,a.free C i c I.free l,r⟩;refine Un.strip ((I.base.mono I.sub λ_ z=>Vav g z).trans (a.mono (λ_ z=>z) λ_ z=>VaQ fp z)) λb u=>?_;rcases Vau.mp u with z | z
 ·exact .inr z
 ·exact ((k b z).2.2.2.1).elim .inr λq=>.inl (Vas q)
def ZpV{te:Fam TE}(b:BlkX X E)(hi:PI X tg iter wi)(O:ZcR X own cap scope cl)(hc:X.calm=true)(hg:∀C s H fp pn,PG (Zay (xfE E X) X 005 scope cl C s H fp pn) tg (g C s H fp pn))(ht:∀C s H fp pn,PTs (Zay (xfE E X) X 005 scope cl C s H fp pn) ts (tt C s H fp pn))(he:∀C s H fp pn,PE (Zay (xfE E X) X 005 scope cl C s H fp pn) elt (te C s H fp pn))(hts:ts.length<=1)(hs:∀x,foldedSetIterable iter X.env x=pure x:=by intro _;rfl):PE X 012 (ZeL wi g tt te own cap):=by
 intro a s σ H Q I h;refine Vbv rfl hs O.clos O.kind O.locals (thn (hi a s σ H _ I h) λK o d=>thn d λw l c=>?_);obtain ⟨B,fp,L,J,G,rfl,j,T,f,n,v⟩:=c;refine Zhj O hc hg ht he hts j T f n v ?_ ?_
 ·intro D C p t m k u F A q;exact ⟨m,u,λr y=>⟨.ref D,p,A r y,rfl,q⟩⟩
 ·intro D C i e t k z;exact b.out j n k z
end
end L2
namespace L2.Ds
open Dl
section
variable {F:Hp}
def Zp5{t:TG}{g:MG}{tt:TT}{nt:MB}{own:List Str}{cap:List (Str×Nat)}{J:It}{c:Str}(r:Rep K mg F0 H0 F H σ ρ)(jo:ItOk K mg F J ds)(hg:SG K mg own.length t g)(hgx:∀d ρ c,g d ρ≠.ex c)(ht:STt K mg E tt nt)(he:SE K mg E te me)(hl:ds.length<=LIM)(e0:Dl.Zaz g nt me 009 ds=.ex c)(Q)(q:∀F' H' C,Gr F H F' H'->mg (clsOf c)=some 05->E 05 (pay c) H') :
  ZfT J t tt te own cap σ Q H:=by
 refine ⟨λi k e H'=>k=ds.length - i/\i<=ds.length/\e.length<=i/\∃F',Gr F H F' H'/\Dl.Zaz g nt me 009 (ds.drop i)=.ex c,
  ⟨ds.length,by simp,Va0 _,VaN _,F,.refl r.ss,e0⟩,?_⟩
 rintro i k e H' ⟨rfl,V,Y,F',B,p⟩;have S:=Vao Y (Vao V hl);refine ⟨ZhW S,?_⟩;by_cases hlt:i<ds.length
 case neg=>
  rw [VbM 000] at p;cases p
 refine .inr ?_;have T:=VbL hlt;obtain ⟨W,yl⟩:=(jo F' H' B.f B.s i).1 _ T;rw [VbE hlt] at p;refine ⟨W,λx N y=>?_⟩;obtain ⟨F2,O,X⟩:=yl x N y;have Z:=(r.gr (B.trans O)).inner (own:=own) (cap:=cap) (B.trans O);have P:=hg F H F2 N _ _ x _ Z X;have A:(g ds[i] 009).bind (λa=>(nt a).bind λb=>if b=true then (me a).bind λy=>(Dl.Zaz g nt me 009 (ds.drop (i+1))).bind λI=>.ok (y::I) else Dl.Zaz g nt me 009 (ds.drop (i+1)))=.ex c:=p
 cases eg:g ds[i] 009 with
 | bad=>rw [eg] at A;cases A
 | ex c'=>exact aB eg (hgx _ _ _)
 | ok a=>
  rw [eg] at A P;refine P _ λU H3 o s3 j d3=>⟨d3.trans Znu,?_⟩;have w:=ht F H U H3 o a j;have h:(nt a).bind (λb=>if b=true then (me a).bind λy=>(Dl.Zaz g nt me 009 (ds.drop (i+1))).bind λI=>.ok (y::I) else Dl.Zaz g nt me 009 (ds.drop (i+1)))=.ex c:=A
  cases et:nt a with
  | bad=>rw [et] at h;cases h
  | ex c'=>
   rw [et] at h w;cases (h);exact w _ λv M C l D=>q v M C (j.g.trans l) D
  | ok b=>
   rw [et] at h w;refine w _ λv M b' l eb=>?_;cases (eb);cases b with
   | false=>
    exact ⟨ds.length - (i+1),by omega,rfl,hlt,by omega,v,j.g.trans l,h⟩
   | true=>
    have m:=h;have z:=he F H v M o a (j.gr l);cases em:me a with
    | bad=>rw [em] at m;cases m
    | ex c'=>
     rw [em] at m z;cases (m);exact z _ λG R C L D=>q G R C (j.g.trans (l.trans L)) D
    | ok y'=>
     rw [em] at m z;have n:=m;refine z _ λG R u L ru=>⟨Vbs S 00,ds.length - (i+1),by omega,rfl,hlt,by rw [Vbf];show e.length+1<=i+1;omega,G,j.g.trans (l.trans L),?_⟩;cases ec:Dl.Zaz g nt me 009 (ds.drop (i+1)) with
     | ok rs=>rw [ec] at n;cases n
     | bad=>rw [ec] at n;cases n
     | ex c'=>
      rw [ec] at n;exact n
def Zlf{te:Fam TE}(hi:SI K mg E wi mi)(hg:∀C s H fp pn,SG K mg own.length (t C s H fp pn) g)(hgx:∀d ρ c,g d ρ≠.ex c)(ht:∀C s H fp pn,STt K mg E (tt C s H fp pn) nt)(he:∀C s H fp pn,SE K mg E (te C s H fp pn) me) :
  SE K mg E (ZeL wi t tt te own cap) (Zcm mi own.length (cap.map (·.2)) g nt me):=by
 intro r v F H σ ρ f;refine (hi r v F H σ ρ f).bind (w':=λJ l Q=>∀C s a fp pn,ZfT J (t C s a fp pn) (tt C s a fp pn) (te C s a fp pn) own cap σ Q l) λw l J j m n=>?_;by_cases hl:j.length<=LIM
 ·rw [iP hl];cases e:Dl.Zaz g nt me 009 j with
  | ok ys=>exact λQ q C s a fp pn=>Zm4 (f.gr m) n (hg C s a fp pn) (ht C s a fp pn) (he C s a fp pn) hl e Q λi k x b u _ p h=>q _ _ _ (b.trans (.new b.s h _)) (.lst (SqL.of Zah) (u.same (ZaV (b.s.free h) _)))
  | ex c=>exact λQ q C s a fp pn=>Zp5 (f.gr m) n (hg C s a fp pn) hgx (ht C s a fp pn) (he C s a fp pn) hl e Q λi k C b o=>q i k C b o
  | bad=>trivial
 ·rw [iN hl];trivial
end
section
variable {tg iter elt:Expr} {ts:List Expr} {na:MB}
def Zhi(b:BlkX X E)(hi:DI X E tg iter wi mi)(O:ZcR X own cap scope cl)(hc:X.calm=true)(hg:∀C s H fp pn,DG (Zay (xfE E X) X 005 scope cl C s H fp pn) own.length tg (g C s H fp pn) gm)(ht:∀C s H fp pn,DTs (Zay (xfE E X) X 005 scope cl C s H fp pn) E ts (tt C s H fp pn) na)(he:∀C s H fp pn,DE (Zay (xfE E X) X 005 scope cl C s H fp pn) E elt (tf C s H fp pn) me)(hts:ts.length<=1:=by decide)(hs:∀x,foldedSetIterable iter X.env x=pure x:=by intro _;rfl) :
  DE X E 012 (ZeL wi g tt tf own cap) (Zcm mi own.length (cap.map (·.2)) gm na me) :=
 ⟨ZpV b hi.p O hc (λC s H fp pn=>(hg C s H fp pn).p) (λC s H fp pn=>(ht C s H fp pn).p) (λC s H fp pn=>(he C s H fp pn).p) hts hs,
  Zlf hi.s (λC s H fp pn=>(hg C s H fp pn).s) (hg 0 X.s₀ (λ_=>none) [] []).x (λC s H fp pn=>(ht C s H fp pn).s) (λC s H fp pn=>(he C s H fp pn).s)⟩
def Zn3(C:Cal X.prog X.w X.K X.mg X.base k x ps f)(hr:Room l X.A)(hn:k<=l)(hg:Gl (Zay (xfE E X) X N scope cl C' s H fp pn) x)(ha:DA (Zay (xfE E X) X N scope cl C' s H fp pn) E n (e::es) t m)(hps:ps.length=n:=by rfl)(hdb:ND x:=by decide)(he:starEach (e::es) (Zay (xfE E X) X N scope cl C' s H fp pn).env=(false,eval e (Zay (xfE E X) X N scope cl C' s H fp pn).env)::starEach es (Zay (xfE E X) X N scope cl C' s H fp pn).env:=by rfl)(hpl:(backTo pos (starEach es (Zay (xfE E X) X N scope cl C' s H fp pn).env)).any (·.1)=false:=by rfl) :
  DE (Zay (xfE E X) X N scope cl C' s H fp pn) E (.Call (.Name x p) (e::es) [] pos) (Zkw (spD X.K X.mg ps.length f) [] E t) (on f m) :=
 Zd0 C hr hn hg ZrV ha hps hdb he hpl
end
end L2.Ds
namespace Dl
def dFld(cs:List Str)(f:Str):D->Res D
 | .ins c ns vs=>if cs.contains c=true then ofO ((ns.zip vs).lookup f) else .bad
 | _=>.bad
def badS:MS:=λ_=>.bad
end Dl
namespace L2.Ds
open Dl
def Zge(K:W.Frag)(mg:001)(cs:List Str)(f:Str):Prop:=∀c,cs.contains c=true->∀C,mg c=some 05->Cls K C/\Zfg K C f
def rFld(K:W.Frag)(f:Str):V->Hp->VK->Prop:=λx H Q=>∃a C c b v,x=.ref a/\H a=some (.ins C c b)/\Cls K C/\Zfg K C f/\b.lookup f=some v/\Q v H
section
def ZhM{F:Hp}:∀{fs:List (Str×V)} {vs:List D},Rps K mg F (fs.map (·.2)) vs->((fs.map (·.1)).zip vs).lookup f=some d->∃v,fs.lookup f=some v/\Rp K mg F v d
 | [],_,_,e=>by simp at e
 | (n,x)::r,[],q,_=>nomatch q
 | (n,x)::r,d0::vs,.cons h q,e=>by
  rw [VaW,List.zip_cons_cons,Vbt] at e;rw [Vbt];cases z:f==n with
  | true=>
   rw [show (f==(n,x).fst)=true from z] at e;cases e;exact ⟨x,rfl,h⟩
  | false=>
   rw [show (f==(n,x).fst)=false from z] at e;exact ZhM q e
def Zty(T:Zge K mg cs f):UnD K mg (rFld K f) (dFld cs f):=by
 intro E F H x b s g;cases b with
 | ins c ns vs=>
  show Ans mg E (Rp K mg) F H (if cs.contains c=true then ofO ((ns.zip vs).lookup f) else .bad) _
  by_cases hc:cs.contains c=true
  ·rw [iP hc];cases g with
   | @ins _ C a b fs xs _ m h o e r=>
    subst e;cases q:((fs.map (·.1)).zip vs).lookup f with
    | none=>trivial
    | some d=>
     obtain ⟨v,j,k⟩:=ZhM r q;obtain ⟨l,i⟩:=T c hc C m;exact .ret s k λQ z=>⟨a,C,b,fs,v,rfl,s _ _ h,l,i,j,z⟩
  ·rw [iN hc];trivial
 | _=>trivial
end
def Zpl(T:Zge X.K X.mg cs f)(he:DE X E e te me)(hb:attributeBase e f X.env (eval e X.env)=eval e X.env:=by rfl) :
  DE X E (.Attribute e f pos) (tFld X.K te f) (o1 (dFld cs f) me):=⟨Zwt he.p hb,Zwy (Zty T) he.s⟩
def ZsZ:DSs X E sts (λ_ _ _=>False) badS:=⟨λ_ _ _ _ _ _ h=>h.elim,λ_ _ _ _ _ _ _=>trivial⟩
end L2.Ds
namespace L2.Ds
open Dl
section
variable {F:Hp}
def ZqR:∀{xs:List V} {ds:List D} {G:Hp},xs.length=ds.length->(∀(k:Nat) (x:V) (d:D),xs[k]?=some x->ds[k]?=some d->Rp K mg G x d)->Rps K mg G xs ds
 | [],[],_,_,_=>.nil
 | [],_::_,_,l,_=>by cases l
 | _::_,[],_,l,_=>by cases l
 | x::xs,d::ds,G,l,h=>.cons (h 0 x d rfl rfl) (ZqR (by simpa using l) λk y e a b=>h (k+1) y e (by simpa using a) (by simpa using b))
end
end L2.Ds
namespace Dl
abbrev Fs:=List (Str×D)
abbrev MSi:=Ev->Fs->Res Fs
def iEnd:MSi:=λ_ a=>.ok a
def iDrp(e:ME)(k:MSi):MSi:=λρ a=>(e ρ).bind λ_=>k ρ a
def iSet(f:Str)(e:ME)(k:MSi):MSi:=λρ a=>(e ρ).bind λd=>if (a.map (·.1)).contains f=true\/100<=a.length then .bad else k ρ (a++[(f,d)])
def iSup(g:List D->Fs->Res Fs)(a:MA)(k:MSi):MSi:=λρ d=>(a ρ).bind λc=>(g c d).bind λb=>k ρ b
def fnI(n:Nat)(k:MSi):List D->Fs->Res Fs:=λa b=>k (.no::ev0 (n - 1) a) b
def make(c:Str)(g:List D->Fs->Res Fs)(a:MA):ME:=λρ=>(a ρ).bind λd=>(g d []).bind λb=>.ok (.ins c (b.map (·.1)) (b.map (·.2)))
def meth(tab:List (Str×(List D->Res D)))(m:Str)(o:ME)(a:MA):ME:=λρ=>(o ρ).bind λd=>match d with
 | .ins c ns vs=>if ns.contains m=true then .bad else match tab.lookup c with
  | some f=>(a ρ).bind λb=>f (.ins c ns vs::b)
  | none=>.bad
 | _=>.bad
end Dl
namespace L2.Ds
open Dl
def Ans.imp{F:Hp}{w:(β->Hp->Prop)->Prop}(h:Ans mg E R F H r w)(hw:∀Q,w Q->w' Q):Ans mg E R F H r w':=by
 cases r with
 | ok a=>exact λQ q=>hw Q (h Q q)
 | ex c=>exact λQ q=>hw Q (h Q q)
 | bad=>trivial
def Zom(P:Program)(w:World)(K:W.Frag)(mg:001)(base:Heap)(k:Nat)(m:Str)(E:XK)(ta:TE)(t:TA):TE:=λσ H Q=>ta σ H λx d=>∃a C i c g e b f,x=.ref a/\d a=some (.ins C i c)/\c.lookup m=none /\
 Cls K C/\Meth K C m g/\FnOk P w K mg base (CXR P w) k g e b f/\Binds K e b []/\t σ d λj h=>f (x::j) h Q E
section
variable {m:Str} {o:Expr} {ta:TE} {t:TA} {apos:Pos} {pl:Sem Bool}
def Zoe(he:PE X o ta)(hr:Room k X.A)(hx:Zdg (CXR X.prog X.w) X E) (ht:eval (.Call (.Attribute o m apos) [] [] pos) X.env=(do
   let ov <-eval o X.env
   standAt apos.atName
   let (f,first) <-holding [ov] (getMethod ov m pl)
   callWith pos f first (backTo pos (starEach [] X.env)) (backToKw pos (keywordEach [] X.env))):=by rfl) :
  PE X (.Call (.Attribute o m apos) [] [] pos) (Zom X.prog X.w X.K X.mg X.base k m E ta tNil):=by
 intro b s σ H Q I h;refine W.methodCall_KW (thn (he b s σ H _ I h) λu e d=>?_) ht;obtain ⟨x,H1,I1,rx,a,C,dx,fs,g,fd,ps,sp,ex,ea,l,c,hm,F,hb,q⟩:=d;subst ex;obtain rfl:u=Value.ref a:=rx;refine Zmx I1 ea c hm l ?_;exact W.callWith_K0 I1.kIn hm.kp (ZoN (vs:=[.ref a]) F hr hb .nil hx I1 (.cons rfl .nil) q)
end
def ZfA(P:Program)(w:World)(K:W.Frag)(mg:001)(base:Heap)(k n:Nat)(m:Str)(tab:List (Str×(List D->Res D))):Prop:=∀c f,tab.lookup c=some f->∀C,mg c=some 05 ->
 Cls K C/\∃g b a,Meth K C m g/\FnOk P w K mg base (CXR P w) k g b a (spD K mg a.length f)/\Binds K b a []/\a.length=n+1
def ZfA.nil:ZfA P w K mg base k n m []:=λ_ _ e=>by cases e
def ZfA.cons{P:Program}{w:World}{K:W.Frag}{mg:001}{base:Heap}{k n:Nat}{m c:Str}{f:List D->Res D}{tab:List (Str×(List D->Res D))}(h:∀C,mg c=some 05->Cls K C/\∃g fd ps,Meth K C m g/\FnOk P w K mg base (CXR P w) k g fd ps (spD K mg ps.length f)/\Binds K fd ps []/\ps.length=n+1)(r:ZfA P w K mg base k n m tab):ZfA P w K mg base k n m ((c,f)::tab):=by
 intro a b e;rw [Vbt] at e;split at e
 ·next q=>
  cases e;rw [eq_of_beq q];exact h
 ·exact r a b e
def Zjz:∀{fs:List (Str×V)},¬(fs.map (·.1)).contains m=true->fs.lookup m=none
 | [],_=>rfl
 | (n,x)::r,h=>by
  rw [VaW,Vb0] at h;rw [Vbt];cases z:m==n with
  | true=>exact aB (by rw [show (m==(n,x).fst)=true from z];rfl) h
  | false=>exact Zjz λq=>h (by rw [q,Bool.or_true])
section
variable {m:Str} {tab:List (Str×(List D->Res D))} {ta:TE} {mo:ME} {t:TA} {ma:MA}
def Zs5(T:ZfA P w K mg base k n m tab)(ho:SE K mg E ta mo)(ha:SA K mg E t ma)(hl:SAn n ma):SE K mg E (Zom P w K mg base k m E ta t) (meth tab m mo ma):=by
 intro u D F H σ ρ j;refine (ho u D F H σ ρ j).bind λB y x d A v=>?_;cases d with
 | ins c ns vs=>
  show Ans mg E (Rp K mg) B y (if ns.contains m=true then .bad else match tab.lookup c with
   | some f=>(ma ρ).bind λb=>f (.ins c ns vs::b)
   | none=>.bad) _
  by_cases hc:ns.contains m=true
  ·rw [iP hc];trivial
  rw [iN hc];cases e:tab.lookup c with
  | none=>trivial
  | some f=>
   have i:=v;cases v with
   | @ins _ C a dx fs xs _ hm h o q r=>
    obtain ⟨R,g,O,p,J,N,I,G⟩:=T c f e C hm;refine Ans.imp ((ha u D B y σ ρ (j.gr A)).bindE λb M V U S l L=>?_) λQ z=>⟨a,C,dx,fs,g,O,p,spD K mg p.length f,rfl,A.s _ _ h,Zjz hc,R,J,N,I,z⟩;exact Zlz l.s (.cons (i.same l.f) L) (by rw [VaU,hl ρ b M,G])
 | _=>trivial
end
section
variable {l:Nat} {m:Str} {o:Expr} {ta:TE} {mo:ME} {t:TA} {ma:MA} {apos:Pos} {pl:Sem Bool} {tab:List (Str×(List D->Res D))}
def ZrO(T:ZfA X.prog X.w X.K X.mg X.base k 0 m tab)(hr:Room l X.A)(hn:k<=l)(hx:Zdg (CXR X.prog X.w) X E)(ho:DE X E o ta mo) (ht:eval (.Call (.Attribute o m apos) [] [] pos) X.env=(do
   let ov <-eval o X.env
   standAt apos.atName
   let (f,first) <-holding [ov] (getMethod ov m pl)
   callWith pos f first (backTo pos (starEach [] X.env)) (backToKw pos (keywordEach [] X.env))):=by rfl) :
  DE X E (.Call (.Attribute o m apos) [] [] pos) (Zom X.prog X.w X.K X.mg X.base k m E ta tNil) (meth tab m mo yaa):=⟨Zoe ho.p (hr.mono hn) hx ht,Zs5 T ho.s Zrp ZoB⟩
end
def Zge.nil:Zge K mg [] f:=λ_ h=>by cases h
def Zge.cons{K:W.Frag}{mg:001}{c f:Str}{cs:List Str}(h:∀C,mg c=some 05->Cls K C/\Zfg K C f)(r:Zge K mg cs f):Zge K mg (c::cs) f:=λb a=>by
 rw [Vb0] at a;cases z:b==c with
 | true=>rw [eq_of_beq z];exact h
 | false=>
  rw [z,Bool.false_or] at a;exact r b a
structure FR(K:W.Frag)(mg:001)(F:Hp)(fs:List (Str×V))(fl:Fs):Prop where
 nm:fs.map (·.1)=fl.map (·.1)
 rv:Rps K mg F (fs.map (·.2)) (fl.map (·.2))
def FR.same{F:Hp}(h:FR K mg F fs fl)(s:Same F F'):FR K mg F' fs fl:=⟨h.nm,h.rv.same s⟩
def FR.len{F:Hp}(h:FR K mg F fs fl):fs.length=fl.length:=by
 have:=VaA List.length h.nm;rwa [VaX,VaX] at this
def ZlC:∀{fs:List (Str×V)},¬(fs.map (·.1)).contains f=true->putF f y fs=fs++[(f,y)]
 | [],_=>rfl
 | (g,x)::r,h=>by
  rw [VaW,Vb0] at h;have a:g≠f:=by
   rintro rfl;exact h (by rw [show ((g,x).fst==g)=true from beq_self_eq_true g];rfl)
  show (if g=f then (g,y)::r else (g,x)::putF f y r)=_
  rw [iN a,ZlC λq=>h (by rw [q,Bool.or_true])];rfl
def FR.put{F:Hp}(h:FR K mg F fs fl)(hn:¬(fl.map (·.1)).contains f=true)(ry:Rp K mg F y d):FR K mg F (putF f y fs) (fl++[(f,d)]):=by
 rw [ZlC (by rw [h.nm];exact hn)];refine ⟨by rw [Vb1,Vb1,h.nm];rfl,?_⟩;rw [Vb1,Vb1];exact Rps.app (.cons ry .nil) h.rv
def spI(K:W.Frag)(mg:001)(n:Nat)(cs:List Str)(m:List D->Fs->Res Fs):Sp:=λk H Q E=>k.length=n+1/\∃x i C c j l F g h,
 k=.ref x::j/\cs.contains c=true/\mg c=some 05/\H x=some (.ins C i l)/\F x=none/\Same F H/\Rps K mg F j g/\FR K mg F l h/\m g h≠.bad /\
 (∀f,m g h=.ok f->∀d b a,Gr F (del H x) d b->d x=none->b x=some (.ins C i a)->FR K mg d a f->Q .non b) /\
 (∀e,m g h=.ex e->∀d b a o,Gr F (del H x) d b->d x=none->b x=some (.ins C i a)->mg (clsOf e)=some (.ref o)->E (.ref o) (pay e) b)
structure RepI(K:W.Frag)(mg:001)(x dx C:Addr)(F0 H0 F H:Hp)(σ:St)(ρ:Ev)(fs:List (Str×V))(fl:Fs):Prop where
 rep:Rep K mg F0 H0 F H σ ρ
 h0:H0 x=none
 self:σ[0]?=some (some (.ref x))
 fx:F x=none
 hx:H x=some (.ins C dx fs)
 fr:FR K mg F fs fl
section
variable {x dx C:Addr} {F:Hp} {fs fs':List (Str×V)} {fl fl':Fs}
def RepI.gr(r:RepI K mg x dx C F0 H0 F H σ ρ fs fl)(g:Gr F H F' H'):RepI K mg x dx C F0 H0 F' H' σ ρ fs fl:=by
 obtain ⟨a,b⟩:=g.o x _ r.fx r.hx;exact ⟨r.rep.gr g,r.h0,r.self,a,b,r.fr.same g.f⟩
def RepI.go(r:RepI K mg x dx C F0 H0 F H σ ρ fs fl)(g:Gr F (del H x) F' H')(fx:F' x=none)(hx:H' x=some (.ins C dx fs'))(fr:FR K mg F' fs' fl'):RepI K mg x dx C F0 H0 F' H' σ ρ fs' fl':=by
 refine ⟨⟨⟨r.rep.g.f.trans g.f,g.s,λa o c b=>?_,λa o u e=>r.rep.g.z a o u (g.z a o u e)⟩,r.rep.len,λi d e=>?_,λi m e=>?_,r.rep.ne⟩,r.h0,r.self,fx,hx,fr⟩
 ·obtain ⟨k,h⟩:=r.rep.g.o a o c b;exact g.o a o k (by rw [ZeG (Zai b r.h0)];exact h)
 ·obtain ⟨y,c,b⟩:=r.rep.im i d e;exact ⟨y,c,b.same g.f⟩
 ·obtain ⟨a,q,c,b,l,j,n⟩:=r.rep.ow i m e;have p:a≠x:=by
   rintro rfl;rw [r.hx] at j;cases j
  obtain ⟨k,h⟩:=g.o a _ l (by rw [ZeG p];exact j);exact ⟨a,q,c,b,k,h,n.same g.f⟩
def RepI.set(r:RepI K mg x dx C F0 H0 F H σ ρ fs fl)(hn:¬(fl.map (·.1)).contains f=true)(ry:Rp K mg F y d):RepI K mg x dx C F0 H0 F (upd H x (.ins C dx (putF f y fs))) σ ρ (putF f y fs) (fl++[(f,d)]):=by
 refine r.go ⟨Same.refl _,λa o e=>?_,λa o h b=>⟨h,?_⟩,λ_ _ _ e=>e⟩ r.fx Zah (r.fr.put hn ry)
 ·rw [Zaf (Zai e r.fx)];exact r.rep.g.s a o e
 ·have c:a≠x:=by
   rintro rfl;rw [Zg4] at b;cases b
  rw [ZeG c] at b;rw [Zaf c];exact b
end
def AnsI(K:W.Frag)(mg:001)(E:XK)(x dx C:Addr)(F0 H0:Hp)(r:Res Fs)(w:Ends->Prop):Prop :=
 match r with
 | .ok fl=>∀D,(∀b a e d,Gr F0 H0 b a->b x=none->a x=some (.ins C dx d)->FR K mg b d fl->D.nx e a)->w D
 | .ex c=>∀D,(∀b a d f,Gr F0 H0 b a->b x=none->a x=some (.ins C dx d)->mg (clsOf c)=some (.ref f)->E (.ref f) (pay c) a)->w D
 | .bad=>True
def SSi(K:W.Frag)(mg:001)(E:XK)(cs:List Str)(t:TS)(m:MSi):Prop:=∀x e C c d a F H σ ρ f b,cs.contains c=true->mg c=some 05->RepI K mg x e C d a F H σ ρ f b->AnsI K mg E x e C d a (m ρ b) (λD=>t D σ H)
structure DSi(X:Cx)(E:XK)(cs:List Str)(sts:List Stmt)(t:TS)(m:MSi):Prop where
 p:PSs X sts t
 s:SSi X.K X.mg E cs t m
section
variable {x dx C:Addr} {F:Hp} {α β:Type} {R:Hp->β->α->Prop} {fs:List (Str×V)} {fl:Fs}
def ZgY{r:Res α}{w:(β->Hp->Prop)->Prop}{k:α->Res Fs}{w':β->Hp->Ends->Prop}(rr:RepI K mg x dx C F0 H0 F H σ ρ fs fl)(h1:Ans mg E R F H r w)(h2:∀a,r=.ok a->∀F1 H1 b,Gr F H F1 H1->R F1 b a->AnsI K mg E x dx C F0 H0 (k a) (w' b H1)) :
  AnsI K mg E x dx C F0 H0 (r.bind k) (λD=>w λb H1=>w' b H1 D):=by
 cases r with
 | ok a=>
  show AnsI K mg E x dx C F0 H0 (k a) _;have e:=h2 a rfl;generalize k a=r2 at e;cases r2 with
  | ok d=>exact λD q=>h1 _ λF1 H1 b g f=>e F1 H1 b g f D q
  | ex c=>exact λD q=>h1 _ λF1 H1 b g f=>e F1 H1 b g f D q
  | bad=>trivial
 | ex c=>exact λD q=>h1 _ λF1 H1 h g i=>let r2:=rr.gr g;q F1 H1 fs h r2.rep.g r2.fx r2.hx i
 | bad=>trivial
end
section
variable {cs cs':List Str} {rest:List Stmt} {u:TS} {k:MSi} {o:Expr} {t:TA} {ma:MA} {apos p p':Pos} {f y m:Str} {l:Nat}
def Zj3:DSi X E cs [] Zo3 iEnd:=⟨ZmC,λx f C c e b F H σ ρ a d _ _ r=>λD q=>q F H σ a r.rep.g r.fx r.hx r.fr⟩
def ZfZ(he:DE X E e te me)(h:DSi X E cs rest u k)(hs:swapsWith e none spos.line X.env=pure false:=by rfl):DSi X E cs (.Expr e spos::rest) (tSeq (Zhz te) u) (iDrp me k):=by
 refine ⟨Zez (ZfR he.p hs) h.p,?_⟩;intro x i C c d f F H σ ρ j o m q r;exact ZgY r (he.s d f F H σ ρ r.rep) λa _ n l b g _=>h.s x i C c d f n l σ ρ j o m q (r.gr g)
def ZjE(T:Zge X.K X.mg cs f)(he:DE X E e te me)(h:DSi X E cs rest u k)(hN:X.N[0]?=some x:=by rfl)(hv:Vis X.env.scope x:=by first | exact Or.inl rfl | exact Or.inr (Or.inl rfl) | exact Or.inr (Or.inr rfl))(hd:ND x:=by decide)(hcd:NE x:=by decide)(hs:swapsWith e (some (.Attribute (.Name x p) f p')) spos.line X.env=pure false:=by rfl) :
  DSi X E cs (.Assign [.Attribute (.Name x p) f p'] e spos::rest) (tSeq (sFld X.K (tVar 0) te f) u) (iSet f me k):=by
 refine ⟨Zez (Zum (ZdT hN hv hd hcd) he.p hs) h.p,?_⟩;intro x i C c m w F H σ ρ j b o v r;refine ZgY r (he.s m w F H σ ρ r.rep) λd _ G I y g B=>?_;have a:=r.gr g;by_cases hb:(b.map (·.1)).contains f=true\/100<=b.length
 ·rw [iP hb];trivial
 rw [iN hb];obtain ⟨t,n⟩:=T c o C v;have A:=a.set (λz=>hb (.inl z)) B;have z:=h.s x i C c m w G _ σ ρ _ _ o v A;have l:j.length<1000:=by have:=r.fr.len;have:¬100<=b.length:=λz=>hb (.inr z);omega
 generalize k ρ (b++[(f,d)])=q0 at z;cases q0 with
 | ok fl'=>exact λD q=>⟨_,a.self,x,C,i,j,rfl,a.hx,t,n,l,z D q⟩
 | ex c=>exact λD q=>⟨_,a.self,x,C,i,j,rfl,a.hx,t,n,l,z D q⟩
 | bad=>trivial
end
structure ClsM(K:W.Frag)(C:Addr)(m:Str)(f:Addr):Prop where
 sg:W.specialIn K 05 "__getattribute__"=some (some (.builtin "type.__getattribute__"))
 rd:∃mc,W.readsIn K C mc=true/\W.findCls K 05 mc m=some (.val (.ref f))
 hh:W.handedIn (.ref f)=true
 kp:W.keepIn K (.ref f)=true
section
variable {y m:Str} {C f:Addr} {sp:Sp} {t:TA} {p apos:Pos} {pl:Sem Bool}
def Ztx(hg:Gl X y)(hy:X.mg y=some 05)(c:ClsM X.K C m f)(F:FnOk X.prog X.w X.K X.mg X.base (CXR X.prog X.w) k f fd ps sp)(hr:Room k X.A)(hb:Binds X.K fd ps [])(hx:Zdg (CXR X.prog X.w) X E)(ha:PA X (e::es) t)(hd:ND y:=by decide)(hst:011:=by rfl)(hpl:(backTo pos (starEach es X.env)).any (·.1)=false:=by rfl) (ht:eval (.Call (.Attribute (.Name y p) m apos) (e::es) [] pos) X.env=(do
   let ov <-eval (.Name y p) X.env
   standAt apos.atName
   let (f,first) <-holding [ov] (getMethod ov m pl)
   callWith pos f first (backTo pos (starEach (e::es) X.env)) (backToKw pos (keywordEach [] X.env))):=by rfl) :
  PE X (.Call (.Attribute (.Name y p) m apos) (e::es) [] pos) (Zkw sp [] E t):=by
 intro a s σ H Q I h;refine W.methodCall_KW (thn (ZfX (v:=05) hg hy rfl hd a s σ H (λv b=>v=.ref C/\b=H) I ⟨rfl,rfl⟩) λu s1 zq=>?_) ht;obtain ⟨x,b,I1,rx,ex,eh⟩:=zq;subst ex eh;obtain rfl:u=Value.ref C:=rx;obtain ⟨B,l,j⟩:=c.rd;refine W.method_cls I1.kIn c.sg (W.cls_value I1.kIn l j c.hh ?_);have i:=I1.tok (s1.toks+1);refine Va6 I.ok.mod.kin c.kp (thn (ha pos a _ σ b _ i h) λz o zq=>?_) hst hpl;obtain ⟨q,n,d,r,g⟩:=zq;refine ⟨d.kIn,?_⟩;exact ZoN F hr hb .nil hx d r g
end
structure CalS(P:Program)(w:World)(K:W.Frag)(mg:001)(base:Heap)(k:Nat)(y m:Str)(n:Nat)(cs:List Str)(g:List D->Fs->Res Fs):Prop where
 ex:∃(C f:Addr) (fd:FuncData) (ps:List Str),mg y=some 05/\ClsM K C m f/\FnOk P w K mg base (CXR P w) k f fd ps (spI K mg n cs g)/\Binds K fd ps []
section
variable {cs cs':List Str} {rest:List Stmt} {u:TS} {k:MSi} {t:TA} {ma:MA} {apos p p':Pos} {y m:Str} {l:Nat} {g:List D->Fs->Res Fs} {pl:Sem Bool}
def Zln(S:CalS X.prog X.w X.K X.mg X.base j y m n cs' g)(hr:Room l X.A)(hn:j<=l)(hg:Gl X y)(hx:Zdg (CXR X.prog X.w) X E)(hcs:∀c,cs.contains c=true->cs'.contains c=true)(ha:DA X E n es t ma)(h:DSi X E cs rest u k)(hN:X.N[0]?=some x:=by rfl)(hv:Vis X.env.scope x:=by first | exact Or.inl rfl | exact Or.inr (Or.inl rfl) | exact Or.inr (Or.inr rfl))(hd:ND x:=by decide)(hcd:NE x:=by decide)(hdy:ND y:=by decide)(hst:starEach (.Name x p'::es) X.env=(false,eval (.Name x p') X.env)::starEach es X.env:=by rfl)(hpl:(backTo pos (starEach es X.env)).any (·.1)=false:=by rfl) (ht:eval (.Call (.Attribute (.Name y p) m apos) (.Name x p'::es) [] pos) X.env=(do
   let ov <-eval (.Name y p) X.env
   standAt apos.atName
   let (f,first) <-holding [ov] (getMethod ov m pl)
   callWith pos f first (backTo pos (starEach (.Name x p'::es) X.env)) (backToKw pos (keywordEach [] X.env))):=by rfl) (hs:swapsWith (.Call (.Attribute (.Name y p) m apos) (.Name x p'::es) [] pos) none spos.line X.env=pure false:=by rfl) :
  DSi X E cs (.Expr (.Call (.Attribute (.Name y p) m apos) (.Name x p'::es) [] pos) spos::rest) (tSeq (Zhz (Zkw (spI X.K X.mg n cs' g) [] E (ZdX (tVar 0) t))) u) (iSup g ma k):=by
 obtain ⟨C0,f,fd,ps,hy,cm,F,hb⟩:=S.ex;refine ⟨Zez (ZfR (Ztx hg hy cm F (hr.mono hn) hb hx (Zck (ZdT hN hv hd hcd) ha.p hst) hdy hst hpl ht) hs) h.p,?_⟩;intro x O C c T V F H σ ρ Y B hc hm r;have A:=ha.s T V F H σ ρ r.rep;have L:=ha.n ρ;show AnsI X.K X.mg E x O C T V ((ma ρ).bind λd=>(g d B).bind λfl'=>k ρ fl') (λD=>∃v,σ[0]?=some (some v)/\t σ H λP Z=>spI X.K X.mg n cs' g (v::P++[]) Z (λ_ H2=>u D σ H2) E);have Q:AnsI X.K X.mg E x O C T V ((ma ρ).bind λd=>(g d B).bind λfl'=>k ρ fl') (λD=>t σ H λP Z=>spI X.K X.mg n cs' g (.ref x::P) Z (λ_ H2=>u D σ H2) E):=by
  refine ZgY r A λd eds F1 Z P g1 W=>?_;have b:=r.gr g1;have hl:=W.length.trans (L d eds);cases eg:g d B with
  | bad=>trivial
  | ex ec=>
   intro D q;refine ⟨by rw [VaU,hl],x,O,C,c,P,Y,F1,d,B,rfl,hcs c hc,hm,b.hx,b.fx,b.rep.g.s,W,b.fr,(by rw [eg];intro z;cases z),(λfl' e=>by rw [eg] at e;cases e),λe' I J M fs' Ce i G hx hce=>?_⟩;rw [eg] at I;cases I;have r2:=b.go (fl':=B) (fs':=Y) i G;refine q J M fs' Ce ?_ G hx hce;refine ⟨b.rep.g.f.trans i.f,i.s,λa o h1 h2=>?_,λa o u e=>b.rep.g.z a o u (i.z a o u e)⟩;obtain ⟨q1,q2⟩:=b.rep.g.o a o h1 h2;exact i.o a o q1 (by rw [ZeG (Zai h2 r.h0)];exact q2)
  | ok fl'=>
   show AnsI X.K X.mg E x O C T V (k ρ fl') _;have nx:=λJ M fs' i G hx R=>h.s x O C c T V J M σ ρ fs' fl' hc hm (b.go i G hx R);generalize k ρ fl'=q0 at nx;cases q0 with
   | bad=>trivial
   | ok fl2=>
    intro D q;refine ⟨by rw [VaU,hl],x,O,C,c,P,Y,F1,d,B,rfl,hcs c hc,hm,b.hx,b.fx,b.rep.g.s,W,b.fr,(by rw [eg];intro z;cases z),(λU e J M fs' i G hx R=>?_),λe' I=>by rw [eg] at I;cases I⟩;rw [eg] at e;cases e;exact nx J M fs' i G hx R D q
   | ex c2=>
    intro D q;refine ⟨by rw [VaU,hl],x,O,C,c,P,Y,F1,d,B,rfl,hcs c hc,hm,b.hx,b.fx,b.rep.g.s,W,b.fr,(by rw [eg];intro z;cases z),(λU e J M fs' i G hx R=>?_),λe' I=>by rw [eg] at I;cases I⟩;rw [eg] at e;cases e;exact nx J M fs' i G hx R D q
 generalize ((ma ρ).bind λd=>(g d B).bind λfl'=>k ρ fl')=q0 at Q;cases q0 with
 | bad=>trivial
 | ok fl'=>exact λD q=>⟨.ref x,r.self,by simpa using Q D q⟩
 | ex c'=>exact λD q=>⟨.ref x,r.self,by simpa using Q D q⟩
end
section
variable {qual:Str} {f:Addr} {cs:List Str}
def ZlR{F:Hp}(s:Same F H)(fa:F a=none)(r:Rps K mg F vs ds)(hN:1<=N.length):Rep K mg F (del H a) F H (start N (z::vs)) (.no::ev0 (N.length - 1) ds):=by
 have t:=r.length;have l:∀(i:Nat) (c:Cl),(ev0 (N.length - 1) ds)[i]?=some c->c=.no\/∃d,ds[i]?=some d/\c=.im d:=by
  intro i c e;rw [Zi2] at e;by_cases g:i<ds.length
  ·rw [Vbc (by simpa using g),Vbd,VbL g] at e;exact .inr ⟨ds[i],VbL g,(Vac e).symm⟩
  ·rw [Vba (by simpa using g),Vbb] at e;split at e
   ·exact .inl (Vac e).symm
   ·cases e
 have f:∀(i:Nat) (c:Cl),(Cl.no::ev0 (N.length - 1) ds)[i]?=some c->c=.no\/∃d j,i=j+1/\ds[j]?=some d/\c=.im d:=by
  intro i c e;cases i with
  | zero=>exact .inl (Vac e).symm
  | succ j=>
   rcases l j c (by simpa using e) with q | ⟨d,e1,h⟩
   ·exact .inl q
   ·exact .inr ⟨d,j,rfl,e1,h⟩
 refine ⟨⟨Same.refl _,s,λb o p k=>⟨p,?_⟩,λ_ _ _ e=>e⟩,?_,λi d e=>?_,λi m e=>?_,λi j m n a e=>?_⟩
 ·by_cases hb:b=a
  ·subst hb;rw [Zg4] at k;cases k
  ·rw [ZeG hb] at k;exact k
 ·rw [Zi2];unfold start;simp [t];omega
 ·rcases f i _ e with q | ⟨d',j,rfl,e1,q⟩
  ·cases q
  ·cases q;obtain ⟨v,h,u⟩:=r.get e1;refine ⟨v,?_,u⟩;have g:=(Vaw.mp h).1;unfold start;rw [VaW,List.cons_append,List.getElem?_cons_succ,Vbc (by simpa using g),Vbd,h];rfl
 ·rcases f i _ e with q | ⟨d',j,_,e1,q⟩<;>cases q
 ·rcases f i _ e with q | ⟨d',j,_,e1,q⟩<;>cases q
def okI{st:Stmt}{mb:MSi}(F:Fun K x qual st f fd)(S:Zag N ps (Zad st))(hN:1<=N.length)(hp:ps.length=n+1)(h:∀(cdv:Value) (A:Around) (outer:List Env) (s:Shared) (H:Hp) (E:XK),Room k (A.deeper (envOfC qual (Zad st) s.heap.objs.size f cdv))->∃t,DSi (cxOf (CXR P w) P w K mg base N qual (Zad st) f cdv A outer s H E) E cs (Zb8 st) t mb) :
  FnOk P w K mg base (CXR P w) (k+1) f fd ps (spI K mg n cs (fnI N.length mb)):=by
 obtain ⟨oc,od,kV,M,pm,an,cdv,ct,osl,rfl,O,l⟩:=F.ex;refine Zsa O l S (λZ H Q E q=>q.1.trans hp.symm) λA outer s H Z Q E U v=>?_;obtain ⟨t,y⟩:=h cdv A outer s H E U;refine ⟨t,y.p,?_⟩;obtain ⟨_,x,Y,C,c,T,fs,D,B,G,rfl,hc,hm,V,I,J,X,L,W,o,u⟩:=v;have z:=y.s x Y C c D (del H x) D H (start N (.ref x::T)) (.no::ev0 (N.length - 1) B) fs G hc hm ⟨ZlR J I X hN,Zg4,rfl,I,V,L⟩;cases e:mb (.no::ev0 (N.length - 1) B) G with
 | ok fl'=>
  rw [e] at z;exact z _ λi j R b g d a r=>o fl' e i j b g d a r
 | ex c'=>
  rw [e] at z;exact z _ λi j b Ce g d a m=>u c' e i j b Ce g d a m
 | bad=>exact aB e W
def okM{st:Stmt}{mb:MS}(F:Fun K x qual st f fd)(S:Zag N ps (Zad st))(h:∀(cdv:Value) (A:Around) (outer:List Env) (s:Shared) (H:Hp) (E:XK),Room k (A.deeper (envOfC qual (Zad st) s.heap.objs.size f cdv))->∃t,DSs (cxOf (CXR P w) P w K mg base N qual (Zad st) f cdv A outer s H E) E (Zb8 st) t mb) :
  FnOk P w K mg base (CXR P w) (k+1) f fd ps (spD K mg ps.length (fn N.length mb)):=by
 obtain ⟨V,Y,X,D,W,U,cdv,ct,T,rfl,G,m⟩:=F.ex;refine Zsa G m S (λy H Q E q=>q.1) λA outer s H y Q E J n=>?_;obtain ⟨t,o⟩:=h cdv A outer s H E J;refine ⟨t,o.p,?_⟩;obtain ⟨_,u,r,B,M,i,a,b⟩:=n;have z:=o.s u H u H (start N y) (ev0 N.length r) (Zj2 B M);unfold fn at i a b;cases e:mb (ev0 N.length r) with
 | ok fl=>
  rw [e] at z i a b;cases fl with
  | nx ρ=>exact z _ λj l I _ L=>a .non rfl j l .non L.g .non
  | rt d=>exact z _ λj l v g O=>a d rfl j l v g O
  | bk ρ=>exact aB rfl i
  | ct ρ=>exact aB rfl i
 | ex c=>
  rw [e] at z b;exact z _ λj l C g R=>b c rfl j l C g R
 | bad=>rw [e] at i;exact aB rfl i
end
structure CalI(P:Program)(w:World)(K:W.Frag)(mg:001)(base:Heap)(k:Nat)(c:Str)(n:Nat)(cs:List Str)(g:List D->Fs->Res Fs):Prop where
 ex:∃(C f:Addr) (fd:FuncData) (ps:List Str),mg c=some 05/\Mk K C f/\FnOk P w K mg base (CXR P w) k f fd ps (spI K mg n cs g)/\Binds K fd ps []/\cs.contains c=true
def ZqX(K:W.Frag)(mg:001)(c:Str)(n:Nat)(cs:List Str)(g:List D->Fs->Res Fs)(E:XK)(t:TA):TE:=λσ H Q=>∃C,mg c=some 05/\ZvM C (spI K mg n cs g) [] E t σ H Q
section
variable {c:Str} {cs:List Str} {g:List D->Fs->Res Fs} {t:TA} {ma:MA}
def Ztl(hm:mg c=some 05)(hc:cs.contains c=true)(ha:SA K mg E t ma)(hl:SAn n ma):SE K mg E (ZqX K mg c n cs g E t) (make c g ma):=by
 intro F0 H0 F H σ ρ rr;refine Ans.imp ?_ λQ q=>⟨C,hm,q⟩;refine (ha F0 H0 F H σ ρ rr).bindE λD G B A Y T S=>?_;have y:=S.length.trans (hl ρ D G);have l:∀x b,A x=none->A b=none->b≠x->B x=none/\B b=none/\Same B (upd (upd A b (.own x)) x (.ins C b []))/\del (upd (upd A b (.own x)) x (.ins C b [])) x=upd A b (.own x):=by
  intro x b m d i;refine ⟨T.s.free m,T.s.free d,λa o e=>?_,?_⟩
  ·have z:=T.s a o e;rw [Zaf (Zai z m),Zaf (Zai z d)];exact z
  ·funext a;by_cases h:a=x
   ·subst h;rw [Zg4,Zaf (Ne.symm i)];exact m.symm
   ·rw [ZeG h,Zaf h]
 cases eg:g D [] with
 | bad=>trivial
 | ex ec=>
  intro Q q x b m d i;obtain ⟨N,W,P,I⟩:=l x b m d i;refine ⟨by simp [y],x,b,C,c,Y,[],B,D,[],by simp,hc,hm,Zah,N,P,S,⟨rfl,.nil⟩,(by rw [eg];intro z;cases z),(λR e=>by rw [eg] at e;cases e),λe' w p L k Ce j O v M=>?_⟩;rw [eg] at w;cases w;rw [I] at j;refine q p L Ce ⟨j.f,j.s,λa o J r=>?_,j.z⟩ M;exact j.o a o J (by rw [Zaf (Zai r d)];exact r)
 | ok fl=>
  intro Q q x b m d i;obtain ⟨N,W,P,I⟩:=l x b m d i;refine ⟨by simp [y],x,b,C,c,Y,[],B,D,[],by simp,hc,hm,Zah,N,P,S,⟨rfl,.nil⟩,(by rw [eg];intro z;cases z),(λR e p L k j O v U=>?_),λe' w=>by rw [eg] at w;cases w⟩;rw [eg] at e;cases e;rw [I] at j;obtain ⟨X,d2⟩:=j.o b _ W Zah;refine ⟨rfl,q (upd (upd p b (.own x)) x (.ins C b k)) L (.ref x) ⟨?_,?_,λa o J r=>?_,λa o u e=>j.z a o u (ZgC (λ_ _ z=>by cases z) (ZgC (λ_ _ z=>by cases z) e))⟩ ?_⟩
  ·refine (j.f.trans (ZaV X _)).trans (ZaV ?_ _);rw [Zaf (Ne.symm i)];exact O
  ·intro a o e;by_cases ha:a=x
   ·subst ha;rw [Zah] at e;cases e;exact v
   ·rw [Zaf ha] at e;by_cases hb:a=b
    ·subst hb;rw [Zah] at e;cases e;exact d2
    ·rw [Zaf hb] at e;exact j.s a o e
  ·have n1:a≠x:=Zai r m;have V:=Zai r d;obtain ⟨q1,Z⟩:=j.o a o J (by rw [Zaf V];exact r);rw [Zaf n1,Zaf V];exact ⟨q1,Z⟩
  ·have sF:Same p (upd (upd p b (.own x)) x (.ins C b k)):=(ZaV X _).trans (ZaV (by rw [Zaf (Ne.symm i)];exact O) _);have z:Rp K mg (upd (upd p b (.own x)) x (.ins C b k)) (.ref x) (.ins c (k.map (·.1)) (fl.map (·.2))):=.ins hm Zah (by rw [Zaf i,Zah]) rfl (U.rv.same sF);rw [U.nm] at z;exact z
end
section
variable {l:Nat} {c:Str} {cs:List Str} {g:List D->Fs->Res Fs} {t:TA} {ma:MA} {p:Pos}
def ZlL(M:CalI X.prog X.w X.K X.mg X.base k c n cs g)(hr:Room l X.A)(hn:k+1<=l)(hg:Gl X c)(hx:Zdg (CXR X.prog X.w) X E)(ha:DA X E n (e::es) t ma)(hdb:ND c:=by decide)(he:011:=by rfl)(hpl:(backTo pos (starEach es X.env)).any (·.1)=false:=by rfl) :
  DE X E (.Call (.Name c p) (e::es) [] pos) (ZqX X.K X.mg c n cs g E t) (make c g ma):=by
 obtain ⟨C,f,o,r,b,m,F,j,i⟩:=M.ex;refine ⟨?_,Ztl b i ha.s ha.n⟩;intro a s σ H Q I ⟨q,d,h⟩;rw [b] at d;cases d;exact Zsz m F (hr.mono hn) hg b j .nil hx ha.p hdb he hpl a s σ H Q I h
end
end L2.Ds
namespace Dl
def fstr(a b:Str)(e:ME):ME:=λρ=>(e ρ).bind λd=>match d with
 | .int i=>if (0<=i/\i<10)/\a.length+b.length<=1000 then .ok (.str (a++Str.ofString (toString i)++b)) else .bad
 | _=>.bad
end Dl
namespace L2
open PySem.Calls
def tFs(a b:Str)(te:TE):TE:=λσ H Q=>te σ H λx c=>∃i,x=.int i/\(0<=i/\i<10)/\a.length+b.length<=1000/\Q (.str (a++Str.ofString (toString i)++b)) c
def ZtX{k:Int}(h:0<=k/\k<10):(Str.ofString (toString k)).length=1:=by
 have z:∀n:Fin 10,(Str.ofString (toString ((n.1:Nat):Int))).length=1:=by decide +kernel
 rw [<-Int.toNat_of_nonneg h.1];exact z ⟨k.toNat,by omega⟩
def Zif(a):Str.empty++a=a:=by
 cases a with
 | mk cps=>
  show Str.mk (#[]++cps)=_;rw [Array.empty_append]
def ZsY{i j}(key:a.length+b.length<=1000)(he:PE X e te):PE X (.JoinedStr [.Constant (.str a) i p1,.FormattedValue e (-1) none p2,.Constant (.str b) j p3] pos) (tFs a b te):=by
 intro c s σ H Q I h;have m:2000<=sizeLine:=by decide
 refine wpAny_JoinedStr ?_;refine thn (Zle c s σ H (λv d=>v=.str a/\d=H) I ⟨rfl,rfl⟩) λu s1 zq=>?_;obtain ⟨x,d,I1,rx,ex,eh⟩:=zq;subst ex eh;obtain ⟨t,rfl⟩:=rx;refine ⟨a,t,rfl,by rw [Zif];omega,?_⟩;refine wpAny_FormattedValue_plain (thn (he c s1 σ d _ I1 h) λu s2 zq=>?_);obtain ⟨x,H2,I2,rx,k,ex,hk,hl,q⟩:=zq;subst ex;obtain ⟨o,rfl⟩:=rx;have f:k.natAbs.log2<1920:=Vbs (Nat.log2_le_self _) 000;have n:=ZtX hk;refine PyProof.Rows.formatField_int_small f ⟨Str.ofString (toString k),_,rfl,by rw [Zif,strLen_append];omega,?_⟩;refine thn (Zle c _ σ H2 (λv d=>v=.str b/\d=H2) (I2.tok _) ⟨rfl,rfl⟩) λu s3 zq=>?_;obtain ⟨x,H3,I3,rx,ex,eh⟩:=zq;subst ex eh;obtain ⟨l,rfl⟩:=rx;have g:(Str.empty++a++Str.ofString (toString k)++b).length<=sizeLine:=by
  rw [Zif,strLen_append,strLen_append];omega
 refine ⟨b,l,rfl,g,g,?_⟩;rw [Zif];exact ⟨.str (a++Str.ofString (toString k)++b),H3,I3.tok _,⟨_,rfl⟩,q⟩
end L2
namespace L2.Ds
open PySem.Calls Dl
def Ztr(he:SE K mg E te me):SE K mg E (tFs a b te) (fstr a b me):=by
 intro k l F H σ ρ c;refine (he k l F H σ ρ c).bind λj f x d g e=>?_;cases d with
 | int i=>
  cases e;show Ans mg E (Rp K mg) j f (if (0<=i/\i<10)/\a.length+b.length<=1000 then .ok (.str (a++Str.ofString (toString i)++b)) else .bad) _
  by_cases h:(0<=i/\i<10)/\a.length+b.length<=1000
  ·rw [iP h];exact .ret g.s (.str _) λQ q=>⟨i,rfl,h.1,h.2,q⟩
  ·rw [iN h];trivial
 | _=>trivial
def Zvl{i j}(he:DE X E e te me)(key:a.length+b.length<=1000:=by decide +kernel):DE X E (.JoinedStr [.Constant (.str a) i p1,.FormattedValue e (-1) none p2,.Constant (.str b) j p3] pos) (tFs a b te) (fstr a b me):=⟨ZsY key he.p,Ztr he.s⟩
end L2.Ds
namespace L2
structure Zia(k:Nat)(A:Around):Prop where
 dp:A.depth+3*k+5<recursionLimit
 un:A.units+16*k+200<cLine
def ZqV(A:Around):Around:={ A with handled:=none }
def Room.h(r:Room k A)(v):Zia k (A.mark v):=⟨r.dp,r.un⟩
abbrev ZsD(CX:CXT)(P:Program)(w:World)(K:W.Frag)(mg:001)(base:Heap)(N:List Str)(qual:Str)(scope:Scope)(f:Addr)(cd:Value)(A:Around)(outer:List Env)(s:Shared)(H:Hp)(E:XK):Cx :=
 { cxOf CX P w K mg base N qual scope f cd A outer s H E with calm:=false }
structure Zo6(P:Program)(w:World)(K:W.Frag)(mg:001)(base:Heap)(CX:CXT)(k:Nat)(f:Addr)(fd:FuncData)(ps:List Str)(sp:Sp):Prop where
 len:∀vs H Q E,sp vs H Q E->vs.length=ps.length
 run:∀(A:Around) (outer:List Env) (s:Shared) (H:Hp) (args:Args) (us:List Value) (vs:List V) (Q:VK) (E:XK),Zia k A->Env0 P w K mg base A outer s H->BindsTo s fd args (ps.zip us)->Vals vs us->sp vs H Q E ->
  codeAny (model P w) A (.call (.ref f) args) (CR CX outer P w H s Q E) s
section
variable{CX:CXT} {qual:Str} {scope:Scope} {f:Addr} {cd:Value} {outer:List Env} {s1:Shared} {vs:List V}
def Zmr(S:Zag N ps scope)(e0:Env0 P w K mg base A outer s H)(hl:vs.length=ps.length)(r:Vals vs us)(x:InCallC s s.heap.objs.size (bindL (envOfC qual scope s.heap.objs.size f cd).kindOf (ps.zip us) λ_=>none) (cellsFrom (s.heap.objs.size+1) scope.names []) (bindC (envOfC qual scope s.heap.objs.size f cd).kindOf (ps.zip us) λ_=>none) s1) :
  Inv (ZsD CX P w K mg base N qual scope f cd A outer s H E) [] (start N vs) H s1:=by
 have a:Env0 P w K mg base (ZqV A) outer s H:=⟨e0.frames,e0.mod,e0.bs,e0.bsz,e0.funs,e0.frf,e0.hok,e0.bare⟩;have I:=Zjc (CX:=CX) (E:=E) S rfl a hl r x;have ok:=I.ok;exact ⟨⟨ok.mod,ok.kind,ok.glob,ok.blt,ok.above,ok.inj,ok.has,ok.cab,(λz=>nomatch z),Around.frames_deeper e0.frames,ok.stk,ok.exf,ok.bs,ok.bsz,ok.noex,ok.exfs,ok.funs,ok.frf⟩,I.os,I.bare,I.base,I.loc,I.cell,I.free,I.freeC,I.pin,I.hok,I.len⟩
end
def ZuW{CX:CXT}{f:Addr}{name qual:Str}{params:Arguments}{body:List Stmt}{scope:Scope}{dV kV doc pm cdv ct oc:Value}{an od:Option Addr}{osl:Array (Option Value)}{sp:Sp}(lk:K.lookup f=some ⟨oc,od,.func (W.fnOf name qual params body scope dV kV doc pm an cdv ct),osl⟩)(hcd:W.codeIn K cdv qual=true)(S:Zag N ps scope)(len:∀vs H Q E,sp vs H Q E->vs.length=ps.length) (hbody:∀(A:Around) (outer:List Env) (s:Shared) (H:Hp) (vs:List V) (Q:VK) (E:XK),Zia k (A.deeper (envOfC qual scope s.heap.objs.size f cdv))->sp vs H Q E ->
   ∃t,PSs (ZsD CX P w K mg base N qual scope f cdv A outer s H E) body t/\t { nx:=λ_ H'=>Q .non H',rt:=Q } (start N vs) H) :
  Zo6 P w K mg base CX (k+1) f (W.fnOf name qual params body scope dV kV doc pm an cdv ct) ps sp:=by
 refine ⟨len,λA outer s H l T vs Q E j d M r g=>?_⟩;have B:=len _ _ _ _ g;have m:=d.mod.kin.keeps λb o e=>(d.bs b o e).1;have a:∀y∈ps.zip T,scope.names.lookup y.1=some .local\/(scope.names.lookup y.1=some .cell/\((cellsFrom (s.heap.objs.size+1) scope.names []).lookup y.1).isSome=true):=by
  rintro ⟨n,v⟩ G;rcases S.par n (List.of_mem_zip G).1 with q | q
  ·left;exact q
  ·right;exact ⟨q,W.cellsFrom_some _ _ _ (.inl q)⟩
 refine codeAny_call_function (by have:=j.dp;omega) (m _ _ lk) rfl S.co S.gen rfl (W.codeRec_of m hcd) (M _ _ _ _ (wpAny_newFunctionEnv_cells S.kind a λz L p x=>?_));subst L;have i:Zia k (A.deeper (envOfC qual scope s.heap.objs.size f cdv)):=⟨by have:=j.dp;show A.depth+1+3*k+5<_;omega,by have:=j.un;show A.units+3+16*k+200<_;omega⟩;obtain ⟨t,C,O⟩:=hbody A outer s H vs Q E i g;have I:Inv (ZsD CX P w K mg base N qual scope f cdv A outer s H E) [] (start N vs) H p:=Zmr S d B r x;refine ⟨(d.mod.nolimit.keeps λb o e=>(d.bs b o e).1).keeps x.toInCall.keep,codeAny_func (Vax (C [] p (start N vs) H _ I O) (λD F c=>?_) λe F c=>c)⟩;cases D with
 | ret u=>
  obtain ⟨v,h,H',J,R,q⟩:=c;exact ⟨v,H',J.os,J.bare,J.base,J.hok,R,q⟩
 | next=>
  obtain ⟨h,H',J,q⟩:=c;exact ⟨V.non,H',J.os,J.bare,J.base,J.hok,rfl,q⟩
 | brk=>
  obtain ⟨_,_,_,q⟩:=c;exact q.elim
 | cont=>
  obtain ⟨_,_,_,q⟩:=c;exact q.elim
end L2
namespace L2.Ds
open Dl
section
variable {G Gb F:Hp} {x:V}
def ZsV(h:noEx r=.ok a):r=.ok a:=by
 cases r with
 | ok b=>exact h
 | ex c=>cases h
 | bad=>cases h
def Zsp{r:Res α}(h:r.bind f=.ok b):∃a,r=.ok a/\f a=.ok b:=by
 cases r with
 | ok a=>exact ⟨a,rfl,h⟩
 | ex c=>cases h
 | bad=>cases h
end
end L2.Ds
namespace L2
open PySem.W
def objX(a:Addr)(o:Obj):HO:=.ext λh=>h.get? a=some o
def ZtY{P:Program}{w:World}{H:Hp}{h:Heap}{a:Addr}{o:Obj}(e:h.get? a=some o):Zdl P w H h a (objX a o):=⟨e,⟨o,e⟩,λ_ _ x k=>k o x⟩
def ZpA{P:Program}{w:World}{H:Hp}{h:Heap}{a:Addr}{o:Obj}(x:HOk P w H h)(e:H a=some (objX a o)):h.get? a=some o:=(show _/\_ from x a _ e).1
end L2
namespace Dl
def firsts(kf:Nat->List Int):Nat->List (List Int)
 | 0=>[]
 | i+1=>if kf i∈firsts kf i then firsts kf i else firsts kf i++[kf i]
def intsOf:List D->Option (List Int)
 | []=>some []
 | .int n::r=>(intsOf r).map (n::·)
 | _::_=>none
def keysOf:List D->Option (List (List Int))
 | []=>some []
 | .tup ds::r=>(intsOf ds).bind λk=>(keysOf r).map (k::·)
 | _::_=>none
def Zkx:D->Res D
 | .lst ds=>match keysOf ds with
  | some ks=>if ds.length<=16 then .ok (.int ((firsts (λi=>ks.getD i []) ds.length).length:Nat)) else .bad
  | none=>.bad
 | _=>.bad
end Dl
namespace L2.Sx
open PySem.SetTable
def adv(m:Nat)(p:Probe):Probe :=
 if p.more>0 then { p with j:=p.j+1,more:=p.more - 1 } else
 { p with j:=(leap m p.i p.perturb).1,more:=runEnd m (leap m p.i p.perturb).1 - (leap m p.i p.perturb).1,i:=(leap m p.i p.perturb).1,perturb:=(leap m p.i p.perturb).2 }
def ZhZ(t:SetTable)(p:Probe):t.advance p=adv t.mask p:=rfl
def run(m i pt:Nat):Probe:={ j:=i,more:=runEnd m i - i,i,perturb:=pt,dummy:=none }
inductive Rch(m:Nat)(occ:Nat->Prop):Probe->Nat->Prop
 | here (p:Probe):Rch m occ p p.j
 | next {p:Probe} {j:Nat}:occ p.j->Rch m occ (adv m p) j->Rch m occ p j
def Rch.mono(h:∀j,occ j->occ' j)(r:Rch m occ p j):Rch m occ' p j:=by
 induction r with
 | here p=>exact .here p
 | next o _ ih=>exact .next (h _ o) ih
def Ze6(m:Nat)(occ:Nat->Prop):Nat->Probe->Prop
 | 0,p=>¬occ p.j
 | n+1,p=>¬occ p.j\/Ze6 m occ n (adv m p)
def advs(m:Nat):Nat->Probe->Probe
 | 0,p=>p
 | n+1,p=>advs m n (adv m p)
def Ze6.of:∀{n:Nat} {p:Probe},¬occ (advs m n p).j->Ze6 m occ n p
 | 0,_,h=>h
 | _+1,_,h=>.inr (Ze6.of h)
def Ze6.mono:∀{n n':Nat} {p:Probe},n<=n'->Ze6 m occ n p->Ze6 m occ n' p
 | 0,0,_,_,h=>h
 | 0,_+1,_,_,h=>.inl h
 | n+1,0,_,hl,_=>by omega
 | n+1,n'+1,_,hl,h=>h.elim .inl λh=>.inr (Ze6.mono 000 h)
def Zgn(m):∀a b p,advs m (a+b) p=advs m b (advs m a p)
 | 0,b,p=>by rw [Nat.zero_add];rfl
 | a+1,b,p=>by rw [Nat.add_right_comm];exact Zgn m a b (adv m p)
def Zfy(m i pt):∀k,k<=runEnd m i - i->advs m k (run m i pt)={ j:=i+k,more:=runEnd m i - i - k,i,perturb:=pt,dummy:=none }
 | 0,_=>rfl
 | k+1,h=>by
  rw [Zgn m k 1,Zfy m i pt k 000];show adv m _=_;unfold adv;rw [iP (show runEnd m i - i - k>0 by omega)];simp only [Probe.mk.injEq,and_true];omega
def ZkU(m i pt):advs m (runEnd m i - i+1) (run m i pt)=run m (leap m i pt).1 (leap m i pt).2:=by
 rw [Zgn m (runEnd m i - i) 1,Zfy m i pt _ (VaN _)];show adv m _=_;unfold adv;rw [iN 03];rfl
def ZsA(m i):runEnd m i - i+1<=10:=by
 unfold runEnd;split<;>omega
def Zdh(m:Nat):Nat->Nat×Nat->Nat×Nat
 | 0,p=>p
 | n+1,p=>Zdh m n (leap m p.1 p.2)
def ZiZ(m):∀a b p,Zdh m (a+b) p=Zdh m b (Zdh m a p)
 | 0,b,p=>by rw [Nat.zero_add];rfl
 | a+1,b,p=>by rw [Nat.add_right_comm];exact ZiZ m a b _
def Zjf(m):∀n i pt,∃k,k<=10*n/\advs m k (run m i pt)=run m (Zdh m n (i,pt)).1 (Zdh m n (i,pt)).2
 | 0,i,pt=>⟨0,VaN _,rfl⟩
 | n+1,i,pt=>by
  obtain ⟨k,a,e⟩:=Zjf m n (leap m i pt).1 (leap m i pt).2;refine ⟨(runEnd m i - i+1)+k,?_,?_⟩
  ·have:=ZsA m i;omega
  ·rw [Zgn,ZkU,e];rfl
def ZjK(m):∀n i pt,(Zdh m n (i,pt)).2=pt/32^n
 | 0,i,pt=>by rw [Nat.pow_zero,Nat.div_one];rfl
 | n+1,i,pt=>by
  show (Zdh m n (leap m i pt)).2=_;have e:=ZjK m n (leap m i pt).1 (leap m i pt).2;have z:Zdh m n (leap m i pt)=Zdh m n ((leap m i pt).1,(leap m i pt).2):=rfl;rw [z,e];show pt/32/32^n=pt/32^(n+1);rw [Nat.div_div_eq_div_mul,Nat.pow_succ,Nat.mul_comm]
def ZlG(m):∀n i pt,i<=m->(Zdh m n (i,pt)).1<=m
 | 0,i,pt,h=>h
 | n+1,i,pt,h=>by
  show (Zdh m n ((leap m i pt).1,(leap m i pt).2)).1<=m;exact ZlG m n _ _ (by unfold leap;have:=Nat.mod_lt (i*5+1+pt/32) (show 0<m+1 by omega);simp only [];omega)
def ZmT(h):bits h<2^64:=by
 unfold bits;have a:=Int.emod_nonneg h (show ((2:Int)^64)≠0 by decide);have b:=Int.emod_lt_of_pos h (show (0:Int)<2^64 by decide);omega
def cyc7:∀i≤7,∀e≤7,∃k≤7,(Zdh 7 k (i,0)).1=e:=by decide +kernel
def Zxp:∀i≤31,∀e≤31,∃k≤31,(Zdh 31 k (i,0)).1=e:=by decide +kernel
def Mk(m:Nat):Prop:=m=7\/m=31
def cyc(hm:Mk m):∀i≤m,∀e≤m,∃k≤m,(Zdh m k (i,0)).1=e:=by
 rcases hm with rfl | rfl
 ·exact cyc7
 ·exact Zxp
def cover(hm:Mk m){e:Nat}(hi:i<=m)(hp:pt<2^64)(he:e<=m):∃n,n<=13+m/\(Zdh m n (i,pt)).1=e:=by
 have a:(Zdh m 13 (i,pt)).2=0:=by
  rw [ZjK];exact Nat.div_eq_of_lt (Vag hp 00)
 obtain ⟨k,c,b⟩:=cyc hm _ (ZlG m 13 i pt hi) e he;refine ⟨13+k,by omega,?_⟩;rw [ZiZ];have z:Zdh m 13 (i,pt)=((Zdh m 13 (i,pt)).1,0):=by rw [<-a]
 rw [z];exact b
def ends(hm:Mk m){e:Nat}(hi:i<=m)(hp:pt<2^64)(he:e<=m)(ho:¬occ e):Ze6 m occ (10*(13+m)) (run m i pt):=by
 obtain ⟨n,c,a⟩:=cover hm hi hp he;obtain ⟨k,d,b⟩:=Zjf m n i pt;refine Ze6.mono (n:=k) 000 (Ze6.of ?_);rw [b];rw [a];exact ho
def Zh9(xs:Array Nat)(j:Nat)(h:xs.toList.Pairwise (· < ·)):∀fuel lo hi,lo<=hi->hi<=xs.size->hi - lo<=fuel->(∀i q,i<lo->xs[i]<j)->(∀i q,hi<=i->¬xs[i]<j) ->
  below.go xs j fuel lo hi<=xs.size/\∀i q,xs[i]<j↔i<below.go xs j fuel lo hi
 | 0,lo,hi,h1,h2,h3,h4,h5=>by
  have e:lo=hi:=by omega
  subst e;exact ⟨h2,λi hi=>⟨λz=>Nat.lt_of_not_le λq=>h5 i hi q z,λz=>h4 i hi z⟩⟩
 | fuel+1,lo,hi,h1,h2,h3,h4,h5=>by
  unfold below.go;by_cases hl:lo<hi
  ·rw [iP hl];simp only [];have f:(lo+hi)/2<xs.size:=by omega
   have k:∀a b (g:a<xs.size) (l:b<xs.size),a<b->xs[a]<xs[b]:=λa b g l d=>by
    have:=Vb2.mp h a b (by simpa using g) (by simpa using l) d;simpa using this
   have m:xs.getD ((lo+hi)/2) j=xs[(lo+hi)/2]:=by simp [Array.getD,f]
   rw [m];by_cases hc:xs[(lo+hi)/2]<j
   ·rw [iP hc];refine Zh9 xs j h fuel ((lo+hi)/2+1) hi 000 h2 000 (λi c z=>?_) h5;by_cases hz:i<(lo+hi)/2
    ·exact Vbu (k i _ c f hz) hc
    ·have:i=(lo+hi)/2:=by omega
     subst this;exact hc
   ·rw [iN hc];refine Zh9 xs j h fuel lo ((lo+hi)/2) 000 000 000 h4 λi c z=>?_;by_cases hz:(lo+hi)/2<i
    ·have:=k _ i f c hz;omega
    ·have:i=(lo+hi)/2:=by omega
     subst this;exact hc
  ·rw [iN hl];have e:lo=hi:=by omega
   subst e;exact ⟨h2,λi hi=>⟨λz=>Nat.lt_of_not_le λq=>h5 i hi q z,λz=>h4 i hi z⟩⟩
def ZhK{xs:Array Nat}(j)(h:xs.toList.Pairwise (· < ·)):below xs j<=xs.size/\∀i hi,xs[i]<j↔i<below xs j :=
 Zh9 xs j h xs.size 0 xs.size (Va0 _) (VaN _) 000 (λ_ _ z=>by omega) λi hi z=>by omega
abbrev En:Type:=Nat×Int×Value
def Occ(l:List En)(j:Nat):Prop:=∃e∈l,e.1=j
abbrev st0(m:Nat)(h:Int):Probe:=run m (bits h%(m+1)) (bits h)
structure Tb(t:SetTable)(es:Array (Int×Value))(l:List En):Prop where
 ms:Mk t.mask
 pl:t.place.toList=l.map (·.1)
 el:es.toList=l.map (·.2)
 du:t.dummies=#[]
 up:l.Pairwise λa b=>a.1<b.1
 le:∀e∈l,e.1<=t.mask
 rc:∀e∈l,Rch t.mask (Occ l) (st0 t.mask e.2.1) e.1
section
variable{t:SetTable}{es:Array (Int×Value)}{l:List En}
def Tb.plP(T:Tb t es l):t.place.toList.Pairwise (· < ·):=by rw [T.pl,List.pairwise_map];exact T.up
def Tb.size(T:Tb t es l):t.place.size=l.length:=by rw [<-Vaz,T.pl,VaX]
def Tb.esize(T:Tb t es l):es.size=l.length:=by rw [<-Vaz,T.el,VaX]
def Tb.at(T:Tb t es l)(hi:i<t.place.size):t.place[i]=(l[i]'(by rw [<-T.size];exact hi)).1:=by
 have e:t.place.toList[i]'(by simpa using hi)=(l.map (·.1))[i]'(by rw [VaX,<-T.size];exact hi):=by
  congr 1;exact T.pl
 simpa using e
def Tb.live(T:Tb t es l){e:En}(h:l[i]?=some e):t.slot e.1=.live i:=by
 obtain ⟨d,rfl⟩:=Vaw.mp h;have a:i<t.place.size:=by rw [T.size];exact d
 obtain ⟨j,c⟩:=ZhK l[i].1 T.plP;have f:=Vb2.mp T.up;have g:below t.place l[i].1=i:=by
  rcases Nat.lt_trichotomy (below t.place l[i].1) i with z | z | z
  ·have b:below t.place l[i].1<t.place.size:=by omega
   have:=f _ i (by rw [<-T.size];exact b) d z;have q:=(c _ b).mp (by rw [T.at b];exact this);omega
  ·exact z
  ·have q:=(c i a).mpr z;rw [T.at a] at q;omega
 unfold slot;simp only [];rw [g,iP];rw [Vb3 a,T.at a];simp
def Tb.noDummy(T:Tb t es l)(j):has t.dummies j=false:=by
 rw [T.du];unfold has;simp
def Tb.empty(T:Tb t es l)(h:¬Occ l j):t.slot j=.empty:=by
 unfold slot;simp only [];rw [iN,T.noDummy,iN VaJ];intro z;have z:=eq_of_beq z;obtain ⟨a,e⟩:=Vby.mp z;rw [T.at a] at e;exact h ⟨_,VbU _,e⟩
def Tb.occ(T:Tb t es l)(h:Occ l j):∃i e,l[i]?=some e/\e.1=j/\t.slot j=.live i:=by
 obtain ⟨e,b,rfl⟩:=h;obtain ⟨i,a,rfl⟩:=VbV.mp b;exact ⟨i,_,VbL a,rfl,T.live (VbL a)⟩
def Zfa(xs:Array α)(p:Nat)(x:α)(hp:p<=xs.size):(insertAt xs p x).toList=xs.toList.take p++x::xs.toList.drop p:=by
 unfold insertAt;simp [Array.toList_extract,List.extract_eq_drop_take];exact VbH 03
def Tb.put(T:Tb t es l){x:Value}(hj:j<=t.mask)(ho:¬Occ l j)(hr:Rch t.mask (Occ l) (st0 t.mask h) j) :
  ∃l',List.Perm l' ((j,h,x)::l)/\Tb (t.put j).1 (insertAt es (t.put j).2 (h,x)) l':=by
 obtain ⟨p,s⟩:=ZhK j T.plP;have w:(t.put j).2=below t.place j:=rfl;have u:(t.put j).1={ t with place:=insertAt t.place (below t.place j) j,dummies:=t.dummies }:=by
  unfold SetTable.put;simp only [];rw [T.noDummy,iN VaJ]
 have n:List.Perm (l.take (below t.place j)++(j,h,x)::l.drop (below t.place j)) ((j,h,x)::l):=by
  refine List.perm_middle.trans ?_;rw [Vb4]
 have f:∀k,Occ l k->Occ (l.take (below t.place j)++(j,h,x)::l.drop (below t.place j)) k:=λk ⟨e,he,q⟩=>⟨e,n.mem_iff.mpr (Var _ he),q⟩;refine ⟨l.take (below t.place j)++(j,h,x)::l.drop (below t.place j),n,?_⟩;rw [w,u];refine ⟨T.ms,?_,?_,T.du,?_,λe he=>?_,λe he=>?_⟩
 ·show (insertAt t.place (below t.place j) j).toList=_;rw [Zfa _ _ _ p,T.pl];simp [List.map_take,List.map_drop]
 ·rw [Zfa _ _ _ (by rw [T.esize,<-T.size];exact p),T.el];simp [List.map_take,List.map_drop]
 ·have d:∀e∈l.take (below t.place j),e.1<j:=λe he=>by
   obtain ⟨i,o,rfl⟩:=VbV.mp he;have m:i<below t.place j/\i<l.length:=by rw [Va8] at o;omega
   have g:i<t.place.size:=by rw [T.size];exact m.2
   have:=(s i g).mpr m.1;rw [T.at g] at this;simpa using this
  have c:∀e∈l.drop (below t.place j),j<e.1:=λe he=>by
   obtain ⟨i,o,rfl⟩:=VbV.mp he;rw [Vbk] at o;have g:below t.place j+i<t.place.size:=by rw [T.size];omega
   have v:=λz=>by have:=(s _ g).mp z;omega
   rw [T.at g] at v;have y:(l[below t.place j+i]'(by rw [<-T.size];exact g)).1≠j:=λz=>ho ⟨_,VbU _,z⟩;rw [List.getElem_drop];omega
  rw [List.pairwise_append];refine ⟨T.up.sublist (List.take_sublist _ _),?_,λa r b hb=>?_⟩
  ·rw [List.pairwise_cons];exact ⟨λb hb=>c b hb,T.up.sublist (List.drop_sublist _ _)⟩
  ·rcases Vat.mp hb with rfl | hb
   ·exact d a r
   ·exact Vbu (d a r) (c b hb)
 ·rcases Vat.mp (n.mem_iff.mp he) with rfl | he
  ·exact hj
  ·exact T.le e he
 ·rcases Vat.mp (n.mem_iff.mp he) with rfl | he
  ·exact hr.mono f
  ·exact (T.rc e he).mono f
end
section
variable{t:SetTable}{es:Array (Int×Value)}{l:List En}{h:Int}{ha:Nat->Int}
def HAt(l:List En)(ha:Nat->Int):Prop:=∀i e,l[i]?=some e->ha i=e.2.1
def Zgy(T:Tb t es l)(hh:HAt l ha):∀n fuel p,p.dummy=none->Ze6 t.mask (Occ l) n p->n<fuel ->
  (∃j,probe.go t ha h fuel p=some (.empty j none)/\¬Occ l j/\Rch t.mask (Occ l) p j/\∀e∈l,e.2.1=h->¬Rch t.mask (Occ l) p e.1) \/
  (∃i e p' n',probe.go t ha h fuel p=some (.candidate e.1 i (adv t.mask p'))/\l[i]?=some e/\e.2.1=h/\p'.j=e.1/\p'.dummy=none/\n'<n/\Ze6 t.mask (Occ l) n' (adv t.mask p')/\(∀j,Rch t.mask (Occ l) (adv t.mask p') j->Rch t.mask (Occ l) p j)/\∀e'∈l,e'.2.1=h->e'≠e->Rch t.mask (Occ l) p e'.1->Rch t.mask (Occ l) (adv t.mask p') e'.1)
 | n,0,p,_,_,hf=>by omega
 | n,fuel+1,p,hd,hE,hf=>by
  by_cases ho:Occ l p.j
  ·obtain ⟨i,e,w,d,B⟩:=T.occ ho;cases n with
   | zero=>exact aB ho hE
   | succ n=>
    have u:=hE.resolve_left λz=>z ho;have s:(adv t.mask p).dummy=none:=by unfold adv;split<;>exact hd
    unfold probe.go;rw [B];simp only [];have f:∀e'∈l,e'.1=e.1->e'=e:=λe' b q=>by
     obtain ⟨a,g,rfl⟩:=VbV.mp b;obtain ⟨A,rfl⟩:=Vaw.mp w;have y:=Vb2.mp T.up;rcases Nat.lt_trichotomy a i with z | z | z
     ·have:=y a i g A z;omega
     ·subst z;rfl
     ·have:=y i a A g z;omega
    have x:∀{j:Nat},Rch t.mask (Occ l) p j->j≠p.j->Rch t.mask (Occ l) (adv t.mask p) j:=λ{j} r m=>by
     cases r with
     | here=>exact aB rfl m
     | next _ r=>exact r
    by_cases hq:ha i=h
    ·rw [iP (by rw [hq];exact beq_self_eq_true h)];right;refine ⟨i,e,p,n,by rw [ZhZ,d],w,by rw [<-hh i e w];exact hq,d.symm,hd,by omega,u,λj r=>.next ho r,λe' b _ m r=>x r λz=>m (f e' b (by rw [z,d]))⟩
    ·rw [iN (by intro z;exact hq (eq_of_beq z)),ZhZ];have v:e.2.1≠h:=by rw [<-hh i e w];exact hq
     rcases Zgy T hh n fuel (adv t.mask p) s u 000 with ⟨j,e1,e2,e3,e4⟩ | ⟨i',e',p',n',e1,e2,e3,e4,e5,e6,e7,e8,e9⟩
     ·left;refine ⟨j,e1,e2,.next ho e3,λe' b q r=>e4 e' b q (x r λz=>?_)⟩;have:=f e' b (by rw [z,d]);subst this;exact v q
     ·right;refine ⟨i',e',p',n',e1,e2,e3,e4,e5,by omega,e7,λj r=>.next ho (e8 j r),λk c q m r=>e9 k c q m (x r λz=>?_)⟩;have:=f k c (by rw [z,d]);subst this;exact v q
  ·left;unfold probe.go;rw [T.empty ho];simp only [];refine ⟨p.j,by rw [hd],ho,.here p,λe d _ r=>?_⟩;generalize hz:e.1=z at r;cases r with
   | here=>exact ho ⟨e,d,hz⟩
   | next o _=>exact ho o
end
def Zrd:∀{xs ys:List α},xs.Nodup->(∀x∈xs,x∈ys)->xs.length<=ys.length
 | [],_,_,_=>Va0 _
 | x::r,ys,hn,hs=>by
  obtain ⟨a,b,rfl⟩:=List.append_of_mem (hs x Vaq);rw [Va7] at hn;have:=Zrd (ys:=a++b) hn.2 λy c=>by
   rcases Vau.mp (hs y (Var _ c)) with z | z
   ·exact Vav _ z
   ·rcases Vat.mp z with rfl | z
    ·exact aB c hn.1
    ·exact VaQ _ z
  simp at this ⊢;omega
def ZjC{js:01}(h:js.length<=m):∃e,e<=m/\e∉js:=by
 refine Vb5 λz=>?_;have:=Zrd (xs:=List.range (m+1)) List.nodup_range λx a=>Vb5 λq=>z ⟨x,by have:=Vam.mp a;omega,q⟩;rw [VbK] at this;omega
def Zh0:∀{k:Nat} {p:Probe} {j:Nat},(∀k'<k,occ (advs m k' p).j)->Rch m occ (advs m k p) j->Rch m occ p j
 | 0,_,_,_,r=>r
 | k+1,p,j,h,r=>.next (h 0 000) (Zh0 (k:=k) (λk' a=>h (k'+1) 000) r)
def Zr7(hk:k<=runEnd m i - i)(h:∀k'<k,occ (i+k')):Rch m occ (run m i pt) (i+k):=by
 refine Zh0 (k:=k) (λk' a=>?_) ?_
 ·rw [Zfy m i pt k' 000];exact h k' a
 ·rw [Zfy m i pt k hk];exact .here _
def ZpS(h:∀k'≤runEnd m i - i,occ (i+k'))(r:Rch m occ (run m (leap m i pt).1 (leap m i pt).2) j):Rch m occ (run m i pt) j:=by
 refine Zh0 (k:=runEnd m i - i+1) (λk' a=>?_) ?_
 ·rw [Zfy m i pt k' 000];exact h k' 000
 ·rw [ZkU];exact r
structure Ow(m:Nat)(owner:Array (Option Nat))(js:01):Prop where
 sz:owner.size=m+1
 nd:js.Nodup
 le:∀j∈js,j<=m
 is:∀j k,j<=m->(owner[j]?=some (some k)↔js[k]?=some j)
def Ow.none(O:Ow m owner js)(hj:j<=m):(owner.getD j (some 0)).isNone=true↔j∉js:=by
 have a:j<owner.size:=by rw [O.sz];omega
 have c:owner.getD j (some 0)=owner[j]:=by simp [Array.getD,a]
 rw [c];constructor
 ·intro z b;obtain ⟨k,d,e⟩:=VbV.mp b;have:=(O.is j k hj).mpr (by rw [VbL d,e]);rw [Vb3 a] at this;rw [Vac this] at z;exact Bool.noConfusion z
 ·intro z;cases q:owner[j] with
  | none=>rfl
  | some k=>
   have:=(O.is j k hj).mp (by rw [Vb3 a,q]);exact aB (Vbe this) z
def Zhf(h:i<=m):i<=runEnd m i/\runEnd m i<=m:=by
 unfold runEnd;split<;>omega
def Zjn(O:Ow m owner js){e:Nat}(he:e<=m)(hf:e∉js):∀fuel L i pt,i<=m->L<fuel->(Zdh m L (i,pt)).1=e ->
  ∃j,j<=m/\layClean.free m owner fuel i pt=some j/\j∉js/\Rch m (·∈js) (run m i pt) j
 | 0,L,i,pt,_,hl,_=>by omega
 | fuel+1,L,i,pt,hi,hl,hL=>by
  obtain ⟨A,y⟩:=Zhf hi;unfold layClean.free;cases q:(List.range (runEnd m i+1 - i)).find? λk=>(owner.getD (i+k) (some 0)).isNone with
  | some k=>
   obtain ⟨s,h,t,n,u⟩:=List.find?_eq_some_iff_append.mp q;have B:k<runEnd m i+1 - i:=Vam.mp (by rw [n];simp);have g:∀a<k,(owner.getD (i+a) (some 0)).isNone=false:=λa c=>by
    have r:h.length=k:=by
     have:=VaA (λl=>l[h.length]?) n;simp at this;rw [List.getElem?_range (by have:=VaA List.length n;simp at this;omega)] at this;exact Vac this
    have f:a∈h:=by
     have p:(List.range (runEnd m i+1 - i))[a]?=(h++k::t)[a]?:=by rw [n]
     rw [List.getElem?_range 000,Vbc 000] at p;exact Vbe p.symm
    have:=u a f;simpa using this
   refine ⟨i+k,by omega,rfl,(O.none 000).mp s,Zr7 000 λa c=>?_⟩;exact Vb5 λz=>by
    have d:=g a c;rw [(O.none 000).mpr z] at d;exact Bool.noConfusion d
  | none=>
   have b:∀a≤runEnd m i - i,i+a∈js:=λa c=>Vb5 λz=>by
    have d:=List.find?_eq_none.mp q a (Vam.mpr 000);exact d ((O.none 000).mpr z)
   cases L with
   | zero=>
    have:i=e:=hL;subst this;exact aB (b 0 000) hf
   | succ L=>
    have o:(leap m i pt).1<=m:=by
     unfold leap;have:=Nat.mod_lt (i*5+1+pt/32) (show 0<m+1 by omega);omega
    obtain ⟨j,d,x,v,w⟩:=Zjn O he hf fuel L (leap m i pt).1 (leap m i pt).2 o 000 hL;exact ⟨j,d,x,v,ZpS b w⟩
def Ow.put(O:Ow m owner js)(hj:j<=m)(hf:j∉js):Ow m (owner.setIfInBounds j (some js.length)) (js++[j]):=by
 refine ⟨by rw [Array.size_setIfInBounds];exact O.sz,?_,λi d=>?_,λi k d=>?_⟩
 ·rw [List.nodup_append];refine ⟨O.nd,by simp,λa f b c=>?_⟩;rw [VbZ] at c;subst c;rintro rfl;exact hf f
 ·rcases Vau.mp d with z | z
  ·exact O.le i z
  ·rw [VbZ] at z;subst z;exact hj
 ·rw [Array.getElem?_setIfInBounds];have c:j<owner.size:=by rw [O.sz];omega
  by_cases e:j=i
  ·subst e;rw [iP rfl,iP c];constructor
   ·intro z;cases z;simp
   ·intro z;by_cases hk:k<js.length
    ·rw [Vbc hk] at z;exact aB (Vbe z) hf
    ·have:k=js.length:=by
      have:=(Vaw.mp z).1;simp at this;omega
     rw [this]
  ·rw [iN e,O.is i k d];constructor
   ·intro z;rw [Vbc (Vaw.mp z).1];exact z
   ·intro z;by_cases hk:k<js.length
    ·rw [Vbc hk] at z;exact z
    ·have:k=js.length:=by
      have:=(Vaw.mp z).1;simp at this;omega
     subst this;simp at z;exact aB z e
def RcW(m:Nat)(hs:List Int)(js:01):Prop:=∀(k:Nat) (h:Int) (j:Nat),hs[k]?=some h->js[k]?=some j->Rch m (·∈js) (st0 m h) j
def ZkQ(hm:Mk m):∀rest done owner js,Ow m owner js->js.length=done.length->RcW m done js->done.length+rest.length<=m ->
  ∃owner' js',rest.foldl (λacc h=>do
   let (owner,k) <-acc
   let j <-layClean.free m owner (turns m) (bits h%(m+1)) (bits h)
   pure (owner.setIfInBounds j (some k),k+1)) (some (owner,js.length))=some (owner',js'.length)/\Ow m owner' js'/\js'.length=(done++rest).length/\RcW m (done++rest) js'
 | [],done,owner,js,O,hl,hr,_=>⟨owner,js,rfl,O,by rw [Va2];exact hl,by rw [Va2];exact hr⟩
 | h::rest,done,owner,js,O,hl,hr,hle=>by
  simp only [VaU] at hle;obtain ⟨e,f,q⟩:=ZjC (m:=m) (js:=js) 000;have g:bits h%(m+1)<=m:=by
   have:=Nat.mod_lt (bits h) (show 0<m+1 by omega);omega
  obtain ⟨L,w,l⟩:=cover hm g (ZmT h) f;obtain ⟨j,p,r,i,n⟩:=Zjn O f q (turns m) L _ (bits h) g (by unfold turns;omega) l;have o:=O.put p i;have c:RcW m (done++[h]) (js++[j]):=by
   intro k v s a b;by_cases hk:k<done.length
   ·rw [Vbc hk] at a;rw [Vbc 000] at b;exact (hr k v s a b).mono λx d=>Vav _ d
   ·have:k=done.length:=by
     have:=(Vaw.mp a).1;simp at this;omega
    subst this;simp at a;rw [<-hl] at b;simp at b;subst a b;exact n.mono λx d=>Vav _ d
  obtain ⟨owner',js',a,b,u,t⟩:=ZkQ hm rest (done++[h]) _ (js++[j]) o (by simp [hl]) c (by simp;omega);refine ⟨owner',js',?_,b,by rw [u];simp,by simpa using t⟩;rw [List.foldl_cons]
  have z:(do
   let (owner,k) <-some (owner,js.length)
   let j <-layClean.free m owner (turns m) (bits h%(m+1)) (bits h)
   pure (owner.setIfInBounds j (some k),k+1):Option (Array (Option Nat)×Nat))=some (owner.setIfInBounds j (some js.length),(js++[j]).length):=by
   show (layClean.free m owner (turns m) (bits h%(m+1)) (bits h)).bind _=_;rw [r];simp
  rw [z];exact a
def ZoO(hm:Mk m)(hashes)(hl:hashes.size<=m):∃owner js,layClean m hashes=some owner/\Ow m owner js/\js.length=hashes.size/\RcW m hashes.toList js:=by
 have b:Ow m (Array.replicate (m+1) none) []:=⟨by simp,List.nodup_nil,λ_ h=>(VbT h).elim,λj k f=>by
  rw [Array.getElem?_replicate]
  simp [f]⟩
 obtain ⟨owner,js,d,g,c,a⟩:=ZkQ hm hashes.toList [] _ [] b rfl (λk h j e _=>by simp at e) (by simpa using hl);refine ⟨owner,js,?_,g,by simpa using c,by simpa using a⟩;unfold layClean;rw [<-Array.foldl_toList];have z:=VaA (Option.map (·.1)) d;exact z
section
variable{t:SetTable}{es:Array (Int×Value)}{l:List En}
def Znx(O:Ow m owner js)(live)(hlive:live=(List.range (m+1)).filterMap λj=>(owner.getD j none).map (j,·)) :
  live.Pairwise (λa b=>a.1<b.1)/\∀j k,(j,k)∈live↔js[k]?=some j:=by
 have h:∀j k,(j,k)∈live↔js[k]?=some j:=λj k=>by
  rw [hlive,VaP];constructor
  ·rintro ⟨i,n,e⟩;have n:=Vam.mp n;have c:i<owner.size:=by rw [O.sz];exact n
   have l:owner.getD i none=owner[i]:=by simp [Array.getD,c]
   rw [l] at e;cases q:owner[i] with
   | none=>rw [q] at e;cases e
   | some k'=>
    rw [q] at e;simp only [Option.map_some,Option.some.injEq,Prod.mk.injEq] at e;obtain ⟨rfl,rfl⟩:=e;exact (O.is i k' 000).mp (by rw [Vb3 c,q])
  ·intro e;have o:=O.le j (Vbe e);have c:j<owner.size:=by rw [O.sz];omega
   refine ⟨j,Vam.mpr 000,?_⟩;have l:owner.getD j none=owner[j]:=by simp [Array.getD,c]
   have q:=(O.is j k o).mpr e;rw [Vb3 c] at q;rw [l,Vac q];rfl
 refine ⟨?_,h⟩;rw [hlive,List.pairwise_filterMap];refine List.pairwise_lt_range.imp λ{a b} g=>?_;intro x f y d;cases qa:owner.getD a none with
 | none=>rw [qa] at f;cases f
 | some ka=>
  cases qb:owner.getD b none with
  | none=>rw [qb] at d;cases d
  | some kb=>
   rw [qa] at f;rw [qb] at d;cases f;cases d;exact g
def Tb.relay(T:Tb t es l)(hl:l.length<=16)(hw:sizeAbove wanted=32) :
  ∃t' order l',t.relaid (es.map (·.1)) wanted=some (t',order)/\t'.mask=31/\t'.led=t.led/\t'.plain=t.plain/\Tb t' (order.filterMap (es[·]?)) l'/\List.Perm (l'.map (·.2)) (l.map (·.2)):=by
 have F:Mk 31:=.inr rfl;obtain ⟨m,w,H,O,M,G⟩:=ZoO F (es.map (·.1)) (by rw [Array.size_map,T.esize];omega);obtain ⟨c,g⟩ : ∃c,c=(List.range (31+1)).filterMap λj=>(m.getD j none).map (j,·):=⟨_,rfl⟩;obtain ⟨E,d⟩:=Znx O c g;have L:w.length=l.length:=by rw [M,Array.size_map,T.esize]
 have o:∀j k,(j,k)∈c->k<l.length:=λj k h=>by
  have:=(Vaw.mp ((d j k).mp h)).1;omega
 have A:∀k,k<l.length->es[k]?=some ((l.getD k (0,0,.none)).2):=λk s=>by
  rw [<-Vb6,T.el,Vbd,VbL s];simp [List.getD,s]
 obtain ⟨l',f⟩ : ∃l':List En,l'=c.map λp=>(p.1,(l.getD p.2 (0,0,.none)).2):=⟨_,rfl⟩;have B:(c.map (·.2)).Nodup:=by
  unfold List.Nodup;rw [List.pairwise_map];refine List.Pairwise.imp_of_mem (λ{a b} N R J=>?_) E;intro z;have D:=(d a.1 a.2).mp N;have S:=(d b.1 b.2).mp R;rw [z,S] at D;have:=Vac D;omega
 have n:List.Perm (c.map (·.2)) (List.range l.length):=by
  rw [List.perm_ext_iff_of_nodup B List.nodup_range];intro k;rw [Vam];constructor
  ·intro h;obtain ⟨⟨j,U⟩,u,rfl⟩:=Vbw.mp h;exact o j U u
  ·intro h;refine Vbw.mpr ⟨(w[k]'(by omega),k),(d _ _).mpr (VbL 000),rfl⟩
 refine ⟨{ mask:=31,place:=(c.map (·.1)).toArray,dummies:=#[],finger:=t.finger,led:=t.led,moves:=t.movedTo 31,plain:=t.plain },(c.map (·.2)).toArray,l',?_,rfl,rfl,rfl,?_,?_⟩
 ·unfold relaid;rw [hw];unfold laid;rw [H];show some _=some _;rw [g]
 ·have K:∀j,j∈w->Occ l' j:=λj I=>by
   obtain ⟨k,s,rfl⟩:=VbV.mp I;exact ⟨_,by rw [f];exact Vbw.mpr ⟨(w[k],k),(d _ _).mpr (VbL s),rfl⟩,rfl⟩
  refine ⟨F,?_,?_,rfl,?_,λe v=>?_,λe v=>?_⟩
  ·show c.map (·.1)=_;rw [f,VbN];rfl
  ·rw [Array.toList_filterMap];rw [f,VbN,List.filterMap_map];have C:∀q:List (Nat×Nat),(∀x∈q,x.2<l.length)->q.filterMap ((es[·]?) ∘ (·.2))=q.map ((·.2) ∘ λp:Nat×Nat=>((p.1,(l.getD p.2 (0,0,Value.none)).2):En)):=by
    intro q
    induction q with
    | nil=>intro _;rfl
    | cons x r ih=>
     intro h;rw [Vap,VaW,<-ih λy P=>h y (Var _ P)];simp only [Function.comp];rw [A x.2 (h x Vaq)]
   exact C c λx Q=>o x.1 x.2 Q
  ·rw [f,List.pairwise_map];exact E
  ·rw [f] at v;obtain ⟨⟨j,k⟩,u,rfl⟩:=Vbw.mp v;exact O.le j (Vbe ((d j k).mp u))
  ·rw [f] at v;obtain ⟨⟨j,k⟩,u,rfl⟩:=Vbw.mp v;have s:=o j k u;refine (G k _ j ?_ ((d j k).mp u)).mono K;rw [Array.toList_map,T.el,VbN,Vbd,VbL s];simp [List.getD,s]
 ·rw [f,VbN];have e:l.map (·.2)=(List.range l.length).map λk=>(l.getD k (0,0,Value.none)).2:=by
   apply List.ext_getElem?;intro i;by_cases h:i<l.length
   ·simp [h]
   ·simp [h]
  rw [e];have:=n.map λk=>(l.getD k (0,0,Value.none)).2;rw [VbN] at this;exact this
end
section
variable{prog:Program} {E:Value->Shared->Prop}
def items_int(h:ItemsAre (intKind prog w) ks vs):∀v∈vs,∃i t,v=Value.int i t:=by
 induction h with
 | nil=>exact λ_ h=>(VbT h).elim
 | @cons k v ks vs h1 _ ih=>
  intro u hu;rcases Vat.mp hu with rfl | hu
  ·cases u with
   | int i t=>exact ⟨i,t,rfl⟩
   | _=>exact aB h1 (by intro z;exact Bool.noConfusion z)
  ·exact ih u hu
def ZjX(hk:IsTupleKey (intKind prog w) s.heap ks a)(h:Q false s):wpAny 08 A (ofAClassStatement 8 (.ref a)) Q E s:=by
 obtain ⟨o,g,n,k,q,l,m⟩:=hk;have p:s.TypeIs (.ref a) "tuple":=⟨o,k,q⟩;have d:=items_int m;unfold ofAClassStatement;refine VaD (Vbn p ?_);dsimp only;rw [iP 00];refine VaD (VaF ?_);simp only [Bool.not_true,VbF,Vbh];refine VaD (wpAny_seqItems k l ?_);refine VaD ?_;rw [<-Array.forIn_toList];refine wpAny_forIn_list _ (λb r e=>r.1=none/\e=s/\∀v∈b,∃i t,v=Value.int i t) _ ?_ ?_ _ _ ⟨rfl,rfl,d⟩
 ·rintro v b r e ⟨f,rfl,c⟩;obtain ⟨i,t,rfl⟩:=c v Vaq;refine VaD (VaF ?_);simp only [VbF,Vbh];exact VaF ⟨rfl,rfl,λu j=>c u (Var _ j)⟩
 ·rintro ⟨y,x⟩ e ⟨f,rfl,_⟩;simp only at f;subst f;exact VaF h
def ZrX{x:Addr}{ks:List Int}{stored:List Value}{Q:Bool->Shared->Prop}(hx:IsTupleKey (intKind prog w) s.heap ks x)(hs:∀y∈stored,∃b ks',y=Value.ref b/\IsTupleKey (intKind prog w) s.heap ks' b)(h:Q false s) :
  wpAny 08 A (searchCouldBeSeen (.ref x) stored) Q E s:=by
 unfold searchCouldBeSeen;refine VaD ?_;refine wpAny_forIn_list _ (λc r e=>r.1=none/\e=s/\∀v∈c,∃b ks',v=Value.ref b/\IsTupleKey (intKind prog w) s.heap ks' b) _ ?_ ?_ _ _ ⟨rfl,rfl,hs⟩
 ·rintro v c r e ⟨f,rfl,a⟩;obtain ⟨b,ks',rfl,g⟩:=a v Vaq;dsimp only;split
  ·exact VaF ⟨rfl,rfl,λu d=>a u (Var _ d)⟩
  ·refine VaD (wpAny_eqIsQuiet_tuple hx ?_);simp only [Bool.not_true,VbF,Vbh];refine VaD (wpAny_eqIsQuiet_tuple g ?_);simp only [Bool.not_true,VbF,Vbh];refine VaD (ZjX hx ?_);simp only [VbF,Vbh];refine VaD (ZjX g ?_);simp only [VbF,Vbh];exact VaF ⟨rfl,rfl,λu d=>a u (Var _ d)⟩
 ·rintro ⟨i,j⟩ e ⟨f,rfl,_⟩;simp only at f;subst f;exact VaF h
def Zl6(hk:IsTupleKey (intKind prog w) s.heap ks a)(h:Q true s):wpAny 08 A (hashByValue 8 (.ref a)) Q E s:=by
 have p:=hk.typeIs;obtain ⟨o,g,n,l,y,k,m⟩:=hk;have d:=items_int m;unfold hashByValue;refine VaD (wpAny_specialOf p F.slot_tuple_hash.lookup ?_);refine VaD (wpAny_seqItems l k ?_);refine VaD ?_;rw [<-Array.forIn_toList];refine wpAny_forIn_list _ (λb r e=>r.1=none/\e=s/\∀v∈b,∃i t,v=Value.int i t) _ ?_ ?_ _ _ ⟨rfl,rfl,d⟩
 ·rintro v b r e ⟨f,rfl,c⟩;obtain ⟨i,t,rfl⟩:=c v Vaq;refine VaD (VaF ?_);simp only [Bool.not_true,VbF,Vbh];exact VaF ⟨rfl,rfl,λu j=>c u (Var _ j)⟩
 ·rintro ⟨x,q⟩ e ⟨f,rfl,_⟩;simp only at f;subst f;exact VaF h
end
section
variable{prog:Program} {E:Value->Shared->Prop}
def El(prog:Program)(w:World)(h:Heap)(p:Int×Value)(ks:List Int):Prop:=∃x,p.2=.ref x/\IsTupleKey (intKind prog w) h ks x/\p.1=tupleKeyHash (intKind prog w) ks
def El.inj{h:Heap}{p:Int×Value}{a b:List Int}(ha:El prog w h p a)(hb:El prog w h p b):a=b:=by
 obtain ⟨x,e,f,_⟩:=ha;obtain ⟨y,c,d,_⟩:=hb;rw [e] at c;cases c;exact f.inj d
def Tb.fits{es:Array (Int×Value)}(T:Tb t es l)(hl:l.length<=t.mask):t.fits es.size=true:=by
 unfold SetTable.fits SetTable.fill;rw [T.du,T.size,T.esize];simp;exact hl
def Tb.odd{es:Array (Int×Value)}(T:Tb t es l):t.gaveWay=false:=by
 unfold SetTable.gaveWay;rcases T.ms with e | e<;>rw [e]<;>rfl
def ZuJ{es:Array (Int×Value)}(T:Tb t es l):HAt l (λi=>(es[i]?.map (·.1)).getD 0):=λi e h=>by
 show ((es[i]?.map (·.1)).getD 0)=_;rw [<-Vb6,T.el,Vbd,h];rfl
def Zoc{x:Addr}{es:Array (Int×Value)}(hu:A.units<cLine)(ho:s.heap.get? a=some o)(hd:o.data=.set es ep t)(T:Tb t es l)(hl:l.length<=t.mask)(hel:∀e∈l,∃ks',El prog w s.heap e.2 ks')(hx:IsTupleKey (intKind prog w) s.heap ks x) :
  ∀n fuel stand,n<fuel->n<=10*(13+t.mask)->(stand.getD (t.probeStart 010)).dummy=none->Ze6 t.mask (Occ l) n (stand.getD (t.probeStart 010)) ->
   ((∃e∈l,El prog w s.heap e.2 ks/\Rch t.mask (Occ l) (stand.getD (t.probeStart 010)) e.1)/\R (.there none) s)\/((∀e∈l,¬El prog w s.heap e.2 ks)/\∀j,¬Occ l j->Rch t.mask (Occ l) (stand.getD (t.probeStart 010)) j->R (.free j false) s) ->
   wpAny 08 A (setSearchFrom a (.ref x) 010 true fuel stand) R E s:=by
 intro n
 induction n using Nat.strongRecOn with
 | ind n ih=>
  intro fuel stand X W K V C;obtain ⟨fuel,rfl⟩ : ∃k,fuel=k+1:=⟨fuel - 1,by omega⟩;unfold setSearchFrom;refine VaD (Vb7 ho hd (T.fits hl) ?_);dsimp only;rw [T.odd];simp only [VbF,Vbh];generalize hp:stand.getD (t.probeStart 010)=p at *;rcases Zgy T (ZuJ T) n (10*turns t.mask) p K V (by unfold turns;omega) with ⟨j,e1,e2,e3,e4⟩ | ⟨i,e,p',n',e1,e2,e3,e4,e5,e6,e7,e8,e9⟩
  ·generalize hm:t.probe _ 010 p=met;have B:=hm.symm.trans e1;subst B;refine VaF ?_;rcases C with ⟨⟨e,he,hel',G⟩,_⟩ | ⟨_,C⟩
   ·obtain ⟨_,_,_,S⟩:=hel';exact aB G (e4 e he S)
   ·exact C j e2 e3
  ·generalize hm:t.probe _ 010 p=met;have B:=hm.symm.trans e1;subst B;dsimp only;have v:=Vbe e2;obtain ⟨ks',y,M,D,H⟩:=hel e v;have J:es[i]?=some e.2:=by rw [<-Vb6,T.el,Vbd,e2];rfl
   have h:es[i]?=some (e.2.1,Value.ref y):=by rw [J,<-M]
   have g:∀c,c.getD (t.probeStart 010)=adv t.mask p'->¬ks'=ks->wpAny 08 A (setSearchFrom a (.ref x) 010 true fuel c) R E s:=λc f L=>by
    refine ih n' e6 fuel c 000 000 ?_ ?_ ?_
    ·rw [f];unfold adv;split<;>exact e5
    ·rw [f];exact e7
    ·rw [f];rcases C with ⟨⟨I,r,hel',G⟩,u⟩ | ⟨hno,C⟩
     ·left;refine ⟨⟨I,r,hel',e9 I r hel'.choose_spec.2.2 (λz=>?_) G⟩,u⟩;subst z;exact L (El.inj ⟨y,M,D,H⟩ hel')
     ·exact .inr ⟨hno,λj N G=>C j N (e8 j G)⟩
   have d:ks'=ks->R (.there none) s:=λm=>by
    subst m;rcases C with ⟨_,u⟩ | ⟨hno,_⟩
    ·exact u
    ·exact aB ⟨y,M,D,H⟩ (hno e v)
   rw [h];have f:∀y∈List.map (λx=>x.2) (Array.filter (λx=>x.1==tupleKeyHash (intKind prog w) ks) es).toList,∃b ks',y=Value.ref b/\IsTupleKey (intKind prog w) s.heap ks' b:=λy D=>by
    obtain ⟨q,u,rfl⟩:=Vbw.mp D;rw [Array.toList_filter] at u;have u:=(List.mem_filter.mp u).1;rw [T.el] at u;obtain ⟨I,r,rfl⟩:=Vbw.mp u;obtain ⟨Q,P,O,U,_⟩:=hel I r;exact ⟨P,Q,O,U⟩
   have F:t.sameMemory t.moves t.mask=some true:=by unfold SetTable.sameMemory;simp
   cases hled:t.led
   all_goals simp only [Bool.not_false,Bool.not_true,VbF,Vbh,Vbi]
   ·refine VaD (ZrX hx f ?_);simp only [VbF,Vbh];refine VaD (Vbl (wpAny_eqBool_tuple hu D hx ?_));refine VaD (Vb7 ho hd (T.fits hl) ?_);by_cases m:ks'=ks
    ·rw [Vbr m];simp only [Vb8,Vbi];exact VaF (d m)
    ·rw [Vad m];simp only [Vb9,VbF,Vbh];rw [F];simp only [Vbi];rw [T.live e2];dsimp only;rw [h];refine wpAny_bind (wpAny_of_eq (show isSame (.ref y) (.ref y)=pure true by unfold isSame;simp) ?_);refine VaD (VaF ?_);exact g (some _) rfl m
   ·refine VaD (Vbl (wpAny_eqBool_tuple hu D hx ?_));refine VaD (Vb7 ho hd (T.fits hl) ?_);by_cases m:ks'=ks
    ·rw [Vbr m];simp only [Vb8,Vbi];exact VaF (d m)
    ·rw [Vad m];simp only [Vb9,VbF,Vbh];rw [F];simp only [Vbi];rw [T.live e2];dsimp only;rw [h];refine wpAny_bind (wpAny_of_eq (show isSame (.ref y) (.ref y)=pure true by unfold isSame;simp) ?_);refine VaD (VaF ?_);exact g (some _) rfl m
end
section
variable{prog:Program} {E:Value->Shared->Prop}
def SetT(prog:Program)(w:World)(h:Heap)(a:Addr)(kss:List (List Int)):Prop:=∃o c d t l,h.get? a=some o/\o.ExactSet/\o.data=.set c d t/\Tb t c l/\(t.mask=7->l.length<=4)/\l.length<=16 /\
 (∀e∈l,∃b∈kss,El prog w h e.2 b)/\(∀b∈kss,∃e∈l,El prog w h e.2 b)/\l.length=kss.length
def El.keeps{es:Array (Int×Value)}(x:El prog w h p ks)(ho:h.get? a=some o)(hd:o.data=.set es ep t)(hs:Heap.SameBut a h h'):El prog w h' p ks:=by
 obtain ⟨x,e,⟨g,c,n,d,i,b,k⟩,j⟩:=x;have f:x≠a:=by
  rintro rfl;obtain rfl:g=o:=Vac (d.symm.trans ho);rw [hd] at b;exact nomatch b
 exact ⟨x,e,⟨g,c,n,(hs.2 x f).trans d,i,b,k⟩,j⟩
def Zwr(r:Rch m occ p j):p.j+p.more<=m->j<=m:=by
 induction r with
 | here p=>exact λh=>by omega
 | @next p j _ _ ih=>
  intro h;refine ih ?_;unfold adv;split
  ·simp only [];omega
  ·have a:(leap m p.i p.perturb).1<=m:=by
    unfold leap;have:=Nat.mod_lt (p.i*5+1+p.perturb/32) (show 0<m+1 by omega);omega
   have:=Zhf a;simp only [];omega
def ZqD(t:SetTable)(j:Nat):(t.put j).1.mask=t.mask/\(t.put j).1.plain=t.plain:=⟨rfl,rfl⟩
def Zvz{x:Addr}(hu:A.units<cLine)(hS:SetT prog w s.heap a kss)(hx:IsTupleKey (intKind prog w) s.heap ks x)(hn:kss.length+1<=16)(h:∀b h',Heap.SameBut a s.heap h'->SetT prog w h' a (if ks∈kss then kss else kss++[ks])->Q b { s with heap:=h' }) :
  wpAny 08 A (setAddHashed a (.ref x) 010) Q E s:=by
 obtain ⟨o,X,Y,t,l,D,M,u,T,h7,h16,v,K,p⟩:=hS;have F:l.length<=t.mask:=by rcases T.ms with e | e<;>rw [e]<;>omega
 refine Vbl (VaD (Vb7 D u (T.fits F) ?_));obtain ⟨e,he,hf⟩:=ZjC (js:=l.map (·.1)) (by rw [VaX];exact F);have hE:Ze6 t.mask (Occ l) (10*(13+t.mask)) (t.probeStart 010):=by
  exact ends T.ms (by have:=Nat.mod_lt (bits 010) (show 0<t.mask+1 by omega);omega) (ZmT _) he λ⟨f,he',q⟩=>hf (Vbw.mpr ⟨f,he',q⟩)
 have hb:10*(13+t.mask)<100000:=by rcases T.ms with e | e<;>rw [e]<;>decide
 refine VaD (Zoc hu D u T F (λe he=>let ⟨k,_,q⟩:=v e he;⟨k,q⟩) hx (10*(13+t.mask)) 100000 none hb (VaN _) rfl hE ?_);by_cases hk:ks∈kss
 ·left;obtain ⟨e,he,B⟩:=K ks hk;refine ⟨⟨e,he,B,?_⟩,?_⟩
  ·have:=T.rc e he;rw [B.choose_spec.2.2] at this;exact this
  ·refine VaF ?_;have:=h false s.heap (Heap.SameBut.refl a s.heap) (by rw [iP hk];exact ⟨o,X,Y,t,l,D,M,u,T,h7,h16,v,K,p⟩);exact this
 ·right;refine ⟨λe he B=>?_,λj hj hr=>?_⟩
  ·obtain ⟨ks',hk',q⟩:=v e he;have:=El.inj B q;subst this;exact hk hk'
  ·dsimp only;refine VaD (Vb7 D u (T.fits F) ?_);have hjm:j<=t.mask:=by
    have hi:bits 010%(t.mask+1)<=t.mask:=by
     have:=Nat.mod_lt (bits 010) (show 0<t.mask+1 by omega);omega
    refine Zwr hr ?_;show bits 010%(t.mask+1)+(runEnd t.mask (bits 010%(t.mask+1)) - bits 010%(t.mask+1))<=t.mask;have:=Zhf hi;omega
   obtain ⟨C,W,y⟩:=T.put hjm hj hr;obtain ⟨em,epl⟩:=ZqD t j;generalize ht':(t.put j).1=t' at y em epl ⊢;generalize hes':insertAt X (t.put j).2 (tupleKeyHash (intKind prog w) ks,Value.ref x)=es' at y ⊢;have m:C.length=l.length+1:=by rw [W.length_eq];rfl
   have U:C.length<=t'.mask:=by rw [em,m];rcases T.ms with e | e<;>rw [e]<;>omega
   have G:wpAny 08 A (do
     storeSet a es' t'
     if (!false&&t'.tooFull)=true then do
      setRelay a (grown (X.size+1))
      pure true
     else pure true) Q E s:=by
    have N:(s.heap.update a (Obj.putSet es' t')).get? a=some { o with data:=.set es' (Y+1) t' }:=by
     have:=VbX (Obj.putSet es' t') D (by rw [putSet_of es' t' u];rfl);rw [putSet_of es' t' u] at this;exact this
    have n:=Heap.SameBut.update s.heap a (Obj.putSet es' t');have R:El prog w (s.heap.update a (Obj.putSet es' t')) (tupleKeyHash (intKind prog w) ks,Value.ref x) ks:=El.keeps ⟨x,rfl,hx,rfl⟩ D u n;have g1:∀e∈C,∃k∈kss++[ks],El prog w (s.heap.update a (Obj.putSet es' t')) e.2 k:=λe he=>by
     rcases Vat.mp (W.mem_iff.mp he) with rfl | he
     ·exact ⟨ks,by simp,R⟩
     ·obtain ⟨k,i,g⟩:=v e he;exact ⟨k,Vav _ i,g.keeps D u n⟩
    have g2:∀k∈kss++[ks],∃e∈C,El prog w (s.heap.update a (Obj.putSet es' t')) e.2 k:=λk hk'=>by
     rcases Vau.mp hk' with hk' | hk'
     ·obtain ⟨e,i,g⟩:=K k hk';exact ⟨e,W.mem_iff.mpr (Var _ i),g.keeps D u n⟩
     ·rw [VbZ] at hk';subst hk';exact ⟨_,W.mem_iff.mpr Vaq,R⟩
    have hz:es'.size<=sizeLine:=by rw [y.esize,m,sizeLine_eq];omega
    refine VaD (wpAny_storeSet_of D u ?_ hz);have I:t'.fill=C.length:=by unfold SetTable.fill;rw [y.du,y.size];rfl
    by_cases c:t'.tooFull=true
    ·rw [c];unfold SetTable.tooFull at c;rw [I,em,m] at c;have c:=Vca c;have e7:t.mask=7:=by
      rcases T.ms with e | e
      ·exact e
      ·rw [e] at c;omega
     have S:=h7 e7;have e4:l.length=4:=by omega
     have ew:X.size+1=5:=by rw [T.esize,e4]
     rw [ew];obtain ⟨L,d,Z,r1,r2,r3,r4,T2,J⟩:=y.relay 000 (wanted:=grown 5) 00;have V:∀e∈Z,∃f∈C,f.2=e.2:=λe he=>by
      have:=J.mem_iff.mp (Vbw.mpr ⟨e,he,rfl⟩);obtain ⟨f,i,g⟩:=Vbw.mp this;exact ⟨f,i,g⟩
     have H:∀e∈C,∃f∈Z,f.2=e.2:=λe he=>by
      have:=J.mem_iff.mpr (Vbw.mpr ⟨e,he,rfl⟩);obtain ⟨f,i,g⟩:=Vbw.mp this;exact ⟨f,i,g⟩
     have P:Z.length=C.length:=by have:=J.length_eq;simpa using this
     refine VaD ?_;refine VaD (Vb7 N rfl (y.fits U) ?_);dsimp only;rw [iN 00,r1];refine VaD ?_;have O:(d.filterMap (es'[·]?)).size=es'.size:=by rw [T2.esize,P,y.esize]
     show wpAny 08 A (if ((d.filterMap (es'[·]?)).size != es'.size)=true then _ else _) _ _ _
     rw [iN (by rw [O];simp)];refine VaF ?_;have hg2:((s.heap.update a (Obj.putSet es' t')).update a (Obj.putSet (d.filterMap (es'[·]?)) L)).get? a=some { o with data:=.set (d.filterMap (es'[·]?)) (Y+1+1) L }:=by
      have:=VbX (Obj.putSet (d.filterMap (es'[·]?)) L) N (by rw [putSet_of _ L rfl];rfl);rw [putSet_of _ L rfl] at this;exact this
     have r:=Heap.SameBut.update (s.heap.update a (Obj.putSet es' t')) a (Obj.putSet (d.filterMap (es'[·]?)) L);refine wpAny_storeSet_of N rfl ?_ (by rw [O];exact hz);refine VaF (h true _ (n.trans r) ?_);rw [iN hk];refine ⟨_,_,_,L,Z,hg2,M,rfl,T2,λz=>by rw [r2] at z;omega,by omega,λe he=>?_,λk hk'=>?_,by rw [P,m,p];simp⟩
     ·obtain ⟨f,i,g⟩:=V e he;obtain ⟨k,h3,S⟩:=g1 f i;rw [g] at S;exact ⟨k,h3,S.keeps N rfl r⟩
     ·obtain ⟨e,i,g⟩:=g2 k hk';obtain ⟨f,h3,S⟩:=H e i;rw [<-S] at g;exact ⟨f,h3,g.keeps N rfl r⟩
    ·rw [Vab.mpr c];refine VaF (h true _ n ?_);rw [iN hk];refine ⟨_,es',Y+1,t',C,N,M,rfl,y,λz=>?_,by omega,g1,g2,by rw [m,p];simp⟩;have:=of_decide_eq_false (Vab.mpr c);omega
   split
   ·refine VaD (Zl6 hx ?_);exact G
   ·refine VaD (VaF ?_);exact G
end
end L2.Sx
namespace L2.Sx
open PySem.SetTable
open Dl (firsts)
def Zja(kf):∀i,(firsts kf i).length<=i
 | 0=>VaN _
 | i+1=>by
  have:=Zja kf i;unfold firsts;split
  ·omega
  ·simp;omega
section
variable{prog:Program} {R:Result->Shared->Prop} {I:Addr} {fp wr:List Addr} {G:Array GenState->Array GenState->Prop} {P:Nat->Value->Prop} {St:Nat->Shared->Prop}
def SetT.keep(hS:SetT prog w h a kss)(ha:∀o,h.get? a=some o->h'.get? a=some o)(hk:∀b o,h.get? b=some o->o.cls=.type "tuple"->h'.get? b=some o):SetT prog w h' a kss:=by
 obtain ⟨o,A,C,t,l,F,p,z,T,G,q,j,s,d⟩:=hS;have u:∀{e f},El prog w h e f->El prog w h' e f:=λ{e f} g=>by
  obtain ⟨x,E,⟨v,c,n,m,y,r⟩,D⟩:=g;exact ⟨x,E,⟨v,c,n,hk x v m y,y,r⟩,D⟩
 exact ⟨o,A,C,t,l,ha o F,p,z,T,G,q,λe B=>let ⟨k,h1,h2⟩:=j e B;⟨k,h1,u h2⟩,λk i=>let ⟨e,h1,h2⟩:=s k i;⟨e,h1,u h2⟩,d⟩
def SetT.cls(hS:SetT prog w h a kss):∀o,h.get? a=some o->o.cls≠.type "tuple":=λf b d=>by
 obtain ⟨o,g,i,t,l,e,c,_⟩:=hS;rw [e] at b;cases b;rw [c.1] at d;exact aB d 00
def Ztb(W:WalksS prog w A.in1 I fp wr G n P St)(S)(hSf:S∉fp)(hwr:∀i s,St i s->∀b∈wr,∀o,s.heap.get? b=some o->o.cls≠.type "tuple")(kf)(hu:A.in1.units<cLine)(h0)(hval:∀i v,P i v->∃x,v=.ref x/\IsTupleKey (intKind prog w) h0 (kf i) x)(hb:n<=16) :
  ∀k i s,n - i=k->i<=n->St i s->SetT prog w s.heap S (firsts kf i)->(∀b o,h0.get? b=some o->o.cls=.type "tuple"->s.heap.get? b=some o) ->
   (∀s',Moved (S::wr) G s s'->SetT prog w s'.heap S (firsts kf n)->R (.ok (.ret .none)) s')->codeAny 08 A (.builtin "set.update.loop" ⟨[.ref S,.ref I],[]⟩) R s:=by
 have t:=λh=>hSf (W.sub _ h);have f:∀b∈wr,b∈S::wr:=λb hb=>Var _ hb;have J:∀{i s s'},St i s->Moved wr G s s'->∀b o,s.heap.get? b=some o->o.cls=.type "tuple"->s'.heap.get? b=some o:=λ{i s s'} X m b o e c=>m.heap b o (λz=>hwr i s X b z o e c) e;intro k
 induction k with
 | zero=>
  intro i s Y O a D _ L;obtain rfl:i=n:=by omega
  refine VbC F.entry_set_update_loop ?_;rw [Around.under_plainId F.plain_set_update_loop _];refine VaD (W.done s _ _ a λs' g=>?_);exact VaF (L s' (g.mono f) (D.keep (λo e=>g.heap S o t e) (J a g)))
 | succ k ih=>
  intro i s Y O a D K L;have y:i<n:=by omega
  refine VbC F.entry_set_update_loop ?_;rw [Around.under_plainId F.plain_set_update_loop _];refine VaD (W.item i s _ _ y a λv s' U u g=>?_);obtain ⟨x,rfl,H⟩:=hval i v U;have q:=D.keep (λo e=>g.heap S o t e) (J a g);have d:=λb o e c=>J a g b o (K b o e c) c;have N:IsTupleKey (intKind prog w) s'.heap (kf i) x:=by
   obtain ⟨o,j,m,V,c,r⟩:=H;exact ⟨o,j,m,d x o V c,c,r⟩
  refine VaD (Vbl ?_);unfold setAdd;refine Vbl ?_;refine VaD (wpAny_pyHash_tuple hu N ?_);refine Zvz hu q N (by have:=Zja kf i;omega) λb Q p E=>?_;have T:∀b o,s'.heap.get? b=some o->o.cls=.type "tuple"->Q.get? b=some o:=λb o e c=>by
   rw [p.2 b (λz:b=S=>by subst z;exact q.cls o e c)];exact e
  refine VaF ⟨plainId_quiet F.plain_set_update_loop _,ih (i+1) _ 000 y (W.frame _ s' _ _ u (Nat.le_add_right _ _) λb l o e=>?_) E (λb o e c=>T b o (d b o e c) c) λM C B=>?_⟩
  ·rw [p.2 b (λz:b=S=>hSf (by rw [<-z];exact l))];exact e
  ·refine L M (Moved.trans W.gtrans ((g.mono f).then_heap (Nat.le_add_right _ _) λb o l e=>?_) C) B;rw [p.2 b (λz:b=S=>l (by rw [z];exact Vaq))];exact e
end
open Dl (firsts)
section
variable{prog:Program} {E:Value->Shared->Prop}
abbrev Zhm(led:Bool):Obj:={ cls:=.type "set",dict:=none,data:=.set #[] 0 (.fresh 0 0 led) }
def Zo5{h:Heap}{a:Addr}{led:Bool}(ho:h.get? a=some (Zhm led)):SetT prog w h a [] :=
 ⟨_,#[],0,.fresh 0 0 led,[],ho,⟨rfl,rfl,rfl⟩,rfl,⟨.inl rfl,rfl,rfl,rfl,.nil,λ_ h=>(VbT h).elim,λ_ h=>(VbT h).elim⟩,λ_=>by decide,by decide,λ_ h=>(VbT h).elim,λ_ h=>(VbT h).elim,rfl⟩
set_option maxHeartbeats 8000000 in
def call_set(hh:A.handled=none)(hu:A.units+20<cLine)(hl:s.heap.IsList l items)(hi:∀i v,items[i]?=some v->∃x,v=.ref x/\IsTupleKey (intKind prog w) s.heap (kf i) x)(hb:items.size<=16)(h:∀(h':Heap) (tk:Nat),SetT prog w h' s.heap.objs.size (firsts kf items.size)->(∀b o,b<s.heap.objs.size->s.heap.get? b=some o->h'.get? b=some o)->Q (.ref s.heap.objs.size) { s with heap:=h',toks:=tk }) :
  wpAny 08 A (call (.type "set") [.ref l]) Q E s:=by
 obtain ⟨c,tl,Z⟩:=F.called_set.mro;have O:=F.called_set.made;have hsub:=F.called_set.sub;refine Va3 (codeAny_of_tree ?_);refine VaF ⟨VbB _ (by decide +kernel),VbC F.entry_type_call ?_⟩;rw [Around.under_plain (weight_type_call_type "set" [.ref l] []) rfl];have h1:=F.called_set.notType;have h2:=F.called_set.canCreate;have hct:=F.typeCall_set_1 (.ref l)
 repeat (any_goals (first | assumption | wp_step))
 refine Va4 (code_set_new_1 (.ref l) (E:=E) (Q₁:=λp k=>∃a,p=.ref s.heap.objs.size/\k={ s with heap:=s.heap.push (Zhm a) }) λa=>⟨a,rfl,rfl⟩) λr k y=>?_
 cases r with
 | error e=>exact y
 | ok fl=>
  cases fl with
  | next=>exact y.elim
  | brk=>exact y.elim
  | cont=>exact y.elim
  | ret p=>
   obtain ⟨a,rfl,rfl⟩:=y;have Y:(s.heap.push (Zhm a)).get? s.heap.objs.size=some (Zhm a):=VaM _ rfl;have hT:Shared.TypeIs { s with heap:=s.heap.push (Zhm a) } (.ref s.heap.objs.size) "set":=⟨_,Y,rfl⟩
   have hli:=F.called_set.init.lookup;have hbi:=F.called_set.init.bind (.ref s.heap.objs.size)
   repeat (any_goals (first | assumption | wp_step))
   refine Va4 (VbA (R:=wants (λr j=>r=.none/\∃h' tk,j={ s with heap:=h',toks:=tk }/\SetT prog w h' s.heap.objs.size (firsts kf items.size) /\
     (∀b o,b<s.heap.objs.size->s.heap.get? b=some o->h'.get? b=some o)) E) F.called_set.init.plain F.entry_set_init (check_set_init_1 hT ?_)) λu j d=>?_
   ·obtain ⟨ol,D,C,nl,z⟩:=hl;obtain ⟨X,m,L,g⟩:=ol;simp only at C z;subst C;subst z;have B:(s.heap.push (Zhm a)).get? l=some { cls:=.type "list",dict:=m,data:=.seq items nl,slots:=g }:=VaH _ D;have hsls:=F.sub_list_set;have W:=F.sub_list_frozenset;have t:(s.heap.push (Zhm a)).IsList l items:=⟨_,B,rfl,nl,rfl⟩;unfold Builtin.«set.__init__» noKeywords Builtin.Frozenset.updateFrom;generalize hPI:pyIter=PI
    wp_walk
    subst hPI;refine wpAny_pyIter_list t ?_;refine VaD (wpAny_runValue ?_);have q:l<s.heap.objs.size:=Vaf D;have J:A.in1.in1.in1.handled=none:=by simp [hh]
    have G:l≠(s.heap.push (Zhm a)).objs.size:=by
     rw [VaY];exact Vai (Nat.lt_succ_of_lt q)
    have N:s.heap.objs.size∉[(s.heap.push (Zhm a)).objs.size,l]:=by
     rw [VaY];simp only [Vat,VbZ,VbT,Vcb,not_or];exact ⟨Vai (VaZ _),VaK q⟩
    refine Ztb ((Walks.list J _ l G items).toS) s.heap.objs.size N ?hw kf (by show A.units+1+1+1<cLine;omega) s.heap hi hb (items.size - 0) 0 _ 000 (Va0 _)
     ⟨⟨_,VaM _ rfl,rfl,rfl⟩,(t.push _)⟩ ?hS0 ?hT0 ?hR
    case hw=>
     rintro i V ⟨⟨o',U,S,_⟩,_⟩ b f o'' e' hc;rw [VbZ] at f;subst f;rw [U] at e';cases e';rw [S] at hc;exact aB hc 00
    case hS0=>exact Zo5 (VaH _ Y)
    case hT0=>exact λb o e _=>VaH _ (VaH _ e)
    case hR=>
     intro V H n;obtain ⟨h',g',d',K,P⟩:=V;have eg:g'=s.gens:=H.gens;have ed:d'=s.drawn:=H.drawn;have eo:P=s.os:=H.os;subst eg;subst ed;subst eo;refine VaF ?_;refine VaF ⟨rfl,h',K,rfl,n,λb o f e=>?_⟩;have M:=Vai f;have I:b≠(s.heap.push (Zhm a)).objs.size:=by
      rw [VaY];exact Vai (Nat.lt_succ_of_lt f)
     exact H.heap b o (by simp only [Vat,VbZ,VbT,Vcb,not_or];exact ⟨M,I⟩) (VaH _ (VaH _ e))
   ·cases u with
    | error e=>exact d
    | ok fl₂=>
     cases fl₂ with
     | next=>exact d.elim
     | brk=>exact d.elim
     | cont=>exact d.elim
     | ret r=>
      obtain ⟨rfl,h',tk,rfl,n,T⟩:=d
      repeat (any_goals (first | assumption | wp_step))
      exact h _ _ n T
end
end L2.Sx
namespace L2
def Zuw:bootBuiltins "set"=some (.type "set"):=by decide +kernel
def SetN(o:Obj)(n:Nat):Prop:=o.ExactSet/\n<=16/\∃a b t,o.data=.set a b t/\t.fits a.size=true/\a.size=n
def Zwc(K:W.Frag)(H:Hp)(xs:List V)(kss:List (List Int)):Prop:=∀i x,xs[i]?=some x->∃a,x=.ref a/\SqT K H a ((kss.getD i []).map V.int)
def rSet(K:W.Frag):List V->Hp->VK->Prop:=λd H Q=>∃l c b,d=[.ref l]/\SqL K H l c/\Zwc K H c b/\c.length<=16/\∀a o,H a=none->SetN o (Dl.firsts (λi=>b.getD i []) c.length).length->Q (.ref a) (upd H a (objX a o))
def ZuS:List V->Hp->VK->Prop:=λb H Q=>∃a o n,b=[.ref a]/\H a=some (objX a o)/\SetN o n/\Q (.int (n:Nat)) H
section
def Zfd:∀{ns:List Int} {its:List Value},Vals (ns.map V.int) its->ItemsAre (intKind prog w) ns its
 | [],_,.nil=>.nil
 | n::r,_,.cons h t=>by
  obtain ⟨a,rfl⟩:=h;exact .cons (intKind_is _ _ _ _) (Zfd t)
def Zow:∀{xs:List V} {us:List Value},Vals xs us->∀{i:Nat} {u:Value},us[i]?=some u->∃x,xs[i]?=some x/\RelV x u
 | _,_,.cons h _,0,_,e=>⟨_,rfl,by cases e;exact h⟩
 | _,_,.cons _ t,i+1,_,e=>Zow t (by simpa using e)
 | _,_,.nil,i,_,e=>by simp at e
def ZkZ:∀{xs:List V} {us:List Value},Vals xs us->us.length=xs.length
 | _,_,.nil=>rfl
 | _,_,.cons _ t=>by simp [ZkZ t]
def Zoi(hr:Room k X.A):ZdA X (.type "set") (rSet X.K):=by
 intro w s σ H vs us Q I rv ⟨l,xs,q,e,F,hk,h,hq⟩;subst e;cases rv with
 | cons r1 rr=>
  cases rr;cases r1;obtain ⟨L,r,⟨o,n,C,D,_,e3⟩,_⟩:=I.list F;have c:=ZkZ r;refine L2.Sx.call_set (kf:=λi=>q.getD i []) hr.hd (by have:=hr.un;omega) ⟨o,C,D,n,e3⟩ (λi v hv=>?_) (by simpa [c] using h) λR S U d=>?_
  ·obtain ⟨x,Y,O⟩:=Zow r (by simpa using hv);obtain ⟨a,rfl,N⟩:=hk i x Y;cases O;obtain ⟨G,P,⟨g,M,J,m,p3⟩,_⟩:=I.tuple N;exact ⟨a,rfl,g,G.toArray,m,M,J,p3,by simpa using Zfd P⟩
  ·have E:∀b u,s.heap.get? b=some u->R.get? b=some u:=λb u e=>d b u (Vaf e) e;obtain ⟨g,B,W,t,V,Z,p,z,T,h7,y,_,_,f⟩:=U;have j:V.length<=t.mask:=by rcases T.ms with e | e<;>rw [e]<;>omega
   have I':=I.laid (t':=S) E (VaN _) (ZtY Z);refine ⟨.ref s.heap.objs.size,_,I',rfl,hq _ g (I.hok.fresh (VaN _)) ⟨p,?_,B,W,t,z,T.fits j,?_⟩⟩
   ·rw [<-c];have e:=f;rw [VaR] at e;omega
   ·rw [T.esize,f,<-c];simp
def ZmP:ZdA X (.builtin "len") ZuS:=by
 intro c s σ H p r Q I j ⟨a,o,n,e,d,⟨b,k,l,m,t,f,h,g⟩,q⟩;subst e;cases j with
 | cons r1 rr=>
  cases rr;cases r1;have i:=ZpA I.hok d;refine call_len_set i b f h 000 ?_;rw [g];exact ⟨.int (n:Nat),H,I.tok _,⟨_,rfl⟩,q⟩
end
end L2
namespace L2.Ds
open Dl
section
def Zgq{F:Hp}:∀{xs:List V} {ds:List D} {ns:List Int},Rps K mg F xs ds->intsOf ds=some ns->xs=ns.map V.int
 | _,[],_,.nil,e=>by cases e;rfl
 | _,d::ds,ns,.cons h r,e=>by
  cases d with
  | int n=>
   cases q:intsOf ds with
   | none=>unfold intsOf at e;rw [q] at e;cases e
   | some ms=>
    unfold intsOf at e;rw [q] at e;cases e;cases h;rw [Zgq r q];rfl
  | _=>cases e
def Zk8{F:Hp}(s:Same F H):∀{xs:List V} {ds:List D} {ks:List (List Int)},Rps K mg F xs ds->keysOf ds=some ks->Zwc K H xs ks
 | _,[],_,.nil,_=>λi x h=>by simp at h
 | _,d::ds,ks,.cons h r,e=>by
  cases d with
  | tup es=>
   cases q:intsOf es with
   | none=>unfold keysOf at e;rw [q] at e;cases e
   | some k=>
    cases q2:keysOf ds with
    | none=>unfold keysOf at e;rw [q,q2] at e;cases e
    | some kr=>
     unfold keysOf at e;rw [q,q2] at e;cases e;intro i x a;cases i with
     | zero=>
      cases a;cases h with
      | tup ht rt=>
       rw [Zgq rt q] at ht;exact ⟨_,rfl,ZaK s ht⟩
     | succ i=>exact Zk8 s r q2 i x (by simpa using a)
  | _=>cases e
end
section
variable {p p1 q p2:Pos}
def Zqa(hr:Room k X.A)(hgl:Gl X "len")(hml:X.mg "len"=none)(hgs:Gl X "set")(hms:X.mg "set"=none)(he:DE X E e te me)(h1:starEach [e] X.env=[(false,eval e X.env)]:=by rfl)(h2:starEach [Expr.Call (.Name "set" q) [e] [] p2] X.env=[(false,eval (.Call (.Name "set" q) [e] [] p2) X.env)]:=by rfl) :
  DE X E (.Call (.Name "len" p) [.Call (.Name "set" q) [e] [] p2] [] p1) (tCB ZuS (ZdX (tCB (rSet X.K) (ZdX te tNil)) tNil)) (o1 Zkx me):=by
 refine ⟨ZkX ZmP hgl hml Zls (Zck (Zjl (Zoi hr) hgs hms Zuw (Zck he.p ZdV h1) 00 00 h1 rfl) ZdV h2) 00 00 h2 rfl,?_⟩;intro j r F H σ ρ h;refine (he.s j r F H σ ρ h).bind λd b x m c n=>?_;cases m with
 | lst ds=>
  cases n with
  | lst hl rl=>
   rename_i l xs;show Ans X.mg E (Rp X.K X.mg) d b (match keysOf ds with | some ks=>if ds.length<=16 then .ok (.int ((firsts (λi=>ks.getD i []) ds.length).length:Nat)) else .bad | none=>.bad) _
   cases hk:keysOf ds with
   | none=>trivial
   | some ks=>
    by_cases h16:ds.length<=16
    ·show Ans X.mg E (Rp X.K X.mg) d b (if ds.length<=16 then .ok (.int ((firsts (λi=>ks.getD i []) ds.length).length:Nat)) else .bad) _
     rw [iP h16];intro Q q;refine ⟨_,_,ks,rfl,c.s.seq hl,Zk8 c.s rl hk,by rw [rl.length];exact h16,λa o g f=>⟨a,o,_,rfl,Zah,f,?_⟩⟩;rw [rl.length];exact q _ _ _ (.new c.s g _) (.int _)
    ·show Ans X.mg E (Rp X.K X.mg) d b (if ds.length<=16 then .ok (.int ((firsts (λi=>ks.getD i []) ds.length).length:Nat)) else .bad) _
     rw [iN h16];trivial
 | _=>trivial
end
end L2.Ds
namespace Dl
def mkS(l:01):Str:=⟨l.toArray⟩
def cpL(x:Str):List Nat:=x.cps.toList
def bStr:List D->Res D
 | [.int i]=>if i.natAbs.log2<1920 then .ok (.str (Str.ofString (toString i))) else .bad
 | _=>.bad
def digB(c:Nat):Bool:=decide (48<=c)&&decide (c<=57)
def digV(l:01):Nat:=l.foldl (λa c=>a*10+(c - 48)) 0
def figL(l:01):Option Nat:=if l≠[]/\l.all digB=true then some (digV l) else none
def intL:List Nat->Option Int
 | []=>none
 | c::r=>if c=45 then (figL r).map (λn:Nat=>-(n:Int)) else (figL (c::r)).map λn:Nat=>(n:Int)
def Zkg:List D->Res D
 | [.str x]=>if x.length<=640 then ofO ((intL (cpL x)).map D.int) else .bad
 | _=>.bad
def Zh3:List D->Res D
 | [.lst xs]=>.ok (.int xs.length)
 | [.tup xs]=>.ok (.int xs.length)
 | [.str x]=>if x.length<=LIM then .ok (.int x.length) else .bad
 | _=>.bad
def sD(f:Str->D->Res D)(a b:ME):ME:=λρ=>(a ρ).bind λx=>match x with
 | .str z=>(b ρ).bind (f z)
 | _=>.bad
def ZgP(x:Str):D->Res D
 | .str y=>.ok (.bl ((cpL x).take (cpL y).length==cpL y))
 | _=>.bad
def Zab(c:Nat):List Nat->List 01
 | []=>[[]]
 | x::r=>if x=c then []::Zab c r else match Zab c r with
  | []=>[[x]]
  | w::ws=>(x::w)::ws
def ZbU(c:Nat):List Nat->Option (List Nat×List Nat)
 | []=>none
 | x::r=>if x=c then some ([],r) else (ZbU c r).map λp=>(x::p.1,p.2)
def Zmn(x:Str):D->Res D
 | .str y=>(match cpL y with
  | [c]=>if x.length<=LIM then (match ZbU c (cpL x) with
   | some (a,b)=>.ok (.tup [.str (mkS a),.str y,.str (mkS b)])
   | none=>.ok (.tup [.str x,.str Str.empty,.str Str.empty])) else .bad
  | _=>.bad)
 | _=>.bad
def txts:List D->Option (List Str)
 | []=>some []
 | .str x::r=>(txts r).map (x::·)
 | _::_=>none
def Zat(sep:01):List 01->List Nat
 | []=>[]
 | [x]=>x
 | x::y::r=>x++sep++Zat sep (y::r)
def sumL(sep:Nat)(ts:List Str):Nat:=(ts.map (·.length)).sum+ts.length*sep
def Zka(x:Str)(ds:List D):Res D:=match txts ds with
 | some ts=>if sumL x.length ts<=LIM then .ok (.str (mkS (Zat (cpL x) (ts.map cpL)))) else .bad
 | none=>.bad
def ZeU(x:Str):D->Res D
 | .lst ds=>Zka x ds
 | _=>.bad
def joinRev(x:Str)(j:Nat):ME:=λρ=>(getO ρ[j]?).bind λa=>Zka x a.reverse
def dInT:D->D->Res D
 | .str a,.str b=>(match cpL a with
  | [c]=>.ok (.bl ((cpL b).contains c))
  | _=>.bad)
 | _,_=>.bad
def ZkK:D->D->Res D
 | .str a,.str b=>(match cpL a with
  | [c]=>.ok (.bl (!(cpL b).contains c))
  | _=>.bad)
 | _,_=>.bad
def cutS(x:Str)(lo hi:Option Int):Res D:=if x.length<=LIM then (match lo,hi with
 | some i,none=>if 0<=i then .ok (.str (mkS ((cpL x).drop i.toNat))) else .bad
 | none,some j=>if 0<=j then .ok (.str (mkS ((cpL x).take j.toNat))) else .bad
 | _,_=>.bad) else .bad
def Zx2(x:D)(lo hi:Option Int):Res D:=match x with
 | .str x=>cutS x lo hi
 | _=>.bad
def cutT(a:ME)(lo hi:Ev->Res (Option Int)):ME:=λρ=>(a ρ).bind λx=>(lo ρ).bind λl=>(hi ρ).bind λh=>Zx2 x l h
def dIxT:D->D->Res D
 | .str x,.int i=>if x.length<=LIM then ofO ((at_ (cpL x) i).map λc=>.str (mkS [c])) else .bad
 | _,_=>.bad
def ZvY:D->Res (List D)
 | .str x=>if (cpL x).all (·<128)=true then .ok ((cpL x).map λc=>.str (mkS [c])) else .bad
 | _=>.bad
def ivT(a:ME):MI:=λρ=>(a ρ).bind ZvY
def nOw:Ev->Bool
 | []=>true
 | .ow _::_=>false
 | _::r=>nOw r
def ZeE(i j:Nat)(nt:MB)(ρ:Ev):List D->List (List D)->List D->Res (List (List D))
 | [],gs,g=>.ok (gs++[g])
 | d::r,gs,g=>(noEx (nt ((ρ.set i .no).set j (.im d)))).bind λb=>if b=true then ZeE i j nt ρ r (gs++[g]) [] else ZeE i j nt ρ r gs (g++[d])
def grp(i j k:Nat)(nt:MB):MS:=λρ=>match ρ[k]? with
 | some (.im (.lst ds))=>if (nOw ρ&&decide (i<ρ.length)&&decide (j<ρ.length)&&decide (ds.length<1000))=true then (ZeE i j nt ρ ds [] []).bind λa=>.ok (.rt (.lst (a.map .lst))) else .bad
 | _=>.bad
def Zeq(x):mkS (cpL x)=x:=by
 cases x;simp [mkS,cpL]
def ZaQ(l):cpL (mkS l)=l:=by simp [mkS,cpL]
def ZcY(x):(cpL x).length=x.length:=by simp [cpL,Str.length]
def ZiN(x y):cpL (x++y)=cpL x++cpL y:=by
 show (x.cps++y.cps).toList=_;rw [Array.toList_append];rfl
def ZnY(x y):mkS x++mkS y=mkS (x++y):=by
 rw [<-Zeq (mkS x++mkS y),ZiN,ZaQ,ZaQ]
def ZbL(l):(mkS l).length=l.length:=by rw [<-ZcY,ZaQ]
def ZtL(h:mkS a=mkS b):a=b:=by rw [<-ZaQ a,h,ZaQ]
def ZdP{c:Nat}:∀{w:01},c∉w->Zab c w=[w]
 | [],_=>rfl
 | x::r,h=>by
  have a:¬x=c:=λe=>h (by rw [e];exact Vaq);have b:=ZdP λe=>h (Var _ e);unfold Zab;rw [iN a,b]
def Zey{c:Nat}(rest):∀{w:01},c∉w->Zab c (w++c::rest)=w::Zab c rest
 | [],_=>by show Zab c (c::rest)=_;rw [Zab,iP rfl]
 | x::r,h=>by
  have a:¬x=c:=λe=>h (by rw [e];exact Vaq);have b:=Zey rest λe=>h (Var _ e);show Zab c (x::(r++c::rest))=_;rw [Zab,iN a,b]
def ZgF{c:Nat}:∀{ws:List 01},ws≠[]->(∀w∈ws,c∉w)->Zab c (Zat [c] ws)=ws
 | [],h,_=>aB rfl h
 | [w],_,h=>ZdP (h w Vaq)
 | w::v::r,_,h=>by
  have ih:=ZgF 03 λu a=>h u (Var _ a);show Zab c (w++[c]++Zat [c] (v::r))=_;rw [VbO];show Zab c (w++c::Zat [c] (v::r))=_;rw [Zey _ (h w Vaq),ih]
end Dl
namespace L2.Ds
open Dl
def Zkp{y:Str}{c:Nat}(h:cpL y=[c]):y=⟨#[c]⟩:=by
 rw [<-Zeq y,h];rfl
def Zdt(h:n<=LIM):n<=sizeLine:=Vao h 00
section
def Zoy:CallD K mg (λxs H Q=>∃i,xs=[.int i]/\i.natAbs.log2<1920/\Q (.str (toString i)) H) bStr:=by
 intro E F H xs b s r;unfold bStr;split
 ·obtain ⟨x,rfl,a⟩:=r.one;cases a;split
  ·next h=>exact .ret s (.str _) λQ q=>⟨_,rfl,h,q⟩
  ·trivial
 ·trivial
def Zjp(h:figL l=some n):PySem.NumText.AllDigits l/\l≠[]/\PySem.NumText.digitsVal l=n:=by
 unfold figL at h;split at h
 ·next e=>
  cases h;refine ⟨λc a=>?_,e.1,rfl⟩;have:=Vbx.mp e.2 c a;unfold digB at this;simpa using this
 ·cases h
def Zm6{n:Int}(h:intL (cpL x)=some n)(hl:x.length<=640):PySem.intText? x=some n:=by
 cases e:cpL x with
 | nil=>rw [e] at h;cases h
 | cons c r=>
  rw [e] at h;replace h:(if c=45 then (figL r).map (λn:Nat=>-(n:Int)) else (figL (c::r)).map λn:Nat=>(n:Int))=some n:=h
  split at h
  ·next f=>
   subst f;cases ef:figL r with
   | none=>rw [ef] at h;cases h
   | some m=>
    rw [ef] at h;cases h;obtain ⟨b,d,a⟩:=Zjp ef;rw [PySem.intText_neg e b d 000,a]
  ·cases ef:figL (c::r) with
   | none=>rw [ef] at h;cases h
   | some m=>
    rw [ef] at h;cases h;obtain ⟨b,d,a⟩:=Zjp ef;rw [<-e] at b d a;have:=PySem.intText_digits b d 000;rw [this];exact VaA (λk:Nat=>some (k:Int)) a
def ZuD:List V->Hp->VK->Prop:=λa H Q=>∃x n,a=[.str x]/\PySem.intText? x=some n/\x.length<=640/\Q (.int n) H
def ZnS:ZdA X (.type "int") ZuD:=by
 intro a s σ H e d Q I r h;obtain ⟨x,n,rfl,b,c,q⟩:=h;obtain ⟨u,rfl,t,rfl⟩:=vals1 r;exact W.KIN.call_text b c ⟨.int _,H,I.tok _,⟨_,rfl⟩,q⟩
def Zmi:CallD K mg ZuD Zkg:=by
 intro E F H c b s r;unfold Zkg;split
 ·obtain ⟨x,rfl,a⟩:=r.one;cases a;split
  ·next z h=>
   cases e:intL (cpL z) with
   | none=>trivial
   | some n=>exact .ret s (.int _) λQ q=>⟨_,n,rfl,Zm6 e h,h,q⟩
  ·trivial
 ·trivial
def ZlW:CallD K mg (λxs H Q=>∃x n,xs=[x]/\LenV K x H n/\Q (.int n) H) Zh3:=by
 intro E F H xs b s r;unfold Zh3;split
 ·obtain ⟨x,rfl,a⟩:=r.one;cases a with
  | lst h q=>exact .ret s (.int _) λQ z=>⟨_,_,rfl,.inl ⟨_,s.seq h,q.length.symm⟩,z⟩
 ·obtain ⟨x,rfl,a⟩:=r.one;cases a with
  | tup h q=>exact .ret s (.int _) λQ z=>⟨_,_,rfl,.inr ⟨_,ZaK s h,q.length.symm⟩,z⟩
 ·obtain ⟨x,rfl,a⟩:=r.one;cases a;split
  ·next h=>exact .ret s (.int _) λQ z=>⟨_,_,rfl,⟨Zdt h,rfl⟩,z⟩
  ·trivial
 ·trivial
def SmD(K:W.Frag)(mg:001)(r:V->List V->Hp->VK->Prop)(f:Str->D->Res D):Prop:=∀E F H z y a,Same F H->Rp K mg F y a->Ans mg E (Rp K mg) F H (f z a) (r (.str z) [y] H)
def ZwX(hf:SmD K mg r f)(ho:SE K mg E to mo)(ha:SE K mg E ta ma):SE K mg E (tBM K "str" r to (ZdX ta tNil)) (sD f mo ma):=by
 intro b c F H σ ρ a;refine (ho b c F H σ ρ a).bind λl j x h k i=>?_;cases h with
 | str z=>
  cases i;refine Ans.imp ?_ λQ q=>⟨rfl,q⟩;exact (ha b c l j σ ρ (a.gr k)).bind λe d y n g m=>hf E e d z y n g.s m
 | _=>trivial
def Zot:V->List V->Hp->VK->Prop:=λx a H Q=>∃z y,x=.str z/\a=[.str y]/\Q (.bl (decide (0+y.length<=z.length)&&Builtin.Str.subAt z y 0)) H
def Zj6:MtR X "str.startswith" Zot:=by
 intro a s σ H x e v f Q I d c h;obtain ⟨z,y,rfl,rfl,q⟩:=h;obtain ⟨u,rfl,t,rfl⟩:=vals1 c;obtain ⟨b,rfl⟩:=d;exact call_gives Vcc (Vbp s z b) PySem.F.entry_str_startswith (PySem.F.args_str_startswith_2 _ _) (gives_str_startswith z y b t) ⟨.bl _,H,I,rfl,q⟩
def Zm5(z y):(decide (0+y.length<=z.length)&&Builtin.Str.subAt z y 0)=((cpL z).take (cpL y).length==cpL y):=by
 rw [StrLaws.subAt_eq,VbG,ZcY];show (decide (0+y.length<=z.length)&&((cpL z).take y.length==cpL y))=_;cases h:((cpL z).take y.length==cpL y) with
 | false=>rw [Vb9]
 | true=>
  have e:=VaA List.length (eq_of_beq h);rw [Va8,ZcY,ZcY] at e;simp only [Vb8,Vcd];omega
def ZhS:SmD K mg Zot ZgP:=by
 intro E F H z y b s a;cases b with
 | str w=>
  cases a;exact .ret s (.bl _) λQ q=>⟨z,w,rfl,rfl,by rw [Zm5];exact q⟩
 | _=>trivial
def ZjR:∀l,Vals ((l.map (·.1)).map V.str) (strValues l)
 | []=>.nil
 | (x,t)::r=>.cons ⟨t,rfl⟩ (ZjR r)
def ZlM(x):∀ts,cpL (Str.join x ts)=Zat (cpL x) (ts.map cpL)
 | []=>rfl
 | [a]=>rfl
 | a::b::r=>by
  show cpL (a++x++Str.join x (b::r))=cpL a++cpL x++Zat (cpL x) ((b::r).map cpL);rw [ZiN,ZiN,ZlM x (b::r)]
def Zlt{F:Hp}:∀ts:List Str,Rps K mg F (ts.map V.str) ((ts.map cpL).map λl=>D.str (mkS l))
 | []=>.nil
 | t::r=>.cons (by show Rp K mg F (V.str t) (D.str (mkS (cpL t)));rw [Zeq];exact .str t) (Zlt r)
def rJoin(K:W.Frag):V->List V->Hp->VK->Prop:=λx b H Q=>∃z l a,x=.str z/\b=[.ref l]/\SqL K H l (a.map V.str)/\sumL z.length a<=LIM/\Q (.str (Str.join z a)) H
def Zha:∀{ts:List Str} {us:List Value},Vals (ts.map V.str) us->∃l,strValues l=us/\l.map (·.1)=ts
 | [],_,h=>by cases h;exact ⟨[],rfl,rfl⟩
 | t::r,_,h=>by
  cases h with
  | cons h1 h2=>
   obtain ⟨k,rfl⟩:=h1;obtain ⟨l,rfl,e⟩:=Zha h2;exact ⟨(t,k)::l,rfl,by rw [<-e];rfl⟩
def Zji{z:Str}{ts:List Str}(h:sumL z.length ts<=LIM):Builtin.Str.tooLong (ts.toArray.foldl (·+·.length+z.length) 0)=false:=by
 rw [StrLaws.joinTotal];exact Vad (Nat.not_lt.mpr (Zdt h))
def ZdB:MtR X "str.join" (rJoin X.K):=by
 intro c s σ H x w v y Q I m i h;obtain ⟨z,a,p,rfl,rfl,g,o,q⟩:=h;obtain ⟨u,rfl,e⟩:=vals1 i;cases e;obtain ⟨t,rfl⟩:=m;obtain ⟨j,r,n,_⟩:=I.list g;obtain ⟨l,rfl,d⟩:=Zha r;have b:=Zji o;rw [<-d] at b;refine call_meets Vce (Vbp s z t) PySem.F.entry_str_join (PySem.F.args_str_join_2 _ _) (meets_str_join_list z t a l b) ⟨n.isList,?_⟩;refine post_join l ⟨joinFit_length b,λf k=>?_⟩;refine ⟨.str _,H,I.tok _,⟨f,rfl⟩,?_⟩;unfold Txt.join;rw [StrLaws.glued_eq_join,d];exact q
def Zk5{F:Hp}:∀{xs:List V} {ds:List D} {ts:List Str},Rps K mg F xs ds->txts ds=some ts->xs=ts.map V.str
 | _,[],_,r,e=>by cases r;cases e;rfl
 | _,d::ds,ts,r,e=>by
  cases r with
  | cons h r=>
   cases d with
   | str x=>
    have a:(txts ds).map (x::·)=some ts:=e;cases q:txts ds with
    | none=>rw [q] at a;cases a
    | some us=>
     rw [q] at a;cases a;cases h;rw [Zk5 r q];rfl
   | _=>cases e
def ZjH{F:Hp}{w:VK->Prop}(s:Same F H)(r:Rps K mg F xs ds)(h:∀ts,xs=ts.map V.str->sumL z.length ts<=LIM->∀Q,Q (.str (Str.join z ts)) H->w Q):Ans mg E (Rp K mg) F H (Zka z ds) w:=by
 unfold Zka;split
 ·next ts e=>
  split
  ·next b=>
   have a:=Zk5 r e;refine .ret s ?_ λQ q=>h ts a b Q q;rw [<-ZlM,Zeq];exact .str _
  ·trivial
 ·trivial
def Zcv:SmD K mg (rJoin K) ZeU:=by
 intro E F H z y e s b;cases e with
 | lst ds=>
  cases b with
  | lst h r=>
   exact ZjH s r λa c d Q q=>⟨z,_,a,rfl,rfl,by rw [<-c];exact s.seq h,d,q⟩
 | _=>trivial
def Zvu:V->List V->Hp->VK->Prop:=λx d H Q=>∃z c,x=.str z/\d=[.str ⟨#[c]⟩]/\z.length<=LIM/\∀l,H l=none->Q (.ref l) (upd H l (.tup (match ZbU c (cpL z) with
 | some (a,b)=>[.str (mkS a),.str ⟨#[c]⟩,.str (mkS b)]
 | none=>[.str z,.str Str.empty,.str Str.empty])))
def Zb5{c:Nat}:∀{l:01},ZbU c l=none->c∉l
 | [],_=>by simp
 | x::r,h=>by
  unfold ZbU at h;split at h
  ·cases h
  ·next a=>
   cases e:ZbU c r with
   | none=>
    have:=Zb5 e;intro b;rcases Vat.mp b with z | z
    ·exact a z.symm
    ·exact this z
   | some p=>rw [e] at h;cases h
def Zbp{c:Nat}:∀{l a b:01},ZbU c l=some (a,b)->c∉a/\l=a++c::b
 | [],_,_,h=>by cases h
 | x::r,a,b,h=>by
  unfold ZbU at h;split at h
  ·next d=>cases h;exact ⟨by simp,by rw [d];rfl⟩
  ·next d=>
   cases e:ZbU c r with
   | none=>rw [e] at h;cases h
   | some p=>
    rw [e] at h;cases h;obtain ⟨f,i⟩:=Zbp e;refine ⟨λg=>?_,by rw [i];rfl⟩;rcases Vat.mp g with z | z
    ·exact d z.symm
    ·exact f z
def Zob(x)(c i):StrLaws.At x ⟨#[c]⟩ x.length i↔(cpL x)[i]?=some c:=StrLaws.subAt_one x c i
def Zrz(x)(i j):Builtin.Str.strSub x i j=mkS (((cpL x).drop i).take (j - i)):=by
 exact VaA mkS (StrLaws.strSub_toList x i j)
def Zsh:MtR X "str.partition" Zvu:=by
 intro f s σ H x L v M Q I C K h;obtain ⟨z,c,rfl,rfl,G,q⟩:=h;obtain ⟨u,rfl,t,rfl⟩:=vals1 K;obtain ⟨w,rfl⟩:=C;refine call_meets PySem.F.slot_str_partition (Vbp s z w) PySem.F.entry_str_partition (PySem.F.args_str_partition_2 _ _) (meets_str_partition z ⟨#[c]⟩ w t rfl (Zdt G)) ?_;have j:∀(k:Nat) (m:List V) (d:List Value),Vals m d->m.length<=3->(∀l,H l=none->Q (.ref l) (upd H l (.tup m)))->EP X f σ Q (.ref s.heap.objs.size) { s with toks:=k,heap:=s.heap.push { cls:=.type "tuple",data:=.seq d.toArray } }:=λk m d r E q=>
  ⟨.ref _,_,I.laid (o:=.tup m) (λb o e=>VaH _ e) (VaN _) ⟨Vao E 00,d,r,IsTup.new _ _⟩,rfl,q _ (I.hok.fresh (VaN _))⟩
 rcases StrLaws.occ_head z ⟨#[c]⟩ 1 (VaN 1) with ⟨e,hn⟩ | ⟨i,r,e,ha,hn⟩
 ·rw [e];have J:ZbU c (cpL z)=none:=by
   cases ep:ZbU c (cpL z) with
   | none=>rfl
   | some p=>
    obtain ⟨_,g⟩:=Zbp ep;refine aB ((Zob z c p.1.length).mpr ?_) (hn _);rw [g];simp
  rw [J] at q;exact j _ [.str z,.str Str.empty,.str Str.empty] [.str z w,.str Str.empty s.toks,.str Str.empty s.toks] (.cons ⟨_,rfl⟩ (.cons ⟨_,rfl⟩ (.cons ⟨_,rfl⟩ .nil))) 03 q
 ·rw [e];have n:=(Zob z c i).mp ha;cases ep:ZbU c (cpL z) with
  | none=>exact aB (Vbe n) (Zb5 ep)
  | some p=>
   rw [ep] at q;obtain ⟨a,b⟩:=p;obtain ⟨A,g⟩:=Zbp ep;have D:i=a.length:=by
    rcases Nat.lt_trichotomy i a.length with l | l | l
    ·rw [g,Vbc l] at n;exact aB (Vbe n) A
    ·exact l
    ·refine aB ((Zob z c a.length).mpr ?_) (hn _ l);rw [g];simp
   subst D;have y:Builtin.Str.strSub z 0 a.length=mkS a:=by
    rw [Zrz,g,VbG,Nat.sub_zero,List.take_left' rfl]
   have B:Builtin.Str.strSub z (a.length+1) z.length=mkS b:=by
    rw [Zrz,<-ZcY z,g];have:(a++c::b).drop (a.length+1)=b:=by
     rw [show a++c::b=(a++[c])++b by simp];exact List.drop_left' 03
    rw [this];refine VaA mkS (VbH ?_);simp;omega
   show EP X f σ Q (.ref s.heap.objs.size) { s with toks:=_,heap:=s.heap.push { cls:=.type "tuple",data:=.seq [.str (Builtin.Str.strSub z 0 a.length) s.toks,.str ⟨#[c]⟩ t,.str (Builtin.Str.strSub z (a.length+1) z.length) (s.toks+1)].toArray } }
   rw [y,B];exact j _ [.str (mkS a),.str ⟨#[c]⟩,.str (mkS b)] [_,_,_] (.cons ⟨_,rfl⟩ (.cons ⟨_,rfl⟩ (.cons ⟨_,rfl⟩ .nil))) 03 q
def Zo9:SmD K mg Zvu Zmn:=by
 intro E F H z y i s h;cases i with
 | str w=>
  cases h;unfold Zmn;dsimp only;split
  ·next c e=>
   split
   ·next d=>
    have g:=Zkp e;subst g;cases ep:ZbU c (cpL z) with
    | none=>
     exact Zee s (λp f=>.tup (.inl (.inl Zah)) (.cons (.str _) (.cons (.str _) (.cons (.str _) .nil)))) λQ q=>⟨z,c,rfl,rfl,d,by rw [ep];exact q⟩
    | some p=>
     obtain ⟨a,b⟩:=p;exact Zee s (λp f=>.tup (.inl (.inl Zah)) (.cons (.str _) (.cons (.str _) (.cons (.str _) .nil)))) λQ q=>⟨z,c,rfl,rfl,d,by rw [ep];exact q⟩
   ·trivial
  ·trivial
 | _=>trivial
def Zr6:OpD K mg (λx y H Q=>∃i j,x=.str i/\y=.str j/\Q (.bl (!(Builtin.Str.occurrences j i 0 j.length 1).isEmpty)) H) dInT:=by
 intro E F H x y g h s d f;unfold dInT;split
 ·next a b=>
  cases d;cases f;split
  ·next c e=>
   refine .ret s (.bl _) λQ q=>⟨_,_,rfl,rfl,?_⟩;rw [Zkp e,StrLaws.found_one];rw [List.contains_eq_mem] at q;exact q
  ·trivial
 ·trivial
def Zpx:OpD K mg (λx y H Q=>∃i j,x=.str i/\y=.str j/\Q (.bl (!(!(Builtin.Str.occurrences j i 0 j.length 1).isEmpty))) H) ZkK:=by
 intro E F H x y g h s d f;unfold ZkK;split
 ·next a b=>
  cases d;cases f;split
  ·next c e=>
   refine .ret s (.bl _) λQ q=>⟨_,_,rfl,rfl,?_⟩;rw [Zkp e,StrLaws.found_one];rw [List.contains_eq_mem] at q;exact q
  ·trivial
 ·trivial
def rSlT:V->Option Int->Option Int->Hp->VK->Prop:=λx a b H Q=>∃z,x=.str z/\z.length<=sizeLine/\Q (.str (Txt.slice z a b)) H
def Zuq:SlR X rSlT:=by
 intro b s σ H x v r f d o p Q I B e y c h;obtain ⟨z,rfl,E,q⟩:=h;obtain ⟨t,rfl⟩:=B;refine ⟨"str",_,PySem.F.slot_str_getitem.lookup,Vbp _ _ _,?_⟩;have a:∀l u,r=partValue l->f=partValue u->d=l.map (·.1)->o=u.map (·.1)->wX X (getItem (.str z t) (.ref p)) (EP X b σ Q) X.xe s:=by
  intro l u g m D C;subst g m D C;exact wpAny_getItem_str_slice (st:=none) e rfl
   (post_val_or_str ⟨Vao (Txt.slice_le z _ _) E,λn k=>⟨.str _,H,I.tok _,⟨n,rfl⟩,q⟩⟩)
 cases y with
 | none=>
  cases c with
  | none=>exact a none none rfl rfl rfl rfl
  | int j tj=>exact a none (some (j,tj)) rfl rfl rfl rfl
 | int i ti=>
  cases c with
  | none=>exact a (some (i,ti)) none rfl rfl rfl rfl
  | int j tj=>exact a (some (i,ti)) (some (j,tj)) rfl rfl rfl rfl
def Zl3{i:Int}(h0:0<=i):Txt.slice z (some i) none=mkS ((cpL z).drop i.toNat):=by
 by_cases h:(z.length:Int)<=i
 ·rw [slice_beyond h];have:(cpL z).drop i.toNat=[]:=VbM (by rw [ZcY];omega);rw [this];rfl
 ·rw [slice_from_eq h0 000 rfl];refine VaA mkS (VbH ?_);show ((cpL z).drop i.toNat).length<=_;rw [Vbk,ZcY];omega
def Zqd{j:Int}(h0:0<=j):Txt.slice z none (some j)=mkS ((cpL z).take j.toNat):=by
 have a:∀j:Int,0<=j->j<=z.length->Txt.slice z none (some j)=mkS ((cpL z).take j.toNat):=λj h0 b=>by
  have c:j<=z.cps.toList.length:=by rw [show z.cps.toList.length=z.length from ZcY z];exact b
  have:=VaS.mp (slice_closes_to ⟨h0,c⟩);rw [this,show (0:Int).toNat=0 from rfl,VbG,Int.sub_zero];rfl
 by_cases h:j<=z.length
 ·exact a j h0 h
 ·have f:Txt.slice z none (some j)=Txt.slice z none (some (z.length:Int)):=by
   unfold Txt.slice;have e:Builtin.Str.strSliceIndices none (some j) 1 z.length=Builtin.Str.strSliceIndices none (some (z.length:Int)) 1 z.length:=by
    have b:¬j<0:=by omega
    have c:¬((z.length:Int)<0):=by omega
    have d:(1:Int)>0:=by decide
    simp only [Builtin.Str.strSliceIndices,b,c,d,Vbh,Vbi,Int.min_eq_right (show (z.length:Int)<=j by omega),Int.min_self]
   rw [e]
  rw [f,a _ 000 (Int.le_refl _),VbH (by rw [ZcY];omega),VbH (by rw [ZcY];omega)]
def Zsk(ha:SE K mg E ta ma)(hl:SO K mg E tl ml)(hh:SO K mg E th mh):SE K mg E (tSl rSlT ta tl th) (cutT ma ml mh):=by
 intro b c F H σ ρ a;refine (ha b c F H σ ρ a).bind λv t x o d r=>?_;refine (hl b c v t σ ρ (a.gr d)).bind λj g l w k p=>?_;refine (hh b c j g σ ρ ((a.gr d).gr k)).bind λm n u y f i=>?_;cases p;cases i;cases o with
 | str z=>
  cases r;show Ans mg E (Rp K mg) m n (cutS z l u) _;unfold cutS;split
  ·next e=>
   split
   ·split
    ·next h=>exact .ret f.s (.str _) λQ q=>⟨z,rfl,Zdt e,by rw [Zl3 h];exact q⟩
    ·trivial
   ·split
    ·next h=>exact .ret f.s (.str _) λQ q=>⟨z,rfl,Zdt e,by rw [Zqd h];exact q⟩
    ·trivial
   ·trivial
  ·trivial
 | _=>trivial
def ZvO{α:Type}{xs:List α}{i:Int}{c:α}(h:at_ xs i=some c):atI xs i=some c:=by
 unfold at_ at h;unfold atI ixN;split at h
 ·next a=>
  have d:i.toNat<xs.length:=by
   rcases Nat.lt_or_ge i.toNat xs.length with z | z
   ·exact z
   ·rw [VbJ z] at h;cases h
  rw [iP a,iP 000];exact h
 ·next a=>
  split at h
  ·next b=>
   rw [iN a,iP b];exact h
  ·cases h
def Zs4:OpD K mg rIxS dIxT:=by
 intro E F H x y f g s a b;unfold dIxT;split
 ·next z i=>
  cases a;cases b;split
  ·next d=>
   cases e:at_ (cpL z) i with
   | none=>trivial
   | some c=>exact .ret s (.str _) λQ q=>⟨z,i,c,rfl,rfl,Zdt d,ZvO e,q⟩
  ·trivial
 ·trivial
def ItS(x:Str):It:=⟨λi _=>∃c,(cpL x)[i]?=some c,λi H y a=>a=H/\∀c,(cpL x)[i]?=some c->y=.str (mkS [c]),λi _=>(cpL x)[i]?=none⟩
def Zo2(x)(t)(it):Turn P w K tg (ItS x) [it] it (λi h=>h.IsStrIter it "str_ascii_iterator" x t i) where
 mem:=by simp
 obj:=λi h a b f=>by
  have e:b=it:=by simpa using f
  subst e;obtain ⟨o,e,c,d⟩:=a;exact ⟨o,e,λv z=>by rw [d] at z;cases z⟩
 keep:=λi h A a k=>by
  obtain ⟨o,e,r⟩:=a;exact ⟨o,k it 03 o e,r⟩
 item:=by
  intro X M N G D i g s σ H E I l a m;obtain ⟨c,B⟩:=m;obtain ⟨q,p,J,n,y,u⟩:=l it 03;refine wpAny_pyNext_ascii_item a (by simpa [cpL] using B) λA j O=>?_;have Q:=I.turned (t':=s.toks+1) (λb o f e=>(O.2 b f).trans e) q p n y u;obtain ⟨o,e,F,d⟩:=id j;exact ⟨_,rfl,ZpB e F d 00 ⟨.str (mkS [c]),H,Q,⟨_,rfl⟩,⟨rfl,λR C=>by rw [B] at C;cases C;rfl⟩,j,λb f=>(l b f).1⟩⟩
 done:=by
  intro X M N G D i g s σ H E I l a m;obtain ⟨q,p,J,n,y,u⟩:=l it 03
  exact wpAny_pyNext_ascii_end (I.ok.hd D) a (by
   have h:(cpL x)[i]?=none:=m
   simpa [cpL] using h) λA L=>⟨rfl,I.turned (λb o f e=>L b o f e) q p n y u⟩
 self:=λ_ _ _ _ _ a h=>wpAny_pyIter_striter_ascii a h
def Zvi(tl:TE):TI:=λσ H R=>tl σ H λx a=>∃z,x=.str z/\(cpL z).all (·<128)=true/\R (ItS z) a
def ZsE{F:Hp}(z):ItOk K mg F (ItS z) ((cpL z).map λc=>.str (mkS [c])):=by
 intro f k j b i;refine ⟨λd e=>?_,λa=>?_⟩
 ·rw [Vbd] at e;cases q:(cpL z)[i]? with
  | none=>rw [q] at e;cases e
  | some c=>
   rw [q] at e;cases e;refine ⟨⟨c,q⟩,λy g h=>?_⟩;obtain ⟨rfl,h⟩:=h;rw [h c q];exact ⟨f,.refl b,.str _⟩
 ·rw [VaX] at a;exact VbJ a
def Zv9(ha:SE K mg E ta ma):SI K mg E (Zvi ta) (ivT ma):=by
 intro i j F H σ ρ a;refine (ha i j F H σ ρ a).bind λf d x g e b=>?_;cases g with
 | str z=>
  cases b;show Ans mg E (ItOk K mg) f d (if (cpL z).all (·<128)=true then .ok ((cpL z).map λc=>.str (mkS [c])) else .bad) _
  split
  ·next h=>exact Ans.ret e.s (ZsE z) λQ q=>⟨z,rfl,h,q⟩
  ·trivial
 | _=>trivial
end
section
variable {a b o tg:Expr} {ta tb to:TE} {ma mb mo:ME} {apos:Pos}
def ZrB(h:004):DI X E tg a (Zvi ta) (ivT ma):=by
 refine ⟨?_,Zv9 h.s⟩;intro c s σ H R I i;refine thn (h.p c s σ H _ I i) λv d zq=>?_;obtain ⟨x,l,f,j,k⟩:=zq;obtain ⟨z,rfl,m,q⟩:=k;obtain ⟨t,rfl⟩:=j;refine wpAny_pyIter_ascii (by rw [<-m];simp [cpL]) ?_;refine ⟨d.heap.objs.size,[d.heap.objs.size],_,_,l,rfl,f.kept λb o e=>VaH _ e,Zo2 z t _,⟨_,VaM _ rfl,rfl,rfl⟩,λb g=>?_,q⟩;have e:b=d.heap.objs.size:=by simpa using g
 subst e;exact f.fpOk (VaN _) (f.hok.fresh (VaN _))
end
def ZoC:typeLookup (.type "list_reverseiterator") "__len__"=pure none:=by rw [typeLookup_type,builtinLookup_eq_fast];kernel_rfl
def Zpa:typeLookup (.type "list_reverseiterator") "__length_hint__"=pure (some (.builtin "list_reverseiterator.__length_hint__")):=by rw [typeLookup_type,builtinLookup_eq_fast];kernel_rfl
def Zsv:isSubtype (.type "list_reverseiterator") (.type "list_reverseiterator")=pure true:=by rw [isSubtype_type];kernel_rfl
section
variable{prog:Program} {E:Value->Shared->Prop}
def Zpo(hT:s.TypeIs (.ref I) "list_reverseiterator")(h:Q false s):wpAny 08 A (Builtin.List.listLengthHint (.ref I)) Q E s:=by
 refine VaD (wpAny_specialOf hT ZoC ?_);refine VaD (wpAny_specialOf hT Zpa ?_);generalize hid:("list_reverseiterator.__length_hint__" : String)=id0;subst hid;refine VaD (wpAny_isInstance hT Zsv ?_);exact VaF h
def ZkM{items:Array Value}(hh:A.handled=none)(hne:l≠I)(hit:s.heap.IsRevIter I l ((items.size:Int) - 1))(hl:s.heap.IsList l items)(hn:items.size<=sizeLine)(hQ:∀s',Moved [I] (λa b=>b=a) s s'->Q items.toList.reverse s'):wpAny 08 A (collect (.ref I)) Q E s:=by
 have W:=(Walks.listRev (prog:=prog) (w:=w) (A:=A.in1) hh I l hne items).toS;have t:∀i s,(i<=items.size/\Heap.IsRevIter s.heap I l ((items.size:Int) - 1 - (i:Int))/\s.heap.IsList l items)->Shared.TypeIs s (.ref I) "list_reverseiterator":=λ_ _ h=>h.2.1.typeIs;have m:0<=items.size/\Heap.IsRevIter s.heap I l ((items.size:Int) - 1 - ((0:Nat):Int))/\s.heap.IsList l items:=⟨Va0 _,by simpa using hit,hl⟩;have p:∀b∈[I,l],b<s.heap.objs.size:=λb hb=>by
  rcases Vat.mp hb with rfl | hb
  ·obtain ⟨o,n,_⟩:=hit;exact Vaf n
  ·rw [VbZ.mp hb];obtain ⟨o,n,_⟩:=hl;exact Vaf n
 have f:=λr=>Vah _ (p _ r);have q:s.heap.objs.size≠I:=λe=>f (e▸Vaq);refine VaD (wpAny_runValue (VbC F.entry_proto_collect ?_));refine VaD (VaG ?_);refine VaF ⟨plainId_quiet F.plain_list_iadd _,VbC F.entry_list_iadd ?_⟩;have c:=W.frame 0 s (s.heap.push { cls:=.type "list",data:=.seq ([]:List Value).toArray }) s.toks m (VaN _) λb _ o e=>VaH _ e;have j:(s.heap.push { cls:=.type "list",data:=.seq ([]:List Value).toArray }).get? s.heap.objs.size=some { cls:=.type "list",data:=.seq ([]:List Value).toArray }:=VaM _ rfl;have u:Builtin.List.listSameRef (.ref s.heap.objs.size) (.ref I)=false:=by simp [Builtin.List.listSameRef,q]
 show wpAny _ A.in1 (Builtin.List.listExtendWith (.ref s.heap.objs.size) (.ref I) (.ref s.heap.objs.size)) _ _ _;refine VaD (Vbn (t 0 _ c) ?_);rw [iN (by rw [u];decide)];refine VaD (W.self 0 _ _ _ c ?_);refine VaD (Vbl ?_);refine Zpo (t 0 _ c) ?_;refine VaF ⟨plainId_quiet F.plain_extend_loop _,codeAny_extend_loopS W hn _ f _ items.size 0 _ _ _ rfl (Va0 _) c j (ItemsOf.nil _) λs' d z r k g=>?_⟩;refine VaD (wpAny_load k ?_);have y:d.toList=items.toList.reverse:=by
  apply List.ext_getElem?;intro i;obtain ⟨B,x⟩:=g;by_cases hi:i<items.size
  ·have e:d[i]?=some d[i]:=Vb3 000;have v:=x i _ e;rw [List.getElem?_reverse (by simpa using hi)];rw [Vb6,Vb6,e,Vaz];exact v.symm
  ·rw [VbJ (by simp;omega),VbJ (by simp;omega)]
 have:=hQ s' (Moved.drop_new r (VaN _));rw [<-y] at this;exact VaF this
end
def ZkO(z):∀m,Builtin.Str.tooLong ((m.map (·.1)).toArray.foldl (·+·.length+z.length) 0)=false->Gives (joinTail z (strValues m)) (joinMade z m)
 | [],h=>gives_joinTail z [] h
 | [p],h=>gives_joinTail z [p] h
 | p::q::r,h=>gives_joinTail z (p::q::r) h
def Zpe{z:Str}{ts:List Str}(hc:X.calm=true)(I:09)(hz:sumL z.length ts<=LIM)(ha:H a=some (.lst (ts.map V.str)))(hn:it≠a)(hf:FpOk X pins H it)(hit:s.heap.IsRevIter it a ((ts.length:Int) - 1))(q:Q (.str (Str.join z ts.reverse)) H):wX X (call (.builtin "str.join") [.str z t,.ref it]) (EP X pins σ Q) X.xe s:=by
 obtain ⟨D,r,G,c⟩:=I.list (SqL.of ha);obtain ⟨l,rfl,B⟩:=Zha r;refine Va3 (VbA F.slot_str_join.plain F.entry_str_join (F.slot_str_join.check _ _ _ _ _ _ _ _ (Vbp _ _ _) (F.args_str_join_2 _ _) ?_));rw [join_tree_other];refine VaD (Vbn hit.typeIs ?_);refine VaD (wpAny_tryCatch (wpAny_pyIter_revIter hit ?_));have f:(strValues l).toArray.size=ts.length:=by
  have:=r.length;rw [VaX] at this;exact this.symm
 refine VaD (ZkM (I.ok.hd hc) (Ne.symm hn) (by rw [f];exact hit) G.isList (by rw [f];rw [VaX] at c;exact c) λj h=>?_);have v:(strValues l).toArray.toList.reverse=strValues l.reverse:=by
  show (l.map _).reverse=l.reverse.map _;rw [Vcf]
 rw [v];have m:l.reverse.map (·.1)=ts.reverse:=by rw [Vcf,B]
 have i:sumL z.length ts.reverse<=LIM:=by
  unfold sumL at hz ⊢;rw [Vcf,List.sum_reverse,List.length_reverse];exact hz
 have d:=Zji i;rw [<-m] at d;have g:=ZkO z l.reverse d;refine g X.prog X.w X.A (wants (EP X pins σ Q) X.xe) j (post_join l.reverse ⟨joinFit_length d,λt' k=>?_⟩);obtain ⟨E,p,M,K,L,J⟩:=hf;have u:=I.turned (t':=k) (λb o y e=>h.heap b o (by simpa using y) e) E p K L J;refine ⟨.str _,H,?_,⟨t',rfl⟩,?_⟩
 ·have x:=h.gens;have C:=h.drawn;have n:=h.os;obtain ⟨R,O,N,S,P⟩:=j;cases x;cases C;cases n;exact u
 ·unfold Txt.join;rw [StrLaws.glued_eq_join,m];exact q
def Zik(z:Str)(j:Nat):TE:=λσ H Q=>∃a b,σ[j]?=some (some (.ref a))/\H a=some (.lst (b.map V.str))/\sumL z.length b<=LIM/\Q (.str (Str.join z b.reverse)) H
def Zmt(z)(j):SE K mg E (Zik z j) (joinRev z j):=by
 intro n p F H σ ρ b;unfold joinRev getO;split
 ·next f e=>
  obtain ⟨a,l,g,o,m,d,h⟩:=b.ow j f e;refine ZjH b.ss h.rev λi k c Q q=>⟨a,i.reverse,g,?_,?_,by rw [List.reverse_reverse];exact q⟩
  ·rw [d,<-List.reverse_reverse l,k,<-Vcf]
  ·unfold sumL at c ⊢;rw [Vcf,List.sum_reverse,List.length_reverse];exact c
 ·trivial
section
variable {a b o:Expr} {ta tb to:TE} {ma mb mo:ME} {apos p1 p2 p3 p4:Pos} {z:Str}
def Zl0(j)(hc:X.calm=true)(hg:Gl X "reversed")(hm:X.mg "reversed"=none)(hN:X.N[j]?=some x)(hv:Vis X.env.scope x)(hd:ND x)(hcd:NE x)(hbase:attributeBase (.Constant (.str z) k p1) "join" X.env (eval (.Constant (.str z) k p1) X.env)=eval (.Constant (.str z) k p1) X.env)(hline:(apos.endLine==cpos.line)=true):PE X (.Call (.Attribute (.Constant (.str z) k p1) "join" apos) [.Call (.Name "reversed" p2) [.Name x p3] [] p4] [] cpos) (Zik z j):=by
 intro c s σ H Q I h;obtain ⟨a,R,C,p,G,q⟩:=h;refine wpAny_Call_method_late hbase (by rfl) hline rfl (thn (Zle c s σ H (λv f=>v=.str z/\f=H) I ⟨rfl,rfl⟩) λv K zq=>?_);obtain ⟨U,f,w,P,B,D⟩:=zq;subst B D;obtain ⟨t,rfl⟩:=P;refine ⟨"str","str.join",PySem.F.plainAttrs_str,Vce,Vcg,Vbp _ _ _,(λ_ e=>nomatch e),?_⟩;refine Calls.callWith_builtin (by rfl) (Calls.evalArgs_plain ?_);refine Calls.spliced_cons ?_;refine Va5 (ZhG w hg hm rfl ?_ 00 00);refine VaO (thn ((Zck (ZdT hN hv hd hcd) ZdV) p4 c K σ f (λE l=>E=[.ref a]/\l=f) w ⟨.ref a,C,rfl,rfl⟩) λV O zq=>?_) rfl (by rfl);obtain ⟨T,l,d,S,J,A⟩:=zq;subst J A;obtain ⟨u,rfl,y⟩:=vals1 S;cases y;obtain ⟨g,r,m,n⟩:=d.list (SqL.of p);refine call_reversed_list m.isList ?_;refine Calls.spliced_nil ?_;have i:(g.toArray.size:Int)=(R.length:Int):=by
  have:=r.length;rw [VaX] at this;rw [VaR,this]
 have L:a<O.heap.objs.size:=by
  obtain ⟨o,M,_⟩:=m.isList;exact Vaf M
 refine Zpe hc (d.kept λb o e=>VaH _ e) G p (VaK L) (d.fpOk (VaN _) (d.hok.fresh (VaN _))) ?_ q;rw [<-i];exact ⟨_,VaM _ rfl,rfl,rfl⟩
def ZmF(j)(hc:X.calm=true)(hg:Gl X "reversed")(hm:X.mg "reversed"=none)(hN:X.N[j]?=some x:=by rfl)(hv:Vis X.env.scope x:=by first | exact Or.inl rfl | exact Or.inr (Or.inl rfl) | exact Or.inr (Or.inr rfl))(hd:ND x:=by decide)(hcd:NE x:=by decide)(hbase:attributeBase (.Constant (.str z) k p1) "join" X.env (eval (.Constant (.str z) k p1) X.env)=eval (.Constant (.str z) k p1) X.env:=by rfl)(hline:(apos.endLine==cpos.line)=true:=by rfl) :
  DE X E (.Call (.Attribute (.Constant (.str z) k p1) "join" apos) [.Call (.Name "reversed" p2) [.Name x p3] [] p4] [] cpos) (Zik z j) (joinRev z j):=⟨Zl0 j hc hg hm hN hv hd hcd hbase hline,Zmt z j⟩
def ydC(hg:Gl X x)(hm:X.mg x=some (.str y tk))(hd:ND x:=by decide):DE X E (.Name x pos) (tC (.str y)) (c (.str y)):=⟨ZfX hg hm ⟨_,rfl⟩ hd,se_c λ_=>.str _⟩
def ybI{id:String}{name:Str}{r:V->List V->Hp->VK->Prop}{f:Str->D->Res D}(slot:Slot "str" name id)(hty:typeOf (.builtin id)=pure (.type "method_descriptor"))(hm:MtR X id r)(hf:SmD X.K X.mg r f)(ho:DE X E o to mo)(ha:004)(hbase:attributeBase o name X.env (eval o X.env)=eval o X.env:=by rfl) (hfew:((backTo cpos (starEach [a] X.env)).all (λx=>!x.1)&&(backToKw cpos (keywordEach [] X.env)).all (λx=>x.1.isSome)
   && decide ([a].length+([]:List Keyword).length+(if ([]:List Keyword).isEmpty then 0 else 1)<30))=true:=by rfl) (hline:(apos.endLine==cpos.line)=true:=by rfl) (hs:starEach [a] X.env=(false,eval a X.env)::starEach [] X.env:=by rfl) (hplain:(backTo cpos (starEach [] X.env)).any (·.1)=false:=by rfl) :
  DE X E (.Call (.Attribute o name apos) [a] [] cpos) (tBM X.K "str" r to (ZdX ta tNil)) (sD f mo ma):=⟨Zpd PySem.F.plainAttrs_str slot hty hm ho.p (Zck ha.p ZdV hs) hbase hfew hline hs hplain,ZwX hf ho.s ha.s⟩
def ZwE(ha:004)(hb:DE X E b tb mb)(hm:behindInMarks .In b=false:=by rfl):DE X E (.Compare a [.In] [b] pos) (tOp (λx y H Q=>∃i j,x=.str i/\y=.str j/\Q (.bl (!(Builtin.Str.occurrences j i 0 j.length 1).isEmpty)) H) ta tb) (o2 dInT ma mb):=Zmj Zn1 Zr6 ha hb hm
def ZrZ(ha:004)(hb:DE X E b tb mb)(hm:behindInMarks .NotIn b=false:=by rfl):DT X E (.Compare a [.NotIn] [b] pos) (Zek (tOp (λx y H Q=>∃i j,x=.str i/\y=.str j/\Q (.bl (!(!(Builtin.Str.occurrences j i 0 j.length 1).isEmpty))) H) ta tb)) (trb (o2 ZkK ma mb)):=Zfr Zjt Zpx ha hb hm
def ZjD{lo hi:Option Expr}{tl th:TO}{ml mh:Ev->Res (Option Int)}{p2:Pos}(ha:004)(hl:DO X E lo tl ml)(hh:DO X E hi th mh):DE X E (.Subscript a (.Slice lo hi none p2) pos) (tSl rSlT ta tl th) (cutT ma ml mh) :=
 ⟨Zly Zuq ha.p hl.p hh.p,Zsk ha.s hl.s hh.s⟩
def Zvf(ha:004)(hb:DE X E b tb mb)(hs:Zky b:=by exact λ_ _=>rfl):DE X E (.Subscript a b pos) (tOp rIxS ta tb) (o2 dIxT ma mb):=⟨Zt3 Zwk ha.p hb.p hs,Zno Zs4 ha.s hb.s⟩
end
section
variable {F:Hp}
def ZhD:∀{ρ:Ev} {i:Nat} {ds:List D},nOw ρ=true->ρ[i]?≠some (.ow ds)
 | [],_,_,_,e=>by simp at e
 | .ow _::_,_,_,h,_=>by cases h
 | .no::r,0,_,_,e=>by simp at e
 | .im _::r,0,_,_,e=>by simp at e
 | .no::r,i+1,_,h,e=>ZhD (ρ:=r) h (by simpa using e)
 | .im _::r,i+1,_,h,e=>ZhD (ρ:=r) h (by simpa using e)
def ZfL:∀{ρ:Ev} {i:Nat} {c:Cl},nOw ρ=true->(∀ds,c≠.ow ds)->nOw (ρ.set i c)=true
 | [],_,_,_,_=>rfl
 | .ow _::_,_,_,h,_=>by cases h
 | .no::r,0,c,h,hc=>by cases c<;>first | exact h | exact aB rfl (hc _)
 | .im _::r,0,c,h,hc=>by cases c<;>first | exact h | exact aB rfl (hc _)
 | .no::r,i+1,c,h,hc=>ZfL (ρ:=r) h hc
 | .im _::r,i+1,c,h,hc=>ZfL (i:=i) h hc
def Rep.putE{g:Addr}{o:HO}(r:Rep K mg F0 H0 F H σ ρ)(hn:nOw ρ=true)(h0:H0 g=none)(hf:F g=none):Rep K mg F0 H0 F (upd H g o) σ ρ:=by
 refine ⟨⟨r.g.f,λb u e=>?_,λb u h c=>?_,r.g.z⟩,r.len,r.im,λi d e=>aB e (ZhD hn),λi j d k a e=>aB e (ZhD hn)⟩
 ·rw [Zaf (Zai e hf)];exact r.g.s b u e
 ·rw [Zaf (Zai c h0)];exact r.g.o b u h c
def Rep.forg{x:V}(r:Rep K mg F0 H0 F H σ ρ)(hn:nOw ρ=true)(i):Rep K mg F0 H0 F H (σ.set i (some x)) (ρ.set i .no):=by
 have b:nOw (ρ.set i .no)=true:=ZfL hn 03;refine ⟨r.g,by rw [VbI,VbI];exact r.len,λj e q=>?_,λj c e=>aB e (ZhD b),λj k c d a e=>aB e (ZhD b)⟩;rcases ZaM q with ⟨_,z,_⟩ | ⟨hij,q⟩
 ·cases z
 ·rw [Zbh hij];exact r.im j e q
def Rep.h0(r:Rep K mg F0 H0 F H σ ρ)(hn:H a=none):H0 a=none:=by
 have b:=r.g.s.free hn;cases q:H0 a with
 | none=>rfl
 | some o=>
  cases q2:F0 a with
  | none=>rw [(r.g.o a o q2 q).2] at hn;cases hn
  | some u=>rw [r.g.f a u q2] at b;cases b
def Mine(K:W.Frag)(mg:001)(H0 F H:Hp)(q:Addr)(ds:List D):Prop:=H0 q=none/\F q=none/\∃a,H q=some (.lst a)/\Rps K mg F a ds
def Mine.gr(h:Mine K mg H0 F H q ds)(g:Gr F H F' H'):Mine K mg H0 F' H' q ds:=by
 obtain ⟨b,j,i,a,d⟩:=h;obtain ⟨e,c⟩:=g.o q _ j a;exact ⟨b,e,i,c,d.same g.f⟩
def Mine.put(h:Mine K mg H0 F H q ds)(hn:q≠g):Mine K mg H0 F (upd H g o) q ds:=by
 obtain ⟨b,e,d,a,c⟩:=h;exact ⟨b,e,d,by rw [Zaf hn];exact a,c⟩
structure Gst(K:W.Frag)(mg:001)(H0:Hp)(i:Nat)(g:Addr)(rs:List Addr)(r:Addr)(gs:List (List D))(cur:List D)(F H:Hp)(σ:St):Prop where
 a:σ[i]?=some (some (.ref g))
 z:H0 g=none
 f:F g=none
 h:H g=some (.lst ((rs++[r]).map V.ref))
 n:∀q∈rs++[r],q≠g
 m:∀q∈rs,q≠r
 l:rs.length=gs.length
 d:∀(k:Nat) (q:Addr) (ds:List D),rs[k]?=some q->gs[k]?=some ds->Mine K mg H0 F H q ds
 c:Mine K mg H0 F H r cur
variable {g r:Addr} {rs:List Addr} {gs:List (List D)} {cur:List D}
def Gst.gr(s:Gst K mg H0 i g rs r gs cur F H σ)(q:Gr F H F' H'):Gst K mg H0 i g rs r gs cur F' H' σ:=by
 obtain ⟨u,t⟩:=q.o g _ s.f s.h;exact ⟨s.a,s.z,u,t,s.n,s.m,s.l,λk p b e j=>(s.d k p b e j).gr q,s.c.gr q⟩
def Gst.st(s:Gst K mg H0 i g rs r gs cur F H σ)(e:σ'[i]?=σ[i]?):Gst K mg H0 i g rs r gs cur F H σ' :=
 ⟨e.trans s.a,s.z,s.f,s.h,s.n,s.m,s.l,s.d,s.c⟩
def Gst.new(s:Gst K mg H0 i g rs r gs cur F H σ)(hp:H p=none)(h0:H0 p=none)(hf:F p=none) :
  Gst K mg H0 i g (rs++[r]) p (gs++[cur]) [] F (upd (upd H p (.lst [])) g (.lst ((rs++[r]).map V.ref++[.ref p]))) σ:=by
 have w:=Zai s.h hp;have v:∀{q:Addr} {e:List D},Mine K mg H0 F H q e->q≠p:=λh=>by
  obtain ⟨_,_,A,x,_⟩:=h;exact Zai x hp
 have j:∀{q:Addr} {e:List D},q≠g->Mine K mg H0 F H q e->Mine K mg H0 F (upd (upd H p (.lst [])) g (.lst ((rs++[r]).map V.ref++[.ref p]))) q e:=λy h=>(h.put (v h)).put y;refine ⟨s.a,s.z,s.f,by rw [Zah,Vb1 (l₁:=rs++[r])];rfl,λq u=>?_,λq u=>?_,by rw [Vbf,Vbf,s.l];rfl,λk q e b m=>?_,⟨h0,hf,[],by rw [Zaf (Ne.symm w)];exact Zah,.nil⟩⟩
 ·rcases Vau.mp u with h | h
  ·exact s.n q h
  ·rw [VbZ.mp h];exact Ne.symm w
 ·rcases Vau.mp u with h | h
  ·obtain ⟨k,o,rfl⟩:=VbV.mp h;exact v (s.d k rs[k] (gs[k]'(by rw [<-s.l];exact o)) (VbL o) (VbL _))
  ·rw [VbZ.mp h];exact v s.c
 ·by_cases o:k<rs.length
  ·rw [Vbc o] at b;rw [Vbc (by rw [<-s.l];exact o)] at m;exact j (s.n q (Vav _ (Vbe b))) (s.d k q e b m)
  ·rw [Vba 000] at b;rw [Vba (by rw [<-s.l];omega)] at m;have t:k - rs.length=0:=by
    have:=(Vaw.mp b).1;simp at this;omega
   rw [t] at b;rw [show k - gs.length=0 by rw [<-s.l];exact t] at m;cases b;cases m;exact j (s.n _ (VaQ _ Vaq)) s.c
def Gst.app{x:V}(s:Gst K mg H0 i g rs r gs cur F H σ)(hr:H r=some (.lst xs))(hx:Rp K mg F x d):Gst K mg H0 i g rs r gs (cur++[d]) F (upd H r (.lst (xs++[x]))) σ:=by
 have t:=s.n r (VaQ _ Vaq);obtain ⟨u,o,w,b,j⟩:=s.c;rw [hr] at b;cases b;exact ⟨s.a,s.z,s.f,by rw [Zaf (Ne.symm t)];exact s.h,s.n,s.m,s.l,λk q p e v=>(s.d k q p e v).put (s.m q (Vbe e)),⟨u,o,_,Zah,Rps.app (.cons hx .nil) j⟩⟩
def Gst.ret(s:Gst K mg H0 i g rs r gs cur F H σ)(rr:Rep K mg F0 H0 F H σ ρ):∃F',Gr F0 H0 F' H/\Rp K mg F' (.ref g) (.lst ((gs++[cur]).map D.lst)):=by
 let F':Hp:=λb=>match F b with
  | some o=>some o
  | none=>if b=g\/b∈rs++[r] then H b else none
 have B:Same F F':=λb o e=>by show (match F b with | some o=>some o | none=>_)=some o;rw [e]
 have A:∀{b:Addr},F b=none->(b=g\/b∈rs++[r])->F' b=H b:=λ{b} e h=>by
  show (match F b with | some o=>some o | none=>_)=_
  rw [e];exact iP h
 have x:∀{q:Addr} {ds:List D},q∈rs++[r]->Mine K mg H0 F H q ds->Rp K mg F' (.ref q) (.lst ds):=λhm h=>by
  obtain ⟨P,L,n,t,G⟩:=h;exact .lst (SqL.of ((A L (.inr hm)).trans t)) (G.same B)
 have C:∀b,b=g\/b∈rs++[r]->∃n,H b=some (.lst n):=λb h=>by
  rcases h with rfl | h
  ·exact ⟨_,s.h⟩
  ·rcases Vau.mp h with h | h
   ·obtain ⟨k,p,e⟩:=VbV.mp h;have E:k<gs.length:=by have:=s.l;omega
    obtain ⟨_,_,n,t,_⟩:=s.d k b gs[k] (by rw [VbL p,e]) (VbL E);exact ⟨n,t⟩
   ·have:b=r:=by simpa using h
    subst this;obtain ⟨_,_,n,t,_⟩:=s.c;exact ⟨n,t⟩
 refine ⟨F',⟨rr.g.f.trans B,λb o e=>?_,λb o m j=>?_,λb o u e=>by
  cases q:F b with
  | some w=>
   rw [B b w q] at e;cases e;exact rr.g.z b o u q
  | none=>
   have a:(match F b with | some o=>some o | none=>if b=g\/b∈rs++[r] then H b else none)=some (.frz o u):=e
   rw [q] at a;dsimp only at a;split at a
   ·next J=>
    obtain ⟨n,I⟩:=C b J;rw [I] at a;cases a
   ·cases a⟩,.lst (SqL.of ((A s.f (.inl rfl)).trans s.h)) (ZqR (by rw [VaX,VaX,Vbf,Vbf,s.l];rfl) λk y d m j=>?_)⟩
 ·cases q:F b with
  | some u=>
   rw [B b u q] at e;cases e;exact rr.g.s b _ q
  | none=>
   have a:(match F b with | some o=>some o | none=>if b=g\/b∈rs++[r] then H b else none)=some o:=e
   rw [q] at a;dsimp only at a;split at a
   ·exact a
   ·cases a
 ·obtain ⟨O,M⟩:=rr.g.o b o m j;refine ⟨?_,M⟩;show (match F b with | some o=>some o | none=>if b=g\/b∈rs++[r] then H b else none)=none
  rw [O];refine iN ?_;rintro (rfl | hm)
  ·rw [s.z] at j;cases j
  ·have N:H0 b=none:=by
    rcases Vau.mp hm with h | h
    ·obtain ⟨k,p,rfl⟩:=VbV.mp h;exact (s.d k rs[k] (gs[k]'(by rw [<-s.l];exact p)) (VbL p) (VbL _)).1
    ·rw [VbZ.mp h];exact s.c.1
   rw [N] at j;cases j
 ·rw [Vbd] at m j;cases q1:(rs++[r])[k]? with
  | none=>rw [q1] at m;cases m
  | some q=>
   rw [q1] at m;cases m;cases q2:(gs++[cur])[k]? with
   | none=>rw [q2] at j;cases j
   | some ds=>
    rw [q2] at j;cases j;refine x (Vbe q1) ?_;by_cases p:k<rs.length
    ·rw [Vbc p] at q1;rw [Vbc (by rw [<-s.l];exact p)] at q2;exact s.d k q ds q1 q2
    ·rw [Vba 000] at q1;rw [Vba (by rw [<-s.l];omega)] at q2;have v:k - rs.length=0:=by
      have:=(Vaw.mp q1).1;simp at this;omega
     rw [v] at q1;rw [show k - gs.length=0 by rw [<-s.l];exact v] at q2;cases q1;cases q2;exact s.c
def tGrp(K:W.Frag)(i j k:Nat)(sc:TT):TS:=tSeq (tAsg (tLst (ZdX (tLst tNil) tNil)) (ZfB i)) (tSeq (tFor (iSeq K (tVar k)) (ZfB j) (tIfS sc (Zhz (tBM K "list" Zd6 (tVar i) (ZdX (tLst tNil) tNil))) (Zhz (tBM K "list" Zd6 (tOp (rIxD K) (tVar i) (tUn (rU λi=>V.int (-i)) (tC (.int 1)))) (ZdX (tVar j) tNil))))) (tRet (tVar i)))
def ZiI{nt:MB}{c:Str}:∀(ds:List D) (gs:List (List D)) (g:List D),ZeE i j nt ρ ds gs g≠.ex c
 | [],_,_,h=>by cases h
 | d::r,gs,g,h=>by
  unfold ZeE at h;cases e:noEx (nt ((ρ.set i .no).set j (.im d))) with
  | bad=>rw [e] at h;cases h
  | ex c'=>cases z:nt ((ρ.set i .no).set j (.im d))<;>rw [z] at e<;>cases e
  | ok b=>
   rw [e] at h;have a:(if b=true then ZeE i j nt ρ r (gs++[g]) [] else ZeE i j nt ρ r gs (g++[d]))=.ex c:=h
   split at a
   ·exact ZiI r _ _ a
   ·exact ZiI r _ _ a
def Zu2(hij:i≠j)(hik:i≠k)(ht:STt K mg E sc nt):SS K mg E (tGrp K i j k sc) (grp i j k nt):=by
 intro Z N F H σ ρ Q;unfold grp;split
 ·next C ek=>
  split
  ·next hc=>
   simp only [Vbo,Vcd] at hc;obtain ⟨⟨⟨U,li⟩,lj⟩,hl⟩:=hc;cases er:ZeE i j nt ρ C [] [] with
   | bad=>trivial
   | ex c=>exact aB er (ZiI _ _ _)
   | ok res=>
   intro D q;obtain ⟨x,ex,rx⟩:=Q.im k _ ek;cases rx with
   | lst hq hrs=>
   rename_i aw xs;refine ⟨(Va0 _),λM W=>⟨(show 1<=sizeLine by decide),λp hp=>?_⟩⟩;have n1:p≠M:=by
    rintro rfl;rw [Zah] at hp;cases hp
   have R:H p=none:=by rwa [Zaf n1] at hp
   have z1:=Q.h0 W;have z2:=Q.h0 R;have f1:=Q.g.s.free W;have f2:=Q.g.s.free R;have r1:Rep K mg Z N F (upd (upd H M (.lst [])) p (.lst [.ref M])) (σ.set i (some (.ref p))) (ρ.set i .no):=((Q.putE U z1 f1).putE U z2 f2).forg U i;have s1:Gst K mg N i p [] M [] [] F (upd (upd H M (.lst [])) p (.lst [.ref M])) (σ.set i (some (.ref p))) :=
    ⟨ZhE (by rw [Q.len];exact li),z2,f2,Zah,λu hu=>by rw [VbZ.mp hu];exact Ne.symm n1,λu hu=>by simp at hu,rfl,λk u es e=>by simp at e,⟨z1,f1,[],by rw [Zaf (Ne.symm n1)];exact Zah,.nil⟩⟩
   refine ⟨.ref aw,by rw [Zbh hik];exact ex,aw,rfl,.inl ⟨⟨xs,r1.ss.seq hq⟩,?_⟩⟩
   refine ⟨λm fu σ' Y=>fu=C.length - m/\m<=C.length/\∃G v g w r B t,Same F G/\Rep K mg Z N G Y σ' v/\nOw v=true/\(∀d,v.set j (.im d)=(ρ.set i .no).set j (.im d))/\Gst K mg N i g w r B t G Y σ'/\B.length<=m/\t.length<=m/\ZeE i j nt ρ (C.drop m) B t=.ok res,
    ⟨_,rfl,Va0 _,F,ρ.set i .no,p,[],M,[],[],Same.refl _,r1,ZfL U 03,λ_=>rfl,s1,VaN _,VaN _,er⟩,?_⟩
   rintro m fu σ' Y ⟨rfl,hm,G,v,g,w,r,B,t,sF,r',hn',J,st,lg,lc,L⟩;have O:=r'.ss.seq (sF.seq hq);by_cases hlt:m<C.length
   ·refine .inr ?_;have hd:=VbL hlt;obtain ⟨y,ey,ry⟩:=hrs.get hd;rw [VbE hlt] at L;generalize C[m]=d at L ry hd;obtain ⟨b,eb,L⟩:=Zsp L;have eb:=ZsV eb
    refine ⟨⟨xs,y,O,ey⟩,λP S=>∃G v g w r B t,Same F G/\Rep K mg Z N G S P v/\nOw v=true/\(∀d,v.set j (.im d)=(ρ.set i .no).set j (.im d))/\Gst K mg N i g w r B t G S P/\B.length<=m+1/\t.length<=m+1/\ZeE i j nt ρ (C.drop (m+1)) B t=.ok res,
     λP S z=>⟨C.length - (m+1),by omega,rfl,hlt,z⟩,?_⟩
    rintro y' S ⟨rfl,hy⟩;have e2:=hy xs O;rw [ey] at e2;cases e2;have T:=ry.same sF;have r2:=r'.set j T;rw [J d] at r2;have st2:=st.st (σ':=σ'.set j (some y)) (Zbh (Ne.symm hij));have hT:=ht Z N G S _ _ r2;rw [eb] at hT;refine hT _ λF3 H3 b' X hb=>?_;cases (hb);have r3:=r2.gr X;have o:=st2.gr X;have A:nOw ((ρ.set i .no).set j (.im d))=true:=ZfL (ZfL U 03) 03
    have sj:(σ'.set j (some y))[j]?=some (some y):=ZhE (by
     have:=r'.len;have e3:v.length=ρ.length:=by
      have:=VaA List.length (J d);simpa using this
     omega)
    have bd:∀n,n<=m+1->n<sizeLine:=λn h=>Vbs (Vao h hlt) (Vag hl 00);cases b with
    | true=>
     refine ⟨.ref g,o.a,.inl ⟨rfl,_,SqL.of o.h⟩,by decide,λp3 I=>?_⟩;have gp:=Zai o.h I;refine ⟨g,(w++[r]).map V.ref,.ref p3,rfl,rfl,by rw [Zaf gp];exact o.h,bd _ (by rw [VaX,Vbf,st.l];exact VbP lg),?_⟩;have w0:=r3.h0 I;have wf:=r3.g.s.free I;exact ⟨F3,_,g,w++[r],p3,B++[t],[],sF.trans X.f,(r3.putE A w0 wf).putE A o.z o.f,A,λd'=>by rw [List.set_set],o.new I w0 wf,by rw [Vbf];exact VbP lg,Va0 _,L⟩
    | false=>
     obtain ⟨c1,c2,cs,c3,c4⟩:=o.c;refine ⟨.ref g,o.a,1,rfl,.inl ⟨g,(w++[r]).map V.ref,-1,.ref r,rfl,rfl,SqL.of o.h,?_,.inl ⟨rfl,cs,SqL.of c3⟩,y,sj,r,cs,y,rfl,rfl,c3,bd _ (by rw [c4.length];exact Nat.le_succ_of_le lc),?_⟩⟩
     ·unfold atI ixN;rw [iN 00,iP (by rw [VaX,Vbf];simp;omega)];show ((w++[r]).map V.ref)[(-1+(((w++[r]).map V.ref).length:Int)).toNat]?=_;rw [VaX,Vbf,List.length_singleton,show (-1+((w.length+1:Nat):Int)).toNat=w.length by omega,Vbd,Vba (VaN _),Nat.sub_self];rfl
     ·exact ⟨F3,_,g,w,r,B,t++[d],sF.trans X.f,r3.putE A c1 c2,A,λd'=>by rw [List.set_set],o.app c3 (T.same X.f),Nat.le_succ_of_le lg,by rw [Vbf];exact VbP lc,L⟩
   ·refine .inl ⟨⟨xs,O,by rw [hrs.length];omega⟩,?_⟩;have e0:C.drop m=[]:=VbM 000;rw [e0] at L;cases L;obtain ⟨F5,g5,x5⟩:=st.ret r';exact ⟨.ref g,st.a,q F5 Y (.ref g) g5 x5⟩
  ·trivial
 ·trivial
end
section
variable {y z:Str} {t':Expr} {sc:TT} {nt:MB} {p1 p2 p3 p4 p5 p6 p7 p8 p9 q1 q2 q3 q4 q5 q6 q7 q8 q9:Pos} {n1:Nat}
def Ztd(hN:X.N.Nodup)(hp:PassesOwn (model X.prog X.w) X.A X.env X.xe)(hc:X.calm=true)(hij:i≠j)(hik:i≠k)(hi:X.N[i]?=some x)(hx:Loc X.env.scope x)(hj:X.N[j]?=some y)(hy:Loc X.env.scope y)(hk:X.N[k]?=some z)(ht:DT X E t' sc nt)(hv:Vis X.env.scope x:=by first | exact Or.inl rfl | exact Or.inr (Or.inl rfl) | exact Or.inr (Or.inr rfl))(hd:ND x:=by decide)(hcd:NE x:=by decide)(hvy:Vis X.env.scope y:=by first | exact Or.inl rfl | exact Or.inr (Or.inl rfl) | exact Or.inr (Or.inr rfl))(hdy:ND y:=by decide)(hcdy:NE y:=by decide)(hvz:Vis X.env.scope z:=by first | exact Or.inl rfl | exact Or.inr (Or.inl rfl) | exact Or.inr (Or.inr rfl))(hdz:ND z:=by decide)(hcdz:NE z:=by decide)(hs:swapsWith (.List [.List [] p1] p2) (some (.Name x p3)) p4.line X.env=pure false:=by rfl)(hf:013:=by first | exact .inl rfl | exact .inr rfl | assumption)(hfy:X.fn y=true\/X.env.scope.names.lookup y=some .local:=by first | exact .inl rfl | exact .inr rfl | assumption)(hse:starEach [.List [] p1] X.env=(false,eval (.List [] p1) X.env)::starEach [] X.env:=by rfl)(hfs:∀u,foldedSetIterable (.Name z p6) X.env u=pure u:=by intro _;rfl)(hb1:attributeBase (.Name x p7) "append" X.env (eval (.Name x p7) X.env)=eval (.Name x p7) X.env:=by rfl) (hw1:((backTo p9 (starEach [.List [] q1] X.env)).all (λx=>!x.1)&&(backToKw p9 (keywordEach [] X.env)).all (λx=>x.1.isSome)
   && decide (([.List [] q1]:List Expr).length+([]:List Keyword).length+(if ([]:List Keyword).isEmpty then 0 else 1)<30))=true:=by rfl) (hl1:(p8.endLine==p9.line)=true:=by rfl) (hs1:starEach [.List [] q1] X.env=(false,eval (.List [] q1) X.env)::starEach [] X.env:=by rfl) (hp1:(backTo p9 (starEach [] X.env)).any (·.1)=false:=by rfl) (hsw1:swapsWith (.Call (.Attribute (.Name x p7) "append" p8) [.List [] q1] [] p9) none q2.line X.env=pure false:=by rfl) (hb2:attributeBase (.Subscript (.Name x q3) (.UnaryOp .USub (.Constant (.int 1) n1 q4) q5) q6) "append" X.env (eval (.Subscript (.Name x q3) (.UnaryOp .USub (.Constant (.int 1) n1 q4) q5) q6) X.env)=eval (.Subscript (.Name x q3) (.UnaryOp .USub (.Constant (.int 1) n1 q4) q5) q6) X.env:=by rfl) (hw2:((backTo q8 (starEach [.Name y q9] X.env)).all (λx=>!x.1)&&(backToKw q8 (keywordEach [] X.env)).all (λx=>x.1.isSome)
   && decide (([.Name y q9]:List Expr).length+([]:List Keyword).length+(if ([]:List Keyword).isEmpty then 0 else 1)<30))=true:=by rfl) (hl2:(q7.endLine==q8.line)=true:=by rfl) (hs2:starEach [.Name y q9] X.env=(false,eval (.Name y q9) X.env)::starEach [] X.env:=by rfl) (hp2:(backTo q8 (starEach [] X.env)).any (·.1)=false:=by rfl) {r1 r2 r3 r4 r5:Pos} (hsw2:swapsWith (.Call (.Attribute (.Subscript (.Name x q3) (.UnaryOp .USub (.Constant (.int 1) n1 q4) q5) q6) "append" q7) [.Name y q9] [] q8) none r1.line X.env=pure false:=by rfl) :
  DSs X E [.Assign [.Name x p3] (.List [.List [] p1] p2) p4,.For (.Name y p5) (.Name z p6) [.If t' [.Expr (.Call (.Attribute (.Name x p7) "append" p8) [.List [] q1] [] p9) q2] [.Expr (.Call (.Attribute (.Subscript (.Name x q3) (.UnaryOp .USub (.Constant (.int 1) n1 q4) q5) q6) "append" q7) [.Name y q9] [] q8) r1] r2] [] r3,.Return (some (.Name x r4)) r5]
   (tGrp X.K i j k sc) (grp i j k nt) :=
 ⟨Zez (Zne hN hi hx (Zj1 (Zck (Zj1 ZdV) ZdV hse)) hs hf) (Zez (ZrA hp hc (Zbr (E:=E) (d_v k hk hvz hdz hcdz)).p (ZoA hN hj hy hfy) (ZfV (Zvn ht.p
   (ZfV (ZfR (Zpd PySem.F.plainAttrs_list PySem.F.slot_list_append PySem.F.type_list_append ZgG (ZdT hi hv hd hcd) (Zck (Zj1 ZdV) ZdV hs1) hb1 hw1 hl1 hs1 hp1) hsw1))
   (ZfV (ZfR (Zpd PySem.F.plainAttrs_list PySem.F.slot_list_append PySem.F.type_list_append ZgG (Zt3 (IxR.or ZnG Zry) (ZdT hi hv hd hcd) (ZvZ Zrs Zq8) (λ_ _=>rfl)) (Zck (ZdT hj hvy hdy hcdy) ZdV hs2) hb2 hw2 hl2 hs2 hp2) hsw2)))) hfs) (ZfV (Zro (ZdT hi hv hd hcd)))),
Zu2 hij hik ht.s⟩
end
end L2.Ds
namespace L2
open PySem.Calls
def Zo8:List Value->Bool
 | .ref _::r=>Zo8 r
 | l=>l==Zfk
def ZgA(self):∀{l:List Value},Zo8 l=true->refuseLoop self "__setattr__" l=pure ()
 | .ref C::r,h=>by rw [refuseLoop_ref];exact ZgA self (l:=r) h
 | [],h=>by cases h
 | .type n::r,h=>by rw [VaS.mp (h)];exact PySem.F.store_ValueError.passes self
 | .none::r,h=>by cases h
 | .ellipsis::r,h=>by cases h
 | .notImplemented::r,h=>by cases h
 | .bool _::r,h=>by cases h
 | .int _ _::r,h=>by cases h
 | .float _ _::r,h=>by cases h
 | .str _ _::r,h=>by cases h
 | .bytes _ _::r,h=>by cases h
 | .builtin _::r,h=>by cases h
structure ClsX(K:W.Frag)(C:Addr):Prop where
 m:W.mroIn K C (.type "object")=some true
 o:((W.clsIn K C).any λcd=>Zo8 cd.mro)=true
 d:W.hasDictIn K C=true
 sa:W.findIn K 05 "__setattr__"=some (some (.builtin "object.__setattr__"))
section
open PySem.Builtin PySem.Builtin.ObjectAttr PySem.W
variable{prog:Program} {E:Value->Shared->Prop} {x C:Addr} {name:Str} {v:Value}
def osaX(XI:K.In s.heap)(I:W.InstAt s.heap x ox C od)(c:ClsX K C)(hn:W.findIn K 05 name=some none) (h:wpAny 08 A.in1 (storeInOwnDict (.ref x) 05 (.str name tk) name v false)
   (λfin s'=>match fin with | .done f=>R (.ok f) s' | .again c'=>c'.quiet=true/\codeAny 08 A c' R s') (λe s'=>R (.error e) s') s) :
  codeAny 08 A (.call (.builtin "object.__setattr__") ⟨[.ref x,.str name tk,v],[]⟩) R s:=by
 have a:=PySem.F.store_object;obtain ⟨i,d,j⟩:=W.any_some c.o;have b:W.Looks 08 s.heap (isInstance (.ref x) (.type "object")) true:=I.type.andThen (VbD XI c.m);refine VbA a.slot.plain a.entry (@W.check_slot 08 _ _ s "object.__setattr__" "object" "__setattr__" (.ref x) [.str name tk,v] [] _ a.kind a.split b (a.args (.ref x) (.str name tk) v) ?_);have g:W.Looks 08 s.heap (mroOf 05) i.mro:=(W.looks_clsIn XI d).andThen .now;rw [W.osa_eq,refuse_eq];refine VaD (VaD (I.type.here (VaD (g.here ?_))));rw [ZgA _ j];refine VaF (VaD (I.type.here (VaD ((VaV XI hn).here (VaD ?_)))));exact (W.Looks.now).here h
end
abbrev exFs(t:Addr):Data:=.fields #[.ref t,.none,.none,.none,.bool false,.none]
def ExN(a C:Addr)(h:Heap):Prop:=∃t,h.get? a=some { cls:=.ref C,data:=exFs t }
def ExM(a C d:Addr)(h:Heap):Prop:=∃t,h.get? a=some { cls:=.ref C,dict:=some d,data:=exFs t }
def exN(a C:Addr):HO:=.ext (ExN a C)
def exM(a C d:Addr):HO:=.ext (ExM a C d)
section
variable {h:Heap} {a C d:Addr}
def ZvK(e:ExN a C h):Zdl P w H h a (exN a C):=⟨e,e.elim λ_ z=>⟨_,z⟩,λ_ _ ⟨t,q⟩ k=>⟨t,k _ q⟩⟩
def Zu4(e:ExM a C d h):Zdl P w H h a (exM a C d):=⟨e,e.elim λ_ z=>⟨_,z⟩,λ_ _ ⟨t,q⟩ k=>⟨t,k _ q⟩⟩
end
section
open PySem.Builtin PySem.Builtin.ObjectAttr
variable {a C:Addr} {f:Str} {E:Value->Shared->Prop}
def Zkn(I:09)(e:H a=some (exN a C))(c:ClsX X.K C)(n:W.findIn X.K 05 f=some none)(ry:RelV y u)(h:∀d s',H d=none->d≠a->Inv X pins σ (upd (upd H a (exM a C d)) d (.xd [(f,y)])) s'->Q () s'):wpAny (model X.prog X.w) A (setAttr (.ref a) f u) Q E s:=by
 obtain ⟨t,x⟩ : ExN a C s.heap:=(I.hok a _ e).1;have J:W.InstAt s.heap a { cls:=.ref C,data:=exFs t } C none:=⟨x,rfl,rfl,trivial⟩;refine W.set_plain I.kIn J c.sa (osaX I.kIn J c n ?_);obtain ⟨cd,hc,D⟩:=W.any_some c.d;have G:=Vaf x;refine VaD (VaF (VaD ?_));refine VaD (VaT x (VaD (W.Looks.here (W.looks_clsIn I.kIn hc) ?_)));rw [D];refine VaD (wpAny_alloc' ?_);have p:(s.heap.push { cls:=.type "dict",data:=.dict #[] }).get? a=some { cls:=.ref C,data:=exFs t }:=VaH _ x;refine VaD (wpAny_update' p ?_);refine VaF ?_;have S:(s.heap.push { cls:=.type "dict",data:=.dict #[] }).get? s.heap.objs.size=some { cls:=.type "dict",data:=.dict #[] }:=Heap.get?_push_at rfl rfl;have l:=VaK G;have N:((s.heap.push { cls:=.type "dict",data:=.dict #[] }).update a λo=>{ o with dict:=some s.heap.objs.size }).get? s.heap.objs.size=some { cls:=.type "dict",data:=.dict #[] } :=
  (Heap.get?_update_ne _ _ _ _ l).trans S
 have M:((s.heap.push { cls:=.type "dict",data:=.dict #[] }).update a λo=>{ o with dict:=some s.heap.objs.size }).Ns s.heap.objs.size (λ_=>none) :=
  ⟨_,#[],_,N,rfl,λe he=>aB he 03,λ_=>rfl⟩
 have B:((s.heap.push { cls:=.type "dict",data:=.dict #[] }).update a λo=>{ o with dict:=some s.heap.objs.size }).get? a=some { cls:=.ref C,dict:=some s.heap.objs.size,data:=exFs t }:=VbX _ p rfl
 refine VaD (VaF (VaD (wpAny_nsSet1 (Heap.Ns1.of_empty M) λh' v T=>?_)));obtain ⟨oD,V,Z,L,P,O⟩:=v.count (Within.cons f u Within.nil);refine VaD (wpAny_lookBehind L (by rw [P];exact pastItsLine_dict (Vao O (by rw [VaU,Vch,sizeLine_eq];omega))) ?_);refine VaF ?_;have j:=I.hok.fresh (VaN _);have i:∀b o,b≠a->s.heap.get? b=some o->h'.get? b=some o:=λb o hb z=>
  (T.2 b (Vai (Vaf z))).trans ((Heap.get?_update_ne _ _ _ _ hb).trans (VaH _ z))
 have F:∀b,H b=none->b≠a:=λb z q=>by rw [q,e] at z;cases z
 have R:∀b o,s.heap.get? b=some o->b≠s.heap.objs.size:=λb o z=>Vai (Vaf z);have k:∀b o,H b=some o->b≠s.heap.objs.size:=λb o z q=>by rw [q,j] at z;cases z
 have m:=(T.2 a (Ne.symm l)).trans B;refine h s.heap.objs.size _ j l (I.un ⟨λb o z n _ _=>i b o (F b n) z,λb o z n _ _=>⟨o.slots,i b o (F b n) z⟩,λb o z n _=>?_,λb o z _=>?_,λb U z=>?_,λb o U z=>?_,λb ps z=>⟨#[],?_⟩⟩ λb o z=>?_)
 ·rw [Zaf (R b o z),Zaf (F b n)];exact n
 ·by_cases q:b=a
  ·exact ⟨_,q▸m⟩
  ·exact ⟨o,i b o q z⟩
 ·rw [Zaf (k b _ z),Zaf (λq=>by rw [q,e] at z;cases z)];exact z
 ·rw [Zaf (k b _ z),Zaf (λq=>by rw [q,e] at z;cases z)];exact z
 ·rw [Zaf (k b _ z),Zaf (λq=>by rw [q,e] at z;cases z),z];simp
 ·by_cases q:b=s.heap.objs.size
  ·subst q;rw [Zah] at z;cases z;refine ⟨_,v,λg=>?_⟩;rw [Vbt];by_cases q:g=f
   ·rw [iP q,VaS.mpr q];exact ry
   ·rw [iN q,beq_false_of_ne q];trivial
  ·rw [Zaf q] at z;by_cases q2:b=a
   ·subst q2;rw [Zah] at z;cases z;exact Zu4 ⟨t,m⟩
   ·rw [Zaf q2] at z;refine (I.hok b o z).stay (λc Y hc r=>?_) (λc r=>?_) λc U r=>?_
    ·refine i c Y ?_ r;rcases hc with rfl | hc
     ·exact q2
     ·exact λq=>by rw [q,e] at hc;cases hc
    ·rw [Zaf (k c _ r),Zaf (λq=>by rw [q,e] at r;cases r)];exact r
    ·rw [Zaf (k c _ r),Zaf (λq=>by rw [q,e] at r;cases r)];exact r
end
def ZhO(K:W.Frag)(C fI:Addr):Bool:=W.excIn.match_6 (λ_=>Bool) (K.lookup C) (λ_ a b=>W.excIn.match_1 (λ_ _=>Bool) a.mro b.toList
 (λd c _ _ _ _ n _=>d==C&&n == "ValueError.__new__"&&!a.hasDel&&W.tailIn K Zfk c&&W.findIn K 05 "__init__"==some (some (.ref fI))&&W.typeIn K (.ref fI)==some (.type "function")) λ_ _=>false) λ_=>false
section
variable{prog:Program} {E:Value->Shared->Prop} {h:Heap} {g:Array GenState} {d:Drawn} {t:Nat} {os:OsState} {C fI:Addr}
def Zhn{N:Addr}{rest:List Value}(XI:K.In h)(hC:h.get? C=some (excClassObj nm q C N bs bm hdct sn sub ab col dd k0 k1 k2 k3 k5 "ValueError.__new__"))(T:OwnTail h Zfk bm)(hi:W.findIn K 05 "__init__"=some (some (.ref fI)))(hfn:W.typeIn K (.ref fI)=some (.type "function"))(hq:∀h' e,Heap.MadeExcOf h h' e 05 rest->wpAny 08 A (call (.ref fI) (.ref e::rest)) (λr s'=>r=.none/\Q (.done (.ret (.ref e))) s') E ⟨h',g,d,t,os⟩)(hrest:rest.length<=sizeLine) :
  wpAny 08 A (Builtin.«type.__call__» ⟨.ref C::rest,[]⟩) Q E ⟨h,g,d,t,os⟩:=by
 have j:=Vbz;have i:Zfk.contains (.type "ValueError")=true:=by decide +kernel
 repeat (first | with_reducible refine wpAny_loadPart_at hC ?_ | with_reducible refine wpAny_madeBy_exc hC ?_ | wp_step)
 refine codeAny_call_builtin_code (VbB _ j.quiet) (wpAny_check_new_subU j i T hC ?_);refine codeAny_exc_new_subU j i j T hC ?_ hrest;have c:=VaH { cls:=.ref C,data:=.fields #[.ref h.objs.size,.none,.none,.none,.bool false,.none] }
  (VaH { cls:=.type "tuple",data:=.seq rest.toArray } hC)
 have a:((h.push { cls:=.type "tuple",data:=.seq rest.toArray }).push
   { cls:=.ref C,data:=.fields #[.ref h.objs.size,.none,.none,.none,.bool false,.none] }).get? (h.objs.size+1)=some
   { cls:=.ref C,data:=.fields #[.ref h.objs.size,.none,.none,.none,.bool false,.none] }:=by heap_get
 have k:(Value.ref C::bm).contains 05=true:=by simp
 have f:K.In ((h.push { cls:=.type "tuple",data:=.seq rest.toArray }).push { cls:=.ref C,data:=.fields #[.ref h.objs.size,.none,.none,.none,.bool false,.none] }):=λb o e=>VaH _ (VaH _ (XI b o e))
 repeat (first | with_reducible refine wpAny_loadPart_at a ?_ | (with_reducible refine wpAny_isSubtype_exc c ?_;rw [k]) | wp_step)
 refine (VaV f hi).here ?_;refine Vbl (VaD ?_);refine (W.bind_fn f _ hfn).here ?_;refine VaD (Vax (hq _ (h.objs.size+1) ⟨λb o m=>VaH _ (VaH _ m),Vas (Nat.le_succ _),h.objs.size,a,Vas (VaN _),?_⟩) (λr s' l=>?_) λ_ _ x=>x)
 ·exact VaH _ (Heap.get?_push_at rfl rfl)
 ·obtain ⟨rfl,n⟩:=l
  wp_walk
  exact n
def Znc{rest:List Value}(XI:K.In h)(q:ZhO K C fI=true) (hq:∀h' e,Heap.MadeExcOf h h' e 05 rest ->
   wpAny 08 (A.under (.builtin "type.__call__" ⟨.ref C::rest,[]⟩)) (call (.ref fI) (.ref e::rest)) (λr s'=>r=.none/\Q (.ref e) s') E ⟨h',g,d,t,os⟩) (hrest:rest.length<=sizeLine) :
  wpAny 08 A (call 05 rest) Q E ⟨h,g,d,t,os⟩:=by
 unfold ZhO at q;split at q
 ·rename_i dd cd sl ho;split at q
  ·rename_i C' bm k0 k1 k2 k3 n k5 f hs;simp only [Vbo,VaS,Bool.not_eq_true'] at q;obtain ⟨⟨⟨⟨⟨rfl,rfl⟩,a⟩,p⟩,o⟩,c⟩:=q;obtain ⟨F,y,m,v,x,j,D,u,G,s,k⟩:=cd;subst f a;have i:sl=#[k0,k1,k2,k3,some (.builtin "ValueError.__new__"),k5]:=by
    obtain ⟨l⟩:=sl;simp only at hs;rw [hs]
   subst i;have b:=XI _ _ ho;have T:=W.tail_of_in XI p;have H:=Vbz;have z:=tc_lookup;have B:=tc_bind (.ref C');refine Va3 (codeAny_of_tree ?_)
   repeat (any_goals (first | assumption | with_reducible refine wpAny_loadPart_at b ?_ | wp_step))
   refine ⟨rfl,?_⟩;refine codeAny_call_builtin_at (VbB _ (by decide +kernel)) entry_typeCall (wpAny_check_type_call_sub b ?_);exact Zhn XI b T o c (λh' e f=>hq h' e f) hrest
  ·cases q
 ·cases q
end
def Zxh(K:W.Frag)(ta tv:TE)(f:Str):TS:=λD σ H=>tv σ H λy c=>ta σ c λx b=>∃a C,x=.ref a/\b a=some (exN a C)/\ClsX K C/\W.findIn K 05 f=some none /\
 ∀d,b d=none->d≠a->D.nx σ (upd (upd b a (exM a C d)) d (.xd [(f,y)]))
section
variable {o value:Expr} {f:Str} {ta tv:TE}
def Zr4(ha:PE X o ta)(hv:PE X value tv)(hs:swapsWith value (some (.Attribute o f pos')) pos.line X.env=pure false):PS X (.Assign [.Attribute o f pos'] value pos) (Zxh X.K ta tv f):=by
 intro b s σ H D I h;refine plainObj_wpAny_Assign_Attribute (thn (hv b s σ H _ I h) λu e zq=>?_) hs;obtain ⟨y,k,m,l,q⟩:=zq;refine thn (ha b e σ k _ m q) λov s2 zq=>?_;obtain ⟨x,H2,I2,rx,a,C,ex,ea,c,n,q2⟩:=zq;subst ex;obtain rfl:ov=Value.ref a:=rx;exact Zkn I2 ea c n l λd p g i j=>⟨σ,_,j,q2 d g i⟩
end
def spX(C:Addr):Sp:=λb H Q _=>∃a y,b=[.ref a,y]/\H a=some (exN a C)/\∀d,H d=none->d≠a->Q .non (upd (upd H a (exM a C d)) d (.xd [("at",y)]))
section
variable {qual:Str} {f C:Addr}
def okX{st:Stmt}{p1 p2 p3 p4:Pos}(F:Fun K x qual st f fd)(S:Zag ["self","at"] ["self","at"] (Zad st))(hb:Zb8 st=[.Assign [.Attribute (.Name "self" p1) "at" p2] (.Name "at" p3) p4])(hv1:Vis (Zad st) "self")(hv2:Vis (Zad st) "at")(hsw:∀(l:Addr) (f:Addr) (cd:Value),swapsWith (.Name "at" p3) (some (.Attribute (.Name "self" p1) "at" p2)) p4.line (envOfC qual (Zad st) l f cd)=pure false)(c:ClsX K C)(n:W.findIn K 05 "at"=some none):Zo6 P w K mg base (CXR P w) (k+1) f fd ["self","at"] (spX C):=by
 obtain ⟨G,L,J,j,I,D,p,z,v,rfl,r,e⟩:=F.ex;refine ZuW r e S (λt H Q E q=>by obtain ⟨a,y,rfl,_⟩:=q;rfl) λA b s H t Q E B g=>?_;obtain ⟨a,y,rfl,h,u⟩:=g;rw [hb];refine ⟨_,ZfV (Zr4 (ZdT (i:=0) rfl hv1) (ZdT (i:=1) rfl hv2) (hsw _ _ _)),?_⟩;exact ⟨y,rfl,.ref a,rfl,a,C,rfl,h,c,n,λd m o=>u d m o⟩
end
def Inv.lose(I:Inv X pins σ H2 s)(hs:∀b,H1 b=H2 b\/(H1 b=none/\((∃φ,H2 b=some (.ext φ))\/∃fs,H2 b=some (.xd fs)))):Inv X pins σ H1 s:=by
 have f:∀{b:Addr},H2 b=none->H1 b=none:=λ{b} z=>by
  rcases hs b with q | ⟨q,_⟩
  ·rw [q];exact z
  ·exact q
 have d:∀{b:Addr} {o:HO},H2 b=some o->(∀φ,o≠.ext φ)->(∀fs,o≠.xd fs)->H1 b=some o:=λ{b o} z k w=>by
  rcases hs b with q | ⟨_,⟨φ,q⟩ | ⟨fs,q⟩⟩
  ·rw [q];exact z
  ·rw [z] at q;exact aB (Vac q) (k φ)
  ·rw [z] at q;exact aB (Vac q) (w fs)
 refine ⟨I.ok,I.os,I.bare,⟨I.base.keep,I.base.slot,λb o e n j=>f (I.base.free b o e n j),I.base.there,λb g e=>d (I.base.tups b g e) 003 003,λb o u e=>d (I.base.frzs b o u e) 003 003,λb t e=>?_⟩,I.loc,I.cell,f I.free,λx c e=>f (I.freeC x c e),λp i=>?_,λb o e=>?_,I.len⟩
 ·obtain ⟨a,z⟩:=I.base.tbls b t e;exact ⟨a,d z 003 003⟩
 ·obtain ⟨l,v,h⟩:=I.pin p i;exact ⟨l,f v,h⟩
 ·have m:H2 b=some o:=by
   rcases hs b with q | ⟨q,_⟩
   ·rw [<-q];exact e
   ·rw [q] at e;cases e
  exact (I.hok b o m).stay (λ_ _ _ r=>r) (λc r=>d r 003 003) λc g r=>d r 003 003
def Room.hh(r:Room k A):Zia k A:=⟨r.dp,r.un⟩
def Zia.make(r:Zia (k+1) A)(C)(us)(kw):Zia k (A.under (.builtin "type.__call__" ⟨.ref C::us,kw⟩)):=by
 have z:=Room.make (A:=ZqV A) ⟨rfl,r.dp,r.un⟩ C us kw;exact ⟨z.dp,z.un⟩
section
variable {C fI:Addr}
def MadeX(C:Addr)(y:V)(X:Cx)(pins:List (Addr×Obj))(σ:St)(H:Hp)(s:Shared)(v:Value)(s2:Shared):Prop :=
 ∃x d t m,v=.ref x/\Inv X pins σ H s2/\s.heap.get? x=none/\s.heap.get? d=none/\d≠x/\H x=none/\H d=none/\s2.heap.get? x=some { cls:=.ref C,dict:=some d,data:=exFs t }/\s2.heap.Ns1 d m/\(∀g,RelO (([("at",y)]:List (Str×V)).lookup g) (m g))/\Un (frs X.stack) [] H H s.heap s2.heap
def ZlE(q:ZhO X.K C fI=true)(F:Zo6 X.prog X.w X.K X.mg X.base (CXR X.prog X.w) k fI fd ["self","at"] (spX C))(hr:Zia (k+1) X.A)(hb:Binds X.K fd ["self","at"] [])(I:09)(r:RelV y u) :
  wX X (call 05 [u]) (MadeX C y X pins σ H s) X.xe s:=by
 obtain ⟨Y,g,d0,tk,U⟩:=s;refine Znc I.kIn q (λZ e a=>?_) (by rw [sizeLine_eq];simp);obtain ⟨t,he,_,_⟩:=a.there;have l:=I.hok.free a.new;have j:∀b o,Y.get? b=some o->b≠e:=λb o z q=>by rw [q,a.new] at z;cases z
 have h:∀b o,H b=some o->b≠e:=λb o z q=>by rw [q,l] at z;cases z
 have J:Inv X pins σ (upd H e (exN e C)) ⟨Z,g,d0,tk,U⟩:=by
  refine I.un ⟨λb o z n _ _=>a.keeps b o z,λb o z n _ _=>⟨o.slots,a.keeps b o z⟩,λb o z n _=>?_,λb o z _=>⟨o,a.keeps b o z⟩,λb xs z=>?_,λb o xs z=>?_,λb ps z=>⟨#[],?_⟩⟩ λb o z=>?_
  ·rw [Zaf (j b o z)];exact n
  ·rw [Zaf (h b _ z)];exact z
  ·rw [Zaf (h b _ z)];exact z
  ·rw [Zaf (h b _ z),z];simp
  ·by_cases q2:b=e
   ·subst q2;rw [Zah] at z;cases z;exact ZvK ⟨t,he⟩
   ·rw [Zaf q2] at z;exact (I.hok b o z).stay (λc ob _ r=>a.keeps c ob r) (λc r=>by rw [Zaf (h c _ r)];exact r) λc xs r=>by rw [Zaf (h c _ r)];exact r
 have r2:Vals [V.ref e,y] [Value.ref e,u]:=.cons rfl (.cons r .nil);have O:=hb ⟨Z,g,d0,tk,U⟩ [Value.ref e,u] J.kIn rfl
 refine Va3 (Va4 (F.run _ X.stack _ _ ⟨[Value.ref e,u],[]⟩ [Value.ref e,u] [V.ref e,y] (λv H2=>v=.non/\∃d,upd H e (exN e C) d=none/\d≠e/\H2=upd (upd (upd H e (exN e C)) e (exM e C d)) d (.xd [("at",y)])) E0 (hr.make C [u] [])
  (J.env0.make C [u] []) O r2 ⟨e,y,rfl,Zah,λd p E=>⟨rfl,d,p,E,rfl⟩⟩) λrr s' G=>?_)
 cases rr with
 | error ev=>
  obtain ⟨_,_,_,_,_,_,_,z⟩:=G;exact z.elim
 | ok fl=>
  cases fl with
  | ret v=>
   have S:=G;obtain ⟨v',H2',Q,i,f,D,M,ev,d,p,E,eH⟩:=S;obtain ⟨hh,g',W,t',T⟩:=s';obtain rfl:T=U:=Q;have R:=J.call (d':=W) (t':=t') f D i (λb z=>aB z 03);subst ev;subst eH;obtain rfl:v=.none:=M;have x:H d=none:=by rw [Zaf E] at p;exact p
   have e1:upd (upd (upd H e (exN e C)) e (exM e C d)) d (.xd [("at",y)]) e=some (exM e C d):=by rw [Zaf (Ne.symm E)];exact Zah
   obtain ⟨t2,P⟩ : ExM e C d hh:=(R.hok e _ e1).1;obtain ⟨m,N,L⟩:=R.hok d _ Zah;refine ⟨rfl,e,d,t2,m,rfl,R.lose λb=>?_,a.new,?_,E,l,x,P,N,L,?_⟩
   rotate_right
   ·refine ⟨λb o z n hb B=>?_,λb o z n hb B=>?_,λ_ _ _ n _=>n,λb o z B=>f.there b o (a.keeps b o z) B,λ_ _ z=>z,λ_ _ _ z=>z,λ_ ps z=>⟨#[],by rw [z];simp⟩⟩
    ·exact f.keep b o (a.keeps b o z) (by rw [Zaf (j b o z)];exact n) hb B
    ·exact f.slot b o (a.keeps b o z) (by rw [Zaf (j b o z)];exact n) hb B
   ·by_cases q1:b=d
    ·subst q1;exact .inr ⟨x,.inr ⟨_,Zah⟩⟩
    ·rw [Zaf q1];by_cases q2:b=e
     ·subst q2;exact .inr ⟨l,.inl ⟨_,Zah⟩⟩
     ·rw [Zaf q2,Zaf q2];exact .inl rfl
   ·cases z:Y.get? d with
    | none=>rfl
    | some o=>
     have w:=f.free d o (a.keeps d o z) p 03;rw [Zah] at w;cases w
  | next=>exact False.elim G
  | brk=>exact False.elim G
  | cont=>exact False.elim G
end
section
def Inv.flyX(I:09)(hex:X.ex=[])(hst:X.stack=X.env::X.outer)(hfr:X.env.frame=some X.env.locals){x:Addr}(hx:s.heap.get? x=some ox)(hd:ox.data=.fields vs)(h1:vs[1]?=some .none)(h0:vs[0]?=some a0)(hH:H x=none)(hs0:X.s₀.heap.get? x=none){E:Value->Shared->Prop}(k:∀s2,Fly X.prog X.w X.outer X.H₀ H X.s₀ s2 x ox.cls->KD s.heap s2.heap->s.heap.UpToSlots s2.heap->Q () s2):wX X (leaving X.env (.ref x)) Q E s:=by
 have f:∀env∈X.stack,∀b,env.frame=some b->b∈x::frs X.stack:=λenv h b c=>Var _ (VaP.mpr ⟨env,h,c⟩);have d:(W.hideAll s.heap (x::frs X.stack)).get? x=none:=Van _ Vaq
 refine Vax (Ze9 (ZeA _ _) (wpAny_leaving_firstW (Q:=λ_ s2=>∃a,s2={ s with heap:=a }/\Heap.LeftW (W.hideAll s.heap (x::frs X.stack)) (X.env::X.outer) x ox.cls a0 s.heap a)
  (by rw [<-hst];exact I.ok.frames) (by rw [<-hst];exact W.funFrames_hide I.stack f) hfr hx (λb o q=>Vak _ q) d hd h1 h0 λa j=>⟨a,rfl,j⟩)) (λ_ s2 z=>?_) λ_ _ z=>z.1
 obtain ⟨⟨a,rfl,l,⟨_,_,i⟩,m,g⟩,n⟩:=z;refine k _ ?_ n g;refine ZjM I.os I.bare (I.unStack hex I.sub) I.hok I.stkFree (λb c=>(I.stack.mem c).2) (λb o e q c=>?_) I.sub (λb h1 a=>?_) ⟨l,d,i,m⟩ g hH
 ·refine Vaj _ e λz=>?_;rcases Vat.mp z with z | z
  ·subst z;rcases q with q | ⟨o',q⟩
   ·exact q hH
   ·rw [hs0] at q;cases q
  ·exact c z
 ·rcases Vat.mp (I.stkSub b h1) with e | e
  ·rw [e];exact Vas I.ok.above
  ·exact aB e a
end
structure ClsR(K:W.Frag)(C:Addr):Prop where
 b:W.mroIn K C (.type "BaseException")=some true
 t:W.typeIn K 05=some (.type "type")
section
variable{prog:Program} {E:Value->Shared->Prop} {env:Env}
def Zl8{xs:Sem Value}(hh:A.handled=none)(h:wpAny 08 A xs (λv s1=>∃x C d t,v=.ref x/\K.In s1.heap/\ClsR K C/\s1.heap.get? x=some { cls:=.ref C,dict:=some d,data:=exFs t }/\E (.ref x) s1) E s) :
  wpAny 08 A (raiseStmt env (some xs) none) Q E s:=by
 unfold raiseStmt;refine VaD (Vax h (λv s1 j=>?_) λ_ _ z=>z);obtain ⟨x,C,d,t,rfl,f,c,a,m⟩:=j;obtain ⟨i,g,p,n,o⟩:=s1;have e:W.Looks 08 i (typeOf (.ref x)) 05:=(W.Looks.ld a).andThen .now;have k:=VbD (M:=08) f c.b;have l:=W.looks_typeIn (M:=08) f c.t;refine VaD (VaF (VaD (Vbl ?_)));unfold excFromValue isExcClass isType loadHead;refine VaD (VaD (VaD (VaT a (VaF ?_))));refine VaF ?_;unfold isInstance;refine VaD (VaD (e.here (k.here ?_)));refine VaF ?_;refine VaD (VaD (VaT a (VaF ?_)));unfold raisedInstance;refine VaD (VaD (e.here (VaD (l.here ?_))));refine VaF ?_;unfold setFlight;refine VaD (VaD (Vbj a rfl rfl ?_));refine VaF ?_;exact wpAny_raiseNew_none hh m
end
structure MkX(P:Program)(w:World)(K:W.Frag)(mg:001)(base:Heap)(k:Nat)(C:Addr):Prop where
 ex:∃(fI:Addr) (fd:FuncData),ZhO K C fI=true/\Zo6 P w K mg base (CXR P w) k fI fd ["self","at"] (spX C)/\Binds K fd ["self","at"] []
 kp:W.keepIn K 05=true
 c:ClsR K C
def Znt(E:XK)(C:Addr)(te:TA):TS:=λ_ σ H=>te σ H λb a=>∃n:Nat,b=[.int n]/\E 05 (some (2*n:Nat)) a
section
variable {qual:Str} {scope:Scope} {f:Addr} {cd:Value} {outer:List Env} {s₀:Shared} {H₀:Hp}
def ZoM(M:MkX P w K mg base k C)(hr:Room l (006).A)(hl:k+1<=l)(hg:Gl 006 x)(hm:mg x=some 05)(ha:PA 006 (e::es) t)(hd:ND x:=by decide)(he:starEach (e::es) (006).env=(false,eval e (006).env)::starEach es (006).env:=by rfl)(hpl:(backTo cpos (starEach es (006).env)).any (·.1)=false:=by rfl) :
  PS 006 (.Raise (some (.Call (.Name x np) (e::es) [] cpos)) none pos) (Znt E C t):=by
 intro a s σ H D I h;obtain ⟨fI,fd,q,F,hb⟩:=M.ex;rw [arm_exec_Raise];refine VaD (VaE ?_);refine Zl8 (K:=K) (I.ok.hd rfl) (VaD ?_);refine Va5 (ZdN I hg hm ?_ hd);refine Va6 I.ok.mod.kin M.kp (thn (ha cpos a s σ H _ I h) λus Y zq=>?_) he hpl;obtain ⟨vs,H1,p,r,n,X,W⟩:=zq;refine ⟨p.kIn,?_⟩;subst X;obtain ⟨u,Q,rfl⟩ : ∃u,RelV (.int (n:Int)) u/\us=[u]:=by
  cases r with
  | cons r1 r2=>cases r2;exact ⟨_,r1,rfl⟩
 refine thn (ZlE q F ((hr.mono hl).hh) hb p Q) λv s2 z=>VaD (VaE (VaF ?_));obtain ⟨g,d,tt,m,rfl,G,nx,nd,i,Z,R,j,S,T,_⟩:=z;have y:∀b,Y.heap.get? b=none->s₀.heap.get? b=none:=λb z=>by
  cases q:s₀.heap.get? b with
  | none=>rfl
  | some o=>
   obtain ⟨o',w⟩:=p.base.there b o q (λz=>nomatch z);rw [z] at w;cases w
 refine ⟨g,C,d,tt,rfl,G.kIn,M.c,j,?_⟩;refine G.flyX rfl rfl rfl j rfl rfl rfl Z (y g nx) λs3 F kd O=>⟨g,.ref C,some (2*n:Nat),H1,rfl,F,?_,W⟩;refine ⟨(λz=>by cases z),λn' U=>?_⟩;cases U;obtain ⟨B,a0,V,_⟩:=F.ex;obtain ⟨o3,J,_⟩:=V.there;have L:=kd.at j J;exact ⟨o3,d,m,J,L.d,Ziu O S,by rw [show 2*n/2=n by omega];exact T,R,y d nd,i,λ_=>L.f _ rfl⟩
end
def Zh7:entryFor table "proto.unchain"=some Builtin.«proto.unchain»:=entryFor_of_fast (by kernel_rfl)
section
variable{prog:Program} {E:Value->Shared->Prop} {env:Env}
def ZkH{x:Addr}(hh:A.handled=some (.ref a))(ne:x≠a)(ha:s.heap.get? a=some oa)(hda:oa.data=.fields va)(h2:va[2]?=some .none)(hx:s.heap.get? x=some ox)(hdx:ox.data=.fields vx)(sz:2<vx.size)(hE:E (.ref x) { s with heap:=s.heap.update x (Obj.mapFields (·.setIfInBounds 2 (.ref a))) }):wpAny 08 A (raiseNew (.ref x):Sem Flow) Q E s:=by
 unfold raiseNew;refine VaD (wpAny_handled ?_);rw [hh];dsimp only;rw [iP (by simp [Ne.symm ne])];refine VaD (Vbl (wpAny_runValue ?_));refine VbC Zh7 ?_;unfold Builtin.«proto.unchain»;refine VaD (Vbj ha hda h2 ?_);rw [iP (show (Value.none==Value.none)=true from rfl)];refine VaF ?_;unfold updateField;refine VaD (VaD (wpAny_load hx ?_));rw [hdx];dsimp only;rw [iP sz];exact wpAny_update hx (wpAny_throw hE)
abbrev exFr(t a:Addr):Data:=.fields #[.ref t,.none,.ref a,.none,.bool true,.none]
def Zkh{xs:Sem Value}(hh:A.handled=some (.ref a)) (h:wpAny 08 A xs (λv s1=>∃x C d t oa va,v=.ref x/\ClsR K C/\s1.heap.get? x=some { cls:=.ref C,dict:=some d,data:=exFs t }/\x≠a/\s1.heap.get? a=some oa/\oa.data=.fields va/\va[2]?=some .none /\
   (∀h2:Heap,(∀b,b≠x->h2.get? b=s1.heap.get? b)->K.In h2)/\wpAny 08 A cs (λc s2=>c=.none/\s2=s1) E s1 /\
   ∀h2:Heap,h2.get? x=some { cls:=.ref C,dict:=some d,data:=exFr t a }->(∀b,b≠x->h2.get? b=s1.heap.get? b)->E (.ref x) { s1 with heap:=h2 }) E s) :
  wpAny 08 A (raiseStmt env (some xs) (some cs)) Q E s:=by
 unfold raiseStmt;refine VaD (Vax h (λv s1 B=>?_) λ_ _ z=>z);obtain ⟨x,C,d,t,oa,va,rfl,c,l,r,G,n,o,u,I,J⟩:=B;refine VaD (Vbl (Vax I (λL s2 z=>?_) λ_ _ z=>z));obtain ⟨rfl,rfl⟩:=z;obtain ⟨i,g,P,N,O⟩:=s2;have F:W.Looks 08 i (typeOf (.ref x)) 05:=(W.Looks.ld l).andThen .now;have D:=VbD (M:=08) (u i λ_ _=>rfl) c.b;refine VaD (VaF (VaD (Vbl ?_)));unfold excFromValue isExcClass isType loadHead;refine VaD (VaD (VaD (VaT l (VaF ?_))));refine VaF ?_;unfold isInstance;refine VaD (VaD (F.here (D.here ?_)));refine VaF ?_;refine VaD (VaF (VaD (VbW l rfl (by show 3<6;decide) (VaD ?_))));have q:∀(p:Heap) (f:Obj->Obj) b,b≠x->(p.update x f).get? b=p.get? b:=λp f b j=>Vbq _ _ (Ne.symm j);have k:(i.update x (Obj.mapFields (·.setIfInBounds 3 .none))).get? x=some { cls:=.ref C,dict:=some d,data:=exFs t }:=VbX _ l rfl;refine VbW k rfl (by show 4<6;decide) ?_;have e:((i.update x (Obj.mapFields (·.setIfInBounds 3 .none))).update x (Obj.mapFields (·.setIfInBounds 4 (.bool true)))).get? x=some { cls:=.ref C,dict:=some d,data:=.fields #[.ref t,.none,.none,.none,.bool true,.none] }:=VbX _ k rfl;have m:∀b,b≠x->((i.update x (Obj.mapFields (·.setIfInBounds 3 .none))).update x (Obj.mapFields (·.setIfInBounds 4 (.bool true)))).get? b=i.get? b:=λb j=>(q _ _ b j).trans (q _ _ b j);generalize ((i.update x (Obj.mapFields (·.setIfInBounds 3 .none))).update x (Obj.mapFields (·.setIfInBounds 4 (.bool true))))=h2 at e m ⊢;have y:W.Looks 08 h2 (typeOf (.ref x)) 05:=(W.Looks.ld e).andThen .now;have H:=W.looks_typeIn (M:=08) (u h2 m) c.t;refine VaD (VaD (VaT e (VaF ?_)));unfold raisedInstance;refine VaD (VaD (y.here (VaD (H.here ?_))));refine VaF ?_;unfold setFlight;refine VaD (VaD (Vbj e rfl rfl ?_));refine VaF ?_;refine ZkH hh r ((m a (Ne.symm r)).trans G) n o e rfl (by show 2<6;decide) ?_;exact J _ (VbX _ e rfl) λb j=>(q _ _ b j).trans (m b j)
end
section
variable{M:Model} {E:Value->Shared->Prop} {B:Heap} {env:Env} {l:List Env} {e:Addr} {cls a0 fl:Value}
def ZkN(hkb:B.StaysIn s.heap)(hl:s.heap.FunFrames B l)(ht:s.heap.TracedAtW B e cls a0 fl)(h:∀h' fl',B.StaysIn h'->h'.FunFrames B l->h'.TracedAtW B e cls a0 fl'->(∀b o,s.heap.get? b=some o->(∀vs,o.data≠.fields vs)->h'.get? b=some o)->KD s.heap h'->E' (.ref e) { s with heap:=h' }) :
  cameBackBy M A env E' (.ref e) s:=by
 obtain ⟨y,vs,T,z,x,r,j,p,t,k,n,u,g,w⟩:=ht;have v:=(Vby.mp w).1;have a:∀b,b≠T->(s.heap.update T (Obj.mapFields (·.setIfInBounds 3 (env.frame.elim Value.none λf=>rawInt f)))).get? b=s.heap.get? b:=λb d=>Vbq _ _ (Ne.symm d);have m:∀b o,s.heap.get? b=some o->(∀vs,o.data≠.fields vs)->b≠T:=λb o d c q=>by
  rw [q,u] at d;cases d;exact c x g
 unfold cameBackBy;refine VaD (Vbj r p t ?_);rw [iN 03];unfold setFlight;refine VaD (Vbj r p t ?_);rw [iP 03];refine VbW u g v ?_;refine h _ (env.frame.elim Value.none λf=>rawInt f) (λb o i=>(a b λq=>by rw [q,k] at i;cases i).trans (hkb b o i)) (hl.of_keeps λb o d c=>⟨o,(a b (m b o d c)).trans d,rfl⟩) ?_ (λb o d c=>(a b (m b o d c)).trans d) (KD.update _ _ (Zh4 00 _));exact ⟨y,vs,T,_,_,(a e (Ne.symm n)).trans r,j,p,t,k,n,VbX _ u (Obj.isFreed_of_fields (VbY g _)),VbY g _,by simp [v]⟩
end
section
def Inv.flyH(I:09)(hex:X.ex=[])(hst:X.stack=X.env::X.outer)(hfr:X.env.frame=some X.env.locals){Am:Around}(hm:Am.frames=X.A.frames){x:Addr}{ox:Obj}{vs:Array Value}{a0:Value}(hx:s.heap.get? x=some ox)(hd:ox.data=.fields vs)(h1:vs[1]?=some .none)(h0:vs[0]?=some a0)(hH:H x=none)(hs0:X.s₀.heap.get? x=none){Q:Value->Shared->Prop}{E1 E2:Value->Shared->Prop}(k:∀s2,Fly X.prog X.w X.outer X.H₀ H X.s₀ s2 x ox.cls->KD s.heap s2.heap->s.heap.UpToSlots s2.heap->Q (.ref x) s2) :
  wpAny (model X.prog X.w) Am (noteFrame (.ref x) X.env) (λ_ s7=>cameBackBy (model X.prog X.w) X.A X.env (λe s'=>wX X (leaving X.env e) (λ_ s''=>Q e s'') E2 s') (.ref x) s7) E1 s:=by
 have m:∀env∈X.stack,∀b,env.frame=some b->b∈x::frs X.stack:=λenv C b d=>Var _ (VaP.mpr ⟨env,C,d⟩);have c:(W.hideAll s.heap (x::frs X.stack)).get? x=none:=Van _ Vaq;have E:=(Vby.mp h1).1;have K:s.heap.FunFrames (W.hideAll s.heap (x::frs X.stack)) (X.env::X.outer):=by rw [<-hst];exact W.funFrames_hide I.stack m
 have first:wpAny (model X.prog X.w) Am (noteFrame (.ref x) X.env) (λ_ s2=>∃a,s2={ s with heap:=a }/\Heap.NotedW (W.hideAll s.heap (x::frs X.stack)) (X.env::X.outer) x ox.cls a0 (rawInt X.env.locals) s.heap a) E1 s:=by
  unfold noteFrame;simp only [hfr];refine VaD (Vbj hx hd h1 ?_);rw [iN 00];exact wpAny_entryW (by rw [hm,<-hst];exact I.ok.frames) K hfr hx (λb o q=>Vak _ q) c hd E h0 λa O=>⟨a,rfl,O⟩
 refine Vax (Ze9 (Zid _ _) first) (λ_ s2 z=>?_) λ_ _ z=>z.1
 obtain ⟨⟨a,rfl,p,D,G,v⟩,M⟩:=z;refine ZkN p D G λR F y u t N f=>?_;refine Zdf (by rw [<-hst];exact I.ok.frames) hfr y c u t λB g i h=>?_;have n:s.heap.UpToSlots B:=λb o e l=>by
  obtain ⟨P,r⟩:=v b o e l;have L:=N b _ r l;obtain ⟨j,J⟩:=i b _ L l;exact ⟨j,J⟩
 refine k _ ?_ ((M.trans f).trans h) n;refine ZjM (s':=s) I.os I.bare (I.unStack hex I.sub) I.hok I.stkFree (λb d=>(I.stack.mem d).2) (λb o e q d=>?_) I.sub (λb h1 a=>?_) g n hH
 ·refine Vaj _ e λz=>?_;rcases Vat.mp z with z | z
  ·subst z;rcases q with q | ⟨o',q⟩
   ·exact q hH
   ·rw [hs0] at q;cases q
  ·exact d z
 ·rcases Vat.mp (I.stkSub b h1) with e | e
  ·rw [e];exact Vas I.ok.above
  ·exact aB e a
end
end L2
namespace L2.Ds
open PySem.Calls Dl
abbrev TBr:=St->Hp->VK->XK->Prop
def PBr(X:Cx)(body:List Stmt)(t:TBr):Prop :=
 ∀b s σ H R h,Inv X b σ H s->t σ H R h->wX X (execs body X.env) (λf d=>∃u v i,f=.ret u/\RelV v u/\Inv X b σ i d/\R v i)
  (λk d=>∃e j a c p g,k=.ref a/\Inv X b σ j e/\Fly X.prog X.w X.stack j g e d a c/\ZiK p a g e.heap d.heap/\h c p g) s
def Zrn(K:W.Frag)(mg:001)(tab:List (Str×(List D->Res D)))(n i:Nat)(t:TA):TBr:=λσ H R b=>∃g m a,(g,m)∈tab/\mg g=some (.ref a)/\σ[i]?=some (some (.ref a))/\t σ H λc d=>spD K mg n m c d R b
section
variable {l:Nat} {y:Str} {tab:List (Str×(List D->Res D))} {t:TA} {p rpos:Pos}
def ZoP(hi:X.N[i]?=some y)(hv:Vis X.env.scope y)(T:∀q∈tab,Cal X.prog X.w X.K X.mg X.base k q.1 ps q.2)(hps:ps.length=n)(hr:Room l X.A)(hn:k<=l)(ha:PA X.nox (e::es) t)(hd:ND y)(hcd:NE y)(he:011)(hpl:(backTo cpos (starEach es X.env)).any (·.1)=false) :
  PBr X [.Return (some (.Call (.Name y p) (e::es) [] cpos)) rpos] (Zrn X.K X.mg tab n i t):=by
 intro c s σ H R XE I h;obtain ⟨g,m,fa,S,P,C,h⟩:=h;obtain ⟨f,fd,F,b,kp,hf⟩:=(T (g,m) S).ex;rw [show X.mg g=some (.ref f) from hf] at P;cases P;refine VaC (wpAny_Return_some ?_);refine Va5 ?_;refine Vax (ZdT (X:=X.nox) hi hv hd hcd c s σ H (λv L=>v=.ref fa/\L=H) (I.wish _) ⟨_,C,rfl,rfl⟩) (λuv s1 zq=>?_) λ_ _ z=>z.elim;obtain ⟨v,L,G,r,B,E⟩:=zq;subst B E;cases (r);have Q:=G.unwish;refine Va6 Q.ok.mod.kin kp (Vax (ha cpos c s1 σ L _ (Q.wish _) h) (λx J zq=>?_) λ_ _ z=>z.elim) he hpl;obtain ⟨vs,M,d,O,q⟩:=zq;refine ⟨d.unwish.kIn,?_⟩;have u:=d.unwish;subst hps;have U:(x++[]).length=ps.length:=by rw [Va2,<-O.length];exact F.len _ _ _ _ q
 have o:=b J x u.kIn U;rw [Va2] at o;refine Va3 (Va4 (F.run X.A X.stack J M ⟨x,[]⟩ x vs _ _ (hr.mono hn) u.env0 o O q) λrr s' j=>?_);cases rr with
 | ok fl=>
  cases fl with
  | ret v=>
   obtain ⟨v',H3,Z,rv,Y⟩:=u.after j;exact ⟨v,v',H3,rfl,rv,Z,Y⟩
  | next=>exact False.elim j
  | brk=>exact False.elim j
  | cont=>exact False.elim j
 | error ev=>
  obtain ⟨a,D,p,W,rfl,Fl,py,V⟩:=j;exact ⟨J,M,a,D,p,W,rfl,u,Fl,py,V⟩
end
def Zq5(tb:TBr)(hit:Value->Prop)(t:Addr->TA)(E:XK)(C:Addr):TS:=λD σ H=>tb σ H (λv b=>D.rt v b) λc p b=>hit c/\(p=none\/∃n:Nat,p=some n/\n%2=0) /\
 ∀a,t a σ b λe d=>∃n:Nat,e=[.int n]/\E 05 (some (2*n+1:Nat)) d
section
variable {l:Nat} {y:Str} {C Cy:Addr} {tb:TBr} {t:Addr->TA} {body:List Stmt} {np yp cp rpos hpos:Pos} {ck:Nat}
def Zp6(bx:Zg2 X E)(hB:PBr X body tb)(hgy:Gl X y)(hmy:X.mg y=some (.ref Cy))(M:MkX X.prog X.w X.K X.mg X.base k C)(hr:Room l X.A)(hl:k+1<=l)(hgx:Gl X x)(hmx:X.mg x=some 05)
  (ha:∀a,PA (X.inX a) (e::es) (t a)) (hdx:ND x) (hdy:ND y)
  (he:011) (hpl:(backTo cpos (starEach es X.env)).any (·.1)=false) :
  PS X (.Try body [.ExceptHandler (some (.Name y yp)) none [.Raise (some (.Call (.Name x np) (e::es) [] cpos)) (some (.Constant .none ck cp)) rpos] hpos] [] [] pos) (Zq5 tb (λcls=>W.exmOne X.K cls (.ref Cy)=some true) t E C):=by
 intro i s σ H D I h;have g:=bx.hst;have Y:=bx.hfr;refine wpAny_Try_except (Vax (hB i s σ H _ _ I h) (λf s' z=>?_) λev s' z=>?_)
 ·obtain ⟨u,v,H2,rfl,rv,I2,q⟩:=z;exact ⟨v,σ,H2,I2,rv,q⟩
 ·obtain ⟨s1,H1,a,cls,p,H',rfl,I1,Fl,py,hit,G,kk⟩:=z;obtain ⟨B,a0,fl,cov⟩:=Fl.ex;have fl':Heap.FlyingW B (X.env::X.outer) a cls a0 s'.heap:=g▸fl;refine Zj4 (by rw [I.ok.frames,g]) Y fl' λh1 held P kd1=>?_;refine ZqK held λh2 R O kd2=>?_;have F2:=Fl.moved fl cov (g.symm▸R) (P.trans O);have I2:=I1.landed F2;refine wpAny_handleBy_cons (codeAny_handlers_test ?_) (by intro q;cases q);refine ZdN (X:=X.inX a) (I2.inX a) hgy hmy ?_ hdy;have LT:W.Looks (model X.prog X.w) h2 (typeOf (.ref a)) cls:=ExcAt.ty (show ExcAt a cls h2 from R.there);refine (W.exm_one (show X.K.In h2 from I2.kIn) LT hit).here ?_;refine codeAny_handlers_suite ?_;refine ZqL R λh3 U sm3 kd3=>?_;have F3:=Fl.moved fl cov (g.symm▸U) ((P.trans O).trans sm3);have I3:=I1.landed F3;have py3:=py.on (h1:=s1.heap) ((kd1.trans kd2).trans kd3) ((P.trans O).trans sm3) (let ⟨o,e,_⟩:=U.there;⟨o,e⟩) λ_ o e=>⟨o,e⟩;obtain ⟨N,va,ga,J,j⟩ : CtxN a h3:=by
   rcases G with G | ⟨n0,rfl,G⟩
   ·exact py3.1 G
   ·obtain ⟨N,d0,m0,ga,_,_,_,_,_,_,ctx⟩:=py3.2 n0 rfl;obtain ⟨va,J,j⟩:=ctx G;exact ⟨N,va,ga,J,j⟩
  obtain ⟨fI,fd,q,F,hb⟩:=M.ex;refine VaC ?_;rw [arm_exec_Raise];refine VaD (VaE ?_);show wpAny _ _ (raiseStmt _ (some (do let v <-eval (.Call (.Name x np) (e::es) [] cpos) _;standAt rpos;pure v)) (some (do let v <-eval (.Constant .none ck cp) _;standAt rpos;pure v))) _ _ _
  have nfa:a∉frs X.stack:=λz=>by
   obtain ⟨_,o',z1,z2⟩:=U.2.2.1.mem (g▸z);have z1:h3.get? a=some o':=z1;rw [show h3.get? a=some N from ga] at z1;cases z1;exact z2 _ J
  have I3p:Inv X ((a,N)::i) σ H' { s' with heap:=h3 }:=by
   refine I3.pins_of λp hp=>?_;rcases Vat.mp hp with rfl | hp
   ·refine ⟨ga,F3.free,λz=>?_,λz=>nfa (I3.sub a z),λv z=>by rw [J] at z;cases z⟩;refine nfa ?_;rw [g];unfold frs;rw [Vap,Y];exact z▸Vaq
   ·exact I3.pin p (VaQ _ hp)
  refine Zkh (K:=X.K) (a:=a) rfl (VaD ?_);refine Va5 (ZdN (X:=X.inX a) (I3p.inX a) hgx hmx ?_ hdx);refine Va6 (h₀:=X.base) I3.ok.mod.kin M.kp (Vax (ha a cpos _ _ σ H' _ (I3p.inX a) (kk a)) (λus s4 zq=>?_) λ_ _ z=>z.elim) he hpl;obtain ⟨vs,H4,S,r4,n,ev4,qE⟩:=zq;refine ⟨S.kIn,?_⟩;subst ev4;obtain ⟨u,ru,rfl⟩ : ∃u,RelV (.int (n:Int)) u/\us=[u]:=by
   cases r4 with
   | cons r1 r2=>cases r2;exact ⟨_,r1,rfl⟩
  refine Vax (ZlE (X:=X.inX a) (y:=.int (n:Int)) q F ((hr.mono hl).h _) hb S ru) (λv s5 z=>VaD (VaE (VaF ?_))) λ_ _ z=>z.elim;obtain ⟨L,d,tt,m,rfl,I5,nx,nd,dne,Hx,Hd,ox,ns,rl,V⟩:=z;have pa4:=(S.pin (a,N) 03).1;have pa5:=(I5.pin (a,N) 03).1;have nxa:L≠a:=λz=>by rw [z] at nx;rw [nx] at pa4;cases pa4
  have s0:∀b,s4.heap.get? b=none->X.s₀.heap.get? b=none:=λb z=>by
   cases q:X.s₀.heap.get? b with
   | none=>rfl
   | some o=>
    obtain ⟨o',w⟩:=S.base.there b o q (by show b∉X.ex;rw [bx.hex];exact λz=>nomatch z);rw [z] at w;cases w
  refine ⟨L,C,d,tt,N,va,rfl,M.c,ox,nxa,pa5,J,j,λh6 Z b o e=>?_,?_,λh6 hx6 Z=>?_⟩
  ·have hb4:s4.heap.get? b=some o:=S.kIn b o e;exact (Z b λz=>by rw [z,nx] at hb4;cases hb4).trans (I5.kIn b o e)
  ·exact VaD (wpAny_Constant_none (VaD (VaE (VaF ⟨rfl,rfl⟩))))
  ·have T:∀b o,s4.heap.get? b=some o->b≠L:=λb o z q=>by rw [q,nx] at z;cases z
   have trk:∀b o,H4 b=some o->b≠L:=λb o z q=>by rw [q,Hx] at z;cases z
   have un6:Un (frs X.stack) [] H4 H4 s4.heap h6:=⟨λb o z n hb hx=>(Z b (T b o z)).trans (V.keep b o z n hb hx),λb o z n hb hx=>(V.slot b o z n hb hx).imp λ_ w=>(Z b (T b o z)).trans w,λ_ _ _ n _=>n,
    λb o z hx=>(V.there b o z hx).imp λ_ w=>(Z b (T b o z)).trans w,λ_ _ z=>z,λ_ _ _ z=>z,λ_ ps z=>⟨#[],by rw [z];simp⟩⟩
   have hok6:HOk X.prog X.w H4 h6:=λb o z=>(I5.hok b o z).stay (λc ob hc r=>(Z c (by
    rcases hc with rfl | hc
    ·exact trk _ _ z
    ·exact trk _ _ hc)).trans r) (λ_ r=>r) λ_ _ r=>r
   have os5:s5.os=s4.os:=I5.os.trans S.os.symm;have I6:Inv X ((a,N)::i) σ H4 { s5 with heap:=h6 }:=by
    have z:=(S.outX I.ok).call (h':=h6) (g':=s5.gens) (d':=s5.drawn) (t':=s5.toks) (ch:=[]) un6 hok6 I5.bare (λb z=>aB z 03);obtain ⟨hp5,g5,d5,t5,o5⟩:=s5;have os5:o5=s4.os:=os5;subst os5;exact z
   show wpAny _ _ (noteFrame (.ref L) X.env) (λ_ s7=>cameBackBy _ X.A X.env X.xe (.ref L) s7) _ _;rw [bx.hxe];refine I6.flyH (Q:=λe s''=>CXR X.prog X.w X.outer X.H₀ X.s₀ E e s'') bx.hex g Y (Am:=X.A.mark (some (.ref a))) rfl hx6 rfl rfl rfl Hx (s0 L nx) λs7 F7 kd sm=>⟨L,.ref C,some (2*n+1:Nat),H4,rfl,F7,?_,qE⟩;refine ⟨(λz=>by cases z),λn' en=>?_⟩;cases en;obtain ⟨B7,a7,fl7,_⟩:=F7.ex;obtain ⟨o7,g7,_⟩:=fl7.there;have ns6:h6.Ns1 d m:=by
    obtain ⟨od,esd,epd,hod,rd⟩:=ns;exact ⟨od,esd,epd,(Z d dne).trans hod,rd⟩
   exact ⟨o7,d,m,g7,(kd.at hx6 g7).d,Ziu sm ns6,by rw [show (2*n+1)/2=n by omega];exact rl,Hd,s0 d nd,dne,λz=>aB z 000⟩
end
end L2.Ds
namespace Dl
def natD:List D->Res Nat
 | [.int n]=>if 0<=n then .ok n.toNat else .bad
 | _=>.bad
def rsP(c:Str)(a:MA):MS:=λρ=>(a ρ).bind λb=>(natD b).bind λn=>.ex (tagX (2*n) c)
def Zkk(c:Str):Bool:=match pay c with
 | some n=>(n)%2==0
 | none=>true
def Zoh(tab:List (Str×(List D->Res D)))(i:Nat)(ma:MA)(hits:List Str)(c:Str)(me:MA):MS:=λρ=>match ρ[i]? with
 | some (.im (.cls g))=>match tab.lookup g with
  | some m=>(noEx (ma ρ)).bind λa=>match m a with
   | .ok d=>.ok (.rt d)
   | .ex x=>if (hits.contains (clsOf x)&&Zkk x)=true then (noEx (me ρ)).bind λb=>(natD b).bind λn=>.ex (tagX (2*n+1) c) else .bad
   | .bad=>.bad
  | none=>.bad
 | _=>.bad
def dAt:D->Res D
 | .exc c=>match pay c with
  | some n=>.ok (.int (((show Nat from n)/2:Nat):Int))
  | none=>.bad
 | _=>.bad
end Dl
namespace L2.Ds
open PySem.Calls Dl
def Zrm(h:natD ds=.ok n):ds=[.int (n:Int)]:=by
 unfold natD at h;split at h
 ·next k=>
  split at h
  ·next a=>cases h;rw [Int.toNat_of_nonneg a]
  ·cases h
 ·cases h
def Zq4{c:Str}:natD ds≠.ex c:=by
 unfold natD;split
 ·split<;>intro h<;>cases h
 ·intro h;cases h
section
variable {qual:Str} {scope:Scope} {f:Addr} {cd:Value} {outer:List Env} {s₀:Shared} {H₀:Hp} {t:TA} {m:MA}
def Zdp(M:MkX P w K mg base k C)(hr:Room l (006).A)(hl:k+1<=l)(hg:Gl 006 x)(hm:mg x=some 05)(ha:DA 006 E n (e::es) t m)(hd:ND x:=by decide)(he:starEach (e::es) (006).env=(false,eval e (006).env)::starEach es (006).env:=by rfl)(hpl:(backTo cpos (starEach es (006).env)).any (·.1)=false:=by rfl) :
  DS 006 E (.Raise (some (.Call (.Name x np) (e::es) [] cpos)) none pos) (Znt E C t) (rsP x m):=by
 refine ⟨ZoM M hr hl hg hm ha.p hd he hpl,?_⟩;intro i j F H σ ρ b;have h:=ha.s i j F H σ ρ b;unfold rsP;cases em:m ρ with
 | bad=>trivial
 | ex c=>
  rw [em] at h;exact λD q=>h _ λd a C g=>q d a C (b.g.trans g)
 | ok ds=>
  rw [em] at h;show AnsS K mg E i j F ((natD ds).bind λn=>.ex (tagX (2*n) x)) _;cases en:natD ds with
  | bad=>trivial
  | ex c=>exact aB en Zq4
  | ok k=>
   have:=Zrm en;subst this;show ∀D,(∀d a o,Gr i j d a->mg (clsOf (tagX (2*k) x))=some (.ref o)->E (.ref o) (pay (tagX (2*k) x)) a)->_;rw [ZgD,Zkl];refine λD q=>h _ λz u G v r=>⟨k,?_,q z u C (b.g.trans v) hm⟩;obtain ⟨y,rfl,B⟩:=r.one;cases B;rfl
end
def mem_lookup:∀{tab:List (Str×α)},tab.lookup g=some m->(g,m)∈tab
 | [],h=>by cases h
 | (a,b)::r,h=>by
  rw [Vbt] at h;cases q:g==a with
  | true=>
   rw [q] at h;cases h;rw [VaS.mp q];exact Vaq
  | false=>
   rw [q] at h;exact Var _ (mem_lookup h)
section
variable {j2 k2 l:Nat} {y gn:Str} {C Cy:Addr} {tab:List (Str×(List D->Res D))} {t:TA} {t2:Addr->TA} {ma me:MA} {hits:List Str} {e2:Expr} {es2:List Expr} {p np yp cpos2 cp rpos rpos2 hpos:Pos} {ck:Nat}
def Zqz(bx:Zg2 X E)(hi:X.N[i]?=some gn)(hv:Vis X.env.scope gn)(T:∀q∈tab,Cal X.prog X.w X.K X.mg X.base k q.1 ps q.2)(hr:Room l X.A)(hn:k<=l)(ha:DA X.nox E0 j (e::es) t ma)(hgy:Gl X y)(hmy:X.mg y=some (.ref Cy))(hh:∀c∈hits,∃D,X.mg c=some (.ref D)/\W.exmOne X.K (.ref D) (.ref Cy)=some true)(M:MkX X.prog X.w X.K X.mg X.base k2 C)(hl:k2+1<=l)(hgx:Gl X x)(hmx:X.mg x=some 05)(hb:∀a,DA (X.inX a) E0 j2 (e2::es2) (t2 a) me)(hps:ps.length=j:=by rfl)(hd:ND gn:=by decide)(hcd:NE gn:=by decide)(hdx:ND x:=by decide)(hdy:ND y:=by decide)(he:011:=by rfl)(hpl:(backTo cpos (starEach es X.env)).any (·.1)=false:=by rfl)(he2:starEach (e2::es2) X.env=(false,eval e2 X.env)::starEach es2 X.env:=by rfl)(hpl2:(backTo cpos2 (starEach es2 X.env)).any (·.1)=false:=by rfl) :
  DS X E (.Try [.Return (some (.Call (.Name gn p) (e::es) [] cpos)) rpos] [.ExceptHandler (some (.Name y yp)) none [.Raise (some (.Call (.Name x np) (e2::es2) [] cpos2)) (some (.Constant .none ck cp)) rpos2] hpos] [] [] pos)
   (Zq5 (Zrn X.K X.mg tab j i t) (λcls=>W.exmOne X.K cls (.ref Cy)=some true) t2 E C) (Zoh tab i ma hits x me):=by
 refine ⟨Zp6 bx (ZoP hi hv T hps hr hn ha.p hd hcd he hpl) hgy hmy M hr hl hgx hmx (λa=>(hb a).p) hdx hdy he2 hpl2,?_⟩;intro o u F H σ ρ I;unfold Zoh;split
 ·next g hg=>
  split
  ·next m Y=>
   obtain ⟨v,G,rv⟩:=I.im i _ hg;cases rv with
   | cls hfa=>
    have h:=ha.s o u F H σ ρ I;cases em:ma ρ with
    | bad=>trivial
    | ex c=>trivial
    | ok ds=>
     rw [em] at h;show AnsS X.K X.mg E o u F (match m ds with | .ok d=>.ok (.rt d) | .ex x_1=>_ | .bad=>.bad) _
     cases ef:m ds with
     | bad=>trivial
     | ok d=>
      exact λD q=>⟨g,m,_,mem_lookup Y,hfa,G,h _ λR H1 vs L J=>⟨by rw [J.length];exact ha.n ρ ds em,R,ds,L.s,J,(by rw [ef];intro z;cases z),(λd' z B f w g' b=>by rw [ef] at z;cases z;exact q B f w (I.g.trans (L.trans g')) b),λc z=>by rw [ef] at z;cases z⟩⟩
     | ex c0=>
      show AnsS X.K X.mg E o u F (if (hits.contains (clsOf c0)&&Zkk c0)=true then (noEx (me ρ)).bind λes=>(natD es).bind λn=>.ex (tagX (2*n+1) x) else .bad) _
      by_cases hc:(hits.contains (clsOf c0)&&Zkk c0)=true
      ·rw [iP hc];obtain ⟨P,r⟩:=Bool.and_eq_true_iff.mp hc;have Z:=λ(a:Addr) B f (r':Rep X.K X.mg o u B f σ ρ)=>(hb a).s o u B f σ ρ r';cases ee:me ρ with
       | bad=>trivial
       | ex c=>trivial
       | ok ds2=>
        rw [ee] at Z;show AnsS X.K X.mg E o u F ((natD ds2).bind λn=>.ex (tagX (2*n+1) x)) _;cases en:natD ds2 with
        | bad=>trivial
        | ex c=>exact aB en Zq4
        | ok n=>
         have:=Zrm en;subst this;show ∀D,(∀B f U,Gr o u B f->X.mg (clsOf (tagX (2*n+1) x))=some (.ref U)->E (.ref U) (pay (tagX (2*n+1) x)) f)->_;rw [ZgD,Zkl];refine λD q=>⟨g,m,_,mem_lookup Y,hfa,G,h _ λR H1 vs L J=>⟨by rw [J.length];exact ha.n ρ ds em,R,ds,L.s,J,(by rw [ef];intro z;cases z),(λd' z=>by rw [ef] at z;cases z),λc' z F2 H2 C1 g2 hC=>?_⟩⟩;rw [ef] at z;cases z;have S:=L.trans g2;refine ⟨?_,?_,λa=>Z a F2 H2 (I.gr S) _ λF3 H3 ws g3 Q=>⟨n,?_,q F3 H3 C (I.g.trans (S.trans g3)) hmx⟩⟩
         ·obtain ⟨D',V,q1⟩:=hh (clsOf c0) (by simpa using P);rw [hC] at V;cases V;exact q1
         ·unfold Zkk at r;split at r
          ·next n0 O=>exact .inr ⟨n0,O,VaS.mp r⟩
          ·next O=>exact .inl O
         ·obtain ⟨w,rfl,b⟩:=Q.one;cases b;rfl
      ·rw [iN hc];trivial
  ·trivial
 ·trivial
end
end L2.Ds
namespace L2
open PySem.Calls
section
open PySem.Builtin PySem.Builtin.ObjectAttr PySem.W
variable{prog:Program} {E:Value->Shared->Prop} {x C d:Addr} {name:Str} {v:Value} {mA:Str->Option Value}
def ZtC(XI:K.In s.heap)(I:Zlq x 05 d s.heap)(hn:s.heap.Ns1 d mA)(c:Zhs K C)(ha:W.findIn K 05 name=some none)(hv:mA name=some v)(hv':W.handedIn v=true)(hQ:Q v { s with toks:=s.toks+1 }) :
  wpAny 08 A (getAttr (.ref x) name expr) Q E s:=by
 obtain ⟨p,y,B,G,z⟩:=s;obtain ⟨k,h,t,m,D,o⟩:=I;obtain ⟨l,r,i⟩:=Zjs hn;have J:W.InstAt p x k C (some l):=⟨h,t,by unfold notCls;rw [o],by rw [m];exact r⟩;have a:=J.type (M:=08);have u:=VaV (M:=08) XI c.g;have q:=W.looks_find (M:=08) XI J (W.findObj_own c.d ha rfl (by rw [i,hv]));have e:=VaV (M:=08) XI c.n;have j:=VbD (M:=08) XI c.b;have f:=(F.excAttr_ValueError.ga).bind (.ref x);unfold getAttr getAttrBy;refine VaD (wpAny_mkText (Vbl (VaD (a.at (VaD (u.at ?_))))));unfold getAttrByItsOwn hookBefore callGetattribute boundAndCalled;rw [iP (show onTheHeap (Value.ref C)=true from rfl)];refine VaD (e.at (VaD (wpAny_attempt (Vbl ?_))));rw [iN (by cases expr<;>exact VaJ),f];refine VaD (VaF (Va3 ?_));refine VbA F.excAttr_ValueError.ga.plain F.entry_bexc_ga (ZlK a j ?_);unfold Builtin.«object.__getattribute__»;refine VaD (VaF (VaD (VaF (VaD (a.at (VaD (q.at ?_)))))));refine VaF ?_;show wpAny 08 A (handedOut v) Q E _;rw [W.handedOut_of hv'];exact VaF hQ
end
def tAt(K:W.Frag)(ta:TE)(f:Str):TE:=λσ H Q=>ta σ H λx b=>∃a C d v,x=.ref a/\b a=some (exC a 05 d)/\b d=some (.xd [(f,v)])/\Zhs K C/\W.findIn K 05 f=some none/\Q v b
section
variable {f:Str} {ta:TE}
def Zxy(he:PE X e ta)(hb:attributeBase e f X.env (eval e X.env)=eval e X.env):PE X (.Attribute e f pos) (tAt X.K ta f):=by
 intro b s σ H Q I h;refine ZnE hb (thn (he b s σ H _ I h) λu s1 zq=>?_);obtain ⟨x,H1,I1,rx,a,C,d,v,ex,ea,ed,c,n,q⟩:=zq;subst ex;obtain rfl:u=Value.ref a:=rx;have l:=(I1.hok a _ ea).1;obtain ⟨m,i,j⟩:=I1.hok d _ ed;obtain ⟨u,k,g⟩:=RelO.some_of (by have z:=j f;rw [Vbt,beq_self_eq_true] at z;exact z);exact ZtC I1.kIn l i c n k (Zi5 g) ⟨v,H1,I1.tok _,g,q⟩
end
end L2
namespace L2.Ds
open PySem.Calls Dl
def AtOk(K:W.Frag)(mg:001)(cs:List Str):Prop:=∀c∈cs,∃C,mg c=some 05/\Zhs K C/\W.findIn K 05 "at"=some none
end L2.Ds
namespace Dl
def dAtC(cs:List Str):D->Res D
 | .exc c=>if cs.contains (clsOf c)=true then dAt (.exc c) else .bad
 | _=>.bad
end Dl
namespace L2.Ds
open PySem.Calls Dl
section
variable {ta:TE} {ma:ME} {cs:List Str}
def ydy(T:AtOk X.K X.mg cs)(ha:DE X E e ta ma)(hb:attributeBase e "at" X.env (eval e X.env)=eval e X.env:=by rfl):DE X E (.Attribute e "at" pos) (tAt X.K ta "at") (o1 (dAtC cs) ma):=by
 refine ⟨Zxy ha.p hb,?_⟩;intro i j F H σ ρ b;have h:=ha.s i j F H σ ρ b;unfold o1;cases em:ma ρ with
 | bad=>trivial
 | ex c=>
  rw [em] at h;exact λQ q=>h _ q
 | ok x=>
  rw [em] at h;cases x with
  | exc c=>
   show Ans X.mg E (Rp X.K X.mg) F H (if cs.contains (clsOf c)=true then dAt (.exc c) else .bad) _
   by_cases hc:cs.contains (clsOf c)=true
   ·rw [iP hc];show Ans X.mg E (Rp X.K X.mg) F H (match pay c with | some n=>.ok (.int (((n)/2:Nat):Int)) | none=>.bad) _
    cases hp:pay c with
    | none=>trivial
    | some n=>
     refine λQ q=>h _ λg d v a f=>?_;cases f with
     | exc m xc=>
      rw [hp] at xc;obtain ⟨C',hC',ok,no⟩:=T (clsOf c) (by simpa using hc);rw [m] at hC';cases hC';exact ⟨_,_,_,_,rfl,a.s _ _ xc.1,a.s _ _ xc.2,ok,no,q g d _ a (.int _)⟩
   ·rw [iN hc];trivial
  | _=>trivial
end
end L2.Ds
namespace L2
open PySem.Calls
structure Zlg(K:W.Frag)(C:Addr)(qual:Str)(st:Stmt):Prop where
 ex:∃(fI:Addr) (fd:FuncData),ZhO K C fI=true/\Fun K "__init__" qual st fI fd/\Binds K fd ["self","at"] []
 kp:W.keepIn K 05=true
 r:ClsR K C
 x:ClsX K C
 n:W.findIn K 05 "at"=some none
def Zlg.mk'{C:Addr}{qual:Str}{st:Stmt}{p1 p2 p3 p4:Pos}(h:Zlg K C qual st)(S:Zag ["self","at"] ["self","at"] (Zad st))(hb:Zb8 st=[.Assign [.Attribute (.Name "self" p1) "at" p2] (.Name "at" p3) p4])(hv1:Vis (Zad st) "self")(hv2:Vis (Zad st) "at")(hsw:∀(l:Addr) (f:Addr) (cd:Value),swapsWith (.Name "at" p3) (some (.Attribute (.Name "self" p1) "at" p2)) p4.line (envOfC qual (Zad st) l f cd)=pure false):MkX P w K mg base 1 C:=by
 obtain ⟨a,c,q,F,b⟩:=h.ex;exact ⟨⟨a,c,q,okX (k:=0) F S hb hv1 hv2 hsw h.x h.n,b⟩,h.kp,h.r⟩
end L2
namespace L2.Ds
open PySem.Calls Dl
def tFn(mg:001)(x:Str):TE:=λ_ H Q=>∃f,mg x=some (.ref f)/\Q (.ref f) H
section
variable {m:List D->Res D}
def ydt(C:Cal X.prog X.w X.K X.mg X.base k x ps m)(hg:Gl X x)(hd:ND x:=by decide):DE X E (.Name x pos) (tFn X.mg x) (c (.cls x)):=by
 refine ⟨λa s σ H Q I h=>?_,λe j F H σ ρ d=>?_⟩
 ·obtain ⟨f,b,q⟩:=h;exact (ZfX (v:=.ref f) hg b rfl hd) a s σ H Q I q
 ·obtain ⟨f,i,_,_,_,b⟩:=C.ex;exact λQ q=>⟨f,b,q F H _ (Gr.refl d.g.s) (.cls b)⟩
end
def Cal.mono(C:Cal P w K mg base k x ps m)(h:k<=j):Cal P w K mg base j x ps m:=by
 obtain ⟨f,d,F,b,c,a⟩:=C.ex;exact ⟨f,d,F.mono h,b,c,a⟩
end L2.Ds
namespace L2
open PySem.Calls
section
variable {own:List Str} {cap:List (Str×Nat)} {scope:Scope} {cl:List (Str×Addr)} {tg:Expr}
def Zkr{te:Fam TE}(b:Zg2 X E)(hN:X.N.Nodup)(hix:X.N[i]?=some x)(hx:Loc X.env.scope x)(hi:PI X tg iter wi)(O:ZcR X own cap scope cl)(hc:X.calm=true)(hg:∀C s H fp pn,PG (Zay (xfE E X) X 005 scope cl C s H fp pn) tg (g C s H fp pn))(ht:∀C s H fp pn,PTs (Zay (xfE E X) X 005 scope cl C s H fp pn) ts (tt C s H fp pn))(he:∀C s H fp pn,PE (Zay (xfE E X) X 005 scope cl C s H fp pn) elt (te C s H fp pn))(hts:ts.length<=1:=by decide)(hsw:swapsWith 012 (some (.Name x pos')) spos.line X.env=pure true:=by rfl)(hs:∀x,foldedSetIterable iter X.env x=pure x:=by intro _;rfl)(hf:013:=by first | exact .inl rfl | exact .inr rfl | assumption):PS X (.Assign [.Name x pos'] 012 spos) (tAsg (ZeL wi g tt te own cap) (ZfB i)):=by
 intro a s σ H D I h;rw [exec_Assign_Name_used _ _ _ _ hsw];refine VaD (VaE (VaD ?_))
 refine VaD (Vax (Vbv rfl hs O.clos O.kind O.locals
  (thn (hi a s σ H _ I h) λxv U k=>thn k λitv P j=>?_)) (λ_ r hq=>VaF (VaF hq)) λ_ _ e=>e)
 obtain ⟨it,fp,tn,J,H2,rfl,d,T,u,S,hw⟩:=j;refine Zhj O hc hg ht he hts d T u S hw ?_ ?_
 ·intro A C M r m f Y K IV q;have Q:=IV r.heap (Heap.SameBut.refl ..);obtain ⟨n,V,Z,ho,L,hk⟩:=id Y;have l:=VaK (Vag d.lt f);have F:=d.nofs f;have I4:Inv X (a++[(C,n)]) σ M r:=Q.pins_of λp t=>by
   rcases Vau.mp t with z | z
   ·exact Q.pin p (VaQ _ z)
   ·have W:p=(C,n):=by simpa using z
    subst W;exact ⟨ho,K,l,F,λv e=>by rw [L] at e;cases e⟩
  refine wpAny_assign_Name (ZdR I4 hN hix hx (v:=.ref A) rfl (λs5 R=>?_) hf);have w:=(R.pin (C,n) (VaQ _ (VaQ _ 03))).1;refine ⟨m,⟨n,V,Z,w,L,hk⟩,λh' sb=>⟨_,M,?_,q⟩⟩;refine (R.unpinned).turned (λb o hb e=>sb.extBut b o hb e) K l (.inr (Vao d.sz f)) (λy c e=>?_) (λp t=>?_)
  ·obtain ⟨v,o,B,_⟩:=d.cell y c e;exact Vai (Vag (Vaf B) f)
  ·exact Vai (Vag (Vaf (d.pin p t).1) f)
 ·intro A C G e r f z;exact b.blk.out d S f z
end
end L2
namespace L2.Ds
open PySem.Calls Dl
section
variable {tg iter elt:Expr} {ts:List Expr} {na:MB}
def ZiH(hN:X.N.Nodup)(hix:X.N[i]?=some x)(hx:Loc X.env.scope x)(b:Zg2 X E)(hi:DI X E tg iter wi mi)(O:ZcR X own cap scope cl)(hc:X.calm=true)(hg:∀C s H fp pn,DG (Zay (xfE E X) X 005 scope cl C s H fp pn) own.length tg (g C s H fp pn) gm)(ht:∀C s H fp pn,DTs (Zay (xfE E X) X 005 scope cl C s H fp pn) E ts (tt C s H fp pn) na)(he:∀C s H fp pn,DE (Zay (xfE E X) X 005 scope cl C s H fp pn) E elt (tf C s H fp pn) me)(hts:ts.length<=1:=by decide)(hsw:swapsWith 012 (some (.Name x pos')) spos.line X.env=pure true:=by rfl)(hs:∀x,foldedSetIterable iter X.env x=pure x:=by intro _;rfl)(hf:013:=by first | exact .inl rfl | exact .inr rfl | assumption) :
  DS X E (.Assign [.Name x pos'] 012 spos) (tAsg (ZeL wi g tt tf own cap) (ZfB i)) (st i (Zcm mi own.length (cap.map (·.2)) gm na me)) :=
 ⟨Zkr b hN hix hx hi.p O hc (λC s H fp pn=>(hg C s H fp pn).p) (λC s H fp pn=>(ht C s H fp pn).p) (λC s H fp pn=>(he C s H fp pn).p) hts hsw hs hf,
  Zn8 (Zlf hi.s (λC s H fp pn=>(hg C s H fp pn).s) (hg 0 X.s₀ (λ_=>none) [] []).x (λC s H fp pn=>(ht C s H fp pn).s) (λC s H fp pn=>(he C s H fp pn).s))⟩
end
end L2.Ds
namespace L2.Ds
open Dl
section
variable {a b c d:Expr} {ta tb tc td:TE} {ma mb mc md:ME}
def Znv(ho:OpR X (compareOp op) r)(ho':OpR X (compareOp op') r')(ho'':OpR X (compareOp op'') r'')(ha:PE X a ta)(hb:PE X b tb)(hc:PE X c tc)(hd:PE X d td)(hm:lastMarks [op,op',op''] [b,c,d]=false:=by with_unfolding_all rfl):PE X (.Compare a [op,op',op''] [b,c,d] pos) (Zhd r r' r'' ta tb tc td):=by
 intro f s σ H Q I h
 refine Compare_chain (thn (ha f s σ H _ I h) λv T zq=>?_) hm;obtain ⟨x,Y,I1,V,W⟩:=zq;refine chain_link (thn (hb f T σ Y _ I1 W) λu U zq=>?_);obtain ⟨y,A,B,q,w⟩:=zq;refine thn (ho f U σ A x y v u _ B V q w) λd C zq=>?_;obtain ⟨z,p,l,N,k,e,i⟩:=zq
 subst e;cases N;refine Vay ?_;cases k with
 | false=>exact ite_ff ⟨.bl false,p,l,rfl,i⟩
 | true=>
  refine ite_tt (chain_link (thn (hc f C σ p _ l i) λo G zq=>?_));obtain ⟨g,H4,Z,n,P⟩:=zq;refine thn (ho' f G σ H4 y g u o _ Z q n P) λd' F zq=>?_;obtain ⟨z2,j,m,L,S,E,t⟩:=zq;subst E;cases L;refine Vay ?_;cases S with
  | false=>exact ite_ff ⟨.bl false,j,m,rfl,t⟩
  | true=>exact ite_tt (chain_last (thn (hd f F σ j _ m t) λR J zq=>by obtain ⟨D,O,M,r6,K⟩:=zq;exact ho'' f J σ O g D o R Q M n r6 K))
def Zp7(ho:OpR X (compareOp op) r)(hf:OpD X.K X.mg r f)(ho':OpR X (compareOp op') r')(hg:OpD X.K X.mg r' g)(ho'':OpR X (compareOp op'') r'')(hh:OpD X.K X.mg r'' h)(ha:004)(hb:DE X E b tb mb)(hc:DE X E c tc mc)(hd:DE X E d td md)(hm:lastMarks [op,op',op''] [b,c,d]=false:=by with_unfolding_all rfl) :
  DE X E (.Compare a [op,op',op''] [b,c,d] pos) (Zhd r r' r'' ta tb tc td) (Zfq f g h ma mb mc md):=⟨Znv ho ho' ho'' ha.p hb.p hc.p hd.p (hm:=hm),Zj8 hf hg hh ha.s hb.s hc.s hd.s⟩
end
end L2.Ds
namespace Dl
def sepL(w:01):Nat->List Nat->List 01
 | _,[]=>[[]]
 | k+1,_::r=>sepL w k r
 | 0,x::r=>if (x::r).take w.length=w then []::sepL w (w.length - 1) r else match sepL w 0 r with
  | []=>[[x]]
  | u::us=>(x::u)::us
def Zau(x:Str):D->Res D
 | .str y=>if (1<=y.length/\y.cps.all (·<256)=true)/\x.length<=LIM then .ok (.lst ((sepL (cpL y) 0 (cpL x)).map λl=>.str (mkS l))) else .bad
 | _=>.bad
def glW(a:01):List 01->List 01
 | []=>[a]
 | u::us=>(a++u)::us
def Zjx(w):∀l k,sepL w k l=sepL w 0 (l.drop k)
 | [],k=>by rw [List.drop_nil];cases k<;>rfl
 | x::r,0=>rfl
 | x::r,k+1=>by
  show sepL w k r=_;rw [Zjx w r k];rfl
def ZkA(w):∀l,sepL w 0 l≠[]
 | []=>by simp [sepL]
 | x::r=>by
  unfold sepL;split
  ·simp
  ·split<;>simp
def ZiQ{w:01}(hw:1<=w.length)(h:l.take w.length=w):sepL w 0 l=[]::sepL w 0 (l.drop w.length):=by
 cases l with
 | nil=>rw [List.take_nil] at h;rw [<-h] at hw;exact aB hw 00
 | cons x r=>
  have e:sepL w 0 (x::r)=if (x::r).take w.length=w then []::sepL w (w.length - 1) r else _:=rfl
  rw [e,iP h,Zjx];obtain ⟨n,a⟩ : ∃n,w.length=n+1:=⟨w.length - 1,by omega⟩;rw [a];rfl
def Zgl{w:01}{x:Nat}(h:(x::r).take w.length≠w):sepL w 0 (x::r)=glW [x] (sepL w 0 r):=by
 refine (iN h).trans ?_
 show (match sepL w 0 r with
  | []=>[[x]]
  | u::us=>(x::u)::us)=_
 cases sepL w 0 r<;>rfl
def Zsb(a b)(L):glW a (glW b L)=glW (a++b) L:=by
 cases L<;>simp [glW]
def Zfe{w:01}:∀a b,(∀k,k<a.length->((a++b).drop k).take w.length≠w)->sepL w 0 (a++b)=glW a (sepL w 0 b)
 | [],b,_=>by
  show sepL w 0 b=_;cases e:sepL w 0 b with
  | nil=>exact aB e (ZkA w b)
  | cons u us=>rfl
 | x::a,b,h=>by
  have e:=Zgl (r:=a++b) (h 0 03);rw [Zfe a b λk c=>by have:=h (k+1) (by simpa using c);simpa using this,Zsb] at e;exact e
end Dl
namespace L2.Ds
open Dl
def Zon(hw:1<=y.length):StrLaws.At x y x.length k↔((cpL x).drop k).take (cpL y).length=cpL y:=by
 have a:(cpL y).length=y.length:=by simp [cpL,Str.length]
 have ex:(cpL x).length=x.length:=by simp [cpL,Str.length]
 unfold StrLaws.At;rw [StrLaws.subAt_eq,VaS,a];refine ⟨λh=>h.2,λh=>⟨?_,h⟩⟩;have:=VaA List.length h;rw [Va8,Vbk,a] at this;omega
def Zou(x)(a b):cpL (Builtin.Str.strSub x a b)=((cpL x).drop a).take (b - a):=StrLaws.strSub_toList x a b
def ZfN(hw:1<=y.length):∀cuts a f,StrLaws.ChainG x y x.length a cuts f->(∀k,f<=k->¬StrLaws.At x y x.length k)->(StrLaws.partsFrom x y.length a cuts).map cpL=sepL (cpL y) 0 ((cpL x).drop a)
 | [],a,f,hc,hf=>by
  cases hc;have ex:(cpL x).length=x.length:=by simp [cpL,Str.length]
  show [cpL (Builtin.Str.strSub x a x.length)]=_;rw [Zou,VbH (by rw [Vbk,ex];exact VaN _)];have e:=Zfe (w:=cpL y) ((cpL x).drop a) [] λk g=>by
   rw [Va2,List.drop_drop];exact λz=>hf (a+k) 000 ((Zon hw).mpr z)
  rw [Va2] at e;rw [e];show [_]=[_++[]];rw [Va2]
 | c::r,a,f,hc,hf=>by
  obtain ⟨m,l,h,i⟩:=hc;have d:(cpL y).length=y.length:=by simp [cpL,Str.length]
  show cpL (Builtin.Str.strSub x a c)::(StrLaws.partsFrom x y.length (c+y.length) r).map cpL=_;have b:(cpL x).drop a=((cpL x).drop a).take (c - a)++(cpL x).drop c:=by
   have:=Vb4 (c - a) ((cpL x).drop a);rw [List.drop_drop,show a+(c - a)=c by omega] at this;exact this.symm
  rw [ZfN hw r _ f i hf,Zou,b,Zfe _ _ λk g=>by
   rw [<-b,List.drop_drop];have j:=Vag g (List.length_take_le _ _)
   exact λz=>h (a+k) 000 000 ((Zon hw).mpr z),ZiQ (by rw [d];exact hw) ((Zon hw).mp l),List.drop_drop,d]
  rw [<-b];show _=(_++[])::_;rw [Va2]
def ZjF{w:Str}(hw:1<=w.length)(ha:w.cps.all (·<256)=true):(Txt.split z w).map cpL=sepL (cpL w) 0 (cpL z):=by
 obtain ⟨f,b,c⟩:=StrLaws.occ_tight z w hw;have d:Builtin.Str.strKind w=1:=iP ha;have a:∀(h:∀k,¬StrLaws.At z w z.length k),[z].map cpL=sepL (cpL w) 0 (cpL z):=λh=>by
  have:=ZfN hw [] 0 0 rfl λk _=>h k;rw [VbG] at this;rw [<-this];show [cpL z]=[cpL (Builtin.Str.strSub z 0 z.length)];rw [StrLaws.sub_whole]
 unfold Txt.split;split
 ·next h=>
  refine a λk e=>?_;rw [Bool.or_eq_true,Vcd,Vcd,d] at h;rcases h with h | h
  ·have:=e.1;omega
  ·have:1<=Builtin.Str.strKind z:=by
    unfold Builtin.Str.strKind;split
    ·decide
    ·split<;>decide
   omega
 ·split
  ·next h=>
   rw [List.isEmpty_iff.mp h] at b;cases b;exact a λk=>c k (Va0 _)
  ·rw [StrLaws.partsBetween_eq,ZfN hw _ 0 f b c,VbG]
def ZpD(w):∀l,(sepL w 0 l).length<=l.length+1:=by
 have a:∀l k,(sepL w k l).length<=l.length+1:=by
  intro l
  induction l with
  | nil=>intro k;cases k<;>exact VaN _
  | cons x r ih=>
   intro k;cases k with
   | zero=>
    by_cases h:(x::r).take w.length=w
    ·have e:sepL w 0 (x::r)=[]::sepL w (w.length - 1) r:=iP h;rw [e];have:=ih (w.length - 1);simp only [VaU];omega
    ·rw [Zgl h];have:=ih 0;cases e:sepL w 0 r with
     | nil=>simp [glW]
     | cons u us=>rw [e] at this;simp only [glW,VaU] at *;omega
   | succ k=>
    show (sepL w k r).length<=_;have:=ih k;simp only [VaU];omega
 exact λl=>a l 0
def ZnO:V->List V->Hp->VK->Prop:=λx a H Q=>∃z w,x=.str z/\a=[.str w]/\(1<=w.length/\w.cps.all (·<256)=true)/\z.length<=LIM/\∀l,H l=none->Q (.ref l) (upd H l (.lst ((Txt.split z w).map V.str)))
def ZaS:MtR X "str.split" ZnO:=by
 intro d s σ H x r v y Q I p n h;obtain ⟨z,w,rfl,rfl,⟨m,j⟩,i,q⟩:=h;obtain ⟨u,rfl,t,rfl⟩:=vals1 n;obtain ⟨a,rfl⟩:=p;have g:(w.length==0)=false:=by rw [Vae];omega
 have f:(Txt.split z w).length<=sizeLine:=by
  have:=ZpD (cpL w) (cpL z);rw [<-ZjF m j,VaX,show (cpL z).length=z.length by simp [cpL,Str.length]] at this;exact Vao this (Vao (VbP i) 00)
 have c:∀l k,l.map (·.1)=Txt.split z w->EP X d σ Q (.ref s.heap.objs.size) { s with toks:=k,heap:=s.heap.push { cls:=.type "list",data:=.seq (strValues l).toArray } }:=λl k e=>
  ⟨.ref _,_,I.laid (o:=.lst ((Txt.split z w).map V.str)) (λb o e=>VaH _ e) (VaN _) ⟨by rw [VaX];exact f,strValues l,0,by rw [<-e];exact ZjR l,VaM _ rfl⟩,rfl,q _ (I.hok.fresh (VaN _))⟩
 cases h1:(decide (z.length<w.length)||decide (Builtin.Str.strKind z<Builtin.Str.strKind w))
 ·cases hf:(Builtin.Str.occurrences z w 0 z.length (z.length+1)).isEmpty
  ·have e:Txt.split z w=Builtin.Str.partsBetween z (Builtin.Str.occurrences z w 0 z.length (z.length+1)) w.length:=(iN (ne_true_of_eq_false h1)).trans (iN (ne_true_of_eq_false hf));refine call_meets Vci (Vbp s z a) PySem.F.entry_str_split (PySem.F.args_str_split_2 _ _) (meets_str_split_sep z w a t h1 g hf (Zdt i) (by rw [<-e];exact f)) ?_;rw [strsFrom_eq];exact c (numbered s.toks _) _ ((numbered_texts _ _).trans e.symm)
  ·exact call_meets Vci (Vbp s z a) PySem.F.entry_str_split (PySem.F.args_str_split_2 _ _) (meets_str_split_not_found z w a t h1 g hf) (c [(z,a)] _ ((iN (ne_true_of_eq_false h1)).trans (iP hf)).symm)
 ·exact call_meets Vci (Vbp s z a) PySem.F.entry_str_split (PySem.F.args_str_split_2 _ _) (meets_str_split_cannot_occur z w a t h1) (c [(z,a)] _ (iP h1).symm)
def ZaF:SmD K mg ZnO Zau:=by
 intro E F H z y d s b;cases d with
 | str w=>
  cases b;unfold Zau;dsimp only;split
  ·next h=>
   obtain ⟨a,c⟩:=h;refine Zee s (λp e=>?_) λQ q=>⟨z,w,rfl,rfl,a,c,q⟩;rw [<-ZjF a.1 a.2];exact .lst (SqL.of Zah) (Zlt _)
  ·trivial
 | _=>trivial
end L2.Ds
namespace Dl
def Sm(k:Nat)(x:Int):Prop:=x.natAbs<2^k
def Sm.mono{k n:Nat}{x:Int}(h:Sm k x)(hn:k<=n):Sm n x:=Vag h (Nat.pow_le_pow_right 00 hn)
def Sm.of64{x:Int}(h1:-18446744073709551616<x)(h2:x<18446744073709551616):Sm 64 x:=by
 unfold Sm;have:(2:Nat)^64=18446744073709551616:=by decide
 omega
def Zuz{n k:Nat}(h:n<2^k)(hk:0<k):n.log2<k:=by
 rcases Nat.eq_zero_or_pos n with z | z
 ·rw [z];simpa using hk
 ·exact (Nat.log2_lt (VaK z)).mpr h
def Zs7{a b:Int}(h:Sm 64 a):Zhl a b=true:=by
 unfold Zhl;rw [Vbr (show a.natAbs<2^64 from h)];rfl
def ZsF{a b:Int}(h:Sm 64 b):Zhl a b=true:=by
 unfold Zhl;rw [Vbr (show b.natAbs<2^64 from h)];simp
def Ztt{a b:Int}(h:Zhl a b=true):iMul a b=.ok (.int (a*b)):=by unfold iMul;rw [iP h]
def ZoV{a b:Int}(h:0<b):iMod a b=.ok (.int (a%b)):=by unfold iMod;rw [iP h]
def Zqj{a b:Int}(h:0<b)(hl:b.natAbs.log2<9000):iDiv a b=.ok (.int (a/b)):=by unfold iDiv;rw [iP hl,iP h]
def ZtS{a b:Int}(h0:0<=b)(h1:b<=1000000)(h2:a.natAbs<2^64):iPow a b=.ok (.int (a^b.toNat)):=by unfold iPow;rw [iP ⟨h0,h1,h2⟩]
def ZsR{a b:Int}(h0:0<=b)(h1:b<=1000000)(h2:a.natAbs<2^64):iShl a b=.ok (.int (a*2^b.toNat)):=by unfold iShl;rw [iP ⟨h0,h1,h2⟩]
def ZsU{a b:Int}(h0:0<=b):iShr a b=.ok (.int (a/2^b.toNat)):=by unfold iShr;rw [iP h0]
def ZrI(a b:Int):dEq (.int a) (.int b)=.ok (.bl (decide (a=b))):=by
 show Res.ok (D.bl (a==b))=_;rw [Bool.beq_eq_decide_eq]
def ZtM(a b:Int):dNe (.int a) (.int b)=.ok (.bl (!decide (a=b))):=by
 show Res.ok (D.bl (!(a==b)))=_;rw [Bool.beq_eq_decide_eq]
def ZpY{a b:List D}(h:a.length+b.length<=1000000):yaT (.lst a) (.lst b)=.ok (.lst (a++b)):=by
 show (if a.length+b.length<=LIM then Res.ok (D.lst (a++b)) else .bad)=_
 rw [iP (show a.length+b.length<=LIM from h)]
def Zn7(xs:List D)(i:Int):dIx (.lst xs) (.int i)=ofO (at_ xs i):=rfl
def Zqv(xs:List D):bLen [.lst xs]=.ok (.int xs.length):=rfl
def ZpW(xs:List D):bLen [.tup xs]=.ok (.int xs.length):=rfl
def ZqF(i:Int):bAbs [.int i]=.ok (.int i.natAbs):=by
 show Res.ok (D.int (if i<0 then -i else i))=_
 have:(if i<0 then -i else i)=(i.natAbs:Int):=by split<;>omega
 rw [this]
def Zqs(i j:Int):bMax [.int i,.int j]=.ok (.int (max i j)):=by
 show Res.ok (D.int (if j>i then j else i))=_
 have:(if j>i then j else i)=max i j:=by split<;>omega
 rw [this]
def Zr0{j:Int}(h0:-1000000000<=j)(h1:j<=1000000000):rng1 [.int j]=.ok (Za5 0 j.toNat):=by
 show (if -1000000000<=j/\j<=1000000000 then Res.ok (Za5 0 j.toNat) else .bad)=_
 rw [iP ⟨h0,h1⟩]
def ZtF{g:MG}{b:MS}(I:Ev->Prop)(xs:List D)(h:∀x∈xs,∀ρ,I ρ->∃ρ1 ρ2,g x ρ=.ok ρ1/\b ρ1=.ok (.nx ρ2)/\I ρ2):∀ρ,I ρ->∃ρ',ZbJ g b xs ρ=.ok (.nx ρ')/\I ρ':=by
 induction xs with
 | nil=>exact λρ i=>⟨ρ,rfl,i⟩
 | cons x r ih=>
  intro ρ i;obtain ⟨ρ1,ρ2,e,j,f⟩:=h x Vaq ρ i;obtain ⟨ρ',a,c⟩:=ih (λy d=>h y (Var _ d)) ρ2 f;refine ⟨ρ',?_,c⟩;show (g x ρ).bind (λρ1=>(b ρ1).bind (turn (ZbJ g b r)))=_;rw [e];show (b ρ1).bind (turn (ZbJ g b r))=_;rw [j];exact a
def Zgs{g:MG}{b:MS}(I:List D->Ev->Prop):∀(xs pre:List D),(∀p x r,xs=p++x::r->∀ρ,I (pre++p) ρ->∃ρ1 ρ2,g x ρ=.ok ρ1/\b ρ1=.ok (.nx ρ2)/\I (pre++p++[x]) ρ2)->∀ρ,I pre ρ->∃ρ',ZbJ g b xs ρ=.ok (.nx ρ')/\I (pre++xs) ρ'
 | [],pre,_,ρ,i=>⟨ρ,rfl,by rw [Va2];exact i⟩
 | x::r,pre,h,ρ,i=>by
  obtain ⟨ρ1,ρ2,f,j,a⟩:=h [] x r rfl ρ (by rw [Va2];exact i);rw [Va2] at a
  obtain ⟨ρ',c,d⟩:=Zgs I r (pre++[x]) (λp y s e ρ i=>by
   have z:=h (x::p) y s (by rw [e];rfl) ρ (by simpa using i)
   simpa using z) ρ2 a
  refine ⟨ρ',?_,by simpa using d⟩;show (g x ρ).bind (λρ1=>(b ρ1).bind (turn (ZbJ g b r)))=_;rw [f];show (b ρ1).bind (turn (ZbJ g b r))=_;rw [j];exact c
def ZnH(t:MB)(b:MS)(n:Nat)(ρ:Ev):whGo t b (n+1) ρ=(t ρ).bind λx=>if x=true then (b ρ).bind (turn (whGo t b n)) else .ok (.nx ρ):=rfl
def ZgN(g:MG)(t:MB)(e:ME)(ρ:Ev)(x:D)(r:List D):Zaz g t e ρ (x::r)=(g x ρ).bind λρ1=>(t ρ1).bind λb=>if b=true then (e ρ1).bind λy=>(Zaz g t e ρ r).bind λys=>.ok (y::ys) else Zaz g t e ρ r:=rfl
def Zlu{g:MG}{e:ME}{ρ:Ev}(P:D->D->Prop):∀xs:List D,(∀x∈xs,∃ρ1 y,g x ρ=.ok ρ1/\e ρ1=.ok y/\P x y)->∃ys,Zaz g yes e ρ xs=.ok ys/\ys.length=xs.length/\∀(i:Nat) x y,xs[i]?=some x->ys[i]?=some y->P x y
 | [],_=>⟨[],rfl,rfl,λi x y h=>by simp at h⟩
 | x::r,h=>by
  obtain ⟨ρ1,y,k,l,j⟩:=h x Vaq;obtain ⟨ys,f,m,q⟩:=Zlu P r λz n=>h z (Var _ n);refine ⟨y::ys,?_,VaA (·+1) m,λi a b c d=>?_⟩
  ·rw [ZgN,k,ZaH];unfold yes at f ⊢;rw [ZaH,iP rfl,l,ZaH,f];rfl
  ·cases i with
   | zero=>simp at c d;subst c d;exact j
   | succ i=>exact q i a b (by simpa using c) (by simpa using d)
def Tl{α:Type}(r:Res α)(Φ:α->Prop):Prop:=∃a,r=.ok a/\Φ a
section
variable{α β:Type}{Φ:α->Prop} {a b d:ME} {s t:MB}
def Zae{r:Res α}{x:α}(e:r=.ok x)(h:Φ x):Tl r Φ:=⟨x,e,h⟩
def ZaL{x:α}(h:Φ x):Tl (.ok x) Φ:=⟨x,rfl,h⟩
def Zao{r:Res β}{f:β->Res α}(h:Tl r λx=>Tl (f x) Φ):Tl (r.bind f) Φ:=by
 obtain ⟨x,rfl,y,e,q⟩:=h;exact ⟨y,e,q⟩
def Tl.mono{r:Res α}{Ψ:α->Prop}(h:Tl r Ψ)(k:∀x,Ψ x->Φ x):Tl r Φ:=by
 obtain ⟨x,e,q⟩:=h;exact ⟨x,e,k x q⟩
def ZoD{c:Bool}{A B:Res α}(hc:c=true)(h:Tl A Φ):Tl (if c=true then A else B) Φ:=by rw [iP hc];exact h
def Zoa{c:Bool}{A B:Res α}(hc:c=false)(h:Tl B Φ):Tl (if c=true then A else B) Φ:=by rw [iN (by rw [hc];exact VaJ)];exact h
def w_dT{P:Prop} [Decidable P] {A B:Res α} (hc:P) (h:Tl A Φ):Tl (if decide P=true then A else B) Φ:=ZoD (Vbr hc) h
def w_dF{P:Prop} [Decidable P] {A B:Res α} (hc:¬P) (h:Tl B Φ):Tl (if decide P=true then A else B) Φ:=Zoa (Vad hc) h
def w_nT{P:Prop} [Decidable P] {A B:Res α} (hc:¬P) (h:Tl A Φ):Tl (if (!decide P)=true then A else B) Φ:=ZoD (by rw [Vad hc];rfl) h
def w_nF{P:Prop} [Decidable P] {A B:Res α} (hc:P) (h:Tl B Φ):Tl (if (!decide P)=true then A else B) Φ:=Zoa (by rw [Vbr hc];rfl) h
def ZbT{P:Prop} [Decidable P] {A B:Res α} (h1:P->Tl A Φ) (h2:¬P->Tl B Φ):Tl (if decide P=true then A else B) Φ:=by
 by_cases h:P
 ·exact w_dT h (h1 h)
 ·exact w_dF h (h2 h)
def Zvq{P:Prop} [Decidable P] {A B:Res α} (h1:¬P->Tl A Φ) (h2:P->Tl B Φ):Tl (if (!decide P)=true then A else B) Φ:=by
 by_cases h:P
 ·exact w_nF h (h2 h)
 ·exact w_nT h (h1 h)
end
section
variable{Φ:D->Prop} {a b d:ME} {s t:MB} {m:MA}
def w_v{x:D}(e:ρ[i]?=some (.im x))(h:Φ x):Tl (v i ρ) Φ:=Zae (by unfold v;rw [e];rfl) h
def w_v'(h:Tl (getC ρ[i]?) Φ):Tl (v i ρ) Φ:=h
def w_gC{o:Option Cl}{x:D}(e:o=some (.im x))(h:Φ x):Tl (getC o) Φ:=Zae (by rw [e];rfl) h
def w_c{x:D}(h:Φ x):Tl (c x ρ) Φ:=ZaL h
def w_o1{f:D->Res D}(h:Tl (a ρ) λx=>Tl (f x) Φ):Tl (o1 f a ρ) Φ:=Zao h
def w_o2{f:D->D->Res D}(h:Tl (a ρ) λx=>Tl (b ρ) λy=>Tl (f x y) Φ):Tl (o2 f a b ρ) Φ:=Zao (h.mono λ_ q=>Zao q)
def w_on{f:List D->Res D}(h:Tl (m ρ) λxs=>Tl (f xs) Φ):Tl (on f m ρ) Φ:=Zao h
def Zxg(h:Tl (m ρ) λxs=>Φ (.tup xs)):Tl (mtp m ρ) Φ:=Zao (h.mono λ_ q=>ZaL q)
def Zwj(h:Tl (m ρ) λxs=>Φ (.lst xs)):Tl (mls m ρ) Φ:=Zao (h.mono λ_ q=>ZaL q)
def Zui(h:Tl (trb a ρ) λx=>Tl (if x=true then b ρ else .ok (.bl false)) Φ):Tl (eAnd a b ρ) Φ:=Zao h
def Zu3(h:Tl (trb a ρ) λx=>Φ (.bl (!x))):Tl (eNot a ρ) Φ:=Zao (h.mono λ_ q=>ZaL q)
def Zxv(h:Tl (t ρ) λx=>Tl (if x=true then a ρ else b ρ) Φ):Tl (ife t a b ρ) Φ:=Zao h
def Ztf{f g:D->D->Res D}(h:Tl (a ρ) λx=>Tl (b ρ) λy=>Tl (f x y) λz=>Tl (tru z) λk=>Tl (if k=true then (d ρ).bind λu=>g y u else .ok (.bl false)) Φ):Tl (chain f g a b d ρ) Φ :=
 Zao (h.mono λ_ q=>Zao (q.mono λ_ q=>Zao (q.mono λ_ q=>Zao q)))
def ZxF{lo hi:Ev->Res (Option Int)}(h:Tl (a ρ) λx=>Tl (lo ρ) λl=>Tl (hi ρ) λu=>Tl (dCut x l u) Φ):Tl (cut a lo hi ρ) Φ:=Zao (h.mono λ_ q=>Zao (q.mono λ_ q=>Zao q))
def ZjS{it:MI}{own:Nat}{cap:01}{g:MG}{e:ME}(h:Tl (it ρ) λxs=>xs.length<=1000000/\Tl (Zaz g t e (noA own (ybu ρ cap)) xs) λys=>Φ (.lst ys)):Tl (comp it own cap g t e ρ) Φ:=by
 refine Zao (h.mono λxs q=>?_);rw [iP (show xs.length<=LIM from q.1)];obtain ⟨ys,a,b⟩:=q.2;rw [a];exact ZaL b
def w_fn{k:MS}{ds:List D}(h:Tl (k (ev0 n ds)) λf=>Tl (endOf f) Φ):Tl (fn n k ds) Φ:=Zao h
def Zv5{x y:Int}(h:Φ (.int (x+y))):Tl (yaT (.int x) (.int y)) Φ:=ZaL h
def Zgx{x y:List D}(hl:x.length+y.length<=1000000)(h:Φ (.lst (x++y))):Tl (yaT (.lst x) (.lst y)) Φ:=Zae (ZpY hl) h
def w_sub{x y:Int}(h:Φ (.int (x - y))):Tl (dSub (.int x) (.int y)) Φ:=ZaL h
def w_mul{x y:Int}(hm:Zhl x y=true)(h:Φ (.int (x*y))):Tl (ydb (.int x) (.int y)) Φ:=Zae (Ztt hm) h
def w_mod{x y:Int}(hy:0<y)(h:Φ (.int (x%y))):Tl (yb5 (.int x) (.int y)) Φ:=Zae (ZoV hy) h
def w_div{x y:Int}(hy:0<y)(hl:y.natAbs.log2<9000)(h:Φ (.int (x/y))):Tl (ydi (.int x) (.int y)) Φ:=Zae (Zqj hy hl) h
def w_pow{x y:Int}(h0:0<=y)(h1:y<=1000000)(h2:x.natAbs<2^64)(h:Φ (.int (x^y.toNat))):Tl (dPow (.int x) (.int y)) Φ:=Zae (ZtS h0 h1 h2) h
def w_shl{x y:Int}(h0:0<=y)(h1:y<=1000000)(h2:x.natAbs<2^64)(h:Φ (.int (x*2^y.toNat))):Tl (dShl (.int x) (.int y)) Φ:=Zae (ZsR h0 h1 h2) h
def w_shr{x y:Int}(h0:0<=y)(h:Φ (.int (x/2^y.toNat))):Tl (dShr (.int x) (.int y)) Φ:=Zae (ZsU h0) h
def Zw6{x:Int}(h:Φ (.int (-x))):Tl (dNeg (.int x)) Φ:=ZaL h
def w_lt{x y:Int}(h:Φ (.bl (decide (x<y)))):Tl (dLt (.int x) (.int y)) Φ:=ZaL h
def w_le{x y:Int}(h:Φ (.bl (decide (x<=y)))):Tl (dLe (.int x) (.int y)) Φ:=ZaL h
def w_gt{x y:Int}(h:Φ (.bl (decide (y<x)))):Tl (dGt (.int x) (.int y)) Φ:=ZaL h
def w_ge{x y:Int}(h:Φ (.bl (decide (y<=x)))):Tl (dGe (.int x) (.int y)) Φ:=ZaL h
def ZxC{x y:Int}(h:Φ (.bl (decide (x=y)))):Tl (dEq (.int x) (.int y)) Φ:=Zae (ZrI x y) h
def ZxE{x y:Int}(h:Φ (.bl (!decide (x=y)))):Tl (dNe (.int x) (.int y)) Φ:=Zae (ZtM x y) h
def Zx4{x:D}(h:Φ (.bl (ZkF x))):Tl (dIsN x) Φ:=ZaL h
def ZuG{x:D}(h:Φ (.bl (!ZkF x))):Tl (Zmu x) Φ:=ZaL h
def Zv2{xs:List D}(h:Φ (.int xs.length)):Tl (bLen [.lst xs]) Φ:=ZaL h
def ZwJ{xs:List D}(h:Φ (.int xs.length)):Tl (bLen [.tup xs]) Φ:=ZaL h
def Zsr{ns:List Int}(h:Φ (.int ns.length)):Tl (bLen [.tup (ns.map .int)]) Φ:=Zae (by rw [ZpW,VaX]) h
def ZsO{ns:List Int}(h:Φ (.int ns.length)):Tl (bLen [.lst (ns.map .int)]) Φ:=Zae (by rw [Zqv,VaX]) h
def Zw5{x:Int}(h:Φ (.int x.natAbs)):Tl (bAbs [.int x]) Φ:=Zae (ZqF x) h
def ZxU{x y:Int}(h:Φ (.int (max x y))):Tl (bMax [.int x,.int y]) Φ:=Zae (Zqs x y) h
def Zq2{xs:List D}(h:Φ (.tup xs)):Tl (bTup [.lst xs]) Φ:=ZaL h
def Zvr{xs:List D}(h:Φ (.lst xs)):Tl (bLst [.lst xs]) Φ:=ZaL h
def ZvE{xs:List D}(h:Φ (.lst xs)):Tl (bLst [.tup xs]) Φ:=ZaL h
def Zwd{xs:List D}{lo hi:Option Int}(h:Φ (.lst (cutL xs lo hi))):Tl (dCut (.lst xs) lo hi) Φ:=ZaL h
def ZuL{xs:List D}{lo hi:Option Int}(h:Φ (.tup (cutL xs lo hi))):Tl (dCut (.tup xs) lo hi) Φ:=ZaL h
end
section
variable{Φ:Bool->Prop} {a:ME} {s t:MB}
def Zw9(h:Tl (a ρ) λx=>Tl (tru x) Φ):Tl (trb a ρ) Φ:=Zao h
def Zxm{b:Bool}(h:Φ b):Tl (tru (.bl b)) Φ:=ZaL h
def Zve(h:Tl (s ρ) λx=>Tl (if x=true then t ρ else .ok false) Φ):Tl (bAnd s t ρ) Φ:=Zao h
def ZxO(h:Tl (s ρ) λx=>Tl (if x=true then .ok true else t ρ) Φ):Tl (bOr s t ρ) Φ:=Zao h
def ZuI(h:Tl (s ρ) λx=>Φ (!x)):Tl (bNot s ρ) Φ:=Zao (h.mono λ_ q=>ZaL q)
def Zw4(h:Φ true):Tl (yes ρ) Φ:=ZaL h
end
section
variable{Φ:List D->Prop} {a:ME} {m:MA}
def Zdj(h:Φ []):Tl (yaa ρ) Φ:=ZaL h
def Za3(h:Tl (a ρ) λx=>Tl (m ρ) λxs=>Φ (x::xs)):Tl (Zaa a m ρ) Φ:=Zao (h.mono λ_ q=>Zao (q.mono λ_ q=>ZaL q))
def w_iv(h:Tl (a ρ) λx=>Tl (items x) Φ):Tl (iv a ρ) Φ:=Zao h
def Zxj{xs:List D}(h:Φ xs):Tl (items (.lst xs)) Φ:=ZaL h
def ZwW{xs:List D}(h:Φ xs):Tl (items (.tup xs)) Φ:=ZaL h
def w_r1(h:Tl (m ρ) λxs=>Tl (rng1 xs) Φ):Tl (r1 m ρ) Φ:=Zao h
def w_r2(h:Tl (m ρ) λxs=>Tl (rng2 xs) Φ):Tl (r2 m ρ) Φ:=Zao h
def Zrr{j:Int}(h0:-1000000000<=j/\j<=1000000000)(h:Φ (Za5 0 j.toNat)):Tl (rng1 [.int j]) Φ:=Zae (Zr0 h0.1 h0.2) h
end
section
variable{Φ:Option Int->Prop} {a:ME}
def Zw8(h:Φ none):Tl (pno ρ) Φ:=ZaL h
def Zxk(h:Tl (a ρ) λx=>Tl (optI x) Φ):Tl (pso a ρ) Φ:=Zao h
def Zue{i:Int}(h:Φ (some i)):Tl (optI (.int i)) Φ:=ZaL h
end
section
variable{Φ:Ev->Prop} {x:D}
def w_gN(h:Φ (ρ.set i (.im x))):Tl (gN i x ρ) Φ:=ZaL h
def Zxs(h:Φ ρ):Tl (gs0 [] ρ) Φ:=ZaL h
def Zxc{g:MG}{r:MGs}{ds:List D}(h:Tl (g x ρ) λρ'=>Tl (r ds ρ') Φ):Tl (gs1 g r (x::ds) ρ) Φ:=Zao h
def Zxa{g:MGs}{xs:List D}(hl:xs.length=n)(h:Tl (g xs ρ) Φ):Tl (gU n g (.tup xs) ρ) Φ:=by
 show Tl (if xs.length=n then g xs ρ else .bad) Φ
 rw [iP hl];exact h
end
section
variable{Φ:Fl->Prop} {a b:ME} {k l:MS} {t:MB}
def w_sq(h:Tl (k ρ) λf=>Tl (goOn l f) Φ):Tl (sq k l ρ) Φ:=Zao h
def w_gx(h:Tl (l ρ) Φ):Tl (goOn l (.nx ρ)) Φ:=h
def w_gr{x:D}(h:Φ (.rt x)):Tl (goOn l (.rt x)) Φ:=ZaL h
def w_st(h:Tl (a ρ) λx=>Φ (.nx (ρ.set i (.im x)))):Tl (st i a ρ) Φ:=Zao (h.mono λ_ q=>ZaL q)
def ZlU(h:Tl (a ρ) λx=>Φ (.rt x)):Tl (ret a ρ) Φ:=Zao (h.mono λ_ q=>ZaL q)
def Zvo(h:Φ (.nx ρ)):Tl (nop ρ) Φ:=ZaL h
def Zop(h:Tl (a ρ) λ_=>Φ (.nx ρ)):Tl (drp a ρ) Φ:=Zao (h.mono λ_ q=>ZaL q)
def Zxe{g:MG}(h:Tl (a ρ) λx=>Tl (g x ρ) λρ'=>Φ (.nx ρ')):Tl (asg g a ρ) Φ:=Zao (h.mono λ_ q=>Zao (q.mono λ_ q=>ZaL q))
def Zxl(h:Tl (a ρ) λx=>Tl (b ρ) λy=>Φ (.nx ((ρ.set i (.im x)).set j (.im y)))):Tl (par i j a b ρ) Φ:=Zao (h.mono λ_ q=>Zao (q.mono λ_ q=>ZaL q))
def Zwb(h:Tl (t ρ) λx=>Tl (if x=true then k ρ else l ρ) Φ):Tl (ifs t k l ρ) Φ:=Zao h
def Zqb{it:MI}{g:MG}(h:Tl (it ρ) λxs=>Tl (ZbJ g k xs ρ) Φ):Tl (for_ it g k ρ) Φ:=Zao h
def Zxf{fu:Ev->Nat}(h:Tl (whGo t k (fu ρ) ρ) Φ):Tl (whl fu t k ρ) Φ:=h
def ZwS(h:Tl (a ρ) λx=>Tl (lstO x) λxs=>Φ (.nx (ρ.set i (.ow xs)))):Tl (stO i a ρ) Φ:=Zao (h.mono λ_ q=>Zao (q.mono λ_ q=>ZaL q))
def Zwx{Ψ:List D->Prop}{xs:List D}(h:Ψ xs):Tl (lstO (.lst xs)) Ψ:=ZaL h
def Zuc(h:Tl (getO ρ[i]?) λxs=>Tl (k (ρ.set i (.im (.lst xs)))) Φ):Tl (frz i k ρ) Φ:=Zao h
def Zwi(h:Tl (getO ρ[i]?) λxs=>Tl (a ρ) λd=>xs.length<1000000/\Φ (.nx (ρ.set i (.ow (xs++[d]))))):Tl (app i a ρ) Φ:=by
 refine Zao (h.mono λxs q=>Zao (q.mono λd q=>?_));rw [iP (show xs.length<LIM from q.1)];exact ZaL q.2
def w_gO{Ψ:List D->Prop}{o:Option Cl}{xs:List D}(e:o=some (.ow xs))(h:Ψ xs):Tl (getO o) Ψ:=Zae (by rw [e];rfl) h
def w_eR{Ψ:D->Prop}{x:D}(h:Ψ x):Tl (endOf (.rt x)) Ψ:=ZaL h
def w_eN{Ψ:D->Prop}(h:Ψ .non):Tl (endOf (.nx ρ)) Ψ:=ZaL h
def w_tx(h:Tl (k ρ) Φ):Tl (turn k (.nx ρ)) Φ:=h
def w_tr{x:D}(h:Φ (.rt x)):Tl (turn k (.rt x)) Φ:=ZaL h
def w_f0{g:MG}(h:Φ (.nx ρ)):Tl (ZbJ g k [] ρ) Φ:=ZaL h
def w_f1{g:MG}{x:D}{r:List D}(h:Tl (g x ρ) λρ1=>Tl (k ρ1) λf=>Tl (turn (ZbJ g k r) f) Φ):Tl (ZbJ g k (x::r) ρ) Φ:=Zao (h.mono λ_ q=>Zao q)
def ZwR{g:MG}{xs:List D}(I:Ev->Prop)(h0:I ρ)(h:∀x∈xs,∀ρ,I ρ->Tl (g x ρ) λρ1=>Tl (k ρ1) λf=>∃ρ2,f=.nx ρ2/\I ρ2)(hd:∀ρ,I ρ->Φ (.nx ρ)):Tl (ZbJ g k xs ρ) Φ:=by
 obtain ⟨a,e,i⟩:=ZtF (g:=g) (b:=k) I xs (λx d ρ i=>by
  obtain ⟨ρ1,j,f,l,ρ2,rfl,c⟩:=h x d ρ i
  exact ⟨ρ1,ρ2,j,l,c⟩) ρ h0
 exact ⟨_,e,hd a i⟩
def ZqM{g:MG}{xs:List D}(I:List D->Ev->Prop)(h0:I [] ρ)(h:∀p x r,xs=p++x::r->∀ρ,I p ρ->Tl (g x ρ) λρ1=>Tl (k ρ1) λf=>∃ρ2,f=.nx ρ2/\I (p++[x]) ρ2)(hd:∀ρ,I xs ρ->Φ (.nx ρ)):Tl (ZbJ g k xs ρ) Φ:=by
 obtain ⟨a,e,i⟩:=Zgs (g:=g) (b:=k) I xs [] (λp x r d ρ i=>by
  obtain ⟨ρ1,j,f,l,ρ2,rfl,c⟩:=h p x r d ρ i
  exact ⟨ρ1,ρ2,j,l,c⟩) ρ h0
 exact ⟨_,e,hd a i⟩
def w_wh{n:Nat}(I:Ev->Prop)(μ:Ev->Nat)(h0:I ρ)(hm:μ ρ<n)(h:∀ρ,I ρ->Tl (t ρ) λb=>(b=true->Tl (k ρ) λf=>∃ρ2,f=.nx ρ2/\I ρ2/\μ ρ2<μ ρ)/\(b=false->Φ (.nx ρ))):Tl (whGo t k n ρ) Φ:=by
 induction n generalizing ρ with
 | zero=>exact aB hm (Nat.not_lt_zero _)
 | succ n ih=>
  rw [ZnH];obtain ⟨b,e,q⟩:=h ρ h0;rw [e];cases b with
  | true=>
   obtain ⟨f,c,ρ2,rfl,a,d⟩:=q.1 rfl;show Tl ((k ρ).bind (turn (whGo t k n))) Φ;rw [c];exact ih a 000
  | false=>exact ZaL (q.2 rfl)
def Zk4:∀{ns ms:List Int},ns.map D.int=ms.map D.int->ns=ms
 | [],[],_=>rfl
 | [],_::_,h=>by cases h
 | _::_,[],h=>by cases h
 | n::r,m::s,h=>by
  have a:D.int n=D.int m/\r.map D.int=s.map D.int:=by simpa using h
  rw [Zk4 a.2];cases a.1;rfl
end
def ZbX{α:Type}{Φ:List D->Prop}{g:MG}{e:ME}{ρ:Ev}{enc:α->D}(f:α->D):∀{l:List α},(∀a∈l,Tl (g (enc a) ρ) λρ1=>Tl (e ρ1) λy=>y=f a)->Φ (l.map f)->Tl (Zaz g yes e ρ (l.map enc)) Φ:=by
 intro l h q;have c:∀l:List α,(∀a∈l,Tl (g (enc a) ρ) λρ1=>Tl (e ρ1) λy=>y=f a)->Zaz g yes e ρ (l.map enc)=.ok (l.map f):=by
  intro l
  induction l with
  | nil=>exact λ_=>rfl
  | cons a r ih=>
   intro h;obtain ⟨ρ1,d,y,i,rfl⟩:=h a Vaq;have z:=ih λb j=>h b (Var _ j);rw [VaW,ZgN,d,ZaH];unfold yes at z ⊢;rw [ZaH,iP rfl,i,ZaH,z];rfl
 exact Zae (c l h) q
def w_all{Φ:List D->Prop}{g:MG}{e:ME}{ρ:Ev}{xs:List D}(P:D->D->Prop)(h:∀x∈xs,Tl (g x ρ) λρ1=>Tl (e ρ1) λy=>P x y)(q:∀ys:List D,ys.length=xs.length->(∀(i:Nat) x y,xs[i]?=some x->ys[i]?=some y->P x y)->Φ ys):Tl (Zaz g yes e ρ xs) Φ:=by
 obtain ⟨ys,b,l,a⟩:=Zlu (g:=g) (e:=e) (ρ:=ρ) P xs λx c=>by
  obtain ⟨ρ1,b,y,d,a⟩:=h x c;exact ⟨ρ1,y,b,d,a⟩
 exact ⟨ys,b,q ys l a⟩
section
variable{Φ:D->Prop}
def Zx0{x y:D}(h:Tl (dIx x y) Φ):Tl (dIx x y) Φ:=h
def ZxH{xs:List D}(h:Tl (bIsi xs) Φ):Tl (bIsi xs) Φ:=h
def Zwa{α:Type}{xs:List α}{i:Nat}:at_ xs (i:Int)=xs[i]?:=by
 unfold at_;rw [iP (Int.natCast_nonneg i),Vcj]
def Zn5{xs:List D}{i:Int}(h:0<=i/\i<xs.length)(q:∀x∈xs,Φ x):Tl (dIx (.lst xs) (.int i)) Φ:=by
 obtain ⟨n,rfl⟩:=Int.eq_ofNat_of_zero_le h.1;have a:n<xs.length:=by omega
 rw [Zn7,Zwa,VbL a];exact ZaL (q _ (VbU a))
def ZxR{ns:List Int}{i:Int}(h:-(ns.length:Int)<=i/\i<ns.length)(q:∀n∈ns,Φ (.int n)):Tl (dIx (.lst (ns.map .int)) (.int i)) Φ:=by
 rw [Zn7];unfold at_;rw [VaX];by_cases h0:0<=i
 ·have a:i.toNat<ns.length:=by omega
  rw [iP h0,Vbd,VbL a];exact ZaL (q _ (VbU a))
 ·have a:(i+ns.length).toNat<ns.length:=by omega
  rw [iN h0,iP h.1,Vbd,VbL a];exact ZaL (q _ (VbU a))
end
def ZiP(i:Nat)(ρ:Ev):Nat:=((ρ[i]?).map absC).getD 0
def ZfP:∀(ρ:Ev) (i:Nat),ZiP i ρ<fuel ρ
 | [],i=>by simp [ZiP,fuel]
 | c::r,0=>by simp [ZiP,fuel];omega
 | c::r,i+1=>by
  have:=ZfP r i;simp [ZiP,fuel] at this ⊢;omega
section
variable{α β:Type}{c:Str} {k l:MS} {m:MA}
def Zfx{r:Res β}{f:β->Res α}(h:Tl r λx=>f x=.ex c):r.bind f=.ex c:=by
 obtain ⟨x,rfl,e⟩:=h;exact e
def Zbg{r:Res β}{f:β->Res α}(h:r=.ex c):r.bind f=.ex c:=by rw [h];rfl
def x_fn{ds:List D}(h:k (ev0 n ds)=.ex c):fn n k ds=.ex c:=Zbg h
def ZbV(h:k ρ=.ex c):sq k l ρ=.ex c:=Zbg h
def Zbz(h:Tl (k ρ) λf=>goOn l f=.ex c):sq k l ρ=.ex c:=Zfx h
def x_gx(h:l ρ=.ex c):goOn l (.nx ρ)=.ex c:=h
def ZcO{t:MB}(h:Tl (t ρ) λx=>(if x=true then k ρ else l ρ)=.ex c):ifs t k l ρ=.ex c:=Zfx h
def ZoI(h:Tl (m ρ) λ_=>True):rse c m ρ=.ex c:=Zfx (h.mono λ_ _=>rfl)
def x_T{P:Prop} [Decidable P] {A B:Res α} (hc:P) (h:A=.ex c):(if decide P=true then A else B)=.ex c:=by rw [iP (Vbr hc)];exact h
def ZtD{it:MI}{g:MG}(h:Tl (it ρ) λxs=>ZbJ g k xs ρ=.ex c):for_ it g k ρ=.ex c:=Zfx h
def x_f1{g:MG}{x:D}{r:List D}(h:Tl (g x ρ) λρ1=>k ρ1=.ex c):ZbJ g k (x::r) ρ=.ex c:=Zfx (h.mono λ_ q=>Zbg q)
def x_f2{g:MG}{x:D}{r:List D}(h:Tl (g x ρ) λρ1=>Tl (k ρ1) λf=>turn (ZbJ g k r) f=.ex c):ZbJ g k (x::r) ρ=.ex c:=Zfx (h.mono λ_ q=>Zfx q)
def Zwp{Φ:Fl->Prop}{f:List D->Res D}{hits:List Str}{b:MS}(h:Tl (m ρ) λds=>f ds=.ex c/\hits.contains (clsOf c)=true/\Tl (b (ρ.set i (.im (.exc c)))) λfl=>Tl (endT i (.ok fl)) Φ):Tl (try_ f m hits i b ρ) Φ:=by
 obtain ⟨ds,d,e,a,fl,g,h⟩:=h;show Tl ((noEx (m ρ)).bind λds=>ZhH hits i b ρ (f ds)) Φ;rw [d];show Tl (ZhH hits i b ρ (f ds)) Φ;rw [e];show Tl (if hits.contains (clsOf c)=true then endT i (b (ρ.set i (.im (.exc c)))) else .bad) Φ
 rw [iP a,g];exact h
def Zuv{Φ:Fl->Prop}{f:List D->Res D}{hits:List Str}{b:MS}(h:Tl (m ρ) λds=>Tl (f ds) λ_=>Φ (.nx ρ)):Tl (try_ f m hits i b ρ) Φ:=by
 obtain ⟨ds,a,d,c,h⟩:=h;show Tl ((noEx (m ρ)).bind λds=>ZhH hits i b ρ (f ds)) Φ;rw [a];show Tl (ZhH hits i b ρ (f ds)) Φ;rw [c];exact ZaL h
def ZvB{Φ:Fl->Prop}(h:Φ (.nx (ρ.set i .no))):Tl (endT i (.ok (.nx ρ))) Φ:=ZaL h
end
section
variable{Φ:D->Prop}
def ZwT{Ψ:Bool->Prop}{m:MB}(h:Tl (getO ρ[i]?) λxs=>Tl (m (ρ.set i (.im (.lst xs)))) Ψ):Tl (pkB i m ρ) Ψ:=Zao h
def ints_map:∀ns:List Int,Zen (ns.map .int)=.ok ns
 | []=>rfl
 | n::r=>by show (Zen (r.map .int)).bind _=_;rw [ints_map r];rfl
def Zwv{n:Int}{r:List Int}(h:Φ (.int (r.foldl max n))):Tl (ZjN [.lst ((n::r).map .int)]) Φ:=by
 refine Zae (x:=.int (r.foldl max n)) ?_ h;show (Zen ((n::r).map .int)).bind maxI=_;rw [ints_map];rfl
def Zvg{n:Int}{r:List Int}(h:Φ (.int (r.foldl min n))):Tl (Zjy [.lst ((n::r).map .int)]) Φ:=by
 refine Zae (x:=.int (r.foldl min n)) ?_ h;show (Zen ((n::r).map .int)).bind minI=_;rw [ints_map];rfl
def Zw1{x:D}{ys:List D}(h1:plain 50 x=true)(h2:ZaR 50 ys=true)(h:Φ (.bl (inD x ys))):Tl (dIn x (.lst ys)) Φ:=by
 refine Zae (x:=.bl (inD x ys)) ?_ h;show (if (plain 50 x&&ZaR 50 ys)=true then Res.ok (D.bl (inD x ys)) else .bad)=_
 rw [h1,h2];rfl
end
end Dl
namespace Mt
def gcdL(g:Nat):List Int->Nat
 | []=>g
 | x::r=>gcdL (Nat.gcd g x.natAbs) r
def Zpt(a b:Nat):Nat.gcd b (a%b)=Nat.gcd a b:=by
 rw [Nat.gcd_comm a b,Nat.gcd_rec b a,Nat.gcd_comm]
def ZmQ(a b:Int):Int.gcd b (a%b)=Int.gcd a b:=by
 have e:=Int.gcd_add_mul_left_left b (a%b) (a/b);rw [Int.emod_add_mul_ediv] at e;rw [Int.gcd_comm b,e]
end Mt
end
end
local macro_rules|`(tactic|ac_rfl)=>`(tactic|first|lia|omega)
local macro_rules | `(tactic| walk_at "sm")=>`(tactic| first | assumption | exact Dl.Sm.of64 (by ac_rfl) (by ac_rfl) | exact Dl.Sm.mul (by walk_at "sm") (by walk_at "sm") | exact Dl.Sm.add (by walk_at "sm") (by walk_at "sm") | exact Dl.Sm.sub (by walk_at "sm") (by walk_at "sm") | exact Dl.Sm.neg (by walk_at "sm") | exact Dl.Sm.min (by walk_at "sm") (by walk_at "sm") | exact Dl.Sm.max (by walk_at "sm") (by walk_at "sm"))
local macro_rules | `(tactic| walk_at "mo")=>`(tactic| first | assumption | exact Dl.Zs7 (Dl.Sm.of64 (by ac_rfl) (by ac_rfl)) | exact Dl.ZsF (Dl.Sm.of64 (by ac_rfl) (by ac_rfl)) | exact Dl.mulOk_s (by walk_at "sm") (by walk_at "sm") (by decide))
local macro_rules | `(tactic| walk_at "lg")=>`(tactic| first | assumption | decide | exact Dl.Sm.log (by walk_at "sm") (by decide))
local macro_rules | `(tactic| walk_at "w1")=>`(tactic| first
 | ((with_reducible refine Dl.w_v' ?_);refine Dl.w_gC rfl ?_) |(with_reducible first |refine Dl.w_o2 ?_ |refine Dl.w_c ?_ |refine Dl.w_on ?_ |refine Dl.Za3 ?_ |refine Dl.Zdj ?_ |refine Dl.w_sq ?_ |refine Dl.w_gx ?_ |refine Dl.w_st ?_ |refine Dl.Zwb ?_ |refine Dl.Zw9 ?_ |refine Dl.Zxm ?_) 
 | with_reducible refine Dl.Zv5 ?_ | with_reducible refine Dl.w_sub ?_ | ((with_reducible refine Dl.w_mul ?_ ?_);walk_at "mo") | ((with_reducible refine Dl.w_mod ?_ ?_);(first | decide | ac_rfl)) | ((with_reducible refine Dl.w_div ?_ ?_ ?_);(first | decide | ac_rfl);walk_at "lg")
 |(with_reducible first |refine Dl.w_lt ?_ |refine Dl.w_le ?_ |refine Dl.w_gt ?_ |refine Dl.w_ge ?_ |refine Dl.ZxC ?_ |refine Dl.ZxE ?_ |refine Dl.Zve ?_ |refine Dl.ZxO ?_ |refine Dl.ZuI ?_) 
 |(with_reducible first |refine Dl.ZlU ?_ |refine Dl.w_gr ?_ |refine Dl.w_eR ?_ |refine Dl.Zvo ?_ |refine Dl.Zxg ?_ |refine Dl.Zwj ?_ |refine Dl.w_fn ?_ |refine Dl.w_o1 ?_ |refine Dl.Zui ?_ |refine Dl.w_eOr ?_ |refine Dl.Zu3 ?_ |refine Dl.Zxv ?_ |refine Dl.Ztf ?_) 
 |(with_reducible first |refine Dl.Zsr ?_ |refine Dl.ZsO ?_ |refine Dl.Zv2 ?_ |refine Dl.ZwJ ?_ |refine Dl.Zw5 ?_ |refine Dl.ZxU ?_ |refine Dl.w_min ?_ |refine Dl.Zq2 ?_ |refine Dl.w_tupT ?_ |refine Dl.Zvr ?_ |refine Dl.ZvE ?_ |refine Dl.Zw6 ?_) 
 |(with_reducible first |refine Dl.ZxF ?_ |refine Dl.Zw8 ?_ |refine Dl.Zxk ?_ |refine Dl.Zue ?_ |refine Dl.Zwd ?_ |refine Dl.ZuL ?_ |refine Dl.w_iv ?_ |refine Dl.Zxj ?_ |refine Dl.ZwW ?_ |refine Dl.w_r1 ?_) | ((with_reducible refine Dl.Zrr ?_ ?_);ac_rfl) |(with_reducible first |refine Dl.w_gN ?_ |refine Dl.Zxs ?_ |refine Dl.Zxc ?_) 
 | ((with_reducible refine Dl.Zxa ?_ ?_);exact rfl) | ((with_reducible refine Dl.w_gUL ?_ ?_);exact rfl) |(with_reducible first |refine Dl.Zop ?_ |refine Dl.Zxe ?_ |refine Dl.Zxl ?_ |refine Dl.Zqb ?_ |refine Dl.Zxf ?_ |refine Dl.w_zip ?_ |refine Dl.w_zip2 ?_ |refine Dl.w_zipTL ?_ |refine Dl.w_zipLT ?_ |refine Dl.w_zipTT ?_ |refine Dl.w_iz3 ?_ |refine Dl.w_zip3T ?_ |refine Dl.w_lz3T ?_ |refine Dl.w_mLst ?_ |refine Dl.w_enum ?_ |refine Dl.w_enum1 ?_ |refine Dl.ZjS ?_) 
 |(with_reducible first |refine Dl.w_retN ?_ |refine Dl.w_eN ?_ |refine Dl.w_brk ?_ |refine Dl.w_cnt ?_ |refine Dl.w_gb ?_ |refine Dl.w_gc ?_ |refine Dl.Zx4 ?_ |refine Dl.ZuG ?_ |refine Dl.w_p6 ?_ |refine Dl.w_p8 ?_ |refine Dl.w_p20 ?_) | ((with_reducible refine Dl.w_pow ?_ ?_ ?_ ?_);decide;decide;decide) | ((with_reducible refine Dl.w_shl ?_ ?_ ?_ ?_);decide;decide;decide) | ((with_reducible refine Dl.w_shr ?_ ?_);ac_rfl) | with_reducible refine Dl.Zw4 ?_
 |(with_reducible first |refine Dl.w_tx ?_ |refine Dl.w_tc ?_ |refine Dl.w_tb ?_ |refine Dl.w_tr ?_ |refine Dl.w_max3 ?_ |refine Dl.w_sum ?_ |refine Dl.w_rev ?_) | ((with_reducible refine Dl.ZwT ?_);refine Dl.w_gO rfl ?_) | ((with_reducible refine Dl.w_pk ?_);refine Dl.w_gO rfl ?_) |(with_reducible first |refine Dl.w_scI ?_ |refine Dl.w_scB ?_ |refine Dl.ZvB ?_ |refine Dl.ZwS ?_ |refine Dl.Zwx ?_) | ((with_reducible refine Dl.Zuc ?_);refine Dl.w_gO rfl ?_) | ((with_reducible refine Dl.Zwi ?_);refine Dl.w_gO rfl ?_) | ((with_reducible refine Dl.Zx0 ?_);refine Dl.Zae rfl ?_) | ((with_reducible refine Dl.ZxH ?_);refine Dl.Zae rfl ?_) | ((with_reducible refine Dl.w_lenr ?_);refine Dl.Zae rfl ?_) | with_reducible refine Dl.ZaL ?_ | with_reducible refine Dl.Zao ?_)
local macro_rules | `(tactic| walk_at "wi")=>`(tactic| first | ((with_reducible refine Dl.ZoD ?_ ?_);exact rfl) | ((with_reducible refine Dl.Zoa ?_ ?_);exact rfl) | ((with_reducible refine Dl.w_dT ?_ ?_);first | assumption | ac_rfl) | ((with_reducible refine Dl.w_dF ?_ ?_);first | assumption | ac_rfl) | ((with_reducible refine Dl.w_nT ?_ ?_);first | assumption | ac_rfl) | ((with_reducible refine Dl.w_nF ?_ ?_);first | assumption | ac_rfl))
local macro_rules | `(tactic| walk_at "wr")=>`(tactic| (refine Dl.Zae rfl ?_))
local macro_rules | `(tactic| walk_at "w")=>`(tactic| (repeat (first | walk_at "w1" | walk_at "wi"));try dsimp only [List.set_cons_zero,List.set_cons_succ,Dl.ev0,Dl.evF,Dl.noA,Dl.ybu,Dl.imOf,List.getElem?_cons_zero,List.getElem?_cons_succ,Nat.reduceAdd,Nat.reduceSub])
local macro_rules | `(tactic| symm)=>`(tactic| walk_at "w")
namespace My
open PySem Dl
def tabC:List (Str×Str×Bool):=[("BadFloor","NoRow",false),("BadPattern","NoRow",false),("BadThing","NoRow",false),("BadTriangle","NoRow",false),("NoRow","NoRow",true)]
def tabT:List (Str×String×Bool):=[]
def objs:List Str:=["Plain","Shaded","Patterned","Glass"]
def Zby:List D->Res D:=fn 2
  (sq (ifs (trb (o2 dLt (v 1) (on bLen 07)))
  (ret (o2 dIx (v 0) (v 1)))
  nop)
  (ret 002))
def Zaw:List D->Res D:=fn 3
  (sq (ifs (bAnd (trb (o2 dGe (v 0) (o2 dShl 06 (c (.int 90))))) (bAnd (trb (o2 dEq (o2 yb5 (v 0) (c (.int 2))) 06)) (trb (o2 dGt (o2 dShr (v 0) (o2 yaT 06 (o2 ydb (c (.int 31)) (v 1)))) 002))))
  (ret (o2 yb5 (o2 dShr (v 0) (o2 yaT 06 (o2 ydb (c (.int 31)) (v 1)))) (c (.int 2147483648))))
  nop)
  (sq (st 2 (o2 yb5 (o2 ydb (o2 yaT (o2 yaT (v 0) (o2 ydb (c (.int 7919)) (v 1))) 06) (c (.int 48271))) (c (.int 2147483647))))
  (sq (st 2 (o2 yb5 (o2 ydb (v 2) (o2 yaT (o2 ydi (v 2) (c (.int 1009))) (c (.int 69621)))) (c (.int 2147483647))))
  (ret (o2 yb5 (o2 ydb (v 2) (o2 yaT (o2 yaT (o2 ydi (v 2) (c (.int 2003))) (c (.int 39373))) (v 1))) (c (.int 2147483629)))))))
def Zbw:List D->Res D:=fn 9
  (sq (st 2 (mls (Zaa (c (.str " / ")) (Zaa (c (.str "0 0 1 1")) (Zaa (c (.str "plain")) (Zaa (c (.str "glass")) (Zaa (c (.str "shaded")) (Zaa (c (.str "patterned")) (Zaa (c (.str "floor 3 3")) (Zaa (c (.str "ground 2")) (Zaa (c (.str "spots 4,4")) yaa)))))))))))
  (sq (st 2 (o2 yaT (v 2) (mls (Zaa (c (.str "1/2")) (Zaa (c (.str ",1")) (Zaa (c (.str ";1,1")) (Zaa (c (.str " 1")) (Zaa (c (.str "-")) (Zaa (c (.str "1 1 1")) yaa)))))))))
  (sq (for_ (r1 (Zaa (o2 yb5 (on Zaw (Zaa (v 1) (Zaa (c (.int 20)) yaa))) (c (.int 6))) yaa)) (gN 3)
  (sq (st 4 (o2 yb5 (on Zaw (Zaa (v 1) (Zaa (o2 yaT (c (.int 21)) (o2 ydb (c (.int 3)) (v 3))) yaa))) (o2 yaT (on Zh3 07) 06)))
  (sq (st 5 (on Zaw (Zaa (v 1) (Zaa (o2 yaT (c (.int 22)) (o2 ydb (c (.int 3)) (v 3))) yaa))))
  (sq (st 6 (o2 dIxT (c (.str "0123456789-/,; \nplgx")) (o2 yb5 (o2 ydi (v 5) (c (.int 4))) (c (.int 20)))))
  (sq (asg (gU 2 (gs1 (gN 7) (gs1 (gN 8) gs0))) (o2 dIx (mls (Zaa (mtp (Zaa (v 6) (Zaa 002 yaa))) (Zaa (mtp (Zaa (c (.str "")) (Zaa 06 yaa))) (Zaa (mtp (Zaa (v 6) (Zaa 06 yaa))) (Zaa (mtp (Zaa (o2 dIx (v 2) (o2 yb5 (o2 ydi (v 5) (c (.int 4))) (c (.int 15)))) (Zaa 002 yaa))) yaa))))) (o2 yb5 (v 5) (c (.int 4)))))
  (sq (st 8 (o2 yaT (v 8) (o2 ydb (o2 ydi (o2 yb5 (on Zaw (Zaa (v 1) (Zaa (o2 yaT (c (.int 23)) (o2 ydb (c (.int 3)) (v 3))) yaa))) (c (.int 8))) (c (.int 7))) (c (.int 4)))))
  (st 0 (o2 yaT (o2 yaT (cutT (v 0) pno (pso (v 4))) (v 7)) (cutT (v 0) (pso (o2 yaT (v 4) (v 8))) pno)))))))))
  (ret (v 0)))))
def Zbu:List D->Res D:=fn 2
  (sq (whl fuel (trb (o2 dNe (v 1) 002))
  (par 0 1 (v 1) (o2 yb5 (v 0) (v 1))))
  (ret (on bAbs 07)))
def Zav:List D->Res D:=fn 2
  (sq (st 1 (v 0))
  (sq (ifs (trb (o2 dEq (cutT (v 0) pno (pso 06)) (c (.str "-"))))
  (st 1 (cutT (v 0) (pso 06) pno))
  nop)
  (sq (ifs (bOr (trb (o2 dLt (on Zh3 (Zaa (v 1) yaa)) 06)) (bOr (trb (o2 dGt (on Zh3 (Zaa (v 1) yaa)) (c (.int 30)))) (bNot (trb (on bAll (Zaa (comp (ivT (v 1)) 1 [] (gN 0) yes (o2 dInT (v 0) (c (.str "0123456789")))) yaa))))))
  (ret (c .non))
  nop)
  (sq (ifs (bAnd (trb (o2 dEq (o2 dIxT (v 1) 002) (c (.str "0")))) (trb (o2 dNe (v 0) (c (.str "0")))))
  (ret (c .non))
  nop)
  (ret (on Zkg 07))))))
def Zar:List D->Res D:=fn 2
  (sq (st 1 (comp (iv (sD Zau (v 0) (c (.str "/")))) 1 [] (gN 0) yes (on Zav 07)))
  (sq (ifs (bOr (trb (o2 dIn (c .non) (v 1))) (trb (o2 dGt (on bLen (Zaa (v 1) yaa)) (c (.int 2)))))
  (ret (c .non))
  nop)
  (sq (ifs (trb (o2 dEq (on bLen (Zaa (v 1) yaa)) 06))
  (ret (mtp (Zaa (o2 dIx (v 1) 002) (Zaa 06 yaa))))
  nop)
  (sq (ifs (bOr (trb (o2 dLt (o2 dIx (v 1) 06) (c (.int 2)))) (trb (o2 dNe (on Zbu (Zaa (o2 dIx (v 1) 002) (Zaa (o2 dIx (v 1) 06) yaa))) 06)))
  (ret (c .non))
  nop)
  (ret (mtp (Zaa (o2 dIx (v 1) 002) (Zaa (o2 dIx (v 1) 06) yaa))))))))
def Zbi:List D->Res D:=fn 4
  (sq (stO 1 (mls yaa))
  (sq (for_ (iv (v 0)) (gN 2)
  (sq (st 3 (comp (iv (sD Zau (v 2) (c (.str ",")))) 1 [] (gN 0) yes (on Zav 07)))
  (sq (ifs (pkB 1 (bOr (trb (o2 dIn (c .non) (v 3))) (bOr (trb (o2 dNe (on bLen (Zaa (v 3) yaa)) (c (.int 2)))) (bOr (bNot (trb (Zfq dLe dLe dLe 06 (on Zjy (Zaa (v 3) yaa)) (on ZjN (Zaa (v 3) yaa)) (c (.int 7))))) (trb (o2 dIn (v 3) (v 1)))))))
  (ret (c (.bl false)))
  nop)
  (app 1 (v 3)))))
  (frz 1 (ret (chain dLe dLe 06 (on bLen (Zaa (v 1) yaa)) (c (.int 16)))))))
def Zbx:List D->Res D:=fn 4
  (sq (st 1 (on bLen (Zaa (sD Zau (o2 dIx (v 0) 002) (c (.str " "))) yaa)))
  (sq (for_ (iv (v 0)) (gN 2)
  (sq (st 3 (comp (iv (sD Zau (v 2) (c (.str " ")))) 1 [] (gN 0) yes (on Zav 07)))
  (ifs (bOr (trb (o2 dIn (c .non) (v 3))) (bOr (trb (o2 dNe (on bLen (Zaa (v 3) yaa)) (v 1))) (bOr (bNot (trb (chain dLe dLe (c (.int 4)) (v 1) (c (.int 7))))) (bOr (trb (o2 dLt (o2 dIx (v 3) (c (.int 2))) 06)) (trb (o2 dLt (o2 dIx (v 3) (c (.int 3))) 06))))))
  (ret (o1 dNeg 06))
  nop)))
  (ret (o2 dSub (v 1) (c (.int 4))))))
def Za7:List D->Res D:=fn 2
  (sq (st 1 (comp (iv (sD Zau (v 0) (c (.str ";")))) 1 [] (gN 0) yes (comp (iv (sD Zau (v 0) (c (.str ",")))) 1 [] (gN 0) yes (on Zar 07))))
  (sq (ifs (bOr (trb (o2 dNin (on bLen (Zaa (v 1) yaa)) (mls (Zaa 06 (Zaa (c (.int 2)) (Zaa (c (.int 4)) (Zaa (c (.int 8)) (Zaa (c (.int 16)) yaa)))))))) (trb (o2 dNin (on bLen (Zaa (o2 dIx (v 1) 002) yaa)) (mls (Zaa 06 (Zaa (c (.int 2)) (Zaa (c (.int 4)) (Zaa (c (.int 8)) (Zaa (c (.int 16)) yaa)))))))))
  (ret (c (.bl false)))
  nop)
  (ret (on bAll (Zaa (comp (iv (v 1)) 1 [1] (gN 0) yes (eAnd (o2 dEq (on bLen 07) (on bLen (Zaa (o2 dIx (v 1) 002) yaa))) (o2 dNin (c .non) (v 0)))) yaa)))))
def Zbl:List D->Res D:=fn 5
  (sq (st 1 (sD Zau (v 0) (c (.str " / "))))
  (sq (ifs (trb (o2 dNe (on bLen (Zaa (v 1) yaa)) (c (.int 4))))
  (ret (c (.bl false)))
  nop)
  (sq (st 2 (on Zbx (Zaa (cut (v 1) (pso 06) pno) yaa)))
  (sq (st 3 (sD Zau (o2 dIx (v 1) 002) (c (.str " "))))
  (sq (ifs (trb (o2 dEq (o2 dIx (v 3) 002) (c (.str "shaded"))))
  (ret (eAnd (o2 dEq (on bLen (Zaa (v 3) yaa)) 06) (o2 dGt (v 2) 002)))
  nop)
  (sq (ifs (trb (o2 dEq (o2 dIx (v 3) 002) (c (.str "plain"))))
  (ret (eAnd (o2 dEq (on bLen (Zaa (v 3) yaa)) (c (.int 2))) (eAnd (o2 dGe (v 2) 002) (o1 Zmu (on Zar (Zaa (o2 dIx (v 3) 06) yaa))))))
  nop)
  (sq (ifs (trb (o2 dEq (o2 dIx (v 3) 002) (c (.str "patterned"))))
  (ret (eAnd (o2 dEq (on bLen (Zaa (v 3) yaa)) (c (.int 2))) (eAnd (o2 dGt (v 2) 06) (on Za7 (Zaa (o2 dIx (v 3) 06) yaa)))))
  nop)
  (sq (ifs (bOr (trb (o2 dNe (o2 dIx (v 3) 002) (c (.str "glass")))) (bOr (trb (o2 dNe (on bLen (Zaa (v 3) yaa)) (c (.int 3)))) (bOr (trb (o2 dLt (v 2) 002)) (trb (o1 dIsN (on Zar (Zaa (o2 dIx (v 3) 06) yaa)))))))
  (ret (c (.bl false)))
  nop)
  (sq (st 4 (on Zar (Zaa (o2 dIx (v 3) (c (.int 2))) yaa)))
  (ret (eAnd (o1 Zmu (v 4)) (chain dLe dLe 002 (o2 dIx (v 4) 002) (o2 dIx (v 4) 06)))))))))))))
def Zbo:List D->Res D:=fn 4
  (sq (st 2 (sD Zau (v 1) (c (.str " "))))
  (sq (ifs (trb (o2 dGt (v 0) (c (.int 2))))
  (ret (on Zbl (Zaa (v 1) yaa)))
  nop)
  (sq (ifs (trb (o2 dNe (o2 dIx (v 2) 002) (o2 dIx (mls (Zaa (c (.str "floor")) (Zaa (c (.str "ground")) (Zaa (c (.str "spots")) yaa)))) (v 0))))
  (ret (c (.bl false)))
  nop)
  (sq (ifs (trb (o2 dEq (v 0) (c (.int 2))))
  (ret (on Zbi (Zaa (cut (v 2) (pso 06) pno) yaa)))
  nop)
  (sq (ifs (trb (o2 dEq (v 0) 06))
  (ret (eAnd (o2 dEq (on bLen (Zaa (v 2) yaa)) (c (.int 2))) (o1 Zmu (on Zar (Zaa (o2 dIx (v 2) 06) yaa)))))
  nop)
  (sq (st 3 (comp (iv (cut (v 2) (pso 06) pno)) 1 [] (gN 0) yes (on Zav 07)))
  (ret (eAnd (o2 dEq (on bLen (Zaa (v 3) yaa)) (c (.int 2))) (eAnd (o2 dNin (c .non) (v 3)) (Zfq dLe dLe dLe 06 (on Zjy (Zaa (v 3) yaa)) (on ZjN (Zaa (v 3) yaa)) (c (.int 64))))))))))))
def ZeB:List D->Res D:=fn 3
  (sq (st 1 (sD Zau (v 0) (c (.str "\n"))))
  (sq (for_ (r1 (Zaa (on bMax (Zaa (c (.int 3)) (Zaa (on bLen (Zaa (v 1) yaa)) yaa))) yaa)) (gN 2)
  (ifs (bOr (trb (o2 dGe (v 2) (on bLen (Zaa (v 1) yaa)))) (bNot (trb (on Zbo (Zaa (v 2) (Zaa (o2 dIx (v 1) (v 2)) yaa))))))
  (ret (v 2))
  nop))
  (ret (c .non))))
def ZcN:List D->Res D:=fn 3
  (sq (stO 1 (mls (Zaa (o2 yaT (o2 yaT (o2 yaT (c (.str "floor ")) (on bStr (Zaa (o2 yaT 06 (o2 yb5 (on Zaw (Zaa (v 0) (Zaa 06 yaa))) (c (.int 64)))) yaa))) (c (.str " "))) (on bStr (Zaa (o2 yaT 06 (o2 yb5 (on Zaw (Zaa (v 0) (Zaa (c (.int 2)) yaa))) (c (.int 64)))) yaa))) yaa)))
  (sq (app 1 (o2 yaT (c (.str "ground ")) (o2 dIx (mls (Zaa (c (.str "0")) (Zaa (c (.str "-3")) (Zaa (c (.str "1/2")) (Zaa (c (.str "-7/9")) yaa))))) (o2 yb5 (on Zaw (Zaa (v 0) (Zaa (c (.int 3)) yaa))) (c (.int 4))))))
  (sq (app 1 (o2 yaT (c (.str "spots ")) (o2 dIx (mls (Zaa (c (.str "4,4")) (Zaa (c (.str "1,1 7,7")) (Zaa (c (.str "2,2 6,2 2,6 6,6")) yaa)))) (o2 yb5 (on Zaw (Zaa (v 0) (Zaa (c (.int 4)) yaa))) (c (.int 3))))))
  (sq (stO 2 (mls (Zaa (c (.str "plain 1/2 / 0 0 4 1 / 8 0 4 1 / 0 8 4 1")) (Zaa (c (.str "shaded / 0 0 4 1 5 / 8 0 4 1 -6 / 0 8 4 2 7")) yaa))))
  (sq (app 2 (c (.str "patterned 1,0;1/2,-3 / 0 0 4 1 5 6 / 8 0 4 1 -6 0 / 0 8 4 2 7 9")))
  (sq (app 2 (c (.str "glass 3 1/4 / 0 0 4 1 / 8 0 4 1 / 0 8 4 1")))
  (frz 2 (frz 1 (ret (o2 yaT (v 1) (comp (r1 (Zaa (o2 yb5 (on Zaw (Zaa (v 0) (Zaa (c (.int 9)) yaa))) (c (.int 5))) yaa)) 1 [2,0] (gN 0) yes (o2 dIx (v 1) (o2 yb5 (on Zaw (Zaa (v 2) (Zaa (o2 yaT (c (.int 10)) (v 0)) yaa))) (c (.int 4)))))))))))))))
def Zbj:List D->Res D:=fn 1
  (ifs (bNot (trb (on bIsi (Zaa (v 0) (Zaa (c (.ty "str")) yaa)))))
  (rsP "NoRow" (Zaa 002 yaa))
  nop)
def Za8:List D->Res D:=fn 1
  (ret (eAnd (on bIsi (Zaa (v 0) (Zaa (c (.ty "int")) yaa))) (eNot (on bIsi (Zaa (v 0) (Zaa (c (.ty "bool")) yaa))))))
def Za1:List D->Res D:=fn 3
  (ret (eAnd (on Za8 07) (eAnd (o2 dGe (v 0) (v 1)) (o2 dLe (v 0) (v 2)))))
def ZbH:List D->Res D:=fn 2
  (ifs (bOr (bNot (trb (on Za1 (Zaa (v 0) (Zaa 06 (Zaa (c (.int 64)) yaa)))))) (bNot (trb (on Za1 (Zaa (v 1) (Zaa 06 (Zaa (c (.int 64)) yaa)))))))
  (rse "BadFloor" (Zaa (c (.str "a floor has 1 to 64 cells in a row, and 1 to 64 rows")) yaa))
  nop)
def Zax:List D->Res D:=fn 3
  (sq (st 2 (sD Zau (v 1) (c (.str " "))))
  (sq (ifs (trb (o2 dNe (o2 dIx (v 2) 002) (v 0)))
  (rsP "NoRow" (Zaa 002 yaa))
  nop)
  (ret (cut (v 2) (pso 06) pno))))
def Zap:List D->Res D:=fn 4
  (sq (st 3 (on Zax (Zaa (v 0) (Zaa (v 1) yaa))))
  (sq (ifs (trb (o2 dNe (on bLen (Zaa (v 3) yaa)) (v 2)))
  (rsP "NoRow" (Zaa 002 yaa))
  nop)
  (ret (v 3))))
def ZbM:List D->Res D:=fn 1
  (sq (ifs (bOr (trb (o2 dEq (v 0) (c (.str "")))) (trb (o2 dGt (on Zh3 07) (c (.int 30)))))
  (ret (c (.bl false)))
  nop)
  (sq (ifs (bAnd (trb (sD ZgP (v 0) (c (.str "0")))) (trb (o2 dNe (v 0) (c (.str "0")))))
  (ret (c (.bl false)))
  nop)
  (ret (on bAll (Zaa (comp (ivT (v 0)) 1 [] (gN 0) yes (o2 dInT (v 0) (c (.str "0123456789")))) yaa)))))
def Zam:List D->Res D:=fn 2
  (sq (st 1 (ife (trb (sD ZgP (v 0) (c (.str "-")))) (cutT (v 0) (pso 06) pno) (v 0)))
  (sq (ifs (bOr (bNot (trb (on ZbM (Zaa (v 1) yaa)))) (trb (o2 dEq (v 0) (c (.str "-0")))))
  (rsP "NoRow" (Zaa 002 yaa))
  nop)
  (ret (on Zkg 07))))
def ZaX:List D->Res D:=fn 3
  (ret (Zcm (iv (on Zap (Zaa (v 0) (Zaa (v 1) (Zaa (v 2) yaa))))) 1 [] (gN 0) yes (on Zam 07)))
def ZaD:List D->Res D:=fn 2
  (sq (st 1 (on ZaX (Zaa (c (.str "floor")) (Zaa (v 0) (Zaa (c (.int 2)) yaa)))))
  (sq (drp (on ZbH (Zaa (o2 dIx (v 1) 002) (Zaa (o2 dIx (v 1) 06) yaa))))
  (ret (v 1))))
def Za0:List D->Res D:=fn 5
  (sq (st 1 002)
  (sq (for_ (iv (v 0)) (gN 2)
  (sq (st 3 (on bAbs (Zaa (v 2) yaa)))
  (whl fuel (trb (o2 dNe (v 3) 002))
  (sq (st 4 (o2 yb5 (v 1) (v 3)))
  (sq (st 1 (v 3))
  (st 3 (v 4)))))))
  (ret (v 1))))
def Zas:List D->Res D:=fn 1
  (sq (ifs (bOr (bNot (trb (on bIsi (Zaa (v 0) (Zaa (c (.ty "tuple")) yaa))))) (trb (o2 dNe (on bLen 07) (c (.int 2)))))
  (ret (c (.bl false)))
  nop)
  (sq (ifs (bOr (bNot (trb (on Za8 (Zaa (o2 dIx (v 0) 002) yaa)))) (bNot (trb (on Za8 (Zaa (o2 dIx (v 0) 06) yaa)))))
  (ret (c (.bl false)))
  nop)
  (ret (eAnd (o2 dGe (o2 dIx (v 0) 06) 06) (o2 dEq (on Za0 07) 06)))))
def Zal:List D->Res D:=fn 3
  (sq (ifs (trb (o2 ZkK (c (.str "/")) (v 0)))
  (ret (mtp (Zaa (on Zam 07) (Zaa 06 yaa))))
  nop)
  (sq (st 1 (sD Zmn (v 0) (c (.str "/"))))
  (sq (st 2 (mtp (Zaa (on Zam (Zaa (o2 dIx (v 1) 002) yaa)) (Zaa (on Zam (Zaa (o2 dIx (v 1) (c (.int 2))) yaa)) yaa))))
  (sq (ifs (bOr (trb (o2 dEq (o2 dIx (v 2) 06) 06)) (bNot (trb (on Zas (Zaa (v 2) yaa)))))
  (rsP "NoRow" (Zaa 002 yaa))
  nop)
  (ret (v 2))))))
def ZaT:List D->Res D:=fn 1
  (ret (on Zal (Zaa (o2 dIx (on Zap (Zaa (c (.str "ground")) (Zaa (v 0) (Zaa 06 yaa)))) 002) yaa)))
def Zde:List D->Res D:=fn 1
  (sq (ifs (bOr (bNot (trb (on bIsi (Zaa (v 0) (Zaa (c (.ty "tuple")) yaa))))) (trb (o2 dNe (on bLen 07) (c (.int 2)))))
  (ret (c (.bl false)))
  nop)
  (ret (eAnd (on Za1 (Zaa (o2 dIx (v 0) 002) (Zaa 06 (Zaa (c (.int 7)) yaa)))) (on Za1 (Zaa (o2 dIx (v 0) 06) (Zaa 06 (Zaa (c (.int 7)) yaa)))))))
def ZbR:List D->Res D:=fn 1
  (sq (ifs (bOr (bNot (trb (on bIsi (Zaa (v 0) (Zaa (c (.ty "list")) yaa))))) (bOr (trb (o2 dLt (on bLen 07) 06)) (trb (o2 dGt (on bLen 07) (c (.int 16))))))
  (rse "BadFloor" (Zaa (c (.str "spots are a list of 1 to 16 tuples")) yaa))
  nop)
  (sq (ifs (bNot (trb (on bAll (Zaa (comp (iv (v 0)) 1 [] (gN 0) yes (on Zde 07)) yaa))))
  (rse "BadFloor" (Zaa (c (.str "a spot is a tuple of two whole numbers from 1 to 7")) yaa))
  nop)
  (ifs (trb (o2 dNe (o1 Zkx (v 0)) (on bLen 07)))
  (rse "BadFloor" (Zaa (c (.str "the spots of a list are all unlike")) yaa))
  nop)))
def Zbf:List D->Res D:=fn 1
  (ret (on bTup (Zaa (Zcm (iv (sD Zau (v 0) (c (.str ",")))) 1 [] (gN 0) yes (on Zam 07)) yaa)))
def ZaZ:List D->Res D:=fn 2
  (sq (st 1 (Zcm (iv (on Zax (Zaa (c (.str "spots")) 07))) 1 [] (gN 0) yes (on Zbf 07)))
  (sq (drp (on ZbR (Zaa (v 1) yaa)))
  (ret (v 1))))
def Zb1:List D->Res D:=fn 3
  (grp 1 2 0 (trb (o2 dEq (v 2) (c (.str "/")))))
def ZaY:List D->Res D:=fn 2
  (sq (ifs (trb (o2 dLt (on bLen 07) (c (.int 4))))
  (rsP "NoRow" (Zaa 002 yaa))
  nop)
  (sq (st 1 (Zcm (iv (v 0)) 1 [] (gN 0) yes (on Zam 07)))
  (ret (mtp (Zaa (o2 dIx (v 1) 002) (Zaa (o2 dIx (v 1) 06) (Zaa (o2 dIx (v 1) (c (.int 2))) (Zaa (o2 dIx (v 1) (c (.int 3))) (Zaa (on bTup (Zaa (cut (v 1) (pso (c (.int 4))) pno) yaa)) yaa)))))))))
def ZaN:List D->Res D:=fn 2
  (for_ (iv (v 0)) (gN 1)
  (ifs (trb (o2 dLe (o2 dIx (v 1) (c (.int 2))) 002))
  (rse "BadTriangle" (Zaa (c (.str "only corners with w above 0 are thrown onto the floor")) yaa))
  nop))
def Zce:List D->Res D:=fn 1
  (sq (ifs (bOr (bNot (trb (on bIsi (Zaa (v 0) (Zaa (c (.ty "tuple")) yaa))))) (trb (o2 dGt (on bLen 07) (c (.int 3)))))
  (ret (c (.bl false)))
  nop)
  (ret (on bAll (Zaa (comp (iv (v 0)) 1 [] (gN 0) yes (on Za8 07)) yaa))))
def Zb9:List D->Res D:=fn 1
  (sq (ifs (bOr (bNot (trb (on bIsi (Zaa (v 0) (Zaa (c (.ty "tuple")) yaa))))) (trb (o2 dNe (on bLen 07) (c (.int 5)))))
  (ret (c (.bl false)))
  nop)
  (sq (ifs (bNot (trb (on bAll (Zaa (comp (iv (cut (v 0) pno (pso (c (.int 4))))) 1 [] (gN 0) yes (on Za8 07)) yaa))))
  (ret (c (.bl false)))
  nop)
  (ret (eAnd (o2 dGe (o2 dIx (v 0) (c (.int 3))) 06) (on Zce (Zaa (o2 dIx (v 0) (c (.int 4))) yaa))))))
def ZaW:List D->Res D:=fn 2
  (sq (ifs (bOr (bNot (trb (on bIsi (Zaa (v 0) (Zaa (c (.ty "tuple")) yaa))))) (trb (o2 dNe (on bLen 07) (c (.int 3)))))
  (rse "BadTriangle" (Zaa (c (.str "a triangle is a tuple of three corners")) yaa))
  nop)
  (for_ (iv (v 0)) (gN 1)
  (sq (ifs (bNot (trb (on Zb9 (Zaa (v 1) yaa))))
  (rse "BadTriangle" (Zaa (c (.str "a corner is a tuple (x, y, w, h, values) of whole numbers, h from 1 on")) yaa))
  nop)
  (ifs (trb (o2 dNe (on bLen (Zaa (o2 dIx (v 1) (c (.int 4))) yaa)) (on bLen (Zaa (o2 dIx (o2 dIx (v 0) 002) (c (.int 4))) yaa))))
  (rse "BadTriangle" (Zaa (c (.str "the corners of a triangle have as many values each")) yaa))
  nop))))
def Zbs:List D->Fs->Res Fs:=fnI 2
  (iDrp (on ZaW (Zaa (v 1) yaa))
  (iDrp (on ZaN (Zaa (v 1) yaa))
  (iSet "triangle" (v 1)
  iEnd)))
def ZaI:List D->Res D:=fn 1
  (ifs (bNot (trb (on Zas 07)))
  (rse "BadThing" (Zaa (c (.str "a colour is a fraction in lowest terms")) yaa))
  nop)
def ZbE:List D->Res D:=fn 1
  (ifs (bOr (bNot (trb (on Zas 07))) (bOr (trb (o2 dLt (o2 dIx (v 0) 002) 002)) (trb (o2 dGt (o2 dIx (v 0) 002) (o2 dIx (v 0) 06)))))
  (rse "BadThing" (Zaa (c (.str "a part is a fraction in lowest terms, from 0 to 1")) yaa))
  nop)
def ZfY:List D->Fs->Res Fs:=fnI 4
  (iSup Zbs (Zaa (v 1) yaa)
  (iDrp (on ZaI (Zaa (v 2) yaa))
  (iDrp (on ZbE (Zaa (v 3) yaa))
  (iSet "colour" (v 2)
  (iSet "part" (v 3)
  iEnd)))))
def Za9:List D->Res D:=fn 2
  (sq (ifs (bOr (bNot (trb (on bIsi (Zaa (v 0) (Zaa (c (.ty "list")) yaa))))) (trb (o2 dNin (on bLen 07) (c (.tup [.int 1,.int 2,.int 4,.int 8,.int 16])))))
  (rse "BadPattern" (Zaa (c (.str "a pattern is a list of 1, 2, 4, 8 or 16 rows")) yaa))
  nop)
  (for_ (iv (v 0)) (gN 1)
  (sq (ifs (bOr (bNot (trb (on bIsi (Zaa (v 1) (Zaa (c (.ty "list")) yaa))))) (trb (o2 dNin (on bLen (Zaa (v 1) yaa)) (c (.tup [.int 1,.int 2,.int 4,.int 8,.int 16])))))
  (rse "BadPattern" (Zaa (c (.str "a row of a pattern is a list of 1, 2, 4, 8 or 16 fractions")) yaa))
  nop)
  (sq (ifs (trb (o2 dNe (on bLen (Zaa (v 1) yaa)) (on bLen (Zaa (o2 dIx (v 0) 002) yaa))))
  (rse "BadPattern" (Zaa (c (.str "the rows of a pattern have as many fractions each")) yaa))
  nop)
  (ifs (bNot (trb (on bAll (Zaa (comp (iv (v 1)) 1 [] (gN 0) yes (on Zas 07)) yaa))))
  (rse "BadPattern" (Zaa (c (.str "what stands in a pattern is a fraction in lowest terms")) yaa))
  nop)))))
def ZaJ:List D->Res D:=fn 2
  (ifs (trb (o2 dLt (on bLen (Zaa (o2 dIx (o2 dIx (v 0) 002) (c (.int 4))) yaa)) (v 1)))
  (rse "BadThing" (Zaa (fstr "the corners of such a thing have " " values or more" (v 1)) yaa))
  nop)
def Zew:List D->Res D:=fn 1
  (ret (comp (iv (v 0)) 1 [] (gN 0) yes (on bLst 07)))
def Zcb:List D->Fs->Res Fs:=fnI 3
  (iSup Zbs (Zaa (v 1) yaa)
  (iDrp (on ZaJ (Zaa (v 1) (Zaa (c (.int 2)) yaa)))
  (iDrp (on Za9 (Zaa (v 2) yaa))
  (iSet "pattern" (on Zew (Zaa (v 2) yaa))
  iEnd))))
def ZfF:List D->Fs->Res Fs:=fnI 3
  (iSup Zbs (Zaa (v 1) yaa)
  (iDrp (on ZaI (Zaa (v 2) yaa))
  (iSet "colour" (v 2)
  iEnd)))
def ZdQ:List D->Fs->Res Fs:=fnI 2
  (iSup Zbs (Zaa (v 1) yaa)
  (iDrp (on ZaJ (Zaa (v 1) (Zaa 06 yaa)))
  iEnd))
def ZbA:List D->Res D:=fn 1
  (ret (Zcm (iv (sD Zau (v 0) (c (.str ";")))) 1 [] (gN 0) yes (Zcm (iv (sD Zau (v 0) (c (.str ",")))) 1 [] (gN 0) yes (on Zal 07))))
def Zbq:List D->Res D:=fn 2
  (sq (ifs (bAnd (trb (o2 dEq (cut (v 0) pno (pso 06)) (mls (Zaa (c (.str "plain")) yaa)))) (trb (o2 dEq (on bLen 07) (c (.int 2)))))
  (ret (make "Plain" ZfF (Zaa (v 1) (Zaa (on Zal (Zaa (o2 dIx (v 0) 06) yaa)) yaa))))
  nop)
  (sq (ifs (trb (o2 dEq (v 0) (mls (Zaa (c (.str "shaded")) yaa))))
  (ret (make "Shaded" ZdQ (Zaa (v 1) yaa)))
  nop)
  (sq (ifs (bAnd (trb (o2 dEq (cut (v 0) pno (pso 06)) (mls (Zaa (c (.str "patterned")) yaa)))) (trb (o2 dEq (on bLen 07) (c (.int 2)))))
  (ret (make "Patterned" Zcb (Zaa (v 1) (Zaa (on ZbA (Zaa (o2 dIx (v 0) 06) yaa)) yaa))))
  nop)
  (sq (ifs (bAnd (trb (o2 dEq (cut (v 0) pno (pso 06)) (mls (Zaa (c (.str "glass")) yaa)))) (trb (o2 dEq (on bLen 07) (c (.int 3)))))
  (ret (make "Glass" ZfY (Zaa (v 1) (Zaa (on Zal (Zaa (o2 dIx (v 0) 06) yaa)) (Zaa (on Zal (Zaa (o2 dIx (v 0) (c (.int 2))) yaa)) yaa)))))
  nop)
  (rsP "NoRow" (Zaa 002 yaa))))))
def ZaU:List D->Res D:=fn 2
  (sq (drp (on Zbj 07))
  (sq (st 1 (on Zb1 (Zaa (sD Zau (v 0) (c (.str " "))) yaa)))
  (sq (ifs (trb (o2 dNe (on bLen (Zaa (v 1) yaa)) (c (.int 4))))
  (rsP "NoRow" (Zaa 002 yaa))
  nop)
  (ret (on Zbq (Zaa (o2 dIx (v 1) 002) (Zaa (on bTup (Zaa (Zcm (iv (cut (v 1) (pso 06) pno)) 1 [] (gN 0) yes (on ZaY 07)) yaa)) yaa)))))))
def Zbd:List D->Res D:=fn 3
  (sq (ifs (trb (o2 dGe (v 1) (on bLen 07)))
  (rsP "NoRow" (Zaa (v 1) yaa))
  nop)
  (Zoh [("read_floor",ZaD),("read_ground",ZaT),("read_spots",ZaZ),("read_thing",ZaU)] 2 (Zaa (o2 dIx (v 0) (v 1)) yaa) ["BadFloor","BadPattern","BadThing","BadTriangle","NoRow"] "NoRow" (Zaa (v 1) yaa)))
def Zbk:List D->Res D:=fn 6
  (sq (drp (on Zbj 07))
  (sq (st 1 (sD Zau (v 0) (c (.str "\n"))))
  (sq (st 2 (on Zbd (Zaa (v 1) (Zaa 002 (Zaa (c (.cls "read_floor")) yaa)))))
  (sq (st 3 (on Zbd (Zaa (v 1) (Zaa 06 (Zaa (c (.cls "read_ground")) yaa)))))
  (sq (st 4 (on Zbd (Zaa (v 1) (Zaa (c (.int 2)) (Zaa (c (.cls "read_spots")) yaa)))))
  (sq (st 5 (Zcm (r2 (Zaa (c (.int 3)) (Zaa (on bLen (Zaa (v 1) yaa)) yaa))) 1 [1] (gN 0) yes (on Zbd (Zaa (v 1) (Zaa (v 0) (Zaa (c (.cls "read_thing")) yaa))))))
  (ret (mtp (Zaa (o2 dIx (v 2) 002) (Zaa (o2 dIx (v 2) 06) (Zaa (v 3) (Zaa (v 4) (Zaa (v 5) yaa)))))))))))))
def Zan:List D->Res D:=fn 3
  (sq (stO 1 (mls yaa))
  (sq (st 2 (on bAbs 07))
  (sq (whl fuel (trb (o2 dGe (v 2) (o2 dPow (c (.int 10)) (c (.int 60)))))
  badS)
  (sq (app 1 (on bStr (Zaa (v 2) yaa)))
  (sq (ifs (trb (o2 dLt (v 0) 002))
  (app 1 (c (.str "-")))
  nop)
  (ret (joinRev "" 1)))))))
def Zaq:List D->Res D:=fn 1
  (sq (ifs (trb (o2 dEq (o2 dIx (v 0) 06) 06))
  (ret (on Zan (Zaa (o2 dIx (v 0) 002) yaa)))
  nop)
  (ret (o2 yaT (o2 yaT (on Zan (Zaa (o2 dIx (v 0) 002) yaa)) (c (.str "/"))) (on Zan (Zaa (o2 dIx (v 0) 06) yaa)))))
def Zb6:List D->Res D:=fn 1
  (ret (o2 yaT (o2 yaT (on Zan (Zaa (o2 dIx (v 0) 002) yaa)) (c (.str ","))) (on Zan (Zaa (o2 dIx (v 0) 06) yaa))))
def Zcg:List D->Res D:=fn 1
  (ret (o2 yaT (on bLst (Zaa (cut (v 0) pno (pso (c (.int 4)))) yaa)) (on bLst (Zaa (o2 dIx (v 0) (c (.int 4))) yaa))))
def ZbO:List D->Res D:=fn 1
  (ret (sD ZeU (c (.str " ")) (o2 yaT (mls (Zaa (c (.str "/")) yaa)) (comp (iv (on Zcg 07)) 1 [] (gN 0) yes (on Zan 07)))))
def Zfo:List D->Res D:=fn 1
  (ret (c (.str "glass")))
def Zdk:List D->Res D:=fn 1
  (ret (c (.str "patterned")))
def ZfC:List D->Res D:=fn 1
  (ret (c (.str "plain")))
def ZeK:List D->Res D:=fn 1
  (ret (c (.str "shaded")))
def Zip:List (Str×(List D->Res D)):=[("Plain",ZfC),("Shaded",ZeK),("Patterned",Zdk),("Glass",Zfo)]
def Zbv:List D->Res D:=fn 1
  (ret (sD ZeU (c (.str ";")) (comp (iv (v 0)) 1 [] (gN 0) yes (sD ZeU (c (.str ",")) (comp (iv (v 0)) 1 [] (gN 0) yes (on Zaq 07))))))
def Zch:List D->Res D:=fn 2
  (sq (st 1 (meth Zip "word" (v 0) yaa))
  (sq (ifs (trb (o2 dEq (v 1) (c (.str "plain"))))
  (ret (mls (Zaa (v 1) (Zaa (on Zaq (Zaa (o1 (dFld objs "colour") (v 0)) yaa)) yaa))))
  nop)
  (sq (ifs (trb (o2 dEq (v 1) (c (.str "patterned"))))
  (ret (mls (Zaa (v 1) (Zaa (on Zbv (Zaa (o1 (dFld objs "pattern") (v 0)) yaa)) yaa))))
  nop)
  (sq (ifs (trb (o2 dEq (v 1) (c (.str "glass"))))
  (ret (mls (Zaa (v 1) (Zaa (on Zaq (Zaa (o1 (dFld objs "colour") (v 0)) yaa)) (Zaa (on Zaq (Zaa (o1 (dFld objs "part") (v 0)) yaa)) yaa)))))
  nop)
  (ret (mls (Zaa (v 1) yaa)))))))
def ZbF:List D->Res D:=fn 1
  (ret (sD ZeU (c (.str " ")) (o2 yaT (on Zch 07) (comp (iv (o1 (dFld objs "triangle") (v 0))) 1 [] (gN 0) yes (on ZbO 07)))))
def Zcf:List D->Res D:=fn 2
  (sq (st 1 (mls (Zaa (sD ZeU (c (.str " ")) (mls (Zaa (c (.str "floor")) (Zaa (on Zan (Zaa (o2 dIx (v 0) 002) yaa)) (Zaa (on Zan (Zaa (o2 dIx (v 0) 06) yaa)) yaa))))) (Zaa (sD ZeU (c (.str " ")) (mls (Zaa (c (.str "ground")) (Zaa (on Zaq (Zaa (o2 dIx (v 0) (c (.int 2))) yaa)) yaa)))) (Zaa (sD ZeU (c (.str " ")) (o2 yaT (mls (Zaa (c (.str "spots")) yaa)) (comp (iv (o2 dIx (v 0) (c (.int 3)))) 1 [] (gN 0) yes (on Zb6 07)))) yaa)))))
  (ret (sD ZeU (c (.str "\n")) (o2 yaT (v 1) (comp (iv (o2 dIx (v 0) (c (.int 4)))) 1 [] (gN 0) yes (on ZbF 07))))))
def Zci:List D->Res D:=fn 5
  (sq (st 1 (on Zbw (Zaa (sD ZeU (c (.str "\n")) (on ZcN 07)) 07)))
  (sq (st 2 (on ZeB (Zaa (v 1) yaa)))
  (sq (st 3 (c .non))
  (sq (try_ Zbk (Zaa (v 1) yaa) ["BadFloor","BadPattern","BadThing","BadTriangle","NoRow"] 4
  (st 3 (v 4)))
  (sq (ifs (trb (o1 dIsN (v 2)))
  (ret (eAnd (o1 dIsN (v 3)) (o2 dEq (on Zcf (Zaa (on Zbk (Zaa (v 1) yaa)) yaa)) (v 1))))
  nop)
  (ret (eAnd (on (bIsX tabC tabT) (Zaa (v 3) (Zaa (c (.cls "NoRow")) yaa))) (eAnd (eNot (on bIsi (Zaa (o1 (dAtC ["NoRow"]) (v 3)) (Zaa (c (.ty "bool")) yaa)))) (o2 dEq (o1 (dAtC ["NoRow"]) (v 3)) (v 2))))))))))
def Zsj:List D->Res D:=fn 2
  (sq (for_ (r1 (Zaa (c (.int 2)) yaa)) (gN 1)
  (ifs (bNot (trb (on Zci (Zaa (on Zby (Zaa (v 0) (Zaa (v 1) yaa))) yaa))))
  (ret (c (.bl false)))
  nop))
  (ret (c (.bl true))))
variable{Φ:Dl.D->Prop}{ρ:Dl.Ev}{t w:List Nat}{Ψ:Dl.Fl->Prop}{ns:List Int}{cs:List (List Int)}{e:Dl.ME}{k i:Nat}
def Zc1{k:Int}(hk:0<=k/\k<=4000)(h:∀r,0<=r/\r<2147483648->Φ (.int r)):Tl (Zaw [.int cc,.int k]) Φ:=by
 unfold Zaw;symm;refine ZbT (λ_=>?_) (λ_=>?_)
 ·symm;refine ZbT (λ_=>?_) (λ_=>?_)
  ·symm;refine ZbT (λ_=>?_) (λ_=>?_)
   ·symm;exact h _ 04
   ·symm;exact h _ 04
  ·symm;exact h _ 04
 ·symm;exact h _ 04
end My
namespace Mt
def ZpT{x y:Int}(h:y<0):(x.fmod y).natAbs<y.natAbs:=by
 rw [Int.fmod_eq_emod];have a:=Int.emod_nonneg x (show y≠0 by ac_rfl);have b:=Int.emod_lt x (show y≠0 by ac_rfl);by_cases hd:y∣x
 ·have e:x%y=0:=Int.emod_eq_zero_of_dvd hd;rw [iP (.inr hd),e];ac_rfl
 ·rw [iN 04];ac_rfl
def Zpw(x y:Int):Int.gcd y (x.fmod y)=Int.gcd x y:=by
 have e:x.fmod y=x+y*(-(x.fdiv y)):=by rw [Int.fmod_def,Int.mul_neg,Int.sub_eq_add_neg]
 rw [e,Int.gcd_comm,Int.gcd_add_mul_left_left]
end Mt
namespace My
open PySem Dl
variable{Φ:Dl.D->Prop}{ρ:Dl.Ev}{t w:List Nat}{Ψ:Dl.Fl->Prop}{ns:List Int}{cs:List (List Int)}{e:Dl.ME}{k i:Nat}
def w_modN(hy:y<0)(h:Φ (.int (x.fmod y))):Tl (yb5 (.int x) (.int y)) Φ:=by
 refine Zae ?_ h;show iMod x y=_;unfold iMod;rw [iN 04,iN 04]
def Ze3(h:Φ (.int (Mt.gcdL 0 ns))):Tl (Za0 [.tup (ns.map .int)]) Φ:=by
 unfold Za0;symm;refine ZqM (λp ρ=>∃(a:List Int) (c d b:Cl),p=a.map .int/\ρ=[.im (.tup (ns.map .int)),.im (.int (Mt.gcdL 0 a)),c,d,b]) ⟨[],_,_,_,rfl,rfl⟩ ?_ ?_
 ·rintro p x r q ρ ⟨a,c,d,b,rfl,rfl⟩;obtain ⟨n,rfl⟩ : ∃n:Int,x=.int n:=by
   have:x∈ns.map .int:=by rw [q];simp
   obtain ⟨n,_,rfl⟩:=Vbw.mp this;exact ⟨n,rfl⟩
  symm;refine w_wh (λρ=>∃(f m:Nat) (b:Cl),ρ=[.im (.tup (ns.map .int)),.im (.int f),.im (.int n),.im (.int m),b]/\Nat.gcd f m=Nat.gcd (Mt.gcdL 0 a) n.natAbs) (ZiP 3) ⟨_,_,_,rfl,rfl⟩ (ZfP _ _) ?_;rintro ρ ⟨f,m,b,rfl,e⟩;symm;refine ⟨λi=>?_,λi=>?_⟩
  ·have j:m≠0:=by simpa using i
   symm;refine ⟨_,rfl,⟨m,f%m,_,rfl,?_⟩,?_⟩
   ·rw [<-e,Mt.Zpt]
   ·have:=Nat.mod_lt f (Nat.pos_of_ne_zero j);simp [ZiP,absC];ac_rfl
  ·have j:m=0:=by simpa using i
   subst j;rw [Nat.gcd_zero_right] at e;have s:Mt.gcdL 0 (a++[n])=Nat.gcd (Mt.gcdL 0 a) n.natAbs:=by
    have k:∀(l:List Int) (g:Nat),Mt.gcdL g (l++[n])=Nat.gcd (Mt.gcdL g l) n.natAbs:=by
     intro l
     induction l with
     | nil=>exact λg=>rfl
     | cons y l ih=>exact λg=>ih _
    exact k a 0
   exact ⟨_,rfl,a++[n],.im (.int n),.im (.int ((0:Nat):Int)),b,by simp,by rw [s,<-e]⟩
 ·rintro ρ ⟨a,c,d,b,o,rfl⟩;symm;have:ns=a:=Zk4 o;rw [<-this];exact h
def Zmz(h:Φ (.int (Int.gcd a b))):Tl (Zbu [.int a,.int b]) Φ:=by
 unfold Zbu;symm;refine w_wh (λρ=>∃x y,ρ=[.im (.int x),.im (.int y)]/\Int.gcd x y=Int.gcd a b) (ZiP 1) ⟨a,b,rfl,rfl⟩ (ZfP _ _) ?_;rintro ρ ⟨x,y,rfl,e⟩;symm;refine ⟨λd=>?_,λd=>?_⟩
 ·have c:y≠0:=by simpa using d
  rcases Int.lt_or_gt_of_ne c with hn | hp
  ·symm;refine w_modN hn ?_;refine ⟨_,rfl,⟨y,x.fmod y,rfl,by rw [Mt.Zpw];exact e⟩,?_⟩;have:=Mt.ZpT (x:=x) hn;simp [ZiP,absC];exact this
  ·symm;refine ⟨_,rfl,⟨y,x%y,rfl,by rw [Mt.ZmQ];exact e⟩,?_⟩;have g:=Int.emod_nonneg x c;have i:=Int.emod_lt_of_pos x hp;simp [ZiP,absC];ac_rfl
 ·have c:y=0:=by simpa using d
  subst c;symm;have f:x.natAbs=Int.gcd a b:=by rw [<-e,Int.gcd_zero_right]
  rw [f];exact h
def frD(q:Rat):D:=.tup [.int q.num,.int (q.den:Int)]
def D10(m:Nat):List Nat:=(Nat.toDigits 10 m).map Char.toNat
def tI(n:Int):List Nat:=if n<0 then 45::D10 n.natAbs else D10 n.natAbs
def Ztv(a b):Str.ofString (a++b)=Str.ofString a++Str.ofString b:=by
 rw [<-Zeq (Str.ofString a++Str.ofString b),ZiN,<-Zeq (Str.ofString (a++b))];refine VaA mkS ?_;show (Str.ofString (a++b)).cps.toList=(Str.ofString a).cps.toList++(Str.ofString b).cps.toList;rw [Vck,Vck,Vck,String.toList_append,Vb1]
def Zks(m:Nat):Str.ofString (toString (m:Int))=mkS (D10 m):=by
 rw [<-Zeq (Str.ofString _)];exact VaA mkS (W.KIN.signs_num m)
def ZvG(n):Str.ofString (toString n)=mkS (tI n):=by
 unfold tI;split
 ·next h=>
  rw [PyProof.Rows.toString_neg h,Ztv,show (0:Int) - n=(n.natAbs:Int) by ac_rfl,Zks,show Str.ofString "-"=mkS [45] by decide +kernel,ZnY];rfl
 ·next h=>
  have e:n=(n.natAbs:Int):=by ac_rfl
  rw [e,Zks];rfl
def Zoo{m c:Nat}(h:c∈D10 m):48<=c/\c<=57:=by
 obtain ⟨b,a,e⟩:=Vbw.mp h;rw [<-e];exact PyProof.Rows.digit_range (Nat.isDigit_of_mem_toDigits 00 00 a)
def ZmS(hk:0<k)(h:m<10^k):(D10 m).length<=k:=by
 have:=PyProof.Rows.toString_length_le (v:=(m:Int)) 04 hk (by exact_mod_cast h);rw [Zks,ZbL] at this;exact this
def Zqq(h:10<=m):D10 m=D10 (m/10)++D10 (m%10):=by
 unfold D10;rw [<-Vb1];have t:Nat.toDigits 10 (m/10)++Nat.toDigits 10 (m%10)=Nat.toDigits 10 (10*(m/10)+m%10):=Nat.toDigits_append_toDigits 00 04 04;rw [Nat.div_add_mod] at t;rw [t]
def Zux{n:Int}{c:Nat}(h:c∈tI n):c=45\/(48<=c/\c<=57):=by
 unfold tI at h;split at h
 ·rcases Vat.mp h with h | h
  ·exact .inl h
  ·exact .inr (Zoo h)
 ·exact .inr (Zoo h)
def ZhT(hk:0<k)(h:n.natAbs<10^k):(tI n).length<=k+1:=by
 unfold tI;have:=ZmS hk h;split
 ·simpa using this
 ·ac_rfl
def Asc(l:01):Prop:=∀c∈l,c<128
def Asc.app(h:Asc a)(k:Asc b):Asc (a++b):=λc d=>(Vau.mp d).elim (h c) (k c)
def Asc.pl(h:Asc l):(mkS l).cps.all (·<0x110000)=true:=by
 rw [Array.all_eq_true];intro i b;have:(mkS l).cps[i]∈l:=by
  have a:i<l.length:=by simpa [mkS] using b
  have e:(mkS l).cps[i]=l[i]:=by simp [mkS]
  exact e▸VbU a
 have:=h _ this;simp only [Vcd];ac_rfl
def Zur(n):Asc (tI n):=λc h=>by have:=Zux h;ac_rfl
def Zko(a b):(mkS a==mkS b)=decide (a=b):=by
 rw [Vcl,VaS,Vcd];exact ⟨ZtL,λh=>by rw [h]⟩
def Zdr(ha:Asc a)(hb:Asc b)(h:Φ (.bl (decide (a=b)))):Tl (dEq (.str (mkS a)) (.str (mkS b))) Φ:=by
 refine Zae (x:=.bl (decide (a=b))) ?_ h;unfold dEq;have c:plain 50 (.str (mkS a))=true:=ha.pl;have d:plain 50 (.str (mkS b))=true:=hb.pl;rw [c,d];show Res.ok (D.bl (mkS a==mkS b))=_;rw [Zko]
def ZjL(ha:Asc a)(hb:Asc b)(h:Φ (.bl (!decide (a=b)))):Tl (dNe (.str (mkS a)) (.str (mkS b))) Φ:=by
 refine Zae (x:=.bl (!decide (a=b))) ?_ h;unfold dNe;have c:plain 50 (.str (mkS a))=true:=ha.pl;have d:plain 50 (.str (mkS b))=true:=hb.pl;rw [c,d];show Res.ok (D.bl (!(mkS a==mkS b)))=_;rw [Zko]
def w_sD(h:Tl (a ρ) λx=>∃z,x=.str z/\Tl (b ρ) λd=>Tl (f z d) Φ):Tl (sD f a b ρ) Φ:=by
 obtain ⟨x,c,z,rfl,d,e,q⟩:=h;unfold sD;rw [c];show Tl ((b ρ).bind (f z)) Φ;rw [e];exact q
def ZlP(h:Φ (.bl (a.take b.length==b))):Tl (ZgP (mkS a) (.str (mkS b))) Φ:=by
 refine Zae (x:=.bl (a.take b.length==b)) ?_ h;show Res.ok (D.bl ((cpL (mkS a)).take (cpL (mkS b)).length==cpL (mkS b)))=_;rw [ZaQ,ZaQ]
def Zjv:∀ls:List 01,txts (ls.map λl=>D.str (mkS l))=some (ls.map mkS)
 | []=>rfl
 | l::r=>by
  show (txts (r.map λl=>D.str (mkS l))).map (mkS l::·)=_;rw [Zjv r];rfl
def totL(s:Nat)(ls:List 01):Nat:=(ls.map List.length).sum+ls.length*s
def Zse(s)(ls):sumL s (ls.map mkS)=totL s ls:=by
 unfold sumL totL;rw [VbN,VaX];rw [show ls.map ((λx:Str=>x.length) ∘ mkS)=ls.map List.length from Vaa λl _=>ZbL l]
def ZlF{s:01}{ls:List 01}(hl:totL s.length ls<=1000000):Zka (mkS s) (ls.map λl=>D.str (mkS l))=.ok (.str (mkS (Zat s ls))):=by
 unfold Zka;rw [Zjv];dsimp only;rw [ZbL,Zse,iP (show _<=LIM from hl),ZaQ,VbN];have:(cpL ∘ mkS)=id:=funext ZaQ;rw [this,List.map_id]
def Zn6(hl:totL s.length ls<=1000000)(h:Φ (.str (mkS (Zat s ls)))):Tl (ZeU (mkS s) (.lst (ls.map λl=>.str (mkS l)))) Φ:=Zae (ZlF hl) h
def ZgH(hl:a.length+b.length<=1000000)(h:Φ (.str (mkS (a++b)))):Tl (yaT (.str (mkS a)) (.str (mkS b))) Φ:=by
 refine Zae ?_ h;show (if (mkS a).length+(mkS b).length<=LIM then Res.ok (D.str (mkS a++mkS b)) else .bad)=_
 rw [ZbL,ZbL,iP (show _<=LIM from hl),ZnY]
def Zk2(hl:a.length<=1000000)(h:Φ (.int a.length)):Tl (Zh3 [.str (mkS a)]) Φ:=by
 refine Zae ?_ h;show (if (mkS a).length<=LIM then Res.ok (D.int (mkS a).length) else .bad)=_
 rw [ZbL,iP (show _<=LIM from hl)]
def w_inS{c:Nat}{b:01}(h:Φ (.bl (b.contains c))):Tl (dInT (.str (mkS [c])) (.str (mkS b))) Φ:=by
 refine Zae (x:=.bl (b.contains c)) ?_ h;unfold dInT;dsimp only;rw [ZaQ [c]];dsimp only;rw [ZaQ]
def ZmZ{c:Nat}{b:01}(h:Φ (.bl (!b.contains c))):Tl (ZkK (.str (mkS [c])) (.str (mkS b))) Φ:=by
 refine Zae (x:=.bl (!b.contains c)) ?_ h;unfold ZkK;dsimp only;rw [ZaQ [c]];dsimp only;rw [ZaQ]
def ZrJ{a b:01}{c:Nat}(hc:c∉a)(hl:(a++c::b).length<=1000000)(h:Φ (.tup [.str (mkS a),.str (mkS [c]),.str (mkS b)])):Tl (Zmn (mkS (a++c::b)) (.str (mkS [c]))) Φ:=by
 refine Zae ?_ h;have e:∀a:List Nat,c∉a->ZbU c (a++c::b)=some (a,b):=by
  intro a
  induction a with
  | nil=>intro _;show ZbU c (c::b)=_;unfold ZbU;rw [iP rfl]
  | cons x r ih=>
   intro h;have d:¬x=c:=λe=>h (by rw [e];exact Vaq);show ZbU c (x::(r++c::b))=_;unfold ZbU;rw [iN d,ih λm=>h (Var _ m)];rfl
 unfold Zmn;dsimp only;rw [ZaQ [c]];dsimp only;rw [ZbL,iP (show _<=LIM from hl),ZaQ,e a hc]
def Zwu{i:Int}(ha:a ρ=.ok (.str (mkS l)))(hi:0<=i)(hl:l.length<=1000000)(h:Φ (.str (mkS (l.drop i.toNat)))):Tl (cutT a (pso (c (.int i))) pno ρ) Φ:=by
 refine Zae ?_ h;unfold cutT;rw [ha];show cutS (mkS l) (some i) none=_;unfold cutS;rw [ZbL,iP (show _<=LIM from hl)];dsimp only;rw [iP hi,ZaQ]
def ZqP(s:Sm k n)(hk:k<=1900)(h:Φ (.str (mkS (tI n)))):Tl (bStr [.int n]) Φ:=by
 refine Zae ?_ h;show (if n.natAbs.log2<1920 then Res.ok (D.str (Str.ofString (toString n))) else .bad)=_
 rw [iP (show n.natAbs.log2<1920 from Vag (Zuz (s.mono (show k<=1900 from hk)) 00) 00),ZvG]
def Zxz{Φ:List D->Prop}(ha:a ρ=.ok (.str (mkS l)))(hl:Asc l)(h:Φ (l.map λc=>.str (mkS [c]))):Tl (ivT a ρ) Φ:=by
 refine Zae ?_ h;unfold ivT;rw [ha];show (if (cpL (mkS l)).all (·<128)=true then Res.ok ((cpL (mkS l)).map λc=>D.str (mkS [c])) else .bad)=_
 rw [ZaQ,iP (Vbx.mpr λc b=>by simpa using hl c b)]
def lit0:Str.ofString ""=mkS []:=by decide +kernel
def litM:Str.ofString "-"=mkS [45]:=by decide +kernel
def litZ:Str.ofString "0"=mkS [48]:=by decide +kernel
def Zwo:Str.ofString "-0"=mkS [45,48]:=by decide +kernel
def litF:Str.ofString "0123456789"=mkS [48,49,50,51,52,53,54,55,56,57]:=by decide +kernel
def litS:Str.ofString "/"=mkS [47]:=by decide +kernel
def ZaA(h:l.all (·<128)=true):Asc l:=λc a=>by simpa using Vbx.mp h c a
def ZqT(hl:l.length<=640)(e:intL l=some n)(h:Φ (.int n)):Tl (Zkg [.str (mkS l)]) Φ:=by
 refine Zae ?_ h;show (if (mkS l).length<=640 then ofO ((intL (cpL (mkS l))).map D.int) else .bad)=_
 rw [ZbL,iP hl,ZaQ,e];rfl
def ZjZ{s:01}{ls:List 01}(e:ρ[j]?=some (.ow (ls.map λl=>D.str (mkS l))))(hl:totL s.length ls.reverse<=1000000)(h:Φ (.str (mkS (Zat s ls.reverse)))):Tl (joinRev (mkS s) j ρ) Φ:=by
 refine Zae ?_ h;unfold joinRev;rw [e];show Zka (mkS s) ((ls.map λl=>D.str (mkS l)).reverse)=_;rw [<-Vcf];exact ZlF hl
def ZdY{n:Int}(h:n.natAbs<10^60)(q:Φ (.str (mkS (tI n)))):Tl (Zan [.int n]) Φ:=by
 unfold Zan;symm;refine w_wh (λρ=>ρ=[Cl.im (D.int n),Cl.ow [],Cl.im (D.int (n.natAbs:Int))]) (λ_=>0) rfl (by unfold fuel;ac_rfl) ?_;rintro ρ rfl;symm;have d:((10:Int)^(60:Int).toNat<=(n.natAbs:Int))=False:=by
  rw [eq_iff_iff,iff_false,show ((10:Int)^(60:Int).toNat)=((10^60:Nat):Int) by decide];ac_rfl
 simp only [d,decide_false];refine ⟨(λz=>nomatch z),λ_=>?_⟩;have c:Sm 256 ((n.natAbs:Int)):=by
  unfold Sm;rw [Vcm];exact Vbu h 00
 symm;refine ZqP c 00 ?_;have e:tI (n.natAbs:Int)=D10 n.natAbs:=by
  unfold tI;rw [iN 04,Vcm]
 rw [e];symm;refine ⟨by simp,?_⟩;symm;have b:=ZmS (m:=n.natAbs) 00 h;refine ZbT (λa=>?_) (λa=>?_)
 ·symm;refine ⟨by simp,?_⟩;symm;rw [lit0,litM];refine ZjZ (ls:=[D10 n.natAbs,[45]]) rfl (by simp [totL];ac_rfl) ?_;symm;have:tI n=Zat [] [D10 n.natAbs,[45]].reverse:=by unfold tI;rw [iP a];rfl
  rw [<-this];exact q
 ·symm;rw [lit0];refine ZjZ (ls:=[D10 n.natAbs]) rfl (by simp [totL];ac_rfl) ?_;symm;have:tI n=Zat [] [D10 n.natAbs].reverse:=by unfold tI;rw [iN a];rfl
  rw [<-this];exact q
def toX:Option α->Res α
 | some a=>.ok a
 | none=>.ex (tagX 0 "NoRow")
def ZaG(h:Tl r λx=>x=a):r=.ok a:=by
 obtain ⟨x,e,rfl⟩:=h;exact e
def ZiO{α:Type}{c:Str}{a:MA}{ρ:Ev}{k:Nat}(h:a ρ=.ok [.int (k:Int)]):rsP c a ρ=.ex (tagX (2*k) c):=by
 unfold rsP;rw [h,ZaH];unfold natD;dsimp only;rw [iP 04,Vcj];rfl
def Zjw:∀bs:List Bool,bools (bs.map .bl)=.ok bs
 | []=>rfl
 | b::r=>by
  show (bools (r.map .bl)).bind (λbs=>.ok (b::bs))=_;rw [Zjw r];rfl
def w_allB{bs:List Bool}(h:Φ (.bl (bs.all id))):Tl (bAll [.lst (bs.map .bl)]) Φ:=by
 refine Zae ?_ h;show (bools (bs.map .bl)).bind (λbs=>Res.ok (D.bl (bs.all id)))=_;rw [Zjw];rfl
def ZwM(c):[48,49,50,51,52,53,54,55,56,57].contains c=digB c:=by
 rw [Vcl,List.contains_iff_mem,show [48,49,50,51,52,53,54,55,56,57]=List.range' 48 10 from rfl,List.mem_range'_1];unfold digB;rw [Vbo,Vcd,Vcd];ac_rfl
def okF(f:01):Bool:=!(decide (f=[]))&&(decide (f.length<=30)&&((!(f.take 1==[48])||decide (f=[48]))&&f.all digB))
def Zr1(l:01):(l.map digB).all id=l.all digB:=by
 rw [VbR];rfl
def Zr3(e:a ρ=.ok (.str (mkS l)))(ha:Asc l)(hl:l.length<=1000000)(q:Φ (.bl (l.all digB))):Tl (ivT a ρ) λxs=>xs.length<=1000000/\Tl (Zaz (gN 0) yes (o2 dInT (v 0) (c (D.str (Str.ofString "0123456789")))) [Cl.no] xs) λys=>Tl (yaa ρ) λxs=>Tl (bAll (D.lst ys::xs)) Φ:=by
 refine Zxz e ha ?_;refine ⟨by simp;ac_rfl,?_⟩;refine ZbX (enc:=λc=>D.str (mkS [c])) (λc=>.bl (digB c)) (λc b=>?_) ?_
 ·symm;rw [litF];refine w_inS ?_;rw [ZwM]
 ·symm;rw [show l.map (λc=>D.bl (digB c))=(l.map digB).map .bl by rw [VbN];rfl];refine w_allB ?_;rw [Zr1];exact q
def Zkc(ha:Asc l)(hl:l.length<=1000000)(q:Φ (.bl (okF l))):Tl (ZbM [.str (mkS l)]) Φ:=by
 unfold okF at q;unfold ZbM;symm;rw [lit0];refine Zdr ha (ZaA rfl) ?_;by_cases h0:l=[]
 ·rw [Vbr h0] at q ⊢;symm;exact q
 rw [Vad h0] at q ⊢;symm;refine Zk2 hl ?_;symm;refine ZbT (λa=>?_) (λa=>?_)
 ·rw [Vad (show ¬l.length<=30 by ac_rfl)] at q;symm;exact q
 rw [Vbr (show l.length<=30 by ac_rfl)] at q;symm;refine w_sD ?_;symm;refine ⟨_,rfl,?_⟩;symm;rw [litZ];refine ZlP ?_;have e:[48].length=1:=rfl;rw [e];cases hz:(List.take 1 l==[48]) with
 | false=>
  rw [hz] at q;symm;exact Zr3 (l:=l) rfl ha hl (by symm; exact q)
 | true=>
  rw [hz] at q;symm;refine ZjL ha (ZaA rfl) ?_;by_cases h2:l=[48]
  ·rw [Vbr h2] at q ⊢;symm;exact Zr3 (l:=l) rfl ha hl (by symm; exact q)
  ·rw [Vad h2] at q ⊢;symm;exact q
def figs(l:01):List Nat:=if (l.take 1==[45])=true then l.drop 1 else l
def numL(l:01):Option Int:=if okF (figs l)=true/\l≠[45,48] then intL l else none
def Zld(h:okF f=true):f≠[]/\f.length<=30/\(f.take 1=[48]->f=[48])/\f.all digB=true:=by
 unfold okF at h;simp only [Vbo,Bool.not_eq_true',decide_eq_false_iff_not,Vcd,Bool.or_eq_true,Vae] at h;exact ⟨h.1,h.2.1,λe=>h.2.2.1.resolve_left λn=>n e,h.2.2.2⟩
def ZnF:∀(l:01) (a:Nat),l.all digB=true->l.foldl (λa c=>a*10+(c - 48)) a<(a+1)*10^l.length
 | [],a,_=>by simp
 | c::r,a,h=>by
  rw [VbQ,Vbo] at h;have b:48<=c/\c<=57:=by simpa [digB] using h.1
  have ih:=ZnF r (a*10+(c - 48)) h.2;rw [List.foldl_cons,VaU,Nat.pow_succ];refine Vag ih ?_;rw [Nat.mul_comm (10^r.length) 10,<-Nat.mul_assoc];exact Nat.mul_le_mul_right _ 04
def Zi8{l:01}(h:l.all digB=true)(hl:l.length<=30):digV l<10^30:=by
 have:=ZnF l 0 h;rw [Nat.zero_add,Nat.one_mul] at this;exact Vag this (Nat.pow_le_pow_right 00 hl)
def Zkd(h:okF (figs l)=true):∃n,intL l=some n/\n.natAbs<10^30/\l.length<=31:=by
 obtain ⟨b,d,_,a⟩:=Zld h;cases l with
 | nil=>exact aB rfl b
 | cons c r=>
  by_cases hc:c=45
  ·subst hc;have e:figs (45::r)=r:=rfl;rw [e] at b d a;refine ⟨-(digV r:Int),?_,?_,by simpa using d⟩
   ·unfold intL;dsimp only;rw [iP rfl];unfold figL;rw [iP ⟨b,a⟩];rfl
   ·have:=Zi8 a d;ac_rfl
  ·have e:figs (c::r)=c::r:=by
    unfold figs;rw [iN];simpa using hc
   rw [e] at b d a;refine ⟨(digV (c::r):Int),?_,?_,by ac_rfl⟩
   ·unfold intL;dsimp only;rw [iN hc];unfold figL;rw [iP ⟨b,a⟩];rfl
   ·have:=Zi8 a d;ac_rfl
def Zli(h:Asc l):Asc (figs l):=by
 unfold figs;split
 ·exact λc a=>h c (List.mem_of_mem_drop a)
 ·exact h
def ZkR(l):(figs l).length<=l.length:=by
 unfold figs;split
 ·rw [Vbk];ac_rfl
 ·exact VaN _
def Zrf(e:ρ[0]?=some (.im (.str (mkS l))))(hl:l.length<=1000000)(q:Φ (.str (mkS (l.drop 1)))):Tl (cutT (v 0) (pso 06) pno ρ) Φ:=Zwu (l:=l) (i:=1) (by unfold v;rw [e];rfl) 00 hl q
def ZiV{l:01}(ha:Asc l)(hl:l.length<=1000000):Zam [.str (mkS l)]=toX ((numL l).map .int):=by
 have b:=Zli ha;have a:(figs l).length<=1000000:=Vao (ZkR l) hl;have first:∀{Ψ:Fl->Prop},Ψ (.nx [.im (.str (mkS l)),.im (.str (mkS (figs l)))])->Tl (st 1 (ife (trb (sD ZgP (v 0) (c (.str "-")))) (cutT (v 0) (pso 06) pno) (v 0)) (ev0 2 [.str (mkS l)])) Ψ:=by
  intro Ψ q;symm;refine w_sD ?_;symm;refine ⟨_,rfl,?_⟩;symm;rw [litM];refine ZlP ?_;symm;have e:[45].length=1:=rfl;rw [e];unfold figs at q;cases hz:(List.take 1 l==[45]) with
  | false=>
   rw [hz,iN VaJ] at q;symm;exact q
  | true=>
   rw [hz,iP rfl] at q;rw [iP rfl];exact Zrf rfl hl (by symm; exact q)
 unfold Zam numL;by_cases h:okF (figs l)=true
 ·by_cases h2:l=[45,48]
  ·rw [iN λz=>z.2 h2];refine x_fn (Zbz (first ?_))
   refine x_gx (ZbV (ZcO ?_));symm;refine Zkc b a ?_;rw [h];symm;rw [Zwo];refine Zdr ha (ZaA rfl) ?_;rw [Vbr h2];symm;rw [iP rfl];exact ZiO (α:=Fl) (k:=0) rfl
  ·rw [iP ⟨h,h2⟩];obtain ⟨n,e,f,d⟩:=Zkd h;rw [e];refine ZaG (w_fn (w_sq (first ?_)))
   symm;refine Zkc b a ?_;rw [h];symm;rw [Zwo];refine Zdr ha (ZaA rfl) ?_;rw [Vad h2];symm;exact ZqT 04 e (by symm)
 ·rw [iN λz=>h z.1];refine x_fn (Zbz (first ?_))
  refine x_gx (ZbV (ZcO ?_));symm;refine Zkc b a ?_;rw [show okF (figs l)=false by simpa using h];symm;rw [iP rfl];exact ZiO (α:=Fl) (k:=0) rfl
def Zm9(c:Nat):∀l:List Nat,sepL [c] 0 l=Zab c l
 | []=>rfl
 | x::r=>by
  have ih:=Zm9 c r;by_cases h:x=c
  ·rw [h,ZiQ (w:=[c]) (VaN 1) rfl];rw [Zab,iP rfl];exact VaA _ ih
  ·rw [Zgl (w:=[c]) (λz=>h (Vcn z).1),ih,Zab,iN h];cases Zab c r<;>rfl
def Zcx{Φ:D->Prop}{a:01}{c:Nat}(hl:a.length<=1000000)(h:Φ (.lst ((Zab c a).map λl=>.str (mkS l))))(hc:c<256:=by decide):Tl (Zau (mkS a) (.str (mkS [c]))) Φ:=by
 refine Zae ?_ h;show (if (1<=(mkS [c]).length/\(mkS [c]).cps.all (·<256)=true)/\(mkS a).length<=LIM then Res.ok (D.lst ((sepL (cpL (mkS [c])) 0 (cpL (mkS a))).map λl=>.str (mkS l))) else .bad)=_
 rw [iP ⟨⟨VaN 1,by simp [mkS,hc]⟩,by rw [ZbL];exact hl⟩,ZaQ,ZaQ,Zm9]
def Zi4(ha:a ρ=.ok (.str (mkS l)))(hj:hi ρ=.ok (some j))(h0:0<=j)(hl:l.length<=1000000):cutT a pno hi ρ=.ok (.str (mkS (l.take j.toNat))):=by
 unfold cutT;rw [ha,ZaH,show pno ρ=.ok none from rfl,ZaH,hj,ZaH];show cutS (mkS l) none (some j)=_;unfold cutS;rw [ZbL,iP (show _<=LIM from hl)];dsimp only;rw [iP h0,ZaQ]
def ZnJ(ha:a ρ=.ok (.str (mkS l)))(hj:lo ρ=.ok (some j))(h0:0<=j)(hl:l.length<=1000000):cutT a lo pno ρ=.ok (.str (mkS (l.drop j.toNat))):=by
 unfold cutT;rw [ha,ZaH,hj,ZaH,show pno ρ=.ok none from rfl,ZaH];show cutS (mkS l) (some j) none=_;unfold cutS;rw [ZbL,iP (show _<=LIM from hl)];dsimp only;rw [iP h0,ZaQ]
def Zu5{l:01}{c:Nat}(hl:l.length<=1000000)(e:l[i]?=some c)(q:Φ (.str (mkS [c]))):Tl (dIxT (.str (mkS l)) (.int (i:Int))) Φ:=by
 refine Zae ?_ q;show (if (mkS l).length<=LIM then ofO ((at_ (cpL (mkS l)) (i:Int)).map λc=>D.str (mkS [c])) else .bad)=_
 rw [ZbL,iP (show _<=LIM from hl),ZaQ];unfold at_;rw [iP 04,Vcj,e];rfl
def oI:Option Int->D
 | some n=>.int n
 | none=>.non
def Zfl(h:okF (figs l)=false):numL l=none:=by
 unfold numL;rw [iN λz=>by rw [h] at z;exact aB z.1 VaJ]
def Zg9{l:01}(ha:Asc l)(hl:l.length<=1000000)(q:Φ (oI (numL l))):Tl (Zav [.str (mkS l)]) Φ:=by
 have o:=Zli ha;have g:=Vao (ZkR l) hl;unfold Zav;symm;refine Zae (Zi4 rfl rfl 00 hl) ?_;symm;rw [litM];refine Zdr (λc j=>ha c (List.mem_of_mem_take j)) (ZaA rfl) ?_;symm;have y:(1:Int).toNat=1:=rfl;rw [y]
 have d:Tl (sq (ifs (bOr (trb (o2 dLt (on Zh3 (Zaa (v 1) yaa)) 06)) (bOr (trb (o2 dGt (on Zh3 (Zaa (v 1) yaa)) (c (.int 30)))) (bNot (trb (on bAll (Zaa (comp (ivT (v 1)) 1 [] (gN 0) yes (o2 dInT (v 0) (c (.str "0123456789")))) yaa))))))
  (Dl.ret (c .non))
  nop)
  (sq (ifs (bAnd (trb (o2 dEq (o2 dIxT (v 1) 002) (c (.str "0")))) (trb (o2 dNe (v 0) (c (.str "0")))))
  (Dl.ret (c .non))
  nop)
  (Dl.ret (on Zkg 07))) [.im (.str (mkS l)),.im (.str (mkS (figs l)))]) λf=>Tl (endOf f) Φ:=by
  symm;refine Zk2 g ?_;symm;refine ZbT (λm=>?_) (λm=>?_)
  ·have w:figs l=[]:=Vco.mp 04;rw [Zfl (by unfold okF;rw [w];rfl)] at q;symm;exact q
  symm;refine Zk2 g ?_;symm;refine ZbT (λC=>?_) (λC=>?_)
  ·rw [Zfl (by unfold okF;rw [decide_eq_false (show ¬(figs l).length<=30 by ac_rfl)];simp)] at q;symm;exact q
  symm;refine Zr3 rfl o g ?_;symm;cases h3:(figs l).all digB with
  | false=>
   rw [Zfl (by unfold okF;rw [h3];simp)] at q;symm;exact q
  | true=>
   symm;obtain ⟨c,r,i⟩ : ∃c r,figs l=c::r:=by
    cases e:figs l with
    | nil=>rw [e] at m;exact aB 00 m
    | cons c r=>exact ⟨c,r,rfl⟩
   refine Zu5 g (by rw [i];rfl) ?_;symm;rw [litZ];refine Zdr (λx A=>o x (by rw [i];rw [VbZ.mp A];exact Vaq)) (ZaA rfl) ?_;symm;have k:okF (figs l)=true->l≠[45,48]->Tl (Zkg [D.str (mkS l)]) λx=>Tl (endOf (Fl.rt x)) Φ:=by
    intro h n;obtain ⟨z,e,_,E⟩:=Zkd h;unfold numL at q;rw [iP ⟨h,n⟩,e] at q;exact ZqT 04 e (by symm; exact q)
   by_cases j:c=48
   ·subst j;symm;refine ZjL ha (ZaA rfl) ?_;by_cases h4:l=[48]
    ·rw [Vbr h4];symm;refine k ?_ ?_
     ·rw [h4];rfl
     ·rw [h4];decide
    ·rw [Vad h4];have p:numL l=none:=by
      unfold numL;rw [iN];rintro ⟨h,n⟩;have:=(Zld h).2.2.1 (by rw [i];rfl);unfold figs at this;split at this
      ·next B=>
       cases l with
       | nil=>cases this
       | cons a b=>
        have F:a=45:=by simpa using B
        have u:b=[48]:=this;exact n (by rw [F,u])
      ·exact h4 this
     rw [p] at q;symm;exact q
   ·have s:¬[c]=[48]:=by simpa using j
    symm;refine k ?_ ?_
    ·have t:((figs l).take 1==[48])=false:=by
      rw [i,Vae];simpa using j
     unfold okF;rw [h3,t,Vbr (show (figs l).length<=30 by ac_rfl),Vad (by rw [i];simp)];rfl
    ·rintro rfl;have:figs [45,48]=[48]:=rfl;rw [this] at i;injection i with i
     exact j i.symm
 unfold figs at d;by_cases hz:List.take 1 l=[45]
 ·rw [Vbr hz];rw [show (List.take 1 l==[45])=true by rw [hz];rfl,iP rfl] at d;symm;refine Zrf rfl hl ?_;refine w_gx ?_;exact d
 ·rw [Vad hz];rw [show (List.take 1 l==[45])=false by rw [Vae];exact hz,iN VaJ] at d;refine Zvo (w_gx ?_);exact d
def Zlm(q:Φ (.bl (decide (1<=d)&&decide (Nat.gcd n.natAbs d.natAbs=1)))):Tl (Zas [.tup [.int n,.int d]]) Φ:=by
 unfold Zas;symm;refine Zae (rfl) ?_;symm;refine Zae (rfl) ?_;symm;refine ZbT (λa=>?_) (λa=>?_)
 ·rw [Vbr (a)] at q;symm;refine Ze3 (ns:=[n,d]) ?_;symm;have e:Mt.gcdL 0 [n,d]=Nat.gcd n.natAbs d.natAbs:=by
   show Nat.gcd (Nat.gcd 0 n.natAbs) d.natAbs=_;rw [Nat.gcd_zero_left]
  rw [e];rw [show decide (((Nat.gcd n.natAbs d.natAbs:Nat):Int)=1)=decide (Nat.gcd n.natAbs d.natAbs=1) from Vcp.mpr 04];exact q
 ·rw [Vad (a)] at q;symm;exact q
def mkQ(n d:Int):Option Rat:=if h:2<=d/\Nat.gcd n.natAbs d.natAbs=1 then some ⟨n,d.natAbs,by ac_rfl,h.2⟩ else none
def ZuT:Option Int->Option Int->Option Rat
 | some n,some d=>mkQ n d
 | _,_=>none
def ZaC(l:01):Option Rat:=match ZbU 47 l with
 | none=>(numL l).map λn:Int=>(⟨n,1,by decide,by simp⟩ : Rat)
 | some (a,b)=>ZuT (numL a) (numL b)
def Zb5{c:Nat}:∀{l:01},ZbU c l=none->c∉l
 | [],_=>by simp
 | x::r,h=>by
  unfold ZbU at h;split at h
  ·cases h
  ·next a=>
   have:=Zb5 (by simpa using h);intro b;rcases Vat.mp b with e | e
   ·exact a e.symm
   ·exact this e
def Zbp{c:Nat}:∀{l a b:01},ZbU c l=some (a,b)->l=a++c::b/\c∉a
 | [],_,_,h=>by cases h
 | x::r,a,b,h=>by
  unfold ZbU at h;split at h
  ·next d=>
   injection h with h
   injection h with h1 h2
   subst h1 h2 d;exact ⟨rfl,by simp⟩
  ·next d=>
   cases e:ZbU c r with
   | none=>rw [e] at h;cases h
   | some p=>
    obtain ⟨j,k⟩:=p;rw [e] at h;injection h with h
    injection h with h1 h2
    subst h1 h2;obtain ⟨f,g⟩:=Zbp e;refine ⟨by rw [f];rfl,λi=>?_⟩;rcases Vat.mp i with e | e
    ·exact d e.symm
    ·exact g e
def Zvk{a:ME}{c:Str}(h:a ρ=.ex c):Dl.ret a ρ=.ex c:=Zbg h
def Zij{a:ME}{c:Str}(h:a ρ=.ex c):st i a ρ=.ex c:=Zbg h
def Zn2{m:MA}{c:Str}(h:m ρ=.ex c):mtp m ρ=.ex c:=Zbg h
def Zi0{a:ME}{m:MA}{c:Str}(h:a ρ=.ex c):Zaa a m ρ=.ex c:=Zbg h
def ZoE{a:ME}{m:MA}{c:Str}(h:Tl (a ρ) λ_=>m ρ=.ex c):Zaa a m ρ=.ex c:=Zfx (h.mono λ_ q=>Zbg q)
def x_on{f:List D->Res D}{m:MA}{ρ:Ev}{c:Str}(h:Tl (m ρ) λds=>f ds=.ex c):on f m ρ=.ex c:=Zfx h
def ZdE(ha:Asc l)(hl:l.length<=1000000)(h:numL l=none):Zam [.str (mkS l)]=.ex (tagX 0 "NoRow"):=by
 rw [ZiV ha hl,h];rfl
def Zcw(ha:Asc l)(hl:l.length<=1000000)(h:numL l=some n):Zam [.str (mkS l)]=.ok (.int n):=by
 rw [ZiV ha hl,h];rfl
def Zrh(h:mkQ n d=some q):frD q=.tup [.int n,.int d]:=by
 unfold mkQ at h;split at h
 ·next a=>
  injection h with h
  subst h;unfold frD;rw [show ((d.natAbs:Nat):Int)=d by ac_rfl]
 ·cases h
def ZpU(n d):(decide (d=1)||!(decide (1<=d)&&decide (Nat.gcd n.natAbs d.natAbs=1)))=(mkQ n d).isNone:=by
 unfold mkQ;by_cases h:2<=d/\Nat.gcd n.natAbs d.natAbs=1
 ·rw [dif_pos h,Vbr h.2,Vbr (show 1<=d by ac_rfl),Vad 04];rfl
 ·rw [dif_neg h];by_cases h1:d=1
  ·rw [Vbr h1];rfl
  by_cases h2:1<=d
  ·rw [Vad (λz=>h ⟨by ac_rfl,z⟩)];simp
  ·rw [Vad h2];simp
def Zjo{l:01}(ha:Asc l)(hl:l.length<=1000000):Zal [.str (mkS l)]=toX ((ZaC l).map frD):=by
 unfold Zal ZaC;cases e:ZbU 47 l with
 | none=>
  have t:=Zb5 e;cases en:numL l with
  | none=>
   refine x_fn (ZbV (ZcO ?_));symm;rw [litS];refine ZmZ ?_;rw [show l.contains 47=false by simpa using t];symm;exact Zvk (Zn2 (Zi0 (x_on (Zae rfl (ZdE ha hl en)))))
  | some n=>
   refine ZaG ?_;symm;rw [litS];refine ZmZ ?_;rw [show l.contains 47=false by simpa using t];symm;refine Zae (Zcw ha hl en) ?_;symm;rfl
 | some p=>
  obtain ⟨a,b⟩:=p;obtain ⟨j,w⟩:=Zbp e;dsimp only;have m:=λc s=>ha c (by rw [j];exact Vav _ s);have o:=λc s=>ha c (by rw [j];exact VaQ _ (Var _ s));have u:a.length+(b.length+1)=l.length:=by rw [j,Vbf,VaU]
  have r:l.contains 47=true:=by rw [j];simp
  have i:∀{Ψ:Fl->Prop},Ψ (.nx [.im (.str (mkS l)),.no,.no])->Tl (ifs (trb (o2 ZkK (c (.str "/")) (v 0))) (Dl.ret (mtp (Zaa (on Zam 07) (Zaa 06 yaa)))) nop (ev0 3 [.str (mkS l)])) Ψ:=by
   intro Ψ q;symm;rw [litS];refine ZmZ ?_;rw [r];symm;exact q
  have h:∀{Ψ:Fl->Prop},Ψ (.nx [.im (.str (mkS l)),.im (.tup [.str (mkS a),.str (mkS [47]),.str (mkS b)]),.no])->Tl (st 1 (sD Zmn (v 0) (c (.str "/"))) [.im (.str (mkS l)),.no,.no]) Ψ:=by
   intro Ψ q;symm;refine w_sD ?_;symm;refine ⟨_,rfl,?_⟩;symm;rw [j];rw [j] at q;refine ZrJ w (by rw [<-j];exact hl) ?_;symm;exact q
  cases en:numL a with
  | none=>
   refine x_fn (Zbz (i (x_gx (Zbz (h (x_gx (ZbV (Zij (Zn2 (Zi0 (x_on ?_)))))))))));exact Zae rfl (ZdE m 04 en)
  | some n=>
   cases ed:numL b with
   | none=>
    refine x_fn (Zbz (i (x_gx (Zbz (h (x_gx (ZbV (Zij (Zn2 (ZoE ?_))))))))));symm;refine Zae (Zcw m 04 en) ?_;refine Zi0 (x_on ?_);exact Zae rfl (ZdE o 04 ed)
   | some d=>
    have g:∀{Ψ:Fl->Prop},Ψ (.nx [.im (.str (mkS l)),.im (.tup [.str (mkS a),.str (mkS [47]),.str (mkS b)]),.im (.tup [.int n,.int d])])->Tl (st 2 (mtp (Zaa (on Zam (Zaa (o2 dIx (v 1) 002) yaa)) (Zaa (on Zam (Zaa (o2 dIx (v 1) (c (.int 2))) yaa)) yaa))) [.im (.str (mkS l)),.im (.tup [.str (mkS a),.str (mkS [47]),.str (mkS b)]),.no]) Ψ:=by
     intro Ψ q;symm;refine Zae (Zcw m 04 en) ?_;symm;refine Zae (Zcw o 04 ed) ?_;symm;exact q
    have f:∀{Ψ:Bool->Prop},Ψ (mkQ n d).isNone->Tl (bOr (trb (o2 dEq (o2 dIx (v 2) 06) 06)) (bNot (trb (on Zas (Zaa (v 2) yaa)))) [.im (.str (mkS l)),.im (.tup [.str (mkS a),.str (mkS [47]),.str (mkS b)]),.im (.tup [.int n,.int d])]) Ψ:=by
     intro Ψ q;rw [<-ZpU] at q;symm;by_cases h1:d=1
     ·rw [Vbr h1] at q ⊢;symm;exact q
     ·rw [Vad h1] at q ⊢;symm;refine Zlm ?_;symm;exact q
    show _=toX ((mkQ n d).map frD);cases eq:mkQ n d with
    | none=>
     rw [eq] at f;refine x_fn (Zbz (i (x_gx (Zbz (h (x_gx (Zbz (g (x_gx (ZbV (ZcO (f ?_))))))))))));exact ZiO (α:=Fl) (k:=0) rfl
    | some q=>
     rw [eq] at f;refine ZaG (w_fn (w_sq (i (w_gx (w_sq (h (w_gx (w_sq (g (w_gx (w_sq (Zwb (f ?_)))))))))))));symm;exact (Zrh eq).symm
def Zb7{c:Nat}:∀{l w:01},w∈Zab c l->(∀x∈w,x∈l/\x≠c)/\w.length<=l.length
 | [],w,h=>by
  have:w=[]:=by simpa [Zab] using h
  subst this;exact ⟨by simp,by simp⟩
 | y::r,w,h=>by
  unfold Zab at h;split at h
  ·rcases Vat.mp h with h | h
   ·subst h;exact ⟨by simp,by simp⟩
   ·obtain ⟨a,d⟩:=Zb7 h;exact ⟨λx hx=>⟨Var _ (a x hx).1,(a x hx).2⟩,by rw [VaU];ac_rfl⟩
  ·next b=>
   cases e:Zab c r with
   | nil=>
    rw [e] at h;have:w=[y]:=by simpa using h
    subst this;exact ⟨λx hx=>by rw [VbZ.mp hx];exact ⟨Vaq,b⟩,by simp⟩
   | cons u us=>
    rw [e] at h;rcases Vat.mp h with h | h
    ·subst h;obtain ⟨a,d⟩:=Zb7 (by rw [e];exact Vaq);refine ⟨λx hx=>?_,by rw [VaU,VaU];ac_rfl⟩;rcases Vat.mp hx with hx | hx
     ·subst hx;exact ⟨Vaq,b⟩
     ·exact ⟨Var _ (a x hx).1,(a x hx).2⟩
    ·obtain ⟨a,d⟩:=Zb7 (by rw [e];exact Var _ h);exact ⟨λx hx=>⟨Var _ (a x hx).1,(a x hx).2⟩,by rw [VaU];ac_rfl⟩
def ZbG(c):∀l,1<=(Zab c l).length/\(Zab c l).length<=l.length+1
 | []=>by simp [Zab]
 | y::r=>by
  have ih:=ZbG c r;unfold Zab;split
  ·rw [VaU,VaU];ac_rfl
  ·cases e:Zab c r with
   | nil=>rw [e] at ih;simp at ih
   | cons u us=>rw [e] at ih;simp only [VaU] at ih ⊢;ac_rfl
def ZlT{c:Nat}{l:01}(h:c∈l):2<=(Zab c l).length:=by
 obtain ⟨a,b,e⟩:=List.append_of_mem h;cases p:ZbU c l with
 | none=>exact aB h (Zb5 p)
 | some q=>
  obtain ⟨x,y⟩:=q;obtain ⟨d,f⟩:=Zbp p;rw [d,Zey _ f,VaU];have:=ZbG c y;ac_rfl
def ZsG(h:47∈l):numL l=none:=by
 refine Zfl ?_;cases e:okF (figs l) with
 | false=>rfl
 | true=>
  have b:=(Zld e).2.2.2;have c:47∈figs l:=by
   unfold figs;split
   ·next d=>
    cases l with
    | nil=>cases h
    | cons a r=>
     have f:a=45:=by simpa using d
     rcases Vat.mp h with h | h
     ·ac_rfl
     ·exact h
   ·exact h
  have:=Vbx.mp b 47 c;exact aB this 00
def oQ:Option Rat->D
 | some q=>frD q
 | none=>.non
def Zk7(o):plain 50 (oI o)=true:=by cases o<;>rfl
def ZrE(o):eqD (oI o) .non=o.isNone:=by cases o<;>rfl
def Zca(k):∀{l:List α},(∀a∈l,plain k (f a)=true)->ZaR k (l.map f)=true
 | [],_=>rfl
 | a::r,h=>by
  show (plain k (f a)&&ZaR k (r.map f))=true;rw [h a Vaq,Zca k λb c=>h b (Var _ c)];rfl
def Ziv(l:List α):inD x (l.map f)=l.any λa=>eqD (f a) x:=by
 unfold inD;rw [List.any_map];rfl
def ZgR(ha:Asc l)(hl:l.length<=900000)(q:Φ (oQ (ZaC l))):Tl (Zar [.str (mkS l)]) Φ:=by
 unfold Zar;symm;refine w_sD ?_;symm;refine ⟨_,rfl,?_⟩;symm;rw [litS];refine Zcx 04 ?_;symm;have v:=ZbG 47 l;refine ⟨by rw [VaX];ac_rfl,?_⟩;refine ZbX (λp=>oI (numL p)) (λp k=>?_) ?_
 ·obtain ⟨i,h⟩:=Zb7 k;symm;exact Zg9 (λc o=>ha c (i c o).1) 04 rfl
 symm;refine Zw1 rfl (Zca 50 λp _=>Zk7 _) ?_;rw [Ziv];simp only [ZrE];unfold ZaC at q;cases e:ZbU 47 l with
 | none=>
  rw [e] at q;have f:=ZdP (Zb5 e);rw [f];cases en:numL l with
  | none=>
   rw [en] at q;rw [show ([l].any λa=>(numL a).isNone)=true by simp [en]];symm;exact q
  | some n=>
   rw [en] at q;rw [show ([l].any λa=>(numL a).isNone)=false by simp [en]];dsimp only [List.map];rw [en];symm;exact q
 | some p=>
  obtain ⟨a,b⟩:=p;obtain ⟨t,u⟩:=Zbp e;rw [e] at q;dsimp only at q;have f:Zab 47 l=a::Zab 47 b:=by rw [t,Zey _ u]
  by_cases hb:47∈b
  ·rw [ZsG hb] at q;have j:Φ .non:=by
    cases en:numL a with
    | none=>rw [en] at q;exact q
    | some n=>rw [en] at q;exact q
   have h:=ZlT hb;have w:2<(Zab 47 l).length:=by rw [f,VaU];ac_rfl
   cases ha2:(Zab 47 l).any λa=>(numL a).isNone with
   | true=>
    symm;exact j
   | false=>
    symm;rw [VaX];symm;exact j
  ·rw [ZdP hb] at f;rw [f];cases en:numL a with
   | none=>
    rw [en] at q;rw [show ([a,b].any λa=>(numL a).isNone)=true by simp [en]];symm;exact q
   | some n=>
    cases ed:numL b with
    | none=>
     rw [en,ed] at q;rw [show ([a,b].any λa=>(numL a).isNone)=true by simp [en,ed]];symm;exact q
    | some d=>
     rw [en,ed] at q;rw [show ([a,b].any λa=>(numL a).isNone)=false by simp [en,ed]];dsimp only [List.map];rw [en,ed];dsimp only [oI];change Φ (oQ (mkQ n d)) at q;symm;refine ZbT (λi=>?_) (λi=>?_)
     ·have:mkQ n d=none:=by unfold mkQ;rw [dif_neg 04]
      rw [this] at q;symm;exact q
     symm;refine Zmz ?_;symm;refine Zvq (λh=>?_) (λh=>?_)
     ·have:mkQ n d=none:=by
       unfold mkQ;rw [dif_neg];rintro ⟨_,g⟩;exact h (by show ((Nat.gcd n.natAbs d.natAbs:Nat):Int)=1;rw [g];rfl)
      rw [this] at q;symm;exact q
     ·have s:Nat.gcd n.natAbs d.natAbs=1:=by
       have:((Nat.gcd n.natAbs d.natAbs:Nat):Int)=1:=h;ac_rfl
      cases eq:mkQ n d with
      | none=>unfold mkQ at eq;rw [dif_pos ⟨by ac_rfl,s⟩] at eq;cases eq
      | some r=>
       rw [eq] at q;have m:=Zrh eq;symm;rw [<-m];exact q
def allO(F:α->Option β):List α->Option (List β)
 | []=>some []
 | w::r=>(F w).bind λx=>(allO F r).map (x::·)
def cgX{t:MB}{F:α->Option β}:∀{ws:List α},(∀w∈ws,Tl (g (enc w) ρ) λρ1=>Tl (t ρ1) λb=>b=p w/\(p w=true->e ρ1=toX ((F w).map f)))->Zaz g t e ρ (ws.map enc)=toX ((allO F (ws.filter p)).map (List.map f))
 | [],_=>rfl
 | w::r,h=>by
  have ih:=cgX λa c=>h a (Var _ c);obtain ⟨ρ1,i,b,j,rfl,d⟩:=h w Vaq;rw [VaW];unfold Zaz;rw [i,ZaH,j,ZaH];cases hp:p w with
  | false=>
   rw [iN VaJ,ih,List.filter_cons_of_neg (by rw [hp];exact VaJ)]
  | true=>
   rw [iP rfl,d hp,ih,List.filter_cons_of_pos hp];rw [show allO F (w::r.filter p)=(F w).bind λx=>(allO F (r.filter p)).map (x::·) from rfl];cases F w with
   | none=>rfl
   | some x=>
    cases allO F (r.filter p) with
    | none=>rfl
    | some xs=>rfl
def litB:Str.ofString " "=mkS [32]:=by decide +kernel
def litN:Str.ofString "\n"=mkS [10]:=by decide +kernel
def Zfn{t:MB}(h1:it ρ=.ok xs)(hl:xs.length<=1000000)(h2:Zaz g t e (noA own (ybu ρ cap)) xs=toX o):Zcm it own cap g t e ρ=toX (o.map .lst):=by
 unfold Zcm;rw [h1,ZaH,iP (show xs.length<=LIM from hl),h2];cases o<;>rfl
def Zg0(h:k<=xs.length):cutL xs (some (k:Int)) none=xs.drop k:=by
 unfold cutL cutAt;dsimp only;rw [iN 04,Vcj,Nat.min_eq_left h,VbH (by rw [Vbk];ac_rfl)]
def ZsJ(h:k<=xs.length):cutL xs none (some (k:Int))=xs.take k:=by
 unfold cutL cutAt;dsimp only;rw [iN 04,Vcj,Nat.min_eq_left h,VbG,Nat.sub_zero]
def Zv3{f:List D->Res D}{m:MA}{c:Str}{ds:List D}(h1:m ρ=.ok ds)(h2:f ds=.ex c):st i (on f m) ρ=.ex c:=Zij (x_on (Zae h1 h2))
def x_iv{a:ME}{c:Str}(h:a ρ=.ex c):iv a ρ=.ex c:=Zbg h
def x_cX{it:MI}{own:Nat}{cap:01}{g:MG}{t:MB}{c:Str}(h:it ρ=.ex c):Zcm it own cap g t e ρ=.ex c:=Zbg h
def x_o2{f:D->D->Res D}{a b:ME}{c:Str}(h:a ρ=.ex c):o2 f a b ρ=.ex c:=Zbg h
def ZvL{a:ME}{ρ:Ev}{c:Str}(h:a ρ=.ex c):drp a ρ=.ex c:=Zbg h
def x_nT{α:Type}{P:Prop} [Decidable P] {A B:Res α} {c:Str} (hc:¬P) (h:A=.ex c):(if (!decide P)=true then A else B)=.ex c:=by rw [Vad hc];exact h
def Zk0:fn n (Dl.ret a) ds=a (ev0 n ds):=by
 show ((a (ev0 n ds)).bind λd=>.ok (Fl.rt d)).bind endOf=_;cases a (ev0 n ds)<;>rfl
def S(l:01):D:=.str (mkS l)
def ZpJ:List Str:=["BadFloor","BadPattern","BadThing","BadTriangle","NoRow"]
def exB:Res D->Bool
 | .ex c=>ZpJ.contains (clsOf c)&&Zkk c
 | _=>false
def Rd(r:Res D):Option D->Prop
 | some d=>r=.ok d
 | none=>exB r=true
def ex0:exB (.ex (tagX 0 "NoRow"))=true:=by decide +kernel
def exF:exB (.ex "BadFloor")=true:=by decide +kernel
def exP:exB (.ex "BadPattern")=true:=by decide +kernel
def exT:exB (.ex "BadThing")=true:=by decide +kernel
def exR:exB (.ex "BadTriangle")=true:=by decide +kernel
def Zvw:Rd (toX o) o:=by
 cases o with
 | none=>exact ex0
 | some d=>rfl
def fwL:List Nat:=[102,108,111,111,114]
def gwL:List Nat:=[103,114,111,117,110,100]
def swL:List Nat:=[115,112,111,116,115]
def ZpP:Str.ofString "floor"=mkS fwL:=by decide +kernel
def ZpZ:Str.ofString "ground"=mkS gwL:=by decide +kernel
def Zr8:Str.ofString "spots"=mkS swL:=by decide +kernel
structure Tx(t:01):Prop where
 a:Asc t
 l:t.length<=900
def Tx.sub{c:Nat}(h:Tx t)(hw:w∈Zab c t):Tx w:=⟨λx b=>h.a x ((Zb7 hw).1 x b).1,Vao (Zb7 hw).2 h.l⟩
def Tx.n(h:Tx t):t.length<=1000000:=Vao h.l 00
def Tx.ws{c:Nat}(h:Tx t):(Zab c t).length<=901:=Vao (ZbG c t).2 (VbP h.l)
def Zdc(c)(t):∃u ws,Zab c t=u::ws:=by
 cases e:Zab c t with
 | nil=>have:=(ZbG c t).1;rw [e] at this;cases this
 | cons u ws=>exact ⟨u,ws,rfl⟩
def wb(h t:01):Option (List 01):=if (Zab 32 t).head?=some h then some (Zab 32 t).tail else none
def jw(h t:01)(n:Nat):Option (List 01):=(wb h t).bind λa=>if a.length=n then some a else none
def ZtH{Φ:Fl->Prop}(e:a ρ=.ok (S t))(hl:t.length<=1000000)(q:Φ (.nx (ρ.set i (.im (.lst ((Zab 32 t).map S)))))):Tl (st i (sD Zau a (c (.str " "))) ρ) Φ:=by
 refine w_st (w_sD (Zae e ⟨_,rfl,?_⟩));symm;rw [litB];exact Zcx hl q
def ZlJ{h:01}(ah:Asc h)(T:Tx t):Zax [S h,S t]=toX ((wb h t).map λws=>.lst (ws.map S)):=by
 obtain ⟨u,ws,e⟩:=Zdc 32 t;have b:=T.sub (by rw [e];exact Vaq);unfold wb Zax;rw [e];by_cases hh:u=h
 ·subst hh;rw [show (if (u::ws).head?=some u then some (u::ws).tail else none)=some ws from iP rfl]
  refine ZaG (w_fn (w_sq (ZtH rfl T.n (w_gx ?_))));rw [e,VaW];symm;refine ZjL ah ah ?_;rw [Vbr rfl];symm;rw [show cutL (S u::ws.map S) (some 1) none=(S u::ws.map S).drop 1 from Zg0 03];rfl
 ·rw [show (if (u::ws).head?=some h then some (u::ws).tail else none)=none from iN λz=>hh (Vac z)]
  refine x_fn (Zbz (ZtH rfl T.n (x_gx (ZbV (ZcO ?_)))));rw [e,VaW];symm;refine ZjL b.a ah ?_;rw [Vad hh];symm;exact ZiO (α:=Fl) (k:=0) rfl
def Znq{h:01}{n:Nat}(ah:Asc h)(T:Tx t):Zap [S h,S t,.int (n:Int)]=toX ((jw h t n).map λws=>.lst (ws.map S)):=by
 have e:=ZlJ ah T;unfold jw Zap;cases ew:wb h t with
 | none=>
  rw [ew] at e;exact x_fn (ZbV (Zv3 rfl e))
 | some ws=>
  rw [ew] at e;rw [Vcq];by_cases hn:ws.length=n
  ·rw [iP hn];refine ZaG ?_;symm;refine Zae e ?_;symm;refine w_nF (by rw [VaX];ac_rfl) ?_;symm
  ·rw [iN hn];refine x_fn (Zbz ?_);symm;refine Zae e ?_;symm;refine x_gx (ZbV (ZcO ?_));symm;refine x_nT (by rw [VaX];ac_rfl) ?_;exact ZiO (α:=Fl) (k:=0) rfl
def Zwz(e:jw h t n=some ws)(hw:w∈ws):w∈Zab 32 t:=by
 unfold jw wb at e;split at e
 ·rw [Vcq] at e;split at e
  ·cases e;exact List.mem_of_mem_tail hw
  ·cases e
 ·cases e
def Zi3(e:jw h t n=some ws):ws.length=n:=by
 unfold jw at e;cases ew:wb h t with
 | none=>rw [ew] at e;cases e
 | some us=>
  rw [ew,Vcq] at e;split at e
  ·next z=>cases e;exact z
  ·cases e
def Znm(h:it ρ=.ok (ws.map S))(hw:∀w∈ws,Tx w)(hl:ws.length<=1000000):Zcm it 1 cap (gN 0) yes (on Zam 07) ρ=toX ((allO numL ws).map λns=>.lst (ns.map .int)):=by
 have k:=Zfn (own:=1) (cap:=cap) (g:=gN 0) (e:=on Zam 07) h (by rw [VaX];exact hl) (cgX λw b=>by
    symm
    exact ⟨rfl,λ_=>ZiV (hw w b).a (hw w b).n⟩)
 rw [Vcr.mpr λ_ _=>rfl] at k;rw [k];cases allO numL ws<;>rfl
def Zs3{h:01}{n:Nat}(ah:Asc h)(T:Tx t):ZaX [S h,S t,.int (n:Int)]=toX (((jw h t n).bind (allO numL)).map λns=>.lst (ns.map .int)):=by
 have e:=Znq (n:=n) ah T;unfold ZaX;rw [Zk0];cases ew:jw h t n with
 | none=>
  rw [ew] at e;exact x_cX (x_iv (x_on (Zae rfl e)))
 | some ws=>
  rw [ew] at e;have c:=Zi3 ew;have a:ws.length<=901:=by
   unfold jw wb at ew;split at ew
   ·rw [Vcq] at ew;split at ew
    ·cases ew;rw [List.length_tail];exact Vao (Nat.sub_le _ _) T.ws
    ·cases ew
   ·cases ew
  refine (Znm ?_ (λw b=>T.sub (Zwz ew b)) 04).trans ?_
  ·show ((Zap [S h,S t,.int (n:Int)]).bind items)=_;rw [e];rfl
  ·rw [Vcq]
def btw{n a b:Int}:Za1 [.int n,.int a,.int b]=.ok (.bl (decide (a<=n/\n<=b))):=by
 refine ZaG ?_;unfold Za1;symm;refine Zae (x:=.bl true) (by kernel_rfl) ?_;symm;refine ZbT (λh=>?_) (λh=>?_)
 ·symm;simp [h]
 ·symm;simp [h]
def Znd:ZbH [.int a,.int b]=if (1<=a/\a<=64)/\1<=b/\b<=64 then .ok .non else .ex "BadFloor":=by
 unfold ZbH;by_cases h:(1<=a/\a<=64)/\1<=b/\b<=64
 ·rw [iP h];refine ZaG ?_;symm;refine Zae btw ?_;rw [Vbr h.1];symm;refine Zae btw ?_;rw [Vbr h.2];symm
 ·rw [iN h];refine x_fn (ZcO ?_);symm;refine Zae btw ?_;by_cases h1:1<=a/\a<=64
  ·rw [Vbr h1];symm;refine Zae btw ?_;rw [Vad λz=>h ⟨h1,z⟩];symm;refine ZoI ?_;symm
  ·rw [Vad h1];symm;refine ZoI ?_;symm
def flO(t:01):Option (List Int):=((jw fwL t 2).bind (allO numL)).bind λa=>if ∀n∈a,1<=n/\n<=64 then some a else none
def ZaP{F:α->Option β}:∀{ws:List α} {xs:List β},allO F ws=some xs->xs.length=ws.length
 | [],xs,h=>by cases h;rfl
 | w::r,xs,h=>by
  unfold allO at h;cases hf:F w with
  | none=>rw [hf] at h;cases h
  | some x=>
   rw [hf,Vcq] at h;cases hr:allO F r with
   | none=>rw [hr] at h;cases h
   | some ys=>
    rw [hr] at h;cases h;exact VaA (·+1) (ZaP hr)
def Zeb(h:l.length=2):∃a b,l=[a,b]:=by
 match l,h with
 | [a,b],_=>exact ⟨a,b,rfl⟩
def ZpL(T:Tx t):Rd (ZaD [S t]) ((flO t).map λns=>.lst (ns.map .int)):=by
 have e:=Zs3 (h:=fwL) (n:=2) (ZaA rfl) T;unfold flO;cases en:(jw fwL t 2).bind (allO numL) with
 | none=>
  rw [en] at e;rw [show ZaD [S t]=.ex (tagX 0 "NoRow") from ?_]
  ·exact ex0
  ·unfold ZaD;refine x_fn (ZbV (Zv3 ?_ e));rw [ZpP];rfl
 | some ns=>
  rw [en] at e;rw [Vcq];have f:ns.length=2:=by
   cases ew:jw fwL t 2 with
   | none=>rw [ew] at en;cases en
   | some ws=>rw [ew,Vcq] at en;rw [ZaP en,Zi3 ew]
  obtain ⟨a,b,rfl⟩:=Zeb f;have first:∀{Ψ:Fl->Prop},Ψ (.nx [.im (S t),.im (.lst [.int a,.int b])])->Tl (st 1 (on ZaX (Zaa (c (.str "floor")) (Zaa (v 0) (Zaa (c (.int 2)) yaa)))) (ev0 2 [S t])) Ψ:=λq=>by
   symm;rw [ZpP];exact Zae e q
  have k:=Znd (a:=a) (b:=b);by_cases h:∀n∈[a,b],1<=n/\n<=64
  ·rw [iP h];rw [iP ⟨h a 03,h b 03⟩] at k;refine ZaG ?_;unfold ZaD;refine w_fn (w_sq (first (w_gx ?_)))
   symm;refine Zae k ?_;symm;rfl
  ·rw [iN h]
   rw [iN λz=>h λn d=>by
    simp only [Vat,VbT,Vcb] at d;rcases d with rfl | rfl
    ·exact z.1
    ·exact z.2] at k
   rw [show ZaD [S t]=.ex "BadFloor" from ?_]
   ·exact exF
   ·unfold ZaD;refine x_fn (Zbz (first (x_gx (ZbV (ZvL (x_on ?_))))))
    symm;exact k
def grO(t:01):Option Rat:=(jw gwL t 1).bind λa=>(a.head?).bind ZaC
def Zof(T:Tx t):Rd (ZaT [S t]) ((grO t).map frD):=by
 have e:=Znq (h:=gwL) (n:=1) (ZaA rfl) T;unfold grO ZaT;rw [Zk0];cases ew:jw gwL t 1 with
 | none=>
  rw [ew] at e;rw [show on Zal _ _=Res.ex (tagX 0 "NoRow") from ?_]
  ·exact ex0
  ·refine Zbg (Zi0 (x_o2 (x_on (Zae ?_ e))));rw [ZpZ];rfl
 | some ws=>
  rw [ew] at e;obtain ⟨w,rfl⟩ : ∃w,ws=[w]:=by
   match ws,Zi3 ew with
   | [w],_=>exact ⟨w,rfl⟩
  have b:=T.sub (Zwz ew Vaq);have k:=Zjo b.a (Vao b.l 00);have d:on Zal (Zaa (o2 dIx (on Zap (Zaa (c (.str "ground")) (Zaa (v 0) (Zaa 06 yaa)))) 002) yaa) (ev0 1 [S t])=Zal [S w]:=by
   rw [ZpZ];show ((((Zap [S gwL,S t,.int ((1:Nat):Int)]).bind λx=>_).bind λx=>_).bind _)=_;rw [e];rfl
  rw [d];show Rd (Zal [D.str (mkS w)]) _;rw [k];exact Zvw
def spO(w:01):Option (List Int):=allO numL (Zab 44 w)
def okS(k:List Int):Bool:=decide (k.length=2)&&k.all λn=>decide (1<=n/\n<=7)
def tupI(k:List Int):D:=.tup (k.map .int)
def litC:Str.ofString ","=mkS [44]:=by decide +kernel
def Zsx:Str.ofString ";"=mkS [59]:=by decide +kernel
def ZgO{a:ME}{s:Str}{c:Nat}(hs:s=mkS [c])(e:a ρ=.ok (S t))(hl:t.length<=1000000)(hc:c<256:=by decide):iv (sD Zau a (Dl.c (.str s))) ρ=.ok ((Zab c t).map S):=by
 subst hs;have h:sD Zau a (Dl.c (.str (mkS [c]))) ρ=.ok (.lst ((Zab c t).map S)):=ZaG (w_sD (Zae e ⟨_,rfl,Zae rfl (Zcx hl rfl hc)⟩));show ((sD Zau a (Dl.c (.str (mkS [c]))) ρ).bind items)=_;rw [h];rfl
def Ztp(T:Tx w):Zbf [S w]=toX ((spO w).map tupI):=by
 unfold Zbf;rw [Zk0];have k:=Znm (it:=iv (sD Zau (v 0) (c (.str ",")))) (cap:=[]) (ρ:=ev0 1 [S w]) (ZgO litC rfl T.n) (λu b=>T.sub b) (by have:=T.ws (c:=44);ac_rfl);unfold spO;show (((Zcm _ 1 [] (gN 0) yes _ (ev0 1 [S w])).bind λx=>(yaa (ev0 1 [S w])).bind λa=>.ok (x::a)).bind bTup)=_;rw [k];cases allO numL (Zab 44 w)<;>rfl
def spsO(t:01):Option (List (List Int)):=(wb swL t).bind (allO spO)
def Zsn(k):Zde [tupI k]=.ok (.bl (okS k)):=by
 refine ZaG ?_;unfold Zde tupI;symm;by_cases h:k.length=2
 ·obtain ⟨a,b,rfl⟩:=Zeb h;symm;refine Zae btw ?_;unfold okS;by_cases h1:1<=a/\a<=7
  ·rw [Vbr h1];symm;refine Zae btw ?_;symm;simp [h1]
  ·rw [Vad h1];symm;simp [h1]
 ·symm;unfold okS;simp [h]
def spsB(ks:List (List Int)):Bool:=decide (1<=ks.length)&&(decide (ks.length<=16)&&(ks.all okS&&decide ks.Nodup))
def Zjh:∀n,(firsts kf n).length<=n/\((firsts kf n).length=n↔∀i j,i<j->j<n->kf i≠kf j)/\∀x,x∈firsts kf n↔∃i,i<n/\kf i=x
 | 0=>⟨VaN _,⟨λ_ i j _ h=>aB h (Nat.not_lt_zero _),λ_=>rfl⟩,λx=>⟨(λh=>by cases h),λ⟨i,h,_⟩=>aB h (Nat.not_lt_zero _)⟩⟩
 | n+1=>by
  obtain ⟨l,k,c⟩:=Zjh n;unfold firsts;by_cases hm:kf n∈firsts kf n
  ·rw [iP hm];obtain ⟨i,d,g⟩:=(c _).mp hm;refine ⟨by ac_rfl,⟨λz=>by ac_rfl,λz=>aB g (z i n d 04)⟩,λx=>?_⟩;rw [c];refine ⟨λ⟨j,b,e⟩=>⟨j,by ac_rfl,e⟩,λzq=>?_⟩;obtain ⟨j,b,e⟩:=zq;by_cases hjn:j=n
   ·subst hjn;exact ⟨i,d,g.trans e⟩
   ·exact ⟨j,by ac_rfl,e⟩
  ·rw [iN hm];have f:=λi d e=>hm ((c _).mpr ⟨i,d,e⟩);refine ⟨by rw [Vbf];simpa using l,?_,λx=>?_⟩
   ·rw [Vbf];show (firsts kf n).length+1=n+1↔_;refine ⟨λz i j a b=>?_,λz=>?_⟩
    ·by_cases hjn:j=n
     ·subst hjn;exact f i a
     ·exact k.mp 04 i j a 04
    ·have:=k.mpr λi j a b=>z i j a 04;ac_rfl
   ·rw [Vau,c,VbZ];refine ⟨λz=>?_,λ⟨j,b,e⟩=>?_⟩
    ·rcases z with ⟨j,b,e⟩ | e
     ·exact ⟨j,by ac_rfl,e⟩
     ·exact ⟨n,by ac_rfl,e.symm⟩
    ·by_cases hjn:j=n
     ·subst hjn;exact .inr e.symm
     ·exact .inl ⟨j,by ac_rfl,e⟩
def Zlv:∀ks,keysOf (ks.map tupI)=some ks
 | []=>rfl
 | k::r=>by
  have e:∀k,intsOf (k.map .int)=some k:=by
   intro k
   induction k with
   | nil=>rfl
   | cons n r ih=>show (intsOf (r.map .int)).map (n::·)=_;rw [ih];rfl
  show (intsOf (k.map .int)).bind (λk=>(keysOf (r.map tupI)).map (k::·))=_;rw [e,Zlv r];rfl
def Zm7{ks:List (List Int)}:(∀i j,i<j->j<ks.length->ks.getD i []≠ks.getD j [])↔ks.Nodup:=by
 unfold List.Nodup;rw [Vb2];refine ⟨λh i j c b a=>?_,λh i j a b=>?_⟩
 ·have:=h i j a b;rwa [VbS,VbS,VbL c,VbL b] at this
 ·have:=h i j 04 b a;rw [VbS,VbS,VbL 04,VbL b];exact this
def Zk9{ks:List (List Int)}(hl:ks.length<=16)(q:∀n,(n=ks.length↔ks.Nodup)->Φ (.int (n:Int))):Tl (Zkx (.lst (ks.map tupI))) Φ:=by
 refine Zae (x:=D.int ((firsts (λi=>ks.getD i []) ks.length).length:Nat)) ?_ (q _ ?_)
 ·show (match keysOf (ks.map tupI) with
   | some ks'=>if (ks.map tupI).length<=16 then Res.ok (D.int ((firsts (λi=>ks'.getD i []) (ks.map tupI).length).length:Nat)) else .bad
   | none=>.bad)=_
  rw [Zlv];show (if (ks.map tupI).length<=16 then Res.ok (D.int ((firsts (λi=>ks.getD i []) (ks.map tupI).length).length:Nat)) else .bad)=_
  rw [VaX,iP hl]
 ·exact (Zjh ks.length).2.1.trans Zm7
def Zm0(hn:ks.length<=1000):ZbR [.lst (ks.map tupI)]=if spsB ks=true then .ok .non else .ex "BadFloor":=by
 have a:∀{ρ:Ev} {x:D},rse "BadFloor" (Zaa (c x) yaa) ρ=Res.ex "BadFloor":=λ{ρ x}=>ZoI (by symm);unfold ZbR;by_cases h1:1<=ks.length
 ·by_cases h2:ks.length<=16
  ·have b:∀{Ψ:List D->Prop},Ψ ((ks.map okS).map .bl)->Tl (Zaz (gN 0) yes (on Zde 07) [.no] (ks.map tupI)) Ψ:=λq=>by
    refine ZbX (λk=>D.bl (okS k)) (λk _=>?_) ?_
    ·symm;exact Zae (Zsn k) rfl
    ·rw [VbN] at q;exact q
   cases h3:ks.all okS with
   | true=>
    by_cases h4:ks.Nodup
    ·rw [iP (by unfold spsB;rw [h3];simp [h1,h2,h4])];refine ZaG ?_;symm;refine w_dF (by rw [VaX];ac_rfl) ?_;symm;refine w_dF (by rw [VaX];ac_rfl) ?_;symm;refine ⟨by rw [VaX];ac_rfl,b ?_⟩;symm;refine w_allB ?_;rw [show (ks.map okS).all id=true by rw [VbR];exact h3];symm;refine Zk9 h2 λn hn=>?_;symm;refine w_nF (by rw [VaX,hn.mpr h4]) ?_;symm
    ·rw [iN (by unfold spsB;simp [h4])];refine x_fn (Zbz ?_);symm;refine w_dF (by rw [VaX];ac_rfl) ?_;symm;refine w_dF (by rw [VaX];ac_rfl) ?_;symm;refine x_gx (Zbz ?_);symm;refine ⟨by rw [VaX];ac_rfl,b ?_⟩;symm;refine w_allB ?_;rw [show (ks.map okS).all id=true by rw [VbR];exact h3];symm;refine x_gx (ZcO ?_);symm;refine Zk9 h2 λn hn=>?_;symm;exact x_nT (by rw [VaX];exact λz=>h4 (hn.mp 04)) a
   | false=>
    rw [iN (by unfold spsB;rw [h3];simp)];refine x_fn (Zbz ?_);symm;refine w_dF (by rw [VaX];ac_rfl) ?_;symm;refine w_dF (by rw [VaX];ac_rfl) ?_;symm;refine x_gx (ZbV (ZcO ?_));symm;refine ⟨by rw [VaX];ac_rfl,b ?_⟩;symm;refine w_allB ?_;rw [show (ks.map okS).all id=false by rw [VbR];exact h3];symm;exact a
  ·rw [iN (by unfold spsB;simp [h2])];refine x_fn (ZbV (ZcO ?_));symm;refine w_dF (by rw [VaX];ac_rfl) ?_;symm;rw [Vbr (by rw [VaX];ac_rfl)];exact a
 ·rw [iN (by unfold spsB;simp [h1])];refine x_fn (ZbV (ZcO ?_));symm;refine w_dT (by rw [VaX];ac_rfl) ?_;symm;exact a
def Zqn(T:Tx t):Rd (ZaZ [S t]) (((spsO t).bind λks=>if spsB ks=true then some ks else none).map λks=>.lst (ks.map tupI)):=by
 have e:=ZlJ (h:=swL) (ZaA rfl) T;have d:Zax [.str (Str.ofString "spots"),S t]=toX ((wb swL t).map λb=>.lst (b.map S)):=by rw [Zr8];exact e
 have a:Zcm (iv (on Zax (Zaa (c (.str "spots")) 07))) 1 [] (gN 0) yes (on Zbf 07) (ev0 2 [S t])=toX ((spsO t).map λks=>.lst (ks.map tupI)):=by
  unfold spsO;cases ew:wb swL t with
  | none=>
   rw [ew] at d;exact x_cX (x_iv (x_on (Zae rfl d)))
  | some b=>
   rw [ew] at d;have i:∀w∈b,w∈Zab 32 t:=λw i=>by
    unfold wb at ew;split at ew
    ·cases ew;exact List.mem_of_mem_tail i
    ·cases ew
   have l:b.length<=901:=by
    unfold wb at ew;split at ew
    ·cases ew;rw [List.length_tail];exact Vao (Nat.sub_le _ _) T.ws
    ·cases ew
   have k:=Zfn (it:=iv (on Zax (Zaa (c (.str "spots")) 07))) (own:=1) (cap:=[]) (g:=gN 0) (e:=on Zbf 07) (ρ:=ev0 2 [S t]) (by
    show ((Zax [.str (Str.ofString "spots"),S t]).bind items)=_
    rw [d];rfl) (by rw [VaX];ac_rfl) (cgX λw f=>by
    symm
    exact ⟨rfl,λ_=>Ztp (T.sub (i w f))⟩)
   rw [Vcr.mpr λ_ _=>rfl] at k;rw [k,Vcq];cases allO spO b<;>rfl
 have j:∀ks,spsO t=some ks->ks.length<=901:=λks h=>by
  unfold spsO at h;cases ew:wb swL t with
  | none=>rw [ew] at h;cases h
  | some b=>
   rw [ew,Vcq] at h;rw [ZaP h];unfold wb at ew;split at ew
   ·cases ew;rw [List.length_tail];exact Vao (Nat.sub_le _ _) T.ws
   ·cases ew
 unfold ZaZ;cases es:spsO t with
 | none=>
  rw [es] at a;rw [show fn 2 _ [S t]=Res.ex (tagX 0 "NoRow") from x_fn (ZbV (Zij a))];exact ex0
 | some ks=>
  rw [es] at a;have k:=Zm0 (ks:=ks) (by have:=j ks es;ac_rfl);have first:∀{Ψ:Fl->Prop},Ψ (.nx [.im (S t),.im (.lst (ks.map tupI))])->Tl (st 1 (Zcm (iv (on Zax (Zaa (c (.str "spots")) 07))) 1 [] (gN 0) yes (on Zbf 07)) (ev0 2 [S t])) Ψ:=λq=>w_st (Zae a q)
  rw [Vcq];cases hb:spsB ks with
  | true=>
   rw [hb,iP rfl] at k;rw [iP rfl];refine ZaG (w_fn (w_sq (first (w_gx ?_))))
   symm;refine Zae k ?_;symm
  | false=>
   rw [hb,iN VaJ] at k;rw [show fn 2 _ [S t]=Res.ex "BadFloor" from x_fn (Zbz (first (x_gx (ZbV (ZvL (x_on (Zae rfl k)))))))]
   exact exF
def sg:List 01->List (List 01)
 | []=>[[]]
 | w::r=>if w=[47] then []::sg r else match sg r with
  | []=>[[w]]
  | g::gs=>(w::g)::gs
def ZoR:∀ws,sg ws≠[]
 | []=>by simp [sg]
 | w::r=>by
  unfold sg;split
  ·simp
  ·split<;>simp
def glG(g:List 01):List (List 01)->List (List 01)
 | []=>[g]
 | h::r=>(g++h)::r
def ZjB(h:w≠[47]):sg (w::r)=glG [w] (sg r):=by
 refine (iN h).trans ?_;cases sg r<;>rfl
def Zp0(r):sg ([47]::r)=[]::sg r:=iP rfl
def ZsI(a b)(L):glG a (glG b L)=glG (a++b) L:=by
 cases L<;>simp [glG]
def Znl(h:∀w,Asc w->trb (o2 dEq (v 2) (c (.str "/"))) ((ρ.set 1 .no).set 2 (.im (S w)))=.ok (decide (w=[47]))):∀ws gs g,(∀w∈ws,Asc w)->ZeE 1 2 (trb (o2 dEq (v 2) (c (.str "/")))) ρ (ws.map S) gs (g.map S)=.ok (gs++(glG g (sg ws)).map λx=>x.map S)
 | [],gs,g,_=>by
  show Res.ok (gs++[g.map S])=.ok (gs++[(g++[]).map S]);rw [Va2]
 | w::r,gs,g,ha=>by
  have a:=λx b=>ha x (Var w b);rw [VaW,ZeE,h w (ha w Vaq)];show (if decide (w=[47])=true then ZeE 1 2 _ ρ (r.map S) (gs++[g.map S]) [] else ZeE 1 2 _ ρ (r.map S) gs (g.map S++[S w]))=_
  by_cases hw:w=[47]
  ·rw [Vbr hw,iP rfl,hw,Zp0];refine (Znl h r (gs++[g.map S]) [] a).trans ?_;show Res.ok ((gs++[g.map S])++(glG [] (sg r)).map λx=>x.map S)=.ok (gs++((g++[])::sg r).map λx=>x.map S);rw [Va2,VbO];cases e:sg r with
   | nil=>exact aB e (ZoR r)
   | cons x xs=>rfl
  ·rw [Vad hw,iN VaJ,ZjB hw,ZsI];have:=Znl h r gs (g++[w]) a;rw [Vb1] at this;exact this
def ZmM(ha:∀w∈ws,Asc w)(hl:ws.length<1000):Zb1 [.lst (ws.map S)]=.ok (.lst ((sg ws).map λg=>.lst (g.map S))):=by
 have k:=Znl (ρ:=ev0 3 [.lst (ws.map S)]) (λw a=>by
  refine ZaG ?_;symm;rw [litS];refine Zdr a (ZaA rfl) ?_
  symm) ws [] [] ha
 unfold Zb1;show ((grp 1 2 0 _ (ev0 3 [.lst (ws.map S)])).bind endOf)=_;rw [show grp 1 2 0 (trb (o2 dEq (v 2) (c (.str "/")))) (ev0 3 [.lst (ws.map S)])=(if (true&&true&&true&&decide ((ws.map S).length<1000))=true then (ZeE 1 2 (trb (o2 dEq (v 2) (c (.str "/")))) (ev0 3 [.lst (ws.map S)]) (ws.map S) [] []).bind λb=>.ok (.rt (.lst (b.map .lst))) else .bad) from rfl,VaX,Vbr hl,iP (show (true&&true&&true&&true)=true from rfl)]
 show (((ZeE 1 2 _ _ _ [] (([]:List 01).map S)).bind _).bind endOf)=_;rw [k];show Res.ok (D.lst _)=_;congr 2;cases e:sg ws with
 | nil=>exact aB e (ZoR ws)
 | cons x xs=>simp [glG]
def coO(ws:List 01):Option (List Int):=if ws.length<4 then none else allO numL ws
def coD(ns:List Int):D:=.tup [.int (ns.getD 0 0),.int (ns.getD 1 0),.int (ns.getD 2 0),.int (ns.getD 3 0),.tup ((ns.drop 4).map .int)]
def Zku(h:4<=ns.length):∃x y w z vs,ns=x::y::w::z::vs:=by
 match ns,h with
 | x::y::w::z::vs,_=>exact ⟨x,y,w,z,vs,rfl⟩
def Zol(hw:∀w∈ws,Tx w)(hl:ws.length<=1000):ZaY [.lst (ws.map S)]=toX ((coO ws).map coD):=by
 unfold ZaY coO;by_cases h:ws.length<4
 ·rw [iP h];refine x_fn (ZbV (ZcO ?_));symm;rw [Vbr (by rw [VaX];ac_rfl)];exact ZiO (α:=Fl) (k:=0) rfl
 ·rw [iN h];have k:=Znm (it:=iv (v 0)) (cap:=[]) (ρ:=ev0 2 [.lst (ws.map S)]) rfl hw 04;have first:∀{Ψ:Fl->Prop},Ψ (.nx (ev0 2 [.lst (ws.map S)]))->Tl (ifs (trb (o2 dLt (on bLen 07) (c (.int 4)))) (rsP "NoRow" (Zaa 002 yaa)) nop (ev0 2 [.lst (ws.map S)])) Ψ:=λq=>by
   symm;refine w_dF (by rw [VaX];ac_rfl) ?_;symm;exact q
  cases e:allO numL ws with
  | none=>
   rw [e] at k;exact x_fn (Zbz (first (x_gx (ZbV (Zij k)))))
  | some ns=>
   rw [e] at k;obtain ⟨x,y,w,z,a,rfl⟩:=Zku (by rw [ZaP e];ac_rfl);refine ZaG (w_fn (w_sq (first (w_gx (w_sq (w_st (Zae k ?_)))))))
   symm;unfold coD;rw [show cutL (List.map D.int (x::y::w::z::a)) (some 4) none=(List.map D.int (x::y::w::z::a)).drop 4 from Zg0 03];rfl
def cB(n:Nat)(ns:List Int):Bool:=decide (1<=ns.getD 3 0)&&(decide ((ns.drop 4).length<=3)&&decide ((ns.drop 4).length=n))
def triB(cs:List (List Int)):Bool:=cs.all (λa=>cB ((cs.getD 0 []).drop 4).length a)&&cs.all λa=>decide (1<=a.getD 2 0)
def triD(cs:List (List Int)):D:=.tup (cs.map coD)
def Zjj(ns:List Int){Ψ:List D->Prop}(q:Ψ ((ns.map λ_=>true).map .bl)):Tl (Zaz (gN 0) yes (on Za8 07) [.no] (ns.map .int)) Ψ:=by
 refine ZbX (λ_=>D.bl true) (λn _=>?_) ?_
 ·symm;exact Zae (by kernel_rfl) rfl
 ·rw [VbN] at q;exact q
def Zix(l:List α):(l.map λ_=>true).all id=true:=by rw [VbR];exact Vbx.mpr λ_ _=>rfl
def ZqA{vs:List Int}(hl:vs.length<=1000):Zce [.tup (vs.map .int)]=.ok (.bl (decide (vs.length<=3))):=by
 refine ZaG ?_;unfold Zce;symm;by_cases h:vs.length<=3
 ·rw [Vbr h];symm;refine ⟨by rw [VaX];ac_rfl,Zjj vs ?_⟩;symm;refine w_allB ?_;rw [Zix];symm
 ·rw [Vad h];symm
def ZgQ(hl:ns.length<=1000):Zb9 [coD ns]=.ok (.bl (decide (1<=ns.getD 3 0)&&decide ((ns.drop 4).length<=3))):=by
 refine ZaG ?_;unfold Zb9 coD;symm;refine ⟨by show (4:Nat)<=1000000;decide,?_⟩;refine Zjj [ns.getD 0 0,ns.getD 1 0,ns.getD 2 0,ns.getD 3 0] ?_;symm;refine w_allB ?_;rw [Zix];symm;refine ZbT (λh=>?_) (λh=>?_)
 ·symm;refine Zae (ZqA (by rw [Vbk];ac_rfl)) ?_;symm;rw [Vbr h];rfl
 ·symm;rw [Vad h];rfl
def x_rs{k:Str}:rse k (Zaa (c x) yaa) ρ=.ex k:=ZoI (Zae (x:=[x]) rfl trivial)
def Zll{α:Type}{enc:α->D}{body:MS}{x:Cl}{k:Str}{p:α->Bool}(hp:∀a,p a=true->body [x,.im (enc a)]=.ok (.nx [x,.im (enc a)]))(hn:∀a,p a=false->body [x,.im (enc a)]=.ex k):∀(l:List α) (y:Cl),(l.all p=true->Tl (ZbJ (gN 1) body (l.map enc) [x,y]) λf=>∃z,f=.nx [x,z])/\(l.all p=false->ZbJ (gN 1) body (l.map enc) [x,y]=.ex k)
 | [],y=>⟨λ_=>w_f0 ⟨y,rfl⟩,λh=>by cases h⟩
 | a::r,y=>by
  have ih:=Zll hp hn r (.im (enc a));rw [VbQ,VaW];cases h:p a with
  | true=>
   rw [Vcs];exact ⟨λz=>w_f1 (Zae rfl (Zae (hp a h) (ih.1 z))),λz=>x_f2 (Zae rfl (Zae (hp a h) (ih.2 z)))⟩
  | false=>
   rw [VaL];exact ⟨(λz=>by cases z),λ_=>x_f1 (Zae rfl (hn a h))⟩
def Zev(h:l.length=3):∃a b c,l=[a,b,c]:=by
 match l,h with
 | [a,b,c],_=>exact ⟨a,b,c,rfl⟩
structure Cs(cs:List (List Int)):Prop where
 l:cs.length=3
 n:∀ns∈cs,ns.length<=1000
def Zt2{cs:List (List Int)}(h:Cs cs):ZaW [triD cs]=if cs.all (cB ((cs.getD 0 []).drop 4).length)=true then .ok .non else .ex "BadTriangle":=by
 obtain ⟨a,b,c,rfl⟩:=Zev h.l;have m:=h.n a 03;obtain ⟨enc,j⟩ : ∃enc:{d:List Int // d.length<=1000}->D,enc=λd=>coD d.1:=⟨_,rfl⟩
 have k:=Zll (enc:=enc) (x:=.im (triD [a,b,c])) (p:=λd=>cB (a.drop 4).length d.1) (body:=sq (ifs (bNot (trb (on Zb9 (Zaa (v 1) yaa)))) (rse "BadTriangle" (Zaa (Dl.c (.str "a corner is a tuple (x, y, w, h, values) of whole numbers, h from 1 on")) yaa)) nop) (ifs (trb (o2 dNe (on bLen (Zaa (o2 dIx (v 1) (Dl.c (.int 4))) yaa)) (on bLen (Zaa (o2 dIx (o2 dIx (v 0) (Dl.c (.int 0))) (Dl.c (.int 4))) yaa)))) (rse "BadTriangle" (Zaa (Dl.c (.str "the corners of a triangle have as many values each")) yaa)) nop)) (λd g=>by
   subst j;obtain ⟨d,i⟩:=d;unfold cB at g;rw [Vbo,Vbo,Vcd,Vcd,Vcd] at g;refine ZaG ?_;symm;refine Zae (ZgQ i) ?_;rw [Vbr g.1,Vbr g.2.1];symm
   try (unfold coD triD coD;symm)
   first | done | exact w_nF (by have:=g.2.2;dsimp only at this;ac_rfl) (Zae rfl rfl)) (λd g=>by
   subst j;obtain ⟨d,i⟩:=d;unfold cB at g;by_cases h1:1<=d.getD 3 0/\(d.drop 4).length<=3
   ·have o:¬(d.drop 4).length=(a.drop 4).length:=λz=>by rw [Vbr h1.1,Vbr h1.2,Vbr z] at g;cases g
    refine Zbz ?_;symm;refine Zae (ZgQ i) ?_;rw [Vbr h1.1,Vbr h1.2];symm;refine x_gx (ZcO ?_)
    try (unfold coD triD coD;symm)
    first | done | exact x_nT (λz=>o 04) x_rs
   ·refine ZbV (ZcO ?_);symm;refine Zae (ZgQ i) ?_
    rw [show (decide (1<=d.getD 3 0)&&decide ((d.drop 4).length<=3))=false by
     rw [<-Bool.decide_and];exact Vad h1]
    symm
    exact x_rs) [⟨a,m⟩,⟨b,h.n b 03⟩,⟨c,h.n c 03⟩] .no
 subst j;have e:([⟨a,m⟩,⟨b,h.n b 03⟩,⟨c,h.n c 03⟩]:List {d:List Int // d.length<=1000}).all (λd=>cB (a.drop 4).length d.1)=[a,b,c].all (cB (a.drop 4).length):=rfl;rw [e] at k;have first:∀{Ψ:Fl->Prop},Ψ (.nx [.im (triD [a,b,c]),.no])->Tl (ifs (bOr (bNot (trb (on bIsi (Zaa (v 0) (Zaa (Dl.c (.ty "tuple")) yaa))))) (trb (o2 dNe (on bLen 07) (Dl.c (.int 3))))) (rse "BadTriangle" (Zaa (Dl.c (.str "a triangle is a tuple of three corners")) yaa)) nop (ev0 2 [triD [a,b,c]])) Ψ:=λq=>by
  unfold triD;symm;exact q
 unfold ZaW;show _=if [a,b,c].all (cB (a.drop 4).length)=true then _ else _
 cases hb:[a,b,c].all (cB (a.drop 4).length) with
 | true=>
  rw [iP rfl];refine ZaG (w_fn (w_sq (first (w_gx (Zqb (Zae rfl ?_))))))
  refine (k.1 hb).mono ?_;rintro f ⟨z,rfl⟩;symm
 | false=>
  rw [iN VaJ];exact x_fn (Zbz (first (x_gx (ZtD (Zae rfl (k.2 hb))))))
def ZrS{cs:List (List Int)}:ZaN [triD cs]=if (cs.all λns=>decide (1<=ns.getD 2 0))=true then .ok .non else .ex "BadTriangle":=by
 have k:=Zll (enc:=coD) (x:=.im (triD cs)) (k:="BadTriangle") (p:=λns=>decide (1<=ns.getD 2 0)) (body:=ifs (trb (o2 dLe (o2 dIx (v 1) (c (.int 2))) 002)) (rse "BadTriangle" (Zaa (c (.str "only corners with w above 0 are thrown onto the floor")) yaa)) nop) (λns h=>by
   have h:=Vca h;refine ZaG ?_;unfold coD
   symm) (λns h=>by
   have h:=of_decide_eq_false h;refine ZcO ?_;unfold coD;symm
   exact x_T 04 x_rs) cs .no
 unfold ZaN;cases hb:(cs.all λns=>decide (1<=ns.getD 2 0)) with
 | true=>
  rw [iP rfl];refine ZaG (w_fn (Zqb (Zae rfl ?_)));refine (k.1 hb).mono ?_;rintro f ⟨z,rfl⟩;symm
 | false=>
  rw [iN VaJ];exact x_fn (ZtD (Zae rfl (k.2 hb)))
def Zh2{cs:List (List Int)}(h:Cs cs):Zbs [triD cs] []=if triB cs=true then .ok [("triangle",triD cs)] else .ex "BadTriangle":=by
 have b:=Zt2 h;have d:=ZrS (cs:=cs);have e:Zbs [triD cs] []=(ZaW [triD cs]).bind λ_=>(ZaN [triD cs]).bind λ_=>(if ([]:List Str).contains "triangle"=true\/100<=0 then Res.bad else .ok [(Str.ofString "triangle",triD cs)]):=rfl
 have a:(if ([]:List Str).contains "triangle"=true\/100<=0 then Res.bad else .ok [(Str.ofString "triangle",triD cs)])=.ok [(Str.ofString "triangle",triD cs)]:=iN 03
 rw [e,b,d,a];unfold triB;cases cs.all (cB ((cs.getD 0 []).drop 4).length) with
 | false=>rfl
 | true=>
  cases cs.all λc=>decide (1<=c.getD 2 0) with
  | false=>rfl
  | true=>rfl
def rowD(r:List Rat):D:=.lst (r.map frD)
def picD(p:List (List Rat)):D:=.lst (p.map rowD)
def ZiS(q):Zas [frD q]=.ok (.bl true):=by
 refine ZaG ?_;unfold frD;refine Zlm ?_;have b:=q.den_pos;have a:Nat.gcd q.num.natAbs ((q.den:Int)).natAbs=1:=by rw [Vcm];exact q.reduced
 rw [Vbr 04,Vbr a];rfl
def ZhR(q):ZaI [frD q]=.ok .non:=by
 refine ZaG ?_;unfold ZaI;symm;refine Zae (ZiS q) ?_;symm
def ZfG(q:Rat):Bool:=decide (0<=q.num/\q.num<=(q.den:Int))
def Zph(q:Rat):ZbE [frD q]=if ZfG q=true then .ok .non else .ex "BadThing":=by
 unfold ZbE ZfG;by_cases h:0<=q.num/\q.num<=(q.den:Int)
 ·rw [Vbr h,iP rfl];refine ZaG ?_;symm;refine Zae (ZiS q) ?_;unfold frD;symm
 ·rw [Vad h,iN VaJ];refine x_fn (ZcO ?_);symm;refine Zae (ZiS q) ?_;unfold frD;symm;refine ZbT (λ_=>?_) (λa=>?_)
  ·symm;exact x_rs
  ·symm;exact x_T 04 x_rs
def nv(cs:List (List Int)):Nat:=((cs.getD 0 []).drop 4).length
def Zk6{cs:List (List Int)}(h:Cs cs){k:Nat}(hk:k<10):ZaJ [triD cs,.int (k:Int)]=if k<=nv cs then .ok .non else .ex "BadThing":=by
 obtain ⟨a,b,c,rfl⟩:=Zev h.l;unfold ZaJ;show _=if k<=(a.drop 4).length then _ else _
 by_cases hv:k<=(a.drop 4).length
 ·rw [iP hv];refine ZaG ?_;unfold triD coD;symm
 ·rw [iN hv];refine x_fn (ZcO ?_);unfold triD coD;symm;refine x_T 04 (ZoI ?_);refine Za3 (Zae (x:=.str ("the corners of such a thing have "++Str.ofString (toString (k:Int)) ++ " values or more")) ?_ (Zae rfl trivial));exact iP ⟨by ac_rfl,by decide +kernel⟩
def pw(n:Nat):Bool:=[1,2,4,8,16].contains n
def ZvF(n:Nat):inD (.int (n:Int)) [.int 1,.int 2,.int 4,.int 8,.int 16]=pw n:=by
 have e:∀(k:Nat) ,((k:Int)==(n:Int))=(n==k):=λk=>by
  rw [Vcl,VaS,VaS];ac_rfl
 show (((1:Nat):Int)==(n:Int)||(((2:Nat):Int)==(n:Int)||(((4:Nat):Int)==(n:Int)||(((8:Nat):Int)==(n:Int)||(((16:Nat):Int)==(n:Int)||false)))))=_;rw [e,e,e,e,e];unfold pw;simp only [Vb0,List.contains_nil]
def Zhe(n:Nat):dNin (.int (n:Int)) (.tup [.int 1,.int 2,.int 4,.int 8,.int 16])=.ok (.bl (!pw n)):=by
 rw [<-ZvF];rfl
def ZnT(n:Nat):dNin (.int (n:Int)) (.lst [.int 1,.int 2,.int 4,.int 8,.int 16])=.ok (.bl (!pw n)):=by
 rw [<-ZvF];rfl
def patB(p:List (List Rat)):Bool:=pw p.length&&p.all λr=>pw r.length&&decide (r.length=(p.getD 0 []).length)
def Ztu(hn:∀r∈p,r.length<=1000):Za9 [picD p]=if patB p=true then .ok .non else .ex "BadPattern":=by
 unfold Za9 patB;cases h0:pw p.length with
 | false=>
  rw [VaL,iN VaJ];refine x_fn (ZbV (ZcO ?_));unfold picD;symm;rw [VaX];refine Zae (Zhe _) ?_;rw [h0];symm;exact x_rs
 | true=>
  rw [Vcs];obtain ⟨a,r,rfl⟩ : ∃a r,p=a::r:=by
   cases p with
   | nil=>cases h0
   | cons a r=>exact ⟨a,r,rfl⟩
  have d:∀(q:List Rat) {Ψ:List D->Prop},Ψ ((q.map λ_=>true).map .bl)->Tl (Zaz (gN 0) yes (on Zas 07) [.no] (q.map frD)) Ψ:=λq Ψ z=>by
   refine ZbX (λ_=>D.bl true) (λu _=>?_) ?_
   ·symm;exact Zae (ZiS u) rfl
   ·rw [VbN] at z;exact z
  obtain ⟨enc,e⟩ : ∃enc:{r:List Rat // r.length<=1000}->D,enc=λr=>rowD r.1:=⟨_,rfl⟩
  have k:=Zll (enc:=enc) (x:=.im (picD (a::r))) (p:=λq=>pw q.1.length&&decide (q.1.length=a.length)) (body:=sq (ifs (bOr (bNot (trb (on bIsi (Zaa (v 1) (Zaa (c (.ty "list")) yaa))))) (trb (o2 dNin (on bLen (Zaa (v 1) yaa)) (c (.tup [.int 1,.int 2,.int 4,.int 8,.int 16]))))) (rse "BadPattern" (Zaa (c (.str "a row of a pattern is a list of 1, 2, 4, 8 or 16 fractions")) yaa)) nop) (sq (ifs (trb (o2 dNe (on bLen (Zaa (v 1) yaa)) (on bLen (Zaa (o2 dIx (v 0) 002) yaa)))) (rse "BadPattern" (Zaa (c (.str "the rows of a pattern have as many fractions each")) yaa)) nop) (ifs (bNot (trb (on bAll (Zaa (comp (iv (v 1)) 1 [] (gN 0) yes (on Zas 07)) yaa)))) (rse "BadPattern" (Zaa (c (.str "what stands in a pattern is a fraction in lowest terms")) yaa)) nop))) (λq b=>by
    subst e;obtain ⟨q,h⟩:=q;rw [Vbo,Vcd] at b;refine ZaG ?_;unfold picD rowD;symm;rw [VaX];refine Zae (Zhe _) ?_;rw [b.1];symm;refine w_nF (by rw [VaX,VaX,b.2]) ?_;symm;refine ⟨by rw [VaX];ac_rfl,d q ?_⟩;symm;refine w_allB ?_;rw [Zix]
    symm) (λq b=>by
    subst e;obtain ⟨q,h⟩:=q;dsimp only at b;cases h1:pw q.length with
    | false=>
     refine ZbV (ZcO ?_);unfold picD rowD;symm;rw [VaX];refine Zae (Zhe _) ?_;rw [h1];symm;exact x_rs
    | true=>
     rw [h1,Vcs] at b;have l:=of_decide_eq_false b;refine Zbz ?_;unfold picD rowD;symm;rw [VaX];refine Zae (Zhe _) ?_;rw [h1];symm;refine x_gx (ZbV (ZcO ?_));symm
     exact x_nT (λz=>l (by rw [VaX,VaX] at z;ac_rfl)) x_rs)
  have g:=k ((a::r).attach.map λz=>⟨z.1,hn z.1 z.2⟩) .no;subst e;have i:(((a::r).attach.map λz=>(⟨z.1,hn z.1 z.2⟩ : {r:List Rat // r.length<=1000})).map λq=>rowD q.1)=(a::r).map rowD:=by
   rw [VbN]
   conv=>rhs;rw [<-List.attach_map_subtype_val (a::r),VbN]
   rfl
  have j:((a::r).attach.map λz=>(⟨z.1,hn z.1 z.2⟩ : {r:List Rat // r.length<=1000})).all (λq=>pw q.1.length&&decide (q.1.length=a.length))=(a::r).all λq=>pw q.length&&decide (q.length=a.length):=by
   rw [VbR]
   conv=>rhs;rw [<-List.attach_map_subtype_val (a::r),VbR]
   rfl
  rw [i,j] at g;have first:∀{Ψ:Fl->Prop},Ψ (.nx [.im (picD (a::r)),.no])->Tl (ifs (bOr (bNot (trb (on bIsi (Zaa (v 0) (Zaa (c (.ty "list")) yaa))))) (trb (o2 dNin (on bLen 07) (c (.tup [.int 1,.int 2,.int 4,.int 8,.int 16]))))) (rse "BadPattern" (Zaa (c (.str "a pattern is a list of 1, 2, 4, 8 or 16 rows")) yaa)) nop (ev0 2 [picD (a::r)])) Ψ:=λq=>by
   unfold picD;symm;rw [VaX];refine Zae (Zhe _) ?_;rw [h0];symm;exact q
  show _=if ((a::r).all λq=>pw q.length&&decide (q.length=a.length))=true then _ else _
  cases hb:(a::r).all λq=>pw q.length&&decide (q.length=a.length) with
  | true=>
   rw [iP rfl];refine ZaG (w_fn (w_sq (first (w_gx (Zqb (Zae rfl ?_))))))
   refine (g.1 hb).mono ?_;rintro f ⟨z,rfl⟩;symm
  | false=>
   rw [iN VaJ];exact x_fn (Zbz (first (x_gx (ZtD (Zae rfl (g.2 hb))))))
def Zmp(hl:p.length<=1000):Zew [picD p]=.ok (picD p):=by
 refine ZaG ?_;unfold Zew picD;symm;refine ⟨by rw [VaX];ac_rfl,?_⟩;refine ZbX (λr=>rowD r) (λr _=>?_) ?_
 ·unfold rowD;symm
 ·symm
def Zio(T:Tx w):Zal [S w]=toX ((ZaC w).map frD):=Zjo T.a (Vao T.l 00)
def ptO(w:01):Option (List (List Rat)):=allO (λr=>allO ZaC (Zab 44 r)) (Zab 59 w)
def Zu9(T:Tx w):ZbA [S w]=toX ((ptO w).map picD):=by
 unfold ZbA;rw [Zk0];have a:∀r,Tx r->Zcm (iv (sD Zau (v 0) (c (.str ",")))) 1 [] (gN 0) yes (on Zal 07) [.im (S r)]=toX ((allO ZaC (Zab 44 r)).map rowD):=λr R=>by
  have k:=Zfn (it:=iv (sD Zau (v 0) (c (.str ",")))) (own:=1) (cap:=[]) (g:=gN 0) (e:=on Zal 07) (ρ:=[.im (S r)]) (ZgO litC rfl R.n) (by rw [VaX];have:=R.ws (c:=44);ac_rfl) (cgX λw b=>by
   symm
   exact ⟨rfl,λ_=>Zio (R.sub b)⟩)
  rw [Vcr.mpr λ_ _=>rfl] at k;rw [k];cases allO ZaC (Zab 44 r)<;>rfl
 have k:=Zfn (it:=iv (sD Zau (v 0) (c (.str ";")))) (own:=1) (cap:=[]) (g:=gN 0) (ρ:=ev0 1 [S w]) (ZgO Zsx rfl T.n) (by rw [VaX];have:=T.ws (c:=59);ac_rfl) (cgX λr d=>by
  symm
  exact ⟨rfl,λ_=>a r (T.sub d)⟩)
 rw [Vcr.mpr λ_ _=>rfl] at k;rw [k];unfold ptO;cases allO (λr=>allO ZaC (Zab 44 r)) (Zab 59 w)<;>rfl
inductive Th
 | pl (q:Rat)
 | sh
 | pt (p:List (List Rat))
 | gl (q r:Rat)
def thD(cs:List (List Int)):Th->D
 | .pl q=>.ins "Plain" ["triangle","colour"] [triD cs,frD q]
 | .sh=>.ins "Shaded" ["triangle"] [triD cs]
 | .pt p=>.ins "Patterned" ["triangle","pattern"] [triD cs,picD p]
 | .gl q r=>.ins "Glass" ["triangle","colour","part"] [triD cs,frD q,frD r]
def plW:List Nat:=[112,108,97,105,110]
def shW:List Nat:=[115,104,97,100,101,100]
def paW:List Nat:=[112,97,116,116,101,114,110,101,100]
def gsW:List Nat:=[103,108,97,115,115]
def Zmm:Str.ofString "plain"=mkS plW:=by decide +kernel
def ZsC:Str.ofString "shaded"=mkS shW:=by decide +kernel
def ZoJ:Str.ofString "patterned"=mkS paW:=by decide +kernel
def Zpy:Str.ofString "glass"=mkS gsW:=by decide +kernel
def hdO(h:List 01)(n:Nat):Option Th :=
 if h.take 1=[plW]/\h.length=2 then (ZaC (h.getD 1 [])).map .pl
 else if h=[shW] then (if 1<=n then some .sh else none)
 else if h.take 1=[paW]/\h.length=2 then (ptO (h.getD 1 [])).bind λp=>if 2<=n/\patB p=true then some (.pt p) else none
 else if h.take 1=[gsW]/\h.length=3 then (ZaC (h.getD 1 [])).bind λq=>(ZaC (h.getD 2 [])).bind λr=>if ZfG r=true then some (.gl q r) else none
 else none
def ZiC{t:MB}(h:t ρ=.ok true):(sq (ifs t (Dl.ret a) nop) r ρ).bind endOf=a ρ:=by
 show (((t ρ).bind λx=>if x=true then Dl.ret a ρ else nop ρ).bind (goOn r)).bind endOf=_
 rw [h];show (((a ρ).bind λd=>.ok (Fl.rt d)).bind (goOn r)).bind endOf=_;cases a ρ<;>rfl
def Zgt{t:MB}{k:MS}(h:t ρ=.ok false):(sq (ifs t k nop) r ρ).bind endOf=(r ρ).bind endOf:=by
 show (((t ρ).bind λx=>if x=true then k ρ else nop ρ).bind (goOn r)).bind endOf=_
 rw [h];rfl
def ZhC{l:List 01}(h:∀w∈l,Asc w):plain 50 (.lst (l.map S))=true:=Zca 49 λw a=>(h w a).pl
def Zlh:∀xs ys:List 01,eqDs (xs.map S) (ys.map S)=decide (xs=ys)
 | [],[]=>rfl
 | [],_::_=>rfl
 | _::_,[]=>rfl
 | x::xs,y::ys=>by
  show ((mkS x==mkS y)&&eqDs (xs.map S) (ys.map S))=_;rw [Zko,Zlh xs ys,<-Bool.decide_and];exact Vcp.mpr (by rw [List.cons.injEq])
def Zn4{xs ys:List 01}(hx:∀w∈xs,Asc w)(hy:∀w∈ys,Asc w):dEq (.lst (xs.map S)) (.lst (ys.map S))=.ok (.bl (decide (xs=ys))):=by
 unfold dEq;rw [ZhC hx,ZhC hy];show Res.ok (D.bl (eqDs (xs.map S) (ys.map S)))=_;rw [Zlh]
def cut1(h:List 01):cutL (h.map S) none (some 1)=(h.take 1).map S:=by
 by_cases hl:1<=h.length
 ·rw [show cutL (h.map S) none (some 1)=(h.map S).take 1 from ZsJ (by rw [VaX];exact hl),List.map_take]
 ·rw [Vco.mp (show h.length=0 by ac_rfl)];rfl
def ZnI{h:List 01}{x:D}{W:01}{s:Str}{n:Nat}{m:Int}(hm:m=(n:Int))(hh:∀w∈h,Asc w)(aW:Asc W)(es:s=mkS W):bAnd (trb (o2 dEq (cut (v 0) pno (pso 06)) (mls (Zaa (c (.str s)) yaa)))) (trb (o2 dEq (on bLen 07) (c (.int m)))) [.im (.lst (h.map S)),.im x]=.ok (decide (h.take 1=[W]/\h.length=n)):=by
 subst es;subst hm;refine ZaG ?_;symm;rw [cut1];refine Zae (Zn4 (λw a=>hh w (List.mem_of_mem_take a)) λw a=>by rw [VbZ.mp a];exact aW) ?_;by_cases h1:h.take 1=[W]
 ·rw [Vbr h1];symm;rw [VaX];exact Vcp.mpr ⟨λz=>⟨h1,by ac_rfl⟩,λz=>by have:=z.2;ac_rfl⟩
 ·rw [Vad h1];symm;exact (Vad λz=>h1 z.1).symm
def Zxu{h:List 01}(hh:∀w∈h,Asc w):trb (o2 dEq (v 0) (mls (Zaa (c (.str "shaded")) yaa))) [.im (.lst (h.map S)),.im x]=.ok (decide (h=[shW])):=by
 refine ZaG ?_;symm;rw [ZsC];refine Zae (Zn4 (ys:=[shW]) hh λw a=>by rw [VbZ.mp a];exact ZaA rfl) ?_;symm
def ix_S{h:List 01}(hk:k<h.length):dIx (.lst (h.map S)) (.int (k:Int))=.ok (S (h.getD k [])):=by
 obtain ⟨w,e⟩ : ∃w,h[k]?=some w:=⟨_,VbL hk⟩;have a:(h.map S)[k]?=some (S w):=by rw [Vbd,e];rfl
 show (ofO (at_ (h.map S) (k:Int)))=_;unfold at_;rw [iP 04,Vcj,a,VbS,e];rfl
def Zsc{cs:List (List Int)}(h:Cs cs)(q:Rat):((ZfF [triD cs,frD q] []).bind λfl=>Res.ok (D.ins "Plain" (fl.map (·.1)) (fl.map (·.2))))=if triB cs=true then .ok (thD cs (.pl q)) else .ex "BadTriangle":=by
 have e:ZfF [triD cs,frD q] []=(Zbs [triD cs] []).bind λfl=>(ZaI [frD q]).bind λ_=>(if (fl.map (·.1)).contains (Str.ofString "colour")=true\/100<=fl.length then Res.bad else .ok (fl++[(Str.ofString "colour",frD q)])):=rfl
 rw [e,Zh2 h,ZhR];cases triB cs with
 | false=>rfl
 | true=>
  rw [iP rfl,iP rfl]
  kernel_rfl
def ZpK{cs:List (List Int)}(h:Cs cs):((ZdQ [triD cs] []).bind λfl=>Res.ok (D.ins "Shaded" (fl.map (·.1)) (fl.map (·.2))))=if triB cs=true then (if 1<=nv cs then .ok (thD cs .sh) else .ex "BadThing") else .ex "BadTriangle":=by
 have e:ZdQ [triD cs] []=(Zbs [triD cs] []).bind λfl=>(ZaJ [triD cs,.int ((1:Nat):Int)]).bind λ_=>.ok fl:=rfl;rw [e,Zh2 h,Zk6 h 00];cases triB cs with
 | false=>rfl
 | true=>
  by_cases hv:1<=nv cs
  ·rw [iP hv,iP hv];rfl
  ·rw [iN hv,iN hv];rfl
def ZxG(h:Cs cs)(hp:∀r∈p,r.length<=1000)(hl:p.length<=1000):((Zcb [triD cs,picD p] []).bind λfl=>Res.ok (D.ins "Patterned" (fl.map (·.1)) (fl.map (·.2))))=if triB cs=true then (if 2<=nv cs then (if patB p=true then .ok (thD cs (.pt p)) else .ex "BadPattern") else .ex "BadThing") else .ex "BadTriangle":=by
 have e:Zcb [triD cs,picD p] []=(Zbs [triD cs] []).bind λfl=>(ZaJ [triD cs,.int ((2:Nat):Int)]).bind λ_=>(Za9 [picD p]).bind λ_=>(Zew [picD p]).bind λd=>(if (fl.map (·.1)).contains (Str.ofString "pattern")=true\/100<=fl.length then Res.bad else .ok (fl++[(Str.ofString "pattern",d)])):=rfl
 rw [e,Zh2 h,Zk6 h 00,Ztu hp,Zmp hl];cases triB cs with
 | false=>rfl
 | true=>
  by_cases hv:2<=nv cs
  ·rw [iP hv,iP hv];cases patB p with
   | false=>rfl
   | true=>
    rw [iP rfl,iP rfl,iP rfl,iP rfl]
    kernel_rfl
  ·rw [iN hv,iN hv];rfl
def Ztn{cs:List (List Int)}(h:Cs cs)(q r:Rat):((ZfY [triD cs,frD q,frD r] []).bind λfl=>Res.ok (D.ins "Glass" (fl.map (·.1)) (fl.map (·.2))))=if triB cs=true then (if ZfG r=true then .ok (thD cs (.gl q r)) else .ex "BadThing") else .ex "BadTriangle":=by
 have e:ZfY [triD cs,frD q,frD r] []=(Zbs [triD cs] []).bind λfl=>(ZaI [frD q]).bind λ_=>(ZbE [frD r]).bind λ_=>(if (fl.map (·.1)).contains (Str.ofString "colour")=true\/100<=fl.length then Res.bad else (if ((fl++[(Str.ofString "colour",frD q)]).map (·.1)).contains (Str.ofString "part")=true\/100<=(fl++[(Str.ofString "colour",frD q)]).length then Res.bad else .ok ((fl++[(Str.ofString "colour",frD q)])++[(Str.ofString "part",frD r)]))):=rfl
 rw [e,Zh2 h,ZhR,Zph];cases triB cs with
 | false=>rfl
 | true=>
  cases ZfG r with
  | false=>rfl
  | true=>
   rw [iP rfl,iP rfl,iP rfl,iP rfl]
   kernel_rfl
def ZcS{α β:Type}{F:α->Option β}{P:β->Prop}:∀{ws:List α} {xs:List β},allO F ws=some xs->(∀w∈ws,∀x,F w=some x->P x)->∀x∈xs,P x
 | [],xs,h,_=>by cases h;exact λx hx=>(VbT hx).elim
 | w::r,xs,h,hp=>by
  unfold allO at h;cases hf:F w with
  | none=>rw [hf] at h;cases h
  | some y=>
   rw [hf,Vcq] at h;cases hr:allO F r with
   | none=>rw [hr] at h;cases h
   | some ys=>
    rw [hr] at h;cases h;intro x hx;rcases Vat.mp hx with rfl | hx
    ·exact hp w Vaq _ hf
    ·exact ZcS hr (λb a=>hp b (Var _ a)) x hx
def Zrb(T:Tx w){p:List (List Rat)}(h:ptO w=some p):p.length<=1000/\∀r∈p,r.length<=1000:=by
 unfold ptO at h;refine ⟨by rw [ZaP h];have:=T.ws (c:=59);ac_rfl,ZcS h λr b x a=>?_⟩;rw [ZaP a];have:=(T.sub b).ws (c:=44);ac_rfl
def thX(cs:List (List Int))(h:List 01):Option D:=if triB cs=true then (hdO h (nv cs)).map (thD cs) else none
def Zo4{h:List 01}(hm:m=(k:Int))(hk:k<h.length):on f (Zaa (o2 dIx (v 0) (c (.int m))) yaa) [.im (.lst (h.map S)),.im x]=f [S (h.getD k [])]:=by
 subst hm;show (((dIx (.lst (h.map S)) (.int (k:Int))).bind λx=>Res.ok [x]).bind f)=_;rw [ix_S hk];rfl
def ZwL(h:e [a,.im x]=.ok d):make n g (Zaa (v 1) (Zaa e yaa)) [a,.im x]=(g [x,d] []).bind λfl=>.ok (.ins n (fl.map (·.1)) (fl.map (·.2))):=by
 unfold make;rw [show Zaa (v 1) (Zaa e yaa) [a,.im x]=.ok [x,d] from ZaG (Za3 (Zae rfl (Za3 (Zae h (Zdj rfl)))))];rfl
def Zs2{k:Str}(h:e [a,.im x]=.ex k):make n g (Zaa (v 1) (Zaa e m)) [a,.im x]=.ex k:=Zbg (ZoE (Zae (x:=x) rfl (Zi0 h)))
def ZvC{k:Str}(h:e [a,.im x]=.ok d)(h':e' [a,.im x]=.ex k):make n g (Zaa (v 1) (Zaa e (Zaa e' m))) [a,.im x]=.ex k:=Zbg (ZoE (Zae (x:=x) rfl (ZoE (Zae h (Zi0 h')))))
def ZuY(h:e [a,.im x]=.ok d)(h':e' [a,.im x]=.ok d'):make n g (Zaa (v 1) (Zaa e (Zaa e' yaa))) [a,.im x]=(g [x,d,d'] []).bind λfl=>.ok (.ins n (fl.map (·.1)) (fl.map (·.2))):=by
 unfold make;rw [show Zaa (v 1) (Zaa e (Zaa e' yaa)) [a,.im x]=.ok [x,d,d'] from ZaG (Za3 (Zae rfl (Za3 (Zae h (Za3 (Zae h' (Zdj rfl)))))))];rfl
def ZxA(hh:∀w∈h,Tx w)(C:Cs cs):Rd (Zbq [.lst (h.map S),triD cs]) (thX cs h):=by
 have b:=λw s=>(hh w s).a;have i:∀k,k<h.length->Tx (h.getD k []):=λk n=>by
  rw [VbS,VbL n];exact hh _ (VbU n)
 have g:=ZnI (x:=triD cs) (m:=2) rfl b (ZaA rfl) Zmm;have j:=Zxu (x:=triD cs) b;have d:=ZnI (x:=triD cs) (m:=2) rfl b (ZaA rfl) ZoJ;have e:=ZnI (x:=triD cs) (m:=3) rfl b (ZaA rfl) Zpy;unfold Zbq thX hdO;show Rd ((sq _ _ [.im (.lst (h.map S)),.im (triD cs)]).bind endOf) _;by_cases c1:h.take 1=[plW]/\h.length=2
 ·rw [Vbr c1] at g;rw [ZiC g,iP c1];have o:=(Zo4 (x:=triD cs) (m:=1) (k:=1) rfl 04).trans (Zio (i 1 04));cases ef:ZaC (h.getD 1 []) with
  | none=>
   rw [ef] at o;rw [Zs2 o];show Rd (Res.ex _) (if _ then none else none)
   rw [ite_self];exact ex0
  | some q=>
   rw [ef] at o;rw [ZwL o,Zsc C];cases triB cs with
   | true=>rfl
   | false=>exact exR
 rw [Vad c1] at g;rw [Zgt g,iN c1];by_cases c2:h=[shW]
 ·rw [Vbr c2] at j;rw [ZiC j,iP c2];show Rd ((ZdQ [triD cs] []).bind _) _;rw [ZpK C];cases triB cs with
  | false=>exact exR
  | true=>
   by_cases hv:1<=nv cs
   ·rw [iP hv,iP hv];rfl
   ·rw [iN hv,iN hv];exact exT
 rw [Vad c2] at j;rw [Zgt j,iN c2];by_cases c3:h.take 1=[paW]/\h.length=2
 ·rw [Vbr c3] at d;rw [ZiC d,iP c3];have T:=i 1 04;have o:=(Zo4 (x:=triD cs) (m:=1) (k:=1) rfl 04).trans (Zu9 T);cases ep:ptO (h.getD 1 []) with
  | none=>
   rw [ep] at o;rw [Zs2 o];show Rd (Res.ex _) (if _ then none else none)
   rw [ite_self];exact ex0
  | some p=>
   rw [ep] at o;have l:=Zrb T ep;rw [ZwL o,ZxG C l.2 l.1,Vcq];cases triB cs with
   | false=>exact exR
   | true=>
    by_cases hv:2<=nv cs
    ·cases hb:patB p with
     | true=>rw [iP rfl,iP rfl,iP hv,iP rfl,iP ⟨hv,rfl⟩];rfl
     | false=>rw [iP rfl,iP rfl,iP hv,iN VaJ,iN λz=>aB z.2 VaJ];exact exP
    ·rw [iP rfl,iP rfl,iN hv,iN λz=>hv z.1];exact exT
 rw [Vad c3] at d;rw [Zgt d,iN c3];by_cases c4:h.take 1=[gsW]/\h.length=3
 ·rw [Vbr c4] at e;rw [ZiC e,iP c4];have o:=(Zo4 (x:=triD cs) (m:=1) (k:=1) rfl 04).trans (Zio (i 1 04));have f:=(Zo4 (x:=triD cs) (m:=2) (k:=2) rfl 04).trans (Zio (i 2 04));cases ef:ZaC (h.getD 1 []) with
  | none=>
   rw [ef] at o;rw [Zs2 o];show Rd (Res.ex _) (if _ then none else none)
   rw [ite_self];exact ex0
  | some q=>
   rw [ef] at o;rw [Vcq];cases eg:ZaC (h.getD 2 []) with
   | none=>
    rw [eg] at f;rw [ZvC o f];show Rd (Res.ex _) (if _ then none else none)
    rw [ite_self];exact ex0
   | some r=>
    rw [eg] at f;rw [ZuY o f,Ztn C,Vcq];cases triB cs with
    | false=>exact exR
    | true=>
     cases ZfG r with
     | true=>rfl
     | false=>exact exT
 rw [Vad c4] at e;rw [Zgt e,iN c4];show Rd _ (if _ then none else none)
 rw [ite_self];rw [show (rsP "NoRow" (Zaa 002 yaa) [.im (.lst (h.map S)),.im (triD cs)]).bind endOf=Res.ex (tagX 0 "NoRow") from by rw [ZiO (α:=Fl) rfl];rfl];exact ex0
def Zjm:∀{ws:List 01} {g:List 01},g∈sg ws->(∀w∈g,w∈ws/\w≠[47])/\g.length<=ws.length
 | [],g,h=>by
  rw [VbZ.mp h];exact ⟨λw hw=>(VbT hw).elim,VaN _⟩
 | u::r,g,h=>by
  by_cases hu:u=[47]
  ·rw [hu,Zp0] at h;rcases Vat.mp h with rfl | h
   ·exact ⟨λw hw=>(VbT hw).elim,Va0 _⟩
   ·obtain ⟨a,b⟩:=Zjm h;exact ⟨λw hw=>⟨Var _ (a w hw).1,(a w hw).2⟩,Vao b (Nat.le_succ _)⟩
  ·rw [ZjB hu] at h;cases e:sg r with
   | nil=>exact aB e (ZoR r)
   | cons x xs=>
    rw [e] at h;rcases Vat.mp h with rfl | h
    ·obtain ⟨a,b⟩:=Zjm (by rw [e];exact Vaq);refine ⟨λw hw=>?_,by simpa using b⟩;rcases Vat.mp hw with rfl | hw
     ·exact ⟨Vaq,hu⟩
     ·exact ⟨Var _ (a w hw).1,(a w hw).2⟩
    ·obtain ⟨a,b⟩:=Zjm (by rw [e];exact Var _ h);exact ⟨λw hw=>⟨Var _ (a w hw).1,(a w hw).2⟩,Vao b (Nat.le_succ _)⟩
def ZuC{k:MS}(h:k ρ=.ok (.nx ρ')):(sq k r ρ).bind endOf=(r ρ').bind endOf:=by
 show ((k ρ).bind (goOn r)).bind endOf=_;rw [h];rfl
def Zs8:(Dl.ret a ρ).bind endOf=a ρ:=by
 show ((a ρ).bind λd=>.ok (Fl.rt d)).bind endOf=_;cases a ρ<;>rfl
def thO(t:01):Option D:=if (sg (Zab 32 t)).length=4 then (allO coO (sg (Zab 32 t)).tail).bind λa=>thX a ((sg (Zab 32 t)).getD 0 []) else none
def Zgu(h:coO ws=some ns):ns.length=ws.length/\4<=ns.length:=by
 unfold coO at h;split at h
 ·cases h
 ·next a=>have:=ZaP h;ac_rfl
def Zgj(h:l.length=4):∃a b c d,l=[a,b,c,d]:=by
 match l,h with
 | [a,b,c,d],_=>exact ⟨a,b,c,d,rfl⟩
def ZoW(T:Tx t):Rd (ZaU [S t]) (thO t):=by
 have W:=T.ws (c:=32);have i:∀w∈Zab 32 t,Tx w:=λw i=>T.sub i;have x:=ZmM (λw h=>(i w h).a) 04;have first:∀{Ψ:Fl->Prop},Ψ (.nx [.im (S t),.im (.lst ((sg (Zab 32 t)).map λg=>.lst (g.map S)))])->Tl (st 1 (on Zb1 (Zaa (sD Zau (v 0) (c (.str " "))) yaa)) (ev0 2 [S t])) Ψ:=λq=>by
  refine w_st (w_on (Za3 (w_sD (Zae rfl ⟨_,rfl,?_⟩))));symm;rw [litB];refine Zcx T.n ?_;symm;exact Zae x q
 have p:Zbj [S t]=.ok .non:=rfl;unfold ZaU thO;generalize hG:sg (Zab 32 t)=G at *;have o:∀g∈G,(∀w∈g,Tx w)/\g.length<=901:=λg f=>by
  rw [<-hG] at f;obtain ⟨u,l⟩:=Zjm f;exact ⟨λw j=>i w (u w j).1,Vao l W⟩
 by_cases h4:G.length=4
 ·rw [iP h4];obtain ⟨h,a,b,c,rfl⟩:=Zgj h4
  have k:=Zfn (it:=iv (cut (v 1) (pso (Dl.c (.int 1))) pno)) (own:=1) (cap:=[]) (g:=gN 0) (e:=on ZaY 07) (ρ:=[.im (S t),.im (.lst ([h,a,b,c].map λg=>.lst (g.map S)))]) (xs:=[a,b,c].map λg=>.lst (g.map S)) (by kernel_rfl) (show (3:Nat)<=1000000 by decide) (cgX λg f=>by
   symm;have:=o g (Var _ f)
   exact ⟨rfl,λ_=>Zol this.1 04⟩)
  rw [Vcr.mpr λ_ _=>rfl] at k;have l:=ZaG (first rfl)
  show Rd ((sq _ _ (ev0 2 [S t])).bind endOf) _;rw [ZuC (ZaG (Zop (w_on (Za3 (Zae rfl (Zdj (Zae p rfl))))))),ZuC l,Zgt (rfl),Zs8];show Rd _ ((allO coO [a,b,c]).bind λd=>thX d h);cases ec:allO coO [a,b,c] with
  | none=>
   rw [ec] at k;rw [show on Zbq _ _=Res.ex (tagX 0 "NoRow") from Zbg (ZoE (Zae rfl (Zi0 (Zbg (Zi0 k)))))];exact ex0
  | some d=>
   rw [ec] at k;rw [Vcq]
   have C:Cs d:=⟨ZaP ec,ZcS ec λr m y s=>by
    have:=(Zgu s).1;have:=(o r (Var _ m)).2
    ac_rfl⟩
   have e:on Zbq (Zaa (o2 dIx (v 1) (Dl.c (.int 0))) (Zaa (on bTup (Zaa (Zcm (iv (cut (v 1) (pso (Dl.c (.int 1))) pno)) 1 [] (gN 0) yes (on ZaY 07)) yaa)) yaa)) [.im (S t),.im (.lst ([h,a,b,c].map λg=>.lst (g.map S)))]=Zbq [.lst (h.map S),triD d]:=by
    show (Zaa _ _ _).bind Zbq=_;rw [show Zaa (o2 dIx (v 1) (Dl.c (.int 0))) (Zaa (on bTup (Zaa (Zcm (iv (cut (v 1) (pso (Dl.c (.int 1))) pno)) 1 [] (gN 0) yes (on ZaY 07)) yaa)) yaa) [.im (S t),.im (.lst ([h,a,b,c].map λg=>.lst (g.map S)))]=.ok [.lst (h.map S),triD d] from ZaG (Za3 (Zae rfl (Za3 (w_on (Za3 (Zae k (Zdj (Zq2 (Zdj rfl))))))))) ];rfl
   rw [e];exact ZxA (o h Vaq).1 C
 ·rw [iN h4];rw [show fn 2 _ [S t]=Res.ex (tagX 0 "NoRow") from x_fn (Zbz (Zop (w_on (Za3 (Zae rfl (Zdj (Zae p (x_gx (Zbz (first (x_gx (ZbV (ZcO ?_)))))))))))))]
  ·exact ex0
  ·symm;refine x_nT (by rw [VaX];ac_rfl) ?_;exact ZiO (α:=Fl) (k:=0) rfl
def Zdm{F:α->Option β}:∀{ws:List α} {xs:List β},allO F ws=some xs->ws.map F=xs.map some
 | [],xs,h=>by
  injection h with h
  subst h;rfl
 | w::r,xs,h=>by
  unfold allO at h;cases e:F w with
  | none=>rw [e] at h;cases h
  | some x=>
   rw [e] at h;cases e2:allO F r with
   | none=>rw [e2] at h;cases h
   | some ys=>
    rw [e2] at h;injection h with h
    subst h;rw [VaW,VaW,e,Zdm e2]
def Zfc{F:α->Option β}:∀{ws:List α},allO F ws=none->(ws.any λw=>(F w).isNone)=true
 | [],h=>by cases h
 | w::r,h=>by
  unfold allO at h;rw [List.any_cons];cases e:F w with
  | none=>rfl
  | some x=>
   rw [e] at h;cases e2:allO F r with
   | none=>rw [Zfc e2];simp
   | some ys=>rw [e2] at h;cases h
def ch3{w:Int}(ha:a ρ=.ok (.int x))(hb:b ρ=.ok (.int y))(hd:d ρ=.ok (.int u))(he:e ρ=.ok (.int w)):Zfq dLe dLe dLe a b d e ρ=.ok (.bl (decide (x<=y/\y<=u/\u<=w))):=by
 unfold Zfq;rw [ha,ZaH,hb,ZaH];show (if decide (x<=y)=true then _ else _)=_
 by_cases h1:x<=y
 ·rw [iP (Vbr h1),hd,ZaH];show (if decide (y<=u)=true then _ else _)=_
  by_cases h2:y<=u
  ·rw [iP (Vbr h2),he,ZaH];show Res.ok (D.bl (decide (u<=w)))=_;simp [h1,h2]
  ·rw [iN (by simp [h2])];simp [h2]
 ·rw [iN (by simp [h1])];simp [h1]
def Zvy{ws:List 01}(h:it ρ=.ok (ws.map S))(hw:∀w∈ws,Tx w)(hl:ws.length<=1000):comp it 1 cap (gN 0) yes (on Zav 07) ρ=.ok (.lst (ws.map λw=>oI (numL w))):=by
 refine ZaG (ZjS (Zae h ⟨by rw [VaX];ac_rfl,?_⟩));refine ZbX (λw=>oI (numL w)) (λw b=>?_) rfl;symm;exact Zg9 (hw w b).a (hw w b).n rfl
def anyN(ws:List 01):Bool:=ws.any λw=>(numL w).isNone
def ZqI(ws):inD .non (ws.map λw=>oI (numL w))=anyN ws:=by
 rw [Ziv];unfold anyN;congr 1;funext w;exact ZrE _
def Zq3(k:Nat)(ws:List 01):ZaR 50 (ws.map λw=>oI (numL w))=true:=Zca 50 λw _=>Zk7 _
def ZmA(ws:List 01):dNin .non (.lst (ws.map λw=>oI (numL w)))=.ok (.bl (!anyN ws)):=by
 show (if (true&&ZaR 50 (ws.map λw=>oI (numL w)))=true then _ else _)=_
 rw [Zq3 0,iP (show (true&&true)=true from rfl),ZqI]
def Zok(ws:List 01):dIn .non (.lst (ws.map λw=>oI (numL w)))=.ok (.bl (anyN ws)):=by
 show (if (true&&ZaR 50 (ws.map λw=>oI (numL w)))=true then _ else _)=_
 rw [Zq3 0,iP (show (true&&true)=true from rfl),ZqI]
def ZiJ(h:allO numL ws=none):anyN ws=true:=Zfc h
def any_some(h:allO numL ws=some ns):anyN ws=false/\(ws.map λw=>oI (numL w))=ns.map .int:=by
 have e:=Zdm h;have c:(ws.map λw=>oI (numL w))=(ws.map numL).map oI:=by rw [VbN];rfl
 refine ⟨?_,by rw [c,e,VbN];rfl⟩;unfold anyN;rw [Vab];intro z;obtain ⟨w,d,a⟩:=List.any_eq_true.mp z;have b:numL w∈ws.map numL:=Vct d;rw [e] at b;obtain ⟨x,_,ex⟩:=Vbw.mp b;rw [<-ex] at a;cases a
def ZkB{a b lo hi:Int}:(lo<=min a b/\min a b<=max a b/\max a b<=hi)↔∀n∈[a,b],lo<=n/\n<=hi:=by
 simp only [Vat,VbT,Vcb];constructor
 ·rintro h n (rfl | rfl)<;>ac_rfl
 ·intro h;have:=h a (.inl rfl);have:=h b (.inr rfl);ac_rfl
def ZrF(h:ρ[i]?=some (.im (.lst [.int a,.int b]))):on Zjy (Zaa (v i) yaa) ρ=.ok (.int (min a b))/\on ZjN (Zaa (v i) yaa) ρ=.ok (.int (max a b)):=by
 constructor
 ·exact ZaG (w_on (Za3 (w_v h (Zdj (Zvg (r:=[b]) rfl)))))
 ·exact ZaG (w_on (Za3 (w_v h (Zdj (Zwv (r:=[b]) rfl)))))
def rngB(ws:List 01):Bool:=match allO numL ws with
 | some ns=>decide (ns.length=2)&&decide (∀n∈ns,1<=n/\n<=64)
 | none=>false
def Zpi(t):(flO t).isSome=((wb fwL t).any rngB):=by
 unfold flO jw;cases wb fwL t with
 | none=>rfl
 | some ws=>
  rw [Vcq];show _=rngB ws;unfold rngB;by_cases h2:ws.length=2
  ·rw [iP h2,Vcq];cases e:allO numL ws with
   | none=>rfl
   | some ns=>
    rw [Vcq];show _=(decide (ns.length=2)&&_);rw [ZaP e,Vbr h2,Vcs];by_cases h:∀n∈ns,1<=n/\n<=64
    ·rw [iP h,Vbr h];rfl
    ·rw [iN h,Vad h];rfl
  ·rw [iN h2];cases e:allO numL ws with
   | none=>rfl
   | some ns=>
    show false=(decide (ns.length=2)&&_);rw [ZaP e,Vad h2];rfl
def Zqt(t):(grO t).isSome=((wb gwL t).any λws=>decide (ws.length=1)&&(ZaC (ws.getD 0 [])).isSome):=by
 unfold grO jw;cases wb gwL t with
 | none=>rfl
 | some ws=>
  rw [Vcq];show _=(decide (ws.length=1)&&_);by_cases h1:ws.length=1
  ·rw [iP h1,Vbr h1,Vcs,Vcq]
   match ws,h1 with
   | [w],_=>rfl
  ·rw [iN h1,Vad h1];rfl
def Zo7(e:Zab 32 t=u::ws):wb h t=if u=h then some ws else none:=by
 unfold wb;rw [e];by_cases hu:u=h
 ·rw [iP hu];exact iP (VaA some hu)
 ·rw [iN hu];exact iN λz=>hu (Vac z)
def ZqH(q:Φ (.bl (rngB ws))):Tl (eAnd (o2 dEq (on bLen (Zaa (v 3) yaa)) (c (.int 2))) (eAnd (o2 dNin (c .non) (v 3)) (Zfq dLe dLe dLe 06 (on Zjy (Zaa (v 3) yaa)) (on ZjN (Zaa (v 3) yaa)) (c (.int 64)))) [a0,a1,a2,.im (.lst (ws.map λw=>oI (numL w)))]) Φ:=by
 symm;rw [VaX];unfold rngB at q;cases e:allO numL ws with
 | none=>
  rw [e] at q;refine ZbT (λh=>?_) (λh=>?_)
  ·symm;refine Zae (ZmA ws) ?_;rw [ZiJ e];symm;exact q
  ·symm;exact q
 | some ns=>
  obtain ⟨f,g⟩:=any_some e;rw [e] at q;have q:Φ (.bl (decide (ns.length=2)&&decide (∀n∈ns,1<=n/\n<=64))):=q;have j:=ZaP e;refine ZbT (λh=>?_) (λh=>?_)
  ·have d:ns.length=2:=by ac_rfl
   rw [Vbr d,Vcs] at q;obtain ⟨a,b,rfl⟩:=Zeb d;symm;refine Zae (ZmA ws) ?_;rw [f];symm;have m:=ZrF (ρ:=[a0,a1,a2,.im (.lst (ws.map λw=>oI (numL w)))]) (i:=3) (by rw [g];rfl);refine Zae (ch3 rfl m.1 m.2 rfl) ?_;rw [Vcp.mpr ZkB];exact q
  ·rw [Vad 04] at q;symm;exact q
def swB(ws:List 01):Bool:=match allO spO ws with
 | some ks=>spsB ks
 | none=>false
def ZpN(t):((spsO t).bind λks=>if spsB ks=true then some ks else none).isSome=((wb swL t).any swB):=by
 unfold spsO;cases wb swL t with
 | none=>rfl
 | some ws=>
  rw [Vcq];show _=swB ws;unfold swB;cases allO spO ws with
  | none=>rfl
  | some ks=>
   rw [Vcq];show _=spsB ks;cases spsB ks<;>rfl
def lstI(k:List Int):D:=.lst (k.map .int)
def ZnZ:∀a b:List Int,eqDs (a.map .int) (b.map .int)=decide (a=b)
 | [],[]=>rfl
 | [],_::_=>rfl
 | _::_,[]=>rfl
 | x::a,y::b=>by
  show ((x==y)&&eqDs (a.map .int) (b.map .int))=_;rw [ZnZ a b,show (x==y)=decide (x=y) from rfl,<-Bool.decide_and];exact Vcp.mpr (by rw [List.cons.injEq])
def ZwD(k:List Int)(ks:List (List Int)):dIn (lstI k) (.lst (ks.map lstI))=.ok (.bl (decide (k∈ks))):=by
 have c:∀(n:Nat) (l:List Int),ZaR n (l.map .int)=true:=λn l=>Zca n λ_ _=>by cases n<;>rfl
 have e:plain 50 (lstI k)=true:=c 49 k;have f:ZaR 50 (ks.map lstI)=true:=Zca 50 λa _=>c 49 a;show (if (plain 50 (lstI k)&&ZaR 50 (ks.map lstI))=true then _ else _)=_
 rw [e,f,iP (show (true&&true)=true from rfl),Ziv];congr 2;rw [Vcl,List.any_eq_true,Vcd];have b:∀a,eqD (lstI a) (lstI k)=decide (a=k):=λa=>ZnZ a k;constructor
 ·rintro ⟨a,d,h⟩;rw [b] at h;exact Vca h▸d
 ·exact λh=>⟨k,h,by rw [b];exact Vbr rfl⟩
def ZoF:MS:=sq (st 3 (comp (iv (sD Zau (v 2) (c (.str ",")))) 1 [] (gN 0) yes (on Zav 07)))
  (sq (ifs (pkB 1 (bOr (trb (o2 dIn (c .non) (v 3))) (bOr (trb (o2 dNe (on bLen (Zaa (v 3) yaa)) (c (.int 2)))) (bOr (bNot (trb (Zfq dLe dLe dLe 06 (on Zjy (Zaa (v 3) yaa)) (on ZjN (Zaa (v 3) yaa)) (c (.int 7))))) (trb (o2 dIn (v 3) (v 1)))))))
  (Dl.ret (c (.bl false)))
  nop)
  (app 1 (v 3)))
def Zti(T:Tx w)(hl:ks.length<=1000)(hn:(∀k,spO w=some k->okS k=true->k∈ks)->Ψ (.rt (.bl false)))(hy:∀k,spO w=some k->okS k=true->k∉ks->Ψ (.nx [a0,.ow ((ks++[k]).map lstI),.im (S w),.im (lstI k)])):Tl (ZoF [a0,.ow (ks.map lstI),.im (S w),v3]) Ψ:=by
 unfold ZoF;refine w_sq (w_st (Zae (Zvy (ZgO litC rfl T.n) (λu p=>T.sub p) (by have:=T.ws (c:=44);ac_rfl)) (w_gx ?_)));symm;refine Zae (Zok _) ?_;symm;cases e:allO numL (Zab 44 w) with
 | none=>
  rw [ZiJ e];symm;exact hn λk h _=>by unfold spO at h;rw [e] at h;cases h
 | some k=>
  obtain ⟨l,o⟩:=any_some e;have h:spO w=some k:=e;have g:∀{j:List Int},spO w=some j->j=k:=λz=>by rw [h] at z;exact (Vac z).symm
  rw [l,o];symm;by_cases hk2:k.length=2
  ·obtain ⟨a,b,rfl⟩:=Zeb hk2;symm;have m:=ZrF (ρ:=[a0,.im (.lst (ks.map lstI)),.im (S w),.im (.lst ([a,b].map .int))]) (i:=3) rfl;refine Zae (ch3 rfl m.1 m.2 rfl) ?_;by_cases hr:∀n∈[a,b],1<=n/\n<=7
   ·have ok:okS [a,b]=true:=by
     unfold okS;rw [show decide ([a,b].length=2)=true from rfl,Vcs,Vbx];exact λn hn=>Vbr (hr n hn)
    rw [Vbr (ZkB.mpr hr)];symm;refine Zae (ZwD [a,b] ks) ?_;by_cases hm:[a,b]∈ks
    ·rw [Vbr hm];symm;exact hn λk f _=>by rw [g f];exact hm
    ·rw [Vad hm];symm;refine ⟨by rw [VaX];ac_rfl,?_⟩;have:=hy [a,b] h ok hm;rw [Vb1] at this;exact this
   ·rw [Vad λz=>hr (ZkB.mp z)];symm;refine hn λk f d=>?_;rw [g f] at d;unfold okS at d;rw [Vbo,Vbx] at d;exact aB (λn hn=>Vca (d.2 n hn)) hr
  ·symm;refine hn λq f d=>?_;rw [g f] at d;unfold okS at d;rw [Vad hk2] at d;cases d
def Zpj(a0:Cl)(ks:List (List Int))(rest:List 01)(f:Fl):Prop:=match allO spO rest with
 | some k'=>if (k'.all okS&&decide (ks++k').Nodup)=true then ∃a b,f=.nx [a0,.ow ((ks++k').map lstI),a,b] else f=.rt (.bl false)
 | none=>f=.rt (.bl false)
def ZuU:∀{rest:List 01} {ks:List (List Int)} {v2 v3:Cl},(∀w∈rest,Tx w)->ks.Nodup->ks.length+rest.length<=1000->Tl (ZbJ (gN 2) ZoF (rest.map S) [a0,.ow (ks.map lstI),v2,v3]) (Zpj a0 ks rest)
 | [],ks,v2,v3,_,hd,_=>by
  refine w_f0 ?_;show (if (true&&decide (ks++[]).Nodup)=true then _ else _)
  rw [Va2,Vbr hd,iP (show (true&&true)=true from rfl)];exact ⟨v2,v3,rfl⟩
 | w::r,ks,v2,v3,hw,hd,d=>by
  have d:ks.length+r.length+1<=1000:=d;rw [VaW];refine w_f1 (Zae rfl ?_);refine Zti (hw w Vaq) 04 (λg=>?_) (λk c b l=>?_)
  ·refine w_tr ?_;unfold Zpj;have e:allO spO (w::r)=(spO w).bind λx=>(allO spO r).map (x::·):=rfl;rw [e];cases c:spO w with
   | none=>rfl
   | some k=>
    rw [Vcq];cases allO spO r with
    | none=>rfl
    | some k'=>
     show (if ((k::k').all okS&&decide (ks++k::k').Nodup)=true then _ else _)
     rw [iN];intro z;rw [Vbo,VbQ,Vbo,Vcd,List.nodup_append] at z;exact z.2.2.2 k (g k c z.1.1) k Vaq rfl
  ·refine w_tx ?_;refine (ZuU (λu i=>hw u (Var _ i)) ?_ (by rw [Vbf];show ks.length+1+r.length<=1000;ac_rfl)).mono λf a=>?_
   ·rw [List.nodup_append];exact ⟨hd,by simp,λx j y h e=>by rw [VbZ.mp h] at e;exact l (e▸j)⟩
   ·unfold Zpj at a ⊢;have e:allO spO (w::r)=(spO w).bind λx=>(allO spO r).map (x::·):=rfl;rw [e,c,Vcq];cases hr:allO spO r with
    | none=>rw [hr] at a;exact a
    | some k'=>
     rw [hr] at a;have a:(if (k'.all okS&&decide ((ks++[k])++k').Nodup)=true then ∃v2 v3,f=.nx [a0,.ow (((ks++[k])++k').map lstI),v2,v3] else f=.rt (.bl false)):=a
     show (if ((k::k').all okS&&decide (ks++k::k').Nodup)=true then ∃v2 v3,f=.nx [a0,.ow ((ks++k::k').map lstI),v2,v3] else f=.rt (.bl false))
     rw [VbQ,b,Vcs];rw [VbO] at a;exact a
def ZmL(hw:∀w∈ws,Tx w)(hl:ws.length<=1000)(q:Φ (.bl (swB ws))):Tl (Zbi [.lst (ws.map S)]) Φ:=by
 unfold Zbi;symm;refine Tl.mono (ZuU hw List.nodup_nil (by simpa using hl)) λf a=>?_;unfold Zpj at a;unfold swB at q;cases e:allO spO ws with
 | none=>
  rw [e] at a q;have a:=a;subst a;symm;exact q
 | some ks=>
  rw [e] at a q;have q:Φ (.bl (spsB ks)):=q;unfold spsB at q;have a:(if (ks.all okS&&decide (ks).Nodup)=true then ∃b c,f=.nx [.im (.lst (ws.map S)),.ow (ks.map lstI),b,c] else f=.rt (.bl false)):=a
  cases hb:(ks.all okS&&decide ks.Nodup) with
  | false=>
   rw [hb] at a q;rw [iN VaJ] at a;subst a;symm;rw [Vb9,Vb9] at q;exact q
  | true=>
   rw [hb] at a q;rw [iP rfl] at a;obtain ⟨b,c,rfl⟩:=a;rw [Vb8] at q;symm;rw [VaX];refine ZbT (λh=>?_) (λh=>?_)
   ·rw [Vbr 04,Vcs] at q;symm;rw [show decide ((ks.length:Int)<=16)=decide (ks.length<=16) from Vcp.mpr 04];exact q
   ·rw [Vad 04,VaL] at q;symm;exact q
def Zna:MS:=sq (st 3 (comp (iv (sD Zau (v 2) (c (.str " ")))) 1 [] (gN 0) yes (on Zav 07)))
  (ifs (bOr (trb (o2 dIn (c .non) (v 3))) (bOr (trb (o2 dNe (on bLen (Zaa (v 3) yaa)) (v 1))) (bOr (bNot (trb (chain dLe dLe (c (.int 4)) (v 1) (c (.int 7))))) (bOr (trb (o2 dLt (o2 dIx (v 3) (c (.int 2))) 06)) (trb (o2 dLt (o2 dIx (v 3) (c (.int 3))) 06))))))
  (Dl.ret (o1 dNeg 06))
  nop)
def lcB(m:Nat)(g:List 01):Bool:=match allO numL g with
 | some ns=>decide (ns.length=m)&&(decide (4<=m/\m<=7)&&(decide (1<=ns.getD 2 0)&&decide (1<=ns.getD 3 0)))
 | none=>false
def ZrM(T:Tx p)(hy:lcB m (Zab 32 p)=true->∀z,Ψ (.nx [a0,.im (.int (m:Int)),.im (S p),z]))(hn:lcB m (Zab 32 p)=false->Ψ (.rt (.int (-1)))):Tl (Zna [a0,.im (.int (m:Int)),.im (S p),v3]) Ψ:=by
 unfold Zna;refine w_sq (w_st (Zae (Zvy (ZgO litB rfl T.n) (λu f=>T.sub f) (by have:=T.ws (c:=32);ac_rfl)) (w_gx ?_)));symm;refine Zae (Zok _) ?_;cases e:allO numL (Zab 32 p) with
 | none=>
  rw [ZiJ e];symm;exact hn (by unfold lcB;rw [e])
 | some ns=>
  obtain ⟨g,j⟩:=any_some e;have i:lcB m (Zab 32 p)=(decide (ns.length=m)&&(decide (4<=m/\m<=7)&&(decide (1<=ns.getD 2 0)&&decide (1<=ns.getD 3 0)))):=by unfold lcB;rw [e]
  rw [i] at hy hn;rw [g,j];symm;by_cases hm:ns.length=m
  ·rw [Vbr hm,Vcs] at hy hn;symm;by_cases h47:4<=m/\m<=7
   ·rw [Vbr h47,Vcs] at hy hn;symm;obtain ⟨x,y,w,h,k,rfl⟩:=Zku (ns:=ns) 04;symm;have hy:(decide (1<=w)&&decide (1<=h))=true->_:=hy;have hn:(decide (1<=w)&&decide (1<=h))=false->_:=hn;refine ZbT (λa=>?_) (λa=>?_)
    ·symm;exact hn (by rw [Vad 04];rfl)
    ·symm;refine ZbT (λd=>?_) (λd=>?_)
     ·symm;exact hn (by rw [Vad (show ¬1<=h by ac_rfl),Vb9])
     ·symm;exact hy (by rw [Vbr 04,Vbr 04];rfl) _
   ·rw [Vad h47,VaL] at hn;refine ZbT (λb=>?_) (λb=>?_)
    ·symm;exact hn rfl
    ·symm;exact hn rfl
  ·rw [Vad hm,VaL] at hn;refine w_nT 04 ?_;symm;exact hn rfl
def Zut{a0:Cl}{m:Nat}:∀{ps:List 01} {v2 v3:Cl},(∀p∈ps,Tx p)->Tl (ZbJ (gN 2) Zna (ps.map S) [a0,.im (.int (m:Int)),v2,v3]) λf=>((ps.all λp=>lcB m (Zab 32 p))=true/\∃y z,f=.nx [a0,.im (.int (m:Int)),y,z])\/((ps.all λp=>lcB m (Zab 32 p))=false/\f=.rt (.int (-1)))
 | [],v2,v3,_=>w_f0 (.inl ⟨rfl,v2,v3,rfl⟩)
 | p::r,v2,v3,hp=>by
  rw [VaW];refine w_f1 (Zae (x:=[a0,.im (.int (m:Int)),.im (S p),v3]) rfl ?_);refine ZrM (hp p Vaq) (λh z=>?_) (λh=>?_)
  ·rw [VbQ,h,Vcs];exact w_tx (Zut λq a=>hp q (Var _ a))
  ·exact w_tr (.inr ⟨by rw [VbQ,h];rfl,rfl⟩)
def ZhJ:lcB m g=true↔∃ns,coO g=some ns/\ns.length=m/\(4<=m/\m<=7)/\1<=ns.getD 2 0/\1<=ns.getD 3 0:=by
 unfold lcB coO;cases e:allO numL g with
 | none=>
  refine ⟨(λh=>by cases h),λzq=>?_⟩;obtain ⟨ns,h,_⟩:=zq;split at h<;>cases h
 | some ns=>
  have j:=ZaP e;rw [Vbo,Vbo,Vbo,Vcd,Vcd,Vcd,Vcd];refine ⟨λ⟨d,f,a,b⟩=>⟨ns,iN 04,d,f,a,b⟩,λzq=>?_⟩;obtain ⟨i,c,d,f,a,b⟩:=zq;split at c
  ·cases c
  ·cases c;exact ⟨d,f,a,b⟩
def ZuX{a b c:List 01}:([a,b,c].all (lcB a.length))=true↔∃cs,allO coO [a,b,c]=some cs/\triB cs=true:=by
 constructor
 ·intro h;rw [Vbx] at h;obtain ⟨x,ex,x1,x2,x3,x4⟩:=ZhJ.mp (h a 03);obtain ⟨y,w,H,D,C,B⟩:=ZhJ.mp (h b 03);obtain ⟨z,d,I,G,A,v⟩:=ZhJ.mp (h c 03);refine ⟨[x,y,z],?_,?_⟩
  ·show (coO a).bind (λx=>((coO b).bind λy=>((coO c).bind λz=>some [z]).map (y::·)).map (x::·))=_;rw [ex,w,d];rfl
  ·unfold triB cB;simp only [VbQ,List.all_nil,List.getD_cons_zero,Vb8,Vbk];simp only [Vbo,Vcd];exact ⟨⟨⟨x4,by ac_rfl,trivial⟩,⟨B,by ac_rfl,by ac_rfl⟩,v,by ac_rfl,by ac_rfl⟩,x3,C,A⟩
 ·rintro ⟨cs,u,f⟩;obtain ⟨x,y,z,rfl⟩:=Zev (ZaP u:cs.length=3);have e:(coO a).bind (λx=>((coO b).bind λy=>((coO c).bind λz=>some [z]).map (y::·)).map (x::·))=some [x,y,z]:=u;cases ea:coO a with
  | none=>rw [ea] at e;cases e
  | some x'=>
   cases eb:coO b with
   | none=>rw [ea,eb] at e;cases e
   | some y'=>
    cases d:coO c with
    | none=>rw [ea,eb,d] at e;cases e
    | some z'=>
     rw [ea,eb,d] at e;cases e;have F:=Zgu ea;have i:=Zgu eb;have o:=Zgu d;unfold triB cB at f;simp only [VbQ,List.all_nil,List.getD_cons_zero,Vb8,Vbk] at f;simp only [Vbo,Vcd] at f;rw [Vbx];intro g m;simp only [Vat,VbT,Vcb] at m;obtain ⟨⟨⟨J,E,_⟩,⟨j,r,t⟩,k,q,n⟩,l,p,s⟩:=f;rcases m with rfl | rfl | rfl
     ·clear j r t k q n p s i o;exact ZhJ.mpr ⟨_,ea,by ac_rfl,by ac_rfl,by ac_rfl,by ac_rfl⟩
     ·clear k q n l s o;exact ZhJ.mpr ⟨_,eb,by ac_rfl,by ac_rfl,by ac_rfl,by ac_rfl⟩
     ·clear j r t l p i;exact ZhJ.mpr ⟨_,d,by ac_rfl,by ac_rfl,by ac_rfl,by ac_rfl⟩
def Zpk{a b c:01}(ha:Tx a)(hb:Tx b)(hc:Tx c)(hn:(∀cs,allO coO [Zab 32 a,Zab 32 b,Zab 32 c]=some cs->triB cs=false)->Φ (.int (-1)))(hy:∀cs,allO coO [Zab 32 a,Zab 32 b,Zab 32 c]=some cs->triB cs=true->Φ (.int ((nv cs:Nat):Int))):Tl (Zbx [.lst ([a,b,c].map S)]) Φ:=by
 unfold Zbx;symm;refine w_sD (Zae rfl ⟨_,rfl,?_⟩);symm;rw [litB];refine Zcx ha.n ?_;symm;rw [VaX]
 refine Tl.mono (Zut λp j=>by
  simp only [Vat,VbT,Vcb] at j;rcases j with rfl | rfl | rfl
  ·exact ha
  ·exact hb
  ·exact hc) λf k=>?_
 have d:=ZuX (a:=Zab 32 a) (b:=Zab 32 b) (c:=Zab 32 c);have e:([a,b,c].all λp=>lcB (Zab 32 a).length (Zab 32 p))=[Zab 32 a,Zab 32 b,Zab 32 c].all (lcB (Zab 32 a).length):=rfl;rw [e] at k;rcases k with ⟨h,y,z,rfl⟩ | ⟨h,rfl⟩
 ·obtain ⟨cs,g,i⟩:=d.mp h;symm;have:=hy cs g i;have l:=ZaP g;obtain ⟨x,y,z,rfl⟩:=Zev (l:cs.length=3);have ex:coO (Zab 32 a)=some x:=by
   have e:(coO (Zab 32 a)).bind (λx=>(allO coO [Zab 32 b,Zab 32 c]).map (x::·))=some [x,y,z]:=g;cases ea:coO (Zab 32 a) with
   | none=>rw [ea] at e;cases e
   | some x'=>
    rw [ea,Vcq] at e;cases eb:allO coO [Zab 32 b,Zab 32 c] with
    | none=>rw [eb] at e;cases e
    | some ys=>rw [eb] at e;cases e;rfl
  have m:=Zgu ex
  rw [show ((Zab 32 a).length:Int) - 4=((nv [x,y,z]:Nat):Int) by
   show _=(((x.drop 4).length:Nat):Int)
   rw [Vbk];ac_rfl]
  exact this
 ·symm;refine hn λcs g=>?_;cases i:triB cs with
  | false=>rfl
  | true=>rw [d.mpr ⟨cs,g,i⟩] at h;cases h
def Zqw(k:Nat)(q:Rat):plain (k+1) (frD q)=true:=by
 cases k<;>rfl
def ZpM(k)(o):plain (k+1) (oQ o)=true:=by
 cases o with
 | none=>rfl
 | some q=>exact Zqw k q
def Zvv(o):eqD (oQ o) .non=o.isNone:=by cases o<;>rfl
def anyQ(ws:List 01):Bool:=ws.any λw=>(ZaC w).isNone
def ZxW(ws):dNin .non (.lst (ws.map λw=>oQ (ZaC w)))=.ok (.bl (!anyQ ws)):=by
 show (if (true&&ZaR 50 (ws.map λw=>oQ (ZaC w)))=true then _ else _)=_
 rw [Zca 50 λw _=>ZpM 49 _,iP (show (true&&true)=true from rfl),Ziv];unfold anyQ;congr 4;funext w;exact Zvv _
def Znp(ws):anyQ ws=(allO ZaC ws).isNone:=by
 cases e:allO ZaC ws with
 | none=>exact Zfc e
 | some xs=>
  have h:=Zdm e;unfold anyQ;rw [show (some xs).isNone=false from rfl,Vab];intro z;obtain ⟨w,c,a⟩:=List.any_eq_true.mp z;have b:ZaC w∈ws.map ZaC:=Vct c;rw [h] at b;obtain ⟨x,_,ex⟩:=Vbw.mp b;rw [<-ex] at a;cases a
def Zmh(l:01):D:=.lst ((Zab 44 l).map λw=>oQ (ZaC w))
def lpB(w:01):Bool:=match ptO w with
 | some p=>patB p
 | none=>false
def Zxd(e:ls=a::r):(match allO (λr=>allO ZaC (Zab 44 r)) ls with
 | some p=>patB p
 | none=>false)=(pw ls.length&&(pw (Zab 44 a).length&&ls.all λl=>decide ((Zab 44 l).length=(Zab 44 a).length)&&!anyQ (Zab 44 l))):=by
 cases h:allO (λr=>allO ZaC (Zab 44 r)) ls with
 | none=>
  have x:=Zfc h;obtain ⟨l,c,B⟩:=List.any_eq_true.mp x;have:(ls.all λl=>decide ((Zab 44 l).length=(Zab 44 a).length)&&!anyQ (Zab 44 l))=false:=by
   rw [List.all_eq_false];exact ⟨l,c,by rw [Znp,B];simp⟩
  rw [this,Vb9,Vb9]
 | some p=>
  show patB p=_;have k:=Zdm h;have o:=ZaP h;have n:∀l∈ls,∃q∈p,allO ZaC (Zab 44 l)=some q:=λl c=>by
   have g:allO ZaC (Zab 44 l)∈ls.map λr=>allO ZaC (Zab 44 r):=Vct c;rw [k] at g;obtain ⟨q,d,i⟩:=Vbw.mp g;exact ⟨q,d,i.symm⟩
  have f:∀q∈p,∃l∈ls,allO ZaC (Zab 44 l)=some q:=λq d=>by
   have g:some q∈p.map some:=Vct d;rw [<-k] at g;obtain ⟨l,c,m⟩:=Vbw.mp g;exact ⟨l,c,m⟩
  subst e;obtain ⟨b,s,rfl⟩ : ∃b s,p=b::s:=by
   cases p with
   | nil=>cases o
   | cons b s=>exact ⟨b,s,rfl⟩
  have w:allO ZaC (Zab 44 a)=some b:=by
   have:=VaA List.head? k;exact Vac this
  have j:=ZaP w;unfold patB;rw [o,show ((b::s).getD 0 []).length=b.length from rfl];cases pw (a::r).length with
  | false=>rfl
  | true=>
   rw [Vcs,Vcs,Vcl,Vbo,Vbx,Vbx];constructor
   ·intro z;have v:=z b Vaq;rw [Vbo] at v;refine ⟨j▸v.1,λl c=>?_⟩;obtain ⟨q,d,i⟩:=n l c;have u:=z q d;rw [Vbo,Vcd] at u;rw [Znp,i,<-ZaP i,u.2,<-j];simp
   ·rintro ⟨A,y⟩ q d;obtain ⟨l,c,m⟩:=f q d;have t:=y l c;rw [Vbo,Vcd] at t;rw [Vbo,Vcd,ZaP m,t.1,j];exact ⟨A,rfl⟩
def Zsi(T:Tx w)(q:Φ (.bl (lpB w))):Tl (Za7 [S w]) Φ:=by
 unfold Za7;obtain ⟨a,r,e⟩:=Zdc 59 w;have b:∀l,Tx l->comp (iv (sD Zau (v 0) (c (.str ",")))) 1 [] (gN 0) yes (on Zar 07) [.im (S l)]=.ok (Zmh l):=λl L=>by
  refine ZaG (ZjS (Zae (ZgO litC rfl L.n) ⟨by rw [VaX];have:=L.ws (c:=44);ac_rfl,?_⟩));refine ZbX (λw=>oQ (ZaC w)) (λu d=>?_) rfl;symm;exact ZgR (L.sub d).a (Vao (L.sub d).l 00) rfl
 have f:comp (iv (sD Zau (v 0) (c (.str ";")))) 1 [] (gN 0) yes (comp (iv (sD Zau (v 0) (c (.str ",")))) 1 [] (gN 0) yes (on Zar 07)) (ev0 2 [S w])=.ok (.lst ((Zab 59 w).map Zmh)):=by
  refine ZaG (ZjS (Zae (ZgO Zsx rfl T.n) ⟨by rw [VaX];have:=T.ws (c:=59);ac_rfl,?_⟩));refine ZbX Zmh (λu d=>?_) rfl;exact w_gN (Zae (b u (T.sub d)) rfl)
 have g:=T.ws (c:=59);unfold lpB ptO at q;rw [Zxd e] at q;refine w_fn (w_sq (w_st (Zae f (w_gx ?_))));symm;rw [VaX];refine Zae (ZnT _) ?_;symm;cases hp:pw (Zab 59 w).length with
 | false=>
  rw [hp] at q;symm;exact q
 | true=>
  rw [hp,Vcs] at q;symm;refine Zae (by rw [e];rfl) ?_;unfold Zmh;symm;rw [VaX];refine Zae (ZnT _) ?_;cases hq:pw (Zab 44 a).length with
  | false=>
   rw [hq] at q;symm;exact q
  | true=>
   rw [hq,Vcs] at q;symm;refine ⟨by rw [VaX];ac_rfl,?_⟩;refine ZbX (λl=>D.bl (decide ((Zab 44 l).length=(Zab 44 a).length)&&!anyQ (Zab 44 l))) (λl i=>?_) ?_
   ·symm;refine Zae (x:=Zmh a) (by rw [e];rfl) ?_;unfold Zmh;symm;rw [VaX,VaX];refine ZbT (λh=>?_) (λh=>?_)
    ·rw [Vbr 04,Vcs];symm;exact Zae (ZxW _) rfl
    ·rw [Vad 04];symm;rfl
   ·rw [show ((Zab 59 w).map λl=>D.bl (decide ((Zab 44 l).length=(Zab 44 a).length)&&!anyQ (Zab 44 l)))=((Zab 59 w).map λl=>(decide ((Zab 44 l).length=(Zab 44 a).length)&&!anyQ (Zab 44 l))).map .bl by rw [VbN];rfl];symm;refine w_allB ?_;rw [VbR];symm;exact q
def Za2{c:Nat}(b):∀a:List Nat,Zab c (a++c::b)=Zab c a++Zab c b
 | []=>by
  have:Zab c (c::b)=[]::Zab c b:=by rw [Zab,iP rfl]
  exact this
 | x::r=>by
  have ih:=Za2 (c:=c) b r;have d:=(ZbG c r).1
  have s:∀l,Zab c (x::l)=(if x=c then []::Zab c l else match Zab c l with
   | []=>[[x]]
   | w::ws=>(x::w)::ws):=λl=>by rw [Zab];try (cases Zab c l<;>rfl)
  show Zab c (x::(r++c::b))=_;rw [s,s,ih];split
  ·rfl
  ·cases e:Zab c r with
   | nil=>rw [e] at d;simp at d
   | cons u us=>rfl
def spW:List Nat:=[32,47,32]
def Zxq:Str.ofString " / "=mkS spW:=by decide +kernel
def pB(h a b c:List 01):Bool:=match allO coO [a,b,c] with
 | some cs=>triB cs&&(hdO h (nv cs)).isSome
 | none=>false
def ZpX(t):(thO t).isSome=(match sg (Zab 32 t) with
 | [h,a,b,c]=>pB h a b c
 | _=>false):=by
 unfold thO;by_cases h4:(sg (Zab 32 t)).length=4
 ·rw [iP h4];obtain ⟨h,a,b,c,e⟩:=Zgj h4;rw [e];show ((allO coO [a,b,c]).bind λd=>thX d h).isSome=pB h a b c;unfold pB thX;cases allO coO [a,b,c] with
  | none=>rfl
  | some d=>
   rw [Vcq];show _=(triB d&&(hdO h (nv d)).isSome);cases triB d with
   | false=>rfl
   | true=>
    rw [iP rfl,Vcs];cases hdO h (nv d)<;>rfl
 ·rw [iN h4];split
  ·next h a b c e=>rw [e] at h4;exact aB rfl h4
  ·rfl
def Zgi(hw:1<=w.length):∀n l,l.length<=n->Zat w (sepL w 0 l)=l
 | 0,l,h=>by
  rw [Vco.mp (Nat.le_zero.mp h)];rfl
 | n+1,[],h=>rfl
 | n+1,x::r,h=>by
  have a:r.length<=n:=Nat.le_of_succ_le_succ h;by_cases hp:(x::r).take w.length=w
  ·rw [ZiQ hw hp];have ih:=Zgi hw n ((x::r).drop w.length) (by rw [Vbk];simp only [VaU] at h ⊢;ac_rfl);cases e:sepL w 0 ((x::r).drop w.length) with
   | nil=>exact aB e (ZkA w _)
   | cons u us=>
    rw [e] at ih;show []++w++Zat w (u::us)=x::r;rw [ih,List.nil_append]
    conv=>rhs;rw [<-Vb4 w.length (x::r),hp]
  ·rw [Zgl hp];have ih:=Zgi hw n r a;cases e:sepL w 0 r with
   | nil=>exact aB e (ZkA w r)
   | cons u us=>
    rw [e] at ih;cases us with
    | nil=>exact VaA (x::·) ih
    | cons y ys=>exact VaA (x::·) ih
def ZlZ(h:sepL spW 0 t=[p0,p1,p2,p3]):Zab 32 t=Zab 32 p0++[47]::(Zab 32 p1++[47]::(Zab 32 p2++[47]::Zab 32 p3)):=by
 have e:=Zgi (w:=spW) 00 t.length t (VaN _);rw [h] at e;have e:p0++spW++(p1++spW++(p2++spW++p3))=t:=e;have g:∀a b:List Nat,Zab 32 (a++spW++b)=Zab 32 a++[47]::Zab 32 b:=λa b=>by
  rw [show a++spW++b=a++32::([47]++32::b) by simp [spW],Za2,Za2];rfl
 rw [<-e,g,g,g]
def Ziz:∀{g:List 01} {r:List 01},(∀w∈g,w≠[47])->sg (g++[47]::r)=g::sg r
 | [],r,_=>Zp0 r
 | w::g,r,h=>by
  rw [List.cons_append,ZjB (h w Vaq),Ziz λu a=>h u (Var _ a)];rfl
def ZmD:∀{g:List 01},(∀w∈g,w≠[47])->sg g=[g]
 | [],_=>rfl
 | w::g,h=>by
  rw [ZjB (h w Vaq),ZmD λu a=>h u (Var _ a)];rfl
def Zxr:numL [47]=none:=by decide +kernel
def Zmy:ZaC [47]=none:=by decide +kernel
def ZsL(h:coO g=some ns):∀w∈g,w≠[47]:=by
 unfold coO at h;split at h
 ·cases h
 ·intro w b e;have:=Zdm h;have a:numL w∈g.map numL:=Vct b;rw [this,e,Zxr] at a;obtain ⟨x,_,ex⟩:=Vbw.mp a;cases ex
def Zst{F:α->Option β}(h:allO F ws=some xs){w:α}(hw:w∈ws):∃x∈xs,F w=some x:=by
 have e:=Zdm h;have a:F w∈ws.map F:=Vct hw;rw [e] at a;obtain ⟨x,hx,ex⟩:=Vbw.mp a;exact ⟨x,hx,ex.symm⟩
def Zs0(hs:(hdO h n).isSome=true):h≠[]/\∀w∈h,w≠[47]:=by
 have g:ptO [47]=none:=by decide +kernel
 unfold hdO at hs;split at hs
 ·next c=>
  obtain ⟨a,b,rfl⟩:=Zeb c.2;have i:a=plW:=by have:=c.1;simpa using this
  refine ⟨by simp,λw f e=>?_⟩;simp only [Vat,VbT,Vcb] at f;rcases f with rfl | rfl
  ·rw [i] at e;exact aB e 00
  ·rw [e] at hs;rw [show ([a,[47]]:List 01).getD 1 []=[47] from rfl,Zmy] at hs;cases hs
 split at hs
 ·next c=>rw [c];exact ⟨by simp,λw f e=>by rw [VbZ.mp f] at e;exact aB e 00⟩
 split at hs
 ·next c=>
  obtain ⟨a,b,rfl⟩:=Zeb c.2;have i:a=paW:=by have:=c.1;simpa using this
  refine ⟨by simp,λw f e=>?_⟩;simp only [Vat,VbT,Vcb] at f;rcases f with rfl | rfl
  ·rw [i] at e;exact aB e 00
  ·rw [e] at hs;rw [show ([a,[47]]:List 01).getD 1 []=[47] from rfl,g] at hs;cases hs
 split at hs
 ·next c=>
  obtain ⟨a,b,d,rfl⟩:=Zev c.2;have i:a=gsW:=by have:=c.1;simpa using this
  refine ⟨by simp,λw f e=>?_⟩;simp only [Vat,VbT,Vcb] at f;rcases f with rfl | rfl | rfl
  ·rw [i] at e;exact aB e 00
  ·rw [e] at hs;rw [show ([a,[47],d]:List 01).getD 1 []=[47] from rfl,Zmy] at hs;cases hs
  ·rw [e] at hs;rw [show ([a,b,[47]]:List 01).getD 2 []=[47] from rfl,Zmy] at hs;rw [show ([a,b,[47]]:List 01).getD 1 []=b from rfl] at hs;cases hq:ZaC b with
   | none=>rw [hq] at hs;cases hs
   | some q=>rw [hq] at hs;cases hs
 ·cases hs
def Zoz{h a b c:List 01}(hp:pB h a b c=true):(h≠[]/\a≠[]/\b≠[]/\c≠[])/\∀g∈[h,a,b,c],∀w∈g,w≠[47]:=by
 unfold pB at hp;cases e:allO coO [a,b,c] with
 | none=>rw [e] at hp;cases hp
 | some cs=>
  rw [e] at hp;have hp:=hp;rw [Vbo] at hp;have d:=Zs0 hp.2;have k:∀g∈[a,b,c],g≠[]/\∀w∈g,w≠[47]:=λg hg=>by
   obtain ⟨j,_,f⟩:=Zst e hg;have:=Zgu f;refine ⟨λz=>by have i:g.length=0:=(by rw [z];rfl);ac_rfl,ZsL f⟩
  refine ⟨⟨d.1,(k a 03).1,(k b 03).1,(k c 03).1⟩,λg hg=>?_⟩;rcases Vat.mp hg with rfl | hg
  ·exact d.2
  ·exact (k g hg).2
def unsg:List (List 01)->List 01
 | []=>[]
 | [g]=>g
 | g::h::r=>g++[47]::unsg (h::r)
def Zkm:∀ws,unsg (sg ws)=ws
 | []=>rfl
 | w::r=>by
  have ih:=Zkm r;by_cases hw:w=[47]
  ·rw [hw,Zp0];cases e:sg r with
   | nil=>exact aB e (ZoR r)
   | cons g gs=>
    rw [e] at ih;show []++[47]::unsg (g::gs)=_;rw [ih];rfl
  ·rw [ZjB hw];cases e:sg r with
   | nil=>exact aB e (ZoR r)
   | cons g gs=>
    rw [e] at ih;cases gs with
    | nil=>exact VaA (w::·) ih
    | cons x xs=>exact VaA (w::·) ih
def Zcs(c):∀l,Zat [c] (Zab c l)=l
 | []=>rfl
 | x::r=>by
  have ih:=Zcs c r
  have s:Zab c (x::r)=(if x=c then []::Zab c r else match Zab c r with
   | []=>[[x]]
   | w::ws=>(x::w)::ws):=by rw [Zab];try (cases Zab c r<;>rfl)
  rw [s];cases e:Zab c r with
  | nil=>have:=(ZbG c r).1;rw [e] at this;cases this
  | cons w ws=>
   rw [e] at ih;by_cases hx:x=c
   ·rw [iP hx,hx];show []++[c]++Zat [c] (w::ws)=_;rw [ih];rfl
   ·rw [iN hx];cases ws with
    | nil=>exact VaA (x::·) ih
    | cons y ys=>exact VaA (x::·) ih
def Zcu(s):∀{a b:List 01},a≠[]->b≠[]->Zat s (a++b)=Zat s a++s++Zat s b
 | [],b,h,_=>aB rfl h
 | [x],b,_,hb=>by
  cases b with
  | nil=>exact aB rfl hb
  | cons y r=>rfl
 | x::y::r,b,_,hb=>by
  have ih:=Zcu s (a:=y::r) 03 hb;show x++s++Zat s ((y::r)++b)=(x++s++Zat s (y::r))++s++Zat s b;rw [ih];simp only [VbO]
def Zit(ha:a≠[])(hb:b≠[]):Zat [32] (a++[47]::b)=Zat [32] a++spW++Zat [32] b:=by
 rw [Zcu [32] ha 03,show ([47]::b)=[[47]]++b from rfl,Zcu [32] 03 hb];simp [spW,Zat]
def Zpv(h:[47]∉Zab 32 p):∀k,k<p.length->((p++(spW++rest)).drop k).take spW.length≠spW:=by
 intro k o z;have j:p++(spW++rest)=p.take k++(p.drop k++(spW++rest)):=by rw [<-VbO (p.take k),Vb4]
 have l:(p++(spW++rest)).drop k=p.drop k++(spW++rest):=List.drop_append_of_le_length 04;rw [l] at z
 obtain ⟨b,c⟩ : ∃b,p.drop k++(spW++rest)=spW++b:=⟨_,by
  conv=>lhs;rw [<-Vb4 spW.length (p.drop k++(spW++rest)),z]⟩
 have e:∃a,p=p.take k++32::a:=by
  cases ed:p.drop k with
  | nil=>have:=VaA List.length ed;rw [Vbk] at this;simp at this;ac_rfl
  | cons x a=>
   rw [ed] at c;have:x=32:=by
    have:=VaA List.head? c;exact Vac this
   refine ⟨a,?_⟩;rw [<-this,<-ed,Vb4]
 obtain ⟨a,i⟩:=e;have m:Zab 32 (p++(spW++rest))=Zab 32 p++[47]::Zab 32 rest:=by
  rw [show p++(spW++rest)=p++32::([47]++32::rest) by simp [spW],Za2,Za2];rfl
 have g:Zab 32 (p++(spW++rest))=Zab 32 (p.take k)++[47]::Zab 32 b:=by
  rw [j,c,show p.take k++(spW++b)=p.take k++32::([47]++32::b) by simp [spW],Za2,Za2];rfl
 have f:Zab 32 p=Zab 32 (p.take k)++Zab 32 a:=by
  conv=>lhs;rw [i]
  exact Za2 a _
 have n:=(ZbG 32 a).1;have d:(Zab 32 (p++(spW++rest)))[(Zab 32 (p.take k)).length]?=some [47]:=by
  rw [g,Vba (VaN _),Nat.sub_self];rfl
 rw [m,Vbc (by rw [f,Vbf];ac_rfl)] at d;exact h (Vbe d)
def Zig(h:[47]∉Zab 32 p):sepL spW 0 (p++spW++rest)=p::sepL spW 0 rest:=by
 rw [VbO,Zfe p (spW++rest) (Zpv h),ZiQ 00 (by simp [spW])];show (p++[])::_=_;rw [Va2];rfl
def Zts(h:[47]∉Zab 32 p):sepL spW 0 p=[p]:=by
 have e:=Zfe p [] λk c z=>by
  rw [Va2] at z;have b:p=p.take k++p.drop k:=(Vb4 _ _).symm;have a:p.drop k=spW++(p.drop k).drop spW.length:=by
   conv=>lhs;rw [<-Vb4 spW.length (p.drop k),z]
  refine h ?_;rw [b,a,show p.take k++(spW++(p.drop k).drop spW.length)=p.take k++32::([47]++32::(p.drop k).drop spW.length) by simp [spW],Za2,Za2];exact VaQ _ (Vav _ Vaq)
 rw [Va2] at e;rw [e];show [p++[]]=_;rw [Va2]
def Zql{h a b c:List 01}(e:sg (Zab 32 t)=[h,a,b,c])(hp:pB h a b c=true):∃p0 p1 p2 p3,sepL spW 0 t=[p0,p1,p2,p3]/\Zab 32 p0=h/\Zab 32 p1=a/\Zab 32 p2=b/\Zab 32 p3=c:=by
 obtain ⟨⟨n,s,p,j⟩,d⟩:=Zoz hp;have o:Zab 32 t=h++[47]::(a++[47]::(b++[47]::c)):=by
  have:=Zkm (Zab 32 t);rw [e] at this;exact this.symm
 have v:t=Zat [32] h++spW++(Zat [32] a++spW++(Zat [32] b++spW++Zat [32] c)):=by
  have:=Zcs 32 t;rw [o,Zit n 03,Zit s 03,Zit p j] at this;exact this.symm
 have i:∀g∈[h,a,b,c],g≠[]->Zab 32 (Zat [32] g)=g:=λg m u=>by
  refine ZgF u λw f=>?_;have:w∈Zab 32 t:=by
   rw [o];simp only [Vat,VbT,Vcb] at m;simp only [Vau,Vat];rcases m with rfl | rfl | rfl | rfl
   ·exact .inl f
   ·exact .inr (.inr (.inl f))
   ·exact .inr (.inr (.inr (.inr (.inl f))))
   ·exact .inr (.inr (.inr (.inr (.inr (.inr f)))))
  exact λz=>((Zb7 this).1 32 z).2 rfl
 have k:=i h 03 n;have q:=i a 03 s;have l:=i b 03 p;have r:=i c 03 j;refine ⟨_,_,_,_,?_,k,q,l,r⟩;rw [v,Zig (by rw [k];exact λz=>d h 03 _ z rfl),Zig (by rw [q];exact λz=>d a 03 _ z rfl),Zig (by rw [l];exact λz=>d b 03 _ z rfl),Zts (by rw [r];exact λz=>d c 03 _ z rfl)]
def Zor(t):(thO t).isSome=(match sepL spW 0 t with
 | [p0,p1,p2,p3]=>pB (Zab 32 p0) (Zab 32 p1) (Zab 32 p2) (Zab 32 p3)
 | _=>false):=by
 rw [ZpX,Vcl];constructor
 ·intro z;split at z
  ·next h a b c e=>
   obtain ⟨p0,p1,p2,p3,f,rfl,rfl,rfl,rfl⟩:=Zql e z;rw [f];exact z
  ·cases z
 ·intro z;split at z
  ·next p0 p1 p2 p3 e=>
   have d:=(Zoz z).2;rw [ZlZ e,Ziz (d _ 03),Ziz (d _ 03),Ziz (d _ 03),ZmD (d _ 03)];exact z
  ·cases z
def ZwG(hl:t.length<=1000000)(q:Φ (.lst ((sepL spW 0 t).map S))):Tl (Zau (mkS t) (.str (mkS spW))) Φ:=by
 refine Zae ?_ q;show (if (1<=(mkS spW).length/\(mkS spW).cps.all (·<256)=true)/\(mkS t).length<=LIM then Res.ok (D.lst ((sepL (cpL (mkS spW)) 0 (cpL (mkS t))).map λl=>.str (mkS l))) else .bad)=_
 rw [iP ⟨by decide +kernel,by rw [ZbL];exact hl⟩,ZaQ,ZaQ];rfl
def Zqp(T:Tx t)(h:sepL spW 0 t=[p0,p1,p2,p3]):Tx p0/\Tx p1/\Tx p2/\Tx p3:=by
 have e:=Zgi (w:=spW) 00 t.length t (VaN _);rw [h] at e;have e:p0++spW++(p1++spW++(p2++spW++p3))=t:=e;have d:=T.l;have b:=T.a;rw [<-e] at d b;simp only [Vbf] at d;refine ⟨⟨λx c=>b x ?_,by ac_rfl⟩,⟨λx c=>b x ?_,by ac_rfl⟩,⟨λx c=>b x ?_,by ac_rfl⟩,⟨λx c=>b x ?_,by ac_rfl⟩⟩<;>simp [c]
def Zbc:(u::ws).take 1=[W]↔u=W:=by simp
def Zxw:(hdO (plW::ws) n).isSome=(decide (ws.length=1)&&(ZaC (ws.getD 0 [])).isSome):=by
 unfold hdO;by_cases h:ws.length=1
 ·rw [iP ⟨Zbc.mpr rfl,by simpa using h⟩,Vbr h,Vcs];show ((ZaC (ws.getD 0 [])).map Th.pl).isSome=_;cases ZaC (ws.getD 0 [])<;>rfl
 ·rw [iN λz=>h (by simpa using z.2),iN λz=>aB (Vcn z).1 00,iN λz=>aB (Zbc.mp z.1) 00,iN λz=>aB (Zbc.mp z.1) 00,Vad h];rfl
def Zw3:(hdO (shW::ws) n).isSome=(decide (ws.length=0)&&decide (1<=n)):=by
 unfold hdO;rw [iN λz=>aB (Zbc.mp z.1) 00];by_cases h:ws.length=0
 ·rw [iP (by rw [Vco.mp h]),Vbr h,Vcs];by_cases hn:1<=n
  ·rw [iP hn,Vbr hn];rfl
  ·rw [iN hn,Vad hn];rfl
 ·rw [iN λz=>h (by rw [(Vcn z).2];rfl),iN λz=>aB (Zbc.mp z.1) 00,iN λz=>aB (Zbc.mp z.1) 00,Vad h];rfl
def ZxT:(hdO (paW::ws) n).isSome=(decide (ws.length=1)&&(decide (2<=n)&&lpB (ws.getD 0 []))):=by
 unfold hdO;rw [iN λz=>aB (Zbc.mp z.1) 00,iN λz=>aB (Vcn z).1 00];by_cases h:ws.length=1
 ·rw [iP ⟨Zbc.mpr rfl,by simpa using h⟩,Vbr h,Vcs];show ((ptO (ws.getD 0 [])).bind _).isSome=_;unfold lpB;cases ptO (ws.getD 0 []) with
  | none=>rw [Vb9];rfl
  | some p=>
   rw [Vcq];show _=(decide (2<=n)&&patB p);by_cases hn:2<=n
   ·rw [Vbr hn,Vcs];cases patB p with
    | true=>rw [iP ⟨hn,rfl⟩];rfl
    | false=>rw [iN λz=>aB z.2 VaJ];rfl
   ·rw [Vad hn,iN λz=>hn z.1];rfl
 ·rw [iN λz=>h (by simpa using z.2),iN λz=>aB (Zbc.mp z.1) 00,Vad h];rfl
def Zw7:(hdO (gsW::ws) n).isSome=(decide (ws.length=2)&&((ZaC (ws.getD 0 [])).isSome&&(ZaC (ws.getD 1 [])).any ZfG)):=by
 unfold hdO;rw [iN λz=>aB (Zbc.mp z.1) 00,iN λz=>aB (Vcn z).1 00,iN λz=>aB (Zbc.mp z.1) 00];by_cases h:ws.length=2
 ·rw [iP ⟨Zbc.mpr rfl,by simpa using h⟩,Vbr h,Vcs];show ((ZaC (ws.getD 0 [])).bind λq=>(ZaC (ws.getD 1 [])).bind _).isSome=_;cases ZaC (ws.getD 0 []) with
  | none=>rfl
  | some q=>
   rw [Vcq];cases ZaC (ws.getD 1 []) with
   | none=>rfl
   | some r=>
    rw [Vcq];show _=ZfG r;cases ZfG r<;>rfl
 ·rw [iN λz=>h (by simpa using z.2),Vad h];rfl
def ZwU(h1:u≠shW)(h2:u≠plW)(h3:u≠paW)(h4:u≠gsW):(hdO (u::ws) n).isSome=false:=by
 unfold hdO;rw [iN λz=>h2 (Zbc.mp z.1),iN λz=>h1 (Vcn z).1,iN λz=>h3 (Zbc.mp z.1),iN λz=>h4 (Zbc.mp z.1)];rfl
def ZpH(o):ZkF (oQ o)=o.isNone:=by cases o<;>rfl
def ZmJ(T:Tx t)(q:Φ (.bl (thO t).isSome)):Tl (Zbl [S t]) Φ:=by
 rw [Zor] at q;have first:∀{Ψ:Fl->Prop},Ψ (.nx [.im (S t),.im (.lst ((sepL spW 0 t).map S)),.no,.no,.no])->Tl (st 1 (sD Zau (v 0) (c (.str " / "))) (ev0 5 [S t])) Ψ:=λz=>by
  refine w_st (w_sD (Zae (x:=S t) rfl ⟨_,rfl,?_⟩));symm;rw [Zxq];exact ZwG T.n z
 unfold Zbl;refine w_fn (w_sq (first (w_gx ?_)))
 by_cases h4:(sepL spW 0 t).length=4
 ·obtain ⟨o,G,F,H,e⟩:=Zgj h4;obtain ⟨I,L,N,O⟩:=Zqp T e;rw [e] at q ⊢;have q:Φ (.bl (pB (Zab 32 o) (Zab 32 G) (Zab 32 F) (Zab 32 H))):=q;unfold pB at q;symm;obtain ⟨u,f,B⟩:=Zdc 32 o;have J:∀w∈u::f,Tx w:=λw M=>I.sub (c:=32) (by rw [B];exact M);refine Tl.mono (Ψ:=λd=>∃(m:Int) (n:Nat) (ok:Bool),d=.int m/\(ok=true->m=(n:Int))/\(ok=false->m=-1)/\Φ (.bl (ok&&(hdO (u::f) n).isSome))) (Zpk L N O (λK=>⟨-1,0,false,rfl,(λz=>by cases z),λ_=>rfl,?_⟩) λi p E=>⟨_,nv i,true,rfl,λ_=>rfl,(λz=>by cases z),?_⟩) ?_
  ·cases p:allO coO [Zab 32 G,Zab 32 F,Zab 32 H] with
   | none=>rw [p] at q;exact q
   | some i=>
    rw [p] at q;have q:Φ (.bl (triB i&&(hdO (Zab 32 o) (nv i)).isSome)):=q;rw [K i p] at q;exact q
  ·rw [p] at q;have q:Φ (.bl (triB i&&(hdO (Zab 32 o) (nv i)).isSome)):=q;rw [E,B] at q;exact q
  clear q;rintro _ ⟨m,n,ok,rfl,hok,hno,q⟩;refine w_gx ?_;have s:Asc u:=(J u Vaq).a;refine w_sq (w_st (w_sD (Zae (x:=S o) rfl ⟨_,rfl,?_⟩)));symm;rw [litB];refine Zcx I.n (w_gx ?_);rw [B];have y:∀k,k<(u::f).length->dIx (.lst ((u::f).map S)) (.int (k:Int))=.ok (S ((u::f).getD k [])):=λk A=>ix_S A;have j:∀k,k<(u::f).length->Tx ((u::f).getD k []):=λk A=>by
   rw [VbS,VbL A];exact J _ (VbU A)
  symm;rw [ZsC];refine Zdr (b:=shW) s (ZaA rfl) ?_;by_cases c1:u=shW
  ·subst c1;rw [Vbr rfl];rw [Zw3] at q;symm;rw [VaX];refine ZbT (λh=>?_) (λh=>?_)
   ·rw [Vbr (show f.length=0 by simp at h;ac_rfl),Vcs] at q;symm
    rw [show decide (0<m)=(ok&&decide (1<=n)) by
     cases ok with
     | true=>rw [hok rfl,Vcs];exact Vcp.mpr 04
     | false=>rw [hno rfl];rfl]
    exact q
   ·rw [Vad (show ¬f.length=0 from λz=>h (by simp [z])),VaL,Vb9] at q;symm;exact q
  rw [Vad c1];symm;rw [Zmm];refine Zdr (b:=plW) s (ZaA rfl) ?_;by_cases c2:u=plW
  ·subst c2;rw [Vbr rfl];rw [Zxw] at q;symm;rw [VaX];refine ZbT (λh=>?_) (λh=>?_)
   ·have D:f.length=1:=by simp at h;ac_rfl
    rw [Vbr D,Vcs] at q;symm;refine ZbT (λg=>?_) (λg=>?_)
    ·symm;refine Zae (y 1 (by simp;ac_rfl)) ?_;symm;refine ZgR (j 1 (by simp;ac_rfl)).a (Vao (j 1 (by simp;ac_rfl)).l 00) ?_;symm;rw [ZpH,show ((plW::f).getD 1 [])=f.getD 0 [] from rfl];cases ok with
     | true=>rw [Vcs] at q;cases hf:ZaC (f.getD 0 [])<;>rw [hf] at q<;>exact q
     | false=>rw [hno rfl] at g;exact aB g 00
    ·symm;cases ok with
     | true=>rw [hok rfl] at g;ac_rfl
     | false=>exact q
   ·rw [Vad (show ¬f.length=1 from λz=>h (by simp [z])),VaL,Vb9] at q;symm;exact q
  rw [Vad c2];symm;rw [ZoJ];refine Zdr (b:=paW) s (ZaA rfl) ?_;by_cases c3:u=paW
  ·subst c3;rw [Vbr rfl];rw [ZxT] at q;symm;rw [VaX];refine ZbT (λh=>?_) (λh=>?_)
   ·have D:f.length=1:=by simp at h;ac_rfl
    rw [Vbr D,Vcs] at q;symm;refine ZbT (λg=>?_) (λg=>?_)
    ·symm;refine Zae (y 1 (by simp;ac_rfl)) ?_;symm;refine Zsi (j 1 (by simp;ac_rfl)) ?_;symm;cases ok with
     | true=>rw [Vcs,Vbr (show 2<=n by have:=hok rfl;ac_rfl),Vcs] at q;exact q
     | false=>rw [hno rfl] at g;exact aB g 00
    ·symm;cases ok with
     | true=>rw [Vcs,Vad (show ¬2<=n by have:=hok rfl;ac_rfl),VaL] at q;exact q
     | false=>exact q
   ·rw [Vad (show ¬f.length=1 from λz=>h (by simp [z])),VaL,Vb9] at q;symm;exact q
  rw [Vad c3];symm;rw [Zpy];refine ZjL (b:=gsW) s (ZaA rfl) ?_;by_cases c4:u=gsW
  ·subst c4;rw [Vbr rfl];rw [Zw7] at q;symm;rw [VaX];by_cases h2:f.length=2
   ·rw [Vbr h2,Vcs] at q;refine w_nF (by simp;ac_rfl) ?_;symm;refine ZbT (λg=>?_) (λg=>?_)
    ·symm;cases ok with
     | true=>have:=hok rfl;ac_rfl
     | false=>exact q
    ·have E:ok=true:=by
      cases ok with
      | true=>rfl
      | false=>rw [hno rfl] at g;exact aB 00 g
     rw [E,Vcs] at q;symm;refine Zae (y 1 (by simp;ac_rfl)) ?_;symm;refine ZgR (j 1 (by simp;ac_rfl)).a (Vao (j 1 (by simp;ac_rfl)).l 00) ?_;symm;rw [ZpH,show ((gsW::f).getD 1 [])=f.getD 0 [] from rfl];cases hf:ZaC (f.getD 0 []) with
     | none=>rw [hf] at q;symm; exact q
     | some q0=>
      rw [hf] at q;have q:Φ (.bl ((ZaC (f.getD 1 [])).any ZfG)):=q;symm;refine Zae (y 2 (by simp;ac_rfl)) ?_;symm;refine ZgR (j 2 (by simp;ac_rfl)).a (Vao (j 2 (by simp;ac_rfl)).l 00) ?_;symm;rw [ZpH,show ((gsW::f).getD 2 [])=f.getD 1 [] from rfl];cases hg:ZaC (f.getD 1 []) with
      | none=>rw [hg] at q;symm; exact q
      | some r=>
       rw [hg] at q;have q:Φ (.bl (ZfG r)):=q;unfold ZfG at q;symm;unfold oQ frD;symm;refine ZbT (λC=>?_) (λC=>?_)
       ·symm;rw [show decide (r.num<=(r.den:Int))=decide (0<=r.num/\r.num<=(r.den:Int)) from Vcp.mpr ⟨λz=>⟨C,z⟩,λz=>z.2⟩];exact q
       ·symm;rw [Vad λz=>C z.1] at q;exact q
   ·rw [Vad h2,VaL,Vb9] at q;refine w_nT (by simp;ac_rfl) ?_;symm;exact q
  rw [Vad c4];rw [ZwU c1 c2 c3 c4,Vb9] at q;symm;exact q
 ·have q:Φ (.bl false):=by
   split at q
   ·next e=>rw [e] at h4;exact aB rfl h4
   ·exact q
  symm;refine w_nT (by rw [VaX];ac_rfl) ?_;symm;exact q
def rd:Nat->List D->Res D
 | 0=>ZaD
 | 1=>ZaT
 | 2=>ZaZ
 | _=>ZaU
def okB:Res D->Bool
 | .ok _=>true
 | _=>false
def Zre(h:okB r=true):∃d,r=.ok d:=by
 cases r with
 | ok d=>exact ⟨d,rfl⟩
 | ex c=>cases h
 | bad=>cases h
def nmR:Nat->Str
 | 0=>"read_floor"
 | 1=>"read_ground"
 | 2=>"read_spots"
 | _=>"read_thing"
def tabR:List (Str×(List D->Res D)):=[("read_floor",ZaD),("read_ground",ZaT),("read_spots",ZaZ),("read_thing",ZaU)]
def ZvX(hi:i<=3):tabR.lookup (nmR i)=some (rd i):=by
 have:i=0\/i=1\/i=2\/i=3:=by ac_rfl
 rcases this with rfl | rfl | rfl | rfl<;>kernel_rfl
def ZvV(h:exB r=true):∃c,r=.ex c/\(ZpJ.contains (clsOf c)&&Zkk c)=true:=by
 cases r with
 | ok d=>cases h
 | ex c=>exact ⟨c,rfl,h⟩
 | bad=>cases h
section
variable{rows:List (List Nat)}{k i:Nat}{t:List Nat}{d:D}
def Zu0(h:rows[k]?=some t):dIx (.lst (rows.map S)) (.int (k:Int))=.ok (S t):=by
 show ofO (at_ (rows.map S) (k:Int))=_;unfold at_;rw [iP 04,Vcj,Vbd,h];rfl
def ZjA(hk:k<rows.length)(q:Ψ (.nx [.im (.lst (rows.map S)),.im (.int (k:Int)),.im (.cls (nmR i))])):Tl (ifs (trb (o2 dGe (v 1) (on bLen 07))) (rsP "NoRow" (Zaa (v 1) yaa)) nop (ev0 3 [.lst (rows.map S),.int (k:Int),.cls (nmR i)])) Ψ:=by
 symm;rw [VaX,Vad 04];symm;exact q
def ZnL(hi:i<=3)(h:rows[k]?=some t):Zoh tabR 2 (Zaa (o2 dIx (v 0) (v 1)) yaa) ZpJ "NoRow" (Zaa (v 1) yaa) [.im (.lst (rows.map S)),.im (.int (k:Int)),.im (.cls (nmR i))]=(match rd i [S t] with
  | .ok d=>.ok (.rt d)
  | .ex x=>if (ZpJ.contains (clsOf x)&&Zkk x)=true then .ex (tagX (2*k+1) "NoRow") else .bad
  | .bad=>.bad):=by
 unfold Zoh;dsimp only [List.getElem?_cons_succ,List.getElem?_cons_zero];rw [ZvX hi];have a:Zaa (o2 dIx (v 0) (v 1)) yaa [.im (.lst (rows.map S)),.im (.int (k:Int)),.im (.cls (nmR i))]=.ok [S t]:=by
  refine ZaG ?_;symm;refine Zae (Zu0 h) ?_;symm
 have b:Zaa (v 1) yaa [.im (.lst (rows.map S)),.im (.int (k:Int)),.im (.cls (nmR i))]=.ok [.int (k:Int)]:=rfl;rw [a,b];unfold noEx;dsimp only;rw [ZaH];cases rd i [S t] with
 | ok d=>rfl
 | bad=>rfl
 | ex x=>
  rfl
def ZhF(hi:i<=3)(h:rows[k]?=some t)(e:rd i [S t]=.ok d):Zbd [.lst (rows.map S),.int (k:Int),.cls (nmR i)]=.ok d:=by
 have:=ZnL hi h;rw [e] at this;refine ZaG (w_fn (w_sq (ZjA (Vaw.mp h).1 (w_gx ?_))));refine Zae this ?_;symm
def Zru(hi:i<=3)(h:rows[k]?=some t)(e:exB (rd i [S t])=true):Zbd [.lst (rows.map S),.int (k:Int),.cls (nmR i)]=.ex (tagX (2*k+1) "NoRow"):=by
 have:=ZnL hi h;obtain ⟨c,a,b⟩:=ZvV e;rw [a] at this;dsimp only at this;rw [iP b] at this;exact x_fn (Zbz (ZjA (Vaw.mp h).1 (x_gx this)))
def ZwQ(hk:rows.length<=k):Zbd [.lst (rows.map S),.int (k:Int),.cls (nmR i)]=.ex (tagX (2*k) "NoRow"):=by
 refine x_fn (ZbV (ZcO ?_));symm;rw [VaX,Vbr 04,iP rfl];exact ZiO (α:=Fl) rfl
end
structure Zps(ts:List 01)(k:Nat):Prop where
 ok:∀i,i<k->∃t,ts[i]?=some t/\okB (rd (min i 3) [S t])=true
 ex:∀t,ts[k]?=some t->exB (rd (min k 3) [S t])=true
 no:ts[k]?=none->k<3
def ZqW{Φ:List D->Prop}{i:Int}(h0:(-1000000000<=i/\i<=1000000000)/\(-1000000000<=j/\j<=1000000000))(h:Φ (Za5 i (j - i).toNat)):Tl (rng2 [.int i,.int j]) Φ:=by
 refine Zae ?_ h;show (if (-1000000000<=i/\i<=1000000000)/\(-1000000000<=j/\j<=1000000000) then Res.ok (Za5 i (j - i).toNat) else .bad)=_
 rw [iP h0]
def Zvp{g:MG}{c:Str}:∀{l:List D} {d:D} {r:List D},(∀x∈l,Tl (g x ρ) λρ1=>Tl (e ρ1) λ_=>True)->(Tl (g d ρ) λρ1=>e ρ1=.ex c)->Zaz g yes e ρ (l++d::r)=.ex c
 | [],d,r,_,h=>by
  obtain ⟨ρ1,a,b⟩:=h;show Zaz g yes e ρ (d::r)=_;unfold Zaz yes;rw [a,ZaH,ZaH,iP rfl,b];rfl
 | x::l,d,r,hl,h=>by
  have ih:=Zvp (r:=r) (λy f=>hl y (Var _ f)) h;obtain ⟨ρ1,a,y,b,_⟩:=hl x Vaq;show Zaz g yes e ρ (x::(l++d::r))=_;unfold Zaz;unfold yes at ih ⊢;rw [a,ZaH,ZaH,iP rfl,b,ZaH,ih];rfl
def Zss{it:MI}{own:Nat}{cap:01}{g:MG}{t:MB}{c:Str}(h:Tl (it ρ) λxs=>xs.length<=1000000/\Zaz g t e (noA own (ybu ρ cap)) xs=.ex c):Zcm it own cap g t e ρ=.ex c:=by
 obtain ⟨xs,a,d,b⟩:=h;unfold Zcm;rw [a,ZaH,iP (show xs.length<=LIM from d),b];rfl
def ZoQ(lo)(m n):Za5 lo (m+(n+1))=Za5 lo m++.int (lo+m)::Za5 (lo+m+1) n:=by
 unfold Za5;rw [List.range_add,Vb1,List.range_succ_eq_map,VaW,VaW,VbN,VbN];congr 2;refine Vaa λk _=>?_;show D.int (lo+((m+(k+1):Nat):Int))=D.int (lo+m+1+(k:Int));congr 1;ac_rfl
section
variable{ts:List (List Nat)}
def ZlN{l:01}(h:Tx l)(hts:Zab 10 l=ts){R:MS}{c:Str}(q:R [.im (S l),.im (.lst (ts.map S)),.no,.no,.no,.no]=.ex c):fn 6 (sq (drp (on Zbj 07)) (sq (st 1 (sD Zau (v 0) (Dl.c (.str "\n")))) R)) [S l]=.ex c:=by
 have a:=h.l;refine x_fn (Zbz (Zop (w_on (Za3 (w_v rfl (Zdj ?_))))));refine Zae (rfl) (x_gx (Zbz ?_));symm;refine w_sD ?_;symm;refine ⟨_,rfl,?_⟩;symm;rw [litN];refine Zcx 04 ?_;rw [hts];exact x_gx q
def ZrN(h:Zps ts k)(hk:k<=2):∃j,j/2=k/\Zbd [.lst (ts.map S),.int (k:Int),.cls (nmR k)]=.ex (tagX j "NoRow"):=by
 cases e:ts[k]? with
 | none=>exact ⟨2*k,by ac_rfl,ZwQ (Vcu.mp e)⟩
 | some t=>
  have:=h.ex t e;rw [show min k 3=k by ac_rfl] at this;exact ⟨2*k+1,by ac_rfl,Zru 04 e this⟩
def Zml(h:Zps ts k)(hk:i<k)(h3:i<=2):∃d,Zbd [.lst (ts.map S),.int (i:Int),.cls (nmR i)]=.ok d:=by
 obtain ⟨t,e,q⟩:=h.ok i hk;rw [show min i 3=i by ac_rfl] at q;obtain ⟨d,a⟩:=Zre q;exact ⟨d,ZhF 04 e a⟩
def ZoL(h:Tx l)(hts:Zab 10 l=ts)(hb:Zps ts k):∃j,j/2=k/\Zbk [S l]=.ex (tagX j "NoRow"):=by
 have hk:k=0\/k=1\/k=2\/3<=k:=by ac_rfl
 rcases hk with rfl | rfl | rfl | hk
 ·obtain ⟨j,a,e⟩:=ZrN hb 00;exact ⟨j,a,ZlN h hts (ZbV (Zij (x_on (Zae rfl e))))⟩
 ·obtain ⟨n,b⟩:=Zml (i:=0) hb 00 00;obtain ⟨j,a,e⟩:=ZrN hb 00;refine ⟨j,a,ZlN h hts (Zbz (w_st (w_on (Zae rfl (Zae b (x_gx ?_))))))⟩;exact ZbV (Zij (x_on (Zae rfl e)))
 ·obtain ⟨n,b⟩:=Zml (i:=0) hb 00 00;obtain ⟨u,f⟩:=Zml (i:=1) hb 00 00;obtain ⟨j,a,e⟩:=ZrN hb 00;refine ⟨j,a,ZlN h hts (Zbz (w_st (w_on (Zae rfl (Zae b (x_gx ?_))))))⟩;refine Zbz (w_st (w_on (Zae rfl (Zae f (x_gx ?_)))));exact ZbV (Zij (x_on (Zae rfl e)))
 ·obtain ⟨n,b⟩:=Zml (i:=0) hb 04 00;obtain ⟨u,f⟩:=Zml (i:=1) hb 04 00;obtain ⟨v,p⟩:=Zml (i:=2) hb 04 00;obtain ⟨m,rfl⟩ : ∃m,k=3+m:=⟨k - 3,by ac_rfl⟩;have g:3+m<ts.length:=by
   cases e:ts[3+m]? with
   | none=>have:=hb.no e;ac_rfl
   | some t=>exact (Vaw.mp e).1
  have w:=hts▸h.ws;refine ⟨2*(3+m)+1,by ac_rfl,ZlN h hts (Zbz (w_st (w_on (Zae rfl (Zae b (x_gx ?_))))))⟩;refine Zbz (w_st (w_on (Zae rfl (Zae f (x_gx ?_)))));refine Zbz (w_st (w_on (Zae rfl (Zae p (x_gx ?_)))));refine ZbV (Zij (Zss ?_));refine w_r2 ?_;symm;rw [VaX];refine ZqW 04 ?_;refine ⟨by unfold Za5;rw [List.length_map,List.length_range];ac_rfl,?_⟩;rw [show ((ts.length:Int) - 3).toNat=m+((ts.length - 3 - m - 1)+1) by ac_rfl,ZoQ];refine Zvp (λx r=>?_) ?_
  ·obtain ⟨i,o,rfl⟩ : ∃i,i<m/\x=.int ((3+i:Nat):Int):=by
    obtain ⟨i,o,rfl⟩:=Vbw.mp r;exact ⟨i,Vam.mp o,by congr 1⟩
   obtain ⟨t,c,q⟩:=hb.ok (3+i) 04;rw [show min (3+i) 3=3 by ac_rfl] at q;obtain ⟨d,s⟩:=Zre q;symm;exact Zae (ZhF 00 c s) trivial
  ·obtain ⟨t,c⟩ : ∃t,ts[3+m]?=some t:=⟨_,VbL g⟩;have q:=hb.ex t c;rw [show min (3+m) 3=3 by ac_rfl] at q;have:=Zru 00 c q;refine w_gN (x_on ?_);symm;exact this
end
def ZpO(lo)(n):Za5 lo (n+1)=.int lo::Za5 (lo+1) n:=by
 unfold Za5;rw [List.range_succ_eq_map,VaW,VbN];congr 1
 ·simp
 ·refine Vaa λk _=>?_;show D.int (lo+((k+1:Nat):Int))=D.int (lo+1+(k:Int));congr 1;ac_rfl
def spX(t:01):Option (List (List Int)):=(spsO t).bind λa=>if spsB a=true then some a else none
def rdO:Nat->List Nat->Option D
 | 0,t=>(flO t).map λb=>.lst (b.map .int)
 | 1,t=>(grO t).map frD
 | 2,t=>(spX t).map λa=>.lst (a.map tupI)
 | _,t=>thO t
def stB(k:Nat)(t:01):Bool:=(rdO k t).isSome
def Zt4(T:Tx t):∀k,Rd (rd (min k 3) [S t]) (rdO k t)
 | 0=>ZpL T
 | 1=>Zof T
 | 2=>Zqn T
 | n+3=>by rw [show min (n+3) 3=3 by ac_rfl];exact ZoW T
def Zns(T:Tx t)(h:stB k t=true):∃d,rdO k t=some d/\rd (min k 3) [S t]=.ok d:=by
 have r:=Zt4 T k;unfold stB at h;cases e:rdO k t with
 | none=>rw [e] at h;cases h
 | some d=>rw [e] at r;exact ⟨d,rfl,r⟩
def Zqg(T:Tx t)(h:stB k t=false):exB (rd (min k 3) [S t])=true:=by
 have r:=Zt4 T k;unfold stB at h;cases e:rdO k t with
 | none=>rw [e] at r;exact r
 | some d=>rw [e] at h;cases h
def ZiL{o:Option α}:(o.map f).isSome=o.isSome:=by cases o<;>rfl
def ZpI(T:Tx t)(q:Φ (.bl (stB k t))):Tl (Zbo [.int (k:Int),S t]) Φ:=by
 obtain ⟨u,d,e⟩:=Zdc 32 t;have g:∀w∈u::d,Tx w:=λw b=>T.sub (by rw [e];exact b);have h:=(g u Vaq).a;have m:d.length<=901:=by have:=T.ws (c:=32);rw [e] at this;simp only [VaU] at this;ac_rfl
 have f:cutL ((u::d).map S) (some 1) none=d.map S:=(Zg0 03).trans rfl;have first:∀{Ψ:Fl->Prop},Ψ (.nx [.im (.int (k:Int)),.im (S t),.im (.lst ((u::d).map S)),.no])->Tl (st 2 (sD Zau (v 1) (c (.str " "))) (ev0 4 [.int (k:Int),S t])) Ψ:=λz=>by
  refine ZtH rfl T.n ?_;rw [e];exact z
 unfold Zbo;refine w_fn (w_sq (first (w_gx ?_)))
 have hk:k=0\/k=1\/k=2\/3<=k:=by ac_rfl
 rcases hk with rfl | rfl | rfl | hk
 ·have q:Φ (.bl (((flO t).map λj=>D.lst (j.map .int)).isSome)):=q;rw [ZiL,Zpi,Zo7 e] at q;symm;rw [ZpP];refine ZjL h (ZaA rfl) ?_;by_cases hh:u=fwL
  ·rw [Vbr hh];rw [iP hh] at q;symm;rw [f];refine ⟨by rw [VaX];ac_rfl,?_⟩;refine ZbX (λw=>oI (numL w)) (λw b=>?_) ?_
   ·have b:=g w (Var _ b);symm;exact Zg9 b.a b.n rfl
   refine w_gx (ZlU ?_);exact ZqH (by symm; exact q)
  ·rw [Vad hh];rw [iN hh] at q;symm;exact q
 ·have q:Φ (.bl (((grO t).map frD).isSome)):=q;rw [ZiL,Zqt,Zo7 e] at q;symm;rw [ZpZ];refine ZjL h (ZaA rfl) ?_;by_cases hh:u=gwL
  ·rw [Vbr hh];rw [iP hh] at q;have q:Φ (.bl (decide (d.length=1)&&(ZaC (d.getD 0 [])).isSome)):=q;symm;by_cases h1:d.length=1
   ·obtain ⟨w,rfl⟩ : ∃w,d=[w]:=by
     match d,h1 with
     | [w],_=>exact ⟨w,rfl⟩
    have b:=g w 03;symm;refine ZgR b.a (Vao b.l 00) ?_;symm;rw [ZpH];have q:Φ (.bl (ZaC w).isSome):=q;cases hf:ZaC w<;>rw [hf] at q<;>exact q
   ·rw [Vad h1,VaL] at q;refine w_dF (by simp;ac_rfl) ?_;symm;exact q
  ·rw [Vad hh];rw [iN hh] at q;symm;exact q
 ·have q:Φ (.bl (((spX t).map λi=>D.lst (i.map tupI)).isSome)):=q;unfold spX at q;rw [ZiL,ZpN,Zo7 e] at q;symm;rw [Zr8];refine ZjL h (ZaA rfl) ?_;by_cases hh:u=swL
  ·rw [Vbr hh];rw [iP hh] at q;symm;rw [f];refine ZmL (λw b=>g w (Var _ b)) 04 ?_;symm;exact q
  ·rw [Vad hh];rw [iN hh] at q;symm;exact q
 ·have q:Φ (.bl (thO t).isSome):=by
   match k,hk with
   | n+3,_=>exact q
  symm;refine ZmJ T ?_;symm;exact q
def badR(rows:List 01)(j:Nat):Bool:=match rows[j]? with
 | some t=>!stB j t
 | none=>true
def dueF(rows:List 01):Nat->Nat->Option Nat
 | _,0=>none
 | j,m+1=>if badR rows j=true then some j else dueF rows (j+1) m
def dueE(a0:Cl)(rows:List 01)(f:Fl):Option Nat->Prop
 | some k=>f=.rt (.int (k:Int))
 | none=>∃z,f=.nx [a0,.im (.lst (rows.map S)),z]
def Zri{rows:List 01}(hr:∀t∈rows,Tx t):∀(m j:Nat) (v2:Cl),Tl (ZbJ (gN 2) (ifs (bOr (trb (o2 dGe (v 2) (on bLen (Zaa (v 1) yaa)))) (bNot (trb (on Zbo (Zaa (v 2) (Zaa (o2 dIx (v 1) (v 2)) yaa)))))) (Dl.ret (v 2)) nop) (Za5 (j:Int) m) [a0,.im (.lst (rows.map S)),v2]) λf=>dueE a0 rows f (dueF rows j m)
 | 0,j,v2=>w_f0 ⟨v2,rfl⟩
 | m+1,j,v2=>by
  rw [ZpO];refine w_f1 (Zae (x:=[a0,.im (.lst (rows.map S)),.im (.int (j:Int))]) rfl ?_);have a:∀b,badR rows j=b->dueF rows j (m+1)=if b=true then some j else dueF rows (j+1) m:=λb h=>by rw [<-h];rfl
  cases e:rows[j]? with
  | none=>
   rw [a true (by unfold badR;rw [e]),iP rfl];symm;refine w_dT (by rw [VaX];have:=Vcu.mp e;ac_rfl) ?_;symm;rfl
  | some t=>
   have c:=(Vaw.mp e).1;symm;refine w_dF (by rw [VaX];ac_rfl) ?_;symm;refine Zae (Zu0 e) ?_;symm;refine ZpI (hr t (Vbe e)) ?_;cases hs:stB j t with
   | false=>
    rw [a true (by unfold badR;rw [e];show (!stB j t)=true;rw [hs];rfl),iP rfl];symm;rfl
   | true=>
    rw [a false (by unfold badR;rw [e];show (!stB j t)=false;rw [hs];rfl),iN Bool.false_ne_true];symm;exact Zri hr m (j+1) _
def ZxV(T:Tx l) (q:Φ (match dueF (Zab 10 l) 0 (max 3 (Zab 10 l).length) with
  | some k=>.int (k:Int)
  | none=>.non)):Tl (ZeB [S l]) Φ:=by
 have d:=T.ws (c:=10);refine w_fn (w_sq (w_st (w_sD (Zae rfl ⟨_,rfl,?_⟩))));symm;rw [litN];refine Zcx T.n (w_gx ?_);symm;rw [show max (3:Int) ((((Zab 10 l).map λl=>D.str (mkS l)).length:Nat):Int)=((max 3 (Zab 10 l).length:Nat):Int) by rw [VaX];ac_rfl];refine Zrr 04 ?_;refine Tl.mono (Zri (λt b=>T.sub b) (max 3 (Zab 10 l).length) 0 .no) λf a=>?_;cases e:dueF (Zab 10 l) 0 (max 3 (Zab 10 l).length) with
 | none=>
  rw [e] at a q;obtain ⟨z,rfl⟩:=a;symm;exact q
 | some k=>
  rw [e] at a q;have a:=a;subst a;symm;exact q
def Zlw:∀{m j k:Nat},dueF rows j m=some k->j<=k/\k<j+m/\badR rows k=true/\∀i,j<=i->i<k->badR rows i=false
 | 0,j,k,h=>by cases h
 | m+1,j,k,h=>by
  unfold dueF at h;cases hb:badR rows j with
  | true=>
   rw [hb,iP rfl] at h;cases h;exact ⟨VaN _,by ac_rfl,hb,λi c a=>aB a 04⟩
  | false=>
   rw [hb,iN VaJ] at h;obtain ⟨c,a,b,e⟩:=Zlw h;refine ⟨by ac_rfl,by ac_rfl,b,λi f d=>?_⟩;by_cases hij:i=j
   ·rw [hij];exact hb
   ·exact e i 04 d
def Zlb:∀{m j:Nat},dueF rows j m=none->∀i,j<=i->i<j+m->badR rows i=false
 | 0,j,h=>λi b a=>aB a 04
 | m+1,j,h=>by
  unfold dueF at h;cases hb:badR rows j with
  | true=>rw [hb,iP rfl] at h;cases h
  | false=>
   rw [hb,iN VaJ] at h;intro i d c;by_cases hij:i=j
   ·rw [hij];exact hb
   ·exact Zlb h i 04 04
def Zq0(h:badR rows i=false):∃t,rows[i]?=some t/\stB i t=true:=by
 unfold badR at h;cases e:rows[i]? with
 | none=>rw [e] at h;cases h
 | some t=>
  rw [e] at h;refine ⟨t,rfl,?_⟩;have h:(!stB i t)=false:=h;cases hs:stB i t with
  | true=>rfl
  | false=>rw [hs] at h;cases h
def ZrG(T:Tx l)(h:dueF (Zab 10 l) 0 (max 3 (Zab 10 l).length)=some k):Zps (Zab 10 l) k:=by
 obtain ⟨_,m,a,f⟩:=Zlw h;refine ⟨λi j=>?_,λt b=>?_,λg=>?_⟩
 ·obtain ⟨t,b,c⟩:=Zq0 (f i (Va0 _) j);obtain ⟨d,_,e⟩:=Zns (T.sub (Vbe b)) c;exact ⟨t,b,by rw [e];rfl⟩
 ·unfold badR at a;rw [b] at a;refine Zqg (T.sub (Vbe b)) ?_;have a:(!stB k t)=true:=a;cases c:stB k t with
  | false=>rfl
  | true=>rw [c] at a;cases a
 ·have:=Vcu.mp g;ac_rfl
def fT(q:Rat):List Nat:=if q.den=1 then tI q.num else tI q.num++47::tI (q.den:Int)
structure B30(q:Rat):Prop where
 n:q.num.natAbs<10^30
 d:q.den<10^30
def Zq6(h:B30 q):(fT q).length<=63:=by
 have a:=ZhT 00 h.n;have b:=ZhT (k:=30) 00 (by rw [Vcm];exact h.d);unfold fT;split
 ·ac_rfl
 ·rw [Vbf,VaU];ac_rfl
def Zmk(h:B30 q)(k:Φ (.str (mkS (fT q)))):Tl (Zaq [frD q]) Φ:=by
 have b:=ZhT 00 h.n;have c:=ZhT (k:=30) 00 (by rw [Vcm];exact h.d);unfold Zaq frD;symm;refine ZbT (λa=>?_) (λa=>?_)
 ·symm;refine ZdY (Vbu h.n 00) ?_;symm;have e:fT q=tI q.num:=by unfold fT;rw [iP 04]
  rw [<-e];exact k
 ·symm;refine ZdY (Vbu h.n 00) ?_;symm;rw [litS];refine ZgH (by simp;ac_rfl) ?_;symm;refine ZdY (by rw [Vcm];exact Vbu h.d 00) ?_;refine ZgH (by simp;ac_rfl) ?_;symm;have e:fT q=tI q.num++[47]++tI (q.den:Int):=by unfold fT;rw [iN 04];simp
  rw [<-e];exact k
def Zet(h:numL l=some n):n.natAbs<10^30:=by
 unfold numL at h;split at h
 ·next a=>
  obtain ⟨m,e,b,_⟩:=Zkd a.1;rw [e] at h;injection h with h
  subst h;exact b
 ·cases h
def ZcC(h:ZaC l=some q):B30 q:=by
 unfold ZaC at h;split at h
 ·cases e:numL l with
  | none=>rw [e] at h;cases h
  | some n=>
   rw [e] at h;injection h with h
   subst h;exact ⟨Zet e,by show 1<10^30;decide⟩
 ·next a b _=>
  cases e1:numL a with
  | none=>rw [e1] at h;cases h
  | some n=>
   cases e2:numL b with
   | none=>rw [e1,e2] at h;cases h
   | some d=>
    rw [e1,e2] at h;change mkQ n d=some q at h;unfold mkQ at h;split at h
    ·injection h with h
     subst h;exact ⟨Zet e1,Zet e2⟩
    ·cases h
def ZmO:∀c,48<=c->c<=57->D10 (c - 48)=[c]:=by
 intro c a b;have:∀k:Fin 10,D10 (k:Nat)=[(k:Nat)+48]:=by decide +kernel
 have e:=this ⟨c - 48,by ac_rfl⟩;rw [show c - 48+48=c by ac_rfl] at e;exact e
def ZiF:∀n f,f.length=n->f≠[]->(f.take 1=[48]->f=[48])->f.all digB=true->D10 (digV f)=f
 | 0,f,hl,hn,_,_=>aB (Vco.mp hl) hn
 | n+1,f,hl,hn,hz,hd=>by
  obtain ⟨g,c,rfl⟩ : ∃g c,f=g++[c]:=⟨f.dropLast,f.getLast hn,(List.dropLast_concat_getLast hn).symm⟩;rw [List.all_append,Vbo] at hd;have a:digB c=true:=by simpa using hd.2
  unfold digB at a;rw [Vbo,Vcd,Vcd] at a;have d:digV (g++[c])=digV g*10+(c - 48):=by unfold digV;rw [List.foldl_append];rfl
  rw [d];cases hg:g with
  | nil=>
   show D10 (0*10+(c - 48))=[c];rw [Nat.zero_mul,Nat.zero_add];exact ZmO c a.1 a.2
  | cons x r=>
   rw [<-hg];have h:g≠[]:=by rw [hg];simp
   have b:g.take 1≠[48]:=λz=>by
    have:(g++[c]).take 1=[48]:=by rw [hg] at z ⊢;exact z
    have:=VaA List.length (hz this);rw [hg] at this;simp at this
   have ih:=ZiF n g (by rw [Vbf] at hl;simpa using hl) h (λz=>aB z b) hd.1;have i:1<=digV g:=by
    cases e:digV g with
    | zero=>
     rw [e] at ih;exact aB (by rw [<-ih];decide +kernel) b
    | succ k=>ac_rfl
   rw [Zqq 04,show (digV g*10+(c - 48))/10=digV g by ac_rfl,show (digV g*10+(c - 48))%10=c - 48 by ac_rfl,ih,ZmO c a.1 a.2]
def ZeC(h:numL l=some n):tI n=l:=by
 unfold numL at h;split at h
 ·next c=>
  obtain ⟨b,i,f,d⟩:=Zld c.1;cases l with
  | nil=>cases h
  | cons x r=>
   have h:(if x=45 then (figL r).map (λn:Nat=>-(n:Int)) else (figL (x::r)).map λn:Nat=>(n:Int))=some n:=h
   by_cases hx:x=45
   ·subst hx;have g:figs (45::r)=r:=rfl;rw [g] at b i f d;rw [iP rfl] at h;unfold figL at h;rw [iP ⟨b,d⟩] at h;have h:-(digV r:Int)=n:=Vac h;have a:=ZiF r.length r rfl b f d;have j:1<=digV r:=by
     cases e:digV r with
     | zero=>
      rw [e] at a;exact aB (by rw [<-a];decide +kernel) c.2
     | succ k=>ac_rfl
    unfold tI;rw [<-h,iP 04,Int.natAbs_neg,Vcm,a]
   ·have g:figs (x::r)=x::r:=by
     unfold figs;rw [iN];intro z;exact hx (by simpa using z)
    rw [g] at b i f d;rw [iN hx] at h;unfold figL at h;rw [iP ⟨b,d⟩] at h;have h:(digV (x::r):Int)=n:=Vac h;unfold tI;rw [<-h,iN 04,Vcm,ZiF (x::r).length (x::r) rfl b f d]
 ·cases h
def Zec(h:ZaC l=some q):fT q=l:=by
 unfold ZaC at h;cases e:ZbU 47 l with
 | none=>
  rw [e] at h;have h:=h;cases en:numL l with
  | none=>rw [en] at h;cases h
  | some n=>
   rw [en] at h;cases h;unfold fT;rw [iP rfl];exact ZeC en
 | some p=>
  obtain ⟨a,b⟩:=p;rw [e] at h;have h:ZuT (numL a) (numL b)=some q:=h;obtain ⟨g,_⟩:=Zbp e;cases ea:numL a with
  | none=>rw [ea] at h;cases h
  | some n=>
   cases eb:numL b with
   | none=>rw [ea,eb] at h;cases h
   | some d=>
    rw [ea,eb] at h;have h:mkQ n d=some q:=h;unfold mkQ at h;split at h
    ·next c=>
     cases h;unfold fT;have f:((d.natAbs:Nat):Int)=d:=by ac_rfl
     rw [iN (show ¬d.natAbs=1 by ac_rfl)];rw [f,ZeC ea,ZeC eb,g]
    ·cases h
def Zds{F:List Nat->Option β}(hb:∀w x,F w=some x->G x=w):∀{ws:List 01} {xs:List β},allO F ws=some xs->xs.map G=ws
 | [],xs,h=>by cases h;rfl
 | w::r,xs,h=>by
  unfold allO at h;cases hf:F w with
  | none=>rw [hf] at h;cases h
  | some x=>
   rw [hf,Vcq] at h;cases hr:allO F r with
   | none=>rw [hr] at h;cases h
   | some ys=>
    rw [hr] at h;cases h;rw [VaW,hb w x hf,Zds hb hr]
def N30(ns:List Int):Prop:=∀n∈ns,n.natAbs<10^30
def ZfS(h:allO numL ws=some ns):N30 ns:=ZcS h λ_ _ _ a=>Zet a
def Zf2(hs:str=mkS s)(h:Tl (a ρ) λx=>x=.lst (ws.map S))(hl:totL s.length ws<=1000000)(q:Φ (S (Zat s ws))):Tl (sD ZeU (c (.str str)) a ρ) Φ:=by
 subst hs;exact w_sD (Zae rfl ⟨_,rfl,h.mono λx e=>by rw [e];exact Zn6 hl q⟩)
def ZeI(h:∀w∈ws,w.length<=b):totL s ws<=ws.length*(b+s):=by
 unfold totL
 induction ws with
 | nil=>simp
 | cons w r ih=>
  have c:=h w Vaq;have d:=ih λu a=>h u (Var _ a);rw [VaW,List.sum_cons,VaU,Nat.add_mul,Nat.add_mul];ac_rfl
def Zir(h:n.natAbs<10^30):(tI n).length<=31:=ZhT (k:=30) 00 h
def Zpm(h:N30 ns){Ψ:List D->Prop}(q:Ψ ((ns.map tI).map S)):Tl (Zaz (gN 0) yes (on Zan 07) (.no::ρ) (ns.map .int)) Ψ:=by
 refine ZbX (λn=>S (tI n)) (λn a=>?_) (by rw [VbN] at q;exact q);symm;exact ZdY (Vbu (h n a) 00) rfl
def ZrY(h:4<=ns.length)(hl:ns.length<=1000):Zcg [coD ns]=.ok (.lst (ns.map .int)):=by
 obtain ⟨x,y,w,z,a,rfl⟩:=Zku h;refine ZaG ?_;unfold Zcg coD;symm;refine Zgx ?_ ?_
 ·show 4+(a.map D.int).length<=1000000;rw [VaX];simp only [VaU] at hl;ac_rfl
 ·symm;rfl
def Zqr(h4:4<=ns.length)(hl:ns.length<=1000)(h:N30 ns):ZbO [coD ns]=.ok (S (Zat [32] ([47]::ns.map tI))):=by
 refine ZaG ?_;unfold ZbO;refine w_fn (ZlU (Zf2 (ws:=[47]::ns.map tI) litB ?_ ?_ ?_))
 ·symm;refine Zae (ZrY h4 hl) ?_;symm;refine ⟨by rw [VaX];ac_rfl,Zpm h ?_⟩;rw [litS];exact Zgx (by simp;ac_rfl) rfl
 ·refine Vao (ZeI (b:=31) λw hw=>?_) (by simp;ac_rfl);rcases Vat.mp hw with rfl | hw
  ·decide
  ·obtain ⟨n,a,rfl⟩:=Vbw.mp hw;exact Zir (h n a)
 ·symm
def kdT:Th->List 01
 | .pl q=>[plW,fT q]
 | .sh=>[shW]
 | .pt p=>[paW,Zat [59] (p.map λr=>Zat [44] (r.map fT))]
 | .gl q r=>[gsW,fT q,fT r]
structure ThOk(k:Th):Prop where
 pl:∀q,k=.pl q->B30 q
 pt:∀p,k=.pt p->(∀r∈p,∀q∈r,B30 q)/\p.length<=1000/\∀r∈p,r.length<=1000
 gl:∀q r,k=.gl q r->B30 q/\B30 r
def fw(h:B30 q):Zaq [frD q]=.ok (S (fT q)):=ZaG (Zmk h rfl)
def Zqk(h:∀r∈p,∀q∈r,B30 q)(hl:p.length<=1000)(hr:∀r∈p,r.length<=1000)(tot:(Zat [59] (p.map λr=>Zat [44] (r.map fT))).length<=900)(htot:totL 1 (p.map λr=>Zat [44] (r.map fT))<=1000000):Zbv [picD p]=.ok (S (Zat [59] (p.map λr=>Zat [44] (r.map fT)))):=by
 refine ZaG ?_;unfold Zbv;refine w_fn (ZlU (Zf2 Zsx ?_ htot ?_))
 ·unfold picD;symm;refine ⟨by rw [VaX];ac_rfl,?_⟩;refine ZbX (λr=>S (Zat [44] (r.map fT))) (λr a=>?_) (by rw [VbN];rfl);have d:=hr r a;refine w_gN (Zf2 litC ?_ ?_ rfl)
  ·unfold rowD;symm;refine ⟨by rw [VaX];ac_rfl,?_⟩;refine ZbX (λq=>S (fT q)) (λq c=>?_) (by rw [VbN];rfl);symm;exact Zae (fw (h r a q c)) rfl
  ·refine Vao (ZeI (b:=63) λw e=>?_) (by rw [VaX];simp only [VaU,Vch];ac_rfl);obtain ⟨q,c,rfl⟩:=Vbw.mp e;exact Zq6 (h r a q c)
 ·symm
def ZqB{k:Th}(h:ThOk k)(ht:∀p,k=.pt p->(Zat [59] (p.map λr=>Zat [44] (r.map fT))).length<=900/\totL 1 (p.map λr=>Zat [44] (r.map fT))<=1000000):Zch [thD cs k]=.ok (.lst ((kdT k).map S)):=by
 refine ZaG ?_;unfold Zch;cases k with
 | pl q=>
  refine w_fn (w_sq (w_st (Zae (x:=.str "plain") (by kernel_rfl) (w_gx ?_))));symm;rw [Zmm];refine Zdr (ZaA rfl) (ZaA rfl) ?_;rw [Vbr rfl];symm;refine Zae rfl ?_;symm;refine Zae (fw (h.pl q rfl)) ?_;symm;rfl
 | sh=>
  refine w_fn (w_sq (w_st (Zae (x:=.str "shaded") (by kernel_rfl) (w_gx ?_))));symm;rw [Zmm,ZsC];refine Zdr (ZaA rfl) (ZaA rfl) ?_;rw [Vad 00];symm;rw [ZoJ];refine Zdr (ZaA rfl) (ZaA rfl) ?_;rw [Vad 00];symm;rw [Zpy];refine Zdr (ZaA rfl) (ZaA rfl) ?_;rw [Vad 00];symm;rfl
 | pt p=>
  obtain ⟨a,b,c⟩:=h.pt p rfl;obtain ⟨e,d⟩:=ht p rfl;refine w_fn (w_sq (w_st (Zae (x:=.str "patterned") (by kernel_rfl) (w_gx ?_))));symm;rw [Zmm,ZoJ];refine Zdr (ZaA rfl) (ZaA rfl) ?_;rw [Vad 00];symm;refine Zdr (ZaA rfl) (ZaA rfl) ?_;rw [Vbr rfl];symm;refine Zae rfl ?_;symm;refine Zae (Zqk a b c e d) ?_;symm;rfl
 | gl q r=>
  obtain ⟨a,b⟩:=h.gl q r rfl;refine w_fn (w_sq (w_st (Zae (x:=.str "glass") (by kernel_rfl) (w_gx ?_))));symm;rw [Zmm,Zpy];refine Zdr (ZaA rfl) (ZaA rfl) ?_;rw [Vad 00];symm;rw [ZoJ];refine Zdr (ZaA rfl) (ZaA rfl) ?_;rw [Vad 00];symm;refine Zdr (ZaA rfl) (ZaA rfl) ?_;rw [Vbr rfl];symm;refine Zae rfl ?_;symm;refine Zae (fw a) ?_;symm;refine Zae rfl ?_;symm;refine Zae (fw b) ?_;symm;rfl
def Zii:∀{ws:List 01},(Zat s ws).length<=totL s.length ws
 | []=>by simp [Zat,totL]
 | [w]=>by simp [Zat,totL]
 | w::x::r=>by
  have ih:=Zii (s:=s) (ws:=x::r);show (w++s++Zat s (x::r)).length<=_;rw [Vbf,Vbf];unfold totL at ih ⊢;rw [VaW,List.sum_cons,VaU,Nat.add_mul];ac_rfl
def cT(ns:List Int):List Nat:=Zat [32] ([47]::ns.map tI)
def ZtE{k:Th}(hw:∀w∈h,Tx w)(e:hdO h n=some k):kdT k=h/\ThOk k/\∀p,k=.pt p->(Zat [59] (p.map λr=>Zat [44] (r.map fT))).length<=900/\totL 1 (p.map λr=>Zat [44] (r.map fT))<=1000000:=by
 unfold hdO at e;split at e
 ·next c=>
  obtain ⟨a,b,rfl⟩:=Zeb c.2;have i:a=plW:=by have:=c.1;simpa using this
  have e:(ZaC b).map Th.pl=some k:=e;cases hf:ZaC b with
  | none=>rw [hf] at e;cases e
  | some q=>
   rw [hf] at e;cases e;refine ⟨by rw [i];show [plW,fT q]=_;rw [Zec hf],⟨(λ_ z=>by cases z;exact ZcC hf),003,(λ_ _ z=>by cases z)⟩,003⟩
 split at e
 ·next c=>
  split at e
  ·cases e;exact ⟨c.symm,⟨003,003,(λ_ _ z=>by cases z)⟩,003⟩
  ·cases e
 split at e
 ·next c=>
  obtain ⟨a,b,rfl⟩:=Zeb c.2;have i:a=paW:=by have:=c.1;simpa using this
  have j:=hw b 03;have e:((ptO b).bind λp=>if 2<=n/\patB p=true then some (Th.pt p) else none)=some k:=e
  cases hp:ptO b with
  | none=>rw [hp] at e;cases e
  | some p=>
   rw [hp,Vcq] at e;split at e
   ·cases e;have s:=Zrb j hp;unfold ptO at hp;have o:∀w r,allO ZaC (Zab 44 w)=some r->Zat [44] (r.map fT)=w:=λw r u=>by
     rw [Zds (λ_ _ z=>Zec z) u,Zcs]
    have f:=Zds o hp;have g:Zat [59] (p.map λr=>Zat [44] (r.map fT))=b:=by rw [f,Zcs]
    refine ⟨by rw [i];show [paW,_]=_;rw [g],⟨003,(λ_ z=>by
     cases z
     exact ⟨ZcS hp λr _ x v=>ZcS v λ_ _ _ t=>ZcC t,s⟩),(λ_ _ z=>by cases z)⟩,λ_ z=>?_⟩
    cases z;rw [g,f];refine ⟨j.l,Vao (ZeI λw m=>(j.sub m).l) ?_⟩;have:=j.ws (c:=59);ac_rfl
   ·cases e
 split at e
 ·next c=>
  obtain ⟨a,b,d,rfl⟩:=Zev c.2;have i:a=gsW:=by have:=c.1;simpa using this
  have e:((ZaC b).bind λq=>(ZaC d).bind λr=>if ZfG r=true then some (Th.gl q r) else none)=some k:=e
  cases hf:ZaC b with
  | none=>rw [hf] at e;cases e
  | some q=>
   cases hg:ZaC d with
   | none=>rw [hf,hg] at e;cases e
   | some r=>
    rw [hf,hg,Vcq,Vcq] at e;split at e
    ·cases e;exact ⟨by rw [i];show [gsW,fT q,fT r]=_;rw [Zec hf,Zec hg],⟨003,003,(λ_ _ z=>by cases z;exact ⟨ZcC hf,ZcC hg⟩)⟩,003⟩
    ·cases e
 ·cases e
def ZgB:∀{gs:List (List 01)} {ws:List 01},ws≠[]->(∀g∈gs,g≠[])->Zat [32] (ws++gs.map (Zat [32]))=Zat [32] (ws++gs.flatten)
 | [],ws,_,_=>rfl
 | g::r,ws,hw,hg=>by
  have a:=hg g Vaq;have ih:=ZgB (ws:=ws++g) (by simp [hw]) λx b=>hg x (Var _ b);rw [List.flatten_cons,<-VbO,<-ih,VaW];cases hr:r.map (Zat [32]) with
  | nil=>rw [Va2,Zcu [32] hw 03,Zcu [32] hw a];rfl
  | cons y ys=>rw [Zcu [32] hw 03,Zcu [32] (by simp [hw]) 03,Zcu [32] hw a,show (Zat [32] g::y::ys)=[Zat [32] g]++y::ys from rfl,Zcu [32] 03 03];simp [Zat]
def ZrT{k:Th}(hk:ThOk k)(ht:∀p,k=.pt p->(Zat [59] (p.map λr=>Zat [44] (r.map fT))).length<=900/\totL 1 (p.map λr=>Zat [44] (r.map fT))<=1000000)(hw:∀w∈kdT k,w.length<=900)(hl:(kdT k).length<=3)(hc:cs.length=3)(h4:∀ns∈cs,4<=ns.length/\ns.length<=1000/\N30 ns):ZbF [thD cs k]=.ok (S (Zat [32] (kdT k++cs.map cT))):=by
 refine ZaG ?_;unfold ZbF;refine w_fn (ZlU (Zf2 (ws:=kdT k++cs.map cT) litB ?_ ?_ ?_))
 ·refine w_o2 (w_on (Za3 (w_v rfl (Zdj (Zae (ZqB hk ht) ?_)))));refine ZjS (w_iv (w_o1 (w_v rfl (Zae (x:=triD cs) (by cases k<;>kernel_rfl) (Zae rfl ⟨by rw [VaX];ac_rfl,?_⟩)))));refine ZbX (λns=>S (cT ns)) (λns a=>?_) ?_
  ·have:=h4 ns a;symm;exact Zae (Zqr this.1 this.2.1 this.2.2) rfl
  ·refine Zgx (by rw [VaX,VaX];ac_rfl) ?_;rw [Vb1,VbN];rfl
 ·refine Vao (ZeI (b:=40000) λw hw'=>?_) (by rw [Vbf,VaX];simp only [VaU,Vch];ac_rfl);rcases Vau.mp hw' with hw' | hw'
  ·exact Vao (hw w hw') 00
  ·obtain ⟨ns,a,rfl⟩:=Vbw.mp hw';have:=h4 ns a;refine Vao Zii (Vao (ZeI (b:=31) λw hw=>?_) (by simp only [VaU,VaX,Vch];ac_rfl));rcases Vat.mp hw with rfl | hw
   ·decide
   ·obtain ⟨n,a,rfl⟩:=Vbw.mp hw;exact Zir (this.2.2 n a)
 ·symm
def Zte(T:Tx t)(h:thO t=some d):ZbF [d]=.ok (S t):=by
 unfold thO at h;split at h
 ·next C=>
  obtain ⟨g,a,b,c,e⟩:=Zgj C;rw [e] at h;have h:((allO coO [a,b,c]).bind λo=>thX o g)=some d:=h;cases ec:allO coO [a,b,c] with
  | none=>rw [ec] at h;cases h
  | some o=>
   rw [ec,Vcq] at h;unfold thX at h;split at h
   ·cases ek:hdO g (nv o) with
    | none=>rw [ek] at h;cases h
    | some k=>
     rw [ek] at h;have h:=Vac h;have m:∀x∈[g,a,b,c],(∀w∈x,Tx w)/\x.length<=901:=λx E=>by
      obtain ⟨F,H⟩:=Zjm (by rw [e];exact E);exact ⟨λw p=>T.sub (F w p).1,Vao H T.ws⟩
     obtain ⟨u,D,G⟩:=ZtE (m g 03).1 ek;have q:o.map (λi:List Int=>i.map tI)=[a,b,c]:=by
      have:∀n v,allO coO n=some v->v.map (λi:List Int=>i.map tI)=n:=by
       intro n
       induction n with
       | nil=>intro v h;cases h;rfl
       | cons w r ih=>
        intro v h;unfold allO at h;cases hf:coO w with
        | none=>rw [hf] at h;cases h
        | some x=>
         rw [hf,Vcq] at h;cases hr:allO coO r with
         | none=>rw [hr] at h;cases h
         | some ys=>
          rw [hr] at h;cases h;rw [VaW,ih ys hr];unfold coO at hf;split at hf
          ·cases hf
          ·rw [Zds (λ_ _ z=>ZeC z) hf]
      exact this _ _ ec
     have j:∀i∈o,4<=i.length/\i.length<=1000/\N30 i:=ZcS ec λn y i s=>by
      have f:=Zgu s;have l:=(m n (Var _ y)).2;refine ⟨f.2,by ac_rfl,?_⟩;unfold coO at s;split at s
      ·cases s
      ·exact ZfS s
     have I:g.length<=3:=by rw [<-u];cases k<;>simp [kdT]
     have B:g≠[]:=by rw [<-u];cases k<;>simp [kdT]
     rw [<-h,ZrT D G (λw p=>by rw [u] at p;exact ((m g 03).1 w p).l) (by rw [u];exact I) (ZaP ec) j,u];have A:o.map cT=([a,b,c].map λx=>[47]::x).map (Zat [32]):=by
      rw [<-q,VbN,VbN];rfl
     rw [A,ZgB B 03];have p:Zab 32 t=g++[47]::(a++[47]::(b++[47]::c)):=by
      have:=Zkm (Zab 32 t);rw [e] at this;exact this.symm
     have:=Zcs 32 t;rw [p] at this;rw [<-this];simp
   ·cases h
 ·cases h
def ZwP(f:α->β)(d:α)(l:List α):l.map f=(List.range l.length).map λk=>f (l.getD k d):=by
 apply List.ext_getElem?;intro i;by_cases h:i<l.length
 ·simp [h]
 ·simp [h]
def ZnX(e:wb h t=some ws):Zab 32 t=h::ws:=by
 obtain ⟨u,c,a⟩:=Zdc 32 t;rw [Zo7 a] at e;split at e
 ·next b=>cases e;rw [a,b]
 ·cases e
def ZmG(e:jw h t n=some ws):Zat [32] (h::ws)=t:=by
 unfold jw at e;cases ew:wb h t with
 | none=>rw [ew] at e;cases e
 | some us=>
  rw [ew,Vcq] at e;split at e
  ·cases e;rw [<-ZnX ew,Zcs]
  ·cases e
def Zsd(h:flO t=some ns):∃a b,ns=[a,b]/\(a.natAbs<10^30/\b.natAbs<10^30)/\Zat [32] [fwL,tI a,tI b]=t:=by
 unfold flO at h;cases ej:jw fwL t 2 with
 | none=>rw [ej] at h;cases h
 | some ws=>
  rw [ej,Vcq] at h;cases en:allO numL ws with
  | none=>rw [en] at h;cases h
  | some ms=>
   rw [en,Vcq] at h;split at h
   ·cases h;obtain ⟨a,b,rfl⟩:=Zeb (by rw [ZaP en,Zi3 ej]);have c:=ZfS en;refine ⟨a,b,rfl,⟨c a 03,c b 03⟩,?_⟩;have:=Zds (λ_ _ z=>ZeC z) en;rw [<-ZmG ej,<-this];rfl
   ·cases h
def Zs6(h:grO t=some q):B30 q/\Zat [32] [gwL,fT q]=t:=by
 unfold grO at h;cases ej:jw gwL t 1 with
 | none=>rw [ej] at h;cases h
 | some ws=>
  rw [ej,Vcq] at h;obtain ⟨w,rfl⟩ : ∃w,ws=[w]:=by
   match ws,Zi3 ej with
   | [w],_=>exact ⟨w,rfl⟩
  have h:=h;exact ⟨ZcC h,by rw [Zec h];exact ZmG ej⟩
def Zj9(k:List Int):List Nat:=Zat [44] (k.map tI)
def ZtJ(h:spX t=some ks):Zat [32] (swL::ks.map Zj9)=t/\ks.length<=16/\∀k∈ks,k.length=2/\N30 k:=by
 unfold spX spsO at h;cases ew:wb swL t with
 | none=>rw [ew] at h;cases h
 | some ws=>
  rw [ew,Vcq] at h;cases ea:allO spO ws with
  | none=>rw [ea] at h;cases h
  | some js=>
   rw [ea,Vcq] at h;split at h
   ·next a=>
    cases h;unfold spsB at a;rw [Vbo,Vbo,Vbo,Vcd,Vbx] at a;refine ⟨?_,Vca a.2.1,λk b=>⟨?_,ZcS ea (λw _ x c=>ZfS c) k b⟩⟩
    ·rw [Zds (λw k z=>by
      unfold Zj9
      rw [Zds (λ_ _ y=>ZeC y) (z),Zcs]) ea,<-ZnX ew,Zcs]
    ·have:=a.2.2.1 k b;unfold okS at this;rw [Vbo,Vcd] at this;exact this.1
   ·cases h
def nw(h:n.natAbs<10^30):Zan [.int n]=.ok (S (tI n)):=ZaG (ZdY (Vbu h 00) rfl)
def ZmR{k:List Int}(h2:k.length=2)(h:N30 k):Zb6 [tupI k]=.ok (S (Zj9 k)):=by
 obtain ⟨a,b,rfl⟩:=Zeb h2;have c:=h a 03;have d:=h b 03;refine ZaG ?_;unfold Zb6 tupI;symm;refine Zae (nw c) ?_;symm;rw [litC];refine ZgH (by have:=Zir c;simp only [VaU,Vch];ac_rfl) ?_;symm;refine Zae (nw d) ?_;refine ZgH (by have:=Zir c;have:=Zir d;simp only [Vbf,VaU,Vch];ac_rfl) ?_;symm;rfl
def ZoS{k:List Int}(h2:k.length=2)(h:N30 k):(Zj9 k).length<=63:=by
 obtain ⟨a,b,rfl⟩:=Zeb h2;have:=Zir (h a 03);have:=Zir (h b 03);show (tI a++[44]++tI b).length<=63;simp only [Vbf,VaU,Vch];ac_rfl
def td(t:01):D:=(thO t).getD .non
def Zth{t:MB}(h:Tl (it ρ) λxs=>xs.length<=1000000/\Tl (Zaz g t e (noA own (ybu ρ cap)) xs) λys=>Φ (.lst ys)):Tl (Zcm it own cap g t e ρ) Φ:=by
 obtain ⟨xs,a,c,ys,b,q⟩:=h;refine Zae ?_ q;unfold Zcm;rw [a];show (if xs.length<=LIM then (Zaz g t e (noA own (ybu ρ cap)) xs).bind (λys=>Res.ok (D.lst ys)) else .bad)=_
 rw [iP (show xs.length<=LIM from c),b];rfl
def Zqe(T:Tx l)(h:dueF (Zab 10 l) 0 (max 3 (Zab 10 l).length)=none):∃d,Zbk [S l]=.ok d/\Zcf [d]=.ok (S l):=by
 have M:=Zlb h;obtain ⟨f,m⟩ : ∃f,Zab 10 l=f:=⟨_,rfl⟩;rw [m] at M;have hl:=m▸T.ws;have u:∀i,i<max 3 f.length->∃t d,f[i]?=some t/\Tx t/\rdO i t=some d/\rd (min i 3) [S t]=.ok d:=λi hi=>by
  obtain ⟨t,s,hs⟩:=Zq0 (M i (Va0 _) 04);have C:=T.sub (by rw [m];exact Vbe s);obtain ⟨d,O,K⟩:=Zns C hs;exact ⟨t,d,s,C,O,K⟩
 obtain ⟨A,Z,W,T0,H,s0⟩:=u 0 04;obtain ⟨E,d1,O,T1,G,s1⟩:=u 1 04;obtain ⟨B,X,K,T2,F,s2⟩:=u 2 04;have n3:=(Vaw.mp K).1;obtain ⟨a,b,I,Q,bf⟩ : ∃a b,Z=.lst [.int a,.int b]/\(a.natAbs<10^30/\b.natAbs<10^30)/\Zat [32] [fwL,tI a,tI b]=A:=by
  have H:(flO A).map (λV=>D.lst (V.map .int))=some Z:=H;cases I:flO A with
  | none=>rw [I] at H;cases H
  | some V=>
   rw [I] at H;obtain ⟨a,b,rfl,R,U⟩:=Zsd I;exact ⟨a,b,(Vac H).symm,R,U⟩
 obtain ⟨q,N,Y,bg⟩ : ∃q,d1=frD q/\B30 q/\Zat [32] [gwL,fT q]=E:=by
  have G:(grO E).map frD=some d1:=G;cases N:grO E with
  | none=>rw [N] at G;cases G
  | some q=>
   rw [N] at G;exact ⟨q,(Vac G).symm,Zs6 N⟩
 obtain ⟨j,J,bs,kl,P⟩ : ∃j:List (List Int),X=.lst (j.map tupI)/\Zat [32] (swL::j.map Zj9)=B/\j.length<=16/\∀k∈j,k.length=2/\N30 k:=by
  have F:(spX B).map (λj=>D.lst (j.map tupI))=some X:=F;cases J:spX B with
  | none=>rw [J] at F;cases F
  | some j=>
   rw [J] at F;exact ⟨j,(Vac F).symm,ZtJ J⟩
 subst I N J;have p:∀k,k<f.length - 3->∃t,f[3+k]?=some t/\Tx t/\thO t=some (td t)/\ZaU [S t]=.ok (td t):=λk g=>by
  obtain ⟨t,d,s,C,o,r⟩:=u (3+k) 04;have o:thO t=some d:=by rw [show 3+k=k+3 by ac_rfl] at o;exact o
  have ed:td t=d:=by unfold td;rw [o];rfl
  rw [show min (3+k) 3=3 by ac_rfl] at r;rw [<-ed] at o r;exact ⟨t,s,C,o,r⟩
 have L:∀k,k<f.length - 3->(f.drop 3).getD k []=f.getD (3+k) []:=λk g=>by
  rw [VbS,VbS,List.getElem?_drop]
 have split:f=A::E::B::f.drop 3:=by
  match f,n3,W,O,K with
  | x::y::z::r,_,h0,R,U=>
   cases h0;cases R;cases U;rfl
 refine ⟨.tup [.int a,.int b,frD q,.lst (j.map tupI),.lst ((f.drop 3).map td)],?_,?_⟩
 ·refine ZaG ?_;unfold Zbk;refine w_fn (w_sq (Zop (w_on (Za3 (Zae rfl (Zdj (Zae rfl (w_gx ?_))))))));refine w_sq (w_st (w_sD (Zae rfl ⟨_,rfl,?_⟩)));symm;rw [litN];refine Zcx T.n (w_gx ?_);rw [m];refine w_sq (w_st (w_on (Zae rfl (Zae (ZhF 00 W s0) (w_gx ?_)))));refine w_sq (w_st (w_on (Zae rfl (Zae (ZhF 00 O s1) (w_gx ?_)))));refine w_sq (w_st (w_on (Zae rfl (Zae (ZhF 00 K s2) (w_gx ?_)))));refine w_sq (w_st (Zth (w_r2 ?_)));symm;rw [VaX];refine ZqW 04 ?_;refine ⟨by unfold Za5;rw [List.length_map,List.length_range];ac_rfl,?_⟩;unfold Za5;refine ZbX (λk:Nat=>td (f.getD (3+k) [])) (λk g=>?_) ?_
  ·have g:k<f.length - 3:=by have:=Vam.mp g;ac_rfl
   obtain ⟨t,s,C,o,r⟩:=p k g;have:Zbd [.lst (f.map S),.int ((3+k:Nat):Int),.cls (nmR 3)]=.ok (td t):=ZhF 00 s r;refine w_gN (w_on (Zae (by rfl) (Zae this ?_)));rw [VbS,s];rfl
  ·have em:((List.range ((f.length:Int) - 3).toNat).map λk:Nat=>td (f.getD (3+k) []))=(f.drop 3).map td:=by
    rw [ZwP td [] (f.drop 3),Vbk,show ((f.length:Int) - 3).toNat=f.length - 3 by ac_rfl];exact Vaa λk g=>by rw [L k (Vam.mp g)]
   rw [em];symm
 ·refine ZaG ?_;unfold Zcf;have f1:sD ZeU (c (.str " ")) (mls (Zaa (c (.str "floor")) (Zaa (on Zan (Zaa (o2 dIx (v 0) 002) yaa)) (Zaa (on Zan (Zaa (o2 dIx (v 0) 06) yaa)) yaa)))) (ev0 2 [.tup [.int a,.int b,frD q,.lst (j.map tupI),.lst ((f.drop 3).map td)]])=.ok (S A):=by
   refine ZaG (Zf2 (ws:=[fwL,tI a,tI b]) litB ?_ ?_ ?_)
   ·symm;refine Zae (nw Q.1) ?_;symm;refine Zae (nw Q.2) ?_;symm;rw [ZpP];rfl
   ·refine Vao (ZeI (b:=31) λw hw=>?_) 03;simp only [Vat,VbT,Vcb] at hw;rcases hw with rfl | rfl | rfl
    ·decide
    ·exact Zir Q.1
    ·exact Zir Q.2
   ·rw [bf]
  have f2:sD ZeU (c (.str " ")) (mls (Zaa (c (.str "ground")) (Zaa (on Zaq (Zaa (o2 dIx (v 0) (c (.int 2))) yaa)) yaa))) (ev0 2 [.tup [.int a,.int b,frD q,.lst (j.map tupI),.lst ((f.drop 3).map td)]])=.ok (S E):=by
   refine ZaG (Zf2 (ws:=[gwL,fT q]) litB ?_ ?_ ?_)
   ·symm;refine Zae (fw Y) ?_;symm;rw [ZpZ];rfl
   ·refine Vao (ZeI (b:=63) λw hw=>?_) 03;simp only [Vat,VbT,Vcb] at hw;rcases hw with rfl | rfl
    ·decide
    ·exact Zq6 Y
   ·rw [bg]
  have f3:sD ZeU (c (.str " ")) (o2 yaT (mls (Zaa (c (.str "spots")) yaa)) (comp (iv (o2 dIx (v 0) (c (.int 3)))) 1 [] (gN 0) yes (on Zb6 07))) (ev0 2 [.tup [.int a,.int b,frD q,.lst (j.map tupI),.lst ((f.drop 3).map td)]])=.ok (S B):=by
   refine ZaG (Zf2 (ws:=swL::j.map Zj9) litB ?_ ?_ ?_)
   ·symm;refine ⟨by rw [VaX];ac_rfl,?_⟩;refine ZbX (λk=>S (Zj9 k)) (λk g=>?_) ?_
    ·symm;exact Zae (ZmR (P k g).1 (P k g).2) rfl
    ·rw [Zr8];refine Zgx (by rw [VaX];simp only [VaU,Vch];ac_rfl) ?_;rw [VaW,VbN];rfl
   ·refine Vao (ZeI (b:=63) λw hw=>?_) (by simp only [VaU,VaX,Vch];ac_rfl);rcases Vat.mp hw with rfl | hw
    ·decide
    ·obtain ⟨k,g,rfl⟩:=Vbw.mp hw;exact ZoS (P k g).1 (P k g).2
   ·rw [bs]
  refine w_fn (w_sq (w_st (Zwj (Za3 (Zae f1 (Za3 (Zae f2 (Za3 (Zae f3 (Zdj (w_gx ?_)))))))))));refine ZlU (Zf2 (ws:=[A,E,B]++f.drop 3) litN ?_ ?_ ?_)
  ·symm;refine ⟨by rw [VaX,Vbk];ac_rfl,?_⟩;refine ZbX (λt=>S t) (λt ht=>?_) ?_
   ·obtain ⟨k,g,ek⟩:=List.getElem_of_mem ht;rw [Vbk] at g;obtain ⟨t',s,C,o,r⟩:=p k g;have:t'=t:=by
     have e:=VbL (by rw [Vbk];exact g);rw [List.getElem?_drop,s,ek] at e;exact Vac e
    subst this;symm;exact Zae (Zte C o) rfl
   ·refine Zgx (by rw [VaX,Vbk];simp only [VaU,Vch];ac_rfl) ?_;rw [Vb1];rfl
  ·refine Vao (ZeI (b:=900) λw hw=>?_) (by rw [Vbf,Vbk];simp only [VaU,Vch];ac_rfl);have hm:w∈f:=by rw [split];exact hw
   exact (T.sub (by rw [m];exact hm)).l
  ·have:[A,E,B]++f.drop 3=f:=split.symm;rw [this,<-m,Zcs];symm
def Sx(n:Nat)(d:D):Prop:=∃l,d=S l/\Asc l/\l.length<=n
def Zni(h:((cpL s).all (·<128)&&decide ((cpL s).length<=n))=true):Sx n (.str s):=by
 rw [Vbo,Vcd] at h;exact ⟨cpL s,by unfold S;rw [Zeq],ZaA h.1,h.2⟩
def Zk3{ss:List Str}(h:(ss.all λs=>(cpL s).all (·<128)&&decide ((cpL s).length<=n))=true)(hd:d∈ss.map .str):Sx n d:=by
 obtain ⟨s,a,rfl⟩:=Vbw.mp hd;exact Zni (Vbx.mp h s a)
def ZjY(hx:Sx m x)(hy:Sx n y)(hl:m+n<=1000000)(q:∀d,Sx (m+n) d->Φ d):Tl (yaT x y) Φ:=by
 obtain ⟨a,rfl,c,g⟩:=hx;obtain ⟨b,rfl,e,f⟩:=hy;exact ZgH 04 (q _ ⟨a++b,rfl,c.app e,by rw [Vbf];ac_rfl⟩)
def Zrq(h:0<=n/\n<=99)(q:∀d,Sx 3 d->Φ d):Tl (bStr [.int n]) Φ :=
 ZqP (Dl.Sm.of64 04 04) 00 (q _ ⟨tI n,rfl,Zur n,ZhT 00 04⟩)
def ZnV:∀{ds:List D},(∀d∈ds,Sx n d)->∃ts:List 01,ds=ts.map S/\∀t∈ts,Asc t/\t.length<=n
 | [],_=>⟨[],rfl,λt a=>(VbT a).elim⟩
 | d::r,h=>by
  obtain ⟨l,rfl,b,e⟩:=h d Vaq;obtain ⟨ts,rfl,a⟩:=ZnV λx c=>h x (Var _ c);refine ⟨l::ts,rfl,λt hm=>?_⟩;rcases Vat.mp hm with rfl | hm
  ·exact ⟨b,e⟩
  ·exact a t hm
def ZuK(q:∀ts:List 01,(∀t∈ts,Asc t/\t.length<=80)->ts.length<=7->Φ (.lst (ts.map S))):Tl (ZcN [.int cc]) Φ:=by
 unfold ZcN;symm;refine Zc1 00 λr1 Q=>?_;symm;refine Zrq 04 λZ j=>?_;refine ZjY (Zni (n:=6) (by decide +kernel)) j 00 λd1 m=>?_;symm;refine ZjY m (Zni (n:=1) (by decide +kernel)) 00 λX h=>?_;symm;refine Zc1 00 λr2 h2=>?_;symm;refine Zrq 04 λT a=>?_;refine ZjY h a 00 λN b=>?_;symm;refine Zc1 00 λF U=>?_;symm;refine Zn5 ⟨by ac_rfl,by show F%4<((4:Nat):Int);ac_rfl⟩ λg C=>?_;refine ZjY (Zni (n:=7) (by decide +kernel)) (Zk3 (n:=4) (ss:=["0","-3","1/2","-7/9"]) (by decide +kernel) C) 00 λH f=>?_;refine ⟨by simp,?_⟩;symm;refine Zc1 00 λM W=>?_;symm;refine Zn5 ⟨by ac_rfl,by show M%3<((3:Nat):Int);ac_rfl⟩ λs L=>?_;refine ZjY (Zni (n:=6) (by decide +kernel)) (Zk3 (n:=15) (ss:=["4,4","1,1 7,7","2,2 6,2 2,6 6,6"]) (by decide +kernel) L) 00 λO c=>?_;refine ⟨by simp,?_⟩;symm;refine ⟨by decide,?_⟩;symm;refine ⟨by decide,?_⟩;symm;refine Zc1 00 λR Y=>?_;symm;refine ⟨by unfold Za5;rw [List.length_map,List.length_range];ac_rfl,?_⟩;refine w_all (λ_ y=>Sx 80 y) (λx w=>?_) λv z K=>?_
 ·unfold Za5 at w;obtain ⟨k,A,rfl⟩:=Vbw.mp w;have A:=Vam.mp A;symm;refine Zc1 04 λP h6=>?_;symm;refine Zn5 ⟨by ac_rfl,by show P%4<((4:Nat):Int);ac_rfl⟩ λu G=>?_;exact Zk3 (ss:=["plain 1/2 / 0 0 4 1 / 8 0 4 1 / 0 8 4 1","shaded / 0 0 4 1 5 / 8 0 4 1 -6 / 0 8 4 2 7","patterned 1,0;1/2,-3 / 0 0 4 1 5 6 / 8 0 4 1 -6 0 / 0 8 4 2 7 9","glass 3 1/4 / 0 0 4 1 / 8 0 4 1 / 0 8 4 1"]) (by decide +kernel) G
 ·have B:v.length<=4:=by unfold Za5 at z;rw [z,List.length_map,List.length_range];ac_rfl
  have o:∀{n:Nat} {d:D},n<=80->Sx n d->Sx 80 d:=λV ⟨l,e,J,r⟩=>⟨l,e,J,by ac_rfl⟩;obtain ⟨ts,e,I⟩:=ZnV (ds:=[N,H,O]++v) λd hd=>by
   rcases Vau.mp hd with hd | hd
   ·simp only [Vat,VbT,Vcb] at hd;rcases hd with rfl | rfl | rfl
    ·exact o 00 b
    ·exact o 00 f
    ·exact o 00 c
   ·obtain ⟨i,E,rfl⟩:=VbV.mp hd;exact K i _ _ (VbL 04) (VbL E)
  refine Zgx (by simp;ac_rfl) ?_;symm;have p:=e;have r:ts.length<=7:=by have:=VaA List.length p;rw [VaX,Vbf] at this;simp only [VaU,Vch] at this;ac_rfl
  have:=q ts I r;rw [<-p] at this;exact this
def ZnR{k:Int}(hk:0<=k)(h:∀n,Φ (.int n)):Tl (Zby [.lst (ns.map .int),.int k]) Φ:=by
 unfold Zby
 symm;refine ZbT (λa=>?_) (λ_=>?_)
 ·symm;refine ZxR 04 λn _=>?_;symm;exact h n
 ·symm;exact h 0
def litG:Str.ofString "0123456789-/,; \nplgx"=mkS [48,49,50,51,52,53,54,55,56,57,45,47,44,59,32,10,112,108,103,120]:=by decide +kernel
def ZnK(ha:Asc l)(hl:l.length<=800)(q:∀l',Tx l'->Φ (S l')):Tl (Zbw [S l,.int cc]) Φ:=by
 unfold Zbw;symm;refine Zgx 03 ?_;symm;refine Zc1 04 λN v=>?_;symm;have m:(Za5 0 (N%6).toNat).length<=5:=by unfold Za5;rw [List.length_map,List.length_range];ac_rfl
 obtain ⟨n,A⟩ : ∃n:List Str,n=([" / ","0 0 1 1","plain","glass","shaded","patterned","floor 3 3","ground 2","spots 4,4","1/2",",1",";1,1"," 1","-","1 1 1"]:List Str):=⟨_,rfl⟩;have wl:n.length=15:=by rw [A];rfl
 have X:(n.all λs=>(cpL s).all (·<128)&&decide ((cpL s).length<=9))=true:=by rw [A];decide +kernel
 refine ZqM (λo ρ=>∃(l':01) (D K u r E y:Cl),Asc l'/\l'.length<=800+9*o.length/\ρ=[.im (.str (mkS l')),.im (.int cc),.im (.lst (n.map .str)),D,K,u,r,E,y]) ⟨l,_,_,_,_,_,_,ha,by simpa using hl,by rw [A];rfl⟩ ?_ ?_
 ·rintro o x Q F ρ ⟨l',D,K,u,r,E,y,e,z,rfl⟩;have Z:o.length<=4:=by
   have:=VaA List.length F;rw [Vbf,VaU] at this;ac_rfl
  obtain ⟨k,rfl,J⟩ : ∃k:Int,x=.int k/\0<=k/\k<6:=by
   have:x∈Za5 0 (N%6).toNat:=by rw [F];simp
   unfold Za5 at this;obtain ⟨k,J,rfl⟩:=Vbw.mp this;have:=Vam.mp J;exact ⟨_,rfl,by ac_rfl,by ac_rfl⟩
  clear F m v;symm;refine Zc1 04 λH I=>?_;clear I;symm;refine Zk2 04 ?_;symm;obtain ⟨a,P⟩ : ∃a:Int,H%((l'.length:Int)+1)=a:=⟨_,rfl⟩;have p:0<=a/\a<=l'.length:=by
   have h1:=Int.emod_nonneg H (show (l'.length:Int)+1≠0 by ac_rfl);have h2:=Int.emod_lt_of_pos H (show 0<(l'.length:Int)+1 by ac_rfl);ac_rfl
  rw [P];clear P;refine Zc1 04 λG C=>?_;clear C;symm;rw [litG];obtain ⟨i,M⟩ : ∃i:Nat,G/4%20=(i:Int):=⟨(G/4%20).toNat,by ac_rfl⟩;have L:i<20:=by ac_rfl
  rw [M];have B:=L;obtain ⟨g,R,U⟩ : ∃g,[48,49,50,51,52,53,54,55,56,57,45,47,44,59,32,10,112,108,103,120][i]?=some g/\g<128 :=
   ⟨_,VbL B,(by decide:∀x∈[48,49,50,51,52,53,54,55,56,57,45,47,44,59,32,10,112,108,103,120],x<128) _ (VbU B)⟩
  refine Zu5 00 R ?_;clear R M B L;symm;refine Zn5 ⟨by ac_rfl,by rw [VaX,wl];ac_rfl⟩ λw Y=>?_;obtain ⟨wd,rfl,wa,W⟩:=Zk3 X Y;symm;refine Zn5 ⟨by ac_rfl,by show G%4<((4:Nat):Int);ac_rfl⟩ λd O=>?_;obtain ⟨f,b,rfl,T,hpl,V⟩ : ∃(f:List Nat) (b:Int),d=.tup [.str (mkS f),.int b]/\Asc f/\f.length<=9/\0<=b/\b<=1:=by
   have j:Asc [g]:=λc h=>by rw [VbZ.mp h];exact U
   simp only [Vat,VbT,Vcb] at O;rcases O with rfl | rfl | rfl | rfl
   ·exact ⟨[g],0,rfl,j,by simp,by decide,by decide⟩
   ·exact ⟨[],1,by rw [lit0],λc h=>(by cases h),by simp,by decide,by decide⟩
   ·exact ⟨[g],1,rfl,j,by simp,by decide,by decide⟩
   ·exact ⟨wd,0,rfl,wa,W,by decide,by decide⟩
  symm;refine Zc1 04 λr3 t=>?_;clear t J;symm;refine Zae (Zi4 rfl rfl p.1 04) ?_;symm;refine ZgH (by rw [Va8];ac_rfl) ?_;refine Zae (ZnJ rfl rfl 04 04) ?_;refine ZgH (by rw [Vbf,Va8,Vbk];ac_rfl) ?_;symm;refine ⟨_,rfl,_,_,_,_,_,_,_,?_,?_,rfl⟩
  ·exact Asc.app (Asc.app (λc h=>e c (List.mem_of_mem_take h)) T) λc h=>e c (List.mem_of_mem_drop h)
  ·rw [Vbf,Vbf,Va8,Vbk,Vbf];simp only [VaU,Vch];ac_rfl
 ·rintro ρ ⟨l',D,K,u,r,E,y,e,z,rfl⟩;symm;exact q l' ⟨e,by ac_rfl⟩
def ZkP(hs:Asc s):∀{ws:List 01},(∀w∈ws,Asc w)->Asc (Zat s ws)
 | [],_=>λc b=>by cases b
 | [w],h=>h w Vaq
 | w::y::r,h=>Asc.app (Asc.app (h w Vaq) hs) (ZkP hs λx a=>h x (Var _ a))
def Zsq(q:Φ (.bl true)):Tl (Zci [.int cc]) Φ:=by
 unfold Zci;symm;refine w_sD (Zae (x:=.str (mkS [10])) (by rw [<-litN];rfl) ⟨_,rfl,?_⟩);symm;refine ZuK λn m p=>?_;have f:totL 1 n<=567:=Vao (ZeI λw h=>(m w h).2) 04;refine Zn6 (Vao f 00) ?_;symm;refine ZnK (ZkP (ZaA rfl) λw h=>(m w h).1) (Vao Zii (Vao f 00)) λl T=>?_;symm;refine ZxV T ?_;cases e:dueF (Zab 10 l) 0 (max 3 (Zab 10 l).length) with
 | none=>
  obtain ⟨d,i,o⟩:=Zqe T e;symm;refine Zuv ?_;symm;refine Zae i ?_;symm;refine Zae i ?_;symm;refine Zae o ?_;symm;refine Zdr T.a T.a ?_;rw [Vbr rfl];symm;exact q
 | some k=>
  obtain ⟨j,hj,ex⟩:=ZoL T rfl (ZrG T e);symm;refine Zwp (c:=tagX j "NoRow") ?_;symm;refine ⟨ex,by rw [ZgD];decide +kernel,?_⟩;symm;have g:∀d,bIsX tabC tabT [.exc (tagX j "NoRow"),d]=askX tabC tabT "NoRow" d:=by
   intro d;show askX tabC tabT (clsOf (tagX j "NoRow")) d=_;rw [ZgD]
  have b:dAtC ["NoRow"] (.exc (tagX j "NoRow"))=.ok (.int (k:Int)):=by
   show (if [Str.ofString "NoRow"].contains (clsOf (tagX j "NoRow"))=true then dAt (.exc (tagX j "NoRow")) else .bad)=_
   rw [ZgD,iP 03];unfold dAt;dsimp only;rw [Zkl];dsimp only;rw [show (j/2:Nat)=k from hj]
  refine Zae (x:=.bl true) ((g _).trans (by kernel_rfl)) ?_;symm;refine Zae b ?_;symm;refine Zae b ?_;symm;rw [Vbr rfl];exact q
def ZpC(ns:List Int)(h63:ns.length<=63):Zsj [.lst (ns.map .int)]=.ok (.bl true):=by
 refine ZaG ?_;unfold Zsj;symm;refine ZwR (λρ=>∃a:Cl,ρ=[.im (.lst (ns.map .int)),a]) ⟨_,rfl⟩ ?_ ?_
 ·rintro x b ρ ⟨a,rfl⟩;unfold Za5 at b;obtain ⟨k,_,rfl⟩:=Vbw.mp b;symm;refine ZnR 04 λc=>?_;symm;refine Zsq ?_;symm;exact ⟨_,rfl,_,rfl⟩
 ·rintro ρ ⟨a,rfl⟩;symm
end My
namespace My
open PySem L2 Ds Dl
def top(i:Nat):Stmt:=PySem.Challenge.pw_sampleyard_k85_whole_texts_by_signs.main.body.getD i (.Pass ⟨0,0,0,0⟩)
abbrev Zc0:Stmt:=top 71
abbrev Zes:Stmt:=top 73
abbrev Zda:Stmt:=top 75
abbrev Zc4:Stmt:=top 72
abbrev ZdD:Stmt:=top 76
abbrev ZcH:Stmt:=top 77
abbrev ZcK:Stmt:=top 81
abbrev ZcW:Stmt:=top 79
abbrev Zb4:Stmt:=top 78
abbrev ZcI:Stmt:=top 80
abbrev Zdz:Stmt:=top 82
abbrev ZfO:Stmt:=top 83
abbrev ZeW:Stmt:=top 74
abbrev Zef:Stmt:=top 57
abbrev ZfM:Stmt:=top 9
abbrev ZdZ:Stmt:=top 10
abbrev ZdJ:Stmt:=top 25
abbrev ZcX:Stmt:=top 49
abbrev ZbC:Stmt:=top 50
abbrev ZdI:Stmt:=top 47
abbrev ZdH:Stmt:=top 46
abbrev Zco:Stmt:=top 51
abbrev Zd2:Stmt:=top 66
abbrev ZbP:Stmt:=top 11
abbrev Zdu:Stmt:=top 13
abbrev ZcL:Stmt:=top 48
abbrev Zdy:Stmt:=top 67
abbrev Zhc:Stmt:=top 27
abbrev ZdG:Stmt:=top 26
abbrev Ze1:Stmt:=top 69
abbrev Zer:Stmt:=top 68
abbrev ZeT:Stmt:=top 58
abbrev Zdw:Stmt:=top 59
abbrev ZbI:Stmt:=top 21
abbrev Zd5:Stmt:=top 18
abbrev Ze5:Stmt:=top 17
abbrev Zcn:Stmt:=top 16
abbrev Zb3:Stmt:=(inClass (top 33) 0)
abbrev Zc2:Stmt:=top 39
abbrev Zd4:Stmt:=top 40
abbrev Zb0:Stmt:=(inClass (top 37) 0)
abbrev ZcD:Stmt:=top 30
abbrev Zc8:Stmt:=top 38
abbrev Zie:Stmt:=top 31
abbrev Zbm:Stmt:=(inClass (top 36) 0)
abbrev ZbZ:Stmt:=(inClass (top 34) 0)
abbrev ZbS:Stmt:=(inClass (top 35) 0)
abbrev Zc9:Stmt:=top 61
abbrev ZfH:Stmt:=top 60
abbrev Zd1:Stmt:=top 56
abbrev Zgv:Stmt:=top 65
abbrev Zea:Stmt:=top 64
abbrev Zdv:Stmt:=top 44
abbrev ZcF:Stmt:=top 45
abbrev Ze0:Stmt:=top 63
abbrev Zel:Stmt:=top 19
abbrev ZdC:Stmt:=top 55
abbrev ZdK:Stmt:=(inClass (top 37) 1)
abbrev ZbY:Stmt:=(inClass (top 36) 1)
abbrev Zdx:Stmt:=(inClass (top 34) 1)
abbrev Zc6:Stmt:=(inClass (top 35) 1)
abbrev ZcZ:Stmt:=top 54
abbrev Zep:Stmt:=top 53
abbrev Zei:Stmt:=top 52
abbrev Zed:Stmt:=top 62
abbrev Zem:Stmt:=top 84
abbrev Zh6:Stmt:=top 85
local macro_rules | `(tactic| walk_at "sc")=>`(tactic| exact ⟨rfl,rfl,rfl,by decide +kernel,rfl,by decide +kernel,by decide +kernel⟩)
abbrev Zb2:Stmt:=(inClass (top 7) 0)
def Zcc{P:Program}{w:World}{K:W.Frag}{mg:001}{base:Heap}{C:Addr}(h:Zlg K C "NoRow.__init__" Zb2):MkX P w K mg base 1 C:=h.mk' (by walk_at "sc") rfl (Or.inl rfl) (Or.inl rfl) (λ_ _ _=>rfl)
def Zd8:Zag ["_law_script","_law_k"] ["_law_script","_law_k"] (Zad Zc0):=by walk_at "sc"
def Zfv:Zag ["_law_cell","_law_k","_law_number_here"] ["_law_cell","_law_k"] (Zad Zes):=by walk_at "sc"
def ZbN:Zag ["_law_text","_law_cell","_law_words","_law_k","_law_at","_law_way","_law_sign","_law_put","_law_gone"] ["_law_text","_law_cell"] (Zad Zda):=by walk_at "sc"
def ZcJ:Zag ["_law_one","_law_other"] ["_law_one","_law_other"] (Zad Zc4):=by walk_at "sc"
def Zc7:Zag ["_law_word","_law_figures"] ["_law_word"] (Zad ZdD):=by walk_at "sc"
def Zcq:Zag ["_law_word","_law_parts"] ["_law_word"] (Zad ZcH):=by walk_at "sc"
def Zcl:Zag ["_law_words","_law_spots","_law_word","_law_numbers"] ["_law_words"] (Zad ZcK):=by walk_at "sc"
def ZbQ:Zag ["_law_parts","_law_many","_law_part","_law_numbers"] ["_law_parts"] (Zad ZcW):=by walk_at "sc"
def ZbK:Zag ["_law_word","_law_lines"] ["_law_word"] (Zad Zb4):=by walk_at "sc"
def ZbB:Zag ["_law_row","_law_parts","_law_many","_law_head","_law_part"] ["_law_row"] (Zad ZcI):=by walk_at "sc"
def Zcd:Zag ["_law_at","_law_row","_law_words","_law_numbers"] ["_law_at","_law_row"] (Zad Zdz):=by walk_at "sc"
def ZeZ:Zag ["_law_text","_law_rows_here","_law_at"] ["_law_text"] (Zad ZfO):=by walk_at "sc"
def Zf4:Zag ["_law_cell","_law_rows_here","_law_some"] ["_law_cell"] (Zad ZeW):=by walk_at "sc"
def Zfp:Zag ["text"] ["text"] (Zad Zef):=by walk_at "sc"
def ZgK:Zag ["thing"] ["thing"] (Zad ZfM):=by walk_at "sc"
def ZfD:Zag ["thing","least","most"] ["thing","least","most"] (Zad ZdZ):=by walk_at "sc"
def ZeS:Zag ["width","height"] ["width","height"] (Zad ZdJ):=by walk_at "sc"
def ZcE:Zag ["head","row","words"] ["head","row"] (Zad ZcX):=by walk_at "sc"
def Zcr:Zag ["head","row","count","words"] ["head","row","count"] (Zad ZbC):=by walk_at "sc"
def ZeN:Zag ["word"] ["word"] (Zad ZdI):=by walk_at "sc"
def Zc5:Zag ["word","figures"] ["word"] (Zad ZdH):=by walk_at "sc"
def Zdn:Zag ["head","row","count"] ["head","row","count"] (Zad Zco):=by walk_at "sc"
def Ze8:Zag ["row","size"] ["row"] (Zad Zd2):=by walk_at "sc"
def Zcz:Zag ["numbers","found","number","rest","left"] ["numbers"] (Zad ZbP):=by walk_at "sc"
def ZeP:Zag ["thing"] ["thing"] (Zad Zdu):=by walk_at "sc"
def Zcp:Zag ["word","pieces","fraction"] ["word"] (Zad ZcL):=by walk_at "sc"
def ZeQ:Zag ["row"] ["row"] (Zad Zdy):=by walk_at "sc"
def ZhN:Zag ["thing"] ["thing"] (Zad Zhc):=by walk_at "sc"
def ZeJ:Zag ["spots"] ["spots"] (Zad ZdG):=by walk_at "sc"
def Zf1:Zag ["word"] ["word"] (Zad Ze1):=by walk_at "sc"
def Zdq:Zag ["row","spots"] ["row"] (Zad Zer):=by walk_at "sc"
def Zd9:Zag ["words","groups","word"] ["words"] (Zad ZeT):=by walk_at "sc"
def Zc3:Zag ["words","numbers"] ["words"] (Zad Zdw):=by walk_at "sc"
def ZcG:Zag ["corners","corner"] ["corners"] (Zad ZbI):=by walk_at "sc"
def Zfz:Zag ["thing"] ["thing"] (Zad Zd5):=by walk_at "sc"
def Zf3:Zag ["thing"] ["thing"] (Zad Ze5):=by walk_at "sc"
def Zdb:Zag ["triangle","corner"] ["triangle"] (Zad Zcn):=by walk_at "sc"
def ZcP:Zag ["self","triangle"] ["self","triangle"] (Zad Zb3):=by walk_at "sc"
def Zeo:Zag ["colour"] ["colour"] (Zad Zc2):=by walk_at "sc"
def Zfh:Zag ["part"] ["part"] (Zad Zd4):=by walk_at "sc"
def ZcQ:Zag ["self","triangle","colour","part"] ["self","triangle","colour","part"] (Zad Zb0):=by walk_at "sc"
def ZdS:Zag ["pattern","row"] ["pattern"] (Zad ZcD):=by walk_at "sc"
def Zeg:Zag ["triangle","least"] ["triangle","least"] (Zad Zc8):=by walk_at "sc"
def Zi9:Zag ["pattern"] ["pattern"] (Zad Zie):=by walk_at "sc"
def ZbW:Zag ["self","triangle","pattern"] ["self","triangle","pattern"] (Zad Zbm):=by walk_at "sc"
def ZcU:Zag ["self","triangle","colour"] ["self","triangle","colour"] (Zad ZbZ):=by walk_at "sc"
def ZcB:Zag ["self","triangle"] ["self","triangle"] (Zad ZbS):=by walk_at "sc"
def Zej:Zag ["word"] ["word"] (Zad Zc9):=by walk_at "sc"
def Zg1:Zag ["head","triangle"] ["head","triangle"] (Zad ZfH):=by walk_at "sc"
def Zdo:Zag ["row","groups"] ["row"] (Zad Zd1):=by walk_at "sc"
def ZhL:Zag ["rows","number","read"] ["rows","number","read"] (Zad Zgv):=by walk_at "sc"
def Zba:Zag ["text","rows","size","ground","spots","things"] ["text"] (Zad Zea):=by walk_at "sc"
def ZeH:Zag ["number","pieces","rest"] ["number"] (Zad Zdv):=by walk_at "sc"
def ZdW:Zag ["fraction"] ["fraction"] (Zad ZcF):=by walk_at "sc"
def Zf0:Zag ["pair"] ["pair"] (Zad Ze0):=by walk_at "sc"
def Zfi:Zag ["corner"] ["corner"] (Zad Zel):=by walk_at "sc"
def ZeR:Zag ["corner"] ["corner"] (Zad ZdC):=by walk_at "sc"
def ZeM:Zag ["self"] ["self"] (Zad ZdK):=by walk_at "sc"
def ZcV:Zag ["self"] ["self"] (Zad ZbY):=by walk_at "sc"
def ZeO:Zag ["self"] ["self"] (Zad Zdx):=by walk_at "sc"
def Zd7:Zag ["self"] ["self"] (Zad Zc6):=by walk_at "sc"
def Zeh:Zag ["pattern"] ["pattern"] (Zad ZcZ):=by walk_at "sc"
def ZdF:Zag ["thing","word"] ["thing"] (Zad Zep):=by walk_at "sc"
def Zfb:Zag ["thing"] ["thing"] (Zad Zei):=by walk_at "sc"
def ZdM:Zag ["scene","rows"] ["scene"] (Zad Zed):=by walk_at "sc"
def Zct:Zag ["_law_cell","_law_text","_law_due_here","_law_error","e"] ["_law_cell"] (Zad Zem):=by walk_at "sc"
def ZqY:Zag ["_law_script","_law_k"] ["_law_script"] (Zad Zh6):=by walk_at "sc"
structure Txt(P:Program)(w:World)(base:Heap)(K:W.Frag)(mg:001):Prop where
 ydu:mg "abs"=none
 ycZ:mg "all"=none
 ydp:mg "bool"=none
 ydq:mg "int"=none
 ybe:mg "isinstance"=none
 ydf:mg "len"=none
 ydh:mg "list"=none
 ydr:mg "max"=none
 ydv:mg "min"=none
 ydc:mg "range"=none
 yc6:mg "reversed"=none
 ydw:mg "set"=none
 yds:mg "str"=none
 ycl:mg "tuple"=none
 ybY:∃tk,mg "FIGURES"=some (.str "0123456789" tk)
 yaN:∃tk,mg "MOST_CELLS"=some (.int 64 tk)
 yaQ:∃tk,mg "MOST_FIGURES"=some (.int 30 tk)
 ybf:∃tk,mg "MOST_SPOTS"=some (.int 16 tk)
 yaU:∃tk,mg "MOST_VALUES"=some (.int 3 tk)
 t_COUNTS:GTup K mg "COUNTS" [1,2,4,8,16]
 ydj:∃C,mg "NoRow"=some 05
 ybZ:∃C,mg "YardError"=some 05
 ych:∃C,mg "BadFloor"=some 05/\W.excIn K C Zfk "ValueError.__new__"=true
 ycF:∃C,mg "BadPattern"=some 05/\W.excIn K C Zfk "ValueError.__new__"=true
 ybJ:∃C,mg "BadThing"=some 05/\W.excIn K C Zfk "ValueError.__new__"=true
 ybz:∃C,mg "BadTriangle"=some 05/\W.excIn K C Zfk "ValueError.__new__"=true
 yaV:∃C,mg "NoRow"=some 05/\Zlg K C "NoRow.__init__" Zb2
 h_YardError:∀C,mg "YardError"=some 05->∀c∈(["BadFloor","BadPattern","BadThing","BadTriangle","NoRow"]:List Str),∃D,mg c=some (.ref D)/\W.exmOne K (.ref D) 05=some true
 tab:TabOk K mg tabC tabT
 at_:AtOk K mg ["NoRow"]
 f_colour:Zge K mg objs "colour"
 f_part:Zge K mg objs "part"
 f_pattern:Zge K mg objs "pattern"
 f_triangle:Zge K mg objs "triangle"
section
variable{P:Program}{w:World}{K:W.Frag}{mg:Str->Option Value}{base:Heap}
set_option hygiene false in
local macro_rules | `(tactic| walk_at "e")=>`(tactic| repeat' first
 | exact Zbn
 | exact Zmw
 | exact ydk
 | exact Za6
 | exact ZaE
 | exact ZfU
 | exact d_v _
 | refine' Zaj ?_ ?_
 | refine' ydl ?_ ?_
 | refine' Zd0 (by first | assumption | exact CalO.cal (by assumption) | exact CalN.cal (by assumption)) hr 00 rfl Zbe ?_
 | refine' ZtZ (by first | assumption | exact CalO.cal (by assumption) | exact CalN.cal (by assumption)) hr 00 rfl ?_
 | refine' Zn3 (by first | assumption | exact CalO.cal (by assumption) | exact CalN.cal (by assumption)) hr 00 rfl ?_
 | refine' ZjI ?_ ?_
 | refine' ZxZ ?_ ?_
 | refine' ZwV ?_ ?_
 | refine' Zt6 ?_ ?_
 | refine' ZxY ?_ ?_
 | refine' Zx6 ?_ ?_
 | refine' ZxS ?_ ?_
 | refine' Zxx ?_ ?_
 | refine' Zpb ?_ ?_
 | refine' ZxX ?_ ?_
 | refine' ZwY ?_ ?_
 | refine' ZxI ?_ ?_
 | refine' d_lt ?_ ?_
 | refine' ydz ?_ ?_
 | refine' ydA ?_ ?_
 | refine' ydB ?_ ?_
 | refine' ZeD ?_ ?_
 | refine' ZmI ?_ ?_
 | refine' Zmc ?_ ?_
 | refine' d_or ?_ ?_
 | refine' Zqx hr ?_ ?_
 | refine' ZnB hr ?_ ?_
 | refine' Zsg hr ?_ ?_
 | refine' Znf hr ?_ ?_
 | refine' ydx hr ?_ ?_
 | refine' d_ne hr ?_ ?_
 | refine' d_in hr ?_ ?_
 | refine' Zv7 hr ?_ ?_
 | exact ydn rfl T.ydp ZtI
 | exact ydn rfl T.ydq Zrk
 | exact ydn rfl T.ydh ZnM
 | exact ydn rfl T.yds ZrC
 | exact ydn rfl T.ycl Zgk
 | refine' ycE (Znb rfl) Zng rfl T.ydr Zrx ?_
 | refine' ycE (ZmK rfl) Zmo rfl T.ydr Zrx ?_
 | refine' ycE (ZmV rfl) Zmb rfl T.ydv ZuV ?_
 | refine' ycE Zqf Zn0 rfl T.ydu Zun ?_
 | refine' ycE ZiY Zj0 rfl T.ybe ZdL ?_
 | refine' ycE ZpF ZlW rfl T.ydf Zls ?_
 | refine' ycE Zf6 ZjQ rfl T.ydf Zls ?_
 | refine' ydm ZnS Zmi rfl T.ydq Zrk ?_
 | refine' ydm ZiX Zmf rfl T.ydh ZnM ?_
 | refine' ydm Zi1 Zoy rfl T.yds ZrC ?_
 | refine' ydm ZdO Ze7 rfl T.ycl Zgk ?_
 | refine' Zpl T.f_colour ?_
 | refine' Zpl T.f_part ?_
 | refine' Zpl T.f_pattern ?_
 | refine' Zpl T.f_triangle ?_
 | refine' Zxb ?_ ?_
 | refine' ZvH ?_ ?_
 | refine' Zxn ?_ ?_ ?_
 | refine' Zt8 ?_ ?_ ?_
 | refine' ZxP ?_
 | refine' Zft ?_
 | refine' ZwH ?_
 | refine' ZuA ?_
 | refine' dt_notN ?_
 | refine' Zx5 ?_
 | refine' Zq9 ?_
 | refine' ZgZ ?_
 | refine' Zpu ?_
 | refine' Zf7 ?_
 | refine' Zt1 ?_
 | refine' Zfw ?_
 | refine' DW.dt ?_
 | exact ZaB
 | exact Zs1
 | exact ds_retN
 | exact ds_cnt
 | exact ds_brk
 | exact ds_pass
 | refine' Zak ?_
 | refine' Zac ?_ ?_
 | refine' ZaO ?_
 | refine' ZbD ?_ ?_ ?_
 | refine' Zbt hN rfl (by first | exact Or.inl rfl | exact Or.inr rfl) ?_
 | refine' Zto hN rfl (by first | exact Or.inl rfl | exact Or.inr rfl) ?_ ?_
 | refine' ZnQ _ ?_
 | refine' Zww ?_
 | refine' ZwC ?_ ?_
 | refine' ZhQ Vcv rfl ?_ ?_ ?_
 | exact Znh hN rfl (by first | exact Or.inl rfl | exact Or.inr rfl) 00
 | refine' ZwK rfl ?_
 | refine' ZoY ?_ ?_
 | refine' Zxo rfl T.ydc ?_
 | refine' Zbr ?_
 | refine' Zk1 ?_
 | refine' Zjk rfl yci ycj ?_ ?_
 | refine' Zjk rfl ycG ycH ?_ ?_
 | refine' Zjk rfl ybr ybs ?_ ?_
 | refine' Zjk rfl ybA ybB ?_ ?_
 | decide
 | fail)
local macro_rules | `(tactic| walk_at "co")=>`(tactic| exact ZcR.of rfl rfl (by kernel_rfl) rfl (by repeat' (first | exact trivial | refine ⟨rfl,?_⟩)) (by repeat' (first | exact trivial | refine ⟨rfl,?_⟩)))
local macro_rules | `(tactic| walk_at "cg")=>`(tactic| exact λ_ _ _ _ _=>Znh (by show List.Nodup ((_:List Str) ++ (_:List Str));decide +kernel) rfl (by first | exact Or.inl rfl | exact Or.inr rfl) (by decide))
local macro_rules | `(tactic| walk_at "ct")=>`(tactic| exact λ_ _ _ _ _=>ZrW)
local macro_rules | `(tactic| walk_at "ce")=>`(tactic| (intro _ _ _ _ _;walk_at "e"))
abbrev Txt.C{P:Program}{w:World}{base:Heap}{K:W.Frag}{mg:001}(_:Txt P w base K mg):=Cal P w K mg base
variable(T:Txt P w base K mg)
include T
theorem Zhh(D:Def K mg "_law_cell_at" Zc0 ["_law_script","_law_k"]):T.C 1 "_law_cell_at" ["_law_script","_law_k"] Zby:=by
 exact D.cal Zd8 (λf cdv A outer s H E hr=>have hN:=Zd8.nd;⟨_,02⟩)
theorem ZiM(D:Def K mg "_law_mixed" Zes ["_law_cell","_law_k"]):T.C 1 "_law_mixed" ["_law_cell","_law_k"] Zaw:=by
 exact D.cal Zfv (λf cdv A outer s H E hr=>have hN:=Zfv.nd;⟨_,02⟩)
theorem ZgV(D:Def K mg "_law_changed" Zda ["_law_text","_law_cell"])(ycI:T.C 1 "_law_mixed" ["_law_cell","_law_k"] Zaw):T.C 2 "_law_changed" ["_law_text","_law_cell"] Zbw:=by
 exact D.cal ZbN (λf cdv A outer s H E hr=>have hN:=ZbN.nd;⟨_,(Zac 02
  (Zac 02
  (Zac (ZhQ Vcv rfl 02 02
  (Zac 02
  (Zac 02
  (Zac (Zbt (i:=6) ZbN.nd rfl (Or.inl rfl) (Zvf Za6 02))
  (Zac 02
  (Zac 02
  (Zak (Zbt (i:=0) ZbN.nd rfl (Or.inl rfl) (ZjI (ZjI (ZjD (d_v 0) ZfU (ZgZ (d_v 4))) (d_v 7)) (ZjD (d_v 0) 02 ZfU))))))))))
  (by walk_at "e"))))⟩)
theorem Zgp(D:Def K mg "_law_divisor" Zc4 ["_law_one","_law_other"]):T.C 1 "_law_divisor" ["_law_one","_law_other"] Zbu:=by
 exact D.cal ZcJ (λf cdv A outer s H E hr=>have hN:=ZcJ.nd;⟨_,(Zac (ZmH Vcv (Zqx hr (d_v 1) Zbn)
  (Zak (Zwg (i:=0) (j:=1) rfl ZcJ.nd rfl rfl 00 rfl rfl (d_v 1) (Zt6 (d_v 0) (d_v 1)))))
  (by walk_at "e"))⟩)
theorem Zhp(D:Def K mg "_law_number" ZdD ["_law_word"]):T.C 1 "_law_number" ["_law_word"] Zav:=by
 exact D.cal Zc7 (λf cdv A outer s H E hr=>have hN:=Zc7.nd;⟨_,(Zac 02
  (Zac (ZbD (ZnB hr (ZjD (d_v 0) ZfU (ZgZ Zbn)) Za6)
  (Zak (Zbt (i:=1) Zc7.nd rfl (Or.inl rfl) (ZjD (d_v 0) (ZgZ Zbn) ZfU)))
  ZaB)
  (Zac (ZbD (DW.dt (ZeD 02 (ZeD 02 (Zf7 (Zft (Zfw (ycE (ZcA rfl) ZcM rfl T.ycZ ZgX (Zaj (Zcj (own:=["_law_sign"]) (cap:=[]) (ZrB (d_v 1)) (by walk_at "co") rfl (by walk_at "cg") (by walk_at "ct") (λ_ _ _ _ _=>(ZwE (d_v 0) Za6))) ZaE))))))))
  (Zak (ZaO Zmw))
  ZaB)
  (Zac (ZbD (DW.dt (ZmI (ZnB hr (Zvf (d_v 1) Zbn) Za6) 02))
  (Zak (ZaO Zmw))
  ZaB)
  (by walk_at "e")))))⟩)
theorem Zf9(D:Def K mg "_law_fraction" ZcH ["_law_word"])(c__law_divisor:T.C 1 "_law_divisor" ["_law_one","_law_other"] Zbu)(yaW:T.C 1 "_law_number" ["_law_word"] Zav):T.C 2 "_law_fraction" ["_law_word"] Zar:=by
 exact D.cal Zcq (λf cdv A outer s H E hr=>have hN:=Zcq.nd;⟨_,(Zac (ZiW (i:=1) Zcq.nd rfl (Or.inl rfl) (own:=["_law_part"]) (cap:=[]) (Zbr (ybI Vci Vcw ZaS ZaF (d_v 0) Za6)) (by walk_at "co") rfl (by walk_at "cg") (by walk_at "ct") (by walk_at "ce"))
  (by walk_at "e"))⟩)
theorem Zgb(D:Def K mg "_law_is_spots" ZcK ["_law_words"])(yaW:T.C 1 "_law_number" ["_law_word"] Zav):T.C 2 "_law_is_spots" ["_law_words"] Zbi:=by
 exact D.cal Zcl (λf cdv A outer s H E hr=>have hN:=Zcl.nd;⟨_,(Zac 02
  (Zac (ZhQ Vcv rfl (Zbr (d_v 0)) 02
  (Zac (ZiW (i:=3) Zcl.nd rfl (Or.inl rfl) (own:=["_law_part"]) (cap:=[]) (Zbr (ybI Vci Vcw ZaS ZaF (d_v 2) Za6)) (by walk_at "co") rfl (by walk_at "cg") (by walk_at "ct") (by walk_at "ce"))
  (Zac (ZbD (Zw2 1 (DW.dt (ZeD (Zsg hr Zmw (d_v 3)) (ZeD 02 (ZeD (Zft (ZnN Zff ZcT Zff ZcT Zff ZcT Zbn 02 02 Zbn)) 02)))))
  (Zak (ZaO ydk))
  ZaB)
  (by walk_at "e"))))
  (Zak (Zk1 (ZaO (Zm1 Zff ZcT Zff ZcT Zbn 02 Zbn))))))⟩)
theorem ZgT(D:Def K mg "_law_corners" ZcW ["_law_parts"])(yaW:T.C 1 "_law_number" ["_law_word"] Zav):T.C 2 "_law_corners" ["_law_parts"] Zbx:=by
 exact D.cal ZbQ (λf cdv A outer s H E hr=>have hN:=ZbQ.nd;⟨_,(Zac (Zbt (i:=1) ZbQ.nd rfl (Or.inl rfl) (ycE Zf6 ZjQ rfl T.ydf Zls (Zaj (ybI Vci Vcw ZaS ZaF (ydl (d_v 0) Zbn) Za6) ZaE)))
  (Zac (ZhQ Vcv rfl (Zbr (d_v 0)) 02
  (Zac (ZiW (i:=3) ZbQ.nd rfl (Or.inl rfl) (own:=["_law_word"]) (cap:=[]) (Zbr (ybI Vci Vcw ZaS ZaF (d_v 2) Za6)) (by walk_at "co") rfl (by walk_at "cg") (by walk_at "ct") (by walk_at "ce"))
  (Zak (ZbD (DW.dt (ZeD (Zsg hr Zmw (d_v 3)) (ZeD 02 (ZeD (Zft (Zpr Zff ZcT Zff ZcT Zbn (d_v 1) Zbn)) 02))))
  (by walk_at "e")
  ZaB))))
  (by walk_at "e")))⟩)
theorem Zfu(D:Def K mg "_law_is_pattern" Zb4 ["_law_word"])(ybg:T.C 2 "_law_fraction" ["_law_word"] Zar):T.C 3 "_law_is_pattern" ["_law_word"] Za7:=by
 exact D.cal ZbK (λf cdv A outer s H E hr=>have hN:=ZbK.nd;⟨_,(Zac (Zbt (i:=1) ZbK.nd rfl (Or.inr rfl) (Zcj (own:=["_law_line"]) (cap:=[]) (Zbr (ybI Vci Vcw ZaS ZaF (d_v 0) Za6)) (by walk_at "co") rfl (by walk_at "cg") (by walk_at "ct") (λ_ _ _ _ _=>(Zcj (own:=["_law_one"]) (cap:=[]) (Zbr (ybI Vci Vcw ZaS ZaF (d_v 0) Za6)) (by walk_at "co") rfl (by walk_at "cg") (by walk_at "ct") (by walk_at "ce")))))
  (Zac 02
  (Zak (ZaO (ycE (ZcA rfl) ZcM rfl T.ycZ ZgX (Zaj (Zcj (own:=["_law_line"]) (cap:=[("_law_lines",1)]) (Zbr (d_v 1)) (by walk_at "co") rfl (by walk_at "cg") (by walk_at "ct") (by walk_at "ce")) ZaE))))))⟩)
theorem Zgd(D:Def K mg "_law_is_thing" ZcI ["_law_row"])(ybg:T.C 2 "_law_fraction" ["_law_word"] Zar)(c__law_corners:T.C 2 "_law_corners" ["_law_parts"] Zbx)(c__law_is_pattern:T.C 3 "_law_is_pattern" ["_law_word"] Za7):T.C 4 "_law_is_thing" ["_law_row"] Zbl:=by
 exact D.cal ZbB (λf cdv A outer s H E hr=>have hN:=ZbB.nd;⟨_,(Zac (Zbt (i:=1) ZbB.nd rfl (Or.inl rfl) (ybI Vci Vcw ZaS ZaF (d_v 0) Za6))
  (Zac 02
  (Zac 02
  (Zac (Zbt (i:=3) ZbB.nd rfl (Or.inl rfl) (ybI Vci Vcw ZaS ZaF (ydl (d_v 1) Zbn) Za6))
  (Zac 02
  (Zac 02
  (Zac 02
  (Zac 02
  (Zac 02
  (Zak (ZaO (Zmc (Zq9 (d_v 4)) (Zpu (Zm1 Zff ZcT Zff ZcT Zbn (ydl (d_v 4) Zbn) (ydl (d_v 4) Zbn)))))))))))))))⟩)
theorem ZhB(D:Def K mg "_law_stands" Zdz ["_law_at","_law_row"])(yaW:T.C 1 "_law_number" ["_law_word"] Zav)(ybg:T.C 2 "_law_fraction" ["_law_word"] Zar)(c__law_is_spots:T.C 2 "_law_is_spots" ["_law_words"] Zbi)(c__law_is_thing:T.C 4 "_law_is_thing" ["_law_row"] Zbl):T.C 5 "_law_stands" ["_law_at","_law_row"] Zbo:=by
 exact D.cal Zcd (λf cdv A outer s H E hr=>have hN:=Zcd.nd;⟨_,(Zac (Zbt (i:=2) Zcd.nd rfl (Or.inl rfl) (ybI Vci Vcw ZaS ZaF (d_v 1) Za6))
  (Zac 02
  (Zac 02
  (Zac 02
  (Zac 02
  (Zac (ZiW (i:=3) Zcd.nd rfl (Or.inl rfl) (own:=["_law_word"]) (cap:=[]) 02 (by walk_at "co") rfl (by walk_at "cg") (by walk_at "ct") (by walk_at "ce"))
  (Zak (ZaO (Zmc 02 (Zmc (Zv7 hr Zmw (d_v 3)) (Zpu (Zp7 Zff ZcT Zff ZcT Zff ZcT Zbn 02 02 Zbn))))))))))))⟩)
theorem ZkI(D:Def K mg "_law_due" ZfO ["_law_text"])(c__law_stands:T.C 5 "_law_stands" ["_law_at","_law_row"] Zbo):T.C 6 "_law_due" ["_law_text"] ZeB:=by
 exact D.cal ZeZ (λf cdv A outer s H E hr=>have hN:=ZeZ.nd;⟨_,(Zac (Zbt (i:=1) ZeZ.nd rfl (Or.inl rfl) (ybI Vci Vcw ZaS ZaF (d_v 0) Za6))
  (by walk_at "e"))⟩)
theorem ZjO(D:Def K mg "_law_rows" ZeW ["_law_cell"])(ycI:T.C 1 "_law_mixed" ["_law_cell","_law_k"] Zaw):T.C 2 "_law_rows" ["_law_cell"] ZcN:=by
 exact D.cal Zf4 (λf cdv A outer s H E hr=>have hN:=Zf4.nd;⟨_,(Zac 02
  (Zac 02
  (Zac 02
  (Zac 02
  (Zac (ZnQ 2 Za6)
  (Zac (ZnQ 2 Za6)
  (Zak (Zk1 (Zk1 (ZaO (ZjI (d_v 1) (Zcj (own:=["_law_k"]) (cap:=[("_law_some",2),("_law_cell",0)]) 02 (by walk_at "co") rfl (by walk_at "cg") (by walk_at "ct") (by walk_at "ce")))))))))))))⟩)
theorem Zin(D:Def K mg "check_text" Zef ["text"]):T.C 3 "check_text" ["text"] Zbj:=by
 obtain ⟨ybh,yae,yaf⟩:=T.yaV
 exact D.cal Zfp (λf cdv A outer s H E hr=>have hN:=Zfp.nd;⟨_,(Zak (ZbD 02
  (Zak (Zdp (Zcc yaf) hr 00 rfl yae (Zaj Zbn ZaE)))
  ZaB))⟩)
theorem ZkG(D:Def K mg "is_whole" ZfM ["thing"]):T.C 1 "is_whole" ["thing"] Za8:=by
 exact D.cal ZgK (λf cdv A outer s H E hr=>have hN:=ZgK.nd;⟨_,02⟩)
theorem Zic(D:Def K mg "is_between" ZdZ ["thing","least","most"])(ybK:T.C 1 "is_whole" ["thing"] Za8):T.C 2 "is_between" ["thing","least","most"] Za1:=by
 exact D.cal ZfD (λf cdv A outer s H E hr=>have hN:=ZfD.nd;⟨_,02⟩)
theorem ZhA(D:Def K mg "check_floor" ZdJ ["width","height"])(ybi:T.C 2 "is_between" ["thing","least","most"] Za1):T.C 3 "check_floor" ["width","height"] ZbH:=by
 obtain ⟨yc7,yci,ycj⟩:=T.ych;obtain ⟨tk_MOST_CELLS,yaN⟩:=T.yaN
 exact D.cal ZeS (λf cdv A outer s H E hr=>have hN:=ZeS.nd;⟨_,(Zak (ZbD (DW.dt (ZeD (Zft (Zfw (Zd0 ybi hr 00 rfl Zbe (Zaj (d_v 0) (Zaj Zbn (Zaj (ydo rfl yaN) ZaE)))))) (Zf7 (Zft (Zfw (Zd0 ybi hr 00 rfl Zbe (Zaj (d_v 1) (Zaj Zbn (Zaj (ydo rfl yaN) ZaE)))))))))
  (by walk_at "e")
  ZaB))⟩)
theorem Zg6(D:Def K mg "words_behind" ZcX ["head","row"]):T.C 3 "words_behind" ["head","row"] Zax:=by
 obtain ⟨ybh,yae,yaf⟩:=T.yaV
 exact D.cal ZcE (λf cdv A outer s H E hr=>have hN:=ZcE.nd;⟨_,(Zac (Zbt (i:=2) ZcE.nd rfl (Or.inl rfl) (ybI Vci Vcw ZaS ZaF (d_v 1) Za6))
  (Zac (ZbD 02
  (Zak (Zdp (Zcc yaf) hr 00 rfl yae (Zaj Zbn ZaE)))
  ZaB)
  (by walk_at "e")))⟩)
theorem ZeF(D:Def K mg "just_words_behind" ZbC ["head","row","count"])(yb6:T.C 3 "words_behind" ["head","row"] Zax):T.C 4 "just_words_behind" ["head","row","count"] Zap:=by
 obtain ⟨ybh,yae,yaf⟩:=T.yaV
 exact D.cal Zcr (λf cdv A outer s H E hr=>have hN:=Zcr.nd;⟨_,(Zac 02
  (Zac (ZbD 02
  (Zak (Zdp (Zcc yaf) hr 00 rfl yae (Zaj Zbn ZaE)))
  ZaB)
  (by walk_at "e")))⟩)
theorem Zht(D:Def K mg "are_figures" ZdI ["word"]):T.C 1 "are_figures" ["word"] ZbM:=by
 obtain ⟨tk_FIGURES,ybY⟩:=T.ybY;obtain ⟨tk_MOST_FIGURES,yaQ⟩:=T.yaQ
 exact D.cal ZeN (λf cdv A outer s H E hr=>have hN:=ZeN.nd;⟨_,(Zac (ZbD (DW.dt (ZeD (ZnB hr (d_v 0) Za6) (Zf7 (Zpb 02 (ydo rfl yaQ)))))
  (Zak (ZaO ydk))
  ZaB)
  (Zac (ZbD (DW.dt (ZmI (Zfw (ybI Vcc PySem.F.type_str_startswith Zj6 ZhS (d_v 0) Za6)) 02))
  (Zak (ZaO ydk))
  ZaB)
  (Zak (ZaO (ycE (ZcA rfl) ZcM rfl T.ycZ ZgX (Zaj (Zcj (own:=["sign"]) (cap:=[]) (ZrB (d_v 0)) (by walk_at "co") rfl (by walk_at "cg") (by walk_at "ct") (λ_ _ _ _ _=>(ZwE (d_v 0) (ydC rfl ybY)))) ZaE))))))⟩)
theorem Zhx(D:Def K mg "read_number" ZdH ["word"])(c_are_figures:T.C 1 "are_figures" ["word"] ZbM):T.C 3 "read_number" ["word"] Zam:=by
 obtain ⟨ybh,yae,yaf⟩:=T.yaV
 exact D.cal Zc5 (λf cdv A outer s H E hr=>have hN:=Zc5.nd;⟨_,(Zac (Zbt (i:=1) Zc5.nd rfl (Or.inl rfl) (Zt8 (Zfw (ybI Vcc PySem.F.type_str_startswith Zj6 ZhS (d_v 0) Za6)) (ZjD (d_v 0) (ZgZ Zbn) ZfU) (d_v 0)))
  (Zac (ZbD 02
  (Zak (Zdp (Zcc yaf) hr 00 rfl yae (Zaj Zbn ZaE)))
  ZaB)
  (by walk_at "e")))⟩)
theorem ZfQ(D:Def K mg "numbers_behind" Zco ["head","row","count"])(yby:T.C 4 "just_words_behind" ["head","row","count"] Zap)(yaX:T.C 3 "read_number" ["word"] Zam):T.C 5 "numbers_behind" ["head","row","count"] ZaX:=by
 exact D.cal Zdn (λf cdv A outer s H E hr=>have hN:=Zdn.nd;⟨_,(Zak (ZaO (Zhi (Zg2.blk ⟨rfl,rfl,rfl,rfl⟩) (own:=["word"]) (cap:=[]) 02 (by walk_at "co") rfl (by walk_at "cg") (by walk_at "ct") (by walk_at "ce"))))⟩)
theorem Zih(D:Def K mg "read_floor" Zd2 ["row"])(c_check_floor:T.C 3 "check_floor" ["width","height"] ZbH)(c_numbers_behind:T.C 5 "numbers_behind" ["head","row","count"] ZaX):T.C 6 "read_floor" ["row"] ZaD:=by
 exact D.cal Ze8 (λf cdv A outer s H E hr=>have hN:=Ze8.nd;⟨_,02⟩)
theorem ZeX(D:Def K mg "greatest_divisor" ZbP ["numbers"]):T.C 1 "greatest_divisor" ["numbers"] Za0:=by
 exact D.cal Zcz (λf cdv A outer s H E hr=>have hN:=Zcz.nd;⟨_,(Zac 02
  (Zac (ZhQ Vcv rfl (Zbr (d_v 0)) 02
  (Zac 02
  (Zak (ZmH Vcv (Zqx hr (d_v 3) Zbn)
  (by walk_at "e")))))
  (by walk_at "e")))⟩)
theorem Zhu(D:Def K mg "is_fraction" Zdu ["thing"])(ybK:T.C 1 "is_whole" ["thing"] Za8)(c_greatest_divisor:T.C 1 "greatest_divisor" ["numbers"] Za0):T.C 2 "is_fraction" ["thing"] Zas:=by
 exact D.cal ZeP (λf cdv A outer s H E hr=>have hN:=ZeP.nd;⟨_,02⟩)
theorem Zgc(D:Def K mg "read_fraction" ZcL ["word"])(yaX:T.C 3 "read_number" ["word"] Zam)(yaY:T.C 2 "is_fraction" ["thing"] Zas):T.C 4 "read_fraction" ["word"] Zal:=by
 obtain ⟨ybh,yae,yaf⟩:=T.yaV
 exact D.cal Zcp (λf cdv A outer s H E hr=>have hN:=Zcp.nd;⟨_,(Zac (ZbD (ZrZ Za6 (d_v 0))
  (by walk_at "e")
  ZaB)
  (Zac (Zbt (i:=1) Zcp.nd rfl (Or.inl rfl) (ybI PySem.F.slot_str_partition PySem.F.type_str_partition Zsh Zo9 (d_v 0) Za6))
  (Zac 02
  (Zac (ZbD 02
  (Zak (Zdp (Zcc yaf) hr 00 rfl yae (Zaj Zbn ZaE)))
  ZaB)
  (by walk_at "e")))))⟩)
theorem Zhv(D:Def K mg "read_ground" Zdy ["row"])(yby:T.C 4 "just_words_behind" ["head","row","count"] Zap)(ybj:T.C 4 "read_fraction" ["word"] Zal):T.C 5 "read_ground" ["row"] ZaT:=by
 exact D.cal ZeQ (λf cdv A outer s H E hr=>have hN:=ZeQ.nd;⟨_,02⟩)
theorem Zmd(D:Def K mg "is_spot" Zhc ["thing"])(ybi:T.C 2 "is_between" ["thing","least","most"] Za1):T.C 3 "is_spot" ["thing"] Zde:=by
 exact D.cal ZhN (λf cdv A outer s H E hr=>have hN:=ZhN.nd;⟨_,02⟩)
theorem Zhy(D:Def K mg "check_spots" ZdG ["spots"])(c_is_spot:T.C 3 "is_spot" ["thing"] Zde):T.C 4 "check_spots" ["spots"] ZbR:=by
 obtain ⟨yc7,yci,ycj⟩:=T.ych;obtain ⟨tk_MOST_SPOTS,ybf⟩:=T.ybf
 exact D.cal ZeJ (λf cdv A outer s H E hr=>have hN:=ZeJ.nd;⟨_,(Zac (ZbD (DW.dt (ZeD 02 (ZeD 02 (Zf7 (Zpb 02 (ydo rfl ybf))))))
  (by walk_at "e")
  ZaB)
  (Zac (ZbD (Zft (Zfw (ycE (ZcA rfl) ZcM rfl T.ycZ ZgX (Zaj (Zcj (own:=["spot"]) (cap:=[]) (Zbr (d_v 0)) (by walk_at "co") rfl (by walk_at "cg") (by walk_at "ct") (by walk_at "ce")) ZaE))))
  (by walk_at "e")
  ZaB)
  (Zak (ZbD (Zqx hr (Zqa hr rfl T.ydf rfl T.ydw (d_v 0)) 02)
  (by walk_at "e")
  ZaB))))⟩)
theorem Zi6(D:Def K mg "read_spot" Ze1 ["word"])(yaX:T.C 3 "read_number" ["word"] Zam):T.C 4 "read_spot" ["word"] Zbf:=by
 exact D.cal Zf1 (λf cdv A outer s H E hr=>have hN:=Zf1.nd;⟨_,(Zak (ZaO (ydm ZdO Ze7 rfl T.ycl Zgk (Zaj (Zhi (Zg2.blk ⟨rfl,rfl,rfl,rfl⟩) (own:=["number"]) (cap:=[]) (Zbr (ybI Vci Vcw ZaS ZaF (d_v 0) Za6)) (by walk_at "co") rfl (by walk_at "cg") (by walk_at "ct") (by walk_at "ce")) ZaE))))⟩)
theorem ZiG(D:Def K mg "read_spots" Zer ["row"])(yb6:T.C 3 "words_behind" ["head","row"] Zax)(c_check_spots:T.C 4 "check_spots" ["spots"] ZbR)(c_read_spot:T.C 4 "read_spot" ["word"] Zbf):T.C 5 "read_spots" ["row"] ZaZ:=by
 exact D.cal Zdq (λf cdv A outer s H E hr=>have hN:=Zdq.nd;⟨_,(Zac (ZiH (i:=1) Zdq.nd rfl (Or.inl rfl) ⟨rfl,rfl,rfl,rfl⟩ (own:=["word"]) (cap:=[]) 02 (by walk_at "co") rfl (by walk_at "cg") (by walk_at "ct") (by walk_at "ce"))
  (by walk_at "e"))⟩)
theorem ZjW(D:Def K mg "groups_of" ZeT ["words"]):T.C 1 "groups_of" ["words"] Zb1:=by
 exact D.cal Zd9 (λf b A a s H E c=>have d:=Zd9.nd;⟨_,(Ztd (i:=1) (j:=2) (k:=0) Zd9.nd Vcv rfl 00 00 rfl (Or.inl rfl) rfl (Or.inl rfl) rfl (ZnB c (d_v 2) Za6))⟩)
theorem Zhw(D:Def K mg "read_corner" Zdw ["words"])(yaX:T.C 3 "read_number" ["word"] Zam):T.C 4 "read_corner" ["words"] ZaY:=by
 obtain ⟨ybh,yae,yaf⟩:=T.yaV
 exact D.cal Zc3 (λf cdv A outer s H E hr=>have hN:=Zc3.nd;⟨_,(Zac (ZbD 02
  (Zak (Zdp (Zcc yaf) hr 00 rfl yae (Zaj Zbn ZaE)))
  ZaB)
  (Zac (ZiH (i:=1) Zc3.nd rfl (Or.inl rfl) ⟨rfl,rfl,rfl,rfl⟩ (own:=["word"]) (cap:=[]) (Zbr (d_v 0)) (by walk_at "co") rfl (by walk_at "cg") (by walk_at "ct") (by walk_at "ce"))
  (by walk_at "e")))⟩)
theorem Ze4(D:Def K mg "check_before_eye" ZbI ["corners"]):T.C 1 "check_before_eye" ["corners"] ZaN:=by
 obtain ⟨ycm,ybA,ybB⟩:=T.ybz;exact D.cal ZcG (λf cdv A outer s H E hr=>have hN:=ZcG.nd;⟨_,02⟩)
theorem ZiB(D:Def K mg "are_values" Zd5 ["thing"])(ybK:T.C 1 "is_whole" ["thing"] Za8):T.C 2 "are_values" ["thing"] Zce:=by
 obtain ⟨tk_MOST_VALUES,yaU⟩:=T.yaU
 exact D.cal Zfz (λf cdv A outer s H E hr=>have hN:=Zfz.nd;⟨_,(Zac (ZbD (DW.dt (ZeD 02 (Zf7 (Zpb 02 (ydo rfl yaU)))))
  (Zak (ZaO ydk))
  ZaB)
  (Zak (ZaO (ycE (ZcA rfl) ZcM rfl T.ycZ ZgX (Zaj (Zcj (own:=["number"]) (cap:=[]) (Zbr (d_v 0)) (by walk_at "co") rfl (by walk_at "cg") (by walk_at "ct") (by walk_at "ce")) ZaE)))))⟩)
theorem Zje(D:Def K mg "is_corner" Ze5 ["thing"])(ybK:T.C 1 "is_whole" ["thing"] Za8)(c_are_values:T.C 2 "are_values" ["thing"] Zce):T.C 3 "is_corner" ["thing"] Zb9:=by
 exact D.cal Zf3 (λf cdv A outer s H E hr=>have hN:=Zf3.nd;⟨_,(Zac 02
  (Zac (ZbD (Zft (Zfw (ycE (ZcA rfl) ZcM rfl T.ycZ ZgX (Zaj (Zcj (own:=["number"]) (cap:=[]) 02 (by walk_at "co") rfl (by walk_at "cg") (by walk_at "ct") (by walk_at "ce")) ZaE))))
  (Zak (ZaO ydk))
  ZaB)
  (by walk_at "e")))⟩)
theorem ZfW(D:Def K mg "check_triangle" Zcn ["triangle"])(c_is_corner:T.C 3 "is_corner" ["thing"] Zb9):T.C 4 "check_triangle" ["triangle"] ZaW:=by
 obtain ⟨ycm,ybA,ybB⟩:=T.ybz;exact D.cal Zdb (λf cdv A outer s H E hr=>have hN:=Zdb.nd;⟨_,02⟩)
theorem Zp9{f:Addr}{fd:FuncData}(F:Fun K "__init__" "Thing.__init__" Zb3 f fd)(c_check_before_eye:T.C 1 "check_before_eye" ["corners"] ZaN)(c_check_triangle:T.C 4 "check_triangle" ["triangle"] ZaW):FnOk P w K mg base (CXR P w) 5 f fd ["self","triangle"] (spI K mg 1 objs Zbs):=by
 exact okI F ZcP 00 rfl (λcdv A outer s H E hr=>have hN:=ZcP.nd;⟨_,(ZfZ 02
  (ZfZ 02
  (ZjE T.f_triangle (d_v 1)
  Zj3)))⟩)
theorem ZgU(D:Def K mg "check_colour" Zc2 ["colour"])(yaY:T.C 2 "is_fraction" ["thing"] Zas):T.C 3 "check_colour" ["colour"] ZaI:=by
 obtain ⟨yck,ybr,ybs⟩:=T.ybJ;exact D.cal Zeo (λf cdv A outer s H E hr=>have hN:=Zeo.nd;⟨_,02⟩)
theorem ZiR(D:Def K mg "check_part" Zd4 ["part"])(yaY:T.C 2 "is_fraction" ["thing"] Zas):T.C 3 "check_part" ["part"] ZbE:=by
 obtain ⟨yck,ybr,ybs⟩:=T.ybJ;exact D.cal Zfh (λf cdv A outer s H E hr=>have hN:=Zfh.nd;⟨_,02⟩)
theorem Zo0{f:Addr}{fd:FuncData}(F:Fun K "__init__" "Glass.__init__" Zb0 f fd)(yaZ:CalS P w K mg base 5 "Thing" "__init__" 1 objs Zbs)(yb7:T.C 3 "check_colour" ["colour"] ZaI)(c_check_part:T.C 3 "check_part" ["part"] ZbE):FnOk P w K mg base (CXR P w) 7 f fd ["self","triangle","colour","part"] (spI K mg 3 objs ZfY):=by
 exact okI F ZcQ 00 rfl (λcdv A outer s H E hr=>have hN:=ZcQ.nd;⟨_,(Zln yaZ hr 00 rfl Zbe (λ_ h=>h) (Zaj (d_v 1) ZaE)
  (ZfZ 02
  (ZfZ 02
  (ZjE T.f_colour (d_v 2)
  (ZjE T.f_part (d_v 3)
  Zj3)))))⟩)
theorem Zga(D:Def K mg "check_pattern" ZcD ["pattern"])(yaY:T.C 2 "is_fraction" ["thing"] Zas):T.C 3 "check_pattern" ["pattern"] Za9:=by
 obtain ⟨C_BadPattern,ycG,ycH⟩:=T.ycF;obtain ⟨ga_COUNTS,go_COUNTS,gi_COUNTS,gn_COUNTS,ycJ,ycK,ycL,ycM,ycN,ycO⟩:=T.t_COUNTS
 exact D.cal ZdS (λf cdv A outer s H E hr=>have hN:=ZdS.nd;⟨_,(Zac (ZbD (DW.dt (ZeD 02 (Zf7 (Znf hr 02 (Zrv (ns:=[1,2,4,8,16]) rfl ycJ ycK ycL ycM ycN ycO)))))
  (by walk_at "e")
  ZaB)
  (Zak (ZhQ Vcv rfl (Zbr (d_v 0)) 02
  (Zac (ZbD (DW.dt (ZeD 02 (Zf7 (Znf hr 02 (Zrv (ns:=[1,2,4,8,16]) rfl ycJ ycK ycL ycM ycN ycO)))))
  (by walk_at "e")
  ZaB)
  (Zac 02
  (Zak (ZbD (Zft (Zfw (ycE (ZcA rfl) ZcM rfl T.ycZ ZgX (Zaj (Zcj (own:=["entry"]) (cap:=[]) (Zbr (d_v 1)) (by walk_at "co") rfl (by walk_at "cg") (by walk_at "ct") (by walk_at "ce")) ZaE))))
  (by walk_at "e")
  ZaB)))))))⟩)
theorem ZgS(D:Def K mg "check_values" Zc8 ["triangle","least"]):T.C 1 "check_values" ["triangle","least"] ZaJ:=by
 obtain ⟨yck,ybr,ybs⟩:=T.ybJ
 exact D.cal Zeg (λf cdv A outer s H E hr=>have hN:=Zeg.nd;⟨_,(Zak (ZbD 02
  (Zak (Zjk rfl ybr ybs (Zaj (Zvl (d_v 1)) ZaE)))
  ZaB))⟩)
theorem ZmU(D:Def K mg "copied" Zie ["pattern"]):T.C 1 "copied" ["pattern"] Zew:=by
 exact D.cal Zi9 (λf cdv A outer s H E hr=>have hN:=Zi9.nd;⟨_,(Zak (ZaO (Zcj (own:=["row"]) (cap:=[]) (Zbr (d_v 0)) (by walk_at "co") rfl (by walk_at "cg") (by walk_at "ct") (by walk_at "ce"))))⟩)
theorem Zj5{f:Addr}{fd:FuncData}(F:Fun K "__init__" "Patterned.__init__" Zbm f fd)(yaZ:CalS P w K mg base 5 "Thing" "__init__" 1 objs Zbs)(c_check_pattern:T.C 3 "check_pattern" ["pattern"] Za9)(yb8:T.C 1 "check_values" ["triangle","least"] ZaJ)(c_copied:T.C 1 "copied" ["pattern"] Zew):FnOk P w K mg base (CXR P w) 7 f fd ["self","triangle","pattern"] (spI K mg 2 objs Zcb):=by
 exact okI F ZbW 00 rfl (λcdv A outer s H E hr=>have hN:=ZbW.nd;⟨_,(Zln yaZ hr 00 rfl Zbe (λ_ h=>h) (Zaj (d_v 1) ZaE)
  (ZfZ 02
  (ZfZ 02
  (ZjE T.f_pattern 02
  Zj3))))⟩)
theorem Zpq{f:Addr}{fd:FuncData}(F:Fun K "__init__" "Plain.__init__" ZbZ f fd)(yaZ:CalS P w K mg base 5 "Thing" "__init__" 1 objs Zbs)(yb7:T.C 3 "check_colour" ["colour"] ZaI):FnOk P w K mg base (CXR P w) 7 f fd ["self","triangle","colour"] (spI K mg 2 objs ZfF):=by
 exact okI F ZcU 00 rfl (λcdv A outer s H E hr=>have hN:=ZcU.nd;⟨_,(Zln yaZ hr 00 rfl Zbe (λ_ h=>h) (Zaj (d_v 1) ZaE)
  (ZfZ 02
  (ZjE T.f_colour (d_v 2)
  Zj3)))⟩)
theorem ZoK{f:Addr}{fd:FuncData}(F:Fun K "__init__" "Shaded.__init__" ZbS f fd)(yaZ:CalS P w K mg base 5 "Thing" "__init__" 1 objs Zbs)(yb8:T.C 1 "check_values" ["triangle","least"] ZaJ):FnOk P w K mg base (CXR P w) 7 f fd ["self","triangle"] (spI K mg 1 objs ZdQ):=by
 exact okI F ZcB 00 rfl (λcdv A outer s H E hr=>have hN:=ZcB.nd;⟨_,(Zln yaZ hr 00 rfl Zbe (λ_ h=>h) (Zaj (d_v 1) ZaE)
  (ZfZ 02
  Zj3))⟩)
theorem Zgz(D:Def K mg "read_pattern" Zc9 ["word"])(ybj:T.C 4 "read_fraction" ["word"] Zal):T.C 5 "read_pattern" ["word"] ZbA:=by
 exact D.cal Zej (λf cdv A outer s H E hr=>have hN:=Zej.nd;⟨_,(Zak (ZaO (Zhi (Zg2.blk ⟨rfl,rfl,rfl,rfl⟩) (own:=["row"]) (cap:=[]) (Zbr (ybI Vci Vcw ZaS ZaF (d_v 0) Za6)) (by walk_at "co") rfl (by walk_at "cg") (by walk_at "ct") (λ_ _ _ _ _=>(Zhi (ZoT ⟨rfl,rfl,rfl,rfl⟩) (own:=["entry"]) (cap:=[]) (Zbr (ybI Vci Vcw ZaS ZaF (d_v 0) Za6)) (by walk_at "co") rfl (by walk_at "cg") (by walk_at "ct") (by walk_at "ce"))))))⟩)
theorem Zki(D:Def K mg "thing_of" ZfH ["head","triangle"])(ybj:T.C 4 "read_fraction" ["word"] Zal)(ci_Glass:CalI P w K mg base 7 "Glass" 3 objs ZfY)(ci_Patterned:CalI P w K mg base 7 "Patterned" 2 objs Zcb)(ci_Plain:CalI P w K mg base 7 "Plain" 2 objs ZfF)(ci_Shaded:CalI P w K mg base 7 "Shaded" 1 objs ZdQ)(c_read_pattern:T.C 5 "read_pattern" ["word"] ZbA):T.C 9 "thing_of" ["head","triangle"] Zbq:=by
 obtain ⟨ybh,yae,yaf⟩:=T.yaV
 exact D.cal Zg1 (λf cdv A outer s H E hr=>have hN:=Zg1.nd;⟨_,(Zac (ZbD 02
  (Zak (ZaO (ZlL ci_Plain hr 00 rfl Zbe 02)))
  ZaB)
  (Zac (ZbD 02
  (Zak (ZaO (ZlL ci_Shaded hr 00 rfl Zbe (Zaj (d_v 1) ZaE))))
  ZaB)
  (Zac (ZbD 02
  (Zak (ZaO (ZlL ci_Patterned hr 00 rfl Zbe 02)))
  ZaB)
  (Zac (ZbD 02
  (Zak (ZaO (ZlL ci_Glass hr 00 rfl Zbe 02)))
  ZaB)
  (Zak (Zdp (Zcc yaf) hr 00 rfl yae (Zaj Zbn ZaE)))))))⟩)
theorem ZiE(D:Def K mg "read_thing" Zd1 ["row"])(ycP:T.C 3 "check_text" ["text"] Zbj)(yc0:T.C 1 "groups_of" ["words"] Zb1)(c_read_corner:T.C 4 "read_corner" ["words"] ZaY)(yc8:T.C 9 "thing_of" ["head","triangle"] Zbq):T.C 10 "read_thing" ["row"] ZaU:=by
 obtain ⟨ybh,yae,yaf⟩:=T.yaV
 exact D.cal Zdo (λf cdv A outer s H E hr=>have hN:=Zdo.nd;⟨_,(Zac 02
  (Zac (Zbt (i:=1) Zdo.nd rfl (Or.inl rfl) (Zd0 yc0 hr 00 rfl Zbe (Zaj (ybI Vci Vcw ZaS ZaF (d_v 0) Za6) ZaE)))
  (Zac (ZbD 02
  (Zak (Zdp (Zcc yaf) hr 00 rfl yae (Zaj Zbn ZaE)))
  ZaB)
  (Zak (ZaO (Zd0 yc8 hr 00 rfl Zbe (Zaj (ydl (d_v 1) Zbn) (Zaj (ydm ZdO Ze7 rfl T.ycl Zgk (Zaj (Zhi (Zg2.blk ⟨rfl,rfl,rfl,rfl⟩) (own:=["words"]) (cap:=[]) 02 (by walk_at "co") rfl (by walk_at "cg") (by walk_at "ct") (by walk_at "ce")) ZaE)) ZaE))))))))⟩)
theorem ZlS(D:Def K mg "read_at" Zgv ["rows","number","read"])(ybk:T.C 6 "read_floor" ["row"] ZaD)(ya0:T.C 5 "read_ground" ["row"] ZaT)(ybl:T.C 5 "read_spots" ["row"] ZaZ)(ybm:T.C 10 "read_thing" ["row"] ZaU):T.C 11 "read_at" ["rows","number","read"] Zbd:=by
 obtain ⟨ybh,yae,yaf⟩:=T.yaV;obtain ⟨K_YardError,k_YardError⟩:=T.ybZ
 exact D.cal ZhL (λf cdv A outer s H E hr=>have hN:=ZhL.nd;⟨_,(Zac (ZbD 02
  (Zak (Zdp (Zcc yaf) hr 00 rfl yae (Zaj (d_v 1) ZaE)))
  ZaB)
  (Zak (Zqz (hits:=["BadFloor","BadPattern","BadThing","BadTriangle","NoRow"]) (tab:=[("read_floor",ZaD),("read_ground",ZaT),("read_spots",ZaZ),("read_thing",ZaU)]) (i:=2) ⟨rfl,rfl,rfl,rfl⟩ rfl (Or.inl rfl) (Vcx.mpr ⟨ybk.mono 00,(Vcx.mpr ⟨ya0.mono 00,(Vcx.mpr ⟨ybl.mono 00,(Vcx.mpr ⟨ybm.mono 00,(λ_ h=>aB h VbT)⟩)⟩)⟩)⟩) hr (VaN _) 02 rfl k_YardError (T.h_YardError _ k_YardError) (Zcc yaf) 00 rfl yae (λ_=>(Zaj (d_v 1) ZaE)))))⟩)
theorem ZiA(D:Def K mg "read_scene" Zea ["text"])(ycP:T.C 3 "check_text" ["text"] Zbj)(ybk:T.C 6 "read_floor" ["row"] ZaD)(ya0:T.C 5 "read_ground" ["row"] ZaT)(ybl:T.C 5 "read_spots" ["row"] ZaZ)(ybm:T.C 10 "read_thing" ["row"] ZaU)(ybC:T.C 11 "read_at" ["rows","number","read"] Zbd):T.C 12 "read_scene" ["text"] Zbk:=by
 exact D.cal Zba (λf cdv A outer s H E hr=>have hN:=Zba.nd;⟨_,(Zac 02
  (Zac (Zbt (i:=1) Zba.nd rfl (Or.inr rfl) (ybI Vci Vcw ZaS ZaF (d_v 0) Za6))
  (Zac (Zbt (i:=2) Zba.nd rfl (Or.inl rfl) (Zd0 ybC hr 00 rfl Zbe (Zaj (d_v 1) (Zaj Zbn (Zaj (ydt ybk rfl) ZaE)))))
  (Zac (Zbt (i:=3) Zba.nd rfl (Or.inl rfl) (Zd0 ybC hr 00 rfl Zbe (Zaj (d_v 1) (Zaj Zbn (Zaj (ydt ya0 rfl) ZaE)))))
  (Zac (Zbt (i:=4) Zba.nd rfl (Or.inl rfl) (Zd0 ybC hr 00 rfl Zbe (Zaj (d_v 1) (Zaj Zbn (Zaj (ydt ybl rfl) ZaE)))))
  (Zac (ZiH (i:=5) Zba.nd rfl (Or.inl rfl) ⟨rfl,rfl,rfl,rfl⟩ (own:=["number"]) (cap:=[("rows",1)]) (Zxi rfl T.ydc 02) (by walk_at "co") rfl (by walk_at "cg") (by walk_at "ct") (λ_ _ _ _ _=>(Zn3 ybC hr 00 rfl (Zaj (d_v 1) (Zaj (d_v 0) (Zaj (ydt ybm rfl) ZaE))))))
  (by walk_at "e")))))))⟩)
theorem Zhk(D:Def K mg "number_word" Zdv ["number"]):T.C 1 "number_word" ["number"] Zan:=by
 exact D.cal ZeH (λf cdv A outer s H E hr=>have hN:=ZeH.nd;⟨_,(Zac 02
  (Zac 02
  (Zac (ZmH Vcv 02
  ZsZ)
  (Zac 02
  (Zac 02
  (Zak (ZaO (ZmF 1 rfl rfl T.yc6))))))))⟩)
theorem Zgf(D:Def K mg "fraction_word" ZcF ["fraction"])(ya1:T.C 1 "number_word" ["number"] Zan):T.C 2 "fraction_word" ["fraction"] Zaq:=by
 exact D.cal ZdW (λf cdv A outer s H E hr=>have hN:=ZdW.nd;⟨_,02⟩)
theorem Zi7(D:Def K mg "pair_word" Ze0 ["pair"])(ya1:T.C 1 "number_word" ["number"] Zan):T.C 2 "pair_word" ["pair"] Zb6:=by
 exact D.cal Zf0 (λf cdv A outer s H E hr=>have hN:=Zf0.nd;⟨_,02⟩)
theorem ZiD(D:Def K mg "numbers_of" Zel ["corner"]):T.C 1 "numbers_of" ["corner"] Zcg:=by
 exact D.cal Zfi (λf cdv A outer s H E hr=>have hN:=Zfi.nd;⟨_,02⟩)
theorem Zho(D:Def K mg "corner_text" ZdC ["corner"])(ya1:T.C 1 "number_word" ["number"] Zan)(c_numbers_of:T.C 1 "numbers_of" ["corner"] Zcg):T.C 2 "corner_text" ["corner"] ZbO:=by
 exact D.cal ZeR (λf cdv A outer s H E hr=>have hN:=ZeR.nd;⟨_,(Zak (ZaO (ybI Vce Vcg ZdB Zcv Za6 (ZjI 02 (Zcj (own:=["number"]) (cap:=[]) 02 (by walk_at "co") rfl (by walk_at "cg") (by walk_at "ct") (by walk_at "ce"))))))⟩)
theorem Zhr{f:Addr}{fd:FuncData}(F:Fun K "word" "Glass.word" ZdK f fd):FnOk P w K mg base (CXR P w) 1 f fd ["self"] (spD K mg 1 Zfo):=by
 exact okM F ZeM (λb A a s H E c=>have d:=ZeM.nd;⟨_,(Zak (ZaO Za6))⟩)
theorem Zfs{f:Addr}{fd:FuncData}(F:Fun K "word" "Patterned.word" ZbY f fd):FnOk P w K mg base (CXR P w) 1 f fd ["self"] (spD K mg 1 Zdk):=by
 exact okM F ZcV (λb A a s H E c=>have d:=ZcV.nd;⟨_,(Zak (ZaO Za6))⟩)
theorem Zhq{f:Addr}{fd:FuncData}(F:Fun K "word" "Plain.word" Zdx f fd):FnOk P w K mg base (CXR P w) 1 f fd ["self"] (spD K mg 1 ZfC):=by
 exact okM F ZeO (λb A a s H E c=>have d:=ZeO.nd;⟨_,(Zak (ZaO Za6))⟩)
theorem Zg3{f:Addr}{fd:FuncData}(F:Fun K "word" "Shaded.word" Zc6 f fd):FnOk P w K mg base (CXR P w) 1 f fd ["self"] (spD K mg 1 ZeK):=by
 exact okM F Zd7 (λb A a s H E c=>have d:=Zd7.nd;⟨_,(Zak (ZaO Za6))⟩)
theorem ZgE(D:Def K mg "pattern_word" ZcZ ["pattern"])(ybn:T.C 2 "fraction_word" ["fraction"] Zaq):T.C 3 "pattern_word" ["pattern"] Zbv:=by
 exact D.cal Zeh (λf cdv A outer s H E hr=>have hN:=Zeh.nd;⟨_,(Zak (ZaO (ybI Vce Vcg ZdB Zcv Za6 (Zcj (own:=["row"]) (cap:=[]) (Zbr (d_v 0)) (by walk_at "co") rfl (by walk_at "cg") (by walk_at "ct") (λ_ _ _ _ _=>(ybI Vce Vcg ZdB Zcv Za6 (Zcj (own:=["entry"]) (cap:=[]) (Zbr (d_v 0)) (by walk_at "co") rfl (by walk_at "cg") (by walk_at "ct") (by walk_at "ce"))))))))⟩)
theorem Zil(D:Def K mg "head_words" Zep ["thing"])(ybn:T.C 2 "fraction_word" ["fraction"] Zaq)(cm_word:ZfA P w K mg base 1 0 "word" Zip)(c_pattern_word:T.C 3 "pattern_word" ["pattern"] Zbv):T.C 4 "head_words" ["thing"] Zch:=by
 exact D.cal ZdF (λf cdv A outer s H E hr=>have hN:=ZdF.nd;⟨_,(Zac (Zbt (i:=1) ZdF.nd rfl (Or.inl rfl) (ZrO cm_word hr 00 Zbe (d_v 0)))
  (by walk_at "e"))⟩)
theorem Zib(D:Def K mg "thing_text" Zei ["thing"])(c_corner_text:T.C 2 "corner_text" ["corner"] ZbO)(c_head_words:T.C 4 "head_words" ["thing"] Zch):T.C 5 "thing_text" ["thing"] ZbF:=by
 exact D.cal Zfb (λf cdv A outer s H E hr=>have hN:=Zfb.nd;⟨_,(Zak (ZaO (ybI Vce Vcg ZdB Zcv Za6 (ZjI 02 (Zcj (own:=["corner"]) (cap:=[]) 02 (by walk_at "co") rfl (by walk_at "cg") (by walk_at "ct") (by walk_at "ce"))))))⟩)
theorem Zh5(D:Def K mg "scene_text" Zed ["scene"])(ya1:T.C 1 "number_word" ["number"] Zan)(ybn:T.C 2 "fraction_word" ["fraction"] Zaq)(c_pair_word:T.C 2 "pair_word" ["pair"] Zb6)(c_thing_text:T.C 5 "thing_text" ["thing"] ZbF):T.C 6 "scene_text" ["scene"] Zcf:=by
 exact D.cal ZdM (λf cdv A outer s H E hr=>have hN:=ZdM.nd;⟨_,(Zac (Zbt (i:=1) ZdM.nd rfl (Or.inl rfl) (ZvH (Zaj (ybI Vce Vcg ZdB Zcv Za6 02) (Zaj (ybI Vce Vcg ZdB Zcv Za6 02) (Zaj (ybI Vce Vcg ZdB Zcv Za6 (ZjI 02 (Zcj (own:=["spot"]) (cap:=[]) 02 (by walk_at "co") rfl (by walk_at "cg") (by walk_at "ct") (by walk_at "ce")))) ZaE)))))
  (Zak (ZaO (ybI Vce Vcg ZdB Zcv Za6 (ZjI (d_v 1) (Zcj (own:=["thing"]) (cap:=[]) 02 (by walk_at "co") rfl (by walk_at "cg") (by walk_at "ct") (by walk_at "ce")))))))⟩)
theorem Zis(D:Def K mg "_law_right" Zem ["_law_cell"])(yb9:T.C 2 "_law_changed" ["_law_text","_law_cell"] Zbw)(c__law_due:T.C 6 "_law_due" ["_law_text"] ZeB)(c__law_rows:T.C 2 "_law_rows" ["_law_cell"] ZcN)(ycQ:T.C 12 "read_scene" ["text"] Zbk)(c_scene_text:T.C 6 "scene_text" ["scene"] Zcf):T.C 13 "_law_right" ["_law_cell"] Zci:=by
 obtain ⟨K_NoRow,k_NoRow⟩:=T.ydj;obtain ⟨K_YardError,k_YardError⟩:=T.ybZ
 exact D.cal Zct (λf cdv A outer s H E hr=>have hN:=Zct.nd;⟨_,(Zac (Zbt (i:=1) Zct.nd rfl (Or.inl rfl) (Zd0 yb9 hr 00 rfl Zbe (Zaj (ybI Vce Vcg ZdB Zcv Za6 02) (Zaj (d_v 0) ZaE))))
  (Zac 02
  (Zac 02
  (Zac (Zvj (hits:=["BadFloor","BadPattern","BadThing","BadTriangle","NoRow"]) (i:=4) rfl rfl ycQ hr 00 rfl (Zaj (d_v 1) ZaE) rfl k_YardError (T.h_YardError _ k_YardError) Zct.nd rfl rfl rfl (λ_=>
  (by walk_at "e")))
  (Zac 02
  (Zak (ZaO (Zmc (ycE Zqu (ZnU T.tab) rfl T.ybe ZdL (Zaj (d_v 3) (Zaj (ZxB rfl k_NoRow) ZaE))) (Zmc (ZwH (ycE ZiY Zj0 rfl T.ybe ZdL (Zaj (ydy T.at_ (d_v 3)) 02))) (Zpu (ydx hr (ydy T.at_ (d_v 3)) (d_v 2))))))))))))⟩)
theorem ZuF{f:Addr}{fd:FuncData}(F:Fun K "law" "law" Zh6 f fd)(c__law_cell_at:T.C 1 "_law_cell_at" ["_law_script","_law_k"] Zby)(c__law_right:T.C 13 "_law_right" ["_law_cell"] Zci):FnOk P w K mg base (CXR P w) 14 f fd ["_law_script"] (spD K mg 1 Zsj):=by
 exact okD F ZqY (λcdv A outer s H E hr=>have hN:=ZqY.nd;⟨_,02⟩)
end
def ln1{P:List Value->Prop}(q:∀a,P [a]):∀us,us.length=1->P us:=by intro us h;rcases us with _|⟨a,_|_⟩<;>first | exact q _ | cases h
def ln2{P:List Value->Prop}(q:∀a b,P [a,b]):∀us,us.length=2->P us:=by intro us h;rcases us with _|⟨a,_|⟨b,_|_⟩⟩<;>first | exact q _ _ | cases h
def ln3{P:List Value->Prop}(q:∀a b c,P [a,b,c]):∀us,us.length=3->P us:=by intro us h;rcases us with _|⟨a,_|⟨b,_|⟨c,_|_⟩⟩⟩<;>first | exact q _ _ _ | cases h
def ln4{P:List Value->Prop}(q:∀a b c d,P [a,b,c,d]):∀us,us.length=4->P us:=by intro us h;rcases us with _|⟨a,_|⟨b,_|⟨c,_|⟨d,_|_⟩⟩⟩⟩<;>first | exact q _ _ _ _ | cases h
def dmk{K:W.Frag}{mg:001}{x:Str}{st:Stmt}{ps:List Str}{f:Addr}{fd:FuncData}(F:Fun K x x st f fd)(b:Binds K fd ps [])(m:mg x=some (.ref f)):Def K mg x st ps:=⟨f,fd,F,b,m⟩
local macro_rules | `(tactic| walk_at "b1")=>`(tactic| exact λ_ _ _ _ _ _=>My.ln1 λ_=>rfl)
local macro_rules | `(tactic| walk_at "b2")=>`(tactic| exact λ_ _ _ _ _ _=>My.ln2 λ_ _=>rfl)
local macro_rules | `(tactic| walk_at "b3")=>`(tactic| exact λ_ _ _ _ _ _=>My.ln3 λ_ _ _=>rfl)
local macro_rules | `(tactic| walk_at "b4")=>`(tactic| exact λ_ _ _ _ _ _=>My.ln4 λ_ _ _ _=>rfl)
abbrev NI(K:W.Frag)(x:Str)(f:Addr):Prop:=W.nsIn K mainGlobals x=some (some (.ref f))
abbrev Df(K:W.Frag)(x q:Str)(st:Stmt)(f:Addr):Prop:=∃fd,Fun K x q st f fd
def ZvT{l:W.OpenLaw}{w:World}{K:W.Frag}{h:Heap}{mg:001}{fa f38 f41 f45 f46 f47 f58 f59 f60 f61 f67:Addr}(X:K.In h)(G:h.Ns mainGlobals mg)(hfa:mg "law"=some (.ref fa))
  {od67 an67:Option Addr} {sl67:Array (Option Value)} {oc67 kV67 dc67 pm67 cd67 ct67:Value} {tk0 tk1 tk2 tk3 tk4 gtk0_0 gtk0_1 gtk0_2 gtk0_3 gtk0_4:Tok} {GA0 C0 C1 X0 X1 X2 X3 X4 fx4 yag yab yah yac ybD:Addr} {godt0:Option Addr} {gnn0:Nat} {gsl0:Array (Option Value)}
  (yaO:NI K "Glass" yag)
  (yad:NI K "Patterned" yab)
  (yaP:NI K "Plain" yah)
  (yav:NI K "Shaded" yac)
  (ycn:NI K "Thing" ybD)
  (D1:Def K mg "_law_cell_at" Zc0 ["_law_script","_law_k"])
  (D2:Def K mg "_law_mixed" Zes ["_law_cell","_law_k"])
  (D3:Def K mg "_law_changed" Zda ["_law_text","_law_cell"])
  (D4:Def K mg "_law_divisor" Zc4 ["_law_one","_law_other"])
  (D5:Def K mg "_law_number" ZdD ["_law_word"])
  (D6:Def K mg "_law_fraction" ZcH ["_law_word"])
  (D7:Def K mg "_law_is_spots" ZcK ["_law_words"])
  (D8:Def K mg "_law_corners" ZcW ["_law_parts"])
  (D9:Def K mg "_law_is_pattern" Zb4 ["_law_word"])
  (D10:Def K mg "_law_is_thing" ZcI ["_law_row"])
  (D11:Def K mg "_law_stands" Zdz ["_law_at","_law_row"])
  (D12:Def K mg "_law_due" ZfO ["_law_text"])
  (D13:Def K mg "_law_rows" ZeW ["_law_cell"])
  (D14:Def K mg "check_text" Zef ["text"])
  (D15:Def K mg "is_whole" ZfM ["thing"])
  (D16:Def K mg "is_between" ZdZ ["thing","least","most"])
  (D17:Def K mg "check_floor" ZdJ ["width","height"])
  (D18:Def K mg "words_behind" ZcX ["head","row"])
  (D19:Def K mg "just_words_behind" ZbC ["head","row","count"])
  (D20:Def K mg "are_figures" ZdI ["word"])
  (D21:Def K mg "read_number" ZdH ["word"])
  (D22:Def K mg "numbers_behind" Zco ["head","row","count"])
  (D23:Def K mg "read_floor" Zd2 ["row"])
  (D24:Def K mg "greatest_divisor" ZbP ["numbers"])
  (D25:Def K mg "is_fraction" Zdu ["thing"])
  (D26:Def K mg "read_fraction" ZcL ["word"])
  (D27:Def K mg "read_ground" Zdy ["row"])
  (D28:Def K mg "is_spot" Zhc ["thing"])
  (D29:Def K mg "check_spots" ZdG ["spots"])
  (D30:Def K mg "read_spot" Ze1 ["word"])
  (D31:Def K mg "read_spots" Zer ["row"])
  (D32:Def K mg "groups_of" ZeT ["words"])
  (D33:Def K mg "read_corner" Zdw ["words"])
  (D34:Def K mg "check_before_eye" ZbI ["corners"])
  (D35:Def K mg "are_values" Zd5 ["thing"])
  (D36:Def K mg "is_corner" Ze5 ["thing"])
  (D37:Def K mg "check_triangle" Zcn ["triangle"])
  (a38:W.findIn K (.ref ybD) "__init__"=some (some (.ref f38))) (d38:Df K "__init__" "Thing.__init__" Zb3 f38) (q38:W.isFn K (.ref f38)=true)
  (D39:Def K mg "check_colour" Zc2 ["colour"])
  (D40:Def K mg "check_part" Zd4 ["part"])
  (a41:W.findIn K (.ref yag) "__init__"=some (some (.ref f41))) (d41:Df K "__init__" "Glass.__init__" Zb0 f41) (q41:W.isFn K (.ref f41)=true)
  (D42:Def K mg "check_pattern" ZcD ["pattern"])
  (D43:Def K mg "check_values" Zc8 ["triangle","least"])
  (D44:Def K mg "copied" Zie ["pattern"])
  (a45:W.findIn K (.ref yab) "__init__"=some (some (.ref f45))) (d45:Df K "__init__" "Patterned.__init__" Zbm f45) (q45:W.isFn K (.ref f45)=true)
  (a46:W.findIn K (.ref yah) "__init__"=some (some (.ref f46))) (d46:Df K "__init__" "Plain.__init__" ZbZ f46) (q46:W.isFn K (.ref f46)=true)
  (a47:W.findIn K (.ref yac) "__init__"=some (some (.ref f47))) (d47:Df K "__init__" "Shaded.__init__" ZbS f47) (q47:W.isFn K (.ref f47)=true)
  (D48:Def K mg "read_pattern" Zc9 ["word"])
  (D49:Def K mg "thing_of" ZfH ["head","triangle"])
  (D50:Def K mg "read_thing" Zd1 ["row"])
  (D51:Def K mg "read_at" Zgv ["rows","number","read"])
  (D52:Def K mg "read_scene" Zea ["text"])
  (D53:Def K mg "number_word" Zdv ["number"])
  (D54:Def K mg "fraction_word" ZcF ["fraction"])
  (D55:Def K mg "pair_word" Ze0 ["pair"])
  (D56:Def K mg "numbers_of" Zel ["corner"])
  (D57:Def K mg "corner_text" ZdC ["corner"])
  (a58:W.findIn K (.ref yag) "word"=some (some (.ref f58))) (d58:Df K "word" "Glass.word" ZdK f58) (q58:W.isFn K (.ref f58)=true)
  (a59:W.findIn K (.ref yab) "word"=some (some (.ref f59))) (d59:Df K "word" "Patterned.word" ZbY f59) (q59:W.isFn K (.ref f59)=true)
  (a60:W.findIn K (.ref yah) "word"=some (some (.ref f60))) (d60:Df K "word" "Plain.word" Zdx f60) (q60:W.isFn K (.ref f60)=true)
  (a61:W.findIn K (.ref yac) "word"=some (some (.ref f61))) (d61:Df K "word" "Shaded.word" Zc6 f61) (q61:W.isFn K (.ref f61)=true)
  (D62:Def K mg "pattern_word" ZcZ ["pattern"])
  (D63:Def K mg "head_words" Zep ["thing"])
  (D64:Def K mg "thing_text" Zei ["thing"])
  (D65:Def K mg "scene_text" Zed ["scene"])
  (D66:Def K mg "_law_right" Zem ["_law_cell"])
  (a67:W.nsIn K mainGlobals "law"=some (some (.ref f67))) (l67:K.lookup f67=some ⟨oc67,od67,.func (W.fnOf "law" "law" (Ze2 Zh6) (Zb8 Zh6) (Zad Zh6) .none kV67 dc67 pm67 an67 cd67 ct67),sl67⟩) (c67:W.codeIn K cd67 "law"=true) (k67:W.keepIn K (.ref f67)=true)
  (ya2:W.plainGet K yag Str.empty=true) (ya3:W.hasDictIn K yag=true) (ya4:W.plainOver K yag=true) (ya5:W.findIn K (.ref yag) "__setattr__"=some (some (.builtin "object.__setattr__")))
  (yaD:W.findIn K (.ref yag) "colour"=some none)
  (ya6:W.findIn K (.ref yag) "part"=some none)
  (yaw:W.findIn K (.ref yag) "pattern"=some none)
  (yaq:W.findIn K (.ref yag) "triangle"=some none)
  (ya7:W.findIn K (.ref yag) "word"=some (some (.ref f58)))
  (yco:W.makesIn K yag=true) (ycp:W.keepIn K (.ref yag)=true)
  (yai:W.plainGet K yab Str.empty=true) (yaj:W.hasDictIn K yab=true) (yak:W.plainOver K yab=true) (yal:W.findIn K (.ref yab) "__setattr__"=some (some (.builtin "object.__setattr__")))
  (yao:W.findIn K (.ref yab) "colour"=some none)
  (yar:W.findIn K (.ref yab) "part"=some none)
  (yan:W.findIn K (.ref yab) "pattern"=some none)
  (yam:W.findIn K (.ref yab) "triangle"=some none)
  (yas:W.findIn K (.ref yab) "word"=some (some (.ref f59)))
  (ybo:W.makesIn K yab=true) (ybp:W.keepIn K (.ref yab)=true)
  (ya8:W.plainGet K yah Str.empty=true) (ya9:W.hasDictIn K yah=true) (yba:W.plainOver K yah=true) (ybb:W.findIn K (.ref yah) "__setattr__"=some (some (.builtin "object.__setattr__")))
  (yaE:W.findIn K (.ref yah) "colour"=some none)
  (ybc:W.findIn K (.ref yah) "part"=some none)
  (yax:W.findIn K (.ref yah) "pattern"=some none)
  (yat:W.findIn K (.ref yah) "triangle"=some none)
  (ybd:W.findIn K (.ref yah) "word"=some (some (.ref f60)))
  (ycq:W.makesIn K yah=true) (ycr:W.keepIn K (.ref yah)=true)
  (yaF:W.plainGet K yac Str.empty=true) (yaG:W.hasDictIn K yac=true) (yaH:W.plainOver K yac=true) (yaI:W.findIn K (.ref yac) "__setattr__"=some (some (.builtin "object.__setattr__")))
  (yay:W.findIn K (.ref yac) "colour"=some none)
  (yaR:W.findIn K (.ref yac) "part"=some none)
  (yau:W.findIn K (.ref yac) "pattern"=some none)
  (yap:W.findIn K (.ref yac) "triangle"=some none)
  (yaS:W.findIn K (.ref yac) "word"=some (some (.ref f61)))
  (yb0:W.makesIn K yac=true) (yb1:W.keepIn K (.ref yac)=true)
  (ycs:W.specialIn K (.ref ybD) "__getattribute__"=some (some (.builtin "type.__getattribute__"))) (yct:W.readsIn K ybD (.type "type")=true) (ycu:W.findCls K (.ref ybD) (.type "type") "__init__"=some (.val (.ref f38))) (ycv:W.handedIn (.ref f38)=true)
  (z0:W.nsIn K mainGlobals "abs"=some none)
  (z1:W.nsIn K mainGlobals "all"=some none)
  (z2:W.nsIn K mainGlobals "bool"=some none)
  (z3:W.nsIn K mainGlobals "int"=some none)
  (z4:W.nsIn K mainGlobals "isinstance"=some none)
  (z5:W.nsIn K mainGlobals "len"=some none)
  (z6:W.nsIn K mainGlobals "list"=some none)
  (z7:W.nsIn K mainGlobals "max"=some none)
  (z8:W.nsIn K mainGlobals "min"=some none)
  (z9:W.nsIn K mainGlobals "range"=some none)
  (z10:W.nsIn K mainGlobals "reversed"=some none)
  (z11:W.nsIn K mainGlobals "set"=some none)
  (z12:W.nsIn K mainGlobals "str"=some none)
  (z13:W.nsIn K mainGlobals "tuple"=some none)
  (gc0:W.nsIn K mainGlobals "FIGURES"=some (some (.str "0123456789" tk0)))
  (gc1:W.nsIn K mainGlobals "MOST_CELLS"=some (some (.int 64 tk1)))
  (gc2:W.nsIn K mainGlobals "MOST_FIGURES"=some (some (.int 30 tk2)))
  (gc3:W.nsIn K mainGlobals "MOST_SPOTS"=some (some (.int 16 tk3)))
  (gc4:W.nsIn K mainGlobals "MOST_VALUES"=some (some (.int 3 tk4)))
  (gta0:W.nsIn K mainGlobals "COUNTS"=some (some (.ref GA0))) (gtl0:K.lookup GA0=some ⟨.type "tuple",godt0,.seq #[.int 1 gtk0_0,.int 2 gtk0_1,.int 4 gtk0_2,.int 8 gtk0_3,.int 16 gtk0_4] gnn0,gsl0⟩)
  (cl0:NI K "NoRow" C0)
  (cl1:NI K "YardError" C1)
  (xa0:W.nsIn K mainGlobals "BadFloor"=some (some (.ref X0))) (xb0:W.excIn K X0 Zfk "ValueError.__new__"=true)
  (xa1:W.nsIn K mainGlobals "BadPattern"=some (some (.ref X1))) (xb1:W.excIn K X1 Zfk "ValueError.__new__"=true)
  (xa2:W.nsIn K mainGlobals "BadThing"=some (some (.ref X2))) (xb2:W.excIn K X2 Zfk "ValueError.__new__"=true)
  (xa3:W.nsIn K mainGlobals "BadTriangle"=some (some (.ref X3))) (xb3:W.excIn K X3 Zfk "ValueError.__new__"=true)
  (xa4:W.nsIn K mainGlobals "NoRow"=some (some (.ref X4))) (xf4:W.findIn K (.ref X4) "__init__"=some (some (.ref fx4))) (xd4:Df K "__init__" "NoRow.__init__" Zb2 fx4) (xe4:ZhO K X4 fx4=true) (xk4:W.keepIn K (.ref X4)=true) (xr4:W.mroIn K X4 (.type "BaseException")=some true) (xt4:W.typeIn K (.ref X4)=some (.type "type")) (xo4:W.mroIn K X4 (.type "object")=some true) (xv4:((W.clsIn K X4).any λcd=>Zo8 cd.mro)=true) (xh4:W.hasDictIn K X4=true) (xs4:W.findIn K (.ref X4) "__setattr__"=some (some (.builtin "object.__setattr__"))) (xn4:W.findIn K (.ref X4) "at"=some none)
  (xm0_1:W.exmOne K (.ref X0) (.ref C1)=some true)
  (xm1_1:W.exmOne K (.ref X1) (.ref C1)=some true)
  (xm2_1:W.exmOne K (.ref X2) (.ref C1)=some true)
  (xm3_1:W.exmOne K (.ref X3) (.ref C1)=some true)
  (xm4_1:W.exmOne K (.ref X4) (.ref C1)=some true)
  (kg0:W.findIn K (.ref X0) "__getattribute__"=some (some (.builtin "BaseException.__getattribute__"))) (kn0:W.findIn K (.ref X0) "__getattr__"=some none) (kb0:W.mroIn K X0 (.type "BaseException")=some true) (kd0:W.hasDictIn K X0=true) (kf0:W.findIn K (.ref X0) "__class__"=some (some 008)) (ks0:W.specialIn K 008 "__get__"=some (some (.builtin "getset_descriptor.__get__"))) (ku0:W.takesIn K 008=some true) (km0:W.mroIn K X0 (.type "object")=some true)
  (kg1:W.findIn K (.ref X1) "__getattribute__"=some (some (.builtin "BaseException.__getattribute__"))) (kn1:W.findIn K (.ref X1) "__getattr__"=some none) (kb1:W.mroIn K X1 (.type "BaseException")=some true) (kd1:W.hasDictIn K X1=true) (kf1:W.findIn K (.ref X1) "__class__"=some (some 008)) (ks1:W.specialIn K 008 "__get__"=some (some (.builtin "getset_descriptor.__get__"))) (ku1:W.takesIn K 008=some true) (km1:W.mroIn K X1 (.type "object")=some true)
  (kg2:W.findIn K (.ref X2) "__getattribute__"=some (some (.builtin "BaseException.__getattribute__"))) (kn2:W.findIn K (.ref X2) "__getattr__"=some none) (kb2:W.mroIn K X2 (.type "BaseException")=some true) (kd2:W.hasDictIn K X2=true) (kf2:W.findIn K (.ref X2) "__class__"=some (some 008)) (ks2:W.specialIn K 008 "__get__"=some (some (.builtin "getset_descriptor.__get__"))) (ku2:W.takesIn K 008=some true) (km2:W.mroIn K X2 (.type "object")=some true)
  (kg3:W.findIn K (.ref X3) "__getattribute__"=some (some (.builtin "BaseException.__getattribute__"))) (kn3:W.findIn K (.ref X3) "__getattr__"=some none) (kb3:W.mroIn K X3 (.type "BaseException")=some true) (kd3:W.hasDictIn K X3=true) (kf3:W.findIn K (.ref X3) "__class__"=some (some 008)) (ks3:W.specialIn K 008 "__get__"=some (some (.builtin "getset_descriptor.__get__"))) (ku3:W.takesIn K 008=some true) (km3:W.mroIn K X3 (.type "object")=some true)
  (kg4:W.findIn K (.ref X4) "__getattribute__"=some (some (.builtin "BaseException.__getattribute__"))) (kn4:W.findIn K (.ref X4) "__getattr__"=some none) (kb4:W.mroIn K X4 (.type "BaseException")=some true) (kd4:W.hasDictIn K X4=true) (kf4:W.findIn K (.ref X4) "__class__"=some (some 008)) (ks4:W.specialIn K 008 "__get__"=some (some (.builtin "getset_descriptor.__get__"))) (ku4:W.takesIn K 008=some true) (km4:W.mroIn K X4 (.type "object")=some true)
  (kt0_0:W.kitOne K (.ref X0) (.ref C0)=some false)
  (kt1_0:W.kitOne K (.ref X1) (.ref C0)=some false)
  (kt2_0:W.kitOne K (.ref X2) (.ref C0)=some false)
  (kt3_0:W.kitOne K (.ref X3) (.ref C0)=some false)
  (kt4_0:W.kitOne K (.ref X4) (.ref C0)=some true)
  : ∃fd:FuncData,(∀(s:Shared) (v:Value),BindsTo s fd ⟨[v],[]⟩ [("_law_script",v)])/\∀base:Heap,K.In base->base.Ns mainGlobals mg->FnOk l.prog w K mg base (CXR l.prog w) 14 fa fd ["_law_script"] (ZqE K):=by
 have e:=hfa.symm.trans (Vcy X G a67);cases e;have T:∀base,Txt l.prog w base K mg:=λ_=>⟨Vcz X G z0,Vcz X G z1,Vcz X G z2,Vcz X G z3,Vcz X G z4,Vcz X G z5,Vcz X G z6,Vcz X G z7,Vcz X G z8,Vcz X G z9,Vcz X G z10,Vcz X G z11,Vcz X G z12,Vcz X G z13,⟨_,Vcy X G gc0⟩,⟨_,Vcy X G gc1⟩,⟨_,Vcy X G gc2⟩,⟨_,Vcy X G gc3⟩,⟨_,Vcy X G gc4⟩,⟨_,_,_,_,Vcy X G gta0,gtl0,rfl,rfl,show (5:Nat)<=sizeLine by decide,(.cons ⟨_,rfl⟩ (.cons ⟨_,rfl⟩ (.cons ⟨_,rfl⟩ (.cons ⟨_,rfl⟩ (.cons ⟨_,rfl⟩ .nil)))))⟩,⟨_,Vcy X G cl0⟩,⟨_,Vcy X G cl1⟩,⟨_,Vcy X G xa0,xb0⟩,⟨_,Vcy X G xa1,xb1⟩,⟨_,Vcy X G xa2,xb2⟩,⟨_,Vcy X G xa3,xb3⟩,⟨_,Vcy X G xa4,⟨Exists.elim xd4 λfd F=>⟨_,fd,xe4,F,F.binds (ps:=["self","at"]) (by walk_at "b2")⟩,xk4,⟨xr4,xt4⟩,⟨xo4,xv4,xh4,xs4⟩,xn4⟩⟩,λC hC=>by cases (Vcy X G cl1).symm.trans hC;exact (Vcx.mpr ⟨⟨_,Vcy X G xa0,xm0_1⟩,(Vcx.mpr ⟨⟨_,Vcy X G xa1,xm1_1⟩,(Vcx.mpr ⟨⟨_,Vcy X G xa2,xm2_1⟩,(Vcx.mpr ⟨⟨_,Vcy X G xa3,xm3_1⟩,(Vcx.mpr ⟨⟨_,Vcy X G xa4,xm4_1⟩,(λ_ h=>aB h VbT)⟩)⟩)⟩)⟩)⟩),⟨(Vcx.mpr ⟨⟨_,_,Vcy X G xa0,Vcy X G cl0,⟨kg0,kn0,kb0,kd0,kf0,ks0,ku0,km0⟩,kt0_0⟩,(Vcx.mpr ⟨⟨_,_,Vcy X G xa1,Vcy X G cl0,⟨kg1,kn1,kb1,kd1,kf1,ks1,ku1,km1⟩,kt1_0⟩,(Vcx.mpr ⟨⟨_,_,Vcy X G xa2,Vcy X G cl0,⟨kg2,kn2,kb2,kd2,kf2,ks2,ku2,km2⟩,kt2_0⟩,(Vcx.mpr ⟨⟨_,_,Vcy X G xa3,Vcy X G cl0,⟨kg3,kn3,kb3,kd3,kf3,ks3,ku3,km3⟩,kt3_0⟩,(Vcx.mpr ⟨⟨_,_,Vcy X G xa4,Vcy X G cl0,⟨kg4,kn4,kb4,kd4,kf4,ks4,ku4,km4⟩,kt4_0⟩,(λ_ h=>aB h VbT)⟩)⟩)⟩)⟩)⟩),(λ_ h=>aB h VbT)⟩,(Vcx.mpr ⟨⟨_,Vcy X G xa4,⟨kg4,kn4,kb4,kd4,kf4,ks4,ku4,km4⟩,xn4⟩,(λ_ h=>aB h VbT)⟩),(.cons (λC hC=>by cases (Vcy X G yaP).symm.trans hC;exact ⟨⟨ya8,ya9,yba,ybb⟩,yaE⟩) (.cons (λC hC=>by cases (Vcy X G yav).symm.trans hC;exact ⟨⟨yaF,yaG,yaH,yaI⟩,yay⟩) (.cons (λC hC=>by cases (Vcy X G yad).symm.trans hC;exact ⟨⟨yai,yaj,yak,yal⟩,yao⟩) (.cons (λC hC=>by cases (Vcy X G yaO).symm.trans hC;exact ⟨⟨ya2,ya3,ya4,ya5⟩,yaD⟩) .nil)))),(.cons (λC hC=>by cases (Vcy X G yaP).symm.trans hC;exact ⟨⟨ya8,ya9,yba,ybb⟩,ybc⟩) (.cons (λC hC=>by cases (Vcy X G yav).symm.trans hC;exact ⟨⟨yaF,yaG,yaH,yaI⟩,yaR⟩) (.cons (λC hC=>by cases (Vcy X G yad).symm.trans hC;exact ⟨⟨yai,yaj,yak,yal⟩,yar⟩) (.cons (λC hC=>by cases (Vcy X G yaO).symm.trans hC;exact ⟨⟨ya2,ya3,ya4,ya5⟩,ya6⟩) .nil)))),(.cons (λC hC=>by cases (Vcy X G yaP).symm.trans hC;exact ⟨⟨ya8,ya9,yba,ybb⟩,yax⟩) (.cons (λC hC=>by cases (Vcy X G yav).symm.trans hC;exact ⟨⟨yaF,yaG,yaH,yaI⟩,yau⟩) (.cons (λC hC=>by cases (Vcy X G yad).symm.trans hC;exact ⟨⟨yai,yaj,yak,yal⟩,yan⟩) (.cons (λC hC=>by cases (Vcy X G yaO).symm.trans hC;exact ⟨⟨ya2,ya3,ya4,ya5⟩,yaw⟩) .nil)))),(.cons (λC hC=>by cases (Vcy X G yaP).symm.trans hC;exact ⟨⟨ya8,ya9,yba,ybb⟩,yat⟩) (.cons (λC hC=>by cases (Vcy X G yav).symm.trans hC;exact ⟨⟨yaF,yaG,yaH,yaI⟩,yap⟩) (.cons (λC hC=>by cases (Vcy X G yad).symm.trans hC;exact ⟨⟨yai,yaj,yak,yal⟩,yam⟩) (.cons (λC hC=>by cases (Vcy X G yaO).symm.trans hC;exact ⟨⟨ya2,ya3,ya4,ya5⟩,yaq⟩) .nil))))⟩;obtain ⟨_,F38⟩:=d38;have B38:=F38.binds (ps:=["self","triangle"]) (by walk_at "b2");obtain ⟨_,F41⟩:=d41;have B41:=F41.binds (ps:=["self","triangle","colour","part"]) (by walk_at "b4");obtain ⟨_,F45⟩:=d45;have B45:=F45.binds (ps:=["self","triangle","pattern"]) (by walk_at "b3");obtain ⟨_,F46⟩:=d46;have B46:=F46.binds (ps:=["self","triangle","colour"]) (by walk_at "b3");obtain ⟨_,F47⟩:=d47;have B47:=F47.binds (ps:=["self","triangle"]) (by walk_at "b2");obtain ⟨_,F58⟩:=d58;have B58:=F58.binds (ps:=["self"]) (by walk_at "b1");obtain ⟨_,F59⟩:=d59;have B59:=F59.binds (ps:=["self"]) (by walk_at "b1");obtain ⟨_,F60⟩:=d60;have B60:=F60.binds (ps:=["self"]) (by walk_at "b1");obtain ⟨_,F61⟩:=d61;have B61:=F61.binds (ps:=["self"]) (by walk_at "b1");have F67:=Zf5 (st:=Zh6) l67 c67 k67;have D67:=dmk F67 (F67.binds (ps:=["_law_script"]) (by walk_at "b1")) (Vcy X G a67);refine ⟨W.fnOf "law" "law" (Ze2 Zh6) (Zb8 Zh6) (Zad Zh6) .none kV67 dc67 pm67 an67 cd67 ct67,λs v=>.of_eq rfl,λbase _ _=>?_⟩;have T:=T base;have yca:=Zhh T D1;have ybQ:=ZiM T D2;have ycb:=ZgV T D3 ybQ;have ycc:=Zgp T D4;have yaz:=Zhp T D5;have yaJ:=Zf9 T D6 ycc yaz;have yb2:=Zgb T D7 yaz;have ycd:=ZgT T D8 yaz;have ybL:=Zfu T D9 yaJ;have yb3:=Zgd T D10 yaJ ycd ybL;have ycw:=ZhB T D11 yaz yaJ yb2 yb3;have yc9:=ZkI T D12 ycw;have yc1:=ZjO T D13 ybQ;have ybR:=Zin T D14;have ybt:=ZkG T D15;have ybS:=Zic T D16 ybt;have ycx:=ZhA T D17 ybS;have ybv:=Zg6 T D18;have yaK:=ZeF T D19 ybv;have ycy:=Zht T D20;have yaA:=Zhx T D21 ycy;have ybW:=ZfQ T D22 yaK yaA;have ybT:=Zih T D23 ycx ybW;have ybE:=ZeX T D24;have yaB:=Zhu T D25 ybt ybE;have yaL:=Zgc T D26 yaA yaB;have ybF:=Zhv T D27 yaK yaL;have ydd:=Zmd T D28 ybS;have ycz:=Zhy T D29 ydd;have yc2:=Zi6 T D30 yaA;have ybU:=ZiG T D31 ybv ycz yc2;have yc3:=ZjW T D32;have ycA:=Zhw T D33 yaA;have ybG:=Ze4 T D34;have ycR:=ZiB T D35 ybt;have yc4:=Zje T D36 ybt ycR;have ybX:=ZfW T D37 yc4;have ybM:=Zp9 T F38 ybG ybX;have CS_Thing:CalS l.prog w K mg base 5 "Thing" "__init__" 1 objs Zbs:=⟨_,_,_,_,Vcy X G ycn,⟨ycs,⟨_,yct,ycu⟩,ycv,F38.kp⟩,ybM,B38⟩;have ybw:=ZgU T D39 yaB;have ycS:=ZiR T D40 yaB;have ybN:=Zo0 T F41 CS_Thing ybw ycS;have CI_Glass:CalI l.prog w K mg base 7 "Glass" 3 objs ZfY:=⟨_,_,_,_,Vcy X G yaO,⟨yco,a41,q41,ycp⟩,ybN,B41,rfl⟩;have yb4:=Zga T D42 yaB;have ybx:=ZgS T D43;have ydg:=ZmU T D44;have ybq:=Zj5 T F45 CS_Thing yb4 ybx ydg;have CI_Patterned:CalI l.prog w K mg base 7 "Patterned" 2 objs Zcb:=⟨_,_,_,_,Vcy X G yad,⟨ybo,a45,q45,ybp⟩,ybq,B45,rfl⟩;have ybO:=Zpq T F46 CS_Thing ybw;have CI_Plain:CalI l.prog w K mg base 7 "Plain" 2 objs ZfF:=⟨_,_,_,_,Vcy X G yaP,⟨ycq,a46,q46,ycr⟩,ybO,B46,rfl⟩;have ybH:=ZoK T F47 CS_Thing ybx;have CI_Shaded:CalI l.prog w K mg base 7 "Shaded" 1 objs ZdQ:=⟨_,_,_,_,Vcy X G yav,⟨yb0,a47,q47,yb1⟩,ybH,B47,rfl⟩;have yce:=Zgz T D48 yaL;have yda:=Zki T D49 yaL CI_Glass CI_Patterned CI_Plain CI_Shaded yce;have ybV:=ZiE T D50 ybR yc3 ycA yda;have yde:=ZlS T D51 ybT ybF ybU ybV;have ycT:=ZiA T D52 ybR ybT ybF ybU ybV yde;have yaC:=Zhk T D53;have yaM:=Zgf T D54 yaC;have yc5:=Zi7 T D55 yaC;have ycU:=ZiD T D56;have ycB:=Zho T D57 yaC ycU;have ycC:=Zhr T F58;have ybP:=Zfs T F59;have ycD:=Zhq T F60;have ycf:=Zg3 T F61;have CM_word:ZfA l.prog w K mg base 1 0 "word" Zip:=(.cons (λC hC=>by cases (Vcy X G yaP).symm.trans hC;exact ⟨⟨ya8,ya9,yba,ybb⟩,_,_,_,⟨ybd,q60,F60.kp⟩,ycD.mono 00,B60,rfl⟩) (.cons (λC hC=>by cases (Vcy X G yav).symm.trans hC;exact ⟨⟨yaF,yaG,yaH,yaI⟩,_,_,_,⟨yaS,q61,F61.kp⟩,ycf.mono 00,B61,rfl⟩) (.cons (λC hC=>by cases (Vcy X G yad).symm.trans hC;exact ⟨⟨yai,yaj,yak,yal⟩,_,_,_,⟨yas,q59,F59.kp⟩,ybP.mono 00,B59,rfl⟩) (.cons (λC hC=>by cases (Vcy X G yaO).symm.trans hC;exact ⟨⟨ya2,ya3,ya4,ya5⟩,_,_,_,⟨ya7,q58,F58.kp⟩,ycC.mono 00,B58,rfl⟩) .nil))));have ycg:=ZgE T D62 yaM;have ycV:=Zil T D63 yaM CM_word ycg;have ycW:=Zib T D64 ycB ycV;have ycX:=Zh5 T D65 yaC yaM yc5 ycW;have ycY:=Zis T D66 ycb yc9 yc1 ycT ycX;exact (ZuF T F67 yca ycY).imp (Zvs ZpC)
def walk{l:W.OpenLaw}{q:Program}{loose:List Str}{XP:001->Heap->Prop}{YP:World->Heap->Prop}{d:DefRec}{K:Params->W.Frag}(hn:l.most=some 63)(hdf:d.params.defaults=[])
  (hY:∀(w:World) (h:Heap),YP w h->(K w.params).In h)
  (F:∀(w:World) (mg:001) (fa:Addr) (h:Heap),(K w.params).In h->h.Ns mainGlobals mg->mg d.name=some (.ref fa) ->
   ∃fd:FuncData,(∀(s:Shared) (u:Value),BindsTo s fd ⟨[u],[]⟩ [("_law_script",u)])/\∀base:Heap,(K w.params).In base->base.Ns mainGlobals mg->FnOk l.prog w (K w.params) mg base (CXR l.prog w) 14 fa fd ["_law_script"] (ZqE (K w.params))) :
  W.WalkO q loose XP YP l.row.toRowW d [] (λf vs=>PySem.call f vs) :=
 L2.ZsN (n:=63) (k:=14) (x:="_law_script") (CX:=λw=>CXR l.prog w) (sp:=λw=>ZqE (K w.params)) hn 00 hdf ⟨rfl,by decide,by decide⟩ hY F (λ_ _ a e c _ b=>⟨a,e,rfl,b,c,λ_=>rfl⟩) λ_ _ _ _ _ z=>Zvt z
end My
set_option hygiene false in
local macro_rules | `(tactic| walk_at "df")=>`(tactic| (refine' ⟨_,L2.Zf5 ?l ?c ?k⟩;(case l=>k_is);(case c=>k_is);(case k=>k_is)))
set_option hygiene false in
local macro_rules | `(tactic| walk_at "dd1")=>`(tactic| (refine' ⟨_,_,L2.Zf5 ?l ?c ?k,L2.Fun.binds (L2.Zf5 ?l ?c ?k) (λ_ _ _ _ _ _=>My.ln1 λ_=>rfl),Vcy KX G ?a⟩;(case a=>k_is);(case l=>k_is);(case c=>k_is);(case k=>k_is)))
set_option hygiene false in
local macro_rules | `(tactic| walk_at "dd2")=>`(tactic| (refine' ⟨_,_,L2.Zf5 ?l ?c ?k,L2.Fun.binds (L2.Zf5 ?l ?c ?k) (λ_ _ _ _ _ _=>My.ln2 λ_ _=>rfl),Vcy KX G ?a⟩;(case a=>k_is);(case l=>k_is);(case c=>k_is);(case k=>k_is)))
set_option hygiene false in
local macro_rules | `(tactic| walk_at "dd3")=>`(tactic| (refine' ⟨_,_,L2.Zf5 ?l ?c ?k,L2.Fun.binds (L2.Zf5 ?l ?c ?k) (λ_ _ _ _ _ _=>My.ln3 λ_ _ _=>rfl),W.mg_of KX G ?a⟩;(case a=>k_is);(case l=>k_is);(case c=>k_is);(case k=>k_is)))
local macro_rules | `(tactic| walk_at "ni")=>`(tactic| (delta My.NI;k_is))
open PySem PySem.W PyProof.Rows
set_option maxRecDepth 100000 in
set_option maxHeartbeats 0 in
theorem PySem.Challenge.cw_sampleyard_k85_whole_texts_by_signs_holds : PySem.Challenge.rw_sampleyard_k85_whole_texts_by_signs.Holds := by
 w_on;refine holds_law Hd.said λsaid=>?_
 refine holds_open (r:=PySem.Challenge.rw_sampleyard_k85_whole_texts_by_signs.row) (q:=Hd.view) (loose:=[]) (Xt:=(λs=>xlAt Hd.view [] s&&recOk (RowW.records PySem.Challenge.rw_sampleyard_k85_whole_texts_by_signs.row.toRowW) s)) (XP:=XL Hd.view []) (Yf:=Hook.obs (kHook Hd.heap Hd.addrs Hd.Zex)) (Ya:=Hook.val (kHook Hd.heap Hd.addrs Hd.Zex)) (YP:=Hook.says (kHook Hd.heap Hd.addrs Hd.Zex)) (N:=Hd.most) Hd.left (Hook.of (kHook Hd.heap Hd.addrs Hd.Zex)) (Hook.keeps (kHook Hd.heap Hd.addrs Hd.Zex)) (λs e=>xl_of s (Bool.and_eq_true_iff.mp e).1) XL.keeps (by rfl) (by rfl) (by rfl) (λs e=>recFacts_of (Bool.and_eq_true_iff.mp e).2) (by rfl) (by assumption) (by decide +kernel) ⟨rfl,rfl,rfl,rfl,rfl,by decide +kernel⟩ ?hw ?hc
 case hw=>w_witness2
 k_fill
 refine My.walk (l:=PySem.Challenge.rw_sampleyard_k85_whole_texts_by_signs) rfl rfl (λw h Y=>W.kIn_of Y) ?F
 case F=>
  intro w mg fa h KX G hmg;refine' My.ZvT KX G hmg ?yaO ?yad ?yaP ?yav ?ycn ?D1 ?D2 ?D3 ?D4 ?D5 ?D6 ?D7 ?D8 ?D9 ?D10 ?D11 ?D12 ?D13 ?D14 ?D15 ?D16 ?D17 ?D18 ?D19 ?D20 ?D21 ?D22 ?D23 ?D24 ?D25 ?D26 ?D27 ?D28 ?D29 ?D30 ?D31 ?D32 ?D33 ?D34 ?D35 ?D36 ?D37 ?a38 ?d38 ?q38 ?D39 ?D40 ?a41 ?d41 ?q41 ?D42 ?D43 ?D44 ?a45 ?d45 ?q45 ?a46 ?d46 ?q46 ?a47 ?d47 ?q47 ?D48 ?D49 ?D50 ?D51 ?D52 ?D53 ?D54 ?D55 ?D56 ?D57 ?a58 ?d58 ?q58 ?a59 ?d59 ?q59 ?a60 ?d60 ?q60 ?a61 ?d61 ?q61 ?D62 ?D63 ?D64 ?D65 ?D66 ?a67 ?l67 ?c67 ?k67 ?ya2 ?ya3 ?ya4 ?ya5 ?yaD ?ya6 ?yaw ?yaq ?ya7 ?yco ?ycp ?yai ?yaj ?yak ?yal ?yao ?yar ?yan ?yam ?yas ?ybo ?ybp ?ya8 ?ya9 ?yba ?ybb ?yaE ?ybc ?yax ?yat ?ybd ?ycq ?ycr ?yaF ?yaG ?yaH ?yaI ?yay ?yaR ?yau ?yap ?yaS ?yb0 ?yb1 ?ycs ?yct ?ycu ?ycv ?z0 ?z1 ?z2 ?z3 ?z4 ?z5 ?z6 ?z7 ?z8 ?z9 ?z10 ?z11 ?z12 ?z13 ?gc0 ?gc1 ?gc2 ?gc3 ?gc4 ?gta0 ?gtl0 ?cl0 ?cl1 ?xa0 ?xb0 ?xa1 ?xb1 ?xa2 ?xb2 ?xa3 ?xb3 ?xa4 ?xf4 ?xd4 ?xe4 ?xk4 ?xr4 ?xt4 ?xo4 ?xv4 ?xh4 ?xs4 ?xn4 ?xm0_1 ?xm1_1 ?xm2_1 ?xm3_1 ?xm4_1 ?kg0 ?kn0 ?kb0 ?kd0 ?kf0 ?ks0 ?ku0 ?km0 ?kg1 ?kn1 ?kb1 ?kd1 ?kf1 ?ks1 ?ku1 ?km1 ?kg2 ?kn2 ?kb2 ?kd2 ?kf2 ?ks2 ?ku2 ?km2 ?kg3 ?kn3 ?kb3 ?kd3 ?kf3 ?ks3 ?ku3 ?km3 ?kg4 ?kn4 ?kb4 ?kd4 ?kf4 ?ks4 ?ku4 ?km4 ?kt0_0 ?kt1_0 ?kt2_0 ?kt3_0 ?kt4_0
  (case yaO=>walk_at "ni")
  (case yad=>walk_at "ni")
  (case yaP=>walk_at "ni")
  (case yav=>walk_at "ni")
  (case ycn=>walk_at "ni")
  (case D1=>walk_at "dd2")
  (case D2=>walk_at "dd2")
  (case D3=>walk_at "dd2")
  (case D4=>walk_at "dd2")
  (case D5=>walk_at "dd1")
  (case D6=>walk_at "dd1")
  (case D7=>walk_at "dd1")
  (case D8=>walk_at "dd1")
  (case D9=>walk_at "dd1")
  (case D10=>walk_at "dd1")
  (case D11=>walk_at "dd2")
  (case D12=>walk_at "dd1")
  (case D13=>walk_at "dd1")
  (case D14=>walk_at "dd1")
  (case D15=>walk_at "dd1")
  (case D16=>walk_at "dd3")
  (case D17=>walk_at "dd2")
  (case D18=>walk_at "dd2")
  (case D19=>walk_at "dd3")
  (case D20=>walk_at "dd1")
  (case D21=>walk_at "dd1")
  (case D22=>walk_at "dd3")
  (case D23=>walk_at "dd1")
  (case D24=>walk_at "dd1")
  (case D25=>walk_at "dd1")
  (case D26=>walk_at "dd1")
  (case D27=>walk_at "dd1")
  (case D28=>walk_at "dd1")
  (case D29=>walk_at "dd1")
  (case D30=>walk_at "dd1")
  (case D31=>walk_at "dd1")
  (case D32=>walk_at "dd1")
  (case D33=>walk_at "dd1")
  (case D34=>walk_at "dd1")
  (case D35=>walk_at "dd1")
  (case D36=>walk_at "dd1")
  (case D37=>walk_at "dd1")
  case a38=>k_is
  (case d38=>walk_at "df")
  case q38=>k_is
  (case D39=>walk_at "dd1")
  (case D40=>walk_at "dd1")
  case a41=>k_is
  (case d41=>walk_at "df")
  case q41=>k_is
  (case D42=>walk_at "dd1")
  (case D43=>walk_at "dd2")
  (case D44=>walk_at "dd1")
  case a45=>k_is
  (case d45=>walk_at "df")
  case q45 | a46=>k_is
  (case d46=>walk_at "df")
  case q46 | a47=>k_is
  (case d47=>walk_at "df")
  case q47=>k_is
  (case D48=>walk_at "dd1")
  (case D49=>walk_at "dd2")
  (case D50=>walk_at "dd1")
  (case D51=>walk_at "dd3")
  (case D52=>walk_at "dd1")
  (case D53=>walk_at "dd1")
  (case D54=>walk_at "dd1")
  (case D55=>walk_at "dd1")
  (case D56=>walk_at "dd1")
  (case D57=>walk_at "dd1")
  case a58=>k_is
  (case d58=>walk_at "df")
  case q58 | a59=>k_is
  (case d59=>walk_at "df")
  case q59 | a60=>k_is
  (case d60=>walk_at "df")
  case q60 | a61=>k_is
  (case d61=>walk_at "df")
  case q61=>k_is
  (case D62=>walk_at "dd1")
  (case D63=>walk_at "dd1")
  (case D64=>walk_at "dd1")
  (case D65=>walk_at "dd1")
  (case D66=>walk_at "dd1")
  case a67 | l67 | c67 | k67 | ya2 | ya3 | ya4 | ya5 | yaD | ya6 | yaw | yaq | ya7 | yco | ycp | yai | yaj | yak | yal | yao | yar | yan | yam | yas | ybo=>k_is
  case ybp | ya8 | ya9 | yba | ybb | yaE | ybc | yax | yat | ybd | ycq | ycr | yaF | yaG | yaH | yaI | yay | yaR | yau | yap | yaS | yb0 | yb1 | ycs | yct=>k_is
  case ycu=>k_is
  case ycv=>rfl
  case z0 | z1 | z2 | z3 | z4 | z5 | z6 | z7 | z8 | z9 | z10 | z11 | z12 | z13 | gc0 | gc1 | gc2 | gc3 | gc4 | gta0 | gtl0=>k_is
  (case cl0=>walk_at "ni")
  (case cl1=>walk_at "ni")
  case xa0=>k_is
  case xb0=>k_exc
  case xa1=>k_is
  case xb1=>k_exc
  case xa2=>k_is
  case xb2=>k_exc
  case xa3=>k_is
  case xb3=>k_exc
  case xa4 | xf4=>k_is
  (case xd4=>walk_at "df")
  case xe4=>kernel_rfl
  case xk4 | xr4 | xt4 | xo4=>k_is
  case xv4=>kernel_rfl
  case xh4 | xs4 | xn4=>k_is
  case xm0_1 | xm1_1 | xm2_1 | xm3_1 | xm4_1=>kts_exm
  case kg0 | kn0 | kb0 | kd0 | kf0 | ks0 | ku0 | km0 | kg1 | kn1 | kb1 | kd1 | kf1 | ks1 | ku1 | km1 | kg2 | kn2 | kb2 | kd2 | kf2 | ks2 | ku2 | km2 | kg3=>k_is
  case kn3 | kb3 | kd3 | kf3 | ks3 | ku3 | km3 | kg4 | kn4 | kb4 | kd4 | kf4 | ks4 | ku4 | km4=>k_is
  case kt0_0 | kt1_0 | kt2_0 | kt3_0 | kt4_0=>kit_is
