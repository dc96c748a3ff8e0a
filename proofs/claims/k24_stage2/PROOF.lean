import PyProof.Rows.All
import Wide.All
import OpenK.AllK
import Wide.FinOn
import Lean
import KE.KLam
import KE.KNestM
import PyProof.EqAt
import PyProof.EqKinds
import PyProof.TupleCall
import PyProof.P3Eq
import PyProof.NeData
import PySem.Challenge.RW_sampleyard_k24_filled_and_shared
set_option Elab.async false
set_option linter.all false
set_option maxRecDepth 100000
namespace L2
open PySem
noncomputable def defArgs (s : Stmt) : Arguments := match s with
  | .FunctionDef _ a _ _ _ _ _ _ _ _ => a
  | _ => { posonlyargs := [], args := [], vararg := none, kwonlyargs := [], kw_defaults := [], kwarg := none, defaults := [] }
noncomputable def defBody (s : Stmt) : List Stmt := match s with
  | .FunctionDef _ _ b _ _ _ _ _ _ _ => b
  | _ => []
noncomputable def defScope (s : Stmt) : Scope := match s with
  | .FunctionDef _ _ _ _ _ _ sc _ _ _ => sc
  | _ => { kind := .function, names := [], isGenerator := false, isCoroutine := false }
end L2
namespace Hd
open PySem PySem.W L2
noncomputable abbrev top (i : Nat) : Stmt := PySem.Challenge.pw_sampleyard_k24_filled_and_shared.main.body.getD i (.Pass ⟨0, 0, 0, 0⟩)
noncomputable def view : Program := { PySem.Challenge.pw_sampleyard_k24_filled_and_shared with main := { PySem.Challenge.pw_sampleyard_k24_filled_and_shared.main with body := [top 1, top 2, top 4, top 6, top 7, top 8, top 9, top 11, top 12, top 13, top 14, top 15, top 16, top 18, top 19, top 20, top 21, top 22, top 23, top 24, top 25, top 26] } }
noncomputable abbrev S (x : String) : Str := Str.ofString x
noncomputable abbrev st (x : String) (t : Nat) : Value := .str (Str.ofString x) t
noncomputable abbrev en (P : Params) (x : String) (t : Nat) (v : Value) : DictEntry := ⟨PyData.keyHash P (Str.ofString x), .str (Str.ofString x) t, v⟩
noncomputable abbrev fd (s : Stmt) (n q : String) (an : Option Addr) (d k c e m t : Value) : Data := .func { name := Str.ofString n, qualname := Str.ofString q, params := defArgs s, body := .stmts (defBody s), scope := defScope s, globals := mainGlobals, closure := [], defaults := d, kwdefaults := k, doc := e, pyModule := m, annotations := an, code := c, closureTuple := t, builtins := builtinsNs }
noncomputable abbrev T (xs : Array Value) : Obj := ⟨.type "tuple", none, .seq xs 0, #[]⟩
noncomputable abbrev F (s : Stmt) (n q : String) (an : Option Addr) (d k c e m t : Value) : Obj := ⟨.type "function", none, fd s n q an d k c e m t, #[]⟩
noncomputable abbrev D (es : List DictEntry) (n : Nat) : Obj := ⟨.type "dict", none, .dict (List.toArray es) n, #[]⟩
noncomputable abbrev C (n : String) (a : Nat) (q : String) (b c : Nat) (d e f g h : Int) (i : Value) (j : Bool) (k : Int) (l m o p r : Value) (s t : Int) (u : Nat) : Obj := ⟨.type "code", none, .fields #[st n a, st q b, st "/claim/cut.py" c, .int d 0, .int e 0, .int f 0, .int g 0, .int h 0, i, .bool j, .int k 0, l, m, o, p, r, .int s 0, .int t 0, st "/claim/cut.py" u], #[]⟩
noncomputable abbrev L (n : String) (b m : List Value) (a : Addr) (s : List Value) (sl : Array (Option Value)) : Obj := ⟨.type "type", none, .cls { name := Str.ofString n, bases := b, mro := m, ns := a, qualname := Str.ofString n, hasDict := true, slotNames := [], subclasses := s, abstract := false, collection := none, hasDel := false }, sl⟩
noncomputable def heap : Params → Frag := fun P =>
    (List.cons (Prod.mk (nat_lit 2) ⟨.none, none, (.dict (List.toArray []) 0), #[]⟩)
(List.cons (Prod.mk (nat_lit 3) (D [(en P "__name__" 165 (st "law_sampleyard_k24_filled_and_shared" 327)), (en P "__doc__" 166 .none), (en P "__package__" 167 .none), (en P "__loader__" 168 (.builtin "__main__.__loader__#opaque")), (en P "__spec__" 169 .none), (en P "__annotations__" 170 (.ref 6)), (en P "__builtins__" 171 (.ref 4)), (en P "__file__" 173 (st "/claim/cut.py" 172)), (en P "__cached__" 174 .none), (en P "YardError" 206 (.ref 24)), (en P "BadTriangle" 222 (.ref 37)), (en P "summed_products" 232 (.ref 46)), (en P "side" 245 (.ref 53)), (en P "edge_numbers" 253 (.ref 60)), (en P "check_before_eye" 261 (.ref 67)), (en P "had" 270 (.ref 74)), (en P "middle" 280 (.ref 81)), (en P "middles" 286 (.ref 86)), (en P "mask_of" 296 (.ref 93)), (en P "row_mask" 302 (.ref 98)), (en P "filled_mask" 313 (.ref 105)), (en P "shared_mask" 326 (.ref 112)), (en P "_law_cell_at" 336 (.ref 119)), (en P "_law_mixed" 345 (.ref 126)), (en P "_law_draws" 351 (.ref 131)), (en P "_law_corner" 357 (.ref 136)), (en P "_law_triangles" 363 (.ref 141)), (en P "_law_fan" 369 (.ref 146)), (en P "_law_in_box" 382 (.ref 153)), (en P "_law_refused" 390 (.ref 160)), (en P "law" 396 (.ref 165))] 31))
(List.cons (Prod.mk (nat_lit 15) (T #[(.type "ValueError")]))
(List.cons (Prod.mk (nat_lit 22) (T #[]))
(List.cons (Prod.mk (nat_lit 23) (D [(en P "__module__" 196 (st "sampleyard.errors" 187)), (en P "__firstlineno__" 200 (.int (2) 199)), (en P "__static_attributes__" 201 (.ref 22)), (en P "__weakref__" 203 (.ref 25)), (en P "__doc__" 204 .none)] 3))
(List.cons (Prod.mk (nat_lit 24) (L "YardError" [(.type "ValueError")] [(.ref 24), (.type "ValueError"), (.type "Exception"), (.type "BaseException"), (.type "object")] 23 [(.ref 37)] #[(some (.ref 15)), none, (some (st "YardError" 189)), (some (st "YardError" 197)), (some (.builtin "ValueError.__new__")), (some (.bool true))]))
(List.cons (Prod.mk (nat_lit 25) ⟨(.type "getset_descriptor"), none, (.fields #[(st "__weakref__" 202), (.ref 24), (.builtin "ExceptionGroup.__weakref__"), .none]), #[]⟩)
(List.cons (Prod.mk (nat_lit 28) (T #[(.ref 24)]))
(List.cons (Prod.mk (nat_lit 35) (T #[]))
(List.cons (Prod.mk (nat_lit 36) (D [(en P "__module__" 214 (st "sampleyard.errors" 187)), (en P "__firstlineno__" 218 (.int (4) 217)), (en P "__static_attributes__" 219 (.ref 35)), (en P "__doc__" 220 .none)] 2))
(List.cons (Prod.mk (nat_lit 37) (L "BadTriangle" [(.ref 24)] [(.ref 37), (.ref 24), (.type "ValueError"), (.type "Exception"), (.type "BaseException"), (.type "object")] 36 [] #[(some (.ref 28)), none, (some (st "BadTriangle" 207)), (some (st "BadTriangle" 215)), (some (.builtin "ValueError.__new__")), (some (.bool true))]))
(List.cons (Prod.mk (nat_lit 40) (T #[]))
(List.cons (Prod.mk (nat_lit 42) (T #[(st "three" 228), (st "other" 229)]))
(List.cons (Prod.mk (nat_lit 43) (T #[]))
(List.cons (Prod.mk (nat_lit 45) (C "summed_products" 225 "summed_products" 226 227 7 2 0 0 3 (.ref 40) true 181 (.ref 41) .none (.ref 42) (.ref 43) (.ref 44) 230 7 231))
(List.cons (Prod.mk (nat_lit 46) (F (top 4) "summed_products" "summed_products" none .none .none (.ref 45) .none (st "sampleyard.whole" 223) .none))
(List.cons (Prod.mk (nat_lit 47) (T #[]))
(List.cons (Prod.mk (nat_lit 49) (T #[(st "one" 238), (st "other" 239), (st "point" 240), (st "n" 241), (st "number" 242)]))
(List.cons (Prod.mk (nat_lit 50) (T #[]))
(List.cons (Prod.mk (nat_lit 52) (C "side" 235 "side" 236 237 10 3 0 0 3 (.ref 47) true 181 (.ref 48) .none (.ref 49) (.ref 50) (.ref 51) 243 10 244))
(List.cons (Prod.mk (nat_lit 53) (F (top 6) "side" "side" none .none .none (.ref 52) .none (st "sampleyard.edges" 233) .none))
(List.cons (Prod.mk (nat_lit 54) (T #[]))
(List.cons (Prod.mk (nat_lit 56) (T #[(st "one" 249), (st "other" 250)]))
(List.cons (Prod.mk (nat_lit 57) (T #[]))
(List.cons (Prod.mk (nat_lit 59) (C "edge_numbers" 246 "edge_numbers" 247 248 16 2 0 0 3 (.ref 54) true 181 (.ref 55) .none (.ref 56) (.ref 57) (.ref 58) 251 16 252))
(List.cons (Prod.mk (nat_lit 60) (F (top 7) "edge_numbers" "edge_numbers" none .none .none (.ref 59) .none (st "sampleyard.edges" 233) .none))
(List.cons (Prod.mk (nat_lit 61) (T #[]))
(List.cons (Prod.mk (nat_lit 63) (T #[(st "corners" 257), (st "corner" 258)]))
(List.cons (Prod.mk (nat_lit 64) (T #[]))
(List.cons (Prod.mk (nat_lit 66) (C "check_before_eye" 254 "check_before_eye" 255 256 18 1 0 0 3 (.ref 61) true 181 (.ref 62) .none (.ref 63) (.ref 64) (.ref 65) 259 18 260))
(List.cons (Prod.mk (nat_lit 67) (F (top 8) "check_before_eye" "check_before_eye" none .none .none (.ref 66) .none (st "sampleyard.edges" 233) .none))
(List.cons (Prod.mk (nat_lit 68) (T #[]))
(List.cons (Prod.mk (nat_lit 70) (T #[(st "triangle" 265), (st "point" 266), (st "turn" 267)]))
(List.cons (Prod.mk (nat_lit 71) (T #[]))
(List.cons (Prod.mk (nat_lit 73) (C "had" 262 "had" 263 264 22 2 0 0 3 (.ref 68) true 181 (.ref 69) .none (.ref 70) (.ref 71) (.ref 72) 268 22 269))
(List.cons (Prod.mk (nat_lit 74) (F (top 9) "had" "had" none .none .none (.ref 73) .none (st "sampleyard.edges" 233) .none))
(List.cons (Prod.mk (nat_lit 75) (T #[]))
(List.cons (Prod.mk (nat_lit 77) (T #[(st "column" 276), (st "row" 277)]))
(List.cons (Prod.mk (nat_lit 78) (T #[]))
(List.cons (Prod.mk (nat_lit 80) (C "middle" 273 "middle" 274 275 29 2 0 0 3 (.ref 75) true 181 (.ref 76) .none (.ref 77) (.ref 78) (.ref 79) 278 29 279))
(List.cons (Prod.mk (nat_lit 81) (F (top 11) "middle" "middle" none .none .none (.ref 80) .none (st "sampleyard.rows" 271) .none))
(List.cons (Prod.mk (nat_lit 82) (T #[]))
(List.cons (Prod.mk (nat_lit 85) (C "middles" 281 "middles" 282 283 31 2 0 0 3 (.ref 82) true 181 (.ref 83) .none .none .none (.ref 84) 284 31 285))
(List.cons (Prod.mk (nat_lit 86) (F (top 12) "middles" "middles" none .none .none (.ref 85) .none (st "sampleyard.rows" 271) .none))
(List.cons (Prod.mk (nat_lit 87) (T #[]))
(List.cons (Prod.mk (nat_lit 89) (T #[(st "truths" 290), (st "bits" 291), (st "column" 292), (st "truth" 293)]))
(List.cons (Prod.mk (nat_lit 90) (T #[]))
(List.cons (Prod.mk (nat_lit 92) (C "mask_of" 287 "mask_of" 288 289 33 1 0 0 3 (.ref 87) true 181 (.ref 88) .none (.ref 89) (.ref 90) (.ref 91) 294 33 295))
(List.cons (Prod.mk (nat_lit 93) (F (top 13) "mask_of" "mask_of" none .none .none (.ref 92) .none (st "sampleyard.rows" 271) .none))
(List.cons (Prod.mk (nat_lit 94) (T #[]))
(List.cons (Prod.mk (nat_lit 97) (C "row_mask" 297 "row_mask" 298 299 39 3 0 0 3 (.ref 94) true 181 (.ref 95) .none .none .none (.ref 96) 300 39 301))
(List.cons (Prod.mk (nat_lit 98) (F (top 14) "row_mask" "row_mask" none .none .none (.ref 97) .none (st "sampleyard.rows" 271) .none))
(List.cons (Prod.mk (nat_lit 99) (T #[]))
(List.cons (Prod.mk (nat_lit 101) (T #[(st "triangles" 306), (st "width" 307), (st "row" 308), (st "filled" 309), (st "triangle" 310)]))
(List.cons (Prod.mk (nat_lit 102) (T #[]))
(List.cons (Prod.mk (nat_lit 104) (C "filled_mask" 303 "filled_mask" 304 305 42 3 0 0 3 (.ref 99) true 181 (.ref 100) .none (.ref 101) (.ref 102) (.ref 103) 311 42 312))
(List.cons (Prod.mk (nat_lit 105) (F (top 15) "filled_mask" "filled_mask" none .none .none (.ref 104) .none (st "sampleyard.rows" 271) .none))
(List.cons (Prod.mk (nat_lit 106) (T #[]))
(List.cons (Prod.mk (nat_lit 108) (T #[(st "triangles" 317), (st "width" 318), (st "row" 319), (st "filled" 320), (st "shared" 321), (st "triangle" 322), (st "bits" 323)]))
(List.cons (Prod.mk (nat_lit 109) (T #[]))
(List.cons (Prod.mk (nat_lit 111) (C "shared_mask" 314 "shared_mask" 315 316 47 3 0 0 3 (.ref 106) true 181 (.ref 107) .none (.ref 108) (.ref 109) (.ref 110) 324 47 325))
(List.cons (Prod.mk (nat_lit 112) (F (top 16) "shared_mask" "shared_mask" none .none .none (.ref 111) .none (st "sampleyard.rows" 271) .none))
(List.cons (Prod.mk (nat_lit 113) (T #[]))
(List.cons (Prod.mk (nat_lit 115) (T #[(st "_law_script" 332), (st "_law_k" 333)]))
(List.cons (Prod.mk (nat_lit 116) (T #[]))
(List.cons (Prod.mk (nat_lit 118) (C "_law_cell_at" 329 "_law_cell_at" 330 331 56 2 0 0 3 (.ref 113) true 181 (.ref 114) .none (.ref 115) (.ref 116) (.ref 117) 334 56 335))
(List.cons (Prod.mk (nat_lit 119) (F (top 18) "_law_cell_at" "_law_cell_at" none .none .none (.ref 118) .none (st "law_sampleyard_k24_filled_and_shared" 327) .none))
(List.cons (Prod.mk (nat_lit 120) (T #[]))
(List.cons (Prod.mk (nat_lit 122) (T #[(st "_law_cell" 340), (st "_law_k" 341), (st "_law_number" 342)]))
(List.cons (Prod.mk (nat_lit 123) (T #[]))
(List.cons (Prod.mk (nat_lit 125) (C "_law_mixed" 337 "_law_mixed" 338 339 60 2 0 0 3 (.ref 120) true 181 (.ref 121) .none (.ref 122) (.ref 123) (.ref 124) 343 60 344))
(List.cons (Prod.mk (nat_lit 126) (F (top 19) "_law_mixed" "_law_mixed" none .none .none (.ref 125) .none (st "law_sampleyard_k24_filled_and_shared" 327) .none))
(List.cons (Prod.mk (nat_lit 127) (T #[]))
(List.cons (Prod.mk (nat_lit 130) (C "_law_draws" 346 "_law_draws" 347 348 66 2 0 0 3 (.ref 127) true 181 (.ref 128) .none .none .none (.ref 129) 349 66 350))
(List.cons (Prod.mk (nat_lit 131) (F (top 20) "_law_draws" "_law_draws" none .none .none (.ref 130) .none (st "law_sampleyard_k24_filled_and_shared" 327) .none))
(List.cons (Prod.mk (nat_lit 132) (T #[]))
(List.cons (Prod.mk (nat_lit 135) (C "_law_corner" 352 "_law_corner" 353 354 68 2 0 0 3 (.ref 132) true 181 (.ref 133) .none .none .none (.ref 134) 355 68 356))
(List.cons (Prod.mk (nat_lit 136) (F (top 21) "_law_corner" "_law_corner" none .none .none (.ref 135) .none (st "law_sampleyard_k24_filled_and_shared" 327) .none))
(List.cons (Prod.mk (nat_lit 137) (T #[]))
(List.cons (Prod.mk (nat_lit 140) (C "_law_triangles" 358 "_law_triangles" 359 360 87 4 0 0 3 (.ref 137) true 181 (.ref 138) .none .none .none (.ref 139) 361 87 362))
(List.cons (Prod.mk (nat_lit 141) (F (top 22) "_law_triangles" "_law_triangles" none .none .none (.ref 140) .none (st "law_sampleyard_k24_filled_and_shared" 327) .none))
(List.cons (Prod.mk (nat_lit 142) (T #[]))
(List.cons (Prod.mk (nat_lit 145) (C "_law_fan" 364 "_law_fan" 365 366 100 1 0 0 3 (.ref 142) true 181 (.ref 143) .none .none .none (.ref 144) 367 100 368))
(List.cons (Prod.mk (nat_lit 146) (F (top 23) "_law_fan" "_law_fan" none .none .none (.ref 145) .none (st "law_sampleyard_k24_filled_and_shared" 327) .none))
(List.cons (Prod.mk (nat_lit 147) (T #[]))
(List.cons (Prod.mk (nat_lit 149) (T #[(st "_law_box" 373), (st "_law_column" 374), (st "_law_row" 375), (st "_law_left" 376), (st "_law_low" 377), (st "_law_right" 378), (st "_law_high" 379)]))
(List.cons (Prod.mk (nat_lit 150) (T #[]))
(List.cons (Prod.mk (nat_lit 152) (C "_law_in_box" 370 "_law_in_box" 371 372 118 3 0 0 3 (.ref 147) true 181 (.ref 148) .none (.ref 149) (.ref 150) (.ref 151) 380 118 381))
(List.cons (Prod.mk (nat_lit 153) (F (top 24) "_law_in_box" "_law_in_box" none .none .none (.ref 152) .none (st "law_sampleyard_k24_filled_and_shared" 327) .none))
(List.cons (Prod.mk (nat_lit 154) (T #[]))
(List.cons (Prod.mk (nat_lit 156) (T #[(st "_law_deed" 386), (st "_law_found" 387)]))
(List.cons (Prod.mk (nat_lit 157) (T #[]))
(List.cons (Prod.mk (nat_lit 159) (C "_law_refused" 383 "_law_refused" 384 385 121 1 0 0 3 (.ref 154) true 181 (.ref 155) .none (.ref 156) (.ref 157) (.ref 158) 388 121 389))
(List.cons (Prod.mk (nat_lit 160) (F (top 25) "_law_refused" "_law_refused" none .none .none (.ref 159) .none (st "law_sampleyard_k24_filled_and_shared" 327) .none))
(List.cons (Prod.mk (nat_lit 161) (T #[]))
(List.cons (Prod.mk (nat_lit 164) (C "law" 391 "law" 392 393 128 1 0 0 3 (.ref 161) true 181 (.ref 162) .none .none .none (.ref 163) 394 128 395))
(List.cons (Prod.mk (nat_lit 165) (F (top 26) "law" "law" none .none .none (.ref 164) .none (st "law_sampleyard_k24_filled_and_shared" 327) .none))
List.nil)))))))))))))))))))))))))))))))))))))))))))))))))))))))))))))))))))))))))))))))))))))))))))))))))
noncomputable abbrev addrs : List Addr := [2, 3, 15, 22, 23, 24, 25, 28, 35, 36, 37, 40, 42, 43, 45, 46, 47, 49, 50, 52, 53, 54, 56, 57, 59, 60, 61, 63, 64, 66, 67, 68, 70, 71, 73, 74, 75, 77, 78, 80, 81, 82, 85, 86, 87, 89, 90, 92, 93, 94, 97, 98, 99, 101, 102, 104, 105, 106, 108, 109, 111, 112, 113, 115, 116, 118, 119, 120, 122, 123, 125, 126, 127, 130, 131, 132, 135, 136, 137, 140, 141, 142, 145, 146, 147, 149, 150, 152, 153, 154, 156, 157, 159, 160, 161, 164, 165]
noncomputable abbrev most : Nat := 2198
theorem addrs_eq (P : Params) : addrs = (heap P).map (·.1) := rfl
noncomputable abbrev hook : Hook := kHook heap addrs addrs_eq
end Hd
namespace Hd
open PySem PySem.W PyProof.Rows
noncomputable def topRunT (tb : String → Option Builtin) (p : Program) (w : World) (n₀ : Nat) (ann : Option Value) : Nat → SharedT → Thread → Option SharedT
  | 0, _, _ => none
  | n + 1, s, t => match through t with
    | true => some s
    | false => match stepOk n₀ ann t with
      | false => none
      | true => match stepT (denote tb) p w s t with
        | some (s', t') => topRunT tb p w n₀ ann n s' t'
        | none => none
theorem topRunT_of {tb : String → Option Builtin} {p : Program} {w : World} {n₀ : Nat} {ann : Option Value} : ∀ {n : Nat} {s s' : SharedT} {t : Thread}, topRunT tb p w n₀ ann n s t = some s' → topRun tb p w n₀ ann n s.abs t = some s'.abs
  | 0, _, _, _, h => by cases h
  | n + 1, s, s', t, h => by
    unfold topRunT at h
    unfold topRun
    cases he : through t with
    | true => rw [he] at h; cases h; rfl
    | false =>
      rw [he] at h
      cases hk : stepOk n₀ ann t with
      | false => rw [hk] at h; cases h
      | true =>
        rw [hk] at h
        cases hs : stepT (denote tb) p w s t with
        | none => rw [hs] at h; cases h
        | some r => obtain ⟨s₂, t₂⟩ := r; rw [hs] at h; rw [stepT_spec hs]; exact topRunT_of h
noncomputable def topRunQ (p : Program) (w : World) (n₀ : Nat) (ann : Option Value) : Nat → SharedT → Thread → Option SharedT
  | 0, _, _ => none
  | n + 1, s, t => match through t with
    | true => some s
    | false => match Fast.tw6613529449190102663 n₀ ann t with
      | false => none
      | true => match Fast.tw10156331382660048174 (Fast.tw11892475500146522536 Fast.tw14364793385576792824) p w s t with
        | some (s', t') => topRunQ p w n₀ ann n s' t'
        | none => none
theorem topRunQ_eq (p : Program) (w : World) (n₀ : Nat) (ann : Option Value) : ∀ (n : Nat) (s : SharedT) (t : Thread), topRunT treeTable p w n₀ ann n s t = topRunQ p w n₀ ann n s t
  | 0, _, _ => rfl
  | n + 1, s, t => by
    unfold topRunT topRunQ
    rw [Fast.te6613529449190102663, Fast.te10156331382660048174, Fast.te11892475500146522536, Fast.te14364793385576792824]
    cases through t with
    | true => rfl
    | false =>
      cases Fast.tw6613529449190102663 n₀ ann t with
      | false => rfl
      | true =>
        cases Fast.tw10156331382660048174 (Fast.tw11892475500146522536 Fast.tw14364793385576792824) p w s t with
        | none => rfl
        | some r =>
          obtain ⟨s', t'⟩ := r
          have := topRunQ_eq p w n₀ ann n s' t'
          rw [Fast.te14364793385576792824] at this
          exact this
noncomputable def treeFrom (i : Nat) (t : BT) : List Obj → BT
  | [] => t
  | o :: r => treeFrom (i + 1) (t.ins i o) r
noncomputable def bootT (w : World) (os : OsState) : SharedT := ⟨treeFrom 0 .nil (boot_heap w.params).objs.toList, (boot_heap w.params).objs.size, (boot_heap w.params).life, Array.mk [], boot_drawn, boot_toks, os⟩
theorem bootT_abs (w : World) (os : OsState) : (bootT w os).abs = ⟨boot_heap w.params, Array.mk [], boot_drawn, boot_toks, os⟩ := by kernel_rfl
theorem left_tree {p q : Program} {loose : List Str} {Xt : Shared → Bool} {α : Type} {Yf : Shared → α} {Ya : World → α} {N m₀ : Nat} {ann : Option Value} {g0 : Bool}
    (e : opening p = plainProg p.main.scope.names) (hN : Nat.ble 600 N = true) (f : ∀ s, fenceModules? p s = some s)
    (hz : ∀ w : World, ((boot_heap w.params).isNs mainGlobals, (boot_heap w.params).objs.size, (boot_heap w.params).nsMap mainGlobals "__annotations__") = (true, m₀, ann))
    (h : ∀ (w : World) (os : OsState), (topRunQ p w m₀ ann N (bootT w os) (topStub p)).map (fun s => ((staticsOk (importedModules p.main.body) (boot_heap w.params) s.abs.heap && namesBound p s.abs.heap && gensDone s.abs && laidKept (boot_heap w.params) s.abs.heap), Fast.tw4187177175401517315 q loose (importedModules p.main.body) Xt g0 s.abs, Yf s.abs)) = some (true, openGood q loose, Ya w)) :
    LeftO p q loose Xt Yf Ya N g0 := fun w => by
  obtain ⟨s, hs, hv⟩ := Option.map_eq_some_iff.mp (boot_open e hN f w)
  unfold openEnds
  rw [hs]
  obtain ⟨hp, g, d, k, os⟩ := s
  obtain ⟨rfl, rfl, rfl, rfl⟩ : hp = boot_heap w.params ∧ g = Array.mk [] ∧ d = boot_drawn ∧ k = boot_toks := by simpa using hv
  obtain ⟨s₁, h1, h2⟩ := Option.map_eq_some_iff.mp (h w os)
  rw [← topRunQ_eq] at h1
  rw [← Fast.te4187177175401517315] at h2
  have r := topRunT_of h1
  rw [bootT_abs] at r
  obtain ⟨z1, z2, z3⟩ : _ ∧ _ ∧ _ := by simpa only [Prod.mk.injEq] using hz w
  obtain ⟨l1, l2, l3⟩ : _ ∧ _ ∧ _ := by simpa only [Prod.mk.injEq] using h2
  show (topFrom treeTable p w N ⟨boot_heap w.params, Array.mk [], boot_drawn, boot_toks, os⟩).map _ = _
  unfold topFrom
  dsimp only
  rw [z1]
  show (((topRun treeTable p w (boot_heap w.params).objs.size ((boot_heap w.params).nsMap mainGlobals "__annotations__") N ⟨boot_heap w.params, Array.mk [], boot_drawn, boot_toks, os⟩ (topStub p)).bind fun s₁ => match staticsOk (importedModules p.main.body) (boot_heap w.params) s₁.heap && namesBound p s₁.heap && gensDone s₁ && laidKept (boot_heap w.params) s₁.heap with
      | true => some s₁
      | false => none).map _) = _
  rw [z2, z3, r]
  show ((match staticsOk (importedModules p.main.body) (boot_heap w.params) s₁.abs.heap && namesBound p s₁.abs.heap && gensDone s₁.abs && laidKept (boot_heap w.params) s₁.abs.heap with
      | true => some s₁.abs
      | false => none).map _) = _
  rw [l1]
  show some (openSeen q loose (importedModules p.main.body) Xt g0 s₁.abs, Yf s₁.abs) = _
  rw [l2, l3]
end Hd
namespace Hd
open PySem PySem.W PyProof.Rows
set_option maxRecDepth 100000 in
set_option maxHeartbeats 0 in
theorem left : LeftO PySem.Challenge.pw_sampleyard_k24_filled_and_shared view [] (fun s => xlAt view [] s && recOk (RowW.records PySem.Challenge.rw_sampleyard_k24_filled_and_shared.row.toRowW) s) (Hook.obs hook) (Hook.val hook) most :=
  left_tree (by kernel_rfl) (by decide) (fun s => by kernel_rfl) (m₀ := 11) (ann := some (.ref 6)) (fun w => by kernel_rfl) (fun w os => by kernel_rfl)
end Hd
namespace L2
open PySem PySem.Spec PyProof.Rows

noncomputable abbrev Key := Sum Int Str
noncomputable def keyIs : Key → Value → Bool
  | .inl k, v => Value.isInt k v
  | .inr x, v => Value.isStrOf x v
noncomputable def keyH (w : World) : Key → Int
  | .inl k => hashInt k
  | .inr x => hashStr w x
theorem keyIs_shape : ∀ {k : Key} {v : Value}, keyIs k v = true → (∃ i t, k = Sum.inl i ∧ v = Value.int i t) ∨ (∃ x t, k = Sum.inr x ∧ v = Value.str x t)
  | .inl i, v, h => by
    obtain ⟨t, e⟩ := Value.isInt_shape (k := i) (v := v) h
    exact .inl ⟨i, t, rfl, e⟩
  | .inr x, v, h => by
    obtain ⟨t, e⟩ := Value.isStrOf_shape (x := x) (v := v) h
    exact .inr ⟨x, t, rfl, e⟩
theorem key_ll (a b : Int) : decide ((Sum.inl a : Key) = Sum.inl b) = (a == b) := by
  by_cases e : a = b
  · subst e; simp
  · have h : ¬ (Sum.inl a : Key) = Sum.inl b := fun q => e (Sum.inl.inj q)
    rw [decide_eq_false h]
    exact (beq_eq_false_iff_ne.mpr e).symm
theorem key_rr (a b : Str) : decide ((Sum.inr a : Key) = Sum.inr b) = decide (a = b) := by
  by_cases e : a = b
  · subst e; simp
  · have h : ¬ (Sum.inr a : Key) = Sum.inr b := fun q => e (Sum.inr.inj q)
    rw [decide_eq_false h, decide_eq_false e]
theorem key_lr (a : Int) (b : Str) : decide ((Sum.inl a : Key) = Sum.inr b) = false := decide_eq_false (fun q => nomatch q)
theorem key_rl (a : Str) (b : Int) : decide ((Sum.inr a : Key) = Sum.inl b) = false := decide_eq_false (fun q => nomatch q)

noncomputable def mixKind (prog : Program) (w : World) : PySem.KeyKind prog w Key where
  is := keyIs
  hash := keyH w
  inj := fun v a b ha hb => by
    rcases keyIs_shape ha with ⟨i, t, rfl, rfl⟩ | ⟨x, t, rfl, rfl⟩
    · rcases keyIs_shape hb with ⟨j, u, rfl, e⟩ | ⟨y, u, rfl, e⟩
      · injection e with e1 _; rw [e1]
      · exact nomatch e
    · rcases keyIs_shape hb with ⟨j, u, rfl, e⟩ | ⟨y, u, rfl, e⟩
      · exact nomatch e
      · injection e with e1 _; rw [e1]
  byValue := fun k v h => by
    rcases keyIs_shape h with ⟨i, t, rfl, rfl⟩ | ⟨x, t, rfl, rfl⟩ <;> rfl
  pyHash := fun hv h => by
    rcases keyIs_shape hv with ⟨i, t, rfl, rfl⟩ | ⟨x, t, rfl, rfl⟩
    · exact wpAny_pyHash_int h
    · exact wpAny_pyHash_str h
  eqBool := fun hu hv h => by
    rcases keyIs_shape hu with ⟨i, t, rfl, rfl⟩ | ⟨x, t, rfl, rfl⟩
    · rcases keyIs_shape hv with ⟨j, u, rfl, rfl⟩ | ⟨y, u, rfl, rfl⟩
      · rw [key_ll] at h; exact wpAny_eqBool_int h
      · rw [key_lr] at h; exact SeqAt.EqAt.int_str i t y u _ _ _ _ h
    · rcases keyIs_shape hv with ⟨j, u, rfl, rfl⟩ | ⟨y, u, rfl, rfl⟩
      · rw [key_rl] at h; exact SeqAt.EqAt.str_int x t j u _ _ _ _ h
      · rw [key_rr] at h; exact wpAny_eqBool_str h
  «strs» := fun k x t v h => by
    rcases keyIs_shape h with ⟨i, u, rfl, e⟩ | ⟨y, u, rfl, e⟩
    · exact nomatch e
    · injection e with e1 _
      subst e1
      cases v <;> rfl

end L2

namespace L2
open PySem PySem.Spec PyProof.Rows

inductive V where
  | non | bl (b : Bool) | int (i : Int) | str (x : Str) | byt (b : Array UInt8) | flt (b : UInt64) | ref (a : Addr) | ty (n : String)
  deriving DecidableEq

noncomputable def RelV : V → Value → Prop
  | .non, u => u = Value.none
  | .bl b, u => u = Value.bool b
  | .int i, u => ∃ t, u = Value.int i t
  | .str x, u => ∃ t, u = Value.str x t
  | .byt b, u => ∃ t, u = Value.bytes b t
  | .flt b, u => ∃ t, u = Value.float b t
  | .ref a, u => u = Value.ref a
  | .ty n, u => u = Value.type n

noncomputable abbrev Vals : List V → List Value → Prop := Paired RelV
theorem Vals.length {xs : List V} {us : List Value} (r : Vals xs us) : xs.length = us.length := Paired.length r
theorem Vals.get : ∀ {xs : List V} {us : List Value} {i : Nat} {x : V}, Vals xs us → xs[i]? = some x → ∃ u, us[i]? = some u ∧ RelV x u
  | _, _, _, _, .nil, e => by simp at e
  | _, _, 0, _, .cons r _, e => by simp at e; subst e; exact ⟨_, rfl, r⟩
  | _, _, i + 1, x, .cons _ t, e => by
    obtain ⟨u, h1, h2⟩ := Vals.get (i := i) (x := x) t (by simpa using e)
    exact ⟨u, by simpa using h1, h2⟩
theorem Vals.set {x : V} {u : Value} (r : RelV x u) : ∀ {xs : List V} {us : List Value} (i : Nat), Vals xs us → Vals (xs.set i x) (us.set i u)
  | _, _, _, .nil => .nil
  | _, _, 0, .cons _ t => .cons r t
  | _, _, i + 1, .cons q t => .cons q (Vals.set r i t)
theorem Vals.append : ∀ {xs ys : List V} {us ws : List Value}, Vals xs us → Vals ys ws → Vals (xs ++ ys) (us ++ ws)
  | _, _, _, _, .nil, s => s
  | _, _, _, _, .cons r t, s => .cons r (Vals.append t s)
theorem Vals.take : ∀ {xs : List V} {us : List Value} (n : Nat), Vals xs us → Vals (xs.take n) (us.take n)
  | _, _, 0, _ => .nil
  | _, _, _ + 1, .nil => .nil
  | _, _, n + 1, .cons r t => .cons r (Vals.take n t)
theorem Vals.drop : ∀ {xs : List V} {us : List Value} (n : Nat), Vals xs us → Vals (xs.drop n) (us.drop n)
  | _, _, 0, r => r
  | _, _, _ + 1, .nil => .nil
  | _, _, n + 1, .cons _ t => Vals.drop n t
theorem Vals.none_of : ∀ {xs : List V} {us : List Value} {i : Nat}, Vals xs us → xs[i]? = none → us[i]? = none := fun {xs us i} r e => by
  have h1 := r.length
  have h2 : xs.length ≤ i := List.getElem?_eq_none_iff.mp e
  exact List.getElem?_eq_none_iff.mpr (by omega)

noncomputable def RelO : Option V → Option Value → Prop
  | some v, some u => RelV v u
  | none, none => True
  | _, _ => False
noncomputable def KV {κ : Type} : List (κ × V) → List (κ × Value) → Prop := Paired fun (p : κ × V) (q : κ × Value) => p.1 = q.1 ∧ RelV p.2 q.2

noncomputable def kV : Key → V
  | .inl i => .int i
  | .inr x => .str x

inductive HO where
  /-- a list -/
  | lst (xs : List V)
  /-- a tuple (never changes) -/
  | tup (xs : List V)
  /-- a dict whose keys are ints and texts; one whose keys are tuples of ints and texts (the empty one is both) -/
  | dK (kvs : List (Key × V)) | dT (kvs : List (List Key × V))
  /-- a set of ints: its members, its size -/
  | set (S : Int → Bool) (n : Nat)
  /-- an instance of the class at C, its dict at dx, its attributes -/
  | ins (C dx : Addr) (fs : List (Str × V))
  /-- the dict of the instance at x -/
  | own (x : Addr)
  /-- the dict of an exception -/
  | xd (fs : List (Str × V))
  /-- a bound method, f of x -/
  | met (f x : Addr)
  /-- a range object lo, lo + 1, .. below hi -/
  | rng (lo hi : Int)
  /-- a thing that is known to the object (the script; a dict while a loop walks it): read, never written while it is so -/
  | frz (o : Obj) (u : HO)
  /-- a code object's table -/
  | tbl (ps : Array Value)
  /-- any other thing, by what is true of its one object (a def of one's own: SetO a S n := HO.ext fun h => ..) -/
  | ext (φ : Heap → Prop)

noncomputable abbrev Hp := Addr → Option HO
noncomputable def upd (H : Hp) (a : Addr) (o : HO) : Hp := fun b => if b = a then some o else H b
theorem upd_same {H : Hp} {a : Addr} {o : HO} : upd H a o a = some o := by unfold upd; rw [if_pos rfl]
theorem upd_ne {H : Hp} {a b : Addr} {o : HO} (h : b ≠ a) : upd H a o b = H b := by unfold upd; rw [if_neg h]
theorem ne_of_none {H : Hp} {a b : Addr} {o : HO} (h : H a = some o) (h' : H b = none) : a ≠ b := by
  intro e; subst e; rw [h] at h'; cases h'

section
variable (P : Program) (w : World)
noncomputable def ObjOk (H : Hp) (h : Heap) (a : Addr) : HO → Prop
  | .lst xs => xs.length ≤ sizeLine ∧ ∃ (its : List Value) (n : Nat), Vals xs its ∧ h.get? a = some { cls := .type "list", data := .seq its.toArray n }
  | .tup xs => xs.length ≤ sizeLine ∧ ∃ its : List Value, Vals xs its ∧ IsTup h a its.toArray
  | .dK kvs => kvs.length ≤ sizeLine ∧ (a == sysModules) = false ∧ ∃ vs, KV kvs vs ∧ h.DictOf (mixKind P w) a vs
  | .dT kvs => kvs.length ≤ sizeLine ∧ (a == sysModules) = false ∧ ∃ xs : List (List Key × Addr × Value),
      Paired (fun (p : List Key × V) (q : List Key × Addr × Value) => p.1 = q.1 ∧ H q.2.1 = some (.tup (p.1.map kV)) ∧ RelV p.2 q.2.2) kvs xs ∧
      ∃ o es ep, h.get? a = some o ∧ o.ExactDict ∧ o.data = .dict es ep ∧ es.toList = xs.map (entryOfKey (tupleKind (mixKind P w))) ∧ (xs.map (·.1)).Nodup
  | .set S n => h.SetOf (intKind P w) a S n
  | .ins C dx fs => H dx = some (.own a) ∧ fs.length ≤ 1000 ∧ dx ≠ a ∧ h.get? a = some (PySem.W.instObj C dx) ∧
      ∃ mA, h.Ns1 dx mA ∧ (∀ f, RelO (fs.lookup f) (mA f)) ∧ PySem.Within mA (fs.map (·.1))
  | .own _ => ∃ o, h.get? a = some o
  | .xd fs => ∃ mA, h.Ns1 a mA ∧ ∀ f, RelO (fs.lookup f) (mA f)
  | .rng lo hi => ∃ t u v, h.get? a = some { cls := .type "range", data := .fields #[.int lo t, .int hi u, .int 1 v] }
  | .frz o u => h.get? a = some o ∧ ObjOk H h a u
  | .tbl ps => h.get? a = some { cls := .none, data := .fields ps }
  | .met f x => h.get? a = some (PySem.W.methodObj (.ref f) (.ref x))
  | .ext φ => φ h ∧ (∃ o, h.get? a = some o) ∧ ∀ h1 h2 : Heap, φ h1 → (∀ o, h1.get? a = some o → h2.get? a = some o) → φ h2
noncomputable def HOk (H : Hp) (h : Heap) : Prop := ∀ a o, H a = some o → ObjOk P w H h a o
end

section
variable {P : Program} {w : World} {H H' : Hp} {h h' : Heap} {a : Addr} {o : HO}
theorem ObjOk.lt (x : ObjOk P w H h a o) : a < h.objs.size := by
  cases o with
  | lst xs => obtain ⟨_, _, _, _, e⟩ := x; exact Heap.lt_size e
  | tup xs => obtain ⟨_, _, _, p⟩ := x; exact p.lt
  | dK kvs => obtain ⟨_, _, _, _, o, _, _, e, _⟩ := x; exact Heap.lt_size e
  | dT kvs => obtain ⟨_, _, _, _, o, _, _, e, _⟩ := x; exact Heap.lt_size e
  | set S n => obtain ⟨o, _, _, _, e, _⟩ := x; exact Heap.lt_size e
  | ins C dx fs => obtain ⟨_, _, _, e, _⟩ := x; exact Heap.lt_size e
  | own y => obtain ⟨_, e⟩ := x; exact Heap.lt_size e
  | xd fs => obtain ⟨_, ⟨_, _, _, e, _⟩, _⟩ := x; exact Heap.lt_size e
  | rng lo hi => obtain ⟨_, _, _, e⟩ := x; exact Heap.lt_size e
  | frz ob u => obtain ⟨e, _⟩ := x; exact Heap.lt_size e
  | tbl ps => exact Heap.lt_size (show h.get? a = some _ from x)
  | met f y => exact Heap.lt_size (show h.get? a = some _ from x)
  | ext φ => obtain ⟨_, ⟨_, e⟩, _⟩ := x; exact Heap.lt_size e
theorem Paired.mapP {α β : Type} {F G : α → β → Prop} : ∀ {l₁ : List α} {l₂ : List β}, Paired F l₁ l₂ → (∀ a b, F a b → G a b) → Paired G l₁ l₂
  | _, _, .nil, _ => .nil
  | _, _, .cons r t, f => .cons (f _ _ r) (Paired.mapP t f)
theorem ObjOk.stay (x : ObjOk P w H h a o) (k : ∀ b u, (b = a ∨ H b = some (.own a)) → h.get? b = some u → h'.get? b = some u)
    (ho : ∀ b, H b = some (.own a) → H' b = some (.own a)) (ht : ∀ b xs, H b = some (.tup xs) → H' b = some (.tup xs)) : ObjOk P w H' h' a o := by
  induction o with
  | lst xs => obtain ⟨z, its, n, r, e⟩ := x; exact ⟨z, its, n, r, k _ _ (.inl rfl) e⟩
  | tup xs => obtain ⟨z, its, r, ob, e, c⟩ := x; exact ⟨z, its, r, ob, k _ _ (.inl rfl) e, c⟩
  | dK kvs => obtain ⟨z, y, vs, r, ob, es, ep, e, c⟩ := x; exact ⟨z, y, vs, r, ob, es, ep, k _ _ (.inl rfl) e, c⟩
  | dT kvs =>
    obtain ⟨z, y, xs, r, ob, es, ep, e, c⟩ := x
    exact ⟨z, y, xs, Paired.mapP r fun p q z => ⟨z.1, ht _ _ z.2.1, z.2.2⟩, ob, es, ep, k _ _ (.inl rfl) e, c⟩
  | set S n => obtain ⟨ob, es, ep, t, e, c⟩ := x; exact ⟨ob, es, ep, t, k _ _ (.inl rfl) e, c⟩
  | ins C dx fs =>
    obtain ⟨d, z, ne, e, mA, ⟨od, es, ep, e2, c⟩, r⟩ := x
    exact ⟨ho _ d, z, ne, k _ _ (.inl rfl) e, mA, ⟨od, es, ep, k _ _ (.inr d) e2, c⟩, r⟩
  | own y => obtain ⟨ob, e⟩ := x; exact ⟨ob, k _ _ (.inl rfl) e⟩
  | xd fs => obtain ⟨mA, ⟨od, es, ep, e, c⟩, r⟩ := x; exact ⟨mA, ⟨od, es, ep, k _ _ (.inl rfl) e, c⟩, r⟩
  | rng lo hi => obtain ⟨t, u, v, e⟩ := x; exact ⟨t, u, v, k _ _ (.inl rfl) e⟩
  | frz ob u ih => obtain ⟨e, q⟩ := x; exact ⟨k _ _ (.inl rfl) e, ih q⟩
  | tbl ps =>
    have e : h.get? a = some { cls := .none, data := .fields ps } := x
    show h'.get? a = some { cls := .none, data := .fields ps }
    exact k a _ (.inl rfl) e
  | met f y =>
    have e : h.get? a = some (PySem.W.methodObj (.ref f) (.ref y)) := x
    show h'.get? a = some (PySem.W.methodObj (.ref f) (.ref y))
    exact k a _ (.inl rfl) e
  | ext φ => obtain ⟨p, ⟨o, e⟩, st⟩ := x; exact ⟨st _ _ p fun o q => k _ _ (.inl rfl) q, ⟨o, k _ _ (.inl rfl) e⟩, st⟩
theorem HOk.lt (x : HOk P w H h) (e : H a = some o) : a < h.objs.size := (x a o e).lt
theorem HOk.fresh (x : HOk P w H h) (e : h.objs.size ≤ a) : H a = none := by
  cases q : H a with
  | none => rfl
  | some u => exact absurd (Nat.lt_of_lt_of_le (x.lt q) e) (Nat.lt_irrefl _)
theorem HOk.kept (x : HOk P w H h) (k : ∀ b u, h.get? b = some u → h'.get? b = some u) : HOk P w H h' := fun a o e =>
  (x a o e).stay (fun b u _ q => k b u q) (fun _ q => q) fun _ _ q => q
theorem HOk.laid (x : HOk P w H h) (k : ∀ b u, h.get? b = some u → h'.get? b = some u) (hp : h.objs.size ≤ a) (new : ObjOk P w (upd H a o) h' a o) : HOk P w (upd H a o) h' := fun b u e => by
  have hn := x.fresh hp
  by_cases hb : b = a
  · subst hb; rw [upd_same] at e; cases e; exact new
  · rw [upd_ne hb] at e
    exact (x b u e).stay (fun c v _ q => k c v q) (fun c q => by rw [upd_ne (ne_of_none q hn)]; exact q) fun c xs q => by rw [upd_ne (ne_of_none q hn)]; exact q
end

noncomputable def Rd (H : Hp) (a : Addr) (u : HO) : Prop := H a = some u ∨ ∃ o, H a = some (.frz o u)
theorem Rd.of {H : Hp} {a : Addr} {u : HO} (h : H a = some u) : Rd H a u := .inl h
theorem Rd.ok {P : Program} {w : World} {H : Hp} {h : Heap} {a : Addr} {u : HO} (r : Rd H a u) (x : HOk P w H h) : ObjOk P w H h a u := by
  rcases r with r | ⟨o, r⟩
  · exact x a u r
  · obtain ⟨_, q⟩ := x a _ r
    exact q
noncomputable def Mut : Option HO → Prop
  | some (.lst _) => True
  | some (.dK _) => True
  | some (.dT _) => True
  | some (.set _ _) => True
  | some (.ins _ _ _) => True
  | some (.ext _) => True
  | _ => False
section
variable {P : Program} {w : World} {H : Hp} {h h' : Heap} {x e : Addr} {o' : HO}
theorem HOk.write (ok : HOk P w H h) (mu : Mut (H x)) (he : e = x ∨ H e = some (.own x)) (k : ∀ b u, b ≠ e → h.get? b = some u → h'.get? b = some u) (heo : ∃ u, h'.get? e = some u)
    (new : ObjOk P w (upd H x o') h' x o') : HOk P w (upd H x o') h' := fun b u q => by
  have nown : ∀ c y, H c = some (.own y) → c ≠ x := fun c y r z => by subst z; rw [r] at mu; exact mu
  have ntup : ∀ c xs, H c = some (.tup xs) → c ≠ x := fun c xs r z => by subst z; rw [r] at mu; exact mu
  by_cases hb : b = x
  · subst hb; rw [upd_same] at q; cases q; exact new
  · rw [upd_ne hb] at q
    by_cases hbe : b = e
    · have q' : H b = some (.own x) := by
        rcases he with z | z
        · exact absurd (hbe.trans z) hb
        · rw [hbe]; exact z
      rw [q] at q'; cases q'
      obtain ⟨v, hv⟩ := heo
      exact ⟨v, by rw [hbe]; exact hv⟩
    · refine (ok b u q).stay (fun c v hc r => k c v ?_ r) (fun c r => by rw [upd_ne (nown c b r)]; exact r) fun c xs r => by rw [upd_ne (ntup c xs r)]; exact r
      rcases hc with rfl | hc
      · exact hbe
      · rintro rfl
        rcases he with z | z
        · exact nown c b hc z
        · rw [hc] at z; cases z; exact hb rfl
end

structure Un (fs ex : List Addr) (H H' : Hp) (h h' : Heap) : Prop where
  keep : ∀ b o, h.get? b = some o → H b = none → b ∉ fs → b ∉ ex → h'.get? b = some o
  slot : ∀ b o, h.get? b = some o → H b = none → b ∈ fs → b ∉ ex → ∃ sl, h'.get? b = some { o with slots := sl }
  free : ∀ b o, h.get? b = some o → H b = none → b ∉ ex → H' b = none
  there : ∀ b o, h.get? b = some o → b ∉ ex → ∃ o', h'.get? b = some o'
  tups : ∀ b xs, H b = some (.tup xs) → H' b = some (.tup xs)
  frzs : ∀ b o u, H b = some (.frz o u) → H' b = some (.frz o u)
  tbls : ∀ b ps, H b = some (.tbl ps) → ∃ more, H' b = some (.tbl (ps ++ more))
section
variable {fs fs' ex ex' : List Addr} {H H1 H2 : Hp} {h h1 h2 h' : Heap} {a x e : Addr} {o : HO}
theorem Un.any (u : Un fs ex H H1 h h1) {b : Addr} {ob : Obj} (q : h.get? b = some ob) (n : H b = none) (hx : b ∉ ex) : ∃ sl, h1.get? b = some { ob with slots := sl } := by
  by_cases hb : b ∈ fs
  · exact u.slot b ob q n hb hx
  · exact ⟨ob.slots, u.keep b ob q n hb hx⟩
theorem Un.trans (a : Un fs ex H H1 h h1) (b : Un fs ex H1 H2 h1 h2) : Un fs ex H H2 h h2 where
  keep := fun c ob q n hc hx => b.keep c ob (a.keep c ob q n hc hx) (a.free c ob q n hx) hc hx
  slot := fun c ob q n hc hx => by
    obtain ⟨sl, e1⟩ := a.slot c ob q n hc hx
    obtain ⟨sl', e2⟩ := b.slot c _ e1 (a.free c ob q n hx) hc hx
    exact ⟨sl', e2⟩
  free := fun c ob q n hx => by
    obtain ⟨o', e1⟩ := a.there c ob q hx
    exact b.free c o' e1 (a.free c ob q n hx) hx
  there := fun c ob q hx => by
    obtain ⟨o', e1⟩ := a.there c ob q hx
    exact b.there c o' e1 hx
  tups := fun c xs q => b.tups c xs (a.tups c xs q)
  frzs := fun c ob xs q => b.frzs c ob xs (a.frzs c ob xs q)
  tbls := fun c ps q => by
    obtain ⟨m1, e1⟩ := a.tbls c ps q
    obtain ⟨m2, e2⟩ := b.tbls c _ e1
    exact ⟨m1 ++ m2, by rw [e2, Array.append_assoc]⟩
theorem Un.kept (k : ∀ b u, h.get? b = some u → h'.get? b = some u) : Un fs ex H H h h' :=
  ⟨fun b ob q _ _ _ => k b ob q, fun b ob q _ _ _ => ⟨ob.slots, k b ob q⟩, fun _ _ _ n _ => n, fun b ob q _ => ⟨ob, k b ob q⟩, fun _ _ q => q, fun _ _ _ q => q, fun _ ps q => ⟨#[], by rw [q]; simp⟩⟩
theorem Un.refl : Un fs ex H H h h := Un.kept fun _ _ q => q
theorem Un.laid (k : ∀ b u, h.get? b = some u → h'.get? b = some u) (hp : h.objs.size ≤ a) (hn : H a = none) : Un fs ex H (upd H a o) h h' where
  keep := fun b u q _ _ _ => k b u q
  slot := fun b u q _ _ _ => ⟨u.slots, k b u q⟩
  free := fun b u q n _ => by rw [upd_ne (Nat.ne_of_lt (Nat.lt_of_lt_of_le (Heap.lt_size q) hp))]; exact n
  there := fun b u q _ => ⟨u, k b u q⟩
  tups := fun b xs q => by rw [upd_ne (ne_of_none q hn)]; exact q
  frzs := fun b u xs q => by rw [upd_ne (ne_of_none q hn)]; exact q
  tbls := fun b ps q => ⟨#[], by rw [upd_ne (ne_of_none q hn), q]; simp⟩
theorem Un.write (mu : Mut (H x)) (he : e = x ∨ H e = some (.own x)) (k : ∀ b u, b ≠ e → h.get? b = some u → h'.get? b = some u) (heo : ∃ u, h'.get? e = some u) : Un fs ex H (upd H x o) h h' := by
  have hx : ∀ b, H b = none → b ≠ x := fun b n z => by subst z; rw [n] at mu; exact mu
  have hb : ∀ b, H b = none → b ≠ e := fun b n z => by
    subst z
    rcases he with r | r
    · exact hx b n r
    · rw [n] at r; cases r
  have hm : ∀ b u, H b = some u → ¬ Mut (some u) → b ≠ x := fun b u q nm z => by subst z; rw [q] at mu; exact nm mu
  refine ⟨fun b u q n _ _ => k b u (hb b n) q, fun b u q n _ _ => ⟨u.slots, k b u (hb b n) q⟩, fun b u q n _ => by rw [upd_ne (hx b n)]; exact n, fun b u q _ => ?_,
    fun b xs q => by rw [upd_ne (hm b _ q fun z => z)]; exact q, fun b u xs q => by rw [upd_ne (hm b _ q fun z => z)]; exact q, fun b ps q => ⟨#[], by rw [upd_ne (hm b _ q fun z => z), q]; simp⟩⟩
  by_cases hbe : b = e
  · subst hbe; exact heo
  · exact ⟨u, k b u hbe q⟩
theorem Un.mono (u : Un fs ex H H1 h h1) (hs : ∀ b ∈ fs, b ∈ fs') (hx : ∀ b ∈ ex, b ∈ ex') : Un fs' ex' H H1 h h1 :=
  ⟨fun b ob q n hb he => u.keep b ob q n (fun z => hb (hs b z)) fun z => he (hx b z), fun _ _ q n _ he => u.any q n fun z => he (hx _ z), fun b ob q n he => u.free b ob q n fun z => he (hx b z), fun b ob q he => u.there b ob q fun z => he (hx b z), u.tups, u.frzs, u.tbls⟩
end

noncomputable def trk (h : Heap) (H : Hp) : List Addr := (List.range h.objs.size).filter fun a => (H a).isSome
noncomputable def hidT (h : Heap) (H : Hp) : Heap := PySem.W.hideAll h (trk h H)
theorem hidT_size (h : Heap) (H : Hp) : (hidT h H).objs.size = h.objs.size := PySem.W.hideAll_size _ _
theorem hidT_get {h : Heap} {H : Hp} {b : Addr} {o : Obj} (e : h.get? b = some o) (n : H b = none) : (hidT h H).get? b = some o :=
  PySem.W.hideAll_get _ e fun hm => by
    have q : (H b).isSome = true := (List.mem_filter.mp hm).2
    rw [n] at q; simp at q
theorem of_hidT {h : Heap} {H : Hp} {b : Addr} {o : Obj} (e : (hidT h H).get? b = some o) : h.get? b = some o ∧ H b = none := by
  have e' : h.get? b = some o := PySem.W.of_hideAll (trk h H) e
  refine ⟨e', ?_⟩
  cases q : H b with
  | none => rfl
  | some x =>
    have hm : b ∈ trk h H := List.mem_filter.mpr ⟨List.mem_range.mpr (Heap.lt_size e'), by simp [q]⟩
    have z : (hidT h H).get? b = none := PySem.W.hideAll_none (trk h H) hm
    rw [z] at e; cases e

noncomputable def allNews (g h : Heap) (L : Addr) : List (Addr × Obj) := (List.range h.objs.size).filterMap fun a => if a = L ∨ (g.get? a).isSome = true then none else (h.get? a).map fun o => (a, o)
noncomputable def rest (g h : Heap) (L d : Addr) : List (Addr × Obj) := (allNews g h L).filter fun p => decide (p.1 ≠ d)
end L2

namespace L2
open PySem PySem.Spec PyProof.Rows

structure Mod (K : PySem.W.Frag) (mg : Str → Option Value) (base : Heap) : Prop where
  kin : K.In base
  glob : base.Ns mainGlobals mg
  blt : ∃ mb, base.Ns builtinsNs mb ∧ ∀ x : Str, x ≠ "__name__" → mb x = bootBuiltins x
  nolimit : base.NoLimit

structure Cx where
  prog : Program
  w : World
  K : PySem.W.Frag
  mg : Str → Option Value
  base : Heap
  A : Around
  N : List Str
  s₀ : Shared
  H₀ : Hp
  env : Env
  outer : List Env
  stack : List Env
  ex : List Addr
  fn : Str → Bool
  calm : Bool
  pn : List (Addr × Obj)
  xe : Value → Shared → Prop
noncomputable def frs (l : List Env) : List Addr := l.filterMap (·.frame)
noncomputable abbrev Cx.fs (X : Cx) : List Addr := frs X.outer

noncomputable def Vis (sc : Scope) (x : Str) : Prop := sc.names.lookup x = some .local ∨ sc.names.lookup x = some .cell ∨ sc.names.lookup x = some .free
noncomputable def Loc (sc : Scope) (x : Str) : Prop := sc.names.lookup x = some .local ∨ sc.names.lookup x = some .cell
noncomputable def Look (env : Env) (h : Heap) (m : Str → Option Value) (x : Str) (u : Value) : Prop :=
  (env.kindOf x = some .local ∧ m x = some u) ∨ ((env.kindOf x = some .cell ∨ env.kindOf x = some .free) ∧ ∃ c, env.cells.lookup x = some c ∧ h.IsCell c (some u))

structure Cx.Ok (X : Cx) : Prop where
  mod : Mod X.K X.mg X.base
  kind : X.env.scope.kind = .function
  glob : X.env.globals = mainGlobals
  blt : X.env.builtins = builtinsNs
  above : X.s₀.heap.objs.size ≤ X.env.locals
  inj : ∀ x y c, X.env.cells.lookup x = some c → X.env.cells.lookup y = some c → x = y
  has : ∀ x, (X.env.kindOf x = some .cell ∨ X.env.kindOf x = some .free) → ∃ c, X.env.cells.lookup x = some c
  cab : ∀ x c, X.fn x = true → X.env.cells.lookup x = some c → X.s₀.heap.objs.size ≤ c
  hd : X.calm = true → X.A.handled = none
  frames : X.A.frames = some X.stack
  stk : X.stack = X.outer ∨ (X.stack = X.env :: X.outer ∧ X.env.frame = some X.env.locals)
  exf : ∀ b ∈ X.ex, b ≠ X.env.locals ∧ ∀ x c, X.env.cells.lookup x = some c → c ≠ b
  bs : ∀ b o, X.base.get? b = some o → X.s₀.heap.get? b = some o ∧ X.H₀ b = none
  bsz : X.base.objs.size ≤ X.s₀.heap.objs.size
  noex : ∀ b o, X.base.get? b = some o → b ∉ X.ex
  exfs : ∀ b ∈ X.ex, b ∉ X.fs
  funs : X.s₀.heap.FunFrames X.base X.outer
  frf : ∀ b ∈ X.fs, X.H₀ b = none

structure Inv (X : Cx) (pins : List (Addr × Obj)) (σ : List (Option V)) (H : Hp) (s : Shared) : Prop where
  ok : X.Ok
  os : s.os = X.s₀.os
  bare : AllBare s.gens
  base : Un X.fs X.ex X.H₀ H X.s₀.heap s.heap
  loc : ∃ m, s.heap.Ns X.env.locals m ∧ ∀ (i : Nat) (x : Str) (v : V), X.N[i]? = some x → σ[i]? = some (some v) → Vis X.env.scope x → ∃ u, RelV v u ∧ Look X.env s.heap m x u
  cell : ∀ x c, X.env.cells.lookup x = some c → ∃ v, s.heap.IsCell c v
  free : H X.env.locals = none
  freeC : ∀ x c, X.env.cells.lookup x = some c → H c = none
  pin : ∀ p ∈ X.pn ++ pins, s.heap.get? p.1 = some p.2 ∧ H p.1 = none ∧ p.1 ≠ X.env.locals ∧ p.1 ∉ X.fs ∧ ∀ v, p.2.data ≠ .cell v
  hok : HOk X.prog X.w H s.heap
  len : σ.length = X.N.length

section
variable {X : Cx} {pins : List (Addr × Obj)} {σ : List (Option V)} {H H' : Hp} {s : Shared} {h' : Heap}

theorem Cx.Ok.nofr (ok : X.Ok) {b : Addr} {o : Obj} (e : X.base.get? b = some o) : b ∉ X.fs := fun hb => by
  have := (ok.funs.mem hb).1
  rw [e] at this; cases this
theorem Inv.bs (I : Inv X pins σ H s) : ∀ b o, X.base.get? b = some o → s.heap.get? b = some o ∧ H b = none := fun b o e =>
  ⟨I.base.keep b o (I.ok.bs b o e).1 (I.ok.bs b o e).2 (I.ok.nofr e) (I.ok.noex b o e), I.base.free b o (I.ok.bs b o e).1 (I.ok.bs b o e).2 (I.ok.noex b o e)⟩
theorem Inv.bk (I : Inv X pins σ H s) : ∀ b o, X.base.get? b = some o → s.heap.get? b = some o := fun b o e => (I.bs b o e).1
theorem Inv.mod (I : Inv X pins σ H s) : Mod X.K X.mg X.base := I.ok.mod
theorem Inv.kIn (I : Inv X pins σ H s) : X.K.In s.heap := I.ok.mod.kin.keeps I.bk
theorem Inv.nolimit (I : Inv X pins σ H s) : s.heap.NoLimit := I.ok.mod.nolimit.keeps I.bk
theorem Inv.fr (I : Inv X pins σ H s) : ∃ m, Fr X.base X.env.locals s.heap m :=
  let ⟨m, hn, _⟩ := I.loc
  ⟨m, hn, I.bk, Nat.le_trans I.ok.bsz I.ok.above⟩
theorem Inv.lt (I : Inv X pins σ H s) : X.env.locals < s.heap.objs.size := let ⟨_, hn, _⟩ := I.loc; hn.lt
theorem Inv.sz (I : Inv X pins σ H s) : X.s₀.heap.objs.size ≤ s.heap.objs.size := Nat.le_trans I.ok.above (Nat.le_of_lt I.lt)
theorem Inv.nofs (I : Inv X pins σ H s) {a : Addr} (h : s.heap.objs.size ≤ a) : a ∉ X.fs := fun hb => by
  obtain ⟨_, o, ho, _⟩ := I.ok.funs.mem hb
  exact absurd (Nat.lt_of_lt_of_le (Heap.lt_size ho) (Nat.le_trans I.sz h)) (Nat.lt_irrefl _)
theorem Inv.cne (I : Inv X pins σ H s) : ∀ x c, X.env.cells.lookup x = some c → c ≠ X.env.locals := fun x c e z => by
  obtain ⟨v, o, ho, hd⟩ := I.cell x c e
  obtain ⟨m, ⟨o', es, ep, ho', hd', _⟩, _⟩ := I.loc
  rw [z, ho'] at ho; cases ho; rw [hd'] at hd; cases hd
theorem Inv.funs (I : Inv X pins σ H s) : s.heap.FunFrames X.base X.outer := by
  have all : ∀ (l : List Env), (∀ b ∈ frs l, b ∈ X.fs) → X.s₀.heap.FunFrames X.base l → s.heap.FunFrames X.base l := by
    intro l
    induction l with
    | nil => intro _ _; trivial
    | cons env r ih =>
      intro hs hl
      obtain ⟨hk, ⟨L, o, hf, hn, ho, hd⟩, hr⟩ := hl
      have hL : L ∈ X.fs := hs L (by unfold frs; rw [List.filterMap_cons, hf]; exact List.mem_cons_self)
      obtain ⟨sl, e⟩ := I.base.slot L o ho (I.ok.frf L hL) hL fun z => I.ok.exfs L z hL
      exact ⟨hk, ⟨L, _, hf, hn, e, hd⟩, ih (fun b hb => hs b (by unfold frs; rw [List.filterMap_cons, hf]; exact List.mem_cons_of_mem _ hb)) hr⟩
  exact all X.outer (fun _ hb => hb) I.ok.funs

theorem Inv.stack (I : Inv X pins σ H s) : s.heap.FunFrames X.base X.stack := by
  rcases I.ok.stk with e | ⟨e, hf⟩
  · rw [e]; exact I.funs
  · rw [e]
    obtain ⟨m, hn, _⟩ := I.loc
    refine .cons (by rw [I.ok.kind]; decide) hf hn ?_ I.funs
    exact Heap.get?_none_of_le (Nat.le_trans I.ok.bsz I.ok.above)
theorem Inv.stkSub (I : Inv X pins σ H s) : ∀ b ∈ frs X.stack, b ∈ X.env.locals :: X.fs := fun b hb => by
  rcases I.ok.stk with e | ⟨e, hf⟩
  · rw [e] at hb; exact List.mem_cons_of_mem _ hb
  · rw [e] at hb
    unfold frs at hb
    rw [List.filterMap_cons, hf] at hb
    exact hb
theorem Inv.stkFree (I : Inv X pins σ H s) : ∀ b ∈ frs X.stack, H b = none := fun b hb => by
  rcases List.mem_cons.mp (I.stkSub b hb) with e | hb
  · rw [e]; exact I.free
  · obtain ⟨_, o, ho, _⟩ := I.ok.funs.mem hb
    exact I.base.free b o ho (I.ok.frf b hb) fun z => I.ok.exfs b z hb

theorem Inv.step {g' : Array GenState} {t' : Nat} {d' : Drawn} {ch : List Addr} (I : Inv X pins σ H s)
    (hch : ∀ b ∈ ch, (b ∈ X.ex ∨ X.s₀.heap.objs.size ≤ b) ∧ b ≠ X.env.locals ∧ (∀ x c, X.env.cells.lookup x = some c → c ≠ b) ∧ ∀ p ∈ X.pn ++ pins, p.1 ≠ b)
    (keep : ∀ b o, b ≠ X.env.locals → b ∉ X.fs → b ∉ ch → s.heap.get? b = some o → H b = none → h'.get? b = some o)
    (slot : ∀ b o, b ≠ X.env.locals → b ∈ X.fs → b ∉ ch → s.heap.get? b = some o → H b = none → ∃ sl, h'.get? b = some { o with slots := sl }) (free : ∀ b o, b ∉ ch → s.heap.get? b = some o → H b = none → H' b = none)
    (there : ∀ b o, b ∉ ch → s.heap.get? b = some o → ∃ o', h'.get? b = some o')
    (tups : ∀ b xs, H b = some (.tup xs) → H' b = some (.tup xs)) (frzs : ∀ b o u, H b = some (.frz o u) → H' b = some (.frz o u)) (tbls : ∀ b ps, H b = some (.tbl ps) → ∃ more, H' b = some (.tbl (ps ++ more)))
    (ns : ∀ m, s.heap.Ns X.env.locals m → h'.Ns X.env.locals m) (hok : HOk X.prog X.w H' h') (hg : AllBare g') :
    Inv X pins σ H' { s with heap := h', gens := g', drawn := d', toks := t' } := by
  have neL : ∀ b o, X.s₀.heap.get? b = some o → b ≠ X.env.locals := fun b o e => Nat.ne_of_lt (Nat.lt_of_lt_of_le (Heap.lt_size e) I.ok.above)
  have neC : ∀ b o, X.s₀.heap.get? b = some o → b ∉ X.ex → b ∉ ch := fun b o e hx hb => by
    rcases (hch b hb).1 with z | z
    · exact hx z
    · exact absurd (Nat.lt_of_lt_of_le (Heap.lt_size e) z) (Nat.lt_irrefl _)
  have cellK : ∀ x c, X.env.cells.lookup x = some c → ∀ v, s.heap.IsCell c v → h'.IsCell c v := fun x c e v ⟨o, ho, hd⟩ => by
    have nch : c ∉ ch := fun z => (hch c z).2.2.1 x c e rfl
    by_cases hc : c ∈ X.fs
    · obtain ⟨sl, q⟩ := slot c o (I.cne x c e) hc nch ho (I.freeC x c e)
      exact ⟨_, q, hd⟩
    · exact ⟨o, keep c o (I.cne x c e) hc nch ho (I.freeC x c e), hd⟩
  refine ⟨I.ok, I.os, hg, ⟨fun b o e n hb hx => ?_, fun b o e n hb hx => ?_, fun b o e n hx => ?_, fun b o e hx => ?_, fun b xs e => tups b xs (I.base.tups b xs e), fun b o xs e => frzs b o xs (I.base.frzs b o xs e), fun b ps e => ?_⟩, ?_, fun x c e => ?_, ?_, fun x c e => ?_, fun p hp => ?_, hok, I.len⟩
  · exact keep b o (neL b o e) hb (neC b o e hx) (I.base.keep b o e n hb hx) (I.base.free b o e n hx)
  · obtain ⟨sl, e1⟩ := I.base.slot b o e n hb hx
    obtain ⟨sl', e2⟩ := slot b _ (neL b o e) hb (neC b o e hx) e1 (I.base.free b o e n hx)
    exact ⟨sl', e2⟩
  · obtain ⟨o', e1⟩ := I.base.there b o e hx
    exact free b o' (neC b o e hx) e1 (I.base.free b o e n hx)
  · obtain ⟨o', e1⟩ := I.base.there b o e hx
    exact there b o' (neC b o e hx) e1
  · obtain ⟨m1, e1⟩ := I.base.tbls b ps e
    obtain ⟨m2, e2⟩ := tbls b _ e1
    exact ⟨m1 ++ m2, by rw [e2, Array.append_assoc]⟩
  · obtain ⟨m, hn, hl⟩ := I.loc
    refine ⟨m, ns m hn, fun i x v e1 e2 e3 => ?_⟩
    obtain ⟨u, r, l⟩ := hl i x v e1 e2 e3
    refine ⟨u, r, ?_⟩
    rcases l with l | ⟨k, c, e, z⟩
    · exact .inl l
    · exact .inr ⟨k, c, e, cellK x c e _ z⟩
  · obtain ⟨v, z⟩ := I.cell x c e
    exact ⟨v, cellK x c e v z⟩
  · obtain ⟨m, ⟨o, _, _, ho, _⟩, _⟩ := I.loc
    exact free _ o (fun z => (hch _ z).2.1 rfl) ho I.free
  · obtain ⟨v, o, ho, hd⟩ := I.cell x c e
    exact free c o (fun z => (hch c z).2.2.1 x c e rfl) ho (I.freeC x c e)
  · obtain ⟨e, n, ne, nf, d⟩ := I.pin p hp
    have nch : p.1 ∉ ch := fun z => (hch p.1 z).2.2.2 p hp rfl
    exact ⟨keep p.1 p.2 ne nf nch e n, free p.1 p.2 nch e n, ne, nf, d⟩
theorem Inv.un {t' : Nat} (I : Inv X pins σ H s) (u : Un X.fs [] H H' s.heap h') (hok : HOk X.prog X.w H' h') : Inv X pins σ H' { s with heap := h', toks := t' } := by
  obtain ⟨m, ⟨o, es, ep, ho, r⟩, _⟩ := id I.loc
  obtain ⟨sl, hL⟩ := u.any ho I.free (by simp)
  exact I.step (g' := s.gens) (d' := s.drawn) (ch := []) (fun _ z => nomatch z) (fun b o _ hb _ e n => u.keep b o e n hb (by simp)) (fun b o _ hb _ e n => u.slot b o e n hb (by simp)) (fun b o _ e n => u.free b o e n (by simp)) (fun b o _ e => u.there b o e (by simp)) u.tups u.frzs u.tbls (fun m' hm => by
    obtain ⟨o', es', ep', ho', r'⟩ := hm
    rw [ho] at ho'; cases ho'
    exact ⟨_, es', ep', hL, r'⟩) hok I.bare
theorem Inv.call {g' : Array GenState} {t' : Nat} {d' : Drawn} {ch : List Addr} (I : Inv X pins σ H s) (u : Un (frs X.stack) ch H H' s.heap h') (hok : HOk X.prog X.w H' h') (hg : AllBare g')
    (hch : ∀ b ∈ ch, (b ∈ X.ex ∨ X.s₀.heap.objs.size ≤ b) ∧ b ≠ X.env.locals ∧ (∀ x c, X.env.cells.lookup x = some c → c ≠ b) ∧ ∀ p ∈ X.pn ++ pins, p.1 ≠ b) :
    Inv X pins σ H' { s with heap := h', gens := g', drawn := d', toks := t' } := by
  obtain ⟨m, ⟨o, es, ep, ho, r⟩, _⟩ := id I.loc
  obtain ⟨sl, hL⟩ := u.any ho I.free fun z => (hch _ z).2.1 rfl
  exact I.step (ch := ch) hch (fun b o hL hb hc e n => u.keep b o e n (fun z => (List.mem_cons.mp (I.stkSub b z)).elim hL hb) hc) (fun b o _ _ hc e n => u.any e n hc) (fun b o hc e n => u.free b o e n hc) (fun b o hc e => u.there b o e hc) u.tups u.frzs u.tbls (fun m' hm => by
    obtain ⟨o', es', ep', ho', r'⟩ := hm
    rw [ho] at ho'; cases ho'
    exact ⟨_, es', ep', hL, r'⟩) hok hg
theorem Inv.turned {t' : Nat} {it : Addr} (I : Inv X pins σ H s) (k : ∀ b o, b ≠ it → s.heap.get? b = some o → h'.get? b = some o) (hn : H it = none) (hL : it ≠ X.env.locals)
    (h1 : it ∈ X.ex ∨ X.s₀.heap.objs.size ≤ it) (h2 : ∀ x c, X.env.cells.lookup x = some c → c ≠ it) (h3 : ∀ p ∈ X.pn ++ pins, p.1 ≠ it) : Inv X pins σ H { s with heap := h', toks := t' } := by
  have nit : ∀ b u, H b = some u → b ≠ it := fun b u e z => by rw [z, hn] at e; cases e
  refine I.step (g' := s.gens) (d' := s.drawn) (ch := [it]) (fun b hb => ?_) (fun b o _ _ hc e _ => k b o (fun z => hc (by simp [z])) e) (fun b o _ _ hc e _ => ⟨o.slots, k b o (fun z => hc (by simp [z])) e⟩) (fun _ _ _ _ n => n)
    (fun b o hc e => ⟨o, k b o (fun z => hc (by simp [z])) e⟩) (fun _ _ e => e) (fun _ _ _ e => e) (fun b ps e => ⟨#[], by rw [e]; simp⟩) (fun m hm => ?_) (fun b u e => ?_) I.bare
  · have e : b = it := by simpa using hb
    subst e
    exact ⟨h1, hL, h2, h3⟩
  · obtain ⟨o, es, ep, ho, r⟩ := hm
    exact ⟨o, es, ep, k _ o (Ne.symm hL) ho, r⟩
  · refine (I.hok b u e).stay (fun c v hc q => k c v ?_ q) (fun _ q => q) fun _ _ q => q
    rcases hc with z | z
    · rw [z]; exact nit b u e
    · exact nit c _ z
theorem Inv.tok (I : Inv X pins σ H s) (t : Nat) : Inv X pins σ H { s with toks := t } := I.un (h' := s.heap) (t' := t) Un.refl I.hok
theorem Inv.kept {t' : Nat} (I : Inv X pins σ H s) (k : ∀ b u, s.heap.get? b = some u → h'.get? b = some u) : Inv X pins σ H { s with heap := h', toks := t' } := I.un (Un.kept k) (I.hok.kept k)
theorem Inv.laid {a : Addr} {o : HO} {t' : Nat} (I : Inv X pins σ H s) (k : ∀ b u, s.heap.get? b = some u → h'.get? b = some u) (hp : s.heap.objs.size ≤ a) (new : ObjOk X.prog X.w (upd H a o) h' a o) :
    Inv X pins σ (upd H a o) { s with heap := h', toks := t' } := I.un (Un.laid k hp (I.hok.fresh hp)) (I.hok.laid k hp new)
theorem Inv.write {x e : Addr} {o : HO} {t' : Nat} (I : Inv X pins σ H s) (mu : Mut (H x)) (he : e = x ∨ H e = some (.own x)) (k : ∀ b u, b ≠ e → s.heap.get? b = some u → h'.get? b = some u) (heo : ∃ u, h'.get? e = some u)
    (new : ObjOk X.prog X.w (upd H x o) h' x o) : Inv X pins σ (upd H x o) { s with heap := h', toks := t' } := I.un (Un.write mu he k heo) (I.hok.write mu he k heo new)
theorem Inv.weak {σ' : List (Option V)} (I : Inv X pins σ H s) (hl : σ'.length = σ.length) (w : ∀ (i : Nat) v, σ'[i]? = some (some v) → σ[i]? = some (some v)) : Inv X pins σ' H s :=
  ⟨I.ok, I.os, I.bare, I.base, let ⟨m, hn, hl'⟩ := I.loc; ⟨m, hn, fun i x v e1 e2 e3 => hl' i x v e1 (w i v e2) e3⟩, I.cell, I.free, I.freeC, I.pin, I.hok, hl.trans I.len⟩
theorem Inv.pins_of {pins' : List (Addr × Obj)} (I : Inv X pins σ H s) (h : ∀ p ∈ pins', s.heap.get? p.1 = some p.2 ∧ H p.1 = none ∧ p.1 ≠ X.env.locals ∧ p.1 ∉ X.fs ∧ ∀ v, p.2.data ≠ .cell v) : Inv X pins' σ H s :=
  ⟨I.ok, I.os, I.bare, I.base, I.loc, I.cell, I.free, I.freeC, fun p hp => (List.mem_append.mp hp).elim (fun z => I.pin p (List.mem_append_left _ z)) (h p), I.hok, I.len⟩

theorem nodup_ix {N : List Str} (hN : N.Nodup) {i j : Nat} {x : Str} (a : N[i]? = some x) (b : N[j]? = some x) : i = j := by
  obtain ⟨h1, e1⟩ := List.getElem?_eq_some_iff.mp a
  obtain ⟨h2, e2⟩ := List.getElem?_eq_some_iff.mp b
  exact (List.getElem_inj hN).mp (e1.trans e2.symm)

theorem store_ok2 {M : Model} {A : Around} {E : Value → Shared → Prop} {i : Nat} {x : Str} {v : V} {u : Value} {Q : Unit → Shared → Prop} (I : Inv X pins σ H s) (hN : X.N.Nodup) (hi : X.N[i]? = some x) (hx : Loc X.env.scope x) (r : RelV v u)
    (h : ∀ s', Inv X pins (σ.set i (some v)) H s' → (∃ a, Heap.SameBut a s.heap s'.heap ∧ (a = X.env.locals ∨ X.env.cells.lookup x = some a)) → Q () s') (hf : X.fn x = true ∨ X.env.scope.names.lookup x = some .local := by first | exact .inl rfl | exact .inr rfl | assumption) : wpAny M A (storeName X.env x u) Q E s := by
  obtain ⟨m, hn, hl⟩ := id I.loc
  have hcls : (X.env.scope.kind == .class || (X.env.scope.kind == .module && X.env.locals != X.env.globals)) = false := by rw [I.ok.kind]; rfl
  have hiσ : i < σ.length := by rw [I.len]; exact (List.getElem?_eq_some_iff.mp hi).1
  have cne := I.cne
  have tracked : ∀ {a : Addr} {h' : Heap}, (∃ o, s.heap.get? a = some o ∧ H a = none) → Heap.SameBut a s.heap h' → HOk X.prog X.w H h' := fun {a h'} ha hs b ob e => by
    obtain ⟨_, _, hfree⟩ := ha
    refine (I.hok b ob e).stay (fun c w' hc q => (hs.2 c ?_).trans q) (fun _ q => q) fun _ _ q => q
    rintro rfl
    rcases hc with rfl | hc
    · rw [hfree] at e; cases e
    · rw [hfree] at hc; cases hc
  rcases hx with hk | hk
  · refine wpAny_storeName_local hk hn (fun h' hn' hs => ?_) hcls
    obtain ⟨oL, _, _, hoL, _⟩ := id hn
    refine h _ ⟨I.ok, I.os, I.bare, ⟨fun b o e n hb hx => ?_, fun b o e n hb hx => ?_, I.base.free, fun b o e hx => ?_, I.base.tups, I.base.frzs, I.base.tbls⟩, ⟨_, hn', fun j y v' e1 e2 e3 => ?_⟩, fun y c e => ?_, I.free, I.freeC, fun p hp => ?_, tracked ⟨oL, hoL, I.free⟩ hs, by simpa using I.len⟩ ⟨_, hs, .inl rfl⟩
    · exact (hs.2 b (Nat.ne_of_lt (Nat.lt_of_lt_of_le (Heap.lt_size e) I.ok.above))).trans (I.base.keep b o e n hb hx)
    · obtain ⟨sl, e1⟩ := I.base.slot b o e n hb hx
      exact ⟨sl, (hs.2 b (Nat.ne_of_lt (Nat.lt_of_lt_of_le (Heap.lt_size e) I.ok.above))).trans e1⟩
    · obtain ⟨o', e1⟩ := I.base.there b o e hx
      exact ⟨o', (hs.2 b (Nat.ne_of_lt (Nat.lt_of_lt_of_le (Heap.lt_size e) I.ok.above))).trans e1⟩
    · by_cases hj : j = i
      · subst hj
        rw [hi] at e1; cases e1
        rw [List.getElem?_set_self hiσ] at e2
        cases e2
        exact ⟨u, r, .inl ⟨hk, by simp⟩⟩
      · rw [List.getElem?_set_ne (Ne.symm hj)] at e2
        obtain ⟨u', r', q⟩ := hl j y v' e1 e2 e3
        refine ⟨u', r', ?_⟩
        rcases q with ⟨k, e⟩ | ⟨k, c, e, z⟩
        · refine .inl ⟨k, ?_⟩
          have : y ≠ x := fun e => hj (nodup_ix hN e1 (e ▸ hi))
          simp [this, e]
        · exact .inr ⟨k, c, e, z.sameBut hs (cne y c e)⟩
    · obtain ⟨w', z⟩ := I.cell y c e
      exact ⟨w', z.sameBut hs (cne y c e)⟩
    · obtain ⟨e, n, ne, nf, d⟩ := I.pin p hp
      exact ⟨(hs.2 p.1 ne).trans e, n, ne, nf, d⟩
  · have hfn : X.fn x = true := by
      rcases hf with z | z
      · exact z
      · rw [z] at hk; cases hk
    obtain ⟨c, hc⟩ := I.ok.has x (.inl hk)
    obtain ⟨w', z⟩ := I.cell x c hc
    refine wpAny_storeName_cell I.ok.kind hk hc z (fun h' hc' hs => ?_)
    obtain ⟨oc, hoc, hocd⟩ := id z
    refine h { s with heap := h' } ⟨I.ok, I.os, I.bare, ⟨fun b o e n hb hx => ?_, fun b o e n hb hx => ?_, I.base.free, fun b o e hx => ?_, I.base.tups, I.base.frzs, I.base.tbls⟩, ⟨m, hn.sameBut hs (Ne.symm (cne x c hc)), fun j y v' e1 e2 e3 => ?_⟩, fun y c' e => ?_, I.free, I.freeC, fun p hp => ?_, tracked ⟨oc, hoc, I.freeC x c hc⟩ hs, by simpa using I.len⟩ ⟨c, hs, .inr hc⟩
    · exact (hs.2 b (Nat.ne_of_lt (Nat.lt_of_lt_of_le (Heap.lt_size e) (I.ok.cab x c hfn hc)))).trans (I.base.keep b o e n hb hx)
    · obtain ⟨sl, e1⟩ := I.base.slot b o e n hb hx
      exact ⟨sl, (hs.2 b (Nat.ne_of_lt (Nat.lt_of_lt_of_le (Heap.lt_size e) (I.ok.cab x c hfn hc)))).trans e1⟩
    · obtain ⟨o', e1⟩ := I.base.there b o e hx
      exact ⟨o', (hs.2 b (Nat.ne_of_lt (Nat.lt_of_lt_of_le (Heap.lt_size e) (I.ok.cab x c hfn hc)))).trans e1⟩
    · by_cases hj : j = i
      · subst hj
        rw [hi] at e1; cases e1
        rw [List.getElem?_set_self hiσ] at e2
        cases e2
        exact ⟨u, r, .inr ⟨.inl hk, c, hc, hc'⟩⟩
      · rw [List.getElem?_set_ne (Ne.symm hj)] at e2
        obtain ⟨u', r', q⟩ := hl j y v' e1 e2 e3
        refine ⟨u', r', ?_⟩
        rcases q with q | ⟨k, c', e, z'⟩
        · exact .inl q
        · refine .inr ⟨k, c', e, z'.sameBut hs ?_⟩
          rintro rfl
          exact hj (nodup_ix hN e1 (I.ok.inj _ _ _ e hc ▸ hi))
    · by_cases hcc : c' = c
      · subst hcc; exact ⟨_, hc'⟩
      · obtain ⟨w2, z2⟩ := I.cell y c' e
        exact ⟨w2, z2.sameBut hs hcc⟩
    · obtain ⟨e, n, ne, nf, d⟩ := I.pin p hp
      refine ⟨(hs.2 p.1 ?_).trans e, n, ne, nf, d⟩
      intro q
      rw [q, hoc] at e
      have q' : oc = p.2 := Option.some.inj e
      exact d w' (by rw [← q']; exact hocd)
theorem store_ok {M : Model} {A : Around} {E : Value → Shared → Prop} {i : Nat} {x : Str} {v : V} {u : Value} {Q : Unit → Shared → Prop} (I : Inv X pins σ H s) (hN : X.N.Nodup) (hi : X.N[i]? = some x) (hx : Loc X.env.scope x) (r : RelV v u)
    (h : ∀ s', Inv X pins (σ.set i (some v)) H s' → Q () s') (hf : X.fn x = true ∨ X.env.scope.names.lookup x = some .local := by first | exact .inl rfl | exact .inr rfl | assumption) : wpAny M A (storeName X.env x u) Q E s :=
  store_ok2 I hN hi hx r (fun s' I' _ => h s' I') hf
theorem Inv.call' {s' : Shared} {ch : List Addr} (I : Inv X pins σ H s) (ho : s'.os = s.os) (u : Un (frs X.stack) ch H H' s.heap s'.heap) (hok : HOk X.prog X.w H' s'.heap) (hg : AllBare s'.gens)
    (hch : ∀ b ∈ ch, (b ∈ X.ex ∨ X.s₀.heap.objs.size ≤ b) ∧ b ≠ X.env.locals ∧ (∀ x c, X.env.cells.lookup x = some c → c ≠ b) ∧ ∀ p ∈ X.pn ++ pins, p.1 ≠ b) : Inv X pins σ H' s' := by
  obtain ⟨h', g', d', t', o'⟩ := s'
  have e : o' = s.os := ho
  subst e
  exact I.call (g' := g') (t' := t') (d' := d') u hok hg hch
end

noncomputable abbrev XK := Value → Option Addr → Hp → Prop
noncomputable abbrev St := List (Option V)
noncomputable abbrev VK := V → Hp → Prop
noncomputable abbrev TE := St → Hp → VK → Prop
noncomputable abbrev TT := St → Hp → (Bool → Hp → Prop) → Prop
noncomputable abbrev TA := St → Hp → (List V → Hp → Prop) → Prop
structure Ends where
  nx : St → Hp → Prop
  rt : VK
  bk : St → Hp → Prop := fun _ _ => False
  ct : St → Hp → Prop := fun _ _ => False
noncomputable abbrev TS := Ends → St → Hp → Prop

noncomputable def EP (X : Cx) (pins : List (Addr × Obj)) (σ : St) (Q : VK) (u : Value) (s' : Shared) : Prop := ∃ v H', Inv X pins σ H' s' ∧ RelV v u ∧ Q v H'
noncomputable def TP (X : Cx) (pins : List (Addr × Obj)) (σ : St) (Q : Bool → Hp → Prop) (b : Bool) (s' : Shared) : Prop := ∃ H', Inv X pins σ H' s' ∧ Q b H'
noncomputable def AP (X : Cx) (pins : List (Addr × Obj)) (σ : St) (Q : List V → Hp → Prop) (us : List Value) (s' : Shared) : Prop := ∃ vs H', Inv X pins σ H' s' ∧ Vals vs us ∧ Q vs H'
noncomputable def SP (X : Cx) (pins : List (Addr × Obj)) (D : Ends) (f : Flow) (s' : Shared) : Prop :=
  match f with
  | .next => ∃ σ' H', Inv X pins σ' H' s' ∧ D.nx σ' H'
  | .brk => ∃ σ' H', Inv X pins σ' H' s' ∧ D.bk σ' H'
  | .cont => ∃ σ' H', Inv X pins σ' H' s' ∧ D.ct σ' H'
  | .ret u => ∃ v σ' H', Inv X pins σ' H' s' ∧ RelV v u ∧ D.rt v H'

noncomputable def PE (X : Cx) (e : Expr) (t : TE) : Prop :=
  ∀ (pins : List (Addr × Obj)) (s : Shared) (σ : St) (H : Hp) (Q : VK), Inv X pins σ H s → t σ H Q → wpAny (model X.prog X.w) X.A (eval e X.env) (EP X pins σ Q) X.xe s
noncomputable def PT (X : Cx) (e : Expr) (t : TT) : Prop :=
  ∀ (pins : List (Addr × Obj)) (s : Shared) (σ : St) (H : Hp) (Q : Bool → Hp → Prop), Inv X pins σ H s → t σ H Q → wpAny (model X.prog X.w) X.A (isTrue e X.env (eval e X.env)) (TP X pins σ Q) X.xe s
noncomputable def PW (X : Cx) (e : Expr) (t : TT) : Prop :=
  ∀ (whole : Sem Value) (pins : List (Addr × Obj)) (s : Shared) (σ : St) (H : Hp) (Q : Bool → Hp → Prop), Inv X pins σ H s → t σ H Q → wpAny (model X.prog X.w) X.A (isTrue e X.env whole) (TP X pins σ Q) X.xe s
theorem PW.pt {X : Cx} {e : Expr} {t : TT} (h : PW X e t) : PT X e t := h _
noncomputable def PA (X : Cx) (es : List Expr) (t : TA) : Prop :=
  ∀ (pos : Pos) (pins : List (Addr × Obj)) (s : Shared) (σ : St) (H : Hp) (Q : List V → Hp → Prop), Inv X pins σ H s → t σ H Q → wpAny (model X.prog X.w) X.A (spliced (backTo pos (starEach es X.env))) (AP X pins σ Q) X.xe s
noncomputable def PS (X : Cx) (st : Stmt) (t : TS) : Prop :=
  ∀ (pins : List (Addr × Obj)) (s : Shared) (σ : St) (H : Hp) (D : Ends), Inv X pins σ H s → t D σ H → wpAny (model X.prog X.w) X.A (exec st X.env) (SP X pins D) X.xe s
noncomputable def PSs (X : Cx) (st : List Stmt) (t : TS) : Prop :=
  ∀ (pins : List (Addr × Obj)) (s : Shared) (σ : St) (H : Hp) (D : Ends), Inv X pins σ H s → t D σ H → wpAny (model X.prog X.w) X.A (execs st X.env) (SP X pins D) X.xe s
theorem thn {α : Type} {t : Sem α} {Q Q' : α → Shared → Prop} {M : Model} {A : Around} {E : Value → Shared → Prop} {s : Shared} (h : wpAny M A t Q E s) (hQ : ∀ a s, Q a s → Q' a s) : wpAny M A t Q' E s := wpAny_mono h hQ fun _ _ x => x
end L2

namespace L2
open PySem PySem.Spec PyProof.Rows
section
variable {X : Cx}

noncomputable def tVar (i : Nat) : TE := fun σ H Q => ∃ v, σ[i]? = some (some v) ∧ Q v H
noncomputable def tC (v : V) : TE := fun _ H Q => Q v H
theorem pe_var {i : Nat} {x : Str} {pos : Pos} (hN : X.N[i]? = some x) (hv : Vis X.env.scope x) (hd : (x == ("__debug__" : Str)) = false := by decide) (hcd : (x == ("__classdict__" : Str)) = false := by decide) : PE X (.Name x pos) (tVar i) := by
  intro pins s σ H Q I h
  obtain ⟨v, e, h⟩ := h
  obtain ⟨m, hn, hl⟩ := I.loc
  obtain ⟨u, r, l⟩ := hl i x v hN e hv
  have fin : EP X pins σ Q u s := ⟨v, H, I, r, h⟩
  rcases l with ⟨hk, hm⟩ | ⟨hk, c, hc, hcell⟩
  · exact wpAny_Name (wpAny_loadName_local I.ok.kind hk hn hm fin) hd
  · rcases hk with hk | hk
    · exact wpAny_Name (wpAny_loadName_cell I.ok.kind hk hc hcell fin) hd
    · exact wpAny_Name (wpAny_loadName_free I.ok.kind hk hc hcell fin hcd) hd
theorem pe_int {i j pos} : PE X (.Constant (.int i) j pos) (tC (.int i)) := fun _ _ _ H _ I h => wpAny_Constant_int ⟨.int i, H, I.tok _, ⟨_, rfl⟩, h⟩
theorem pe_bl {b j pos} : PE X (.Constant (.bool b) j pos) (tC (.bl b)) := fun _ _ _ H _ I h => Constant_bool ⟨.bl b, H, I, rfl, h⟩
theorem pe_str {x j pos} : PE X (.Constant (.str x) j pos) (tC (.str x)) := fun _ _ _ H _ I h => Calls.Constant_str ⟨.str x, H, I.tok _, ⟨_, rfl⟩, h⟩

noncomputable def Gl (X : Cx) (x : Str) : Prop := X.env.kindOf x = some .globalImplicit
theorem ld_glob {E : Value → Shared → Prop} {pins : List (Addr × Obj)} {s : Shared} {σ : St} {H : Hp} {x : Str} {u : Value} {pos : Pos} {Q : Value → Shared → Prop} (I : Inv X pins σ H s) (hg : Gl X x) (hm : X.mg x = some u) (h : Q u s)
    (hd : (x == ("__debug__" : Str)) = false := by decide) : wpAny (model X.prog X.w) X.A (eval (.Name x pos) X.env) Q E s :=
  Calls.Name_function_global I.ok.kind hg (Calls.loadGlobal_global (by rw [I.ok.glob]; exact I.mod.glob.keeps I.bk) hm h) hd
theorem ld_blt {E : Value → Shared → Prop} {pins : List (Addr × Obj)} {s : Shared} {σ : St} {H : Hp} {x : Str} {u : Value} {pos : Pos} {Q : Value → Shared → Prop} (I : Inv X pins σ H s) (hg : Gl X x) (hm : X.mg x = none) (hv : bootBuiltins x = some u) (h : Q u s)
    (hn : x ≠ "__name__" := by decide) (hd : (x == ("__debug__" : Str)) = false := by decide) : wpAny (model X.prog X.w) X.A (eval (.Name x pos) X.env) Q E s := by
  obtain ⟨mb, h1, h2⟩ := I.mod.blt
  exact Calls.Name_function_global I.ok.kind hg (Calls.loadGlobal_builtin (by rw [I.ok.glob]; exact I.mod.glob.keeps I.bk) hm (by rw [I.ok.blt]; exact h1.keeps I.bk) ((h2 x hn).trans hv) h) hd
variable {a b : Expr} {ta tb : TE} {pos : Pos}
noncomputable def tB (t : TE) : TT := fun σ H Q => t σ H fun x H1 => ∃ c, x = .bl c ∧ Q c H1
theorem pt_val {e : Expr} {t : TE} (h : PE X e t) (he : ∀ whole, isTrue e X.env whole = (do let v ← whole; standAt e.pos; holding [v] (truthy v)) := by intro _; rfl) : PT X e (tB t) := by
  intro pins s σ H Q I hw
  refine isTrue_plain (thn (h pins s σ H _ I hw) fun v s1 ⟨x, H1, I1, r1, q1⟩ => ?_) (he _)
  obtain ⟨d, rfl, q⟩ := q1
  cases r1
  exact wpAny_truthy_bool ⟨H1, I1, q⟩

variable {tA tB' : TT} {rest : List Expr}
noncomputable def tAnd (t u : TT) : TT := fun σ H Q => t σ H fun c H1 => if c = true then u σ H1 Q else Q false H1
noncomputable def tOr (t u : TT) : TT := fun σ H Q => t σ H fun c H1 => if c = true then Q true H1 else u σ H1 Q
noncomputable def tNot (t : TT) : TT := fun σ H Q => t σ H fun c H1 => Q (!c) H1
theorem pw_and1 (ha : PT X a tA) : PW X (.BoolOp .And [a] pos) tA := by
  intro wh pins s σ H Q I h
  refine isTrue_and (thn (ha pins s σ H Q I h) fun c s1 e => ?_)
  cases c with
  | true => exact isTrue_and_nil e
  | false => exact e
theorem pw_or1 (ha : PT X a tA) : PW X (.BoolOp .Or [a] pos) tA := by
  intro wh pins s σ H Q I h
  refine isTrue_or (thn (ha pins s σ H Q I h) fun c s1 e => ?_)
  cases c with
  | false => exact isTrue_or_nil e
  | true => exact e
theorem pw_and (ha : PT X a tA) (hb : PW X (.BoolOp .And (b :: rest) pos) tB') : PW X (.BoolOp .And (a :: b :: rest) pos) (tAnd tA tB') := by
  intro wh pins s σ H Q I h
  refine isTrue_and (thn (ha pins s σ H _ I h) fun c s1 ⟨H1, I1, q1⟩ => ?_)
  cases c with
  | true => exact hb wh pins s1 σ H1 Q I1 q1
  | false => exact ⟨H1, I1, q1⟩
theorem pw_or (ha : PT X a tA) (hb : PW X (.BoolOp .Or (b :: rest) pos) tB') : PW X (.BoolOp .Or (a :: b :: rest) pos) (tOr tA tB') := by
  intro wh pins s σ H Q I h
  refine isTrue_or (thn (ha pins s σ H _ I h) fun c s1 ⟨H1, I1, q1⟩ => ?_)
  cases c with
  | true => exact ⟨H1, I1, q1⟩
  | false => exact hb wh pins s1 σ H1 Q I1 q1
theorem pt_not (ha : PT X a tA) : PT X (.UnaryOp .Not a pos) (tNot tA) := by
  intro pins s σ H Q I h
  exact isTrue_not (ha pins s σ H (fun c H1 => Q (!c) H1) I h)
noncomputable def tAndV (ta tb : TE) : TE := fun σ H Q => ta σ H fun x H1 => ∃ c, x = .bl c ∧ if c = true then tb σ H1 Q else Q (.bl false) H1
theorem pe_one {op} {t : TE} (h : PE X a t) : PE X (.BoolOp op [a] pos) t := fun pins s σ H Q I hw => BoolOp_one (h pins s σ H Q I hw)
theorem pe_and (ha : PE X a ta) (hb : PE X (.BoolOp .And (b :: rest) pos) tb) : PE X (.BoolOp .And (a :: b :: rest) pos) (tAndV ta tb) := by
  intro pins s σ H Q I h
  refine BoolOp_and (thn (ha pins s σ H _ I h) fun v s1 ⟨x, H1, I1, r1, q1⟩ => ?_)
  obtain ⟨c, rfl, q1⟩ := q1
  cases r1
  refine wpAny_truthy_bool ?_
  cases c with
  | true => exact hb pins s1 σ H1 Q I1 q1
  | false => exact ⟨.bl false, H1, I1, rfl, q1⟩
noncomputable def tIf (t : TT) (ta tb : TE) : TE := fun σ H Q => t σ H fun c H1 => if c = true then ta σ H1 Q else tb σ H1 Q
theorem pe_ifExp {c : Expr} (hc : PT X c tA) (ha : PE X a ta) (hb : PE X b tb) : PE X (.IfExp c a b pos) (tIf tA ta tb) := by
  intro pins s σ H Q I h
  refine wpAny_IfExp (thn (hc pins s σ H _ I h) fun d s1 ⟨H1, I1, q1⟩ => ?_)
  cases d with
  | true => exact ha pins s1 σ H1 Q I1 q1
  | false => exact hb pins s1 σ H1 Q I1 q1
end
end L2

namespace L2
open PySem PySem.Spec PyProof.Rows

noncomputable def SqL (K : PySem.W.Frag) (H : Hp) (a : Addr) (xs : List V) : Prop :=
  Rd H a (.lst xs) ∨
    ∃ (o : Obj) (its : Array Value) (n : Nat), K.lookup a = some o ∧ o.cls = .type "list" ∧ o.dict = none ∧ o.data = .seq its n ∧ its.size ≤ sizeLine ∧ Vals xs its.toList
noncomputable def SqT (K : PySem.W.Frag) (H : Hp) (a : Addr) (xs : List V) : Prop :=
  Rd H a (.tup xs) ∨
    ∃ (o : Obj) (its : Array Value) (n : Nat), K.lookup a = some o ∧ o.cls = .type "tuple" ∧ o.data = .seq its n ∧ its.size ≤ sizeLine ∧ Vals xs its.toList
noncomputable def absV : Value → Option V
  | .none => some .non
  | .bool b => some (.bl b)
  | .int i _ => some (.int i)
  | .str x _ => some (.str x)
  | .bytes b _ => some (.byt b)
  | .float b _ => some (.flt b)
  | .ref a => some (.ref a)
  | .type n => some (.ty n)
  | _ => none
theorem RelV.abs {x : V} {u : Value} (r : RelV x u) : absV u = some x := by
  cases x with
  | non => cases r; rfl
  | bl _ => cases r; rfl
  | int _ => obtain ⟨t, rfl⟩ := r; rfl
  | str _ => obtain ⟨t, rfl⟩ := r; rfl
  | byt _ => obtain ⟨t, rfl⟩ := r; rfl
  | flt _ => obtain ⟨t, rfl⟩ := r; rfl
  | ref _ => cases r; rfl
  | ty _ => cases r; rfl
theorem RelV.inj {x y : V} {u : Value} (r : RelV x u) (q : RelV y u) : x = y := Option.some.inj (r.abs.symm.trans q.abs)
theorem Vals.inj : ∀ {xs ys : List V} {us : List Value}, Vals xs us → Vals ys us → xs = ys
  | _, _, _, .nil, .nil => rfl
  | _, _, _, .cons r t, .cons r' t' => by rw [r.inj r', Vals.inj t t']
section
variable {X : Cx} {pins : List (Addr × Obj)} {σ : St} {H : Hp} {s : Shared} {a : Addr} {xs ys : List V}
theorem SqL.of {K : PySem.W.Frag} (h : H a = some (.lst xs)) : SqL K H a xs := .inl (.inl h)
theorem SqT.of {K : PySem.W.Frag} (h : H a = some (.tup xs)) : SqT K H a xs := .inl (.inl h)
theorem Inv.list (I : Inv X pins σ H s) (h : SqL X.K H a xs) : ∃ its : List Value, Vals xs its ∧ PlainL s.heap a its.toArray ∧ xs.length ≤ sizeLine := by
  rcases h with h | ⟨o, its, n, hk, hc, hd, hs, hz, r⟩
  · obtain ⟨z, its, n, r, e⟩ := h.ok I.hok
    exact ⟨its, r, ⟨_, n, e, rfl, rfl, rfl⟩, z⟩
  · refine ⟨its.toList, r, ⟨o, n, I.kIn a o hk, hc, hd, by simpa using hs⟩, ?_⟩
    have e := r.length
    simp only [Array.length_toList] at e
    omega
theorem Inv.tuple (I : Inv X pins σ H s) (h : SqT X.K H a xs) : ∃ its : List Value, Vals xs its ∧ IsTup s.heap a its.toArray ∧ xs.length ≤ sizeLine := by
  rcases h with h | ⟨o, its, n, hk, hc, hs, hz, r⟩
  · obtain ⟨z, its, r, p⟩ := h.ok I.hok
    exact ⟨its, r, p, z⟩
  · refine ⟨its.toList, r, ⟨o, I.kIn a o hk, hc, n, by simpa using hs⟩, ?_⟩
    have e := r.length
    simp only [Array.length_toList] at e
    omega
theorem Inv.list_inj (I : Inv X pins σ H s) (h : SqL X.K H a xs) (h' : SqL X.K H a ys) : xs = ys := by
  obtain ⟨its, r, ⟨o, n, e, _, _, d⟩, _⟩ := I.list h
  obtain ⟨its', r', ⟨o', n', e', _, _, d'⟩, _⟩ := I.list h'
  rw [e] at e'; cases e'
  rw [d] at d'
  injection d' with d1 _
  have : its = its' := by simpa using congrArg Array.toList d1
  subst this
  exact r.inj r'
theorem Inv.tuple_inj (I : Inv X pins σ H s) (h : SqT X.K H a xs) (h' : SqT X.K H a ys) : xs = ys := by
  obtain ⟨its, r, ⟨o, e, _, n, d⟩, _⟩ := I.tuple h
  obtain ⟨its', r', ⟨o', e', _, n', d'⟩, _⟩ := I.tuple h'
  rw [e] at e'; cases e'
  rw [d] at d'
  injection d' with d1 _
  have : its = its' := by simpa using congrArg Array.toList d1
  subst this
  exact r.inj r'
end

noncomputable abbrev Cx.wish (X : Cx) (E : Value → Shared → Prop) : Cx := { X with xe := E }
noncomputable abbrev Cx.nox (X : Cx) : Cx := X.wish fun _ _ => False
theorem Cx.Ok.wish {X : Cx} (ok : X.Ok) (E : Value → Shared → Prop) : (X.wish E).Ok :=
  ⟨ok.mod, ok.kind, ok.glob, ok.blt, ok.above, ok.inj, ok.has, ok.cab, ok.hd, ok.frames, ok.stk, ok.exf, ok.bs, ok.bsz, ok.noex, ok.exfs, ok.funs, ok.frf⟩
theorem Cx.Ok.unwish {X : Cx} {E : Value → Shared → Prop} (ok : (X.wish E).Ok) : X.Ok :=
  ⟨ok.mod, ok.kind, ok.glob, ok.blt, ok.above, ok.inj, ok.has, ok.cab, ok.hd, ok.frames, ok.stk, ok.exf, ok.bs, ok.bsz, ok.noex, ok.exfs, ok.funs, ok.frf⟩
section
variable {X : Cx} {pins : List (Addr × Obj)} {σ : St} {H : Hp} {s : Shared} {E : Value → Shared → Prop}
theorem Inv.wish (I : Inv X pins σ H s) (E : Value → Shared → Prop) : Inv (X.wish E) pins σ H s := ⟨I.ok.wish E, I.os, I.bare, I.base, I.loc, I.cell, I.free, I.freeC, I.pin, I.hok, I.len⟩
theorem Inv.unwish (I : Inv (X.wish E) pins σ H s) : Inv X pins σ H s := ⟨I.ok.unwish, I.os, I.bare, I.base, I.loc, I.cell, I.free, I.freeC, I.pin, I.hok, I.len⟩
theorem SP.unwish {D : Ends} {f : Flow} {s' : Shared} (h : SP (X.wish E) pins D f s') : SP X pins D f s' := by
  cases f with
  | next => obtain ⟨σ', H', I, q⟩ := h; exact ⟨σ', H', I.unwish, q⟩
  | brk => obtain ⟨σ', H', I, q⟩ := h; exact ⟨σ', H', I.unwish, q⟩
  | cont => obtain ⟨σ', H', I, q⟩ := h; exact ⟨σ', H', I.unwish, q⟩
  | ret u => obtain ⟨v, σ', H', I, r, q⟩ := h; exact ⟨v, σ', H', I.unwish, r, q⟩
theorem PE.nox {e : Expr} {t : TE} (h : PE X.nox e t) : PE X e t := fun pins s σ H Q I hw =>
  wpAny_mono (h pins s σ H Q (I.wish _) hw) (fun _ _ ⟨v, H', I', r, q⟩ => ⟨v, H', I'.unwish, r, q⟩) fun _ _ z => False.elim z
theorem PT.nox {e : Expr} {t : TT} (h : PT X.nox e t) : PT X e t := fun pins s σ H Q I hw =>
  wpAny_mono (h pins s σ H Q (I.wish _) hw) (fun _ _ ⟨H', I', q⟩ => ⟨H', I'.unwish, q⟩) fun _ _ z => False.elim z
theorem PSs.nox {st : List Stmt} {t : TS} (h : PSs X.nox st t) : PSs X st t := fun pins s σ H D I hw =>
  wpAny_mono (h pins s σ H D (I.wish _) hw) (fun _ _ q => q.unwish) fun _ _ z => False.elim z
end

section
variable {X : Cx} {st : Stmt} {rest : List Stmt} {t u : TS} {e : Expr} {te : TE} {pos : Pos}
noncomputable def tNext : TS := fun D σ H => D.nx σ H
noncomputable def tSeq (t u : TS) : TS := fun D σ H => t { D with nx := u D } σ H
theorem pss_nil : PSs X [] tNext := fun _ _ σ H _ I h => wpAny_execs_nil ⟨σ, H, I, h⟩
theorem pss_cons (h1 : PS X st t) (h2 : PSs X rest u) : PSs X (st :: rest) (tSeq t u) := by
  intro pins s σ H D I h
  refine wpAny_execs_cons (thn (h1 pins s σ H { D with nx := u D } I h) fun f s1 q => ?_)
  cases f with
  | next =>
    obtain ⟨σ', H', I', q⟩ := q
    exact h2 pins s1 σ' H' D I' q
  | ret v => exact q
  | brk => exact q
  | cont => exact q
theorem pss_one (h1 : PS X st t) : PSs X [st] t := by
  intro pins s σ H D I h
  refine wpAny_execs_cons (thn (h1 pins s σ H D I h) fun f s1 q => ?_)
  cases f with
  | next => exact wpAny_execs_nil q
  | ret v => exact q
  | brk => exact q
  | cont => exact q
theorem Inv.quiet {pins : List (Addr × Obj)} {σ : St} {H : Hp} {s : Shared} (I : Inv X pins σ H s) : interactive X.env = false := by simp [interactive, I.ok.kind]
noncomputable def tDrop (te : TE) : TS := fun D σ H => te σ H fun _ H1 => D.nx σ H1
theorem ps_expr (he : PE X e te) (hs : swapsWith e none pos.line X.env = pure false := by rfl) : PS X (.Expr e pos) (tDrop te) := by
  intro pins s σ H D I h
  exact wpAny_Expr_any (thn (he pins s σ H _ I h) fun v s1 ⟨x, H1, I1, r1, q1⟩ => ⟨σ, H1, I1, q1⟩) I.quiet hs
noncomputable def tRet (te : TE) : TS := fun D σ H => te σ H D.rt
theorem ps_ret (he : PE X e te) : PS X (.Return (some e) pos) (tRet te) := by
  intro pins s σ H D I h
  exact wpAny_Return_some (thn (he pins s σ H _ I h) fun v s1 ⟨x, H1, I1, r1, q1⟩ => ⟨x, σ, H1, I1, r1, q1⟩)
noncomputable def tIfS (c : TT) (t u : TS) : TS := fun D σ H => c σ H fun b H1 => if b = true then t D σ H1 else u D σ H1
theorem ps_if {c : Expr} {a b : List Stmt} {tc : TT} (hc : PT X c tc) (ha : PSs X a t) (hb : PSs X b u) : PS X (.If c a b pos) (tIfS tc t u) := by
  intro pins s σ H D I h
  refine wpAny_If (thn (hc pins s σ H _ I h) fun d s1 ⟨H1, I1, q1⟩ => ?_)
  cases d with
  | true => exact ha pins s1 σ H1 D I1 q1
  | false => exact hb pins s1 σ H1 D I1 q1
end

noncomputable abbrev TG := V → St → Hp → (St → Hp → Prop) → Prop
noncomputable abbrev TGs := List V → St → Hp → (St → Hp → Prop) → Prop
noncomputable def PG (X : Cx) (target : Expr) (t : TG) : Prop :=
  ∀ (pins : List (Addr × Obj)) (s : Shared) (σ : St) (H : Hp) (v : V) (u : Value) (Q : St → Hp → Prop), Inv X pins σ H s → RelV v u → t v σ H Q →
    wpAny (model X.prog X.w) X.A (assign target X.env u) (fun _ s' => ∃ σ' H', Inv X pins σ' H' s' ∧ Q σ' H') X.xe s
noncomputable def PGs (X : Cx) (ts : List Expr) (t : TGs) : Prop :=
  ∀ (pins : List (Addr × Obj)) (s : Shared) (σ : St) (H : Hp) (vs : List V) (us : List Value) (Q : St → Hp → Prop), Inv X pins σ H s → Vals vs us → t vs σ H Q →
    wpAny (model X.prog X.w) X.A (assignInOrder ((assignEach ts X.env).map (·.2)) us) (fun _ s' => ∃ σ' H', Inv X pins σ' H' s' ∧ Q σ' H') X.xe s
section
variable {X : Cx} {pos : Pos}
noncomputable def gName (i : Nat) : TG := fun v σ H Q => Q (σ.set i (some v)) H
theorem pg_name {i : Nat} {x : Str} (hN : X.N.Nodup) (hi : X.N[i]? = some x) (hx : Loc X.env.scope x) (hf : X.fn x = true ∨ X.env.scope.names.lookup x = some .local := by first | exact .inl rfl | exact .inr rfl | assumption) : PG X (.Name x pos) (gName i) := by
  intro pins s σ H v u Q I r h
  exact wpAny_assign_Name (store_ok I hN hi hx r (fun s' I' => ⟨_, H, I', h⟩) hf)
noncomputable def gNil : TGs := fun vs σ H Q => vs = [] ∧ Q σ H
noncomputable def gCons (t : TG) (u : TGs) : TGs := fun vs σ H Q => ∃ v r, vs = v :: r ∧ t v σ H fun σ' H' => u r σ' H' Q
theorem pgs_nil : PGs X [] gNil := by
  intro pins s σ H vs us Q I r h
  obtain ⟨e, h⟩ := h
  subst e
  cases r
  exact assignInOrder_nil ⟨σ, H, I, h⟩
theorem pgs_cons {e : Expr} {es : List Expr} {t : TG} {u : TGs} (h1 : PG X e t) (h2 : PGs X es u)
    (hs : (assignEach (e :: es) X.env).map (·.2) = assign e X.env :: (assignEach es X.env).map (·.2) := by rfl) : PGs X (e :: es) (gCons t u) := by
  intro pins s σ H vs us Q I r h
  obtain ⟨v, vr, e1, h⟩ := h
  subst e1
  cases r with
  | cons r rr =>
    rw [hs]
    refine assignInOrder_cons (thn (h1 pins s σ H _ _ _ I r h) fun _ s1 ⟨σ1, H1, I1, q1⟩ => ?_)
    exact h2 pins s1 σ1 H1 _ _ Q I1 rr q1
noncomputable def gTup (K : PySem.W.Frag) (n : Nat) (t : TGs) : TG := fun v σ H Q => ∃ a xs, v = .ref a ∧ SqT K H a xs ∧ xs.length = n ∧ t xs σ H Q
theorem pg_tup {es : List Expr} {k : Nat} {t : TGs} {n : Nat} (hc : X.calm = true) (h : PGs X es t)
    (hn : (assignEach es X.env).length = n := by rfl) (hst : (assignEach es X.env).findIdx? (·.1) = none := by rfl) : PG X (.Tuple es k pos) (gTup X.K n t) := by
  intro pins s σ H v u Q I r hw
  obtain ⟨a, xs, e1, hq, hl, hw⟩ := hw
  subst e1
  cases r
  obtain ⟨its, rv, ht, hz⟩ := I.tuple hq
  refine assign_Tuple_tuple (I.ok.hd hc) ht (by simp [hn, ← hl, rv.length]) hst fun h' hx => ?_
  have I1 : Inv X pins σ H { s with heap := h' } := I.kept (t' := s.toks) fun b o e => hx b o (Nat.ne_of_lt (Heap.lt_size e)) e
  exact h pins _ σ H xs _ Q I1 (by simpa using rv) hw
noncomputable def tAsg (te : TE) (g : TG) : TS := fun D σ H => te σ H fun x H1 => g x σ H1 D.nx
theorem ps_asg {tg e : Expr} {te : TE} {g : TG} (he : PE X e te) (hg : PG X tg g) (hs : swapsWithSole [tg] e pos.line X.env = pure false := by rfl) (hw : swappedStores [tg] e X.env = pure none := by rfl)
    (h1 : (assignEach [tg] X.env).map (·.2) = [assign tg X.env] := by rfl) : PS X (.Assign [tg] e pos) (tAsg te g) := by
  intro pins s σ H D I h
  refine wpAny_Assign_stores (thn (he pins s σ H _ I h) fun v s1 ⟨x, H1, I1, r1, q1⟩ => ?_) hs hw
  rw [h1]
  exact thn (hg pins s1 σ H1 x v _ I1 r1 q1) fun _ s2 q => q
theorem ps_set {i : Nat} {x : Str} {e : Expr} {te : TE} {pos' : Pos} (hN : X.N.Nodup) (hi : X.N[i]? = some x) (hx : Loc X.env.scope x) (he : PE X e te) (hs : swapsWith e (some (.Name x pos')) pos.line X.env = pure false := by rfl) (hf : X.fn x = true ∨ X.env.scope.names.lookup x = some .local := by first | exact .inl rfl | exact .inr rfl | assumption) :
    PS X (.Assign [.Name x pos'] e pos) (tAsg te (gName i)) := by
  intro pins s σ H D I h
  refine wpAny_Assign_Name (thn (he pins s σ H _ I h) fun v s1 ⟨y, H1, I1, r1, q1⟩ => ?_) hs
  exact store_ok I1 hN hi hx r1 (fun s2 I2 => ⟨_, H1, I2, q1⟩) hf
end

section
variable {X : Cx} {pos : Pos}
end

structure It where
  go : Nat → Hp → Prop
  yld : Nat → Hp → V → Hp → Prop
  stop : Nat → Hp → Prop
noncomputable def FpOk (X : Cx) (pins : List (Addr × Obj)) (H : Hp) (b : Addr) : Prop :=
  H b = none ∧ b ≠ X.env.locals ∧ b ∉ X.fs ∧ (b ∈ X.ex ∨ X.s₀.heap.objs.size ≤ b) ∧ (∀ x c, X.env.cells.lookup x = some c → c ≠ b) ∧ ∀ p ∈ X.pn ++ pins, p.1 ≠ b
theorem Inv.fpOk {X : Cx} {pins : List (Addr × Obj)} {σ : St} {H H' : Hp} {s : Shared} {b : Addr} (I : Inv X pins σ H s) (hb : s.heap.objs.size ≤ b) (hn : H' b = none) : FpOk X pins H' b := by
  refine ⟨hn, Nat.ne_of_gt (Nat.lt_of_lt_of_le I.lt hb), I.nofs hb, .inr (Nat.le_trans I.sz hb), fun x c e z => ?_, fun p hp z => ?_⟩
  · obtain ⟨v, q⟩ := I.cell x c e
    exact absurd (Nat.lt_of_lt_of_le q.lt (by rw [z]; exact hb)) (Nat.lt_irrefl _)
  · exact absurd (Nat.lt_of_lt_of_le (Heap.lt_size (I.pin p hp).1) (by rw [z]; exact hb)) (Nat.lt_irrefl _)
structure Turn (P : Program) (w : World) (K : PySem.W.Frag) (tg : Expr) (J : It) (fp : List Addr) (it : Addr) (tn : Nat → Heap → Prop) : Prop where
  mem : it ∈ fp
  obj : ∀ i h, tn i h → ∀ b ∈ fp, ∃ o, h.get? b = some o ∧ ∀ v, o.data ≠ .cell v
  keep : ∀ i h h', tn i h → (∀ b ∈ fp, ∀ o, h.get? b = some o → h'.get? b = some o) → tn i h'
  item : ∀ (X : Cx), X.prog = P → X.w = w → X.K = K → X.calm = true → ∀ (i : Nat) (pins : List (Addr × Obj)) (s : Shared) (σ : St) (H : Hp) (E : Value → Shared → Prop), Inv X pins σ H s → (∀ b ∈ fp, FpOk X pins H b) → tn i s.heap → J.go i H →
    wpAny (model P w) X.A (pyNext (.ref it)) (fun r s1 => ∃ u, r = some u ∧
      wpAny (model P w) X.A (letOwnedTupleGo tg (.ref it) u) (fun _ s2 => ∃ x H', Inv X pins σ H' s2 ∧ RelV x u ∧ J.yld i H x H' ∧ tn (i + 1) s2.heap ∧ ∀ b ∈ fp, H' b = none) E s1) E s
  done : ∀ (X : Cx), X.prog = P → X.w = w → X.K = K → X.calm = true → ∀ (i : Nat) (pins : List (Addr × Obj)) (s : Shared) (σ : St) (H : Hp) (E : Value → Shared → Prop), Inv X pins σ H s → (∀ b ∈ fp, FpOk X pins H b) → tn i s.heap → J.stop i H →
    wpAny (model P w) X.A (pyNext (.ref it)) (fun r s1 => r = none ∧ Inv X pins σ H s1) E s
  self : ∀ (A : Around) (i : Nat) (s : Shared) (Q : Value → Shared → Prop) (E : Value → Shared → Prop), tn i s.heap → Q (.ref it) s → wpAny (model P w) A (pyIter (.ref it)) Q E s
noncomputable abbrev TI := St → Hp → (It → Hp → Prop) → Prop
noncomputable def PIE (X : Cx) (pins : List (Addr × Obj)) (σ : St) (tg : Expr) (R : It → Hp → Prop) (itv : Value) (s2 : Shared) : Prop :=
  ∃ (it : Addr) (fp : List Addr) (tn : Nat → Heap → Prop) (J : It) (H' : Hp), itv = .ref it ∧ Inv X pins σ H' s2 ∧ Turn X.prog X.w X.K tg J fp it tn ∧ tn 0 s2.heap ∧ (∀ b ∈ fp, FpOk X pins H' b) ∧ R J H'
noncomputable def PI (X : Cx) (tg iter : Expr) (wi : TI) : Prop :=
  ∀ (pins : List (Addr × Obj)) (s : Shared) (σ : St) (H : Hp) (R : It → Hp → Prop), Inv X pins σ H s → wi σ H R →
    wpAny (model X.prog X.w) X.A (eval iter X.env) (fun v s1 => wpAny (model X.prog X.w) X.A (pyIter v) (PIE X pins σ tg R) X.xe s1) X.xe s

theorem go_of {M : Model} {A : Around} {E : Value → Shared → Prop} {s : Shared} {tg : Expr} {it : Addr} {u : Value} {o : Obj} {n : String} {vs : Array Value} {Q : Unit → Shared → Prop} (ho : s.heap.get? it = some o) (hc : o.cls = .type n) (hd : o.data = .fields vs)
    (hn : ["enumerate", "zip", "dict_itemiterator", "dict_reverseitemiterator", "odict_iterator", "itertools.zip_longest", "itertools.pairwise"].contains n = false) (hQ : Q () s) : wpAny M A (letOwnedTupleGo tg (.ref it) u) Q E s := by
  unfold letOwnedTupleGo
  cases tg <;> first
    | exact wpAny_pure hQ
    | (cases u <;> first
        | exact wpAny_pure hQ
        | (refine wpAny_bind (wpAny_load ho ?_)
           rw [hc, hd]
           show wpAny M A (if (["enumerate", "zip", "dict_itemiterator", "dict_reverseitemiterator", "odict_iterator", "itertools.zip_longest", "itertools.pairwise"].contains n && vs[0]? == some (rawInt _)) = true then _ else _) Q E s
           rw [if_neg (by intro h; rw [hn, Bool.false_and] at h; cases h)]
           exact wpAny_pure hQ))

noncomputable def Itl (K : PySem.W.Frag) (a : Addr) : It :=
  ⟨fun i H => ∃ xs x, SqL K H a xs ∧ xs[i]? = some x, fun i H x H' => H' = H ∧ ∀ xs, SqL K H a xs → xs[i]? = some x, fun i H => ∃ xs, SqL K H a xs ∧ xs.length ≤ i⟩
noncomputable def Itt (K : PySem.W.Frag) (a : Addr) : It :=
  ⟨fun i H => ∃ xs x, SqT K H a xs ∧ xs[i]? = some x, fun i H x H' => H' = H ∧ ∀ xs, SqT K H a xs → xs[i]? = some x, fun i H => ∃ xs, SqT K H a xs ∧ xs.length ≤ i⟩
noncomputable def Itr (lo : Int) (n : Nat) : It := ⟨fun i _ => i < n, fun i H x H' => H' = H ∧ x = .int (lo + i), fun i _ => n ≤ i⟩
theorem turn_list {P : Program} {w : World} {K : PySem.W.Frag} {tg : Expr} (a it : Addr) : Turn P w K tg (Itl K a) [it] it (fun i h => h.IsListIter it a i) where
  mem := by simp
  obj := fun i h st b hb => by
    have e : b = it := by simpa using hb
    subst e
    obtain ⟨o, e, c, d⟩ := st
    exact ⟨o, e, fun v z => by rw [d] at z; cases z⟩
  keep := fun i h h' st k => st.at fun o e => k it (by simp) o e
  item := by
    intro X hP hw hK hc i pins s σ H E I hf st hg
    subst hP hw hK
    obtain ⟨xs, x, hq, hx⟩ := hg
    obtain ⟨its, rv, p, hz⟩ := I.list hq
    obtain ⟨u, hu, ru⟩ := rv.get hx
    obtain ⟨f0, f1, f2, f3, f4, f5⟩ := hf it (by simp)
    refine wpAny_pyNext_list_item st p.isList (x := u) (by simpa using hu) fun h' st' sb => ?_
    have I1 : Inv X pins σ H { s with heap := h' } := I.turned (t' := s.toks) (fun b o hb e => (sb.2 b hb).trans e) f0 f1 f3 f4 f5
    obtain ⟨o, e, c, d⟩ := id st'
    exact ⟨u, rfl, go_of (s := { s with heap := h' }) e c d (by decide) ⟨x, H, I1, ru, ⟨rfl, fun ys hy => by rw [I.list_inj hy hq]; exact hx⟩, st', fun b hb => (hf b hb).1⟩⟩
  done := by
    intro X hP hw hK hc i pins s σ H E I hf st hg
    subst hP hw hK
    obtain ⟨xs, hq, hx⟩ := hg
    obtain ⟨its, rv, p, hz⟩ := I.list hq
    obtain ⟨f0, f1, f2, f3, f4, f5⟩ := hf it (by simp)
    have hl := rv.length
    exact wpAny_pyNext_list_end (I.ok.hd hc) st p.isList (by simp; omega) fun h' eb => ⟨rfl, I.turned (t' := s.toks) (fun b o hb e => eb b o hb e) f0 f1 f3 f4 f5⟩
  self := fun _ _ _ _ _ st h => wpAny_pyIter_listiter st h
theorem turn_tuple {P : Program} {w : World} {K : PySem.W.Frag} {tg : Expr} (a it : Addr) : Turn P w K tg (Itt K a) [it] it (fun i h => h.IsTupleIter it a i) where
  mem := by simp
  obj := fun i h st b hb => by
    have e : b = it := by simpa using hb
    subst e
    obtain ⟨o, e, c, d⟩ := st
    exact ⟨o, e, fun v z => by rw [d] at z; cases z⟩
  keep := fun i h h' st k => st.at fun o e => k it (by simp) o e
  item := by
    intro X hP hw hK hc i pins s σ H E I hf st hg
    subst hP hw hK
    obtain ⟨xs, x, hq, hx⟩ := hg
    obtain ⟨its, rv, p, hz⟩ := I.tuple hq
    obtain ⟨u, hu, ru⟩ := rv.get hx
    obtain ⟨f0, f1, f2, f3, f4, f5⟩ := hf it (by simp)
    refine wpAny_pyNext_tuple_item st (show s.heap.IsTuple a its.toArray from p) (x := u) (by simpa using hu) fun h' st' sb => ?_
    have I1 : Inv X pins σ H { s with heap := h' } := I.turned (t' := s.toks) (fun b o hb e => (sb.2 b hb).trans e) f0 f1 f3 f4 f5
    obtain ⟨o, e, c, d⟩ := id st'
    exact ⟨u, rfl, go_of (s := { s with heap := h' }) e c d (by decide) ⟨x, H, I1, ru, ⟨rfl, fun ys hy => by rw [I.tuple_inj hy hq]; exact hx⟩, st', fun b hb => (hf b hb).1⟩⟩
  done := by
    intro X hP hw hK hc i pins s σ H E I hf st hg
    subst hP hw hK
    obtain ⟨xs, hq, hx⟩ := hg
    obtain ⟨its, rv, p, hz⟩ := I.tuple hq
    obtain ⟨f0, f1, f2, f3, f4, f5⟩ := hf it (by simp)
    have hl := rv.length
    exact wpAny_pyNext_tuple_end (I.ok.hd hc) st (show s.heap.IsTuple a its.toArray from p) (by simp; omega) fun h' eb => ⟨rfl, I.turned (t' := s.toks) (fun b o hb e => eb b o hb e) f0 f1 f3 f4 f5⟩
  self := fun _ _ _ _ _ st h => wpAny_pyIter_tupleiter st h
theorem turn_range {P : Program} {w : World} {K : PySem.W.Frag} {tg : Expr} (it : Addr) (lo : Int) (n : Nat) : Turn P w K tg (Itr lo n) [it] it (fun i h => IsRangeIter h it (lo + (i : Nat) * 1) ((n : Int) - (i : Nat)) 1) where
  mem := by simp
  obj := fun i h st b hb => by
    have e : b = it := by simpa using hb
    subst e
    exact ⟨_, st, fun v z => by
      have z' : Data.fields _ = Data.cell v := z
      cases z'⟩
  keep := fun i h h' st k => k it (by simp) _ st
  item := by
    intro X hP hw hK hc i pins s σ H E I hf st hg
    subst hP hw hK
    obtain ⟨f0, f1, f2, f3, f4, f5⟩ := hf it (by simp)
    have W := Walks.range (prog := X.prog) (w := X.w) (I.ok.hd hc) it lo 1 n
    refine W.item i s _ _ hg st fun v h' tk hv st' kk => ?_
    obtain ⟨t, rfl⟩ := hv
    have I1 : Inv X pins σ H { s with heap := h', toks := tk } := I.turned (fun b o hb e => kk b o (by simpa using hb) e) f0 f1 f3 f4 f5
    refine ⟨_, rfl, go_of (s := { s with heap := h', toks := tk }) (n := "range_iterator") st' rfl rfl (by decide) ⟨.int (lo + i), H, I1, ⟨t, ?_⟩, ⟨rfl, rfl⟩, st', fun b hb => (hf b hb).1⟩⟩
    rw [Int.mul_one]
  done := by
    intro X hP hw hK hc i pins s σ H E I hf st hg
    subst hP hw hK
    obtain ⟨f0, f1, f2, f3, f4, f5⟩ := hf it (by simp)
    exact wpAny_pyNext_range_end (I.ok.hd hc) st (by have : n ≤ i := hg; omega) fun h' eb => ⟨rfl, I.turned (t' := s.toks) (fun b o hb e => eb b o hb e) f0 f1 f3 f4 f5⟩
  self := fun _ _ _ _ _ st h => wpAny_pyIter_rangeiter st h
end L2

namespace L2
open PySem PySem.Spec PyProof.Rows
section
variable {X : Cx} {tg : Expr}
theorem range_it {pins : List (Addr × Obj)} {σ : St} {H : Hp} {s : Shared} {R : It → Hp → Prop} {E : Value → Shared → Prop} {lo hi : Int} {t u v : Tok} {tk : Nat} (I : Inv X pins σ H s) (h1 : -(2 ^ 62) ≤ lo) (h2 : lo < 2 ^ 62) (h3 : -(2 ^ 62) ≤ hi) (h4 : hi < 2 ^ 62)
    (q : R (Itr lo (hi - lo).toNat) H) : wpAny (model X.prog X.w) X.A (pyIter (.ref s.heap.objs.size)) (PIE X pins σ tg R) E { s with heap := s.heap.push { cls := .type "range", data := .fields #[.int lo t, .int hi u, .int 1 v] }, toks := tk } := by
  refine wpAny_pyIter_range (IsRange.new ..) (small_one h1 h2 h3 h4) ?_
  have I1 : Inv X pins σ H { s with heap := s.heap.push { cls := .type "range", data := .fields #[.int lo t, .int hi u, .int 1 v] }, toks := tk } := I.kept fun b o e => Heap.get?_push_of_some _ e
  refine ⟨(s.heap.push { cls := .type "range", data := .fields #[.int lo t, .int hi u, .int 1 v] }).objs.size, [(s.heap.push { cls := .type "range", data := .fields #[.int lo t, .int hi u, .int 1 v] }).objs.size], _, _, H, rfl,
    I1.kept (t' := tk) fun b o e => Heap.get?_push_of_some _ e, turn_range _ lo (hi - lo).toNat, ?_, fun b hb => ?_, q⟩
  · have e1 : lo + ((0 : Nat) : Int) * 1 = lo := by simp
    have e2 : (((hi - lo).toNat : Nat) : Int) - ((0 : Nat) : Int) = Builtin.Range.rangeSize lo hi 1 := by rw [rangeSize_one]; split <;> omega
    show IsRangeIter _ _ (lo + ((0 : Nat) : Int) * 1) ((((hi - lo).toNat : Nat) : Int) - ((0 : Nat) : Int)) 1
    rw [e1, e2]
    exact Heap.get?_push_size _ rfl
  · have e : b = (s.heap.push { cls := .type "range", data := .fields #[.int lo t, .int hi u, .int 1 v] }).objs.size := by simpa using hb
    subst e
    exact I1.fpOk (Nat.le_refl _) (I1.hok.fresh (Nat.le_refl _))
noncomputable def iRng1 (ta : TA) : TI := fun σ H R => ta σ H fun vs H1 => ∃ j : Int, vs = [.int j] ∧ -(2 ^ 62) ≤ j ∧ j < 2 ^ 62 ∧ R (Itr 0 j.toNat) H1
theorem pi_range1 {a : Expr} {ta : TA} {p pos : Pos} (hg : Gl X "range") (hm : X.mg "range" = none) (ha : PA X [a] ta) (hs : starEach [a] X.env = [(false, eval a X.env)] := by rfl) : PI X tg (.Call (.Name "range" p) [a] [] pos) (iRng1 ta) := by
  intro pins s σ H R I h
  refine Call_ (ld_blt I hg hm boot_range (PyProof.Rows.callWith_type1 (thn (ha pos pins s σ H _ I h) fun us s1 ⟨vs, H1, I1, r1, q1⟩ => ?_) hs rfl))
  obtain ⟨j, e, q1, q2, q⟩ := q1
  subst e
  cases r1 with
  | cons r rr =>
    cases rr
    obtain ⟨t, rfl⟩ := r
    exact call_range_1 (range_it I1 (by omega) (by omega) q1 q2 (by simpa using q))
noncomputable def tFor (wi : TI) (g : TG) (tb : TS) : TS := fun D σ H => wi σ H fun J H1 => ∃ W : Nat → Nat → St → Hp → Prop, (∃ m, W 0 m σ H1) ∧ ∀ i m σ H, W i m σ H →
  (J.stop i H ∧ D.nx σ H) ∨ (J.go i H ∧ ∃ N : St → Hp → Prop, (∀ σ' H', N σ' H' → ∃ m', m' < m ∧ W (i + 1) m' σ' H') ∧ ∀ x H', J.yld i H x H' → g x σ H' fun σ2 H2 => tb { D with nx := N, ct := N, bk := D.nx } σ2 H2)
noncomputable def pinsAt (fp : List Addr) (h : Heap) : List (Addr × Obj) := fp.filterMap fun b => (h.get? b).map fun o => (b, o)
theorem mem_pinsAt {fp : List Addr} {h : Heap} {b : Addr} {o : Obj} (hb : b ∈ fp) (e : h.get? b = some o) : (b, o) ∈ pinsAt fp h := List.mem_filterMap.mpr ⟨b, hb, by rw [e]; rfl⟩
theorem of_pinsAt {fp : List Addr} {h : Heap} {p : Addr × Obj} (hp : p ∈ pinsAt fp h) : p.1 ∈ fp ∧ h.get? p.1 = some p.2 := by
  obtain ⟨b, hb, e⟩ := List.mem_filterMap.mp hp
  cases q : h.get? b with
  | none => rw [q] at e; cases e
  | some o =>
    rw [q] at e
    have e' : (b, o) = p := Option.some.inj e
    subst e'
    exact ⟨hb, q⟩
theorem Inv.pinned {pins : List (Addr × Obj)} {σ : St} {H : Hp} {s : Shared} {fp : List Addr} (I : Inv X pins σ H s) (hf : ∀ b ∈ fp, FpOk X pins H b) (ho : ∀ b ∈ fp, ∃ o, s.heap.get? b = some o ∧ ∀ v, o.data ≠ .cell v) : Inv X (pins ++ pinsAt fp s.heap) σ H s :=
  I.pins_of fun p hp => (List.mem_append.mp hp).elim (fun z => I.pin p (List.mem_append_right _ z)) fun z => by
    obtain ⟨hb, e⟩ := of_pinsAt z
    obtain ⟨f0, f1, f2, _⟩ := hf p.1 hb
    obtain ⟨o, e', d⟩ := ho p.1 hb
    rw [e] at e'; cases e'
    exact ⟨e, f0, f1, f2, d⟩
theorem Inv.unpinned {pins pl : List (Addr × Obj)} {σ : St} {H : Hp} {s : Shared} (I : Inv X (pins ++ pl) σ H s) : Inv X pins σ H s := I.pins_of fun p hp => I.pin p (List.mem_append_right _ (List.mem_append_left _ hp))
theorem ps_for {iter : Expr} {body : List Stmt} {wi : TI} {g : TG} {tb : TS} {pos : Pos} (hp : PassesOwn (model X.prog X.w) X.A X.env X.xe) (hc : X.calm = true) (hi : PI X tg iter wi) (hg : PG X tg g) (hb : PSs X body tb)
    (hs : ∀ x, foldedSetIterable iter X.env x = pure x := by intro _; rfl) : PS X (.For tg iter body [] pos) (tFor wi g tb) := by
  intro pins s σ H D I h
  refine wpAny_For (thn (hi pins s σ H _ I h) fun v s1 h1 => thn h1 fun itv s2 h2 => ?_) hs
  obtain ⟨it, fp, tn, J, H2, e, I2, T, st2, f2, W, ⟨m0, w0⟩, turn⟩ := h2
  subst e
  -- what stays true of the iterator's objects through the loop
  have stat : ∀ {H' : Hp}, (∀ b ∈ fp, H' b = none) → ∀ b ∈ fp, FpOk X pins H' b := fun hn b hb => ⟨hn b hb, (f2 b hb).2⟩
  refine codeAny_forLoop_any (fun n s' => ∃ i σ' H', Inv X pins σ' H' s' ∧ tn i s'.heap ∧ (∀ b ∈ fp, H' b = none) ∧ W i n σ' H') ?_ m0 ⟨0, σ, H2, I2, st2, fun b hb => (f2 b hb).1, w0⟩
  rintro n s3 ⟨i, σ3, H3, I3, st3, fr3, w3⟩
  rcases turn i n σ3 H3 w3 with ⟨stop, qn⟩ | ⟨go, N, hN, step⟩
  · refine wpAny_passesOwn hp (thn (T.done X rfl rfl rfl hc i pins s3 σ3 H3 X.xe I3 (stat fr3) st3 stop) fun r s4 ⟨hr, I4⟩ => ?_)
    subst hr
    exact wpAny_execs_nil ⟨σ3, H3, I4, qn⟩
  · refine wpAny_passesOwn hp (thn (T.item X rfl rfl rfl hc i pins s3 σ3 H3 X.xe I3 (stat fr3) st3 go) fun r s4 ⟨u, hr, h4⟩ => ?_)
    subst hr
    refine wpAny_passesOwn hp (thn h4 fun _ s5 ⟨x, H5, I5, r5, y5, st5, fr5⟩ => ?_)
    have I5' := I5.pinned (stat fr5) (T.obj _ _ st5)
    refine wpAny_passesOwn hp (thn (hg _ s5 σ3 H5 x u _ I5' r5 (step x H5 y5)) fun _ s6 ⟨σ6, H6, I6, q6⟩ => ?_)
    refine wpAny_passesOwn hp (thn (hb _ s6 σ6 H6 _ I6 q6) fun f s7 q7 => ?_)
    have again : ∀ {σ7 : St} {H7 : Hp}, Inv X (pins ++ pinsAt fp s5.heap) σ7 H7 s7 → N σ7 H7 → ∃ m, m < n ∧ ∃ i σ' H', Inv X pins σ' H' s7 ∧ tn i s7.heap ∧ (∀ b ∈ fp, H' b = none) ∧ W i m σ' H' := fun {σ7 H7} I7 n7 => by
      obtain ⟨m', hm, w7⟩ := hN σ7 H7 n7
      refine ⟨m', hm, i + 1, σ7, H7, I7.unpinned, T.keep _ _ _ st5 fun b hb o e => (I7.pin (b, o) (List.mem_append_right _ (List.mem_append_right _ (mem_pinsAt hb e)))).1, fun b hb => ?_, w7⟩
      obtain ⟨o, e, d⟩ := T.obj _ _ st5 b hb
      exact (I7.pin (b, o) (List.mem_append_right _ (List.mem_append_right _ (mem_pinsAt hb e)))).2.1
    cases f with
    | next => obtain ⟨σ7, H7, I7, n7⟩ := q7; exact again I7 n7
    | cont => obtain ⟨σ7, H7, I7, n7⟩ := q7; exact again I7 n7
    | brk => obtain ⟨σ7, H7, I7, q7⟩ := q7; exact ⟨σ7, H7, I7.unpinned, q7⟩
    | ret v => obtain ⟨x7, σ7, H7, I7, r7, q7⟩ := q7; exact ⟨x7, σ7, H7, I7.unpinned, r7, q7⟩
end

end L2

namespace L2
open PySem PySem.Spec PyProof.Rows

noncomputable abbrev R2 := V → V → Hp → VK → Prop
noncomputable def OpR (X : Cx) (f : Value → Value → Sem Value) (r : R2) : Prop :=
  ∀ (pins : List (Addr × Obj)) (s : Shared) (σ : St) (H : Hp) (x y : V) (v u : Value) (Q : VK), Inv X pins σ H s → RelV x v → RelV y u → r x y H Q →
    wpAny (model X.prog X.w) X.A (f v u) (EP X pins σ Q) X.xe s
noncomputable def UnR (X : Cx) (f : Value → Sem Value) (r : V → Hp → VK → Prop) : Prop :=
  ∀ (pins : List (Addr × Obj)) (s : Shared) (σ : St) (H : Hp) (x : V) (v : Value) (Q : VK), Inv X pins σ H s → RelV x v → r x H Q →
    wpAny (model X.prog X.w) X.A (f v) (EP X pins σ Q) X.xe s
noncomputable def CallR (X : Cx) (f : Value) (r : List V → Hp → VK → Prop) : Prop :=
  ∀ (pins : List (Addr × Obj)) (s : Shared) (σ : St) (H : Hp) (xs : List V) (us : List Value) (Q : VK), Inv X pins σ H s → Vals xs us → r xs H Q →
    wpAny (model X.prog X.w) X.A (call f us) (EP X pins σ Q) X.xe s
noncomputable def tOp (r : R2) (ta tb : TE) : TE := fun σ H Q => ta σ H fun x H1 => tb σ H1 fun y H2 => r x y H2 Q
noncomputable def tUn (r : V → Hp → VK → Prop) (ta : TE) : TE := fun σ H Q => ta σ H fun x H1 => r x H1 Q
noncomputable def rI (C : Int → Int → Prop) (g : Int → Int → V) : R2 := fun x y H Q => ∃ i j, x = .int i ∧ y = .int j ∧ C i j ∧ Q (g i j) H
noncomputable def rI0 (g : Int → Int → V) : R2 := fun x y H Q => ∃ i j, x = .int i ∧ y = .int j ∧ Q (g i j) H
noncomputable def rU (g : Int → V) : V → Hp → VK → Prop := fun x H Q => ∃ i, x = .int i ∧ Q (g i) H

section
variable {X : Cx} {a b c : Expr} {ta tb tc : TE} {pos : Pos}

theorem binT (ha : PE X a ta) (hb : PE X b tb) {pins : List (Addr × Obj)} {s : Shared} {σ : St} {H : Hp} {R : V → V → Hp → Prop} (I : Inv X pins σ H s)
    (h : ta σ H fun x H1 => tb σ H1 fun y H2 => R x y H2) {Q : Value → Shared → Prop} {f : Value → Value → Sem Value}
    (hf : ∀ v u s2 x y H2, Inv X pins σ H2 s2 → RelV x v → RelV y u → R x y H2 → wpAny (model X.prog X.w) X.A (f v u) Q X.xe s2) :
    wpAny (model X.prog X.w) X.A (eval a X.env) (fun v s₁ => wpAny (model X.prog X.w) X.A (eval b X.env) (fun u s₂ => wpAny (model X.prog X.w) X.A (f v u) Q X.xe s₂) X.xe s₁) X.xe s := by
  refine thn (ha pins s σ H _ I h) fun v s1 ⟨x, H1, I1, r1, q1⟩ => ?_
  refine thn (hb pins s1 σ H1 _ I1 q1) fun u s2 ⟨y, H2, I2, r2, q2⟩ => ?_
  exact hf v u s2 x y H2 I2 r1 r2 q2

theorem pe_op {op : Operator} {r : R2} (ho : OpR X (binaryOp op) r) (ha : PE X a ta) (hb : PE X b tb) : PE X (.BinOp a op b pos) (tOp r ta tb) := by
  intro pins s σ H Q I h
  exact wpAny_BinOp (binT ha hb I h fun v u s2 x y H2 I2 rx ry q => ho pins s2 σ H2 x y v u Q I2 rx ry q)
theorem pe_un {op : UnaryOp} {r : V → Hp → VK → Prop} (ho : UnR X (unaryOp op) r) (ha : PE X a ta) : PE X (.UnaryOp op a pos) (tUn r ta) := by
  intro pins s σ H Q I h
  exact UnaryOp_ (thn (ha pins s σ H _ I h) fun v s1 ⟨x, H1, I1, r1, q1⟩ => ho pins s1 σ H1 x v Q I1 r1 q1)
theorem opI {f : Value → Value → Sem Value} {C : Int → Int → Prop} {g : Int → Int → Int}
    (rule : ∀ (i j : Int) (t u : Tok) (s : Shared) (Q : Value → Shared → Prop) (E : Value → Shared → Prop), C i j → Q (.int (g i j) s.toks) { s with toks := s.toks + 1 } → wpAny (model X.prog X.w) X.A (f (.int i t) (.int j u)) Q E s) :
    OpR X f (rI C fun i j => .int (g i j)) := by
  intro pins s σ H x y v u Q I rx ry h
  obtain ⟨i, j, rfl, rfl, hc, q⟩ := h
  obtain ⟨t, rfl⟩ := rx
  obtain ⟨t', rfl⟩ := ry
  exact rule i j t t' s _ _ hc ⟨.int (g i j), H, I.tok _, ⟨_, rfl⟩, q⟩
theorem opI0 {f : Value → Value → Sem Value} {g : Int → Int → Int}
    (rule : ∀ (i j : Int) (t u : Tok) (s : Shared) (Q : Value → Shared → Prop) (E : Value → Shared → Prop), Q (.int (g i j) s.toks) { s with toks := s.toks + 1 } → wpAny (model X.prog X.w) X.A (f (.int i t) (.int j u)) Q E s) :
    OpR X f (rI0 fun i j => .int (g i j)) := by
  intro pins s σ H x y v u Q I rx ry h
  obtain ⟨i, j, rfl, rfl, q⟩ := h
  obtain ⟨t, rfl⟩ := rx
  obtain ⟨t', rfl⟩ := ry
  exact rule i j t t' s _ _ ⟨.int (g i j), H, I.tok _, ⟨_, rfl⟩, q⟩
theorem opB0 {f : Value → Value → Sem Value} {g : Int → Int → Bool}
    (rule : ∀ (i j : Int) (t u : Tok) (s : Shared) (Q : Value → Shared → Prop) (E : Value → Shared → Prop), Q (.bool (g i j)) s → wpAny (model X.prog X.w) X.A (f (.int i t) (.int j u)) Q E s) :
    OpR X f (rI0 fun i j => .bl (g i j)) := by
  intro pins s σ H x y v u Q I rx ry h
  obtain ⟨i, j, rfl, rfl, q⟩ := h
  obtain ⟨t, rfl⟩ := rx
  obtain ⟨t', rfl⟩ := ry
  exact rule i j t t' s _ _ ⟨.bl (g i j), H, I, rfl, q⟩

noncomputable def CPow (i j : Int) : Prop := 0 ≤ j ∧ j ≤ 1000000 ∧ i.natAbs < 2 ^ 64
noncomputable def CMul (i j : Int) : Prop := (-(2 ^ 64) < i ∧ i < 2 ^ 64) ∨ (-(2 ^ 64) < j ∧ j < 2 ^ 64)
theorem CMul.ok {i j : Int} (h : CMul i j) : IntMulOk i j := by
  rcases h with ⟨h1, h2⟩ | ⟨h1, h2⟩
  · exact .of_left (intBits_le_64 h1 h2)
  · exact .of_right (intBits_le_64 h1 h2)
theorem two_pow_nn (k : Nat) : (0 : Int) ≤ 2 ^ k := by
  rw [two_pow_cast]
  exact Int.natCast_nonneg _

theorem op_add : OpR X (binaryOp .Add) (rI0 fun i j => .int (i + j)) := opI0 fun _ _ _ _ _ _ _ q => add_int q
theorem op_sub : OpR X (binaryOp .Sub) (rI0 fun i j => .int (i - j)) := opI0 fun _ _ _ _ _ _ _ q => sub_int q
theorem op_modN : OpR X (binaryOp .Mod) (rI (fun _ j => j ≠ 0) fun i j => .int (i.fmod j)) := opI fun _ _ _ _ _ _ _ hc q => mod_int' hc q
theorem op_pow : OpR X (binaryOp .Pow) (rI CPow fun i j => .int (i ^ j.toNat)) := opI fun _ _ _ _ _ _ _ hc q => pow_int_small hc.1 hc.2.1 hc.2.2 q
theorem op_shl : OpR X (binaryOp .LShift) (rI CPow fun i j => .int (i * 2 ^ j.toNat)) := opI fun _ _ _ _ _ _ _ hc q => lshift_int_small hc.1 hc.2.1 hc.2.2 q
theorem op_shr : OpR X (binaryOp .RShift) (rI (fun _ j => 0 ≤ j) fun i j => .int (i / 2 ^ j.toNat)) := opI fun i j _ _ _ _ _ hc q =>
  rshift_int hc (by rw [Int.fdiv_eq_ediv_of_nonneg i (two_pow_nn _)]; exact q)
theorem op_and : OpR X (binaryOp .BitAnd) (rI0 fun i j => .int (Builtin.bitAnd i j)) := opI0 fun _ _ _ _ _ _ _ q => and_int q
theorem op_or : OpR X (binaryOp .BitOr) (rI0 fun i j => .int (Builtin.bitOr i j)) := opI0 fun _ _ _ _ _ _ _ q => or_int q
theorem unI {f : Value → Sem Value} {g : Int → Int}
    (rule : ∀ (i : Int) (t : Tok) (s : Shared) (Q : Value → Shared → Prop) (E : Value → Shared → Prop), Q (.int (g i) s.toks) { s with toks := s.toks + 1 } → wpAny (model X.prog X.w) X.A (f (.int i t)) Q E s) :
    UnR X f (rU fun i => .int (g i)) := by
  intro pins s σ H x v Q I rx h
  obtain ⟨i, rfl, q⟩ := h
  obtain ⟨t, rfl⟩ := rx
  exact rule i t s _ _ ⟨.int (g i), H, I.tok _, ⟨_, rfl⟩, q⟩
theorem un_neg : UnR X (unaryOp .USub) (rU fun i => .int (-i)) := unI fun _ _ _ _ _ q => neg_int q
end

section
variable {X : Cx} {a b c : Expr} {ta tb tc : TE} {pos : Pos}
theorem fin_bl {pins : List (Addr × Obj)} {σ : St} {H : Hp} {s : Shared} {Q : VK} {k k' : Bool} (I : Inv X pins σ H s) (q : Q (.bl k) H) (e : k = k') : EP X pins σ Q (.bool k') s := by
  subst e
  exact ⟨.bl k, H, I, rfl, q⟩
theorem op_lt : OpR X (compareOp .Lt) (rI0 fun i j => .bl (decide (i < j))) := opB0 fun _ _ _ _ _ _ _ q => lt_int q
theorem op_le : OpR X (compareOp .LtE) (rI0 fun i j => .bl (decide (i ≤ j))) := opB0 fun _ _ _ _ _ _ _ q => le_int q
theorem op_gt : OpR X (compareOp .Gt) (rI0 fun i j => .bl (decide (j < i))) := opB0 fun _ _ _ _ _ _ _ q => gt_int q
theorem op_ge : OpR X (compareOp .GtE) (rI0 fun i j => .bl (decide (j ≤ i))) := opB0 fun _ _ _ _ _ _ _ q => ge_int q
theorem OpR.or {f : Value → Value → Sem Value} {r r' : R2} (h : OpR X f r) (h' : OpR X f r') : OpR X f (fun x y H Q => r x y H Q ∨ r' x y H Q) := by
  intro pins s σ H x y v u Q I rx ry q
  rcases q with q | q
  · exact h pins s σ H x y v u Q I rx ry q
  · exact h' pins s σ H x y v u Q I rx ry q

theorem nomark (b : Expr) {op : CmpOp} (h : op ≠ .In := by decide) (h2 : op ≠ .NotIn := by decide) : behindInMarks op b = false := by
  have e1 : (op == CmpOp.In) = false := by cases op <;> first | rfl | exact absurd rfl h
  have e2 : (op == CmpOp.NotIn) = false := by cases op <;> first | rfl | exact absurd rfl h2
  cases b <;> simp [behindInMarks, e1, e2]
theorem pe_cmpR {op : CmpOp} {r : R2} (ho : OpR X (compareOp op) r) (ha : PE X a ta) (hb : PE X b tb) (hm : behindInMarks op b = false) : PE X (.Compare a [op] [b] pos) (tOp r ta tb) := by
  intro pins s σ H Q I h
  exact wpAny_Compare1 (binT ha hb I h fun v u s2 x y H2 I2 rx ry q => ho pins s2 σ H2 x y v u Q I2 rx ry q) hm
noncomputable def tTest (t : TE) : TT := fun σ H Q => t σ H fun x H' => ∃ k, x = .bl k ∧ Q k H'
theorem pt_cmpR {op : CmpOp} {r : R2} (ho : OpR X (compareOp op) r) (ha : PE X a ta) (hb : PE X b tb) (hm : behindInMarks op b = false) : PT X (.Compare a [op] [b] pos) (tTest (tOp r ta tb)) := by
  intro pins s σ H Q I h
  refine wpAny_isTrue_Compare1 (thn (ha pins s σ H _ I h) fun v s1 ⟨x, H1, I1, r1, q1⟩ => thn (hb pins s1 σ H1 _ I1 q1) fun u s2 ⟨y, H2, I2, r2, q2⟩ =>
    thn (ho pins s2 σ H2 x y v u _ I2 r1 r2 q2) fun c s3 ⟨z, H3, I3, r3, k, e, q3⟩ => ?_) hm
  subst e
  cases r3
  exact wpAny_truthy_bool ⟨H3, I3, q3⟩
noncomputable def tChain (r r' : R2) (ta tb tc : TE) : TE := fun σ H Q => ta σ H fun x H1 => tb σ H1 fun y H2 => r x y H2 fun z H3 => ∃ k, z = .bl k ∧
  (if k = true then tc σ H3 fun w' H4 => r' y w' H4 Q else Q (.bl false) H3)
theorem pe_chain {op op' : CmpOp} {r r' : R2} (ho : OpR X (compareOp op) r) (ho' : OpR X (compareOp op') r') (ha : PE X a ta) (hb : PE X b tb) (hc : PE X c tc)
    (hm : lastMarks [op, op'] [b, c] = false := by with_unfolding_all rfl) : PE X (.Compare a [op, op'] [b, c] pos) (tChain r r' ta tb tc) := by
  intro pins s σ H Q I h
  refine Compare_chain (thn (ha pins s σ H _ I h) fun v s1 ⟨x, H1, I1, r1, q1⟩ => chain_link (thn (hb pins s1 σ H1 _ I1 q1) fun u s2 ⟨y, H2, I2, r2, q2⟩ =>
    thn (ho pins s2 σ H2 x y v u _ I2 r1 r2 q2) fun d s3 ⟨z, H3, I3, r3, k, e, q3⟩ => ?_)) hm
  subst e
  cases r3
  refine wpAny_truthy_bool ?_
  cases k with
  | false => exact ite_ff ⟨.bl false, H3, I3, rfl, q3⟩
  | true => exact ite_tt (chain_last (thn (hc pins s3 σ H3 _ I3 q3) fun w' s4 ⟨z', H4, I4, r4, q4⟩ => ho' pins s4 σ H4 y z' u w' Q I4 r2 r4 q4))
theorem line63 : (sizeLine : Nat) < 2 ^ 63 := by rw [sizeLine_eq]; decide
theorem op_add_str : OpR X (binaryOp .Add) (fun x y H Q => ∃ i j, x = .str i ∧ y = .str j ∧ i.length + j.length ≤ sizeLine ∧ Q (.str (i ++ j)) H) := by
  intro pins s σ H x y v u Q I rx ry h
  obtain ⟨i, j, rfl, rfl, hz, q⟩ := h
  obtain ⟨t, rfl⟩ := rx
  obtain ⟨t', rfl⟩ := ry
  exact add_str (fun t' tk => ⟨.str (i ++ j), H, I.tok _, ⟨_, rfl⟩, q⟩) hz
theorem vals1 {x : V} {us : List Value} (r : Vals [x] us) : ∃ u, us = [u] ∧ RelV x u := by
  cases r with
  | cons r1 r2 => cases r2; exact ⟨_, rfl, r1⟩
theorem call_int1 : CallR X (.type "int") (fun xs H Q => (∃ i, xs = [.int i] ∧ Q (.int i) H) ∨ ∃ k, xs = [.bl k] ∧ Q (.int (if k then 1 else 0)) H) := by
  intro pins s σ H xs us Q I r h
  rcases h with ⟨i, rfl, q⟩ | ⟨k, rfl, q⟩
  · obtain ⟨u, rfl, t, rfl⟩ := vals1 r
    exact call_int_int ⟨.int i, H, I, ⟨_, rfl⟩, q⟩
  · obtain ⟨u, rfl, r1⟩ := vals1 r
    cases r1
    exact call_int_bool ⟨.int (if k then 1 else 0), H, I.tok _, ⟨_, rfl⟩, q⟩
end
end L2

namespace L2
open PySem PySem.Spec PyProof.Rows

structure ObjM (h : Heap) (x dx C : Addr) (mA : Str → Option Value) : Prop where
  obj : h.get? x = some (PySem.W.instObj C dx)
  ns : h.Ns1 dx mA
  ne : dx ≠ x

theorem lookIn_ns {h : Heap} {dx : Addr} {mA : Str → Option Value} (n : h.Ns1 dx mA) : ∃ od, h.get? dx = some od ∧ ∀ name, PySem.W.lookIn name od = some (mA name) := by
  obtain ⟨o, es, ep, ho, hd, hk, _, hm⟩ := n
  refine ⟨o, ho, fun name => ?_⟩
  have e := hm name
  unfold nsFind findBy at e
  rw [← Array.find?_toList] at e
  unfold PySem.W.lookIn
  rw [hd]
  dsimp only
  split
  · rename_i y q
    rw [q] at e
    exact congrArg some e
  · rename_i q
    rw [q] at e
    have a : es.toList.any (·.refKey) = false := by
      rw [List.any_eq_false]
      intro y hy
      obtain ⟨z, t, hkey⟩ := hk y (Array.mem_toList_iff.mp hy)
      simp [DictEntry.refKey, hkey]
    have a' : ¬ es.toList.any (·.refKey) = true := by rw [a]; exact Bool.false_ne_true
    rw [if_neg a']
    exact congrArg some e

theorem ObjM.look {h : Heap} {x dx C : Addr} {mA : Str → Option Value} (I : ObjM h x dx C mA) : ∃ od, PySem.W.InstAt h x (PySem.W.instObj C dx) C (some od) ∧ ∀ name, PySem.W.lookIn name od = some (mA name) :=
  let ⟨od, ho, hl⟩ := lookIn_ns I.ns
  ⟨od, ⟨I.obj, rfl, rfl, ho⟩, hl⟩

section
variable {prog : Program} {w : World} {A : Around} {E : Value → Shared → Prop} {s : Shared} {K : PySem.W.Frag} {x dx C f : Addr} {mA : Str → Option Value} {name : Str} {v : Value}

end

noncomputable def putF (f : Str) (v : V) : List (Str × V) → List (Str × V)
  | [] => [(f, v)]
  | (g, x) :: r => if g = f then (g, v) :: r else (g, x) :: putF f v r
theorem RelO.none_of {o : Option Value} (r : RelO none o) : o = none := by
  cases o with
  | none => rfl
  | some u => exact (show False from r).elim
section
variable {P : Program} {w : World} {H H' : Hp} {h h' : Heap} {a C dx : Addr} {fs fs' : List (Str × V)}
end

structure Cls (K : PySem.W.Frag) (C : Addr) : Prop where
  pg : PySem.W.plainGet K C Str.empty = true
  hd : PySem.W.hasDictIn K C = true
  po : PySem.W.plainOver K C = true
  sa : PySem.W.findIn K (.ref C) "__setattr__" = some (some (.builtin "object.__setattr__"))
theorem Cls.get {K : PySem.W.Frag} {C : Addr} (c : Cls K C) (f : Str) : PySem.W.plainGet K C f = true := c.pg
noncomputable def NoAttr (K : PySem.W.Frag) (C : Addr) (f : Str) : Prop := PySem.W.findIn K (.ref C) f = some none
structure Con (K : PySem.W.Frag) (C : Addr) (f : Str) (v : V) (u : Value) : Prop where
  at_ : PySem.W.findIn K (.ref C) f = some (some u)
  rel : RelV v u
  get : PySem.W.specialIn K u "__get__" = some none
  cp : PySem.W.copiedNames.contains f = false
structure Meth (K : PySem.W.Frag) (C : Addr) (m : Str) (f : Addr) : Prop where
  at_ : PySem.W.findIn K (.ref C) m = some (some (.ref f))
  fn : PySem.W.isFn K (.ref f) = true
  kp : PySem.W.keepIn K (.ref f) = true

section
variable {X : Cx} {pins : List (Addr × Obj)} {σ : St} {H : Hp} {s : Shared} {a C dx : Addr} {fs : List (Str × V)} {f : Str} {v : V} {A : Around} {E : Value → Shared → Prop}

end

section
variable {X : Cx} {o e value : Expr} {f : Str} {pos pos' tpos : Pos} {ta tv : TE}
end

section
variable {X : Cx} {pins : List (Addr × Obj)} {σ : St} {H : Hp} {s : Shared} {A : Around} {E : Value → Shared → Prop} {Q : Value → Shared → Prop} {c : Value} {b : Bool}
inductive TyOf (K : PySem.W.Frag) (H : Hp) : V → Value → Prop where
  | non : TyOf K H .non (.type "NoneType")
  | bl (x : Bool) : TyOf K H (.bl x) (.type "bool")
  | int (i : Int) : TyOf K H (.int i) (.type "int")
  | str (x : Str) : TyOf K H (.str x) (.type "str")
  | flt (x : UInt64) : TyOf K H (.flt x) (.type "float")
  | lst {a : Addr} {xs : List V} (e : H a = some (.lst xs)) : TyOf K H (.ref a) (.type "list")
  | frz {a : Addr} {o : Obj} {xs : List V} (e : H a = some (.frz o (.lst xs))) : TyOf K H (.ref a) (.type "list")
  | tup {a : Addr} {xs : List V} (e : H a = some (.tup xs)) : TyOf K H (.ref a) (.type "tuple")
  | dK {a : Addr} {kvs : List (Key × V)} (e : H a = some (.dK kvs)) : TyOf K H (.ref a) (.type "dict")
  | dT {a : Addr} {kvs : List (List Key × V)} (e : H a = some (.dT kvs)) : TyOf K H (.ref a) (.type "dict")
  | ins {a C dx : Addr} {fs : List (Str × V)} (e : H a = some (.ins C dx fs)) (cl : Cls K C) (ha : PySem.W.findIn K (.ref C) "__class__" = some (some (.builtin "object.__class__")))
      (hn : PySem.W.specialIn K (.builtin "object.__class__") "__get__" = some (some (.builtin "getset_descriptor.__get__"))) (htk : PySem.W.takesIn K (.builtin "object.__class__") = some true)
      (hm : PySem.W.mroIn K C (.type "object") = some true) : TyOf K H (.ref a) (.ref C)
end
end L2

namespace L2
open PySem PySem.Spec PyProof.Rows

structure Room (k : Nat) (A : Around) : Prop where
  hd : A.handled = none
  dp : A.depth + 3 * k + 5 < recursionLimit
  un : A.units + 16 * k + 200 < cLine
theorem Room.mono {j k : Nat} {A : Around} (r : Room k A) (h : j ≤ k) : Room j A := ⟨r.hd, by have := r.dp; omega, by have := r.un; omega⟩
theorem Room.deeper {k : Nat} {A : Around} (r : Room (k + 1) A) (env : Env) : Room k (A.deeper env) :=
  ⟨r.hd, by have := r.dp; show A.depth + 1 + 3 * k + 5 < _; omega, by have := r.un; show A.units + 3 + 16 * k + 200 < _; omega⟩
theorem Room.depth {k : Nat} {A : Around} (r : Room k A) : A.depth < recursionLimit := by have := r.dp; omega
theorem Room.units {k : Nat} {A : Around} (r : Room k A) : A.units + 64 < cLine := by have := r.un; omega
noncomputable def tNil : TA := fun _ H Q => Q [] H
noncomputable def tCons (ta : TE) (tr : TA) : TA := fun σ H Q => ta σ H fun x H1 => tr σ H1 fun xs H2 => Q (x :: xs) H2
section
variable {X : Cx} {e : Expr} {es : List Expr} {te : TE} {t : TA} {pos : Pos}
theorem pa_nil : PA X [] tNil := fun _ _ _ _ H Q I h => Calls.spliced_nil ⟨[], H, I, .nil, h⟩
theorem pa_cons (ha : PE X e te) (hr : PA X es t) (hs : starEach (e :: es) X.env = (false, eval e X.env) :: starEach es X.env := by rfl) : PA X (e :: es) (tCons te t) := by
  intro pos pins s σ H Q I h
  rw [hs]
  show wpAny _ _ (spliced ((false, eval e X.env) :: backTo pos (starEach es X.env))) _ _ s
  refine Calls.spliced_cons (thn (ha pins s σ H _ I h) fun u s1 ⟨x, H1, I1, r1, q1⟩ => ?_)
  exact thn (hr pos pins s1 σ H1 _ I1 q1) fun us s2 ⟨xs, H2, I2, r2, q2⟩ => ⟨x :: xs, H2, I2, .cons r1 r2, q2⟩

noncomputable def tTup (t : TA) : TE := fun σ H Q => t σ H fun xs H1 => xs.length ≤ sizeLine ∧ ∀ p, H1 p = none → Q (.ref p) (upd H1 p (.tup xs))
noncomputable def tLst (t : TA) : TE := fun σ H Q => t σ H fun xs H1 => xs.length ≤ sizeLine ∧ ∀ p, H1 p = none → Q (.ref p) (upd H1 p (.lst xs))
theorem pe_tup {x1} (h : PA X es t) : PE X (.Tuple es x1 pos) (tTup t) := by
  intro pins s σ H Q I hq
  refine wpAny_Tuple_spliced (thn (h pos pins s σ H _ I hq) fun us s1 ⟨xs, H1, I1, r, z, q⟩ => ⟨by rw [← r.length]; exact z, ?_⟩)
  have hf : H1 s1.heap.objs.size = none := I1.hok.fresh (Nat.le_refl _)
  refine ⟨.ref s1.heap.objs.size, upd H1 s1.heap.objs.size (.tup xs), I1.laid (t' := s1.toks) (fun b u e => Heap.get?_push_of_some _ e) (Nat.le_refl _) ?_, rfl, q _ hf⟩
  exact ⟨z, us, r, ⟨_, Heap.get?_push_size _ rfl, rfl, _, rfl⟩⟩
theorem pe_lst (h : PA X es t) : PE X (.List es pos) (tLst t) := by
  intro pins s σ H Q I hq
  refine wpAny_List_spliced (thn (h pos pins s σ H _ I hq) fun us s1 ⟨xs, H1, I1, r, z, q⟩ => ⟨by rw [← r.length]; exact z, ?_⟩)
  have hf : H1 s1.heap.objs.size = none := I1.hok.fresh (Nat.le_refl _)
  refine ⟨.ref s1.heap.objs.size, upd H1 s1.heap.objs.size (.lst xs), I1.laid (t' := s1.toks) (fun b u e => Heap.get?_push_of_some _ e) (Nat.le_refl _) ?_, rfl, q _ hf⟩
  exact ⟨z, us, 0, r, Heap.get?_push_size _ rfl⟩
end

noncomputable abbrev Sp := List V → Hp → VK → XK → Prop
noncomputable abbrev CXT := List Env → Hp → Shared → XK → Value → Shared → Prop

structure Env0 (P : Program) (w : World) (K : PySem.W.Frag) (mg : Str → Option Value) (base : Heap) (A : Around) (outer : List Env) (s : Shared) (H : Hp) : Prop where
  frames : A.frames = some outer
  mod : Mod K mg base
  bs : ∀ b o, base.get? b = some o → s.heap.get? b = some o ∧ H b = none
  bsz : base.objs.size ≤ s.heap.objs.size
  funs : s.heap.FunFrames base outer
  frf : ∀ b ∈ frs outer, H b = none
  hok : HOk P w H s.heap
  bare : AllBare s.gens
noncomputable def CE (outer : List Env) (P : Program) (w : World) (H : Hp) (s : Shared) (Q : VK) (u : Value) (s' : Shared) : Prop :=
  ∃ v H', s'.os = s.os ∧ AllBare s'.gens ∧ Un (frs outer) [] H H' s.heap s'.heap ∧ HOk P w H' s'.heap ∧ RelV v u ∧ Q v H'
noncomputable def CR (CX : CXT) (outer : List Env) (P : Program) (w : World) (H : Hp) (s : Shared) (Q : VK) (E : XK) (r : Result) (s' : Shared) : Prop :=
  match r with
  | .ok (.ret u) => CE outer P w H s Q u s'
  | .ok _ => False
  | .error e => CX outer H s E e s'
structure FnOk (P : Program) (w : World) (K : PySem.W.Frag) (mg : Str → Option Value) (base : Heap) (CX : CXT) (k : Nat) (f : Addr) (fd : FuncData) (ps : List Str) (sp : Sp) : Prop where
  len : ∀ vs H Q E, sp vs H Q E → vs.length = ps.length
  run : ∀ (A : Around) (outer : List Env) (s : Shared) (H : Hp) (args : Args) (us : List Value) (vs : List V) (Q : VK) (E : XK), Room k A → Env0 P w K mg base A outer s H → BindsTo s fd args (ps.zip us) → Vals vs us → sp vs H Q E →
    codeAny (model P w) A (.call (.ref f) args) (CR CX outer P w H s Q E) s
theorem FnOk.mono {P : Program} {w : World} {K : PySem.W.Frag} {mg : Str → Option Value} {base : Heap} {CX : CXT} {j k : Nat} {f : Addr} {fd : FuncData} {ps : List Str} {sp : Sp} (F : FnOk P w K mg base CX j f fd ps sp) (h : j ≤ k) :
    FnOk P w K mg base CX k f fd ps sp := ⟨F.len, fun A outer s H args us vs Q E hr => F.run A outer s H args us vs Q E (hr.mono h)⟩
theorem FnOk.imp {P : Program} {w : World} {K : PySem.W.Frag} {mg : Str → Option Value} {base : Heap} {CX : CXT} {k : Nat} {f : Addr} {fd : FuncData} {ps : List Str} {sp sp' : Sp} (F : FnOk P w K mg base CX k f fd ps sp)
    (h : ∀ vs H Q E, sp' vs H Q E → sp vs H Q E) : FnOk P w K mg base CX k f fd ps sp' :=
  ⟨fun vs H Q E q => F.len vs H Q E (h _ _ _ _ q), fun A outer s H args us vs Q E hr he hb hv hs => F.run A outer s H args us vs Q E hr he hb hv (h _ _ _ _ hs)⟩

section
variable {X : Cx} {pins : List (Addr × Obj)} {σ : St} {H : Hp} {s s' : Shared}
theorem Inv.env0 (I : Inv X pins σ H s) : Env0 X.prog X.w X.K X.mg X.base X.A X.stack s H :=
  ⟨I.ok.frames, I.ok.mod, I.bs, Nat.le_trans I.ok.bsz I.sz, I.stack, I.stkFree, I.hok, I.bare⟩
theorem Inv.after {Q : VK} {u : Value} (I : Inv X pins σ H s) (h : CE X.stack X.prog X.w H s Q u s') : EP X pins σ Q u s' := by
  obtain ⟨v, H', os, bare, un, hok, r, q⟩ := h
  obtain ⟨hh, g, d, t, os'⟩ := s'
  obtain rfl : os' = s.os := os
  exact ⟨v, H', I.call (h' := hh) (g' := g) (d' := d) (t' := t) (ch := []) un hok bare (fun b z => absurd z (by simp)), r, q⟩
end

noncomputable def tCall (sp : Sp) (dvs : List V) (E : XK) (t : TA) : TE := fun σ H Q => t σ H fun vs H1 => sp (vs ++ dvs) H1 Q E
noncomputable def Binds (K : PySem.W.Frag) (fd : FuncData) (ps : List Str) (ds : List Value) : Prop :=
  ∀ (s : Shared) (us : List Value), K.In s.heap → (us ++ ds).length = ps.length → BindsTo s fd ⟨us, []⟩ (ps.zip (us ++ ds))
theorem Binds.all {K : PySem.W.Frag} {fd : FuncData} {ps : List Str} (h : ∀ us : List Value, us.length = ps.length → bindArgs fd ⟨us, []⟩ = pure (ps.zip us)) : Binds K fd ps [] := fun s us _ hl => by
  rw [List.append_nil] at hl ⊢
  exact .of_eq (h us hl)

noncomputable def Passes (CX : CXT) (X : Cx) (E : XK) : Prop := ∀ (pins : List (Addr × Obj)) (σ : St) (H : Hp) (s : Shared) (e : Value) (s' : Shared), Inv X pins σ H s → CX X.stack H s E e s' → X.xe e s'

section
variable {X : Cx} {CX : CXT} {k : Nat} {f C : Addr} {fd : FuncData} {ps : List Str} {sp : Sp} {dvs : List V} {ds : List Value} {E : XK} {x m : Str} {p pos apos : Pos} {e o : Expr} {es : List Expr} {ta : TE} {t : TA}

theorem run_fn {pins : List (Addr × Obj)} {σ : St} {H : Hp} {s : Shared} {Q : VK} {us : List Value} {vs : List V} (F : FnOk X.prog X.w X.K X.mg X.base CX k f fd ps sp) (hr : Room k X.A) (hb : Binds X.K fd ps ds) (hd : Vals dvs ds) (hx : Passes CX X E)
    (I : Inv X pins σ H s) (r : Vals vs us) (h : sp (vs ++ dvs) H Q E) : wpAny (model X.prog X.w) X.A (call (.ref f) us) (EP X pins σ Q) X.xe s := by
  have r2 : Vals (vs ++ dvs) (us ++ ds) := r.append hd
  have hl : (us ++ ds).length = ps.length := by rw [← r2.length]; exact F.len _ _ _ _ h
  refine wpAny_call (codeAny_mono (F.run X.A X.stack s H ⟨us, []⟩ (us ++ ds) (vs ++ dvs) Q E hr I.env0 (hb s us I.kIn hl) r2 h) fun r s' hq => ?_)
  cases r with
  | error e => exact hx pins σ H s e s' I hq
  | ok fl =>
    cases fl with
    | ret u => exact I.after hq
    | next => exact False.elim hq
    | brk => exact False.elim hq
    | cont => exact False.elim hq

theorem pe_call (F : FnOk X.prog X.w X.K X.mg X.base CX k f fd ps sp) (hr : Room k X.A) (hg : Gl X x) (hm : X.mg x = some (.ref f)) (hk : PySem.W.keepIn X.K (.ref f) = true) (hb : Binds X.K fd ps ds) (hd : Vals dvs ds) (hx : Passes CX X E)
    (ha : PA X (e :: es) t) (hdb : (x == ("__debug__" : Str)) = false := by decide) (he : starEach (e :: es) X.env = (false, eval e X.env) :: starEach es X.env := by rfl) (hpl : (backTo pos (starEach es X.env)).any (·.1) = false := by rfl) :
    PE X (.Call (.Name x p) (e :: es) [] pos) (tCall sp dvs E t) := by
  intro pins s σ H Q I h
  refine wpAny_Call_Name_kw (ld_glob I hg hm ?_ hdb)
  refine PySem.W.callWith_K (h₀ := X.base) I.ok.mod.kin hk (thn (ha pos pins s σ H _ I h) fun us s1 ⟨vs, H1, I1, r, q⟩ => ⟨I1.kIn, ?_⟩) he hpl
  exact run_fn F hr hb hd hx I1 r q
structure Mk (K : PySem.W.Frag) (C f : Addr) : Prop where
  makes : PySem.W.makesIn K C = true
  init : PySem.W.findIn K (.ref C) "__init__" = some (some (.ref f))
  fn : PySem.W.isFn K (.ref f) = true
  kp : PySem.W.keepIn K (.ref C) = true

end

section
variable {X : Cx} {CX : CXT} {k : Nat} {f C : Addr} {fd : FuncData} {ps ks : List Str} {sp : Sp} {E : XK} {x m : Str} {p pos apos kpos : Pos} {e o : Expr} {es : List Expr} {kws : List Keyword} {te ta : TE} {t tk : TA} {nm : Option Str}
structure KBinds (K : PySem.W.Frag) (fd : FuncData) (ps ks : List Str) (g : List Value → List Value → List Value) (gV : List V → List V → List V) : Prop where
  to : ∀ (s : Shared) (us ws : List Value), K.In s.heap → (g us ws).length = ps.length → BindsTo s fd ⟨us, ks.zip ws⟩ (ps.zip (g us ws))
  rel : ∀ {vs : List V} {us : List Value} {zs : List V} {ws : List Value}, Vals vs us → Vals zs ws → Vals (gV vs zs) (g us ws)
variable {g : List Value → List Value → List Value} {gV : List V → List V → List V}
end

structure FnScope (N P : List Str) (sc : Scope) : Prop where
  kind : sc.kind = .function
  co : sc.isCoroutine = false
  gen : sc.isGenerator = false
  nd : N.Nodup
  pre : N.take P.length = P
  par : ∀ x ∈ P, sc.names.lookup x = some .local ∨ sc.names.lookup x = some .cell
  nofree : ∀ y ∈ sc.names, y.2 ≠ .free

theorem bindL_out {kindOf : Str → Option NameKind} {x : Str} : ∀ {binds : List (Str × Value)} {m : Str → Option Value}, (∀ v, (x, v) ∉ binds) → bindL kindOf binds m x = m x
  | [], _, _ => rfl
  | (n, v) :: r, m, h => by
    unfold bindL
    rw [bindL_out fun w hw => h w (List.mem_cons_of_mem _ hw)]
    split
    · have : x ≠ n := by rintro rfl; exact h v List.mem_cons_self
      simp [this]
    · rfl
theorem bindC_out {kindOf : Str → Option NameKind} {x : Str} : ∀ {binds : List (Str × Value)} {m : Str → Option Value}, (∀ v, (x, v) ∉ binds) → bindC kindOf binds m x = m x
  | [], _, _ => rfl
  | (n, v) :: r, m, h => by
    unfold bindC
    rw [bindC_out fun w hw => h w (List.mem_cons_of_mem _ hw)]
    split
    · rfl
    · have : x ≠ n := by rintro rfl; exact h v List.mem_cons_self
      simp [this]
theorem bindL_get {kindOf : Str → Option NameKind} {x : Str} {v : Value} : ∀ {P : List Str} {vs : List Value} {i : Nat} {m : Str → Option Value}, P.Nodup → P[i]? = some x → vs[i]? = some v → kindOf x = some .local →
    bindL kindOf (P.zip vs) m x = some v
  | [], _, _, _, _, h, _, _ => by simp at h
  | _ :: _, [], _, _, _, _, h, _ => by simp at h
  | p :: P, w :: vs, 0, m, nd, h1, h2, hk => by
    simp at h1 h2; subst h1; subst h2
    show bindL kindOf ((p, w) :: P.zip vs) m p = _
    unfold bindL
    rw [bindL_out fun v hv => (List.nodup_cons.mp nd).1 (List.of_mem_zip hv).1, if_pos hk]
    simp
  | p :: P, w :: vs, i + 1, m, nd, h1, h2, hk => by
    show bindL kindOf ((p, w) :: P.zip vs) m x = _
    unfold bindL
    exact bindL_get (i := i) (List.nodup_cons.mp nd).2 (by simpa using h1) (by simpa using h2) hk
theorem bindC_get {kindOf : Str → Option NameKind} {x : Str} {v : Value} : ∀ {P : List Str} {vs : List Value} {i : Nat} {m : Str → Option Value}, P.Nodup → P[i]? = some x → vs[i]? = some v → kindOf x ≠ some .local →
    bindC kindOf (P.zip vs) m x = some v
  | [], _, _, _, _, h, _, _ => by simp at h
  | _ :: _, [], _, _, _, _, h, _ => by simp at h
  | p :: P, w :: vs, 0, m, nd, h1, h2, hk => by
    simp at h1 h2; subst h1; subst h2
    show bindC kindOf ((p, w) :: P.zip vs) m p = _
    unfold bindC
    rw [bindC_out fun v hv => (List.nodup_cons.mp nd).1 (List.of_mem_zip hv).1, if_neg hk]
    simp
  | p :: P, w :: vs, i + 1, m, nd, h1, h2, hk => by
    show bindC kindOf ((p, w) :: P.zip vs) m x = _
    unfold bindC
    exact bindC_get (i := i) (List.nodup_cons.mp nd).2 (by simpa using h1) (by simpa using h2) hk

noncomputable def start (N : List Str) (vs : List V) : St := vs.map some ++ List.replicate (N.length - vs.length) none

noncomputable def cxOf (CX : CXT) (P : Program) (w : World) (K : PySem.W.Frag) (mg : Str → Option Value) (base : Heap) (N : List Str) (qual : Str) (scope : Scope) (f : Addr) (cd : Value) (A : Around) (outer : List Env) (s : Shared) (H : Hp) (E : XK) : Cx where
  prog := P
  w := w
  K := K
  mg := mg
  base := base
  A := A.deeper (envOfC qual scope s.heap.objs.size f cd)
  N := N
  s₀ := s
  H₀ := H
  env := envOfC qual scope s.heap.objs.size f cd
  outer := outer
  stack := envOfC qual scope s.heap.objs.size f cd :: outer
  ex := []
  calm := true
  fn := fun _ => true
  pn := []
  xe := fun e s' => wpAny (model P w) (A.deeper (envOfC qual scope s.heap.objs.size f cd)) (leaving (envOfC qual scope s.heap.objs.size f cd) e) (fun _ s'' => CX outer H s E e s'') (fun e' s'' => CX outer H s E e' s'') s'

theorem cell_has {sc : Scope} {n : Nat} {x : Str} (h : sc.names.lookup x = some .cell) : ∃ c, (cellsFrom n sc.names []).lookup x = some c := by
  have q := PySem.W.cellsFrom_some sc.names n [] (.inl h)
  exact Option.isSome_iff_exists.mp q

theorem inv_start {CX : CXT} {P : Program} {w : World} {K : PySem.W.Frag} {mg : Str → Option Value} {base : Heap} {N ps : List Str} {qual : Str} {scope : Scope} {f : Addr} {cd : Value} {A : Around} {outer : List Env} {s s1 : Shared} {H : Hp} {E : XK} {us : List Value} {vs : List V}
    (S : FnScope N ps scope) (hd : A.handled = none) (e0 : Env0 P w K mg base A outer s H) (hl : vs.length = ps.length) (r : Vals vs us)
    (x : InCallC s s.heap.objs.size (bindL (envOfC qual scope s.heap.objs.size f cd).kindOf (ps.zip us) fun _ => none) (cellsFrom (s.heap.objs.size + 1) scope.names []) (bindC (envOfC qual scope s.heap.objs.size f cd).kindOf (ps.zip us) fun _ => none) s1) :
    Inv (cxOf CX P w K mg base N qual scope f cd A outer s H E) [] (start N vs) H s1 := by
  have hpl : ps.length ≤ N.length := by have := congrArg List.length S.pre; rw [List.length_take] at this; omega
  obtain ⟨h1, tk, rfl, hk⟩ := x.done
  have noA : ∀ b : Addr, b ∉ (cxOf CX P w K mg base N qual scope f cd A outer s H E).ex := fun b z => absurd (show b ∈ ([] : List Addr) from z) (by simp)
  refine ⟨⟨e0.mod, S.kind, rfl, rfl, Nat.le_refl _, fun y z c h1 h2 => ?_, fun y hy => ?_, fun y c _ h => ?_, fun _ => hd, Around.frames_deeper e0.frames, .inr ⟨rfl, rfl⟩, fun b z => absurd z (noA b), e0.bs, e0.bsz, fun b _ _ => noA b, fun b z => absurd z (noA b), e0.funs, e0.frf⟩,
    rfl, e0.bare, Un.kept hk, ⟨_, x.toInCall.ns, fun i y v h1 h2 h3 => ?_⟩, fun y c h => ⟨_, x.cell y c h⟩, e0.hok.fresh (Nat.le_refl _), fun y c h => ?_, fun p hp => absurd (show p ∈ ([] : List (Addr × Obj)) from hp) (by simp), e0.hok.kept hk, ?_⟩
  · exact name_of_addr x.apart (PySem.mem_of_lookup h1) (PySem.mem_of_lookup h2)
  · have hy : scope.names.lookup y = some .cell ∨ scope.names.lookup y = some .free := hy
    rcases hy with hy | hy
    · exact cell_has hy
    · exact absurd rfl (S.nofree _ (PySem.mem_of_lookup hy))
  · exact Nat.le_of_lt (x.above y c (PySem.mem_of_lookup h))
  · have hi : i < vs.length := by
      unfold start at h2
      by_cases hi : i < vs.length
      · exact hi
      · rw [List.getElem?_append_right (by simpa using hi)] at h2
        rw [List.getElem?_replicate] at h2
        split at h2 <;> cases h2
    have ha : vs[i]? = some v := by
      unfold start at h2
      rw [List.getElem?_append_left (by simpa using hi), List.getElem?_map] at h2
      cases e : vs[i]? with
      | none => rw [e] at h2; cases h2
      | some a => rw [e] at h2; cases h2; rfl
    obtain ⟨u, hu, rv⟩ := r.get ha
    have hp : ps[i]? = some y := by
      rw [← S.pre, List.getElem?_take_of_lt (by omega)]; exact h1
    have ndP : ps.Nodup := by rw [← S.pre]; exact S.nd.sublist (List.take_sublist _ _)
    refine ⟨u, rv, ?_⟩
    rcases S.par y (List.mem_of_getElem? hp) with k | k
    · exact .inl ⟨k, bindL_get ndP hp hu k⟩
    · obtain ⟨c, e⟩ := cell_has (n := s.heap.objs.size + 1) k
      refine .inr ⟨.inl k, c, e, ?_⟩
      have q := x.cell y c e
      rw [bindC_get ndP hp hu (by show scope.names.lookup y ≠ _; rw [k]; decide)] at q
      exact q
  · exact e0.hok.fresh (Nat.le_of_lt (x.above y c (PySem.mem_of_lookup h)))
  · unfold start
    show _ = N.length
    rw [List.length_append, List.length_map, List.length_replicate]
    omega

theorem fn_of {CX : CXT} {P : Program} {w : World} {K : PySem.W.Frag} {mg : Str → Option Value} {base : Heap} {k : Nat} {f : Addr} {name qual : Str} {params : Arguments} {body : List Stmt} {scope : Scope} {dV kV doc pm cdv ct oc : Value} {an od : Option Addr}
    {osl : Array (Option Value)} {N ps : List Str} {sp : Sp} (lk : K.lookup f = some ⟨oc, od, .func (PySem.W.fnOf name qual params body scope dV kV doc pm an cdv ct), osl⟩) (hcd : PySem.W.codeIn K cdv qual = true) (S : FnScope N ps scope)
    (len : ∀ vs H Q E, sp vs H Q E → vs.length = ps.length)
    (hbody : ∀ (A : Around) (outer : List Env) (s : Shared) (H : Hp) (vs : List V) (Q : VK) (E : XK), Room k (A.deeper (envOfC qual scope s.heap.objs.size f cdv)) → sp vs H Q E →
      ∃ t, PSs (cxOf CX P w K mg base N qual scope f cdv A outer s H E) body t ∧ t { nx := fun _ H' => Q .non H', rt := Q } (start N vs) H) :
    FnOk P w K mg base CX (k + 1) f (PySem.W.fnOf name qual params body scope dV kV doc pm an cdv ct) ps sp := by
  refine ⟨len, fun A outer s H args us vs Q E hr e0 hb r hsp => ?_⟩
  have hl := len _ _ _ _ hsp
  have KX : K.In s.heap := e0.mod.kin.keeps fun b o e => (e0.bs b o e).1
  have lim : s.heap.NoLimit := e0.mod.nolimit.keeps fun b o e => (e0.bs b o e).1
  have hkind : ∀ y ∈ ps.zip us, scope.names.lookup y.1 = some .local ∨ (scope.names.lookup y.1 = some .cell ∧ ((cellsFrom (s.heap.objs.size + 1) scope.names []).lookup y.1).isSome = true) := fun ⟨n, v⟩ hy => by
    rcases S.par n (List.of_mem_zip hy).1 with q | q
    · exact .inl q
    · exact .inr ⟨q, PySem.W.cellsFrom_some _ _ _ (.inl q)⟩
  refine codeAny_call_function hr.depth (KX _ _ lk) rfl S.co S.gen rfl (PySem.W.codeRec_of KX hcd) (hb _ _ _ _ ?_)
  refine wpAny_newFunctionEnv_cells S.kind hkind fun env he s1 x => ?_
  subst he
  refine ⟨lim.keeps x.toInCall.keep, codeAny_func ?_⟩
  obtain ⟨t, ht, hq⟩ := hbody A outer s H vs Q E (hr.deeper _) hsp
  have I : Inv (cxOf CX P w K mg base N qual scope f cdv A outer s H E) [] (start N vs) H s1 := inv_start S hr.hd e0 hl r x
  refine wpAny_mono (ht [] s1 (start N vs) H _ I hq) (fun fl s' hs => ?_) fun e s' hs => hs
  have fin : ∀ {σ' : St} {H' : Hp} {v : V} {u : Value}, Inv (cxOf CX P w K mg base N qual scope f cdv A outer s H E) [] σ' H' s' → RelV v u → Q v H' → CE outer P w H s Q u s' :=
    fun {σ' H' v u} J rv q => ⟨v, H', J.os, J.bare, J.base, J.hok, rv, q⟩
  cases fl with
  | ret u =>
    obtain ⟨v, σ', H', J, rv, q⟩ := hs
    exact fin J rv q
  | next =>
    obtain ⟨σ', H', J, q⟩ := hs
    exact fin (v := V.non) (u := Value.none) J rfl q
  | brk =>
    obtain ⟨_, _, _, q⟩ := hs
    exact False.elim q
  | cont =>
    obtain ⟨_, _, _, q⟩ := hs
    exact False.elim q
end L2

namespace L2
open PySem PySem.Spec PyProof.Rows
section
variable {X : Cx} {x : Str} {p pos : Pos} {e : Expr} {es : List Expr} {t : TA} {id T : String} {r : List V → Hp → VK → Prop}

noncomputable def tCB (r : List V → Hp → VK → Prop) (t : TA) : TE := fun σ H Q => t σ H fun vs H1 => r vs H1 Q
theorem pe_callB (hc : CallR X (.builtin id) r) (hg : Gl X x) (hm : X.mg x = none) (hv : bootBuiltins x = some (.builtin id)) (ha : PA X (e :: es) t) (hn : x ≠ "__name__" := by decide) (hdb : (x == ("__debug__" : Str)) = false := by decide)
    (he : starEach (e :: es) X.env = (false, eval e X.env) :: starEach es X.env := by rfl) (hpl : (backTo pos (starEach es X.env)).any (·.1) = false := by rfl) : PE X (.Call (.Name x p) (e :: es) [] pos) (tCB r t) := by
  intro pins s σ H Q I h
  refine wpAny_Call_Name_kw (ld_blt I hg hm hv ?_ hn hdb)
  exact PyProof.Rows.callWith_builtin1 (thn (ha pos pins s σ H _ I h) fun us s1 ⟨vs, H1, I1, r1, q1⟩ => hc pins s1 σ H1 vs us Q I1 r1 q1) he hpl
theorem pe_callTy (hc : CallR X (.type T) r) (hg : Gl X x) (hm : X.mg x = none) (hv : bootBuiltins x = some (.type T)) (ha : PA X (e :: es) t) (hn : x ≠ "__name__" := by decide) (hdb : (x == ("__debug__" : Str)) = false := by decide)
    (he : starEach (e :: es) X.env = (false, eval e X.env) :: starEach es X.env := by rfl) (hpl : (backTo pos (starEach es X.env)).any (·.1) = false := by rfl) : PE X (.Call (.Name x p) (e :: es) [] pos) (tCB r t) := by
  intro pins s σ H Q I h
  refine wpAny_Call_Name_kw (ld_blt I hg hm hv ?_ hn hdb)
  exact PyProof.Rows.callWith_type1 (thn (ha pos pins s σ H _ I h) fun us s1 ⟨vs, H1, I1, r1, q1⟩ => hc pins s1 σ H1 vs us Q I1 r1 q1) he hpl
end
end L2

namespace HT
open PySem PyProof.Rows

section
open PySem.SeqAt
open PySem.AutoSeq1 (wpAny_loadPart')
open PySem.MeetsSeq PySem.MeetsSeq2 PySem.MeetsSeq3

end

section
variable {prog : Program} {w : World} {A : Around} {E : Value → Shared → Prop} {s : Shared}

theorem cat_tup {t b : Addr} {vs ws : List Value} {Q : Value → Shared → Prop} (ht : IsTup s.heap t vs.toArray) (hb : IsTup s.heap b ws.toArray) (hv : vs ≠ [])
    (h1 : ws = [] → Q (.ref t) s) (h2 : ws ≠ [] → Q (.ref s.heap.objs.size) { s with heap := s.heap.push { cls := .type "tuple", data := .seq (vs ++ ws).toArray } })
    (hsz : vs.length + ws.length ≤ sizeLine) : wpAny (model prog w) A (binaryOp .Add (.ref t) (.ref b)) Q E s := by
  obtain ⟨⟨cls, dd, data, sl⟩, ho, hc, n, hd⟩ := id ht
  obtain ⟨⟨cls2, dd2, data2, sl2⟩, ho2, hc2, n2, hd2⟩ := id hb
  simp only at hc hd hc2 hd2
  subst hc hd hc2 hd2
  have e : vs.toArray ++ ws.toArray = (vs ++ ws).toArray := by simp
  by_cases hw : ws = []
  · exact concat_meets ⟨_, ho, rfl⟩ ⟨_, ho2, rfl⟩ noFill_tuple_add seq_tuple_add PySem.F.slot_tuple_add PySem.F.entry_tuple_add (PySem.F.args_tuple_add_2 _ _)
      (tuple_addW1 t b vs.toArray ws.toArray n n2 dd dd2 sl sl2 (by simpa using hv) (by simp [hw])) ⟨ho, ho2, h1 hw⟩
  · refine concat_meets ⟨_, ho, rfl⟩ ⟨_, ho2, rfl⟩ noFill_tuple_add seq_tuple_add PySem.F.slot_tuple_add PySem.F.entry_tuple_add (PySem.F.args_tuple_add_2 _ _)
      (tuple_addW2 t b vs.toArray ws.toArray n n2 dd dd2 sl sl2 (by simpa using hv) (by simpa using hw) (by rw [List.size_toArray, List.size_toArray]; exact hsz)) ⟨ho, ho2, ?_⟩
    rw [e]
    exact h2 hw

noncomputable def sIx (n d : Nat) : Option Int → Nat
  | none => d
  | some v => if v < 0 then (v + (n : Int)).toNat else min v.toNat n
theorem sIx_le (n d : Nat) (hd : d ≤ n) (o : Option Int) : sIx n d o ≤ n := by
  cases o with
  | none => exact hd
  | some v =>
    show (if v < 0 then (v + (n : Int)).toNat else min v.toNat n) ≤ n
    by_cases hv : v < 0
    · rw [if_pos hv]; omega
    · rw [if_neg hv]; exact Nat.min_le_right _ _
theorem clip_eq (v : Int) (n d : Nat) : (if v < 0 then max (v + (n : Int)) 0 else min v (n : Int)) = ((sIx n d (some v) : Nat) : Int) := by
  show (if v < 0 then max (v + (n : Int)) 0 else min v (n : Int)) = (((if v < 0 then (v + (n : Int)).toNat else min v.toNat n) : Nat) : Int)
  by_cases hv : v < 0
  · simp only [if_pos hv]; omega
  · simp only [if_neg hv]; omega
theorem adjust_gen (lo hi : Option Int) (n : Nat) : Builtin.Slice.sliceAdjust lo hi 1 (n : Int) = (((sIx n 0 lo : Nat) : Int), ((sIx n n hi : Nat) : Int)) := by
  have h1 : ¬ ((1 : Int) < 0) := by omega
  unfold Builtin.Slice.sliceAdjust
  simp only [h1, if_false]
  refine Prod.ext ?_ ?_
  · cases lo with
    | none => rfl
    | some v => exact clip_eq v n 0
  · cases hi with
    | none => rfl
    | some v => exact clip_eq v n n
theorem places_gen (i j : Nat) : Builtin.Slice.slicePlaces (i : Int) (j : Int) 1 = j - i := by
  unfold Builtin.Slice.slicePlaces
  have h1 : (1 : Int) > 0 := by omega
  simp only [h1, if_true, Int.ediv_one]
  split <;> omega
theorem slicePart_ {v : Value} {o : Option Int} {Q : Option Int → Shared → Prop} (p : IsPart v o) (h : Q o s) : wpAny (model prog w) A (Builtin.Slice.slicePartIndex v) Q E s := by
  cases p with
  | none => exact slicePart_none h
  | int i t => exact slicePart_int h
theorem sliceApplied_gen {sl : Addr} {vl vu : Value} {lo hi : Option Int} {n : Nat} {Q : Int × Int × Nat → Shared → Prop} (hs : s.heap.IsSliceOf sl vl vu .none) (pl : IsPart vl lo) (pu : IsPart vu hi)
    (h : Q (((sIx n 0 lo : Nat) : Int), 1, sIx n n hi - sIx n 0 lo) s) : wpAny (model prog w) A (Builtin.Slice.sliceApplied (.ref sl) (pure (n : Int))) Q E s := by
  obtain ⟨os, hos, hcs, hds⟩ := id hs
  unfold Builtin.Slice.sliceApplied Builtin.Slice.sliceFields
  refine wpAny_bind (wpAny_bind (wpAny_field hos hds (x := vl) rfl (wpAny_bind (wpAny_field hos hds (x := vu) rfl (wpAny_bind (wpAny_field hos hds (x := .none) rfl (wpAny_pure ?_)))))))
  refine wpAny_bind (slicePart_none ?_)
  show wpAny _ _ (if ((1 : Int) == 0) = true then _ else _) _ _ s
  rw [if_neg (by decide)]
  refine wpAny_bind (slicePart_ pl (wpAny_bind (slicePart_ pu (wpAny_bind (wpAny_pure ?_)))))
  show wpAny _ _ (match Builtin.Slice.sliceAdjust lo hi 1 (n : Int) with | (lo, hi) => pure (lo, (1 : Int), Builtin.Slice.slicePlaces lo hi 1)) _ _ s
  rw [adjust_gen lo hi n]
  show wpAny _ _ (pure (((sIx n 0 lo : Nat) : Int), (1 : Int), Builtin.Slice.slicePlaces ((sIx n 0 lo : Nat) : Int) ((sIx n n hi : Nat) : Int) 1)) _ _ s
  rw [places_gen]
  exact wpAny_pure h
theorem pick_gen (xs : Array Value) (i k : Nat) : ((List.range k).filterMap fun (m : Nat) => xs[((i : Int) + (m : Int) * 1).toNat]?).toArray = ((xs.toList.drop i).take k).toArray := by
  have e : (fun (m : Nat) => xs[((i : Int) + (m : Int) * 1).toNat]?) = fun m => xs[i + m]? := by
    funext m
    have : ((i : Int) + (m : Int) * 1).toNat = i + m := by omega
    rw [this]
  rw [e]
  have := pick_run xs i k
  rw [List.filterMap_map] at this
  have e2 : ((fun x => xs[x]?) ∘ fun x => i + x) = fun m => xs[i + m]? := rfl
  rw [e2] at this
  rw [this]

theorem getItem_tuple_cut {t sl : Addr} {items : Array Value} {vl vu : Value} {lo hi : Option Int} {Q : Value → Shared → Prop} (ht : IsTup s.heap t items) (hs : s.heap.IsSliceOf sl vl vu .none) (pl : IsPart vl lo) (pu : IsPart vu hi)
    (hw : ¬ (sIx items.size 0 lo = 0 ∧ sIx items.size items.size hi = items.size))
    (h : Q (.ref s.heap.objs.size) { s with heap := s.heap.push { cls := .type "tuple", data := .seq ((items.toList.drop (sIx items.size 0 lo)).take (sIx items.size items.size hi - sIx items.size 0 lo)).toArray } })
    (hsz : items.size ≤ sizeLine) : wpAny (model prog w) A (getItem (.ref t) (.ref sl)) Q E s := by
  have htake : sizeOk (.seq ((items.toList.drop (sIx items.size 0 lo)).take (sIx items.size items.size hi - sIx items.size 0 lo)).toArray) := by
    show ((items.toList.drop (sIx items.size 0 lo)).take (sIx items.size items.size hi - sIx items.size 0 lo)).toArray.size ≤ sizeLine
    rw [List.size_toArray, List.length_take, List.length_drop, Array.length_toList]
    omega
  have hj : sIx items.size items.size hi ≤ items.size := sIx_le _ _ (Nat.le_refl _) hi
  obtain ⟨os, hos, hcs, hds⟩ := id hs
  have hTs : s.TypeIs (.ref sl) "slice" := ⟨os, hos, hcs⟩
  unfold getItem
  try with_reducible refine wpAny_holding ?_
  first | refine wpAny_bind (wpAny_pure ?_) | skip
  refine wpAny_bind (wpAny_sequenceKey ht.typeIs (by decide) ?_)
  refine wpAny_bind (wpAny_callSpecial?_slot (name := Str.ofString "__getitem__") ht.typeIs PyProof.Rows.slot_tuple_getitem
    (wpAny_call_entry PyProof.Rows.slot_tuple_getitem ht.typeIs entry_tuple_getitem ?_ (args_tuple_getitem _ _)))
  show wpAny _ _ (Builtin.Tuple.tupleItemsOf (.ref t) >>= _) _ _ s
  refine wpAny_bind (tupleItemsOf_ ht ?_)
  refine wpAny_bind (wpAny_typeOf hTs ?_)
  rw [if_pos (by decide)]
  refine wpAny_bind (sliceApplied_gen hs pl pu ?_)
  have hno : ¬ ((((sIx items.size 0 lo : Nat) : Int) == 0 && (1 : Int) == 1 && (sIx items.size items.size hi - sIx items.size 0 lo) == items.size) = true) := by
    intro q
    rw [Bool.and_eq_true, Bool.and_eq_true] at q
    have q1 : ((sIx items.size 0 lo : Nat) : Int) = 0 := eq_of_beq q.1.1
    have q2 : sIx items.size items.size hi - sIx items.size 0 lo = items.size := eq_of_beq q.2
    exact hw ⟨by omega, by omega⟩
  show wpAny _ _ (if (((sIx items.size 0 lo : Nat) : Int) == 0 && (1 : Int) == 1 && (sIx items.size items.size hi - sIx items.size 0 lo) == items.size) = true then _ else _) _ _ s
  rw [if_neg hno, pick_gen]
  first
    | exact wpAny_bind (m := Builtin.Tuple.tupleExact _) (wpAny_newObj_type (wpAny_pure ⟨_, rfl, wpAny_pure h⟩) htake)
    | exact wpAny_bind (m := Builtin.Tuple.tupleExact _) (wpAny_newObj_type (wpAny_bind (wpAny_pure (wpAny_pure ⟨_, rfl, wpAny_pure h⟩))) htake)
    | exact wpAny_bind (wpAny_bind (m := Builtin.Tuple.tupleExact _) (wpAny_newObj_type (wpAny_pure (wpAny_pure ⟨_, rfl, wpAny_pure h⟩)) htake))
    | exact wpAny_bind (wpAny_bind (m := Builtin.Tuple.tupleExact _) (wpAny_newObj_type (wpAny_pure ⟨_, rfl, wpAny_pure h⟩) htake))
end
end HT

namespace L2
open PySem PySem.Spec PyProof.Rows

noncomputable abbrev TO := St → Hp → (Option Int → Hp → Prop) → Prop
noncomputable def PO (X : Cx) (e : Option Expr) (t : TO) : Prop :=
  ∀ (pins : List (Addr × Obj)) (s : Shared) (σ : St) (H : Hp) (Q : Option Int → Hp → Prop), Inv X pins σ H s → t σ H Q →
    wpAny (model X.prog X.w) X.A (evalPart e X.env) (fun u s' => ∃ o H', Inv X pins σ H' s' ∧ IsPart u o ∧ Q o H') X.xe s
noncomputable def tNoPart : TO := fun _ H Q => Q none H
noncomputable def tPart (t : TE) : TO := fun σ H Q => t σ H fun x H1 => ∃ i, x = .int i ∧ Q (some i) H1

section
variable {X : Cx} {e : Expr} {te : TE} {lo hi : Option Expr} {tl th : TO} {pos p2 : Pos}

theorem po_none : PO X none tNoPart := by
  intro pins s σ H Q I h
  rw [evalPart_none]
  exact wpAny_pure ⟨none, H, I, .none, h⟩
theorem po_some (h : PE X e te) : PO X (some e) (tPart te) := by
  intro pins s σ H Q I hw
  rw [evalPart_some]
  refine thn (h pins s σ H _ I hw) fun u s1 ⟨x, H1, I1, r1, q1⟩ => ?_
  obtain ⟨i, rfl, q⟩ := q1
  obtain ⟨t, rfl⟩ := r1
  exact ⟨some i, H1, I1, .int i t, q⟩

noncomputable def SlR (X : Cx) (r : V → Option Int → Option Int → Hp → VK → Prop) : Prop :=
  ∀ (pins : List (Addr × Obj)) (s : Shared) (σ : St) (H : Hp) (x : V) (v vl vu : Value) (lo hi : Option Int) (sl : Addr) (Q : VK), Inv X pins σ H s → RelV x v → s.heap.IsSliceOf sl vl vu .none → IsPart vl lo → IsPart vu hi → r x lo hi H Q →
    ∃ T id, typeLookup (.type T) "__getitem__" = pure (some (.builtin id)) ∧ s.TypeIs v T ∧ wpAny (model X.prog X.w) X.A (getItem v (.ref sl)) (EP X pins σ Q) X.xe s
theorem SlR.or {r r' : V → Option Int → Option Int → Hp → VK → Prop} (h : SlR X r) (h' : SlR X r') : SlR X (fun x lo hi H Q => r x lo hi H Q ∨ r' x lo hi H Q) := by
  intro pins s σ H x v vl vu lo hi sl Q I rx hs pl pu q
  rcases q with q | q
  · exact h pins s σ H x v vl vu lo hi sl Q I rx hs pl pu q
  · exact h' pins s σ H x v vl vu lo hi sl Q I rx hs pl pu q
noncomputable def tSl (r : V → Option Int → Option Int → Hp → VK → Prop) (te : TE) (tl th : TO) : TE := fun σ H Q => te σ H fun x H1 => tl σ H1 fun l H2 => th σ H2 fun u H3 => r x l u H3 Q
theorem pe_slice {r : V → Option Int → Option Int → Hp → VK → Prop} (hr : SlR X r) (he : PE X e te) (hl : PO X lo tl) (hu : PO X hi th) : PE X (.Subscript e (.Slice lo hi none p2) pos) (tSl r te tl th) := by
  intro pins s σ H Q I h
  refine Subscript_ (thn (he pins s σ H _ I h) fun v s1 ⟨x, H1, I1, r1, q1⟩ => ?_)
  refine wpAny_Slice (thn (hl pins s1 σ H1 _ I1 q1) fun vl s2 ⟨l, H2, I2, pl, q2⟩ => thn (hu pins s2 σ H2 _ I2 q2) fun vu s3 ⟨u, H3, I3, pu, q3⟩ => ?_)
  rw [evalPart_none]
  refine wpAny_pure ?_
  have I4 : Inv X pins σ H3 { s3 with heap := s3.heap.push { cls := .type "slice", data := .fields #[vl, vu, .none] } } := I3.kept (t' := s3.toks) fun b ob q => Heap.get?_push_of_some _ q
  obtain ⟨T, id, hT, ht, hg⟩ := hr pins { s3 with heap := s3.heap.push { cls := .type "slice", data := .fields #[vl, vu, .none] } } σ H3 x v vl vu l u s3.heap.objs.size Q I4 r1 (Heap.IsSliceOf.new ..) pl pu q3
  show wpAny (model X.prog X.w) X.A (subscriptTail e (.Slice lo hi none p2) v (.ref s3.heap.objs.size)) (EP X pins σ Q) X.xe { s3 with heap := s3.heap.push { cls := .type "slice", data := .fields #[vl, vu, .none] } }
  exact tail_any (ops := [.ref s3.heap.objs.size, v]) ht hT hg (by with_unfolding_all rfl)

noncomputable def cutV (xs : List V) (lo hi : Option Int) : List V := (xs.drop (HT.sIx xs.length 0 lo)).take (HT.sIx xs.length xs.length hi - HT.sIx xs.length 0 lo)
theorem cutV_length (xs : List V) (lo hi : Option Int) : (cutV xs lo hi).length ≤ xs.length := by
  unfold cutV
  rw [List.length_take, List.length_drop]
  omega
noncomputable def rSlT (K : PySem.W.Frag) : V → Option Int → Option Int → Hp → VK → Prop := fun x lo hi H Q => ∃ a xs, x = .ref a ∧ SqT K H a xs ∧
  ¬ (HT.sIx xs.length 0 lo = 0 ∧ HT.sIx xs.length xs.length hi = xs.length) ∧ ∀ p, H p = none → Q (.ref p) (upd H p (.tup (cutV xs lo hi)))
theorem sl_tup : SlR X (rSlT X.K) := by
  intro pins s σ H x v vl vu lo hi sl Q I rx hs pl pu h
  obtain ⟨a, xs, rfl, hx, hw, q⟩ := h
  cases rx
  obtain ⟨its, r, ht, hz⟩ := I.tuple hx
  have hlen : its.toArray.size = xs.length := by rw [List.size_toArray]; exact r.length.symm
  refine ⟨"tuple", _, PyProof.Rows.slot_tuple_getitem.lookup, ht.typeIs, ?_⟩
  refine HT.getItem_tuple_cut ht hs pl pu (by rw [hlen]; exact hw) ?_ (by rw [hlen]; exact hz)
  rw [hlen]
  refine ⟨.ref s.heap.objs.size, _, I.laid (t' := s.toks) (o := .tup (cutV xs lo hi)) (fun b ob q => Heap.get?_push_of_some _ q) (Nat.le_refl _) ?_, rfl, q _ (I.hok.fresh (Nat.le_refl _))⟩
  exact ⟨Nat.le_trans (cutV_length xs lo hi) hz, _, (r.drop (HT.sIx xs.length 0 lo)).take (HT.sIx xs.length xs.length hi - HT.sIx xs.length 0 lo), IsTup.new _ _⟩

noncomputable def rCatT (K : PySem.W.Frag) : R2 := fun x y H Q => ∃ a b xs ys, x = .ref a ∧ y = .ref b ∧ SqT K H a xs ∧ SqT K H b ys ∧ xs ≠ [] ∧ xs.length + ys.length ≤ sizeLine ∧
  (ys = [] → Q (.ref a) H) ∧ (ys ≠ [] → ∀ p, H p = none → Q (.ref p) (upd H p (.tup (xs ++ ys))))
theorem Vals.nil_iff {xs : List V} {us : List Value} (r : Vals xs us) : us = [] ↔ xs = [] := by
  cases r with
  | nil => simp
  | cons _ _ => simp
theorem op_catT : OpR X (binaryOp .Add) (rCatT X.K) := by
  intro pins s σ H x y v u Q I rx ry h
  obtain ⟨a, b, xs, ys, rfl, rfl, ha, hb, hx, hz, q1, q2⟩ := h
  cases rx
  cases ry
  obtain ⟨its, r1, p1, _⟩ := I.tuple ha
  obtain ⟨its2, r2, p2, _⟩ := I.tuple hb
  refine HT.cat_tup p1 p2 (fun z => hx (r1.nil_iff.mp z)) (fun z => ⟨.ref a, H, I, rfl, q1 (r2.nil_iff.mp z)⟩) (fun z => ?_) (by rw [← r1.length, ← r2.length]; exact hz)
  refine ⟨.ref s.heap.objs.size, _, I.laid (t' := s.toks) (o := .tup (xs ++ ys)) (fun b ob q => Heap.get?_push_of_some _ q) (Nat.le_refl _) ?_, rfl, q2 (fun w => z (r2.nil_iff.mpr w)) _ (I.hok.fresh (Nat.le_refl _))⟩
  exact ⟨by rw [List.length_append]; exact hz, _, r1.append r2, IsTup.new _ _⟩
end
end L2

namespace L2
open PySem PySem.Spec PyProof.Rows

noncomputable def ixN (n : Nat) (i : Int) : Option Nat := if 0 ≤ i then (if i < n then some i.toNat else none) else if -(n : Int) ≤ i then some (i + n).toNat else none
noncomputable def atI {α : Type} (xs : List α) (i : Int) : Option α := (ixN xs.length i).bind fun j => xs[j]?
theorem ixN_seq {n : Nat} {i : Int} {j : Nat} (h : ixN n i = some j) : seqIndex? i n = some j ∧ j < n ∧ -(n : Int) ≤ i ∧ i < n := by
  unfold ixN at h
  by_cases h0 : 0 ≤ i
  · rw [if_pos h0] at h
    by_cases h1 : i < n
    · rw [if_pos h1] at h
      have e : i.toNat = j := Option.some.inj h
      exact ⟨by rw [seqIndex_of h0 h1, e], by omega, by omega, h1⟩
    · rw [if_neg h1] at h; cases h
  · rw [if_neg h0] at h
    by_cases h1 : -(n : Int) ≤ i
    · rw [if_pos h1] at h
      have e : (i + n).toNat = j := Option.some.inj h
      exact ⟨by rw [seqIndex_neg (by omega) h1, e], by omega, h1, by omega⟩
    · rw [if_neg h1] at h; cases h
theorem atI_get {α : Type} {xs : List α} {i : Int} {v : α} (h : atI xs i = some v) : ∃ j, seqIndex? i xs.length = some j ∧ xs[j]? = some v ∧ j < xs.length ∧ -(xs.length : Int) ≤ i ∧ i < xs.length := by
  unfold atI at h
  cases e : ixN xs.length i with
  | none => rw [e] at h; cases h
  | some j =>
    rw [e] at h
    obtain ⟨h1, h2, h3, h4⟩ := ixN_seq e
    exact ⟨j, h1, h, h2, h3, h4⟩
noncomputable def PlainIx (b : Expr) : Prop := ∀ o i, subscripted b false o i = operate [o, i] (getItem o i)
noncomputable def IxR (X : Cx) (r : R2) : Prop :=
  ∀ (value slice : Expr) (pins : List (Addr × Obj)) (s : Shared) (σ : St) (H : Hp) (x y : V) (v u : Value) (Q : VK), Inv X pins σ H s → RelV x v → RelV y u → r x y H Q →
    subscripted slice false v u = operate [v, u] (getItem v u) → wpAny (model X.prog X.w) X.A (subscriptTail value slice v u) (EP X pins σ Q) X.xe s
noncomputable def MtR (X : Cx) (id : String) (r : V → List V → Hp → VK → Prop) : Prop :=
  ∀ (pins : List (Addr × Obj)) (s : Shared) (σ : St) (H : Hp) (x : V) (xs : List V) (v : Value) (us : List Value) (Q : VK), Inv X pins σ H s → RelV x v → Vals xs us → r x xs H Q →
    wpAny (model X.prog X.w) X.A (call (.builtin id) (v :: us)) (EP X pins σ Q) X.xe s
section
variable {X : Cx} {a b : Expr} {ta tb : TE} {pos : Pos}
theorem IxR.or {r r' : R2} (h : IxR X r) (h' : IxR X r') : IxR X (fun x y H Q => r x y H Q ∨ r' x y H Q) := by
  intro value slice pins s σ H x y v u Q I rx ry q hs
  rcases q with q | q
  · exact h value slice pins s σ H x y v u Q I rx ry q hs
  · exact h' value slice pins s σ H x y v u Q I rx ry q hs
theorem MtR.or {id : String} {r r' : V → List V → Hp → VK → Prop} (h : MtR X id r) (h' : MtR X id r') : MtR X id (fun x xs H Q => r x xs H Q ∨ r' x xs H Q) := by
  intro pins s σ H x xs v us Q I rx rs q
  rcases q with q | q
  · exact h pins s σ H x xs v us Q I rx rs q
  · exact h' pins s σ H x xs v us Q I rx rs q
theorem pe_ix {r : R2} (hr : IxR X r) (ha : PE X a ta) (hb : PE X b tb) (hs : PlainIx b) : PE X (.Subscript a b pos) (tOp r ta tb) := by
  intro pins s σ H Q I h
  exact Subscript_ (binT ha hb I h fun v u s2 x y H2 I2 rx ry q => hr a b pins s2 σ H2 x y v u Q I2 rx ry q (hs _ _))

noncomputable def rIxL (K : PySem.W.Frag) : R2 := fun x y H Q => ∃ p xs i v, x = .ref p ∧ y = .int i ∧ SqL K H p xs ∧ atI xs i = some v ∧ Q v H
noncomputable def rIxT (K : PySem.W.Frag) : R2 := fun x y H Q => ∃ p xs i v, x = .ref p ∧ y = .int i ∧ SqT K H p xs ∧ atI xs i = some v ∧ Q v H
theorem ix_list : IxR X (rIxL X.K) := by
  intro value slice pins s σ H x y v u Q I rx ry h hs
  obtain ⟨p, xs, i, z, rfl, rfl, hq, he, q⟩ := h
  cases rx
  obtain ⟨t, rfl⟩ := ry
  obtain ⟨its, r, pl, hz⟩ := I.list hq
  obtain ⟨j, h1, h2, h3, h4, h5⟩ := atI_get he
  obtain ⟨w, ew, rw'⟩ := r.get h2
  have hl := r.length
  have hn := line63
  have fin : EP X pins σ Q w s := ⟨z, H, I, rw', q⟩
  by_cases h0 : 0 ≤ i
  · have hj : i.toNat = j := by
      rw [seqIndex_of h0 h5] at h1
      exact Option.some.inj h1
    exact item_listR pl.isList h0 (by omega) (by rw [hj]; simpa using ew) fin hs
  · have hj : (i + (its.toArray.size : Int)).toNat = j := by
      rw [seqIndex_neg (by omega) h4] at h1
      rw [List.size_toArray, ← hl]
      exact Option.some.inj h1
    exact subscriptTail_builtinR (x := w) pl.isList.typeIs slot_list_getitem.lookup
      (wpAny_getItem_list_neg (Q := fun r s' => r = w ∧ EP X pins σ Q r s') pl.isList (by omega) (by rw [List.size_toArray] <;> omega) (by omega) (by rw [hj]; simpa using ew) ⟨rfl, fin⟩) hs
theorem ix_tup : IxR X (rIxT X.K) := by
  intro value slice pins s σ H x y v u Q I rx ry h hs
  obtain ⟨p, xs, i, z, rfl, rfl, hq, he, q⟩ := h
  cases rx
  obtain ⟨t, rfl⟩ := ry
  obtain ⟨its, r, pl, hz⟩ := I.tuple hq
  obtain ⟨j, h1, h2, h3, h4, h5⟩ := atI_get he
  obtain ⟨w, ew, rw'⟩ := r.get h2
  have hl := r.length
  have hn := line63
  have fin : EP X pins σ Q w s := ⟨z, H, I, rw', q⟩
  exact subscriptTail_builtinR (x := w) pl.typeIs slot_tuple_getitem.lookup
    (getItem_tuple (j := j) (Q := fun r s' => r = w ∧ EP X pins σ Q r s') pl (by omega) (by omega) (by rw [List.size_toArray, ← hl]; exact h1) (by simpa using ew) ⟨rfl, fin⟩) hs
theorem Inv.lst {pins : List (Addr × Obj)} {σ : St} {H : Hp} {s : Shared} {p : Addr} {xs : List V} (I : Inv X pins σ H s) (h : H p = some (.lst xs)) :
    ∃ (its : List Value) (n : Nat), Vals xs its ∧ s.heap.get? p = some { cls := .type "list", data := .seq its.toArray n } ∧ xs.length ≤ sizeLine := by
  obtain ⟨z, its, n, r, e⟩ := I.hok p _ h
  exact ⟨its, n, r, e, z⟩
theorem slice_bounds (lo hi : Option Int) (n : Nat) : (sliceBounds lo hi none n).1 = ((HT.sIx n 0 lo : Nat) : Int) ∧ (sliceBounds lo hi none n).2.1 = ((HT.sIx n n hi : Nat) : Int) ∧ (sliceBounds lo hi none n).2.2 = 1 := by
  refine ⟨?_, ?_, rfl⟩
  · cases lo with
    | none => simp [sliceBounds, HT.sIx]
    | some i =>
      simp only [sliceBounds, HT.sIx, Option.getD_none, show (1 : Int) > 0 by decide, if_true]
      by_cases h : i < 0
      · simp only [h, if_true] <;> omega
      · simp only [h, if_false] <;> omega
  · cases hi with
    | none => simp [sliceBounds, HT.sIx]
    | some i =>
      simp only [sliceBounds, HT.sIx, Option.getD_none, show (1 : Int) > 0 by decide, if_true]
      by_cases h : i < 0
      · simp only [h, if_true] <;> omega
      · simp only [h, if_false] <;> omega
theorem slicePick_cut (its : List Value) (lo hi : Option Int) : slicePick its.toArray lo hi none = ((its.drop (HT.sIx its.length 0 lo)).take (HT.sIx its.length its.length hi - HT.sIx its.length 0 lo)).toArray := by
  obtain ⟨h1, h2, h3⟩ := slice_bounds lo hi its.toArray.size
  unfold slicePick
  rw [h1, h2, h3]
  simp only [sliceRange_one, pick_run, List.size_toArray] <;> rfl
noncomputable def rSlL (K : PySem.W.Frag) : V → Option Int → Option Int → Hp → VK → Prop := fun x lo hi H Q => ∃ a xs, x = .ref a ∧ SqL K H a xs ∧ ∀ p, H p = none → Q (.ref p) (upd H p (.lst (cutV xs lo hi)))
theorem sl_list : SlR X (rSlL X.K) := by
  intro pins s σ H x v vl vu lo hi sl Q I rx hs pl pu h
  obtain ⟨a, xs, rfl, hx, q⟩ := h
  cases rx
  obtain ⟨its, r, ht, hz⟩ := I.list hx
  have hlen := r.length
  refine ⟨"list", _, slot_list_getitem.lookup, ht.isList.typeIs, ?_⟩
  refine wpAny_getItem_list_slice ht.isList hs pl pu .none (by simp) ?_ (by rw [List.size_toArray] <;> omega)
  rw [slicePick_cut, ← hlen]
  refine ⟨.ref s.heap.objs.size, _, I.laid (t' := s.toks) (o := .lst (cutV xs lo hi)) (fun b ob q => Heap.get?_push_of_some _ q) (Nat.le_refl _) ?_, rfl, q _ (I.hok.fresh (Nat.le_refl _))⟩
  exact ⟨Nat.le_trans (cutV_length xs lo hi) hz, _, 0, (r.drop (HT.sIx xs.length 0 lo)).take (HT.sIx xs.length xs.length hi - HT.sIx xs.length 0 lo), Heap.get?_push_size _ rfl⟩

theorem call_len_seq : CallR X (.builtin "len") (fun xs H Q => ∃ p ys, xs = [.ref p] ∧ (SqL X.K H p ys ∨ SqT X.K H p ys) ∧ Q (.int ys.length) H) := by
  intro pins s σ H xs us Q I r h
  obtain ⟨p, ys, rfl, hq, q⟩ := h
  obtain ⟨u, rfl, rx⟩ := vals1 r
  cases rx
  have hn := line63
  rcases hq with hq | hq
  · obtain ⟨its, r', pl, hz⟩ := I.list hq
    have hlen := r'.length
    exact Calls.call_len_list pl.isList (by simp only [List.size_toArray] <;> omega) ⟨.int ys.length, H, I.tok _, ⟨s.toks + 1, by rw [List.size_toArray, hlen]⟩, q⟩
  · obtain ⟨its, r', pl, hz⟩ := I.tuple hq
    have hlen := r'.length
    exact len_tuple pl (by simp only [List.size_toArray] <;> omega) ⟨.int ys.length, H, I.tok _, ⟨s.toks + 1, by rw [List.size_toArray, hlen]⟩, q⟩
theorem CallR.or {f : Value} {r r' : List V → Hp → VK → Prop} (h : CallR X f r) (h' : CallR X f r') : CallR X f (fun xs H Q => r xs H Q ∨ r' xs H Q) := by
  intro pins s σ H xs us Q I rs q
  rcases q with q | q
  · exact h pins s σ H xs us Q I rs q
  · exact h' pins s σ H xs us Q I rs q
theorem call_tuple_of : CallR X (.type "tuple") (fun xs H Q => ∃ p ys, xs = [.ref p] ∧ ((SqL X.K H p ys ∧ ∀ l, H l = none → Q (.ref l) (upd H l (.tup ys))) ∨ (SqT X.K H p ys ∧ Q (.ref p) H))) := by
  intro pins s σ H xs us Q I r h
  obtain ⟨p, ys, rfl, h⟩ := h
  obtain ⟨u, rfl, rx⟩ := vals1 r
  cases rx
  rcases h with ⟨hq, q⟩ | ⟨hq, q⟩
  · obtain ⟨its, r', pl, hz⟩ := I.list hq
    have hlen := r'.length
    refine call_tuple_list pl.isList (fun h' kp => ?_) (by simp only [List.size_toArray] <;> omega)
    have I1 : Inv X pins σ H { s with heap := h' } := I.kept (t' := s.toks) kp
    have I2 : Inv X pins σ (upd H h'.objs.size (.tup ys)) { s with heap := h'.push { cls := .type "tuple", data := .seq its.toArray } } :=
      I1.laid (t' := s.toks) (fun b o e => Heap.get?_push_of_some _ e) (Nat.le_refl _) (show ObjOk X.prog X.w _ _ _ (.tup ys) from ⟨hz, its, r', IsTup.new _ _⟩)
    exact ⟨.ref h'.objs.size, _, I2, rfl, q _ (I1.hok.fresh (Nat.le_refl _))⟩
  · obtain ⟨its, r', pl, hz⟩ := I.tuple hq
    exact call_tuple_same pl ⟨.ref p, H, I, rfl, q⟩

noncomputable def tyV (K : PySem.W.Frag) (T : String) (x : V) (H : Hp) : Prop := match x with
  | .str _ => T = "str"
  | .int _ => T = "int"
  | .ref p => (T = "list" ∧ ∃ xs, SqL K H p xs) ∨ (T = "tuple" ∧ ∃ o, K.lookup p = some o ∧ o.cls = .type "tuple" ∧ o.dict = none) ∨
      (T = "dict" ∧ ((∃ kvs, H p = some (.dK kvs)) ∨ ∃ kvs, H p = some (.dT kvs))) ∨ (T = "set" ∧ ∃ S n, H p = some (.set S n))
  | _ => False
theorem tyV_is {pins : List (Addr × Obj)} {σ : St} {H : Hp} {s : Shared} {T : String} {x : V} {v : Value} (I : Inv X pins σ H s) (r : RelV x v) (ty : tyV X.K T x H) :
    s.TypeIs v T ∧ ∀ a, v = .ref a → ∃ ob, s.heap.get? a = some ob ∧ ob.dict = none := by
  cases x with
  | str z =>
    obtain ⟨t, rfl⟩ := r
    cases (show T = "str" from ty)
    exact ⟨typeIs_str s z t, fun _ e => nomatch e⟩
  | int i =>
    obtain ⟨t, rfl⟩ := r
    cases (show T = "int" from ty)
    exact ⟨typeIs_int s i t, fun _ e => nomatch e⟩
  | ref p =>
    cases r
    rcases ty with ⟨rfl, xs, hq⟩ | ⟨rfl, o, hk, hc, hd⟩ | ⟨rfl, hk⟩ | ⟨rfl, S, n, hk⟩
    · obtain ⟨its, _, pl, _⟩ := I.list hq
      refine ⟨pl.isList.typeIs, fun a e => ?_⟩
      cases e
      obtain ⟨o, n, e, c, hd, _⟩ := pl
      exact ⟨o, e, hd⟩
    · refine ⟨⟨o, I.kIn p o hk, hc⟩, fun a e => ?_⟩
      cases e
      exact ⟨o, I.kIn _ o hk, hd⟩
    · have z : ∃ o, s.heap.get? p = some o ∧ o.ExactDict := by
        rcases hk with ⟨kvs, hk⟩ | ⟨kvs, hk⟩
        · obtain ⟨_, _, _, _, o, _, _, e, ex, _⟩ := I.hok p _ hk
          exact ⟨o, e, ex⟩
        · obtain ⟨_, _, _, _, o, _, _, e, ex, _⟩ := I.hok p _ hk
          exact ⟨o, e, ex⟩
      obtain ⟨o, e, ex⟩ := z
      refine ⟨⟨o, e, ex.1⟩, fun a e2 => ?_⟩
      cases e2
      exact ⟨o, e, ex.2.1⟩
    · obtain ⟨o, _, _, _, e, ex, _⟩ := I.hok p _ hk
      refine ⟨⟨o, e, ex.1⟩, fun a e2 => ?_⟩
      cases e2
      exact ⟨o, e, ex.2.1⟩
  | _ => exact False.elim ty
noncomputable def tBM (K : PySem.W.Frag) (T : String) (r : V → List V → Hp → VK → Prop) (to : TE) (t : TA) : TE := fun σ H Q => to σ H fun x H1 => tyV K T x H1 ∧ t σ H1 fun xs H2 => r x xs H2 Q
variable {o e : Expr} {es : List Expr} {to : TE} {t : TA} {name : Str} {apos cpos : Pos} {T id : String} {r : V → List V → Hp → VK → Prop}
theorem pe_bm (pa : PlainAttrs T) (slot : Slot T name id) (hty : typeOf (.builtin id) = pure (.type "method_descriptor")) (hm : MtR X id r) (ho : PE X o to) (ha : PA X (e :: es) t)
    (hbase : attributeBase o name X.env (eval o X.env) = eval o X.env := by rfl)
    (hfew : ((backTo cpos (starEach (e :: es) X.env)).all (fun x => !x.1) && (backToKw cpos (keywordEach [] X.env)).all (fun x => x.1.isSome)
      && decide ((e :: es).length + ([] : List Keyword).length + (if ([] : List Keyword).isEmpty then 0 else 1) < 30)) = true := by rfl)
    (hline : (apos.endLine == cpos.line) = true := by rfl) (hs : starEach (e :: es) X.env = (false, eval e X.env) :: starEach es X.env := by rfl) (hplain : (backTo cpos (starEach es X.env)).any (·.1) = false := by rfl) :
    PE X (.Call (.Attribute o name apos) (e :: es) [] cpos) (tBM X.K T r to t) := by
  intro pins s σ H Q I h
  refine wpAny_Call_method_late hbase hfew hline rfl (thn (ho pins s σ H _ I h) fun v s1 ⟨x, H1, I1, r1, ty, q1⟩ => ?_)
  obtain ⟨h1, h2⟩ := tyV_is I1 r1 ty
  refine ⟨T, id, pa, slot, hty, h1, h2, ?_⟩
  have hA := ha cpos pins s1 σ H1 _ I1 q1
  rw [hs] at hA ⊢
  refine Calls.callWith_builtin (by show (false || (backTo cpos (starEach es X.env)).any (·.1)) = false; rw [hplain] <;> rfl) (Calls.evalArgs_plain ?_)
  exact thn hA fun us s2 ⟨vs, H2, I2, r2, q2⟩ => hm pins s2 σ H2 x vs v us Q I2 r1 r2 q2
/- xs.append(e), list.index on a module's tuple .. are MtR facts of 06m -/
end
end L2

namespace L2
open PySem PySem.Spec PyProof.Rows

noncomputable def MtM (X : Cx) (id : String) (r : V → List V → Hp → VK → Prop) : Prop :=
  ∀ (pins : List (Addr × Obj)) (s : Shared) (σ : St) (H : Hp) (x : V) (xs : List V) (v : Value) (us : List Value) (Q : VK), Inv X pins σ H s → RelV x v → Vals xs us → r x xs H Q →
    wpAny (model X.prog X.w) X.A (call (.builtin id) (v :: us)) (EP X pins σ Q) X.xe s

theorem Vals.one : ∀ {x : V} {us : List Value}, Vals [x] us → ∃ u, us = [u] ∧ RelV x u
  | _, _, .cons r .nil => ⟨_, rfl, r⟩
theorem Vals.zero : ∀ {us : List Value}, Vals [] us → us = []
  | _, .nil => rfl
theorem Vals.reverse {xs : List V} {us : List Value} (h : Vals xs us) : Vals xs.reverse us.reverse := by
  induction h with
  | nil => exact .nil
  | cons r t ih => rw [List.reverse_cons, List.reverse_cons]; exact Vals.append ih (.cons r .nil)
theorem Vals.rep {xs : List V} {us : List Value} (h : Vals xs us) : ∀ k : Nat, Vals (List.replicate k xs).flatten (List.replicate k us).flatten
  | 0 => .nil
  | k + 1 => by
    rw [List.replicate_succ, List.replicate_succ, List.flatten_cons, List.flatten_cons]
    exact Vals.append h (Vals.rep h k)
section
variable {X : Cx} {pins : List (Addr × Obj)} {σ : St} {H : Hp} {s : Shared} {l b : Addr} {xs ys zs : List V}

theorem Inv.lset {its its' : List Value} {n : Nat} {f : Array Value → Array Value} {t' : Nat} (I : Inv X pins σ H s) (hH : H l = some (.lst xs))
    (e : s.heap.get? l = some { cls := .type "list", data := .seq its.toArray n }) (hf : f its.toArray = its'.toArray) (hv : Vals ys its') (hz : ys.length ≤ sizeLine) :
    Inv X pins σ (upd H l (.lst ys)) { s with heap := s.heap.update l (Obj.mapSeq f), toks := t' } := by
  have q := PySem.IsL.update e f
  rw [hf] at q
  refine I.write (x := l) (e := l) (by rw [hH]; exact trivial) (.inl rfl) (fun b' u hb hu => (Heap.get?_update_other s.heap (Obj.mapSeq f) (Ne.symm hb)).trans hu) ⟨_, q⟩ ?_
  exact ⟨hz, its', _, hv, q⟩
theorem Inv.lnew {its : List Value} {t' : Nat} (I : Inv X pins σ H s) (hv : Vals ys its) (hz : ys.length ≤ sizeLine) :
    Inv X pins σ (upd H s.heap.objs.size (.lst ys)) { s with heap := s.heap.push { cls := .type "list", data := .seq its.toArray }, toks := t' } :=
  I.laid (fun _ _ q => Heap.get?_push_of_some _ q) (Nat.le_refl _) ⟨hz, its, 0, hv, Heap.get?_push_size _ rfl⟩
theorem Inv.fresh (I : Inv X pins σ H s) : H s.heap.objs.size = none := I.hok.fresh (Nat.le_refl _)
theorem Inv.lstM (I : Inv X pins σ H s) (hH : H l = some (.lst xs)) : xs.length ≤ sizeLine ∧ ∃ (its : List Value) (n : Nat), Vals xs its ∧ xs.length = its.length ∧ s.heap.get? l = some { cls := .type "list", data := .seq its.toArray n } := by
  obtain ⟨z, its, n, r, e⟩ := I.hok l _ hH
  exact ⟨z, its, n, r, r.length, e⟩

end

section
variable {X : Cx}

noncomputable def rAppend : V → List V → Hp → VK → Prop := fun x vs H Q => ∃ l xs y, x = .ref l ∧ vs = [y] ∧ H l = some (.lst xs) ∧ xs.length < sizeLine ∧ Q .non (upd H l (.lst (xs ++ [y])))
theorem mt_append : MtM X "list.append" rAppend := by
  intro pins s σ H x vs v us Q I rx rv h
  obtain ⟨l, xs, y, rfl, rfl, hH, hz, q⟩ := h
  cases rx
  obtain ⟨u, rfl, ru⟩ := rv.one
  obtain ⟨z, its, n, r, hl, e⟩ := I.lstM hH
  refine call_meets F.slot_list_append ⟨_, e, rfl⟩ F.entry_list_append (F.args_list_append_2 _ _) (PySem.list_append l its.toArray n u (by rw [List.size_toArray]; omega)) ⟨e, ?_⟩
  refine ⟨.non, _, I.lset (its' := its ++ [u]) hH e (by simp) (r.append (.cons ru .nil)) ?_, rfl, q⟩
  rw [List.length_append, List.length_singleton]
  omega

end

section
variable {prog : Program} {w : World} {A : Around} {E : Value → Shared → Prop} {s : Shared}
set_option maxRecDepth 100000 in
end

section
variable {X : Cx}
end
end L2

namespace Att
open PySem PySem.W PySem.Calls PyProof.Rows

theorem ints_of_wellAll {P : Params} {h : Heap} : ∀ (ns : List Int) (vs : List Value), WellAll P h vs (ns.map WData.int) → IntsAre vs ns := by
  intro ns
  induction ns with
  | nil =>
    intro vs w
    rw [List.map_nil] at w
    cases w
    exact .nil
  | cons n ns ih =>
    intro vs w
    rw [List.map_cons] at w
    cases w with
    | cons a b =>
      cases a
      exact .cons _ _ (ih _ b)

theorem script_of {l : OpenLaw} {n : Nat} (hn : l.most = some n) {P : Params} {h : Heap} {args : List WData} {vals : List Value}
    (hpre : l.row.toRowW.claim.pre args = true) (hwl : WellAll P h vals args) :
    ∃ a vs ns, vals = [Value.ref a] ∧ args = [WData.list (ns.map WData.int)] ∧ h.get? a = some { cls := .type "list", data := .seq vs.toArray } ∧ IntsAre vs ns ∧ ns.length ≤ n := by
  have hsh : WShape.hasAll [] args [.list .int] = true := (pre_splitW hpre).1
  have hc : l.pre.holds [] { args := args } = true := (pre_splitW hpre).2
  obtain ⟨d, r, rfl, h1, h2⟩ := hasAllW_cons hsh
  obtain rfl := hasAllW_nil h2
  obtain ⟨xs, rfl, h3⟩ := hasW_list h1
  obtain ⟨ns, rfl⟩ := items_int h3
  have hlen : ns.length ≤ n := by
    unfold OpenLaw.pre at hc
    have h4 : (WTm.not (.lt (.lit (.int (n : Int))) (.len (.arg 0)))).holds [] { args := [.list (ns.map .int)] } = true := by
      have h4 := (holds_andW hc).1
      rw [hn] at h4
      exact h4
    have h5 := condW_of h4 (w_not (w_lt w_lit (w_len_list (w_arg rfl))))
    rw [List.length_map] at h5
    refine Nat.le_of_not_lt fun q => ?_
    have q' : (n : Int) < ((ns.length : Nat) : Int) := by omega
    first
      | (rw [decide_eq_true q'] at h5; exact absurd h5 (by decide))
      | (simp at h5; omega)
  cases hwl with
  | cons w1 w2 =>
    cases w2
    cases w1 with
    | list ho hall => exact ⟨_, _, ns, rfl, rfl, ho, ints_of_wellAll ns _ hall, hlen⟩

theorem post_true (l : OpenLaw) (args : List WData) : l.row.toRowW.claim.post args (.bool true) args = true :=
  postW_of (r := l.row.toRowW) (X := (true == true))
    (show WShape.has [] (.bool true) .bool = true by first | rfl | decide | simp [WShape.has, WShape.arms, WShape.armsAll])
    (show (WTm.eq .res (.lit (.bool true))).value [] { args := args, res := some (.bool true), after := args } = some (.bool (true == true)) from w_eq_bool (w_res rfl) w_lit) rfl

theorem attach_call {l : OpenLaw} {n : Nat} {q : Program} {loose : List Str} {XP : (Str → Option Value) → Heap → Prop} {YP : World → Heap → Prop} {d : DefRec}
    (hn : l.most = some n) (hdf : d.params.defaults = [])
    (call : ∀ (w : World) (s₀ s₁ : Shared) (mg mb : Str → Option Value) (fa : Addr) (o : Obj) (pm cd doc : Value) (a : Addr) (vs : List Value) (ns : List Int),
      Ground q loose [] XP w s₀ mg mb s₁.heap → YP w s₁.heap →
      s₁.heap.get? fa = some o → o.data = .func (docDef d.name d.params d.body d.scope pm cd doc) → s₁.heap.CodeRec cd d.name → mg d.name = some (.ref fa) →
      s₁.heap.get? a = some { cls := .type "list", data := .seq vs.toArray } → IntsAre vs ns → ns.length ≤ n → s₁.gens = #[] →
      codeAny (model l.prog w) callerA (.call (.ref fa) ⟨[.ref a], []⟩) (fun r s' => r = .ok (.ret (.bool true)) ∧ OldK s₁.heap s'.heap ∧ s'.os = s₁.os ∧ AllBare s'.gens) s₁) :
    WalkO q loose XP YP l.row.toRowW d [] (fun f vs => PySem.call f vs) := by
  intro w s₀ s₁ mg mb G Y fa o pm cd doc dV kV ho hd hcd hD hmg hg args vals as hpre hlay hrd hwl hlo
  obtain rfl : dV = .none := Dflts.none hD hdf
  obtain rfl : kV = .none := Dflts.noKw hD
  obtain ⟨a, vs, ns, rfl, rfl, hobj, hints, hlen⟩ := script_of hn hpre hwl
  refine enter_call (codeAny_mono (call w s₀ s₁ mg mb fa o pm cd doc a vs ns G Y ho (fd_plain hd) hcd hmg hobj hints hlen hg) fun r s' hq => ?_)
  obtain ⟨rfl, h2, h3, h4⟩ := hq
  exact ⟨.inl ⟨.bool true, .bool true, [], rfl, fun _ => rfl, .bool true, post_true l _, fun _ => ⟨List.Pairwise.nil, fun _ hm => (nomatch hm)⟩⟩, h2, h3, h4⟩

section
variable {prog : Program} {w : World} {A : Around} {E : Value → Shared → Prop} {s : Shared} {K : Frag}

end
end Att

namespace L2
open PySem PySem.Spec PyProof.Rows

theorem vals_ints : ∀ {vs : List Value} {ns : List Int}, IntsAre vs ns → Vals (ns.map V.int) vs
  | _, _, .nil => .nil
  | _, _, .cons n t h => .cons ⟨t, rfl⟩ (vals_ints h)

noncomputable def Only (H : Hp) : Prop := ∀ b, H b = none ∨ ∃ o xs, H b = some (.frz o (.lst xs))

theorem law_call {P : Program} {w : World} {K : PySem.W.Frag} {mg mb : Str → Option Value} {CX : CXT} {k : Nat} {fa a : Addr} {fd : FuncData} {x : Str} {sp : Sp} {s₁ : Shared} {vs : List Value} {ns : List Int}
    (KX : K.In s₁.heap) (hns : s₁.heap.Ns mainGlobals mg) (hb : s₁.heap.Ns builtinsNs mb) (hbb : ∀ x : Str, x ≠ "__name__" → mb x = bootBuiltins x) (hlim : s₁.heap.NoLimit) (hg : s₁.gens = #[])
    (ha : s₁.heap.get? a = some { cls := .type "list", data := .seq vs.toArray }) (hi : IntsAre vs ns) (hl : ns.length ≤ sizeLine) (hr : Room k callerA)
    (F : ∀ base : Heap, K.In base → base.Ns mainGlobals mg → FnOk P w K mg base CX k fa fd [x] sp) (hbind : ∀ (s : Shared) (u : Value), BindsTo s fd ⟨[u], []⟩ [(x, u)])
    (hsp : ∀ H : Hp, Only H → SqL K H a (ns.map V.int) → sp [.ref a] H (fun v _ => v = .bl true) fun _ _ _ => False)
    (hCX : ∀ H e s', CX [] H s₁ (fun _ _ _ => False) e s' → False) :
    codeAny (model P w) callerA (.call (.ref fa) ⟨[.ref a], []⟩) (fun r s' => r = .ok (.ret (.bool true)) ∧ OldK s₁.heap s'.heap ∧ s'.os = s₁.os ∧ AllBare s'.gens) s₁ := by
  have rv := vals_ints hi
  have lenV := hi.length
  -- from an abstract heap in which nothing but the script may be tracked
  have core : ∀ H : Hp, Only H → SqL K H a (ns.map V.int) → HOk P w H s₁.heap → (∀ b, H b ≠ none → b = a) → (H a ≠ none → K.lookup a = none) →
      codeAny (model P w) callerA (.call (.ref fa) ⟨[.ref a], []⟩) (fun r s' => r = .ok (.ret (.bool true)) ∧ OldK s₁.heap s'.heap ∧ s'.os = s₁.os ∧ AllBare s'.gens) s₁ := by
    intro H hO hS hok hA hK
    have base_of : ∀ {b : Addr} {o : Obj}, s₁.heap.get? b = some o → H b = none → (hidT s₁.heap H).get? b = some o := fun e n => hidT_get e n
    have noA : ∀ {b : Addr} {o : Obj} {es : Array DictEntry} {ep : Nat}, s₁.heap.get? b = some o → o.data = .dict es ep → H b = none := fun {b o es ep} e d => by
      cases q : H b with
      | none => rfl
      | some u =>
        have e' : b = a := hA b (by rw [q]; simp)
        subst e'
        rw [ha] at e; cases e
        have d' : Data.seq vs.toArray _ = Data.dict es ep := d
        cases d'
    have nsK : ∀ {b : Addr} {m : Str → Option Value}, s₁.heap.Ns b m → (hidT s₁.heap H).Ns b m := fun {b m} ⟨o, es, ep, e, d, r⟩ => ⟨o, es, ep, base_of e (noA e d), d, r⟩
    have hKb : K.In (hidT s₁.heap H) := fun b o e => base_of (KX b o e) (by
      cases q : H b with
      | none => rfl
      | some u =>
        have e' : b = a := hA b (by rw [q]; simp)
        subst e'
        rw [hK (by rw [q]; simp)] at e; cases e)
    have hM : Mod K mg (hidT s₁.heap H) := ⟨hKb, nsK hns, ⟨mb, nsK hb, hbb⟩, let ⟨mc, h1, h2⟩ := hlim; ⟨mc, nsK h1, h2⟩⟩
    have e0 : Env0 P w K mg (hidT s₁.heap H) callerA [] s₁ H := ⟨rfl, hM, fun b o e => of_hidT e, Nat.le_of_eq (hidT_size _ _), trivial, fun b hb => absurd (show b ∈ ([] : List Addr) from hb) (by simp), hok, .of_eq hg⟩
    refine codeAny_mono ((F _ hKb (nsK hns)).run callerA [] s₁ H ⟨[.ref a], []⟩ [.ref a] [.ref a] _ _ hr e0 (hbind s₁ (.ref a)) (.cons rfl .nil) (hsp H hO hS)) fun r s' h => ?_
    cases r with
    | error e => exact (hCX H e s' h).elim
    | ok fl =>
      cases fl with
      | next => exact False.elim h
      | brk => exact False.elim h
      | cont => exact False.elim h
      | ret u =>
        obtain ⟨v, H', os, bare, un, hok', r', q⟩ := h
        have q' : v = .bl true := q
        subst q'
        obtain rfl : u = Value.bool true := r'
        refine ⟨rfl, OldK.of_keep fun b o e => ?_, os, bare⟩
        cases q : H b with
        | none => exact un.keep b o e q (by intro z; exact absurd (show b ∈ ([] : List Addr) from z) (by simp)) (by simp)
        | some u =>
          rcases hO b with z | ⟨ob, xs, z⟩
          · rw [q] at z; cases z
          · have z2 := un.frzs b ob _ z
            obtain ⟨e1, _⟩ := hok b _ z
            obtain ⟨e2, _⟩ := hok' b _ z2
            rw [e] at e1; cases e1
            exact e2
  cases hk : K.lookup a with
  | some o =>
    -- the script is one of the module's own objects
    have e := KX a o hk
    rw [ha] at e
    cases e
    refine core (fun _ => none) (fun _ => .inl rfl) (.inr ⟨_, vs.toArray, _, hk, rfl, rfl, rfl, by rw [List.size_toArray, lenV]; exact hl, by simpa using rv⟩) (fun b u z => by have z' : (none : Option HO) = some u := z; cases z') (fun b z => absurd rfl z) fun z => absurd rfl z
  | none =>
    refine core (fun b => if b = a then some (.frz { cls := .type "list", data := .seq vs.toArray } (.lst (ns.map V.int))) else none) (fun b => ?_) (.inl (.inr ⟨{ cls := .type "list", data := .seq vs.toArray }, if_pos rfl⟩)) (fun b u z => ?_) (fun b z => ?_) fun _ => hk
    · by_cases hb : b = a
      · exact .inr ⟨_, _, if_pos hb⟩
      · exact .inl (if_neg hb)
    · by_cases hb : b = a
      · have z' := (if_pos hb).symm.trans z
        cases z'
        subst hb
        exact ⟨ha, by rw [List.length_map]; exact hl, vs, _, rv, ha⟩
      · have z' := (if_neg hb).symm.trans z
        cases z'
    · by_cases hb : b = a
      · exact hb
      · exact absurd (if_neg hb) z
end L2

namespace L2
open PySem PySem.Spec PyProof.Rows

noncomputable abbrev KOf {K : PySem.W.Frag} {h : Heap} (_ : K.In h) : PySem.W.Frag := K

theorem walk_of {l : PySem.W.OpenLaw} {n k : Nat} {q : Program} {loose : List Str} {XP : (Str → Option Value) → Heap → Prop} {YP : World → Heap → Prop} {d : DefRec} {K : Params → PySem.W.Frag} {CX : World → CXT} {sp : World → Sp} {x : Str}
    (hn : l.most = some n) (hn2 : n ≤ sizeLine) (hdf : d.params.defaults = []) (hr : Room k callerA)
    (hY : ∀ (w : World) (h : Heap), YP w h → (K w.params).In h)
    (F : ∀ (w : World) (mg : Str → Option Value) (fa : Addr) (h : Heap), (K w.params).In h → h.Ns mainGlobals mg → mg d.name = some (.ref fa) →
      ∃ fd : FuncData, (∀ (s : Shared) (u : Value), BindsTo s fd ⟨[u], []⟩ [(x, u)]) ∧
        ∀ base : Heap, (K w.params).In base → base.Ns mainGlobals mg → FnOk l.prog w (K w.params) mg base (CX w) k fa fd [x] (sp w))
    (hsp : ∀ (w : World) (H : Hp) (a : Addr) (ns : List Int), ns.length ≤ n → Only H → SqL (K w.params) H a (ns.map V.int) → sp w [.ref a] H (fun v _ => v = .bl true) fun _ _ _ => False)
    (hCX : ∀ (w : World) (H : Hp) (s : Shared) (e : Value) (s' : Shared), CX w [] H s (fun _ _ _ => False) e s' → False) :
    PySem.W.WalkO q loose XP YP l.row.toRowW d [] (fun f vs => PySem.call f vs) := by
  refine Att.attach_call hn hdf fun w s₀ s₁ mg mb fa o pm cd doc a vs ns G Y ho hd hcd hmg hobj hints hlen hg => ?_
  have KX := hY w _ Y
  obtain ⟨fd, hb, hF⟩ := F w mg fa _ KX G.T.g hmg
  exact law_call KX G.T.g G.T.b G.T.builtins G.T.nolimit hg hobj hints (Nat.le_trans hlen hn2) hr hF hb (fun H hO hS => hsp w H a ns hlen hO hS) fun H e s' => hCX w H s₁ e s'
end L2

/- THE LAST THEOREM (shape; LID, My.* are yours):
   My.Adr: a structure of the addresses that your layer names (classes, functions); My.Txt K t: a structure (Prop) of the equations over K;
   My.txt_mk : {K} {implicit addresses ..} (e1 : nsIn K mainGlobals "law" = some (some (.ref f))) (e2 : K.lookup f = some ⟨oc, od, .func (fnOf "law" "law" params body scope dV kV doc pm an cdv ct), sl⟩) (e3 : codeIn K cdv "law" = true) .. : ∃ t, My.Txt K t

set_option maxRecDepth 100000 in
set_option maxHeartbeats 0 in
theorem PySem.Challenge.cw_LID_holds : PySem.Challenge.rw_LID.Holds := by
  w_on; o_law; k_head; (case hw => w_witness2)
  k_fill
  refine L2.walk_of (l := PySem.Challenge.rw_LID) (n := 63) (k := 40) (x := "script") (CX := fun w => ..) (sp := fun _ => My.sp_law) rfl (by decide) rfl ⟨rfl, by decide, by decide⟩ (fun w h Y => PySem.W.kIn_of Y) ?F ?S ?C
  case F =>
    intro w mg fa h KX G hmg
    have T : ∃ t, My.Txt (L2.KOf KX) t := by
      dsimp only [L2.KOf]                          -- K must stand as «<heap const> w.params» for k_is
      refine' My.txt_mk ?e1 ?e2 ?e3 ..
      (case e1 => PySem.W.k_is)                    -- in the order: a name -> its address -> its object -> its parts
      (case e2 => PySem.W.k_is)
      ..
    obtain ⟨t, T⟩ := T
    have e0 := hmg.symm.trans (PySem.W.mg_of KX G T.law)
    cases e0                                       -- fa is the law's own address
    exact ⟨_, fun s u => .of_eq rfl, fun base kb nb => My.law_fn T kb nb⟩     -- if «.of_eq rfl» comes too early: refine' ⟨_, ?b, fun base kb nb => My.law_fn T kb nb⟩; exact fun s u => .of_eq rfl
  case S => exact fun w H a ns hl hO hS => ..
  case C => exact ..
(the tactic k_is has no namespace: write k_is) -/

namespace L2
open PySem PySem.Spec PyProof.Rows

noncomputable abbrev CX0 : CXT := fun _ _ _ _ _ _ => False
noncomputable abbrev E0 : XK := fun _ _ _ => False
structure Fun (K : PySem.W.Frag) (x qual : Str) (st : Stmt) (f : Addr) (fd : FuncData) : Prop where
  ex : ∃ (oc : Value) (od : Option Addr) (kV doc pm : Value) (an : Option Addr) (cdv ct : Value) (osl : Array (Option Value)),
    fd = PySem.W.fnOf x qual (defArgs st) (defBody st) (defScope st) .none kV doc pm an cdv ct ∧ K.lookup f = some ⟨oc, od, .func fd, osl⟩ ∧ PySem.W.codeIn K cdv qual = true
  kp : PySem.W.keepIn K (.ref f) = true
section
variable {P : Program} {w : World} {K : PySem.W.Frag} {mg : Str → Option Value} {base : Heap}
theorem Fun.ok {x qual : Str} {st : Stmt} {f : Addr} {fd : FuncData} {N ps : List Str} {k : Nat} {sp : Sp} (F : Fun K x qual st f fd) (S : FnScope N ps (defScope st)) (len : ∀ vs H Q E, sp vs H Q E → vs.length = ps.length)
    (hbody : ∀ (cdv : Value) (A : Around) (outer : List Env) (s : Shared) (H : Hp) (vs : List V) (Q : VK) (E : XK), Room k (A.deeper (envOfC qual (defScope st) s.heap.objs.size f cdv)) → sp vs H Q E →
      ∃ t, PSs (cxOf CX0 P w K mg base N qual (defScope st) f cdv A outer s H E).nox (defBody st) t ∧ t { nx := fun _ H' => Q .non H', rt := Q } (start N vs) H) : FnOk P w K mg base CX0 (k + 1) f fd ps sp := by
  obtain ⟨oc, od, kV, doc, pm, an, cdv, ct, osl, rfl, lk, hcd⟩ := F.ex
  refine fn_of lk hcd S len fun A outer s H vs Q E hr hsp => ?_
  obtain ⟨t, h, q⟩ := hbody cdv A outer s H vs Q E hr hsp
  exact ⟨t, h.nox, q⟩
theorem Fun.binds {x qual : Str} {st : Stmt} {f : Addr} {fd : FuncData} {ps : List Str} (F : Fun K x qual st f fd)
    (h : ∀ (kV doc pm : Value) (an : Option Addr) (cdv ct : Value) (us : List Value), us.length = ps.length → bindArgs (PySem.W.fnOf x qual (defArgs st) (defBody st) (defScope st) .none kV doc pm an cdv ct) ⟨us, []⟩ = pure (ps.zip us)) : Binds K fd ps [] := by
  obtain ⟨oc, od, kV, doc, pm, an, cdv, ct, osl, rfl, lk, hcd⟩ := F.ex
  exact .all (h kV doc pm an cdv ct)
theorem fun_mk {x qual : Str} {st : Stmt} {f : Addr} {oc : Value} {od an : Option Addr} {osl : Array (Option Value)} {kV doc pm cdv ct : Value} (l : K.lookup f = some ⟨oc, od, .func (PySem.W.fnOf x qual (defArgs st) (defBody st) (defScope st) .none kV doc pm an cdv ct), osl⟩)
    (c : PySem.W.codeIn K cdv qual = true) (k : PySem.W.keepIn K (.ref f) = true) : Fun K x qual st f (PySem.W.fnOf x qual (defArgs st) (defBody st) (defScope st) .none kV doc pm an cdv ct) := ⟨⟨oc, od, kV, doc, pm, an, cdv, ct, osl, rfl, l, c⟩, k⟩
end
theorem small1000 {n : Nat} (h : n ≤ 1000) : n < sizeLine := Nat.lt_of_le_of_lt h (by decide)

section
variable {X : Cx}
end

noncomputable def Same (H H' : Hp) : Prop := ∀ b o, H b = some o → H' b = some o
theorem Same.refl (H : Hp) : Same H H := fun _ _ h => h
theorem Same.trans {H H1 H2 : Hp} (a : Same H H1) (b : Same H1 H2) : Same H H2 := fun c o h => b c o (a c o h)
theorem Same.free {H H' : Hp} (e : Same H H') {l : Addr} (h : H' l = Option.none) : H l = Option.none := by
  cases q : H l with
  | none => rfl
  | some o =>
    rw [e l o q] at h
    cases h
theorem Same.seq {K : PySem.W.Frag} {H H' : Hp} {a : Addr} {xs : List V} (e : Same H H') (h : SqL K H a xs) : SqL K H' a xs := by
  rcases h with (h | ⟨o, h⟩) | h
  · exact .inl (.inl (e _ _ h))
  · exact .inl (.inr ⟨o, e _ _ h⟩)
  · exact .inr h

end L2

set_option maxHeartbeats 4000000
namespace L2
open PySem PySem.Spec PyProof.Rows
noncomputable def Sm (k : Nat) (x : Int) : Prop := x.natAbs < 2 ^ k
theorem Sm.mono {k n : Nat} {x : Int} (h : Sm k x) (hn : k ≤ n) : Sm n x := Nat.lt_of_lt_of_le h (Nat.pow_le_pow_right (by decide) hn)
theorem Sm.mul {m n : Nat} {x y : Int} (h : Sm m x) (g : Sm n y) : Sm (m + n) (x * y) := by
  unfold Sm at *
  rw [Int.natAbs_mul, Nat.pow_add]
  rcases Nat.eq_zero_or_pos x.natAbs with z | z
  · rw [z, Nat.zero_mul]; exact Nat.mul_pos (Nat.two_pow_pos _) (Nat.two_pow_pos _)
  · exact Nat.lt_of_le_of_lt (Nat.mul_le_mul_left _ (Nat.le_of_lt g)) (Nat.mul_lt_mul_of_pos_right h (Nat.two_pow_pos _))
theorem Sm.add {m : Nat} {x y : Int} (h : Sm m x) (g : Sm m y) : Sm (m + 1) (x + y) := by
  unfold Sm at *
  rw [Nat.pow_succ]
  have := Int.natAbs_add_le x y
  omega
theorem Sm.neg {m : Nat} {x : Int} (h : Sm m x) : Sm m (-x) := by
  unfold Sm at *
  rw [Int.natAbs_neg]
  exact h
theorem Sm.sub {m : Nat} {x y : Int} (h : Sm m x) (g : Sm m y) : Sm (m + 1) (x - y) := by
  rw [Int.sub_eq_add_neg]; exact h.add g.neg
theorem Sm.le {m : Nat} {x y : Int} (h : Sm m x) (e : y.natAbs ≤ x.natAbs) : Sm m y := Nat.lt_of_le_of_lt e h
theorem Sm.ok {m n : Nat} {x y : Int} (h : Sm m x) (g : Sm n y) (hk : m + n ≤ 134217728 := by decide) : IntMulOk x y :=
  IntMulOk.of_le (intBits_le_iff.mpr h) (intBits_le_iff.mpr g) hk
theorem Sm.log {m : Nat} {x : Int} (h : Sm m x) (hm : m ≤ 9000 := by decide) : x.natAbs.log2 < 9000 := by
  rcases Nat.eq_zero_or_pos x.natAbs with z | z
  · rw [z]; decide +kernel
  · exact Nat.lt_of_lt_of_le ((Nat.log2_lt (Nat.ne_of_gt z)).mpr h) hm
section
variable {X : Cx}
theorem op_mulR : OpR X (binaryOp .Mult) (rI IntMulOk fun i j => .int (i * j)) := opI fun _ _ _ _ _ _ _ hc q => mul_int q hc
noncomputable def CDivG (_ j : Int) : Prop := j ≠ 0 ∧ j.natAbs.log2 < 9000
theorem op_fdivG : OpR X (binaryOp .FloorDiv) (rI CDivG fun i j => .int (i.fdiv j)) := opI fun _ _ _ _ _ _ _ hc q => floordiv_int hc.1 q (.inl (PyProof.noPylong_of_log2 hc.2))
end
theorem bt_len : bootBuiltins "len" = some (.builtin "len") := by decide +kernel
theorem bt_int : bootBuiltins "int" = some (.type "int") := by decide +kernel
theorem bt_tuple : bootBuiltins "tuple" = some (.type "tuple") := by decide +kernel
theorem bt_enumerate : bootBuiltins "enumerate" = some (.type "enumerate") := by decide +kernel
mutual
inductive DV (K : PySem.W.Frag) (H : Hp) : V → PyData → Prop
  | non : DV K H .non .none
  | bl (b : Bool) : DV K H (.bl b) (.bool b)
  | int (i : Int) : DV K H (.int i) (.int i)
  | str (x : Str) : DV K H (.str x) (.str x)
  | tup {a : Addr} {xs : List V} {ds : List PyData} (h : SqT K H a xs) (r : DVs K H xs ds) : DV K H (.ref a) (.tuple ds)
  | lst {a : Addr} {xs : List V} {ds : List PyData} (h : SqL K H a xs) (r : DVs K H xs ds) : DV K H (.ref a) (.list ds)
inductive DVs (K : PySem.W.Frag) (H : Hp) : List V → List PyData → Prop
  | nil : DVs K H [] []
  | cons {x : V} {xs : List V} {d : PyData} {ds : List PyData} (h : DV K H x d) (r : DVs K H xs ds) : DVs K H (x :: xs) (d :: ds)
end
section
variable {X : Cx} {pins : List (Addr × Obj)} {σ : St} {H : Hp} {s : Shared}
mutual
theorem DV.reads (I : Inv X pins σ H s) : ∀ {x : V} {d : PyData} {u : Value}, DV X.K H x d → RelV x u → ∃ as, Reads s.heap u d as
  | _, _, _, .non, r => by cases r; exact ⟨_, .none⟩
  | _, _, _, .bl b, r => by cases r; exact ⟨_, .bool b⟩
  | _, _, _, .int i, r => by obtain ⟨t, rfl⟩ := r; exact ⟨_, .int i t⟩
  | _, _, _, .str i, r => by obtain ⟨t, rfl⟩ := r; exact ⟨_, .str i t⟩
  | _, _, _, .tup h q, r => by
    cases r
    obtain ⟨its, rv, ⟨o, h1, h2, n, h3⟩, _⟩ := I.tuple h
    obtain ⟨as, ra⟩ := DVs.reads I q rv
    exact ⟨_, .tuple h1 h2 h3 (by simpa using ra)⟩
  | _, _, _, .lst h q, r => by
    cases r
    obtain ⟨its, rv, pl, _⟩ := I.list h
    obtain ⟨o, h1, h2, n, h3⟩ := pl.isList
    obtain ⟨as, ra⟩ := DVs.reads I q rv
    exact ⟨_, .list h1 h2 h3 (by simpa using ra)⟩
theorem DVs.reads (I : Inv X pins σ H s) : ∀ {xs : List V} {ds : List PyData} {us : List Value}, DVs X.K H xs ds → Vals xs us → ∃ as, ReadsAll s.heap us ds as
  | _, _, _, .nil, r => by cases r; exact ⟨_, .nil⟩
  | _, _, _, .cons h q, r => by
    cases r with
    | cons r1 r2 =>
      obtain ⟨as, ra⟩ := DV.reads I h r1
      obtain ⟨bs, rb⟩ := DVs.reads I q r2
      exact ⟨_, .cons ra rb⟩
end
end
section
variable {X : Cx}
noncomputable def rEqD (K : PySem.W.Frag) (f : Bool → Bool) : R2 := fun x y H Q => ∃ dx dy, DV K H x dx ∧ DV K H y dy ∧ dx.canLay0 = true ∧ dy.canLay0 = true ∧ dx.depth ≤ 60 ∧ Q (.bl (f (PyData.eqv dx dy))) H
theorem op_eqD (hu : X.A.units + 64 < cLine) : OpR X (compareOp .Eq) (rEqD X.K id) := by
  intro pins s σ H x y v u Q I rx ry h
  obtain ⟨dx, dy, h1, h2, h3, h4, h5, q⟩ := h
  obtain ⟨as, ra⟩ := h1.reads I rx
  obtain ⟨bs, rb⟩ := h2.reads I ry
  exact PySem.SeqAt.compareEq_reads ra rb h3 h4 (by omega) (fin_bl I q rfl)
theorem op_neD (hu : X.A.units + 64 < cLine) : OpR X (compareOp .NotEq) (rEqD X.K not) := by
  intro pins s σ H x y v u Q I rx ry h
  obtain ⟨dx, dy, h1, h2, h3, h4, h5, q⟩ := h
  obtain ⟨as, ra⟩ := h1.reads I rx
  obtain ⟨bs, rb⟩ := h2.reads I ry
  exact PySem.SeqAt.compareNe_reads ra rb h3 h4 (by omega) (fin_bl I q rfl)
end
structure Def (K : PySem.W.Frag) (mg : Str → Option Value) (x : Str) (st : Stmt) (ps : List Str) : Prop where
  ex : ∃ (f : Addr) (fd : FuncData), Fun K x x st f fd ∧ Binds K fd ps [] ∧ mg x = some (.ref f)
structure Callee (P : Program) (w : World) (K : PySem.W.Frag) (mg : Str → Option Value) (base : Heap) (n : Nat) (x : Str) (ps : List Str) (sp : Sp) : Prop where
  ex : ∃ (f : Addr) (fd : FuncData), FnOk P w K mg base CX0 n f fd ps sp ∧ Binds K fd ps [] ∧ PySem.W.keepIn K (.ref f) = true ∧ mg x = some (.ref f)
theorem same_new {H : Hp} {p : Addr} (h : H p = none) (o : HO) : Same H (upd H p o) := fun b u q => by rw [upd_ne (ne_of_none q h)]; exact q
theorem Same.new {H H' : Hp} {p : Addr} (e : Same H H') (h : H' p = none) (o : HO) : Same H (upd H' p o) := e.trans (same_new h o)
end L2
namespace L2
open PySem
end L2
namespace L2
open PySem
theorem Sm.of {k : Nat} {x : Int} (h : x.natAbs < 2 ^ k) : Sm k x := h
end L2
namespace L2
end L2

namespace L2
open PySem PySem.Spec PyProof.Rows
noncomputable def tstSem (ts : List Expr) (env : Env) : Sem Bool := match ts with
  | [] => pure true
  | c :: _ => isTrue c env (eval c env)
theorem compTurn_any (elt target iter : Expr) (scope : Scope) (pos : Pos) (it acc : Value) (env : Env) :
    compTurn (.ListComp elt [⟨target, iter, [], 0⟩] scope pos) 0 it acc env = (standAt iter.pos >>= fun _ => pyNext it >>= fun r => match r with
      | none => pure (.done .next)
      | some v => letOwnedTupleGo target it v >>= fun _ => assign target env v >>= fun _ =>
        (eval elt env >>= fun x => call (.builtin "list.append") [acc, x] >>= fun _ => pure ()) >>= fun _ =>
          again (.compLoop (.ListComp elt [⟨target, iter, [], 0⟩] scope pos) 0 it acc env)) := by rfl
theorem compTurn_if (elt target iter c : Expr) (scope : Scope) (pos : Pos) (it acc : Value) (env : Env) :
    compTurn (.ListComp elt [⟨target, iter, [c], 0⟩] scope pos) 0 it acc env = (standAt iter.pos >>= fun _ => pyNext it >>= fun r => match r with
      | none => pure (.done .next)
      | some v => letOwnedTupleGo target it v >>= fun _ => assign target env v >>= fun _ =>
        (forIn [c] true fun (c : Expr) (s : Bool) => if s = true then (isTrue c env (eval c env) >>= fun ok => pure (ForInStep.yield ok)) else pure (ForInStep.yield s)) >>= fun s => if s = true then
          (eval elt env >>= fun x => call (.builtin "list.append") [acc, x] >>= fun _ => pure ()) >>= fun _ =>
            again (.compLoop (.ListComp elt [⟨target, iter, [c], 0⟩] scope pos) 0 it acc env)
          else again (.compLoop (.ListComp elt [⟨target, iter, [c], 0⟩] scope pos) 0 it acc env)) := by rfl
theorem compLoop_any {prog : Program} {w : World} {A : Around} {R : Result → Shared → Prop} {s : Shared} {elt target iter : Expr} {ts : List Expr} {scope : Scope} {pos : Pos} {it acc : Value} {env : Env} (hts : ts.length ≤ 1) (I : Nat → Shared → Prop)
    (turn : ∀ n s, I n s → wpAny (model prog w) A (pyNext it) (fun r s₁ => match r with
      | none => R (.ok .next) s₁
      | some v => wpAny (model prog w) A (letOwnedTupleGo target it v) (fun _ s₁' => wpAny (model prog w) A (assign target env v) (fun _ s₂ => wpAny (model prog w) A (tstSem ts env) (fun b s₂' => if b = true then wpAny (model prog w) A (eval elt env) (fun x s₃ =>
          wpAny (model prog w) A (call (.builtin "list.append") [acc, x]) (fun _ s₄ => ∃ m, m < n ∧ I m s₄) (notedBy (model prog w) A env fun e s' => R (.error e) s') s₃)
          (notedBy (model prog w) A env fun e s' => R (.error e) s') s₂' else ∃ m, m < n ∧ I m s₂') (notedBy (model prog w) A env fun e s' => R (.error e) s') s₂) (notedBy (model prog w) A env fun e s' => R (.error e) s') s₁') (notedBy (model prog w) A env fun e s' => R (.error e) s') s₁) (notedBy (model prog w) A env fun e s' => R (.error e) s') s)
    (n : Nat) (h : I n s) :
    codeAny (model prog w) A (.compLoop (.ListComp elt [⟨target, iter, ts, 0⟩] scope pos) 0 it acc env) R s := by
  refine codeAny_loop rfl I (fun n s hI => ?_) n h
  show wpAny _ _ ((compTurn (.ListComp elt [⟨target, iter, ts, 0⟩] scope pos) 0 it acc env).onRaise (fun x => do noteFrame x env; theTreesLotGoes x)) _ _ s
  refine wpAny_noted ?_
  match ts, hts with
  | [], _ =>
    rw [compTurn_any]
    refine wpAny_bind (wpAny_standAt (wpAny_bind (wpAny_mono (turn n s hI) (fun r s₁ h₁ => ?_) fun _ _ h' => h')))
    cases r with
    | none => exact wpAny_pure h₁
    | some v =>
      refine wpAny_bind (wpAny_mono h₁ (fun _ s₁' h₁' => ?_) fun _ _ h' => h')
      refine wpAny_bind (wpAny_mono h₁' (fun _ s₂ h₂ => ?_) fun _ _ h' => h')
      show wpAny _ _ ((pure true : Sem Bool) >>= fun b => if b = true then ((eval elt env >>= fun x => call (.builtin "list.append") [acc, x] >>= fun _ => pure ()) >>= fun _ => again (.compLoop (.ListComp elt [⟨target, iter, [], 0⟩] scope pos) 0 it acc env)) else again (.compLoop (.ListComp elt [⟨target, iter, [], 0⟩] scope pos) 0 it acc env)) _ _ s₂
      refine wpAny_bind (wpAny_mono h₂ (fun b s₂' h₂' => ?_) fun _ _ h' => h')
      cases b with
      | true =>
        rw [if_pos rfl] at h₂' ⊢
        exact wpAny_bind (wpAny_bind (wpAny_mono h₂' (fun x s₃ h₃ => wpAny_bind (wpAny_mono h₃ (fun _ s₄ h₄ => wpAny_pure (wpAny_pure ⟨rfl, h₄⟩)) fun _ _ h' => h')) fun _ _ h' => h'))
      | false =>
        rw [if_neg Bool.false_ne_true] at h₂' ⊢
        exact wpAny_pure ⟨rfl, h₂'⟩
  | [c], _ =>
    rw [compTurn_if]
    refine wpAny_bind (wpAny_standAt (wpAny_bind (wpAny_mono (turn n s hI) (fun r s₁ h₁ => ?_) fun _ _ h' => h')))
    cases r with
    | none => exact wpAny_pure h₁
    | some v =>
      refine wpAny_bind (wpAny_mono h₁ (fun _ s₁' h₁' => ?_) fun _ _ h' => h')
      refine wpAny_bind (wpAny_mono h₁' (fun _ s₂ h₂ => ?_) fun _ _ h' => h')
      rw [List.forIn_cons]
      refine wpAny_bind (wpAny_bind ?_)
      rw [if_pos rfl]
      refine wpAny_bind (wpAny_mono h₂ (fun b s₂' h₂' => wpAny_pure ?_) fun _ _ h' => h')
      show wpAny _ _ (forIn [] b _) _ _ _
      rw [List.forIn_nil]
      refine wpAny_pure ?_
      cases b with
      | true =>
        rw [if_pos rfl] at h₂' ⊢
        exact wpAny_bind (wpAny_bind (wpAny_mono h₂' (fun x s₃ h₃ => wpAny_bind (wpAny_mono h₃ (fun _ s₄ h₄ => wpAny_pure (wpAny_pure ⟨rfl, h₄⟩)) fun _ _ h' => h')) fun _ _ h' => h'))
      | false =>
        rw [if_neg Bool.false_ne_true] at h₂' ⊢
        exact wpAny_pure ⟨rfl, h₂'⟩
theorem cells_mem : ∀ (names : List (Str × NameKind)) (h : Heap) (acc : List (Str × Addr)) (n : Str) (c : Addr), (n, c) ∈ PySem.cellsFrom h.objs.size names acc → (n, c) ∈ acc ∨ ((PySem.pushCells h names).IsCell c none ∧ h.objs.size ≤ c)
  | [], _, _, _, _, hm => .inl hm
  | (name, kind) :: r, h, acc, n, c, hm => by
    unfold PySem.cellsFrom at hm
    unfold PySem.pushCells
    split at hm
    · rename_i hk
      rw [if_pos hk]
      have hm' : (n, c) ∈ PySem.cellsFrom (h.push { cls := .type "cell", data := .cell none }).objs.size r ((name, h.objs.size) :: acc) := by rw [Heap.size_push]; exact hm
      rcases cells_mem r (h.push { cls := .type "cell", data := .cell none }) ((name, h.objs.size) :: acc) n c hm' with z | ⟨z1, z2⟩
      · rcases List.mem_cons.mp z with e | z
        · cases e
          exact .inr ⟨⟨_, PySem.pushCells_keeps r _ _ _ (Heap.get?_push_size _ rfl), rfl⟩, Nat.le_refl _⟩
        · exact .inl z
      · rw [Heap.size_push] at z2
        exact .inr ⟨z1, by omega⟩
    · rename_i hk
      rw [if_neg hk]
      exact cells_mem r h acc n c hm
theorem cells_inj : ∀ (names : List (Str × NameKind)) (k : Nat) (acc : List (Str × Addr)), (∀ n c, (n, c) ∈ acc → c < k) → (∀ n n' c, (n, c) ∈ acc → (n', c) ∈ acc → n = n') → ∀ n n' c, (n, c) ∈ PySem.cellsFrom k names acc → (n', c) ∈ PySem.cellsFrom k names acc → n = n'
  | [], _, _, _, hi, n, n', c, h1, h2 => hi n n' c h1 h2
  | (name, kind) :: r, k, acc, hl, hi, n, n', c, h1, h2 => by
    unfold PySem.cellsFrom at h1 h2
    split at h1
    · rename_i hk
      rw [if_pos hk] at h2
      refine cells_inj r (k + 1) ((name, k) :: acc) (fun m d hm => ?_) (fun m m' d hm hm' => ?_) n n' c h1 h2
      · rcases List.mem_cons.mp hm with e | hm
        · cases e; exact Nat.lt_succ_self _
        · exact Nat.lt_succ_of_lt (hl m d hm)
      · rcases List.mem_cons.mp hm with e | hm <;> rcases List.mem_cons.mp hm' with e' | hm'
        · cases e; cases e'; rfl
        · cases e; exact absurd (hl _ _ hm') (Nat.lt_irrefl _)
        · cases e'; exact absurd (hl _ _ hm) (Nat.lt_irrefl _)
        · exact hi m m' d hm hm'
    · rename_i hk
      rw [if_neg hk] at h2
      exact cells_inj r k acc hl hi n n' c h1 h2
theorem cells_old {x : Str} : ∀ (names : List (Str × NameKind)) (k : Nat) (acc : List (Str × Addr)), (∀ y ∈ names, y.2 = .cell → y.1 ≠ x) → (PySem.cellsFrom k names acc).lookup x = acc.lookup x
  | [], _, _, _ => rfl
  | (name, kind) :: r, k, acc, h => by
    unfold PySem.cellsFrom
    split
    · rename_i hk
      rw [cells_old r (k + 1) _ fun y hy => h y (List.mem_cons_of_mem _ hy)]
      have ne : name ≠ x := h (name, kind) List.mem_cons_self (by simpa using hk)
      rw [List.lookup_cons, beq_false_of_ne (Ne.symm ne)]
    · exact cells_old r k acc fun y hy => h y (List.mem_cons_of_mem _ hy)
theorem cells_some {x : Str} : ∀ (names : List (Str × NameKind)) (k : Nat) (acc : List (Str × Addr)), ((acc.lookup x).isSome = true ∨ (x, NameKind.cell) ∈ names) → ((PySem.cellsFrom k names acc).lookup x).isSome = true
  | [], _, _, h => by
    rcases h with h | h
    · exact h
    · cases h
  | (name, kind) :: r, k, acc, h => by
    unfold PySem.cellsFrom
    split
    · rename_i hk
      refine cells_some r (k + 1) _ ?_
      by_cases e : x = name
      · subst e; exact .inl (by simp)
      · rcases h with h | h
        · exact .inl (by rw [List.lookup_cons, beq_false_of_ne e]; exact h)
        · rcases List.mem_cons.mp h with z | h
          · cases z; exact absurd rfl e
          · exact .inr h
    · rename_i hk
      refine cells_some r k acc ?_
      rcases h with h | h
      · exact .inl h
      · rcases List.mem_cons.mp h with z | h
        · cases z; exact absurd rfl hk
        · exact .inr h
theorem newEnv_own {M : Model} {A : Around} {E : Value → Shared → Prop} {s : Shared} {scope : Scope} {globals : Addr} {closure : List (Str × Addr)} {qual : Str} {func : Option Addr} {code : Value} {outer : Env} {builtins : Addr} {Q : Env → Shared → Prop}
    (hQ : ∀ h', h'.Ns s.heap.objs.size (fun _ => none) → (∀ b o, s.heap.get? b = some o → h'.get? b = some o) → (∀ n c, (n, c) ∈ PySem.cellsFrom (s.heap.objs.size + 1) scope.names closure → (n, c) ∈ closure ∨ (h'.IsCell c none ∧ s.heap.objs.size + 1 ≤ c)) →
      Q (newEnv scope s.heap.objs.size globals (PySem.cellsFrom (s.heap.objs.size + 1) scope.names closure) qual func code (some outer) builtins) { s with heap := h' }) :
    wpAny M A (newFunctionEnv scope globals closure [] qual func code (some outer) builtins) Q E s := by
  simp only [newFunctionEnv, Option.isSome_some, if_true]
  refine wpAny_bind (wpAny_alloc ?_)
  refine wpAny_bind (wpAny_layCells _ (fun name kind cells => by cases hkc : kind == NameKind.cell <;> simp [hkc]) _ _ _ _ ?_)
  rw [show ({ s with heap := s.heap.push { cls := .type "dict", data := .dict #[] } } : Shared).heap.objs.size = s.heap.objs.size + 1 from Heap.size_push ..]
  rw [List.forIn_nil]
  refine wpAny_bind (wpAny_pure (wpAny_pure ?_))
  refine hQ _ ((Heap.Ns.new s.heap (.type "dict")).keeps (PySem.pushCells_keeps _ _)) (fun b o e => PySem.pushCells_keeps _ _ b o (Heap.get?_push_of_some _ e)) fun n c hm => ?_
  have z := cells_mem scope.names (s.heap.push { cls := .type "dict", data := .dict #[] }) closure n c (by rw [Heap.size_push]; exact hm)
  rwa [Heap.size_push] at z
noncomputable def PTs (X : Cx) (ts : List Expr) (tt : TT) : Prop :=
  ∀ (pins : List (Addr × Obj)) (s : Shared) (σ : St) (H : Hp) (Q : Bool → Hp → Prop), Inv X pins σ H s → tt σ H Q → wpAny (model X.prog X.w) X.A (tstSem ts X.env) (TP X pins σ Q) X.xe s
noncomputable def tYes : TT := fun _ H Q => Q true H
theorem pts_nil {X : Cx} : PTs X [] tYes := fun _ _ _ H _ I h => wpAny_pure ⟨H, I, h⟩
theorem pts_one {X : Cx} {c : Expr} {tt : TT} (h : PT X c tt) : PTs X [c] tt := h
noncomputable def cxComp (X : Cx) (N : List Str) (scope : Scope) (cl : List (Str × Addr)) (C : Addr) (s₂ : Shared) (H₂ : Hp) (fp : List Addr) (pn : List (Addr × Obj)) : Cx :=
  { X with N := N, s₀ := s₂, H₀ := H₂, env := compEnvC scope (PySem.cellsFrom (C + 1) scope.names cl) C X.env, outer := X.stack, ex := fp, fn := fun x => scope.names.lookup x == some .cell, pn := pn, xe := fun _ _ => False }
noncomputable def CapOk (X : Cx) (sc : Scope) (cl : List (Str × Addr)) : List (Str × Nat) → Prop
  | [] => True
  | p :: r => (X.N[p.2]? = some p.1 ∧ X.env.scope.names.lookup p.1 = some .cell ∧ (sc.names.lookup p.1 = some .cell) ∧ ∃ c, cl.lookup p.1 = some c ∧ X.env.cells.lookup p.1 = some c) ∧ CapOk X sc cl r
theorem CapOk.get {X : Cx} {sc : Scope} {cl : List (Str × Addr)} : ∀ {cap : List (Str × Nat)} {j : Nat} {p : Str × Nat}, CapOk X sc cl cap → cap[j]? = some p →
    X.N[p.2]? = some p.1 ∧ X.env.scope.names.lookup p.1 = some .cell ∧ (sc.names.lookup p.1 = some .cell) ∧ ∃ c, cl.lookup p.1 = some c ∧ X.env.cells.lookup p.1 = some c
  | [], _, _, _, e => by simp at e
  | _ :: _, 0, _, h, e => by simp at e; subst e; exact h.1
  | _ :: _, j + 1, _, h, e => CapOk.get (j := j) h.2 (by simpa using e)
noncomputable def capt (σ : St) (cap : List (Str × Nat)) : St := cap.map fun p => (σ[p.2]?).join
noncomputable def st0 (own : List Str) (σ : St) (cap : List (Str × Nat)) : St := List.replicate own.length none ++ capt σ cap
noncomputable def compGoT (J : It) (g : TG) (tt : TT) (te : TE) (own : List Str) (cap : List (Str × Nat)) (σ : St) (Q : VK) (H1 : Hp) : Prop := ∃ W : Nat → Nat → List V → Hp → Prop, (∃ m, W 0 m [] H1) ∧ ∀ i m acc H, W i m acc H → acc.length ≤ sizeLine ∧
  ((J.stop i H ∧ ∀ p, H p = none → Q (.ref p) (upd H p (.lst acc))) ∨
   (J.go i H ∧ ∀ x H', J.yld i H x H' → g x (st0 own σ cap) H' fun σ2 H2 => σ2.drop own.length = capt σ cap ∧ tt σ2 H2 fun b H3 => if b = true then te σ2 H3 fun v H4 => acc.length < sizeLine ∧ ∃ m', m' < m ∧ W (i + 1) m' (acc ++ [v]) H4 else ∃ m', m' < m ∧ W (i + 1) m' acc H3))
noncomputable abbrev Fam (α : Type) := Addr → Shared → Hp → List Addr → List (Addr × Obj) → α
noncomputable def tCompT (wi : TI) (g : Fam TG) (tt : Fam TT) (te : Fam TE) (own : List Str) (cap : List (Str × Nat)) : TE := fun σ H Q => wi σ H fun J H1 => ∀ C s H2 fp pn, compGoT J (g C s H2 fp pn) (tt C s H2 fp pn) (te C s H2 fp pn) own cap σ Q H1
structure CompOk (X : Cx) (own : List Str) (cap : List (Str × Nat)) (scope : Scope) (cl : List (Str × Addr)) : Prop where
  clos : closureFor scope X.env = pure cl
  kind : scope.kind = .function
  nown : ∀ x c, (x, c) ∈ cl → ∀ y ∈ scope.names, y.2 = .cell → y.1 ≠ x
  locals : ∀ y ∈ scope.names, y.2 = .local → scope.names.lookup y.1 = some .local
  sub : ∀ x c, (x, c) ∈ cl → X.env.cells.lookup x = some c
  has : ∀ k x, ((relabel scope X.env).names.lookup x = some .cell ∨ (relabel scope X.env).names.lookup x = some .free) → ∃ c, (PySem.cellsFrom k scope.names cl).lookup x = some c
  cap : CapOk X (relabel scope X.env) cl cap
section
variable {X : Cx} {own : List Str} {cap : List (Str × Nat)} {scope : Scope} {cl : List (Str × Addr)} {pins : List (Addr × Obj)} {σ : St} {H : Hp} {s : Shared} {fp : List Addr} {tg : Expr} {J : It} {it : Addr} {tn : Nat → Heap → Prop}
theorem get_st0 {i : Nat} {v : V} (e : (st0 own σ cap)[i]? = some (some v)) : ∃ j p, i = own.length + j ∧ cap[j]? = some p ∧ σ[p.2]? = some (some v) := by
  unfold st0 at e
  by_cases hi : i < own.length
  · rw [List.getElem?_append_left (by simpa using hi), List.getElem?_replicate, if_pos hi] at e
    cases e
  · rw [List.getElem?_append_right (by simpa using hi), List.length_replicate] at e
    unfold capt at e
    rw [List.getElem?_map] at e
    cases q : cap[i - own.length]? with
    | none => rw [q] at e; cases e
    | some p =>
      rw [q] at e
      have e' : (σ[p.2]?).join = some v := Option.some.inj e
      refine ⟨i - own.length, p, by omega, q, ?_⟩
      cases z : σ[p.2]? with
      | none => rw [z] at e'; cases e'
      | some o => rw [z] at e'; have e2 : o = some v := e'; rw [e2]
theorem Inv.comp (I : Inv X pins σ H s) (O : CompOk X own cap scope cl) (T : Turn X.prog X.w X.K tg J fp it tn) (st : tn 0 s.heap) (f : ∀ b ∈ fp, FpOk X pins H b) {C : Addr} {h' : Heap} {t' : Nat} {m : Str → Option Value} (hC : s.heap.objs.size ≤ C)
    (k : ∀ b o, s.heap.get? b = some o → h'.get? b = some o) (hn : h'.Ns C m) (hx : ∀ n c, (n, c) ∈ PySem.cellsFrom (C + 1) scope.names cl → (n, c) ∈ cl ∨ (h'.IsCell c none ∧ C + 1 ≤ c)) :
    Inv (cxComp X (own ++ cap.map (·.1)) scope cl C s H fp (X.pn ++ pins)) [] (st0 own σ cap) H { s with heap := h', toks := t' } := by
  have neC : ∀ {b : Addr} {o : Obj}, s.heap.get? b = some o → b ≠ C := fun e => Nat.ne_of_lt (Nat.lt_of_lt_of_le (Heap.lt_size e) hC)
  have cellC : ∀ x c, (x, c) ∈ cl → ∃ v, s.heap.IsCell c v := fun x c e => I.cell x c (O.sub x c e)
  have ltC : ∀ x c, (x, c) ∈ cl → c < C + 1 := fun x c e => by
    obtain ⟨v, o, ho, _⟩ := cellC x c e
    exact Nat.lt_succ_of_le (Nat.le_of_lt (Nat.lt_of_lt_of_le (Heap.lt_size ho) hC))
  have nefp : ∀ b ∈ fp, b ≠ C := fun b hb => by
    obtain ⟨o, e, _⟩ := T.obj _ _ st b hb
    exact neC e
  refine ⟨⟨I.ok.mod, O.kind, I.ok.glob, I.ok.blt, hC, fun x y c e1 e2 => cells_inj scope.names (C + 1) cl ltC (fun n n' c h1 h2 => I.ok.inj n n' c (O.sub n c h1) (O.sub n' c h2)) x y c (PySem.mem_of_lookup e1) (PySem.mem_of_lookup e2), O.has (C + 1), fun x c e1 e2 => ?_, I.ok.hd, I.ok.frames, .inl rfl, fun b hb => ⟨nefp b hb, fun x c e => ?_⟩, I.bs, Nat.le_trans I.ok.bsz I.sz, fun b o e hb => ?_, fun b hb z => ?_, I.stack, I.stkFree⟩,
    rfl, I.bare, Un.kept k, ⟨m, hn, fun i x v e1 e2 e3 => ?_⟩, fun x c e => ?_, ?_, fun x c e => ?_, fun p hp => ?_, I.hok.kept k, ?_⟩
  · have e1' : scope.names.lookup x = some .cell := by simpa [cxComp] using e1
    rcases hx x c (PySem.mem_of_lookup e2) with z | ⟨_, z⟩
    · exact absurd rfl (O.nown x c z (x, .cell) (PySem.mem_of_lookup e1') rfl)
    · exact Nat.le_trans hC (Nat.le_of_succ_le z)
  · rcases hx x c (PySem.mem_of_lookup e) with z | ⟨_, z⟩
    · exact (f b hb).2.2.2.2.1 x c (O.sub x c z)
    · obtain ⟨o, eo, _⟩ := T.obj _ _ st b hb
      exact Nat.ne_of_gt (Nat.lt_of_lt_of_le (Nat.lt_of_lt_of_le (Heap.lt_size eo) hC) (Nat.le_of_succ_le z))
  · rcases (f b hb).2.2.2.1 with z | z
    · exact I.ok.noex b o e z
    · exact absurd (Nat.lt_of_lt_of_le (Heap.lt_size (I.ok.bs b o e).1) z) (Nat.lt_irrefl _)
  · rcases List.mem_cons.mp (I.stkSub b z) with q | q
    · exact (f b hb).2.1 q
    · exact (f b hb).2.2.1 q
  · obtain ⟨j, p, rfl, hp, hs⟩ := get_st0 e2
    obtain ⟨c1, c2, c3, c, c4, c5⟩ := O.cap.get hp
    have e1' : (own ++ cap.map (·.1))[own.length + j]? = some x := e1
    rw [List.getElem?_append_right (Nat.le_add_right _ _), Nat.add_sub_cancel_left, List.getElem?_map, hp] at e1'
    have ex : p.1 = x := Option.some.inj e1'
    subst ex
    obtain ⟨m2, _, hl⟩ := I.loc
    obtain ⟨u, r, l⟩ := hl p.2 p.1 v c1 hs (.inr (.inl c2))
    refine ⟨u, r, .inr ⟨.inl c3, c, (cells_old scope.names (C + 1) cl fun y hy hk => O.nown p.1 c (PySem.mem_of_lookup c4) y hy hk).trans c4, ?_⟩⟩
    rcases l with ⟨z, _⟩ | ⟨_, c', z, ⟨o, ho, hd⟩⟩
    · have z' : X.env.scope.names.lookup p.1 = some .local := z
      rw [c2] at z'; cases z'
    · rw [c5] at z; cases z
      exact ⟨o, k _ _ ho, hd⟩
  · rcases hx x c (PySem.mem_of_lookup e) with z | ⟨z, _⟩
    · obtain ⟨v, o, ho, hd⟩ := cellC x c z
      exact ⟨v, o, k _ _ ho, hd⟩
    · exact ⟨none, z⟩
  · exact I.hok.fresh hC
  · rcases hx x c (PySem.mem_of_lookup e) with z | ⟨_, z⟩
    · exact I.freeC x c (O.sub x c z)
    · exact I.hok.fresh (Nat.le_trans hC (Nat.le_of_succ_le z))
  · have hp' : p ∈ X.pn ++ pins := by simpa [cxComp] using hp
    obtain ⟨e, n, ne, nf, d⟩ := I.pin p hp'
    exact ⟨k _ _ e, n, neC e, fun z => (List.mem_cons.mp (I.stkSub p.1 z)).elim ne nf, d⟩
  · show (st0 own σ cap).length = (own ++ cap.map (·.1)).length
    unfold st0 capt
    simp
theorem comp_run {elt iter : Expr} {ts : List Expr} {pos : Pos} {gF : Fam TG} {ttF : Fam TT} {teF : Fam TE} {E : Value → Shared → Prop} (O : CompOk X own cap scope cl) (hc : X.calm = true)
    (hgF : ∀ C s H fp pn, PG (cxComp X (own ++ cap.map (·.1)) scope cl C s H fp pn) tg (gF C s H fp pn)) (htF : ∀ C s H fp pn, PTs (cxComp X (own ++ cap.map (·.1)) scope cl C s H fp pn) ts (ttF C s H fp pn)) (heF : ∀ C s H fp pn, PE (cxComp X (own ++ cap.map (·.1)) scope cl C s H fp pn) elt (teF C s H fp pn)) (hts : ts.length ≤ 1)
    (I2 : Inv X pins σ H s) (T : Turn X.prog X.w X.K tg J fp it tn) (st2 : tn 0 s.heap) (f2 : ∀ b ∈ fp, FpOk X pins H b) {Q : VK}
    (hw : ∀ C s H2 fp pn, compGoT J (gF C s H2 fp pn) (ttF C s H2 fp pn) (teF C s H2 fp pn) own cap σ Q H)
    {R : Value → Addr → Result → Shared → Prop}
    (fin : ∀ (D C : Addr) (H' : Hp) (s' : Shared) (m : Str → Option Value), s.heap.objs.size ≤ C → s'.heap.Ns C m → H' C = none →
      (∀ h', Heap.SameBut C s'.heap h' → Inv X pins σ H' { s' with heap := h' }) → Q (.ref D) H' → R (.ref D) C (.ok .next) s') :
    wpAny (model X.prog X.w) X.A (newList []) (fun acc s₃ => wpAny (model X.prog X.w) X.A (newFunctionEnv scope X.env.globals cl [] X.env.qual none .none (some X.env)) (fun cenv s₄ =>
      codeAny (model X.prog X.w) X.A (.compStart (.ListComp elt [⟨tg, iter, ts, 0⟩] scope pos) 0 (.ref it) acc { cenv with scope := relabel scope X.env }) (R acc cenv.locals) s₄) E s₃) E s := by
  refine wpAny_newObj_type (newEnv_own (fun h₁ hns₁ hk₁ hx₁ => ?_))
  dsimp only at hns₁ hk₁ hx₁ ⊢
  generalize hHh : s.heap.push { cls := .type "list", dict := none, data := .seq ([] : List Value).toArray } = Hh at hns₁ hk₁ hx₁ ⊢
  have hCs : Hh.objs.size = s.heap.objs.size + 1 := by rw [← hHh, Heap.size_push]
  generalize hCC : Hh.objs.size = C at hns₁ hx₁ hCs ⊢
  generalize hDD : s.heap.objs.size = D at hCs ⊢
  have ltDC : D < C := by omega
  have hDC : D ≠ C := Nat.ne_of_lt ltDC
  have hsD : s.heap.objs.size ≤ D := Nat.le_of_eq hDD
  have hsC : s.heap.objs.size ≤ C := by omega
  have ltS : ∀ {b : Addr} {o : Obj}, s.heap.get? b = some o → b < D := fun e => by rw [← hDD]; exact Heap.lt_size e
  have old : ∀ b o, s.heap.get? b = some o → h₁.get? b = some o := fun b o e => by
    refine hk₁ b o ?_
    rw [← hHh]
    exact Heap.get?_push_of_some _ e
  have hD0 : h₁.PlainList D #[] := by
    have z : Hh.get? D = some { cls := .type "list", dict := none, data := .seq ([] : List Value).toArray } := by
      rw [← hHh, ← hDD]
      exact Heap.get?_push_size _ rfl
    exact ⟨_, hk₁ D _ z⟩
  obtain ⟨W, ⟨m0, w0⟩, turn⟩ := hw C s H fp (X.pn ++ pins)
  have hg := hgF C s H fp (X.pn ++ pins)
  have ht := htF C s H fp (X.pn ++ pins)
  have he := heF C s H fp (X.pn ++ pins)
  have I' := I2.comp (t' := s.toks) O T st2 f2 hsC old hns₁ hx₁
  have cne : ∀ x c, (PySem.cellsFrom (C + 1) scope.names cl).lookup x = some c → (∃ v, s.heap.IsCell c v ∧ X.env.cells.lookup x = some c) ∨ C < c := fun x c e => by
    rcases hx₁ x c (PySem.mem_of_lookup e) with z | ⟨_, z⟩
    · obtain ⟨v, hv⟩ := I2.cell x c (O.sub x c z)
      exact .inl ⟨v, hv, O.sub x c z⟩
    · exact .inr z
  have st' : tn 0 h₁ := T.keep _ _ _ st2 fun b hb o e => old b o e
  have nofr : ∀ {a : Addr}, s.heap.objs.size ≤ a → a ∉ frs X.stack := fun {a} ha z => by
    rcases List.mem_cons.mp (I2.stkSub a z) with q | q
    · exact absurd (Nat.lt_of_lt_of_le I2.lt ha) (by rw [q]; exact Nat.lt_irrefl _)
    · exact I2.nofs ha q
  have ltfp : ∀ b ∈ fp, b < D := fun b hb => by
    obtain ⟨o, e, _⟩ := T.obj _ _ st2 b hb
    exact ltS e
  have fpk : ∀ {H3 : Hp} {objD : Obj}, (∀ b ∈ fp, H3 b = none) → ∀ b ∈ fp, FpOk (cxComp X (own ++ cap.map (·.1)) scope cl C s H fp (X.pn ++ pins)) [(D, objD)] H3 b := fun {H3 objD} hn b hb => by
    obtain ⟨_, f1, f3, f4, f5, f6⟩ := f2 b hb
    have lb := ltfp b hb
    refine ⟨hn b hb, (Nat.ne_of_lt (Nat.lt_trans lb ltDC)), fun z => ?_, .inl hb, fun x c e => ?_, fun p hp => ?_⟩
    · rcases List.mem_cons.mp (I2.stkSub b z) with q | q
      · exact f1 q
      · exact f3 q
    · rcases cne x c e with ⟨_, _, z⟩ | z
      · exact f5 x c z
      · exact Nat.ne_of_gt (Nat.lt_trans lb (Nat.lt_trans ltDC z))
    · rcases List.mem_append.mp hp with z | z
      · exact f6 p z
      · have z' : p = (D, objD) := by simpa using z
        subst z'
        exact Nat.ne_of_gt lb
  have loop : ∀ s₃ : Shared, s₃ = { s with heap := h₁ } →
      codeAny (model X.prog X.w) X.A (.compLoop (.ListComp elt [⟨tg, iter, ts, 0⟩] scope pos) 0 (.ref it) (.ref D) (compEnvC scope (PySem.cellsFrom (C + 1) scope.names cl) C X.env)) (R (.ref D) C) s₃ := by
    rintro s₃ rfl
    refine compLoop_any hts (fun n s' => ∃ (i : Nat) (acc : List V) (its : List Value) (H' : Hp), Inv (cxComp X (own ++ cap.map (·.1)) scope cl C s H fp (X.pn ++ pins)) [] (st0 own σ cap) H' s' ∧ tn i s'.heap ∧ (∀ b ∈ fp, H' b = none) ∧ H' D = none ∧
      s'.heap.PlainList D its.toArray ∧ Vals acc its ∧ W i n acc H') ?_ m0 ⟨0, [], [], H, I', st', fun b hb => (f2 b hb).1, I2.hok.fresh hsD, hD0, .nil, w0⟩
    rintro n s3 ⟨i, acc, its, H3, I3, st3, fr3, nD, ⟨nn, hD⟩, rv, w3⟩
    obtain ⟨hlen, hturn⟩ := turn i n acc H3 w3
    have lenV := rv.length
    have pinD : ∀ {s5 : Shared} {H5 : Hp}, s5.heap.get? D = some { cls := .type "list", data := .seq its.toArray nn } → H5 D = none → ∀ p ∈ [(D, ({ cls := .type "list", data := .seq its.toArray nn } : Obj))], s5.heap.get? p.1 = some p.2 ∧ H5 p.1 = none ∧ p.1 ≠ C ∧ p.1 ∉ frs X.stack ∧ ∀ v, p.2.data ≠ .cell v := by
      intro s5 H5 e1 e2 p hp
      have z' : p = (D, ({ cls := .type "list", data := .seq its.toArray nn } : Obj)) := by simpa using hp
      subst z'
      exact ⟨e1, e2, hDC, nofr hsD, fun v z => by cases z⟩
    have I3p : Inv (cxComp X (own ++ cap.map (·.1)) scope cl C s H fp (X.pn ++ pins)) [(D, { cls := .type "list", data := .seq its.toArray nn })] (st0 own σ cap) H3 s3 := I3.pins_of (pinD hD nD)
    rcases hturn with ⟨stop, qn⟩ | ⟨go, step⟩
    · refine wpAny_mono (T.done (cxComp X (own ++ cap.map (·.1)) scope cl C s H fp (X.pn ++ pins)) rfl rfl rfl hc i _ s3 _ H3 (fun _ _ => False) I3p (fpk fr3) st3 stop) (fun r s4 h4 => ?_) (fun _ _ z => z.elim)
      obtain ⟨hr, I4⟩ := h4
      subst hr
      obtain ⟨m4, hm4, _⟩ := I4.loc
      have hD4 := (I4.pin (D, { cls := .type "list", data := .seq its.toArray nn }) (List.mem_append_right _ (by simp))).1
      have nC : H3 C = none := I4.free
      refine fin D C (upd H3 D (.lst acc)) s4 m4 hsC hm4 (by rw [upd_ne (Ne.symm hDC)]; exact nC) (fun h' sb => ?_) (qn D nD)
      have kc : ∀ b o, b ≠ C → s4.heap.get? b = some o → h'.get? b = some o := fun b o hb e => sb.extBut b o hb e
      have neD : ∀ {b : Addr} {o : Obj}, s.heap.get? b = some o → b ≠ D := fun e => Nat.ne_of_lt (ltS e)
      have neC : ∀ {b : Addr} {o : Obj}, s.heap.get? b = some o → b ≠ C := fun e => Nat.ne_of_lt (Nat.lt_trans (ltS e) ltDC)
      refine I2.call' (s' := { s4 with heap := h' }) (ch := fp) I4.os ⟨?_, ?_, ?_, ?_, ?_, ?_, ?_⟩ (fun a o e => ?_) I4.bare (fun b hb => ?_)
      · exact fun b o e n hb hx => kc b o (neC e) (I4.base.keep b o e n hb hx)
      · intro b o e n hb hx
        obtain ⟨sl, q⟩ := I4.base.slot b o e n hb hx
        exact ⟨sl, kc b _ (neC e) q⟩
      · intro b o e n hx
        rw [upd_ne (neD e)]
        exact I4.base.free b o e n hx
      · intro b o e hx
        obtain ⟨o', q⟩ := I4.base.there b o e hx
        exact ⟨o', kc b _ (neC e) q⟩
      · intro b xs e
        have q := I4.base.tups b xs e
        rw [upd_ne (ne_of_none q nD)]
        exact q
      · intro b o u e
        have q := I4.base.frzs b o u e
        rw [upd_ne (ne_of_none q nD)]
        exact q
      · intro b ps e
        obtain ⟨more, q⟩ := I4.base.tbls b ps e
        exact ⟨more, by rw [upd_ne (ne_of_none q nD)]; exact q⟩
      · by_cases ha : a = D
        · subst ha
          rw [upd_same] at e
          cases e
          exact ⟨hlen, its, nn, rv, kc _ _ hDC hD4⟩
        · rw [upd_ne ha] at e
          refine (I4.hok a o e).stay (fun b u hb q => kc b u ?_ q) (fun b q => ?_) (fun b xs q => ?_)
          · rcases hb with rfl | hb
            · exact ne_of_none e nC
            · exact ne_of_none hb nC
          · rw [upd_ne (ne_of_none q nD)]; exact q
          · rw [upd_ne (ne_of_none q nD)]; exact q
      · obtain ⟨_, f1, _, f4, f5, f6⟩ := f2 b hb
        exact ⟨f4, f1, f5, f6⟩
    · refine wpAny_mono (T.item (cxComp X (own ++ cap.map (·.1)) scope cl C s H fp (X.pn ++ pins)) rfl rfl rfl hc i _ s3 _ H3 (fun _ _ => False) I3p (fpk fr3) st3 go) (fun r s4 h4 => ?_) (fun _ _ z => z.elim)
      obtain ⟨u, hr, h4⟩ := h4
      subst hr
      refine wpAny_mono h4 (fun _ s5 h5 => ?_) (fun _ _ z => z.elim)
      obtain ⟨x, H5, I5, r5, y5, st5, fr5⟩ := h5
      have I5' := I5.pinned (fpk fr5) (T.obj _ _ st5)
      refine wpAny_mono (hg _ s5 _ H5 x u _ I5' r5 (step x H5 y5)) (fun _ s6 h6 => ?_) (fun _ _ z => z.elim)
      obtain ⟨σ6, H6, I6, e6, q6⟩ := h6
      refine wpAny_mono (ht _ s6 σ6 H6 _ I6 q6) (fun bb s6' h6' => ?_) (fun _ _ z => z.elim)
      obtain ⟨H6', I6', q6'⟩ := h6'
      have stay : ∀ {H7 : Hp} {s7 : Shared}, Inv (cxComp X (own ++ cap.map (·.1)) scope cl C s H fp (X.pn ++ pins)) [] σ6 H7 s7 → Inv (cxComp X (own ++ cap.map (·.1)) scope cl C s H fp (X.pn ++ pins)) [] (st0 own σ cap) H7 s7 := fun {H7 s7} I8 => by
        refine I8.weak (I'.len.trans I8.len.symm) (fun j v e => ?_)
        obtain ⟨l, p, rfl, hp, hs⟩ := get_st0 e
        have q : (σ6.drop own.length)[l]? = some (some v) := by
          rw [e6]
          unfold capt
          rw [List.getElem?_map, hp]
          show some ((σ[p.2]?).join) = _
          rw [hs]
          rfl
        rwa [List.getElem?_drop] at q
      cases bb with
      | false =>
        rw [if_neg Bool.false_ne_true] at q6' ⊢
        obtain ⟨m', hm, w7⟩ := q6'
        obtain ⟨hD7, nD7, _⟩ := I6'.pin (D, { cls := .type "list", data := .seq its.toArray nn }) (List.mem_append_right _ (by simp))
        have st7 : tn (i + 1) s6'.heap := T.keep _ _ _ st5 fun b hb o e => (I6'.pin (b, o) (List.mem_append_right _ (List.mem_append_right _ (mem_pinsAt hb e)))).1
        have fr7 : ∀ b ∈ fp, H6' b = none := fun b hb => by
          obtain ⟨o, e, _⟩ := T.obj _ _ st5 b hb
          exact (I6'.pin (b, o) (List.mem_append_right _ (List.mem_append_right _ (mem_pinsAt hb e)))).2.1
        exact ⟨m', hm, i + 1, acc, its, H6', stay (I6'.pins_of fun p hp => nomatch hp), st7, fr7, nD7, ⟨nn, hD7⟩, rv, w7⟩
      | true =>
      rw [if_pos rfl] at q6' ⊢
      refine wpAny_mono (he _ s6' σ6 H6' _ I6' q6') (fun y s7 h7 => ?_) (fun _ _ z => z.elim)
      obtain ⟨v, H7, I7, r7, hl7, m', hm, w7⟩ := h7
      obtain ⟨hD7, nD7, _⟩ := I7.pin (D, { cls := .type "list", data := .seq its.toArray nn }) (List.mem_append_right _ (by simp))
      have st7 : tn (i + 1) s7.heap := T.keep _ _ _ st5 fun b hb o e => (I7.pin (b, o) (List.mem_append_right _ (List.mem_append_right _ (mem_pinsAt hb e)))).1
      have fr7 : ∀ b ∈ fp, H7 b = none := fun b hb => by
        obtain ⟨o, e, _⟩ := T.obj _ _ st5 b hb
        exact (I7.pin (b, o) (List.mem_append_right _ (List.mem_append_right _ (mem_pinsAt hb e)))).2.1
      refine wpAny_list_append_plain (l := D) (items := its.toArray) ⟨nn, hD7⟩ (fun h8 hp8 hs8 => ?_) (by rw [List.size_toArray]; omega)
      have I7w : Inv (cxComp X (own ++ cap.map (·.1)) scope cl C s H fp (X.pn ++ pins)) [] σ6 H7 s7 := I7.pins_of fun p hp => nomatch hp
      have I8 : Inv (cxComp X (own ++ cap.map (·.1)) scope cl C s H fp (X.pn ++ pins)) [] σ6 H7 { s7 with heap := h8 } := by
        refine I7w.turned (t' := s7.toks) (it := D) (fun b o hb e => hs8.extBut b o hb e) nD7 hDC (.inr hsD) (fun x c e => ?_) (fun p hp => ?_)
        · rcases cne x c e with ⟨v, ⟨o, ho, _⟩, _⟩ | z
          · exact Nat.ne_of_lt (ltS ho)
          · exact Nat.ne_of_gt (Nat.lt_trans ltDC z)
        · have hp' : p ∈ X.pn ++ pins := by simpa [cxComp] using hp
          exact Nat.ne_of_lt (ltS (I2.pin p hp').1)
      have I9 := stay I8
      refine ⟨m', hm, i + 1, acc ++ [v], its ++ [y], H7, I9, T.keep _ _ _ st7 (fun b hb o e => hs8.extBut b o (Nat.ne_of_lt (ltfp b hb)) e), fr7, nD7, ?_, rv.append (.cons r7 .nil), w7⟩
      simpa using hp8
  exact codeAny_compStart_list (loop _ rfl) (T.self X.A 0 _ _ _ st' (loop _ rfl))
theorem pe_comp {elt iter : Expr} {pos : Pos} {wi : TI} {ts : List Expr} {g : Fam TG} {tt : Fam TT} {te : Fam TE} (hi : PI X tg iter wi) (O : CompOk X own cap scope cl) (hc : X.calm = true)
    (hg : ∀ C s H fp pn, PG (cxComp X (own ++ cap.map (·.1)) scope cl C s H fp pn) tg (g C s H fp pn)) (ht : ∀ C s H fp pn, PTs (cxComp X (own ++ cap.map (·.1)) scope cl C s H fp pn) ts (tt C s H fp pn)) (he : ∀ C s H fp pn, PE (cxComp X (own ++ cap.map (·.1)) scope cl C s H fp pn) elt (te C s H fp pn)) (hts : ts.length ≤ 1)
    (hs : ∀ x, foldedSetIterable iter X.env x = pure x := by intro _; rfl) : PE X (.ListComp elt [⟨tg, iter, ts, 0⟩] scope pos) (tCompT wi g tt te own cap) := by
  intro pins s σ H Q I h
  rw [eval_ListComp]
  refine wpAny_comprehension_free (use := none) rfl hs O.clos O.kind O.locals (thn (hi pins s σ H _ I h) fun xv s₁ h₁ => thn h₁ fun itv s₂ h₂ => ?_)
  obtain ⟨it, fp, tn, J, H2, rfl, I2, T, st2, f2, hw⟩ := h₂
  refine comp_run (R := fun acc C => compPost (model X.prog X.w) X.A X.xe none (EP X pins σ Q) acc C) O hc hg ht he hts I2 T st2 f2 hw ?_
  intro D C H' s' m hC hn hH IV q
  exact ⟨m, hn, fun h' sb => ⟨.ref D, H', IV h' sb, rfl, q⟩⟩
theorem ps_setComp {elt iter : Expr} {pos pos' spos : Pos} {wi : TI} {ts : List Expr} {g : Fam TG} {tt : Fam TT} {te : Fam TE} {i : Nat} {x : Str} (hN : X.N.Nodup) (hix : X.N[i]? = some x) (hx : Loc X.env.scope x) (hi : PI X tg iter wi) (O : CompOk X own cap scope cl) (hc : X.calm = true)
    (hg : ∀ C s H fp pn, PG (cxComp X (own ++ cap.map (·.1)) scope cl C s H fp pn) tg (g C s H fp pn)) (ht : ∀ C s H fp pn, PTs (cxComp X (own ++ cap.map (·.1)) scope cl C s H fp pn) ts (tt C s H fp pn)) (he : ∀ C s H fp pn, PE (cxComp X (own ++ cap.map (·.1)) scope cl C s H fp pn) elt (te C s H fp pn)) (hts : ts.length ≤ 1)
    (hsw : swapsWith (.ListComp elt [⟨tg, iter, ts, 0⟩] scope pos) (some (.Name x pos')) spos.line X.env = pure true := by rfl)
    (hs : ∀ x, foldedSetIterable iter X.env x = pure x := by intro _; rfl)
    (hf : X.fn x = true ∨ X.env.scope.names.lookup x = some .local := by first | exact .inl rfl | exact .inr rfl | assumption) : PS X (.Assign [.Name x pos'] (.ListComp elt [⟨tg, iter, ts, 0⟩] scope pos) spos) (tAsg (tCompT wi g tt te own cap) (gName i)) := by
  intro pins s σ H D I h
  rw [exec_Assign_Name_used _ _ _ _ hsw]
  refine wpAny_bind (wpAny_standAt (wpAny_bind ?_))
  show wpAny _ X.A (do let _ ← comprehension (.ListComp elt [⟨tg, iter, ts, 0⟩] scope pos) scope X.env _ (newList []) false (eval iter X.env) (some (assign (.Name x pos') X.env))) _ _ s
  refine wpAny_bind (wpAny_mono (wpAny_comprehension_free (use := some (assign (.Name x pos') X.env)) (Q := fun _ s' => SP X pins D .next s') rfl hs O.clos O.kind O.locals
    (thn (hi pins s σ H _ I h) fun xv s₁ h₁ => thn h₁ fun itv s₂ h₂ => ?_)) (fun _ s' hq => wpAny_pure (wpAny_pure hq)) fun _ _ e => e)
  obtain ⟨it, fp, tn, J, H2, rfl, I2, T, st2, f2, hw⟩ := h₂
  refine comp_run (Q := fun x H1 => gName i x σ H1 D.nx) (R := fun acc C => compPost (model X.prog X.w) X.A X.xe (some (assign (.Name x pos') X.env)) (fun _ s' => SP X pins D .next s') acc C) O hc hg ht he hts I2 T st2 f2 hw ?_
  intro A C H' s' m hC hn hH IV q
  show wpAny _ X.A (assign (.Name x pos') X.env (.ref A)) _ _ _
  have I3 : Inv X pins σ H' s' := IV s'.heap (Heap.SameBut.refl ..)
  obtain ⟨oc, es, ep, ho, hd, hk⟩ := id hn
  have neL : C ≠ X.env.locals := Nat.ne_of_gt (Nat.lt_of_lt_of_le I2.lt hC)
  have neF : C ∉ X.fs := I2.nofs hC
  have I4 : Inv X (pins ++ [(C, oc)]) σ H' s' := I3.pins_of fun p hp => by
    rcases List.mem_append.mp hp with z | z
    · exact I3.pin p (List.mem_append_right _ z)
    · have z' : p = (C, oc) := by simpa using z
      subst z'
      exact ⟨ho, hH, neL, neF, fun v e => by rw [hd] at e; cases e⟩
  refine wpAny_assign_Name (store_ok I4 hN hix hx (v := .ref A) rfl (fun s5 I5 => ?_) hf)
  have ho5 := (I5.pin (C, oc) (List.mem_append_right _ (List.mem_append_right _ (by simp)))).1
  refine ⟨m, ⟨oc, es, ep, ho5, hd, hk⟩, fun h' sb => ⟨_, H', ?_, q⟩⟩
  refine (I5.unpinned (pl := [(C, oc)])).turned (t' := s5.toks) (it := C) (fun b o hb e => sb.extBut b o hb e) hH neL (.inr (Nat.le_trans I2.sz hC)) (fun y c e => ?_) (fun p hp => ?_)
  · obtain ⟨v, o, hc', _⟩ := I2.cell y c e
    exact Nat.ne_of_lt (Nat.lt_of_lt_of_le (Heap.lt_size hc') hC)
  · exact Nat.ne_of_lt (Nat.lt_of_lt_of_le (Heap.lt_size (I2.pin p hp).1) hC)
end
end L2

namespace L2
open PySem PySem.Spec PyProof.Rows
noncomputable def relabelN (scope out : Scope) : List (Str × NameKind) := scope.names.map fun (n, k) => if (k == .free && out.kind == .function && out.names.lookup n == some .cell) then (n, .cell) else (n, k)
noncomputable def compChk (scope out : Scope) (cn : List Str) : Bool :=
  scope.names.all (fun y => y.2 != .cell || !cn.contains y.1) && scope.names.all (fun y => y.2 != .local || scope.names.lookup y.1 == some .local) && (relabelN scope out).all (fun y => !(y.2 == .cell || y.2 == .free) || cn.contains y.1 || scope.names.contains (y.1, .cell)) && cn.all (fun n => out.names.lookup n == some .cell && (relabelN scope out).lookup n == some .cell)
noncomputable def SubOk (X : Cx) : List (Str × Addr) → Prop
  | [] => True
  | p :: r => X.env.cells.lookup p.1 = some p.2 ∧ SubOk X r
theorem SubOk.mem {X : Cx} : ∀ {cl : List (Str × Addr)} {p : Str × Addr}, SubOk X cl → p ∈ cl → X.env.cells.lookup p.1 = some p.2
  | _ :: _, _, h, .head _ => h.1
  | _ :: _, _, h, .tail _ m => SubOk.mem h.2 m
noncomputable def CapN (X : Cx) : List (Str × Nat) → Prop
  | [] => True
  | p :: r => X.N[p.2]? = some p.1 ∧ CapN X r
theorem look_some {α : Type} {x : Str} : ∀ {l : List (Str × α)}, x ∈ l.map (·.1) → ∃ c, l.lookup x = some c
  | [], h => by simp at h
  | (y, c) :: r, h => by
    by_cases e : x = y
    · subst e; exact ⟨c, by simp⟩
    · have h' : x ∈ r.map (·.1) := by
        rcases List.mem_map.mp h with ⟨p, hp, rfl⟩
        rcases List.mem_cons.mp hp with rfl | hp
        · exact absurd rfl e
        · exact List.mem_map.mpr ⟨p, hp, rfl⟩
      obtain ⟨d, hd⟩ := look_some (l := r) h'
      exact ⟨d, by rw [List.lookup_cons, beq_false_of_ne e]; exact hd⟩
theorem CompOk.of {X : Cx} {own : List Str} {cap : List (Str × Nat)} {scope : Scope} {cl : List (Str × Addr)} (clos : closureFor scope X.env = pure cl) (kind : scope.kind = .function) (chk : compChk scope X.env.scope (cap.map (·.1)) = true)
    (names : cl.map (·.1) = cap.map (·.1)) (sub : SubOk X cl) (capn : CapN X cap) : CompOk X own cap scope cl := by
  unfold compChk at chk
  simp only [Bool.and_eq_true, List.all_eq_true] at chk
  obtain ⟨⟨⟨h1, h2⟩, h3⟩, h4⟩ := chk
  have sub' : ∀ x c, cl.lookup x = some c → X.env.cells.lookup x = some c := fun x c e => sub.mem (PySem.mem_of_lookup e)
  have capk : ∀ (l : List (Str × Nat)), (∀ p ∈ l, p.1 ∈ cap.map (·.1)) → CapN X l → CapOk X (relabel scope X.env) cl l := by
    intro l
    induction l with
    | nil => exact fun _ _ => trivial
    | cons p r ih =>
      intro hm hn
      have hp := hm p List.mem_cons_self
      have hq := h4 p.1 hp
      have e1 : X.env.scope.names.lookup p.1 = some .cell := by simpa using hq.1
      have e2 : (relabelN scope X.env.scope).lookup p.1 = some .cell := by simpa using hq.2
      obtain ⟨c, hc⟩ := look_some (l := cl) (x := p.1) (by rw [names]; exact hp)
      exact ⟨⟨hn.1, e1, e2, c, hc, sub' _ _ hc⟩, ih (fun q hq => hm q (List.mem_cons_of_mem _ hq)) hn.2⟩
  refine ⟨clos, kind, fun x c hm y hy hk => ?_, fun y hy e => ?_, fun x c hm => sub.mem hm, fun k x hx => ?_, capk cap (fun p hp => List.mem_map.mpr ⟨p, hp, rfl⟩) capn⟩
  · have := h1 y hy
    rw [hk] at this
    rintro rfl
    have hc : y.1 ∈ cap.map (·.1) := by rw [← names]; exact List.mem_map.mpr ⟨_, hm, rfl⟩
    simp at this
    simp at hc
    obtain ⟨a, ha⟩ := hc
    exact this a ha
  · have := h2 y hy
    rw [e] at this
    simpa using this
  · have fin : ∀ k', (relabelN scope X.env.scope).lookup x = some k' → (k' = .cell ∨ k' = .free) → ∃ c, (PySem.cellsFrom k scope.names cl).lookup x = some c := by
      intro k' e hk
      have := h3 _ (PySem.mem_of_lookup e)
      refine Option.isSome_iff_exists.mp (cells_some scope.names k cl ?_)
      have this' : x ∈ cap.map (·.1) ∨ (x, NameKind.cell) ∈ scope.names := by
        rcases hk with rfl | rfl
        · simpa using this
        · simpa using this
      rcases this' with z | z
      · obtain ⟨c, hc⟩ := look_some (l := cl) (x := x) (by rw [names]; exact z)
        exact .inl (by rw [hc]; rfl)
      · exact .inr z
    rcases hx with e | e
    · exact fin _ e (.inl rfl)
    · exact fin _ e (.inr rfl)
section
variable {X : Cx} {e st : Expr} {te ts : TE} {p2 pos : Pos}
noncomputable def tRev (K : PySem.W.Frag) (te ts : TE) : TE := fun σ H Q => te σ H fun x H1 => ts σ H1 fun y H2 => y = .int (-1) ∧ ∃ a xs, x = .ref a ∧ SqL K H2 a xs ∧ ∀ p, H2 p = none → Q (.ref p) (upd H2 p (.lst xs.reverse))
theorem pe_rev (he : PE X e te) (hst : PE X st ts) : PE X (.Subscript e (.Slice none none (some st) p2) pos) (tRev X.K te ts) := by
  intro pins s σ H Q I h
  refine Subscript_ (thn (he pins s σ H _ I h) fun v s1 ⟨x, H1, I1, r1, q1⟩ => ?_)
  refine wpAny_Slice ?_
  rw [evalPart_none, evalPart_some]
  refine wpAny_pure (wpAny_pure ?_)
  refine thn (hst pins s1 σ H1 _ I1 q1) fun vk s3 ⟨y, H3, I3, r3, q3⟩ => ?_
  obtain ⟨rfl, a, xs, rfl, hx, q⟩ := q3
  cases r1
  obtain ⟨tk, rfl⟩ := r3
  have I4 : Inv X pins σ H3 { s3 with heap := s3.heap.push { cls := .type "slice", data := .fields #[.none, .none, .int (-1) tk] } } := I3.kept (t' := s3.toks) fun b ob q => Heap.get?_push_of_some _ q
  show wpAny (model X.prog X.w) X.A (subscriptTail e (.Slice none none (some st) p2) (.ref a) (.ref s3.heap.objs.size)) (EP X pins σ Q) X.xe { s3 with heap := s3.heap.push { cls := .type "slice", data := .fields #[.none, .none, .int (-1) tk] } }
  obtain ⟨its, r, ht, hz⟩ := I4.list hx
  have hlen := r.length
  refine tail_any (ops := [.ref a, .ref s3.heap.objs.size]) ht.isList.typeIs slot_list_getitem.lookup ?_ (by with_unfolding_all rfl)
  refine wpAny_getItem_list_slice ht.isList (Heap.IsSliceOf.new ..) .none .none (.int (-1) tk) (by decide) ?_ (by rw [List.size_toArray] <;> omega)
  rw [PySem.W.krv_pick]
  refine ⟨.ref _, _, I4.laid (t' := s3.toks) (o := .lst xs.reverse) (fun b ob q => Heap.get?_push_of_some _ q) (Nat.le_refl _) ?_, rfl, q _ (I4.hok.fresh (Nat.le_refl _))⟩
  refine ⟨by rw [List.length_reverse]; exact hz, its.reverse, 0, r.reverse, ?_⟩
  exact Heap.get?_push_size _ rfl
end
end L2

namespace L2
open PySem PySem.Spec PyProof.Rows
theorem ObjOk.there {P : Program} {w : World} {H : Hp} {h : Heap} {a : Addr} {o : HO} (x : ObjOk P w H h a o) : ∃ ob, h.get? a = some ob := by
  cases o with
  | lst xs => obtain ⟨_, _, _, _, e⟩ := x; exact ⟨_, e⟩
  | tup xs => obtain ⟨_, _, _, o, e, _⟩ := x; exact ⟨_, e⟩
  | dK kvs => obtain ⟨_, _, _, _, o, _, _, e, _⟩ := x; exact ⟨_, e⟩
  | dT kvs => obtain ⟨_, _, _, _, o, _, _, e, _⟩ := x; exact ⟨_, e⟩
  | set S n => obtain ⟨o, _, _, _, e, _⟩ := x; exact ⟨_, e⟩
  | ins C dx fs => obtain ⟨_, _, _, e, _⟩ := x; exact ⟨_, e⟩
  | own y => obtain ⟨_, e⟩ := x; exact ⟨_, e⟩
  | xd fs => obtain ⟨_, ⟨_, _, _, e, _⟩, _⟩ := x; exact ⟨_, e⟩
  | rng lo hi => obtain ⟨_, _, _, e⟩ := x; exact ⟨_, e⟩
  | frz ob u => obtain ⟨e, _⟩ := x; exact ⟨_, e⟩
  | tbl ps => exact ⟨_, (show h.get? a = some _ from x)⟩
  | met f y => exact ⟨_, (show h.get? a = some _ from x)⟩
  | ext φ => obtain ⟨_, ⟨_, e⟩, _⟩ := x; exact ⟨_, e⟩
theorem HOk.free {P : Program} {w : World} {H : Hp} {h : Heap} (x : HOk P w H h) {a : Addr} (e : h.get? a = none) : H a = none := by
  cases q : H a with
  | none => rfl
  | some o =>
    obtain ⟨ob, z⟩ := (x a o q).there
    rw [e] at z; cases z
structure Fly (P : Program) (w : World) (l : List Env) (H H' : Hp) (s s' : Shared) (x : Addr) (cls : Value) : Prop where
  os : s'.os = s.os
  bare : AllBare s'.gens
  un : Un (frs l) [] H H' s.heap s'.heap
  hok : HOk P w H' s'.heap
  frf : ∀ b ∈ frs l, H' b = none
  free : H' x = none
  ex : ∃ (B : Heap) (a0 : Value), Heap.FlyingW B l x cls a0 s'.heap ∧ ∀ b o, s'.heap.get? b = some o → (H' b ≠ none ∨ ∃ o', s.heap.get? b = some o') → b ∉ frs l → B.get? b = some o
theorem fly_of {P : Program} {w : World} {l l' : List Env} {H H' : Hp} {s s' : Shared} {x : Addr} {cls a0 : Value} {B h' : Heap} (os : s'.os = s.os) (bare : AllBare s'.gens) (un : Un (frs l) [] H H' s.heap s'.heap) (hok : HOk P w H' s'.heap)
    (frf : ∀ b ∈ frs l, H' b = none) (nf : ∀ b ∈ frs l, ∃ o, s'.heap.get? b = some o ∧ ∀ vs, o.data ≠ .fields vs)
    (cov : ∀ b o, s'.heap.get? b = some o → (H' b ≠ none ∨ ∃ o', s.heap.get? b = some o') → b ∉ frs l → B.get? b = some o)
    (sub : ∀ b ∈ frs l', b ∈ frs l) (new : ∀ b ∈ frs l, b ∉ frs l' → s.heap.get? b = none) (fl : Heap.FlyingW B l' x cls a0 h') (sm : s'.heap.UpToSlots h') (free : H' x = none) :
    Fly P w l' H H' s { s' with heap := h' } x cls := by
  have stay : ∀ b o, s'.heap.get? b = some o → (H' b ≠ none ∨ ∃ o', s.heap.get? b = some o') → b ∉ frs l → h'.get? b = some o := fun b o e q hb => fl.1 b o (cov b o e q hb)
  have out : ∀ {b : Addr} {o : Obj}, s.heap.get? b = some o → b ∉ frs l' → b ∉ frs l := fun {b o} e hb z => by
    rw [new b z hb] at e; cases e
  refine ⟨os, bare, ⟨fun b o e n hb hx => ?_, fun b o e n hb hx => ?_, un.free, fun b o e hx => ?_, un.tups, un.frzs, un.tbls⟩, fun a o e => ?_, fun b hb => frf b (sub b hb), free, B, a0, fl, fun b o e q hb => ?_⟩
  · exact stay b o (un.keep b o e n (out e hb) hx) (.inr ⟨o, e⟩) (out e hb)
  · obtain ⟨sl, q⟩ := un.slot b o e n (sub b hb) hx
    obtain ⟨o1, q1, d1⟩ := nf b (sub b hb)
    rw [q] at q1; cases q1
    obtain ⟨sl', q2⟩ := sm b _ q d1
    exact ⟨sl', q2⟩
  · obtain ⟨o', q⟩ := un.there b o e hx
    by_cases hb : b ∈ frs l
    · obtain ⟨o1, q1, d1⟩ := nf b hb
      obtain ⟨sl', q2⟩ := sm b _ q1 d1
      exact ⟨_, q2⟩
    · exact ⟨o', stay b o' q (.inr ⟨o, e⟩) hb⟩
  · refine (hok a o e).stay (fun b u hb q => ?_) (fun _ q => q) fun _ _ q => q
    have tr : H' b ≠ none := by
      rcases hb with rfl | hb
      · rw [e]; simp
      · rw [hb]; simp
    exact stay b u q (.inl tr) fun z => tr (frf b z)
  · have hb' : b ∉ frs l := by
      intro z
      rcases q with q | ⟨o', q⟩
      · exact q (frf b z)
      · exact out q hb z
    have ⟨o1, q1⟩ : ∃ o1, s'.heap.get? b = some o1 := by
      rcases q with q | ⟨o', q⟩
      · cases z : H' b with
        | none => exact absurd z q
        | some u => exact (hok b u z).there
      · exact un.there b o' q (by simp)
    have c := cov b o1 q1 q hb'
    have z := fl.1 b o1 c
    have e' : h'.get? b = some o := e
    rw [e'] at z; cases z
    exact c
theorem Fly.moved {P : Program} {w : World} {l : List Env} {H H' : Hp} {s s' : Shared} {x : Addr} {cls : Value} (F : Fly P w l H H' s s' x cls) {B h' : Heap} {a0 : Value}
    (fl0 : Heap.FlyingW B l x cls a0 s'.heap) (cov : ∀ b o, s'.heap.get? b = some o → (H' b ≠ none ∨ ∃ o', s.heap.get? b = some o') → b ∉ frs l → B.get? b = some o) (fl : Heap.FlyingW B l x cls a0 h') (sm : s'.heap.UpToSlots h') :
    Fly P w l H H' s { s' with heap := h' } x cls :=
  fly_of F.os F.bare F.un F.hok F.frf (fun b hb => (fl0.2.2.1.mem hb).2) cov (fun _ hb => hb) (fun _ h1 h2 => absurd h1 h2) fl sm F.free
section
variable {X : Cx} {pins : List (Addr × Obj)} {σ : St} {H H' : Hp} {s s' : Shared} {x : Addr} {cls : Value}
theorem Inv.unStack (I : Inv X pins σ H s) (hex : X.ex = []) (hfs : ∀ b ∈ X.fs, b ∈ frs X.stack) : Un (frs X.stack) [] X.H₀ H X.s₀.heap s.heap := I.base.mono hfs (by rw [hex]; exact fun _ z => z)
theorem Inv.sub (I : Inv X pins σ H s) : ∀ b ∈ X.fs, b ∈ frs X.stack := fun b hb => by
  rcases I.ok.stk with e | ⟨e, hf⟩
  · rw [e]; exact hb
  · rw [e]
    unfold frs
    rw [List.filterMap_cons, hf]
    exact List.mem_cons_of_mem _ hb
theorem Inv.flyOut (I : Inv X pins σ H s) (hex : X.ex = []) (F : Fly X.prog X.w X.stack H H' s s' x cls) {B h' : Heap} {a0 : Value} (fl0 : Heap.FlyingW B X.stack x cls a0 s'.heap)
    (cov : ∀ b o, s'.heap.get? b = some o → (H' b ≠ none ∨ ∃ o', s.heap.get? b = some o') → b ∉ frs X.stack → B.get? b = some o) (fl : Heap.FlyingW B X.outer x cls a0 h') (sm : s'.heap.UpToSlots h') :
    Fly X.prog X.w X.outer X.H₀ H' X.s₀ { s' with heap := h' } x cls := by
  refine fly_of (F.os.trans I.os) F.bare ((I.unStack hex I.sub).trans F.un) F.hok F.frf (fun b hb => (fl0.2.2.1.mem hb).2) (fun b o e q hb => cov b o e (q.imp id fun ⟨o', z⟩ => I.base.there b o' z (by rw [hex]; simp)) hb) I.sub (fun b h1 h2 => ?_) fl sm F.free
  rcases List.mem_cons.mp (I.stkSub b h1) with e | e
  · rw [e]; exact Heap.get?_none_of_le I.ok.above
  · exact absurd e h2
end
noncomputable def CXR (P : Program) (w : World) : CXT := fun outer H s E e s' => ∃ (x : Addr) (cls : Value) (H' : Hp), e = .ref x ∧ Fly P w outer H H' s s' x cls ∧ E cls none H'
section
variable {P : Program} {w : World} {K : PySem.W.Frag} {mg : Str → Option Value} {base : Heap} {N : List Str} {qual : Str} {scope : Scope} {f : Addr} {cd : Value} {A : Around} {outer : List Env} {s₀ : Shared} {H₀ : Hp} {E : XK}
theorem pass_on : Passes (CXR P w) (cxOf (CXR P w) P w K mg base N qual scope f cd A outer s₀ H₀ E) E := by
  intro pins σ H s e s' I h
  obtain ⟨x, cls, H', rfl, F, q⟩ := h
  obtain ⟨B, a0, fl, cov⟩ := F.ex
  show wpAny (model P w) (A.deeper (envOfC qual scope s₀.heap.objs.size f cd)) (leaving (envOfC qual scope s₀.heap.objs.size f cd) (.ref x)) _ _ s'
  exact wpAny_leaves_onW I.ok.frames rfl fl fun h' fl' sm => ⟨x, cls, H', rfl, I.flyOut rfl F fl cov fl' sm, q⟩
end
abbrev veMro : List Value := [.type "ValueError", .type "Exception", .type "BaseException", .type "object"]
theorem own_of {K : PySem.W.Frag} {h₀ : Heap} {mg : Str → Option Value} {x : Str} {C : Addr} {bmB : List Value} {newId : String} (X : K.In h₀) (m : mg x = some (.ref C)) (q : PySem.W.excIn K C bmB newId = true) : OwnCls x C bmB newId mg h₀ := by
  refine ⟨m, ?_⟩
  unfold PySem.W.excIn at q
  split at q
  · rename_i dd cd sl ho
    split at q
    · rename_i C' bm k0 k1 k2 k3 n k5 hm hs
      simp only [Bool.and_eq_true, beq_iff_eq, Bool.not_eq_true'] at q
      obtain ⟨⟨⟨⟨⟨rfl, rfl⟩, hdel⟩, ht⟩, hok⟩, hni⟩ := q
      obtain ⟨nm, bs, mro, ns, qn, hd, sn, sub, ab, col, del⟩ := cd
      dsimp only at hm hdel hok hni
      subst hm hdel
      have hsl : sl = #[k0, k1, k2, k3, some (.builtin n), k5] := by
        obtain ⟨l⟩ := sl
        simp only at hs
        rw [hs]
      subst hsl
      exact ⟨bm, ns, nm, qn, bs, hd, sn, sub, ab, col, dd, k0, k1, k2, k3, k5, _, X _ _ ho, .of_isNs (PySem.W.isNs_of_in X hok), PySem.W.nsMap_none_of_in X hok hni, PySem.W.tail_of_in X ht⟩
    · cases q
  · cases q
section
variable {X : Cx} {pins : List (Addr × Obj)} {σ : St} {H : Hp} {s : Shared}
theorem Inv.flyMade (I : Inv X pins σ H s) (hex : X.ex = []) (hst : X.stack = X.env :: X.outer) (hfr : X.env.frame = some X.env.locals) {x : Addr} {cls : Value} {args : List Value} {s1 : Shared} {h1 : Heap} (e1 : s1 = { s with heap := h1, toks := s1.toks }) (hx : Heap.MadeExcOf s.heap h1 x cls args)
    {Q : Unit → Shared → Prop} {E : Value → Shared → Prop} (k : ∀ s2, Fly X.prog X.w X.outer X.H₀ H X.s₀ s2 x cls → Q () s2) : wpAny (model X.prog X.w) X.A (leaving X.env (.ref x)) Q E s1 := by
  have hin : ∀ env ∈ X.stack, ∀ b, env.frame = some b → b ∈ frs X.stack := fun env he b hb => List.mem_filterMap.mpr ⟨env, he, hb⟩
  have hh1 : s1.heap = h1 := by rw [e1]
  refine wpAny_leaves_madeW (base := PySem.W.hideAll s.heap (frs X.stack)) (h := s.heap) (outer := X.outer) (by rw [← hst]; exact I.ok.frames) hfr (fun b o q => PySem.W.of_hideAll _ q) (by rw [← hst]; exact PySem.W.funFrames_hide I.stack hin) (by rw [hh1]; exact hx) fun h2 t fl _ _ sm => ?_
  refine k _ ?_
  have F : Fly X.prog X.w X.outer X.H₀ H X.s₀ { s with heap := h2 } x cls := by
    refine fly_of (B := PySem.W.hideAll s.heap (frs X.stack)) I.os I.bare (I.unStack hex I.sub) I.hok I.stkFree (fun b hb => (I.stack.mem hb).2) (fun b o e _ hb => PySem.W.hideAll_get _ e hb) I.sub (fun b h1 h2 => ?_) fl ((Heap.UpToSlots.of_keeps hx.keeps).trans (by rw [← hh1]; exact sm)) (I.hok.free hx.new)
    rcases List.mem_cons.mp (I.stkSub b h1) with e | e
    · rw [e]; exact Heap.get?_none_of_le I.ok.above
    · exact absurd e h2
  refine ⟨?_, ?_, F.un, F.hok, F.frf, F.free, F.ex⟩
  · rw [e1]; exact I.os
  · rw [e1]; exact I.bare
end
section
variable {P : Program} {w : World} {K : PySem.W.Frag} {mg : Str → Option Value} {base : Heap} {N : List Str} {qual : Str} {scope : Scope} {f : Addr} {cd : Value} {A : Around} {outer : List Env} {s₀ : Shared} {H₀ : Hp} {E : XK}
noncomputable def tRaise (E : XK) (C : Addr) (te : TA) : TS := fun _ σ H => te σ H fun vs H1 => vs.length ≤ 1000 ∧ E (.ref C) none H1
theorem ps_raise {x : Str} {C : Addr} {np cpos pos : Pos} {e : Expr} {es : List Expr} {t : TA} (hg : Gl (cxOf (CXR P w) P w K mg base N qual scope f cd A outer s₀ H₀ E) x) (hm : mg x = some (.ref C)) (hq : PySem.W.excIn K C veMro "ValueError.__new__" = true)
    (ha : PA (cxOf (CXR P w) P w K mg base N qual scope f cd A outer s₀ H₀ E) (e :: es) t) (hd : (x == ("__debug__" : Str)) = false := by decide)
    (he : starEach (e :: es) (cxOf (CXR P w) P w K mg base N qual scope f cd A outer s₀ H₀ E).env = (false, eval e (cxOf (CXR P w) P w K mg base N qual scope f cd A outer s₀ H₀ E).env) :: starEach es (cxOf (CXR P w) P w K mg base N qual scope f cd A outer s₀ H₀ E).env := by rfl)
    (hpl : (backTo cpos (starEach es (cxOf (CXR P w) P w K mg base N qual scope f cd A outer s₀ H₀ E).env)).any (·.1) = false := by rfl) :
    PS (cxOf (CXR P w) P w K mg base N qual scope f cd A outer s₀ H₀ E) (.Raise (some (.Call (.Name x np) (e :: es) [] cpos)) none pos) (tRaise E C t) := by
  intro pins s σ H D I h
  obtain ⟨tl, Nn, nm, q, bs, hdct, sn, sub, ab, col, dd, k0, k1, k2, k3, k5, mN, hC, hN, hni, T⟩ := (own_of I.mod.kin hm hq).obj
  refine wpAny_Raise_call_subU (C := C) (nm := nm) (q := q) (N := Nn) (bs := bs) (bm := tl) (hdct := hdct) (sn := sn) (sub := sub) (ab := ab) (col := col) (dd := dd) (k0 := k0) (k1 := k1) (k2 := k2) (k3 := k3) (k5 := k5)
    PySem.F.excBase_ValueError (bmB := veMro) (by decide +kernel) PySem.F.excBase_ValueError (mN := mN) (T.hasType PySem.F.excBase_ValueError.hasBase) (I.ok.hd rfl) (by rw [he]; show (false || (backTo cpos (starEach es _)).any (·.1)) = false; rw [hpl]; rfl) hni (ld_glob I hg hm ⟨rfl, ?_⟩ hd)
  have hw := ha cpos pins s σ H _ I h
  rw [he] at hw ⊢
  refine Calls.evalArgs_plain (wpAny_mono hw (fun us s2 z => ?_) fun _ _ y => y)
  obtain ⟨vs, H2, I2, rv, hl, q2⟩ := z
  refine ⟨rfl, by rw [← rv.length]; exact Nat.le_of_lt (small1000 hl), I2.bk _ _ hC, hN.keeps I2.bk, T.keeps I2.bk, fun h' ex hx => ?_⟩
  exact I2.flyMade rfl rfl rfl rfl hx fun s3 F => ⟨ex, .ref C, H2, rfl, F, q2⟩
end
noncomputable def ExcAt (a : Addr) (C : Value) (h : Heap) : Prop := ∃ ob, h.get? a = some ob ∧ ob.cls = C
noncomputable def exO (a : Addr) (C : Value) : HO := .ext (ExcAt a C)
end L2

namespace L2
open PySem PySem.Spec PyProof.Rows PySem.Calls
theorem ExcAt.ty {M : Model} {h : Heap} {a : Addr} {C : Value} (e : ExcAt a C h) : PySem.W.Looks M h (typeOf (.ref a)) C := by
  obtain ⟨o, h1, h2⟩ := e
  exact h2 ▸ (PySem.W.Looks.ld h1).andThen .now
structure ClsOk (K : PySem.W.Frag) (D : Addr) : Prop where
  g : PySem.W.findIn K (.ref D) "__getattribute__" = some (some (.builtin "BaseException.__getattribute__"))
  n : PySem.W.findIn K (.ref D) "__getattr__" = some none
  b : PySem.W.mroIn K D (.type "BaseException") = some true
  d : PySem.W.hasDictIn K D = true
  f : PySem.W.findIn K (.ref D) "__class__" = some (some (.builtin "object.__class__"))
  s : PySem.W.specialIn K (.builtin "object.__class__") "__get__" = some (some (.builtin "getset_descriptor.__get__"))
  t : PySem.W.takesIn K (.builtin "object.__class__") = some true
  m : PySem.W.mroIn K D (.type "object") = some true
section
open PySem.Builtin PySem.Builtin.ObjectAttr PySem.Builtin.Getset_descriptor PySem.W
variable {prog : Program} {w : World} {A : Around} {E : Value → Shared → Prop} {s : Shared} {K : PySem.W.Frag} {x D : Addr} {name : Str} {M : Model} {h : Heap}
end
noncomputable def Cx.inX (X : Cx) (e : Addr) : Cx := { X with A := X.A.mark (some (.ref e)), calm := false, xe := fun _ _ => False }
section
variable {X : Cx} {pins : List (Addr × Obj)} {σ : St} {H H' : Hp} {s s' : Shared} {x : Addr} {cls : Value}
theorem Cx.Ok.inX (ok : X.Ok) (e : Addr) : (X.inX e).Ok :=
  ⟨ok.mod, ok.kind, ok.glob, ok.blt, ok.above, ok.inj, ok.has, ok.cab, (fun z => nomatch z), ok.frames, ok.stk, ok.exf, ok.bs, ok.bsz, ok.noex, ok.exfs, ok.funs, ok.frf⟩
theorem Inv.inX (I : Inv X pins σ H s) (e : Addr) : Inv (X.inX e) pins σ H s := ⟨I.ok.inX e, I.os, I.bare, I.base, I.loc, I.cell, I.free, I.freeC, I.pin, I.hok, I.len⟩
theorem Inv.outX {e : Addr} (I : Inv (X.inX e) pins σ H s) (ok : X.Ok) : Inv X pins σ H s := ⟨ok, I.os, I.bare, I.base, I.loc, I.cell, I.free, I.freeC, I.pin, I.hok, I.len⟩
theorem Inv.landed (I : Inv X pins σ H s) (F : Fly X.prog X.w X.stack H H' s s' x cls) : Inv X pins σ H' s' := I.call' (ch := []) F.os F.un F.hok F.bare fun _ z => nomatch z
end
section
variable {X : Cx} {k i : Nat} {x y n : Str} {Cy fa : Addr} {fd : FuncData} {ps : List Str} {sp : Sp} {t : TA} {u : Addr → TS} {e : Expr} {es : List Expr} {p yp cpos epos hpos pos : Pos} {b₀ : Stmt} {suite : List Stmt}
end
end L2

namespace L2
open PySem PySem.Spec PyProof.Rows
theorem list_addG (l : Addr) (items : Array Value) (n : Nat) (sl : Array (Option Value)) (b : Addr) (items2 : Array Value) (n2 : Nat) (sl2 : Array (Option Value)) (hc0 : items.size + items2.size ≤ sizeLine) :
    Meets (Builtin.«list.__add__» ⟨[.ref l, .ref b], []⟩) (fun _ R s => s.heap.get? l = some { cls := .type "list", dict := none, data := .seq items n, slots := sl } ∧ s.heap.get? b = some { cls := .type "list", dict := none, data := .seq items2 n2, slots := sl2 } ∧ R (.ok (.ret (Value.ref s.heap.objs.size))) { s with heap := s.heap.push { cls := Value.type "list", data := Data.seq (items ++ items2) }, toks := s.toks }) :=
  .of_wp fun prog w A R s h => by obtain ⟨hp, g, d, tk, os⟩ := s; obtain ⟨hl, hb, h⟩ := h; have f1 := AutoSeq1.idx_int; have f2 := AutoSeq1.sub_tuple_tuple; have f3 := AutoSeq1.sub_list_list; have f4 := AutoSeq1.sub_tuple_list; have f5 := AutoSeq1.sub_list_tuple; wp_walk using AutoSeq1.wpAny_loadPart' hl, AutoSeq1.wpAny_loadPart' hb; exact ⟨_, rfl, h⟩
section
variable {X : Cx}
theorem op_catL0 {pins : List (Addr × Obj)} {s : Shared} {σ : St} {H : Hp} {l b : Addr} {xs zs : List V} {Q : VK} (I : Inv X pins σ H s) (hH : SqL X.K H l xs) (hB : SqL X.K H b zs) (hz : xs.length + zs.length ≤ sizeLine) (q : ∀ p, H p = none → Q (.ref p) (upd H p (.lst (xs ++ zs)))) :
    wpAny (model X.prog X.w) X.A (binaryOp .Add (.ref l) (.ref b)) (EP X pins σ Q) X.xe s := by
  obtain ⟨its, r, ⟨⟨c1, d1, t1, sl1⟩, n, e, h1, h2, h3⟩, z⟩ := I.list hH
  obtain ⟨its2, r2, ⟨⟨c2, d2, t2, sl2⟩, n2, e2, g1, g2, g3⟩, z2⟩ := I.list hB
  simp only at h1 h2 h3 g1 g2 g3
  subst h1 h2 h3 g1 g2 g3
  refine concat_meets ⟨_, e, rfl⟩ ⟨_, e2, rfl⟩ noFill_list_add seq_list_add F.slot_list_add F.entry_list_add (F.args_list_add_2 _ _) (list_addG l its.toArray n sl1 b its2.toArray n2 sl2 (by rw [List.size_toArray, List.size_toArray, ← r.length, ← r2.length]; exact hz)) ⟨e, e2, ?_⟩
  have ea : its.toArray ++ its2.toArray = (its ++ its2).toArray := by simp
  rw [ea]
  exact ⟨.ref _, _, I.lnew (t' := s.toks) (r.append r2) (by rw [List.length_append]; exact hz), rfl, q _ I.fresh⟩
theorem op_catU0 {pins : List (Addr × Obj)} {s : Shared} {σ : St} {H : Hp} {a b : Addr} {xs ys : List V} {Q : VK} (I : Inv X pins σ H s) (ha : SqT X.K H a xs) (hb : SqT X.K H b ys) (hz : xs.length + ys.length ≤ sizeLine) (q0 : xs = [] → Q (.ref b) H)
    (q1 : xs ≠ [] → ys = [] → Q (.ref a) H) (q2 : xs ≠ [] → ys ≠ [] → ∀ p, H p = none → Q (.ref p) (upd H p (.tup (xs ++ ys)))) :
    wpAny (model X.prog X.w) X.A (binaryOp .Add (.ref a) (.ref b)) (EP X pins σ Q) X.xe s := by
  by_cases hx : xs = []
  · obtain ⟨its, r1, p1, _⟩ := I.tuple ha
    obtain ⟨its2, r2, p2, _⟩ := I.tuple hb
    have hi : its = [] := r1.nil_iff.mpr hx
    subst hi
    obtain ⟨⟨cls, dd, data, sl⟩, ho, hc, n, hd⟩ := id p1
    obtain ⟨⟨cls2, dd2, data2, sl2⟩, ho2, hc2, n2, hd2⟩ := id p2
    simp only at hc hd hc2 hd2
    subst hc hd hc2 hd2
    exact concat_meets ⟨_, ho, rfl⟩ ⟨_, ho2, rfl⟩ noFill_tuple_add seq_tuple_add PySem.F.slot_tuple_add PySem.F.entry_tuple_add (PySem.F.args_tuple_add_2 _ _)
      (tuple_addW0 a b ([] : List Value).toArray its2.toArray n n2 dd dd2 sl sl2 rfl) ⟨ho, ho2, ⟨.ref b, H, I, rfl, q0 hx⟩⟩
  · exact op_catT pins s σ H (.ref a) (.ref b) _ _ Q I rfl rfl ⟨a, b, xs, ys, rfl, rfl, ha, hb, hx, hz, q1 hx, q2 hx⟩
end
end L2
namespace HT
open PySem PyProof.Rows
section
variable {prog : Program} {w : World} {A : Around} {E : Value → Shared → Prop} {s : Shared}
theorem getItem_tuple_whole {t sl : Addr} {items : Array Value} {vl vu : Value} {lo hi : Option Int} {Q : Value → Shared → Prop} (ht : IsTup s.heap t items) (hs : s.heap.IsSliceOf sl vl vu .none) (pl : IsPart vl lo) (pu : IsPart vu hi)
    (hw : sIx items.size 0 lo = 0 ∧ sIx items.size items.size hi = items.size) (h : Q (.ref t) s) : wpAny (model prog w) A (getItem (.ref t) (.ref sl)) Q E s := by
  obtain ⟨os, hos, hcs, hds⟩ := id hs
  have hTs : s.TypeIs (.ref sl) "slice" := ⟨os, hos, hcs⟩
  unfold getItem
  try with_reducible refine wpAny_holding ?_
  first | refine wpAny_bind (wpAny_pure ?_) | skip
  refine wpAny_bind (wpAny_sequenceKey ht.typeIs (by decide) ?_)
  refine wpAny_bind (wpAny_callSpecial?_slot (name := Str.ofString "__getitem__") ht.typeIs PyProof.Rows.slot_tuple_getitem
    (wpAny_call_entry PyProof.Rows.slot_tuple_getitem ht.typeIs entry_tuple_getitem ?_ (args_tuple_getitem _ _)))
  show wpAny _ _ (Builtin.Tuple.tupleItemsOf (.ref t) >>= _) _ _ s
  refine wpAny_bind (tupleItemsOf_ ht ?_)
  refine wpAny_bind (wpAny_typeOf hTs ?_)
  rw [if_pos (by decide)]
  refine wpAny_bind (sliceApplied_gen hs pl pu ?_)
  have hyes : (((sIx items.size 0 lo : Nat) : Int) == 0 && (1 : Int) == 1 && (sIx items.size items.size hi - sIx items.size 0 lo) == items.size) = true := by
    rw [hw.1, hw.2]; simp
  show wpAny _ _ (if (((sIx items.size 0 lo : Nat) : Int) == 0 && (1 : Int) == 1 && (sIx items.size items.size hi - sIx items.size 0 lo) == items.size) = true then _ else _) _ _ s
  rw [if_pos hyes]
  first
    | exact wpAny_bind (wpAny_bind (wpAny_typeOf ht.typeIs (wpAny_pure (by rw [if_pos (by decide)]; exact wpAny_bind (wpAny_rule (wpAny_pure ⟨_, rfl, wpAny_pure h⟩))))))
    | (refine wpAny_bind (m := Builtin.Tuple.tupleIsExact _) (wpAny_bind (wpAny_typeOf ht.typeIs (wpAny_pure ?_)))
       rw [if_pos (by decide)]
       trace_state
       exact wpAny_bind (wpAny_rule (wpAny_pure ⟨_, rfl, wpAny_pure h⟩)))
end
end HT
namespace L2
open PySem PySem.Spec PyProof.Rows
section
variable {X : Cx} {pins : List (Addr × Obj)} {σ : St} {H : Hp} {s : Shared}
theorem Inv.turnNew {fp : List Addr} {T : Addr} {o : HO} {h' : Heap} {t' : Nat} (I : Inv X pins σ H s) (k : ∀ b u, b ∉ fp → s.heap.get? b = some u → h'.get? b = some u) (hf : ∀ b ∈ fp, FpOk X pins H b) (hT : s.heap.objs.size ≤ T) (new : ObjOk X.prog X.w (upd H T o) h' T o) :
    Inv X pins σ (upd H T o) { s with heap := h', toks := t' } := by
  have hn : H T = none := I.hok.fresh hT
  have ntr : ∀ b u, H b = some u → b ∉ fp := fun b u e z => by rw [(hf b z).1] at e; cases e
  refine I.call (g' := s.gens) (d' := s.drawn) (ch := fp) ⟨fun b u q _ _ hx => k b u hx q, fun b u q _ _ hx => ⟨u.slots, k b u hx q⟩, fun b u q n _ => ?_, fun b u q hx => ⟨u, k b u hx q⟩, fun b xs q => ?_, fun b u xs q => ?_, fun b ps q => ?_⟩ (fun b u e => ?_) I.bare (fun b hb => ?_)
  · rw [upd_ne (Nat.ne_of_lt (Nat.lt_of_lt_of_le (Heap.lt_size q) hT))]; exact n
  · rw [upd_ne (ne_of_none q hn)]; exact q
  · rw [upd_ne (ne_of_none q hn)]; exact q
  · exact ⟨#[], by rw [upd_ne (ne_of_none q hn), q]; simp⟩
  · by_cases hb : b = T
    · subst hb; rw [upd_same] at e; cases e; exact new
    · rw [upd_ne hb] at e
      refine (I.hok b u e).stay (fun c v hc q => k c v ?_ q) (fun c q => by rw [upd_ne (ne_of_none q hn)]; exact q) fun c xs q => by rw [upd_ne (ne_of_none q hn)]; exact q
      rcases hc with rfl | hc
      · exact ntr c u e
      · exact ntr c _ hc
  · obtain ⟨_, f1, _, f3, f4, f5⟩ := hf b hb
    exact ⟨f3, f1, f4, f5⟩
theorem Inv.turnedL {fp : List Addr} {h' : Heap} {t' : Nat} (I : Inv X pins σ H s) (k : ∀ b u, b ∉ fp → s.heap.get? b = some u → h'.get? b = some u) (hf : ∀ b ∈ fp, FpOk X pins H b) : Inv X pins σ H { s with heap := h', toks := t' } := by
  have ntr : ∀ b u, H b = some u → b ∉ fp := fun b u e z => by rw [(hf b z).1] at e; cases e
  refine I.call (g' := s.gens) (d' := s.drawn) (ch := fp) ⟨fun b u q _ _ hx => k b u hx q, fun b u q _ _ hx => ⟨u.slots, k b u hx q⟩, fun b u q n _ => n, fun b u q hx => ⟨u, k b u hx q⟩, fun b xs q => q, fun b u xs q => q, fun b ps q => ⟨#[], by rw [q]; simp⟩⟩ (fun b u e => ?_) I.bare (fun b hb => ?_)
  · refine (I.hok b u e).stay (fun c v hc q => k c v ?_ q) (fun c q => q) fun c xs q => q
    rcases hc with rfl | hc
    · exact ntr c u e
    · exact ntr c _ hc
  · obtain ⟨_, f1, _, f3, f4, f5⟩ := hf b hb
    exact ⟨f3, f1, f4, f5⟩
theorem FpOk.upd {b T : Addr} {o : HO} (f : FpOk X pins H b) (h : b ≠ T) : FpOk X pins (upd H T o) b := ⟨by rw [upd_ne h]; exact f.1, f.2⟩
end
noncomputable def Ite (K : PySem.W.Frag) (a : Addr) : It :=
  ⟨fun i H => ∃ xs x, SqL K H a xs ∧ xs[i]? = some x, fun i H x H' => ∃ T p, H T = none ∧ x = .ref T ∧ H' = upd H T (.tup [.int i, p]) ∧ ∀ xs, SqL K H a xs → xs[i]? = some p, fun i H => ∃ xs, SqL K H a xs ∧ xs.length ≤ i⟩
theorem turn_enum {P : Program} {w : World} {K : PySem.W.Frag} {elts : List Expr} {x1 : Nat} {pos : Pos} {a e it : Addr} (hei : e ≠ it) : Turn P w K (.Tuple elts x1 pos) (Ite K a) [e, it] e (fun i h => (∃ old, IsEnum h e it (i : Nat) old) ∧ h.IsListIter it a i) where
  mem := by simp
  obj := fun i h st b hb => by
    obtain ⟨⟨old, he⟩, o, ho, c, d⟩ := st
    rcases List.mem_cons.mp hb with rfl | hb
    · exact ⟨_, he, fun v z => by cases z⟩
    · have z : b = it := by simpa using hb
      subst z
      exact ⟨o, ho, fun v z => by rw [d] at z; cases z⟩
  keep := fun i h h' st k => ⟨⟨st.1.choose, k e (by simp) _ st.1.choose_spec⟩, st.2.at fun o q => k it (by simp) o q⟩
  item := by
    intro X hP hw hK hc i pins s σ H E I hf st hg
    subst hP hw hK
    obtain ⟨⟨old, he⟩, hit⟩ := st
    obtain ⟨xs, x, hq, hx⟩ := hg
    obtain ⟨its, rv, p, hz⟩ := I.list hq
    obtain ⟨u, hu, ru⟩ := rv.get hx
    refine wpAny_pyNext_enum_item he hit p.isList (x := u) (by simpa using hu) hei fun h1 heo hit1 ht1 hz1 hk1 => ⟨_, rfl, ?_⟩
    refine wpAny_letOwnedTupleGo_enum heo fun h2 he2 hs2 => ?_
    have hsz : ∀ {c : Addr} {ob : Obj}, s.heap.get? c = some ob → c ≠ s.heap.objs.size := fun q => Nat.ne_of_lt (Heap.lt_size q)
    have eT : e ≠ s.heap.objs.size := hsz he
    have iT : it ≠ s.heap.objs.size := by obtain ⟨_, q, _⟩ := id hit; exact hsz q
    have hs2' : Heap.SameBut e h1 h2 := hs2
    have hT : H s.heap.objs.size = none := I.hok.fresh (Nat.le_refl _)
    have I2 : Inv X pins σ (upd H s.heap.objs.size (.tup [.int i, x])) { s with heap := h2, toks := s.toks + 1 } := by
      refine I.turnNew (fp := [e, it]) (fun b ob hb q => ?_) hf (Nat.le_refl _) ?_
      · have h1' : b ≠ e := fun z => hb (by simp [z])
        have h2' : b ≠ it := fun z => hb (by simp [z])
        exact hs2'.extBut b ob h1' (hk1 b ob h1' h2' q)
      · have lt2 : (2 : Nat) ≤ sizeLine := by decide
        exact ⟨lt2, [.int i s.toks, u], .cons ⟨_, rfl⟩ (.cons ru .nil), ⟨_, hs2'.extBut _ _ (Ne.symm eT) ht1, rfl, _, rfl⟩⟩
    refine ⟨.ref s.heap.objs.size, _, I2, rfl, ⟨_, x, hT, rfl, rfl, fun ys hy => by rw [I.list_inj hy hq]; exact hx⟩, ⟨⟨_, he2⟩, hit1.extBut hs2'.extBut (Ne.symm hei)⟩, fun b hb => ?_⟩
    have nb : b ≠ s.heap.objs.size := by
      rcases List.mem_cons.mp hb with rfl | hb
      · exact eT
      · have z : b = it := by simpa using hb
        subst z; exact iT
    rw [upd_ne nb]; exact (hf b hb).1
  done := by
    intro X hP hw hK hc i pins s σ H E I hf st hg
    subst hP hw hK
    obtain ⟨⟨old, he⟩, hit⟩ := st
    obtain ⟨xs, hq, hx⟩ := hg
    obtain ⟨its, rv, p, hz⟩ := I.list hq
    have hl := rv.length
    refine wpAny_pyNext_enum_end (I.ok.hd hc) he hit p.isList (by simp; omega) fun h' eb => ⟨rfl, ?_⟩
    exact I.turnedL (fp := [e, it]) (t' := s.toks) (fun b ob hb q => eb b ob (fun z => hb (by simp [z])) q) hf
  self := fun _ _ _ _ _ st h => wpAny_pyIter_enum st.1.choose_spec h
noncomputable def iEnum (K : PySem.W.Frag) (ta : TA) : TI := fun σ H R => ta σ H fun vs H1 => ∃ a, vs = [.ref a] ∧ (∃ xs, SqL K H1 a xs) ∧ R (Ite K a) H1
theorem pi_enum {X : Cx} {elts : List Expr} {x1 : Nat} {tpos : Pos} {a : Expr} {ta : TA} {p pos : Pos} (hg : Gl X "enumerate") (hm : X.mg "enumerate" = none) (ha : PA X [a] ta) (hs : starEach [a] X.env = [(false, eval a X.env)] := by rfl) : PI X (.Tuple elts x1 tpos) (.Call (.Name "enumerate" p) [a] [] pos) (iEnum X.K ta) := by
  intro pins s σ H R I h
  refine Call_ (ld_blt I hg hm bt_enumerate (PyProof.Rows.callWith_type1 (thn (ha pos pins s σ H _ I h) fun us s1 ⟨vs, H1, I1, r1, q1⟩ => ?_) hs rfl))
  obtain ⟨l, e, ⟨xs, hq⟩, q⟩ := q1
  subst e
  cases r1 with
  | cons r rr =>
    cases rr
    cases r
    obtain ⟨its, rv, pl, hz⟩ := I1.list hq
    refine call_enumerate_list pl.isList fun h' he hit hsz hk => ?_
    have hI : Inv X pins σ H1 { s1 with heap := h' } := I1.kept (t' := s1.toks) hk
    refine wpAny_pyIter_enum he ?_
    refine ⟨s1.heap.objs.size + 1, [s1.heap.objs.size + 1, s1.heap.objs.size], _, Ite X.K l, H1, rfl, hI, turn_enum (Nat.succ_ne_self _), ⟨⟨_, he⟩, hit⟩, fun b hb => ?_, q⟩
    have hb' : s1.heap.objs.size ≤ b := by
      rcases List.mem_cons.mp hb with rfl | hb
      · exact Nat.le_succ _
      · have z : b = s1.heap.objs.size := by simpa using hb
        exact Nat.le_of_eq z.symm
    exact I1.fpOk hb' (I1.hok.fresh hb')
end L2
namespace L2
open PySem PySem.Spec PyProof.Rows
section
variable {prog : Program} {w : World} {A : Around} {E : Value → Shared → Prop} {s : Shared}
theorem draw_list {it t : Addr} {items : Array Value} (hne : t ≠ it) : ∀ (n i : Nat) (s : Shared) (Q : List Value → Shared → Prop), s.heap.IsListIter it t i → s.heap.IsList t items → i + n ≤ items.size →
    (∀ h', h'.IsListIter it t (i + n) → Heap.SameBut it s.heap h' → Q ((items.toList.drop i).take n) { s with heap := h' }) → wpAny (model prog w) A (draw (.ref it) n) Q E s
  | 0, i, s, Q, hit, _, _, hQ => by
    show wpAny _ _ (pure []) Q E s
    exact wpAny_pure (by simpa using hQ s.heap hit (Heap.SameBut.refl ..))
  | n + 1, i, s, Q, hit, ht, hle, hQ => by
    have hlt : i < items.size := by omega
    show wpAny _ _ (pyNext (.ref it) >>= _) Q E s
    refine wpAny_bind (wpAny_pyNext_list_item hit ht (x := items[i]) (by simp [hlt]) fun h₁ hit₁ hs₁ => ?_)
    refine wpAny_bind (wpAny_holding (draw_list hne n (i + 1) _ _ hit₁ (ht.extBut hs₁.extBut hne) (by omega) fun h₂ hit₂ hs₂ => wpAny_pure ?_))
    have hd : items.toList.drop i = items[i] :: items.toList.drop (i + 1) := by simp [List.drop_eq_getElem_cons, hlt]
    have := hQ h₂ (by rw [show i + (n + 1) = i + 1 + n by omega]; exact hit₂) (hs₁.trans hs₂)
    rw [hd, List.take_succ_cons] at this
    exact this
theorem unpackItems_list {t : Addr} {items : Array Value} {Q : List Value → Shared → Prop} (hh : A.handled = none) (ht : s.heap.IsList t items)
    (hQ : ∀ h', Heap.ExtBut s.heap.objs.size s.heap h' → Q items.toList { s with heap := h' }) : wpAny (model prog w) A (unpackItems (.ref t) items.size none) Q E s := by
  have hlt : t ≠ s.heap.objs.size := by obtain ⟨o, ho, _⟩ := ht; exact Nat.ne_of_lt (Heap.lt_size ho)
  unfold unpackItems
  refine wpAny_bind ?_
  · unfold notIterableAtAll
    refine wpAny_bind (wpAny_specialOf ht.typeIs F.slot_list_iter.lookup ?_)
    refine wpAny_pure ?_
    simp only [Bool.false_eq_true, if_false]
    refine wpAny_bind (wpAny_holding (wpAny_pyIter_list ht ?_))
    refine wpAny_bind (wpAny_holding (draw_list hlt items.size 0 _ _ ⟨_, Heap.get?_push_size _ rfl, rfl, rfl⟩ (ht.push _) (by omega) fun h₁ hit₁ hs₁ => ?_))
    have hall : List.take items.size (List.drop 0 items.toList) = items.toList := by
      rw [List.drop_zero]; exact List.take_of_length_le (by simp)
    rw [hall]
    rw [if_neg (by simp)]
    have ht₁ : h₁.IsList t items := (ht.push _).extBut hs₁.extBut hlt
    refine wpAny_bind (wpAny_holding (wpAny_pyNext_list_end hh hit₁ ht₁ (by simp) fun h₂ he₂ => ?_))
    simp only [Option.isSome_none, Bool.false_eq_true, if_false]
    refine wpAny_pure (hQ h₂ fun b o hb e => he₂ b o hb (hs₁.extBut b o hb (Heap.get?_push_of_some _ e)))
theorem assign_Tuple_list {env : Env} {elts : List Expr} {x1} {pos : Pos} {t : Addr} {items : Array Value} {Q : Unit → Shared → Prop} (hh : A.handled = none) (ht : s.heap.IsList t items)
    (hn : (assignEach elts env).length = items.size) (hstar : (assignEach elts env).findIdx? (·.1) = none)
    (h : ∀ h', Heap.ExtBut s.heap.objs.size s.heap h' → wpAny (model prog w) A (assignInOrder ((assignEach elts env).map (·.2)) items.toList) Q E { s with heap := h' }) :
    wpAny (model prog w) A (assign (.Tuple elts x1 pos) env (.ref t)) Q E s := by
  rw [assign_Tuple]
  refine wpAny_bind (wpAny_standAt ?_)
  unfold unpack
  rw [hn, hstar]
  exact wpAny_bind (wpAny_holding (unpackItems_list hh ht h))
end
end L2

namespace L2
open PySem PySem.Spec PyProof.Rows
noncomputable def ItK : Bool → Heap → Addr → Addr → Nat → Prop
  | false, h, a, l, i => h.IsListIter a l i
  | true, h, a, l, i => h.IsTupleIter a l i
noncomputable def SqK : Bool → Heap → Addr → Array Value → Prop
  | false, h, a, xs => h.IsList a xs
  | true, h, a, xs => h.IsTuple a xs
noncomputable def itObj (p : Bool) (l : Addr) : Obj := { cls := .type (if p then "tuple_iterator" else "list_iterator"), data := .fields #[.ref l, .int 0 0] }
theorem ItK.extBut {p : Bool} {h h' : Heap} {a b l : Addr} {i : Nat} (x : ItK p h a l i) (hs : Heap.ExtBut b h h') (hab : a ≠ b) : ItK p h' a l i := by
  cases p
  · exact Heap.IsListIter.extBut x hs hab
  · exact Heap.IsTupleIter.extBut x hs hab
theorem ItK.at {p : Bool} {h h' : Heap} {a l : Addr} {i : Nat} (x : ItK p h a l i) (k : ∀ o, h.get? a = some o → h'.get? a = some o) : ItK p h' a l i := by
  cases p
  · obtain ⟨o, e, r⟩ := (show h.IsListIter a l i from x); exact ⟨o, k o e, r⟩
  · obtain ⟨o, e, r⟩ := (show h.IsTupleIter a l i from x); exact ⟨o, k o e, r⟩
theorem ItK.here {p : Bool} {h : Heap} {a l : Addr} {i : Nat} (x : ItK p h a l i) : ∃ o, h.get? a = some o := by
  cases p
  · obtain ⟨o, e, _⟩ := (show h.IsListIter a l i from x); exact ⟨o, e⟩
  · obtain ⟨o, e, _⟩ := (show h.IsTupleIter a l i from x); exact ⟨o, e⟩
theorem ItK.flds {p : Bool} {h : Heap} {a l : Addr} {i : Nat} (x : ItK p h a l i) : ∃ o vs, h.get? a = some o ∧ o.data = .fields vs := by
  cases p
  · obtain ⟨o, e, _, d⟩ := (show h.IsListIter a l i from x); exact ⟨o, _, e, d⟩
  · obtain ⟨o, e, _, d⟩ := (show h.IsTupleIter a l i from x); exact ⟨o, _, e, d⟩
theorem ItK.new {p : Bool} {h : Heap} {a l : Addr} (e : h.get? a = some (itObj p l)) : ItK p h a l 0 := by
  cases p
  · exact ⟨_, e, rfl, rfl⟩
  · exact ⟨_, e, rfl, rfl⟩
theorem SqK.extBut {p : Bool} {h h' : Heap} {a b : Addr} {xs : Array Value} (x : SqK p h a xs) (hs : Heap.ExtBut b h h') (hab : a ≠ b) : SqK p h' a xs := by
  cases p
  · exact Heap.IsList.extBut x hs hab
  · exact Heap.IsTuple.extBut x hs hab
theorem SqK.push {p : Bool} {h : Heap} {a : Addr} {xs : Array Value} (x : SqK p h a xs) (o : Obj) : SqK p (h.push o) a xs := by
  cases p
  · exact Heap.IsList.push x o
  · exact Heap.IsTuple.push x o
section
variable {prog : Program} {w : World} {A : Around} {E : Value → Shared → Prop} {s : Shared}
end
section
variable {prog : Program} {w : World} {A : Around} {E : Value → Shared → Prop} {s : Shared}

end
end L2
namespace L2
open PySem PySem.Spec PyProof.Rows
theorem SqK.here {p : Bool} {h : Heap} {a : Addr} {xs : Array Value} (x : SqK p h a xs) : ∃ o, h.get? a = some o := by
  cases p
  · obtain ⟨o, e, _⟩ := (show h.IsList a xs from x); exact ⟨o, e⟩
  · obtain ⟨o, e, _⟩ := (show h.IsTuple a xs from x); exact ⟨o, e⟩
end L2

namespace Dl
open PySem
inductive D where
  | non | bl (b : Bool) | int (i : Int) | str (x : Str) | ty (n : String) | cls (c : Str)
  | tup (xs : List D) | lst (xs : List D) | exc (c : Str) | ins (c : Str) (ns : List Str) (vs : List D)
inductive Res (α : Type) where
  | ok (a : α) | ex (c : Str) | bad
noncomputable def Res.bind {α β : Type} : Res α → (α → Res β) → Res β
  | .ok a, f => f a
  | .ex c, _ => .ex c
  | .bad, _ => .bad
theorem ok_bind {α β : Type} (a : α) (f : α → Res β) : (Res.ok a).bind f = f a := rfl
inductive Cl where
  | no | im (d : D) | ow (ds : List D)
noncomputable abbrev Ev := List Cl
noncomputable abbrev ME := Ev → Res D
noncomputable abbrev MB := Ev → Res Bool
noncomputable abbrev MA := Ev → Res (List D)
noncomputable def getC : Option Cl → Res D
  | some (.im d) => .ok d
  | _ => .bad
noncomputable def v (i : Nat) : ME := fun ρ => getC ρ[i]?
noncomputable def c (d : D) : ME := fun _ => .ok d
noncomputable def o1 (f : D → Res D) (a : ME) : ME := fun ρ => (a ρ).bind f
noncomputable def o2 (f : D → D → Res D) (a b : ME) : ME := fun ρ => (a ρ).bind fun x => (b ρ).bind fun y => f x y
noncomputable def anil : MA := fun _ => .ok []
noncomputable def acons (a : ME) (r : MA) : MA := fun ρ => (a ρ).bind fun x => (r ρ).bind fun xs => .ok (x :: xs)
noncomputable def on (f : List D → Res D) (a : MA) : ME := fun ρ => (a ρ).bind f
noncomputable def mtp (a : MA) : ME := fun ρ => (a ρ).bind fun xs => .ok (.tup xs)
noncomputable def mls (a : MA) : ME := fun ρ => (a ρ).bind fun xs => .ok (.lst xs)
noncomputable def tru : D → Res Bool
  | .bl b => .ok b
  | _ => .bad
noncomputable def trb (a : ME) : MB := fun ρ => (a ρ).bind tru
noncomputable def bAnd (a b : MB) : MB := fun ρ => (a ρ).bind fun x => if x = true then b ρ else .ok false
noncomputable def bOr (a b : MB) : MB := fun ρ => (a ρ).bind fun x => if x = true then .ok true else b ρ
noncomputable def bNot (a : MB) : MB := fun ρ => (a ρ).bind fun x => .ok (!x)
noncomputable def eAnd (a b : ME) : ME := fun ρ => (trb a ρ).bind fun x => if x = true then b ρ else .ok (.bl false)
noncomputable def eOr (a b : ME) : ME := fun ρ => (trb a ρ).bind fun x => if x = true then .ok (.bl true) else b ρ
noncomputable def eNot (a : ME) : ME := fun ρ => (trb a ρ).bind fun x => .ok (.bl (!x))
noncomputable def ife (t : MB) (a b : ME) : ME := fun ρ => (t ρ).bind fun x => if x = true then a ρ else b ρ
noncomputable def mulOk (a b : Int) : Bool := decide (a.natAbs < 2 ^ 64) || decide (b.natAbs < 2 ^ 64) || decide (a.natAbs.log2 + b.natAbs.log2 < 100000000)
noncomputable def LIM : Nat := 1000000
noncomputable def dAdd : D → D → Res D
  | .int a, .int b => .ok (.int (a + b))
  | .lst a, .lst b => if a.length + b.length ≤ LIM then .ok (.lst (a ++ b)) else .bad
  | .tup a, .tup b => if a.length + b.length ≤ LIM then .ok (.tup (a ++ b)) else .bad
  | .str a, .str b => if a.length + b.length ≤ LIM then .ok (.str (a ++ b)) else .bad
  | _, _ => .bad
noncomputable def ii (f : Int → Int → Res D) : D → D → Res D
  | .int a, .int b => f a b
  | _, _ => .bad
noncomputable def iSub (a b : Int) : Res D := .ok (.int (a - b))
noncomputable def iMul (a b : Int) : Res D := if mulOk a b = true then .ok (.int (a * b)) else .bad
noncomputable def iMod (a b : Int) : Res D := if 0 < b then .ok (.int (a % b)) else if b = 0 then .bad else .ok (.int (a.fmod b))
noncomputable def iDiv (a b : Int) : Res D := if b.natAbs.log2 < 9000 then (if 0 < b then .ok (.int (a / b)) else if b = 0 then .bad else .ok (.int (a.fdiv b))) else .bad
noncomputable def iPow (a b : Int) : Res D := if 0 ≤ b ∧ b ≤ 1000000 ∧ a.natAbs < 2 ^ 64 then .ok (.int (a ^ b.toNat)) else .bad
noncomputable def iShl (a b : Int) : Res D := if 0 ≤ b ∧ b ≤ 1000000 ∧ a.natAbs < 2 ^ 64 then .ok (.int (a * 2 ^ b.toNat)) else .bad
noncomputable def iShr (a b : Int) : Res D := if 0 ≤ b then .ok (.int (a / 2 ^ b.toNat)) else .bad
noncomputable def iAnd (a b : Int) : Res D := if 0 ≤ a ∧ 0 ≤ b then .ok (.int ((a.toNat &&& b.toNat : Nat) : Int)) else .bad
noncomputable def iOr (a b : Int) : Res D := if 0 ≤ a ∧ 0 ≤ b then .ok (.int ((a.toNat ||| b.toNat : Nat) : Int)) else .bad
noncomputable def iLt (a b : Int) : Res D := .ok (.bl (decide (a < b)))
noncomputable def iLe (a b : Int) : Res D := .ok (.bl (decide (a ≤ b)))
noncomputable def iGt (a b : Int) : Res D := .ok (.bl (decide (b < a)))
noncomputable def iGe (a b : Int) : Res D := .ok (.bl (decide (b ≤ a)))
noncomputable abbrev dSub := ii iSub
noncomputable abbrev dMul := ii iMul
noncomputable abbrev dMod := ii iMod
noncomputable abbrev dDiv := ii iDiv
noncomputable abbrev dPow := ii iPow
noncomputable abbrev dShl := ii iShl
noncomputable abbrev dShr := ii iShr
noncomputable abbrev dBAnd := ii iAnd
noncomputable abbrev dBOr := ii iOr
noncomputable abbrev dLt := ii iLt
noncomputable abbrev dLe := ii iLe
noncomputable abbrev dGt := ii iGt
noncomputable abbrev dGe := ii iGe
noncomputable def dNeg : D → Res D
  | .int a => .ok (.int (-a))
  | _ => .bad
noncomputable def chain (f g : D → D → Res D) (a b d : ME) : ME := fun ρ => (a ρ).bind fun x => (b ρ).bind fun y => (f x y).bind fun z => (tru z).bind fun b => if b = true then (d ρ).bind fun u => g y u else .ok (.bl false)
mutual
noncomputable def eqD : D → D → Bool
  | .non, .non => true
  | .bl a, .bl b => a == b
  | .bl a, .int j => (if a then 1 else 0) == j
  | .int i, .bl b => i == (if b then 1 else 0)
  | .int i, .int j => i == j
  | .str x, .str y => x == y
  | .lst xs, .lst ys => eqDs xs ys
  | .tup xs, .tup ys => eqDs xs ys
  | _, _ => false
noncomputable def eqDs : List D → List D → Bool
  | [], [] => true
  | x :: xs, y :: ys => eqD x y && eqDs xs ys
  | _, _ => false
end
mutual
/-- it may be compared, k deep at most -/
noncomputable def plain : Nat → D → Bool
  | _, .non => true
  | _, .bl _ => true
  | _, .int _ => true
  | _, .str x => x.cps.all (· < 0x110000)
  | k + 1, .tup xs => plains k xs
  | k + 1, .lst xs => plains k xs
  | _, _ => false
noncomputable def plains : Nat → List D → Bool
  | _, [] => true
  | k, x :: xs => plain k x && plains k xs
end
noncomputable def dEq (x y : D) : Res D := if plain 50 x && plain 50 y then .ok (.bl (eqD x y)) else .bad
noncomputable def dNe (x y : D) : Res D := if plain 50 x && plain 50 y then .ok (.bl (!eqD x y)) else .bad
noncomputable def seqD : D → Res (List D)
  | .lst ys => .ok ys
  | .tup ys => .ok ys
  | _ => .bad
noncomputable def isNon : D → Bool
  | .non => true
  | _ => false
noncomputable def dIsN (x : D) : Res D := .ok (.bl (isNon x))
noncomputable def dNotN (x : D) : Res D := .ok (.bl (!isNon x))
noncomputable def at_ {α : Type} (xs : List α) (i : Int) : Option α := if 0 ≤ i then xs[i.toNat]? else if -(xs.length : Int) ≤ i then xs[(i + xs.length).toNat]? else none
noncomputable def ofO {α : Type} : Option α → Res α
  | some a => .ok a
  | none => .bad
noncomputable def dIx : D → D → Res D
  | .lst xs, .int i => ofO (at_ xs i)
  | .tup xs, .int i => ofO (at_ xs i)
  | _, _ => .bad
noncomputable def cutAt (n d : Nat) : Option Int → Nat
  | none => d
  | some i => if i < 0 then (i + n).toNat else min i.toNat n
noncomputable def cutL (xs : List D) (lo hi : Option Int) : List D := (xs.drop (cutAt xs.length 0 lo)).take (cutAt xs.length xs.length hi - cutAt xs.length 0 lo)
noncomputable def dCut (x : D) (lo hi : Option Int) : Res D := match x with
  | .lst xs => .ok (.lst (cutL xs lo hi))
  | .tup xs => .ok (.tup (cutL xs lo hi))
  | _ => .bad
noncomputable def pno : Ev → Res (Option Int) := fun _ => .ok none
noncomputable def optI : D → Res (Option Int)
  | .int i => .ok (some i)
  | _ => .bad
noncomputable def pso (a : ME) : Ev → Res (Option Int) := fun ρ => (a ρ).bind optI
noncomputable def cut (a : ME) (lo hi : Ev → Res (Option Int)) : ME := fun ρ => (a ρ).bind fun x => (lo ρ).bind fun l => (hi ρ).bind fun h => dCut x l h
noncomputable def dRev : D → Res D
  | .lst xs => .ok (.lst xs.reverse)
  | _ => .bad
noncomputable def bLen : List D → Res D
  | [.lst xs] => .ok (.int xs.length)
  | [.tup xs] => .ok (.int xs.length)
  | _ => .bad
noncomputable def bAbs : List D → Res D
  | [.int i] => .ok (.int (if i < 0 then -i else i))
  | _ => .bad
noncomputable def bMax : List D → Res D
  | [.int i, .int j] => .ok (.int (if j > i then j else i))
  | _ => .bad
noncomputable def bMin : List D → Res D
  | [.int i, .int j] => .ok (.int (if j < i then j else i))
  | _ => .bad
noncomputable def bInt : List D → Res D
  | [.int i] => .ok (.int i)
  | [.bl k] => .ok (.int (if k then 1 else 0))
  | _ => .bad
noncomputable def bTup : List D → Res D
  | [.lst xs] => .ok (.tup xs)
  | [.tup xs] => .ok (.tup xs)
  | _ => .bad
noncomputable def bLst : List D → Res D
  | [.lst xs] => .ok (.lst xs)
  | [.tup xs] => .ok (.lst xs)
  | _ => .bad
noncomputable def tyName : D → Option String
  | .non => some "NoneType"
  | .bl _ => some "bool"
  | .int _ => some "int"
  | .str _ => some "str"
  | .tup _ => some "tuple"
  | .lst _ => some "list"
  | _ => none
noncomputable def isTy (t n : String) : Bool := t == n || (t == "bool" && n == "int")
noncomputable def tyList : List String := ["int", "bool", "str", "tuple", "list", "dict"]
noncomputable def bIsi : List D → Res D
  | [x, .ty n] => if tyList.contains n = true then (ofO (tyName x)).bind fun t => .ok (.bl (isTy t n)) else .bad
  | _ => .bad
noncomputable def bMax3 : List D → Res D
  | [.int i, .int j, .int k] => .ok (.int (if j > i then (if k > j then k else j) else (if k > i then k else i)))
  | _ => .bad
noncomputable def intsD : List D → Res (List Int)
  | [] => .ok []
  | d :: r => match d with
    | .int n => (intsD r).bind fun ns => .ok (n :: ns)
    | _ => .bad
noncomputable def bSum : List D → Res D
  | [d] => match d with
    | .lst xs => (intsD xs).bind fun ns => .ok (.int ns.sum)
    | _ => .bad
  | _ => .bad
noncomputable abbrev MI := Ev → Res (List D)
noncomputable def items : D → Res (List D)
  | .lst xs => .ok xs
  | .tup xs => .ok xs
  | _ => .bad
noncomputable def iv (a : ME) : MI := fun ρ => (a ρ).bind items
noncomputable def pairs : List D → List D → List D
  | x :: xs, y :: ys => .tup [x, y] :: pairs xs ys
  | _, _ => []
noncomputable def numbered : Nat → List D → List D
  | _, [] => []
  | k, x :: xs => .tup [.int k, x] :: numbered (k + 1) xs
noncomputable def zip2 : List D → Res (List D)
  | [x, y] => (seqD x).bind fun xs => (seqD y).bind fun ys => .ok (pairs xs ys)
  | _ => .bad
noncomputable def iZip (a : MA) : MI := fun ρ => (a ρ).bind zip2
noncomputable def enum1 : List D → Res (List D)
  | [x] => match x with
    | .lst xs => .ok (numbered 0 xs)
    | _ => .bad
  | _ => .bad
noncomputable def iEnumerate (a : MA) : MI := fun ρ => (a ρ).bind enum1
noncomputable def rangeD (lo : Int) (n : Nat) : List D := (List.range n).map fun (k : Nat) => D.int (lo + (k : Int))
noncomputable def rng1 : List D → Res (List D)
  | [.int j] => if -1000000000 ≤ j ∧ j ≤ 1000000000 then .ok (rangeD 0 j.toNat) else .bad
  | _ => .bad
noncomputable def r1 (a : MA) : MI := fun ρ => (a ρ).bind rng1
noncomputable def rng2 : List D → Res (List D)
  | [.int i, .int j] => if (-1000000000 ≤ i ∧ i ≤ 1000000000) ∧ (-1000000000 ≤ j ∧ j ≤ 1000000000) then .ok (rangeD i (j - i).toNat) else .bad
  | _ => .bad
noncomputable def r2 (a : MA) : MI := fun ρ => (a ρ).bind rng2
noncomputable abbrev MG := D → Ev → Res Ev
noncomputable abbrev MGs := List D → Ev → Res Ev
noncomputable def gN (i : Nat) : MG := fun d ρ => .ok (ρ.set i (.im d))
noncomputable def gs0 : MGs := fun ds ρ => match ds with
  | [] => .ok ρ
  | _ => .bad
noncomputable def gs1 (g : MG) (r : MGs) : MGs := fun ds ρ => match ds with
  | d :: ds => (g d ρ).bind fun ρ' => r ds ρ'
  | [] => .bad
noncomputable def gU (n : Nat) (g : MGs) : MG := fun d ρ => (items d).bind fun xs => if xs.length = n then g xs ρ else .bad
noncomputable def imOf : Option Cl → Cl
  | some (.im d) => .im d
  | _ => .no
noncomputable def capD (ρ : Ev) : List Nat → Ev
  | [] => []
  | j :: r => imOf ρ[j]? :: capD ρ r
noncomputable def noA : Nat → Ev → Ev
  | 0, e => e
  | k + 1, e => .no :: noA k e
noncomputable def compGo (g : MG) (t : MB) (e : ME) (ρ0 : Ev) : List D → Res (List D)
  | [] => .ok []
  | x :: r => (g x ρ0).bind fun ρ1 => (t ρ1).bind fun b => if b = true then (e ρ1).bind fun y => (compGo g t e ρ0 r).bind fun ys => .ok (y :: ys) else compGo g t e ρ0 r
noncomputable def yes : MB := fun _ => .ok true
noncomputable def noEx {α : Type} : Res α → Res α
  | .ex _ => .bad
  | r => r
noncomputable def comp (it : MI) (own : Nat) (cap : List Nat) (g : MG) (t : MB) (e : ME) : ME := fun ρ => (it ρ).bind fun xs =>
  if xs.length ≤ LIM then (noEx (compGo g t e (noA own (capD ρ cap)) xs)).bind fun ys => .ok (.lst ys) else .bad
inductive Fl where
  | nx (ρ : Ev) | rt (d : D) | bk (ρ : Ev) | ct (ρ : Ev)
noncomputable abbrev MS := Ev → Res Fl
noncomputable def nop : MS := fun ρ => .ok (.nx ρ)
noncomputable def goOn (b : MS) : Fl → Res Fl
  | .nx ρ => b ρ
  | f => .ok f
noncomputable def sq (a b : MS) : MS := fun ρ => (a ρ).bind (goOn b)
noncomputable def st (i : Nat) (e : ME) : MS := fun ρ => (e ρ).bind fun d => .ok (.nx (ρ.set i (.im d)))
noncomputable def lstO : D → Res (List D)
  | .lst xs => .ok xs
  | _ => .bad
noncomputable def stO (i : Nat) (e : ME) : MS := fun ρ => (e ρ).bind fun d => (lstO d).bind fun xs => .ok (.nx (ρ.set i (.ow xs)))
noncomputable def getO : Option Cl → Res (List D)
  | some (.ow xs) => .ok xs
  | _ => .bad
noncomputable def frz (i : Nat) (m : MS) : MS := fun ρ => (getO ρ[i]?).bind fun xs => m (ρ.set i (.im (.lst xs)))
noncomputable def app (i : Nat) (e : ME) : MS := fun ρ => (getO ρ[i]?).bind fun xs => (e ρ).bind fun d => if xs.length < LIM then .ok (.nx (ρ.set i (.ow (xs ++ [d])))) else .bad
noncomputable def asg (g : MG) (e : ME) : MS := fun ρ => (e ρ).bind fun d => (g d ρ).bind fun ρ' => .ok (.nx ρ')
noncomputable def par (i j : Nat) (a b : ME) : MS := fun ρ => (a ρ).bind fun x => (b ρ).bind fun y => .ok (.nx ((ρ.set i (.im x)).set j (.im y)))
noncomputable def drp (e : ME) : MS := fun ρ => (e ρ).bind fun _ => .ok (.nx ρ)
noncomputable def ret (e : ME) : MS := fun ρ => (e ρ).bind fun d => .ok (.rt d)
noncomputable def retN : MS := fun _ => .ok (.rt .non)
noncomputable def ifs (t : MB) (a b : MS) : MS := fun ρ => (t ρ).bind fun x => if x = true then a ρ else b ρ
noncomputable def brk : MS := fun ρ => .ok (.bk ρ)
noncomputable def cnt : MS := fun ρ => .ok (.ct ρ)
noncomputable def rse (c : Str) (a : MA) : MS := fun ρ => (a ρ).bind fun _ => .ex c
noncomputable def endT (i : Nat) : Res Fl → Res Fl
  | .ok (.nx ρ) => .ok (.nx (ρ.set i .no))
  | .ok (.bk ρ) => .ok (.bk (ρ.set i .no))
  | .ok (.ct ρ) => .ok (.ct (ρ.set i .no))
  | .ok (.rt d) => .ok (.rt d)
  | _ => .bad
noncomputable def scalD : D → Res D
  | .non => .ok .non
  | .bl b => .ok (.bl b)
  | .int i => .ok (.int i)
  | .str x => .ok (.str x)
  | _ => .bad
noncomputable def pk (i : Nat) (m : ME) : ME := fun ρ => (getO ρ[i]?).bind fun xs => (m (ρ.set i (.im (.lst xs)))).bind scalD
noncomputable def pkB (i : Nat) (m : MB) : MB := fun ρ => (getO ρ[i]?).bind fun xs => m (ρ.set i (.im (.lst xs)))
noncomputable def turn (k : MS) : Fl → Res Fl
  | .nx ρ => k ρ
  | .ct ρ => k ρ
  | .bk ρ => .ok (.nx ρ)
  | .rt d => .ok (.rt d)
noncomputable def forGo (g : MG) (b : MS) : List D → MS
  | [], ρ => .ok (.nx ρ)
  | x :: r, ρ => (g x ρ).bind fun ρ1 => (b ρ1).bind (turn (forGo g b r))
noncomputable def for_ (it : MI) (g : MG) (b : MS) : MS := fun ρ => (it ρ).bind fun xs => forGo g b xs ρ
noncomputable def whGo (t : MB) (b : MS) : Nat → MS
  | 0, _ => .bad
  | n + 1, ρ => (t ρ).bind fun x => if x = true then (b ρ).bind (turn (whGo t b n)) else .ok (.nx ρ)
noncomputable def whl (n : Ev → Nat) (t : MB) (b : MS) : MS := fun ρ => whGo t b (n ρ) ρ
noncomputable def evF : List D → Nat → Ev
  | [], k => noA k []
  | d :: r, k => .im d :: evF r (k - 1)
noncomputable def ev0 (n : Nat) (ds : List D) : Ev := evF ds n
theorem noA_eq : ∀ (k : Nat) (e : Ev), noA k e = List.replicate k .no ++ e
  | 0, _ => rfl
  | k + 1, e => by rw [noA, noA_eq k e, List.replicate_succ, List.cons_append]
theorem capD_map (ρ : Ev) : ∀ cap : List Nat, capD ρ cap = cap.map fun j => imOf ρ[j]?
  | [] => rfl
  | j :: r => by rw [capD, capD_map ρ r, List.map_cons]
theorem ev0_eq : ∀ (ds : List D) (n : Nat), ev0 n ds = ds.map .im ++ List.replicate (n - ds.length) .no
  | [], n => by show noA n [] = _; rw [noA_eq]; simp
  | d :: r, n => by
    have ih := ev0_eq r (n - 1)
    show .im d :: ev0 (n - 1) r = _
    rw [ih, List.map_cons, List.cons_append, List.length_cons, Nat.sub_sub, Nat.add_comm 1]
noncomputable def endOf : Fl → Res D
  | .rt d => .ok d
  | .nx _ => .ok .non
  | _ => .bad
noncomputable def fn (n : Nat) (b : MS) (ds : List D) : Res D := (b (ev0 n ds)).bind endOf
noncomputable def fnO (n : Nat) (m : Ev → Res (List D)) (ds : List D) : Res D := (m (ev0 n ds)).bind fun xs => .ok (.lst xs)
end Dl

namespace L2.Ds
open PySem PySem.Spec PyProof.Rows Dl
mutual
inductive Rp (K : PySem.W.Frag) (mg : Str → Option Value) (H : Hp) : V → D → Prop
  | non : Rp K mg H .non .non
  | bl (b : Bool) : Rp K mg H (.bl b) (.bl b)
  | int (i : Int) : Rp K mg H (.int i) (.int i)
  | str (x : Str) : Rp K mg H (.str x) (.str x)
  | ty (n : String) : Rp K mg H (.ty n) (.ty n)
  | cls {c : Str} {C : Addr} (h : mg c = some (.ref C)) : Rp K mg H (.ref C) (.cls c)
  | tup {a : Addr} {xs : List V} {ds : List D} (h : SqT K H a xs) (r : Rps K mg H xs ds) : Rp K mg H (.ref a) (.tup ds)
  | lst {a : Addr} {xs : List V} {ds : List D} (h : SqL K H a xs) (r : Rps K mg H xs ds) : Rp K mg H (.ref a) (.lst ds)
  | exc {c : Str} {C a : Addr} (m : mg c = some (.ref C)) (h : H a = some (exO a (.ref C))) : Rp K mg H (.ref a) (.exc c)
  | ins {c : Str} {C a dx : Addr} {fs : List (Str × V)} {xs : List V} {vs : List D} (m : mg c = some (.ref C)) (h : H a = some (.ins C dx fs)) (o : H dx = some (.own a)) (e : fs.map (·.2) = xs) (r : Rps K mg H xs vs) : Rp K mg H (.ref a) (.ins c (fs.map (·.1)) vs)
inductive Rps (K : PySem.W.Frag) (mg : Str → Option Value) (H : Hp) : List V → List D → Prop
  | nil : Rps K mg H [] []
  | cons {x : V} {xs : List V} {d : D} {ds : List D} (h : Rp K mg H x d) (r : Rps K mg H xs ds) : Rps K mg H (x :: xs) (d :: ds)
end
section
variable {K : PySem.W.Frag} {mg : Str → Option Value} {H H' : Hp}
theorem seqT_same {a : Addr} {xs : List V} (e : Same H H') (h : SqT K H a xs) : SqT K H' a xs := by
  rcases h with (h | ⟨o, h⟩) | h
  · exact .inl (.inl (e _ _ h))
  · exact .inl (.inr ⟨o, e _ _ h⟩)
  · exact .inr h
mutual
theorem Rp.same (e : Same H H') : ∀ {x : V} {d : D}, Rp K mg H x d → Rp K mg H' x d
  | _, _, .non => .non
  | _, _, .bl b => .bl b
  | _, _, .int i => .int i
  | _, _, .str x => .str x
  | _, _, .ty n => .ty n
  | _, _, .cls h => .cls h
  | _, _, .tup h r => .tup (seqT_same e h) (Rps.same e r)
  | _, _, .lst h r => .lst (e.seq h) (Rps.same e r)
  | _, _, .exc m h => .exc m (e _ _ h)
  | _, _, .ins m h o q r => .ins m (e _ _ h) (e _ _ o) q (Rps.same e r)
theorem Rps.same (e : Same H H') : ∀ {xs : List V} {ds : List D}, Rps K mg H xs ds → Rps K mg H' xs ds
  | _, _, .nil => .nil
  | _, _, .cons h r => .cons (Rp.same e h) (Rps.same e r)
end
theorem Rps.length : ∀ {xs : List V} {ds : List D}, Rps K mg H xs ds → xs.length = ds.length
  | _, _, .nil => rfl
  | _, _, .cons _ r => congrArg (· + 1) (Rps.length r)
theorem Rps.get : ∀ {xs : List V} {ds : List D} {i : Nat} {d : D}, Rps K mg H xs ds → ds[i]? = some d → ∃ x, xs[i]? = some x ∧ Rp K mg H x d
  | _, _, _, _, .nil, e => by simp at e
  | _, _, 0, _, .cons h _, e => by simp at e; subst e; exact ⟨_, rfl, h⟩
  | _, _, i + 1, _, .cons _ r, e => by
    obtain ⟨x, h1, h2⟩ := Rps.get (i := i) r (by simpa using e)
    exact ⟨x, by simpa using h1, h2⟩
theorem Rps.app {ys : List V} {es : List D} (q : Rps K mg H ys es) : ∀ {xs : List V} {ds : List D}, Rps K mg H xs ds → Rps K mg H (xs ++ ys) (ds ++ es)
  | _, _, .nil => q
  | _, _, .cons h r => .cons h (Rps.app q r)
theorem Rps.rev : ∀ {xs : List V} {ds : List D}, Rps K mg H xs ds → Rps K mg H xs.reverse ds.reverse
  | _, _, .nil => .nil
  | _, _, .cons h r => by
    rw [List.reverse_cons, List.reverse_cons]
    exact Rps.app (.cons h .nil) (Rps.rev r)
theorem Rps.drop : ∀ {xs : List V} {ds : List D} (n : Nat), Rps K mg H xs ds → Rps K mg H (xs.drop n) (ds.drop n)
  | _, _, 0, r => r
  | _, _, _ + 1, .nil => .nil
  | _, _, n + 1, .cons _ r => Rps.drop n r
theorem Rps.take : ∀ {xs : List V} {ds : List D} (n : Nat), Rps K mg H xs ds → Rps K mg H (xs.take n) (ds.take n)
  | _, _, 0, _ => .nil
  | _, _, _ + 1, .nil => .nil
  | _, _, n + 1, .cons h r => .cons h (Rps.take n r)
theorem Rps.one : ∀ {xs : List V} {d : D}, Rps K mg H xs [d] → ∃ x, xs = [x] ∧ Rp K mg H x d
  | _, _, .cons h .nil => ⟨_, rfl, h⟩
end
structure Gr (F H F' H' : Hp) : Prop where
  f : Same F F'
  s : Same F' H'
  o : ∀ a o, F a = none → H a = some o → F' a = none ∧ H' a = some o
theorem Gr.refl {F H : Hp} (s : Same F H) : Gr F H F H := ⟨Same.refl _, s, fun _ _ h1 h2 => ⟨h1, h2⟩⟩
theorem Gr.trans {F H F1 H1 F2 H2 : Hp} (g : Gr F H F1 H1) (h : Gr F1 H1 F2 H2) : Gr F H F2 H2 := ⟨g.f.trans h.f, h.s, fun a o h1 h2 => let ⟨q1, q2⟩ := g.o a o h1 h2; h.o a o q1 q2⟩
theorem same_upd {F H : Hp} {p : Addr} {o : HO} (s : Same F H) : Same (upd F p o) (upd H p o) := fun b u e => by
  by_cases hb : b = p
  · subst hb; rw [upd_same] at e ⊢; exact e
  · rw [upd_ne hb] at e ⊢; exact s b u e
theorem Gr.new {F H : Hp} {p : Addr} (s : Same F H) (h : H p = none) (o : HO) : Gr F H (upd F p o) (upd H p o) :=
  ⟨same_new (s.free h) o, same_upd s, fun a u h1 h2 => by
    have ne : a ≠ p := ne_of_none h2 h
    rw [upd_ne ne, upd_ne ne]; exact ⟨h1, h2⟩⟩
theorem Gr.same {F H F' H' : Hp} (g : Gr F H F' H') (s : Same F H) : Same H H' := fun a o e => by
  cases q : F a with
  | none => exact (g.o a o q e).2
  | some u =>
    have e' := s a u q
    rw [e] at e'
    rw [g.s a u (g.f a u q), e']
structure Rep (K : PySem.W.Frag) (mg : Str → Option Value) (F0 H0 F H : Hp) (σ : St) (ρ : Ev) : Prop where
  g : Gr F0 H0 F H
  len : σ.length = ρ.length
  im : ∀ (i : Nat) (d : D), ρ[i]? = some (.im d) → ∃ x, σ[i]? = some (some x) ∧ Rp K mg F x d
  ow : ∀ (i : Nat) (ds : List D), ρ[i]? = some (.ow ds) → ∃ a xs, σ[i]? = some (some (.ref a)) ∧ H0 a = none ∧ F a = none ∧ H a = some (.lst xs) ∧ Rps K mg F xs ds
  ne : ∀ (i j : Nat) (ds es : List D) (a : Addr), ρ[i]? = some (.ow ds) → ρ[j]? = some (.ow es) → σ[i]? = some (some (.ref a)) → σ[j]? = some (some (.ref a)) → i = j
section
variable {K : PySem.W.Frag} {mg : Str → Option Value} {F0 H0 F H F' H' : Hp} {σ : St} {ρ : Ev}
theorem Rep.gr (r : Rep K mg F0 H0 F H σ ρ) (g : Gr F H F' H') : Rep K mg F0 H0 F' H' σ ρ := by
  refine ⟨r.g.trans g, r.len, fun i d e => ?_, fun i ds e => ?_, r.ne⟩
  · obtain ⟨x, h1, h2⟩ := r.im i d e
    exact ⟨x, h1, h2.same g.f⟩
  · obtain ⟨a, xs, h1, h2, h3, h4, h5⟩ := r.ow i ds e
    obtain ⟨q1, q2⟩ := g.o a _ h3 h4
    exact ⟨a, xs, h1, h2, q1, q2, h5.same g.f⟩
theorem set_get {α : Type} {l : List α} {i j : Nat} {x y : α} (h : (l.set i x)[j]? = some y) : (i = j ∧ y = x ∧ i < l.length) ∨ (i ≠ j ∧ l[j]? = some y) := by
  rw [List.getElem?_set] at h
  by_cases e : i = j
  · rw [if_pos e] at h
    split at h
    · exact .inl ⟨e, (Option.some.inj h).symm, by assumption⟩
    · cases h
  · rw [if_neg e] at h; exact .inr ⟨e, h⟩
theorem set_at {α : Type} {l : List α} {i : Nat} {x : α} (h : i < l.length) : (l.set i x)[i]? = some x := by
  rw [List.getElem?_set, if_pos rfl, if_pos h]
theorem set_off {α : Type} {l : List α} {i j : Nat} {x : α} (h : i ≠ j) : (l.set i x)[j]? = l[j]? := by
  rw [List.getElem?_set, if_neg h]
theorem Rep.set {x : V} {d : D} (r : Rep K mg F0 H0 F H σ ρ) (i : Nat) (h : Rp K mg F x d) : Rep K mg F0 H0 F H (σ.set i (some x)) (ρ.set i (.im d)) := by
  refine ⟨r.g, by rw [List.length_set, List.length_set]; exact r.len, fun j e q => ?_, fun j ds q => ?_, fun j k ds es a q1 q2 q3 q4 => ?_⟩
  · rcases set_get q with ⟨rfl, z, l⟩ | ⟨hij, q⟩
    · cases z
      exact ⟨x, set_at (by rw [r.len]; exact l), h⟩
    · rw [set_off hij]; exact r.im j e q
  · rcases set_get q with ⟨_, z, _⟩ | ⟨hij, q⟩
    · cases z
    · rw [set_off hij]; exact r.ow j ds q
  · rcases set_get q1 with ⟨_, z, _⟩ | ⟨h1, q1⟩
    · cases z
    · rcases set_get q2 with ⟨_, z, _⟩ | ⟨h2, q2⟩
      · cases z
      · rw [set_off h1] at q3
        rw [set_off h2] at q4
        exact r.ne j k ds es a q1 q2 q3 q4
theorem Rep.own {a : Addr} {xs : List V} {ds : List D} (r : Rep K mg F0 H0 F H σ ρ) (i : Nat) (hn : H a = none) (h : Rps K mg F xs ds) : Rep K mg F0 H0 F (upd H a (.lst xs)) (σ.set i (some (.ref a))) (ρ.set i (.ow ds)) := by
  have fa : F a = none := r.g.s.free hn
  have h0a : H0 a = none := by
    cases q : H0 a with
    | none => rfl
    | some o =>
      cases q2 : F0 a with
      | none => rw [(r.g.o a o q2 q).2] at hn; cases hn
      | some u => rw [r.g.f a u q2] at fa; cases fa
  have nea : ∀ {j : Nat} {es : List D} {b : Addr}, ρ[j]? = some (.ow es) → σ[j]? = some (some (.ref b)) → b ≠ a := fun {j es b} q1 q2 => by
    obtain ⟨b', xs', h1, _, _, h4, _⟩ := r.ow j es q1
    rw [q2] at h1; cases h1
    exact ne_of_none h4 hn
  refine ⟨⟨r.g.f, fun b o e => ?_, fun b o e1 e2 => ?_⟩, by rw [List.length_set, List.length_set]; exact r.len, fun j e q => ?_, fun j es q => ?_, fun j k es ts b q1 q2 q3 q4 => ?_⟩
  · rw [upd_ne (ne_of_none e fa)]; exact r.g.s b o e
  · rw [upd_ne (ne_of_none e2 h0a)]; exact r.g.o b o e1 e2
  · rcases set_get q with ⟨_, z, _⟩ | ⟨hij, q⟩
    · cases z
    · rw [set_off hij]; exact r.im j e q
  · rcases set_get q with ⟨rfl, z, l⟩ | ⟨hij, q⟩
    · cases z
      exact ⟨a, xs, set_at (by rw [r.len]; exact l), h0a, fa, upd_same, h⟩
    · rw [set_off hij]
      obtain ⟨b, ys, h1, h2, h3, h4, h5⟩ := r.ow j es q
      exact ⟨b, ys, h1, h2, h3, by rw [upd_ne (ne_of_none h4 hn)]; exact h4, h5⟩
  · rcases set_get q1 with ⟨rfl, _, l1⟩ | ⟨h1, q1⟩
    · rcases set_get q2 with ⟨rfl, _, _⟩ | ⟨h2, q2⟩
      · rfl
      · rw [set_at (by rw [r.len]; exact l1)] at q3
        rw [set_off h2] at q4
        cases q3
        exact absurd rfl (nea q2 q4)
    · rcases set_get q2 with ⟨rfl, _, l2⟩ | ⟨h2, q2⟩
      · rw [set_at (by rw [r.len]; exact l2)] at q4
        rw [set_off h1] at q3
        cases q4
        exact absurd rfl (nea q1 q3)
      · rw [set_off h1] at q3
        rw [set_off h2] at q4
        exact r.ne j k es ts b q1 q2 q3 q4
theorem Rep.app {i : Nat} {x : V} {d : D} {ds : List D} {a : Addr} {xs : List V} (r : Rep K mg F0 H0 F H σ ρ) (e : ρ[i]? = some (.ow ds)) (e2 : σ[i]? = some (some (.ref a))) (e3 : H a = some (.lst xs)) (e4 : H0 a = none) (e5 : F a = none) (hr : Rps K mg F xs ds) (h : Rp K mg F x d) :
    Rep K mg F0 H0 F (upd H a (.lst (xs ++ [x]))) σ (ρ.set i (.ow (ds ++ [d]))) := by
  have li : i < ρ.length := (List.getElem?_eq_some_iff.mp e).1
  refine ⟨⟨r.g.f, fun b o q => ?_, fun b o q1 q2 => ?_⟩, by rw [List.length_set]; exact r.len, fun j u q => ?_, fun j es q => ?_, fun j k es ts b q1 q2 q3 q4 => ?_⟩
  · rw [upd_ne (ne_of_none q e5)]; exact r.g.s b o q
  · rw [upd_ne (ne_of_none q2 e4)]; exact r.g.o b o q1 q2
  · rcases set_get q with ⟨_, z, _⟩ | ⟨_, q⟩
    · cases z
    · exact r.im j u q
  · rcases set_get q with ⟨rfl, z, l⟩ | ⟨hij, q⟩
    · cases z
      exact ⟨a, _, e2, e4, e5, upd_same, Rps.app (.cons h .nil) hr⟩
    · obtain ⟨b, ys, h1, h2, h3, h4, h5⟩ := r.ow j es q
      have nb : b ≠ a := by
        rintro rfl
        exact hij (r.ne i j ds es b e q e2 h1)
      exact ⟨b, ys, h1, h2, h3, by rw [upd_ne nb]; exact h4, h5⟩
  · have o1 : ∃ es', ρ[j]? = some (.ow es') := by
      rcases set_get q1 with ⟨rfl, _, _⟩ | ⟨_, q⟩
      · exact ⟨_, e⟩
      · exact ⟨_, q⟩
    have o2 : ∃ es', ρ[k]? = some (.ow es') := by
      rcases set_get q2 with ⟨rfl, _, _⟩ | ⟨_, q⟩
      · exact ⟨_, e⟩
      · exact ⟨_, q⟩
    obtain ⟨_, o1⟩ := o1
    obtain ⟨_, o2⟩ := o2
    exact r.ne j k _ _ b o1 o2 q3 q4
theorem Rep.frz {i : Nat} {ds : List D} (r : Rep K mg F0 H0 F H σ ρ) (e : ρ[i]? = some (.ow ds)) : ∃ F', Same F F' ∧ Rep K mg F0 H0 F' H σ (ρ.set i (.im (.lst ds))) := by
  obtain ⟨a, xs, e2, e4, e5, e3, hr⟩ := r.ow i ds e
  have sF : Same F (upd F a (.lst xs)) := same_new e5 _
  refine ⟨upd F a (.lst xs), sF, ⟨r.g.f.trans sF, fun b o q => ?_, fun b o q1 q2 => ?_⟩, by rw [List.length_set]; exact r.len, fun j u q => ?_, fun j es q => ?_, fun j k es ts b q1 q2 q3 q4 => ?_⟩
  · by_cases hb : b = a
    · subst hb; rw [upd_same] at q; cases q; exact e3
    · rw [upd_ne hb] at q; exact r.g.s b o q
  · rw [upd_ne (ne_of_none q2 e4)]; exact r.g.o b o q1 q2
  · rcases set_get q with ⟨rfl, z, _⟩ | ⟨_, q⟩
    · cases z
      exact ⟨.ref a, e2, .lst (SqL.of upd_same) (hr.same sF)⟩
    · obtain ⟨x, h1, h2⟩ := r.im j u q
      exact ⟨x, h1, h2.same sF⟩
  · rcases set_get q with ⟨_, z, _⟩ | ⟨hij, q⟩
    · cases z
    · obtain ⟨b, ys, h1, h2, h3, h4, h5⟩ := r.ow j es q
      have nb : b ≠ a := by
        rintro rfl
        exact hij (r.ne i j ds es b e q e2 h1)
      exact ⟨b, ys, h1, h2, by rw [upd_ne nb]; exact h3, h4, h5.same sF⟩
  · rcases set_get q1 with ⟨_, z, _⟩ | ⟨_, q1⟩
    · cases z
    · rcases set_get q2 with ⟨_, z, _⟩ | ⟨_, q2⟩
      · cases z
      · exact r.ne j k es ts b q1 q2 q3 q4
end
noncomputable def Ans {α β : Type} (mg : Str → Option Value) (E : XK) (R : Hp → β → α → Prop) (F H : Hp) (r : Res α) (w : (β → Hp → Prop) → Prop) : Prop :=
  match r with
  | .ok a => ∀ Q : β → Hp → Prop, (∀ F' H' b, Gr F H F' H' → R F' b a → Q b H') → w Q
  | .ex c => ∀ Q : β → Hp → Prop, (∀ F' H' C, Gr F H F' H' → mg c = some (.ref C) → E (.ref C) none H') → w Q
  | .bad => True
section
variable {α β γ δ : Type} {mg : Str → Option Value} {E : XK} {R : Hp → β → α → Prop} {R' : Hp → δ → γ → Prop} {F H : Hp}
theorem Ans.ret {a : α} {b : β} {w : (β → Hp → Prop) → Prop} (s : Same F H) (r : R F b a) (h : ∀ Q : β → Hp → Prop, Q b H → w Q) : Ans mg E R F H (.ok a) w := fun Q q => h Q (q F H b (.refl s) r)
theorem Ans.bindE {r : Res α} {w : (β → Hp → Prop) → Prop} {k : α → Res γ} {w' : β → Hp → (δ → Hp → Prop) → Prop} (h1 : Ans mg E R F H r w) (h2 : ∀ a, r = .ok a → ∀ F1 H1 b, Gr F H F1 H1 → R F1 b a → Ans mg E R' F1 H1 (k a) (w' b H1)) :
    Ans mg E R' F H (r.bind k) (fun Q => w fun b H1 => w' b H1 Q) := by
  cases r with
  | ok a =>
    show Ans mg E R' F H (k a) _
    have h2' := h2 a rfl
    generalize k a = r2 at h2'
    cases r2 with
    | ok d => exact fun Q q => h1 _ fun F1 H1 b g rb => h2' F1 H1 b g rb Q fun F2 H2 e g2 re => q F2 H2 e (g.trans g2) re
    | ex c => exact fun Q q => h1 _ fun F1 H1 b g rb => h2' F1 H1 b g rb Q fun F2 H2 C g2 hc => q F2 H2 C (g.trans g2) hc
    | bad => trivial
  | ex c => exact fun Q q => h1 _ q
  | bad => trivial
theorem Ans.bind {r : Res α} {w : (β → Hp → Prop) → Prop} {k : α → Res γ} {w' : β → Hp → (δ → Hp → Prop) → Prop} (h1 : Ans mg E R F H r w) (h2 : ∀ F1 H1 b a, Gr F H F1 H1 → R F1 b a → Ans mg E R' F1 H1 (k a) (w' b H1)) :
    Ans mg E R' F H (r.bind k) (fun Q => w fun b H1 => w' b H1 Q) := h1.bindE fun a _ F1 H1 b g q => h2 F1 H1 b a g q
end
end L2.Ds

namespace L2.Ds
open PySem PySem.Spec PyProof.Rows Dl
noncomputable def AnsS (K : PySem.W.Frag) (mg : Str → Option Value) (E : XK) (F0 H0 F : Hp) (r : Res Fl) (w : Ends → Prop) : Prop :=
  match r with
  | .ok (.nx ρ) => ∀ D : Ends, (∀ F' H' σ', Same F F' → Rep K mg F0 H0 F' H' σ' ρ → D.nx σ' H') → w D
  | .ok (.bk ρ) => ∀ D : Ends, (∀ F' H' σ', Same F F' → Rep K mg F0 H0 F' H' σ' ρ → D.bk σ' H') → w D
  | .ok (.ct ρ) => ∀ D : Ends, (∀ F' H' σ', Same F F' → Rep K mg F0 H0 F' H' σ' ρ → D.ct σ' H') → w D
  | .ok (.rt d) => ∀ D : Ends, (∀ F' H' x, Gr F0 H0 F' H' → Rp K mg F' x d → D.rt x H') → w D
  | .ex c => ∀ D : Ends, (∀ F' H' C, Gr F0 H0 F' H' → mg c = some (.ref C) → E (.ref C) none H') → w D
  | .bad => True
noncomputable abbrev RB : Hp → Bool → Bool → Prop := fun _ b b' => b = b'
noncomputable abbrev RO : Hp → Option Int → Option Int → Prop := fun _ b b' => b = b'
noncomputable def SE (K : PySem.W.Frag) (mg : Str → Option Value) (E : XK) (t : TE) (m : ME) : Prop := ∀ F0 H0 F H σ ρ, Rep K mg F0 H0 F H σ ρ → Ans mg E (Rp K mg) F H (m ρ) (t σ H)
noncomputable def STt (K : PySem.W.Frag) (mg : Str → Option Value) (E : XK) (t : TT) (m : MB) : Prop := ∀ F0 H0 F H σ ρ, Rep K mg F0 H0 F H σ ρ → Ans mg E RB F H (m ρ) (t σ H)
noncomputable def SA (K : PySem.W.Frag) (mg : Str → Option Value) (E : XK) (t : TA) (m : MA) : Prop := ∀ F0 H0 F H σ ρ, Rep K mg F0 H0 F H σ ρ → Ans mg E (Rps K mg) F H (m ρ) (t σ H)
noncomputable def SO (K : PySem.W.Frag) (mg : Str → Option Value) (E : XK) (t : TO) (m : Ev → Res (Option Int)) : Prop := ∀ F0 H0 F H σ ρ, Rep K mg F0 H0 F H σ ρ → Ans mg E RO F H (m ρ) (t σ H)
noncomputable def SS (K : PySem.W.Frag) (mg : Str → Option Value) (E : XK) (t : TS) (m : MS) : Prop := ∀ F0 H0 F H σ ρ, Rep K mg F0 H0 F H σ ρ → AnsS K mg E F0 H0 F (m ρ) (fun D => t D σ H)
noncomputable def AnsG (K : PySem.W.Frag) (mg : Str → Option Value) (F0 H0 F : Hp) (n : Nat) (σ : St) (r : Res Ev) (w : (St → Hp → Prop) → Prop) : Prop :=
  match r with
  | .ok ρ' => ∀ Q : St → Hp → Prop, (∀ F' H' σ', Same F F' → Rep K mg F0 H0 F' H' σ' ρ' → σ'.drop n = σ.drop n → Q σ' H') → w Q
  | _ => True
noncomputable def SG (K : PySem.W.Frag) (mg : Str → Option Value) (n : Nat) (t : TG) (g : MG) : Prop := ∀ F0 H0 F H σ ρ x d, Rep K mg F0 H0 F H σ ρ → Rp K mg F x d → AnsG K mg F0 H0 F n σ (g d ρ) (t x σ H)
noncomputable def SGs (K : PySem.W.Frag) (mg : Str → Option Value) (n : Nat) (t : TGs) (g : MGs) : Prop := ∀ F0 H0 F H σ ρ xs ds, Rep K mg F0 H0 F H σ ρ → Rps K mg F xs ds → AnsG K mg F0 H0 F n σ (g ds ρ) (t xs σ H)
noncomputable def ItOk (K : PySem.W.Frag) (mg : Str → Option Value) (F : Hp) (J : It) (ds : List D) : Prop := ∀ F' H', Same F F' → Same F' H' → ∀ i : Nat,
  (∀ d, ds[i]? = some d → J.go i H' ∧ ∀ x H'', J.yld i H' x H'' → ∃ F'', Gr F' H' F'' H'' ∧ Rp K mg F'' x d) ∧ (ds.length ≤ i → J.stop i H')
noncomputable def SI (K : PySem.W.Frag) (mg : Str → Option Value) (E : XK) (t : TI) (m : MI) : Prop := ∀ F0 H0 F H σ ρ, Rep K mg F0 H0 F H σ ρ → Ans mg E (ItOk K mg) F H (m ρ) (t σ H)
noncomputable def OpD (K : PySem.W.Frag) (mg : Str → Option Value) (r : R2) (f : D → D → Res D) : Prop := ∀ (E : XK) F H x y dx dy, Same F H → Rp K mg F x dx → Rp K mg F y dy → Ans mg E (Rp K mg) F H (f dx dy) (r x y H)
noncomputable def UnD (K : PySem.W.Frag) (mg : Str → Option Value) (r : V → Hp → VK → Prop) (f : D → Res D) : Prop := ∀ (E : XK) F H x dx, Same F H → Rp K mg F x dx → Ans mg E (Rp K mg) F H (f dx) (r x H)
noncomputable def CallD (K : PySem.W.Frag) (mg : Str → Option Value) (r : List V → Hp → VK → Prop) (f : List D → Res D) : Prop := ∀ (E : XK) F H xs ds, Same F H → Rps K mg F xs ds → Ans mg E (Rp K mg) F H (f ds) (r xs H)
section
variable {K : PySem.W.Frag} {mg : Str → Option Value} {E : XK} {ta tb tc : TE} {ma mb mc : ME} {sa sb : TT} {na nb : MB}
theorem Rep.ss {F0 H0 F H : Hp} {σ : St} {ρ : Ev} (r : Rep K mg F0 H0 F H σ ρ) : Same F H := r.g.s
theorem se_v (i : Nat) : SE K mg E (tVar i) (v i) := by
  intro F0 H0 F H σ ρ r
  unfold v getC
  split
  · next d h =>
    obtain ⟨x, h1, h2⟩ := r.im i d h
    exact .ret r.ss h2 fun Q q => ⟨x, h1, q⟩
  · trivial
theorem se_c {x : V} {d : D} (h : ∀ F, Rp K mg F x d) : SE K mg E (tC x) (c d) := fun _ _ F _ _ _ r => .ret r.ss (h F) fun _ q => q
theorem se_op {r : R2} {f : D → D → Res D} (hf : OpD K mg r f) (ha : SE K mg E ta ma) (hb : SE K mg E tb mb) : SE K mg E (tOp r ta tb) (o2 f ma mb) := by
  intro F0 H0 F H σ ρ rr
  refine (ha F0 H0 F H σ ρ rr).bind fun F1 H1 x dx g1 rx => ?_
  refine (hb F0 H0 F1 H1 σ ρ (rr.gr g1)).bind fun F2 H2 y dy g2 ry => ?_
  exact hf E F2 H2 x y dx dy g2.s (rx.same g2.f) ry
theorem se_un {r : V → Hp → VK → Prop} {f : D → Res D} (hf : UnD K mg r f) (ha : SE K mg E ta ma) : SE K mg E (tUn r ta) (o1 f ma) := by
  intro F0 H0 F H σ ρ rr
  exact (ha F0 H0 F H σ ρ rr).bind fun F1 H1 x dx g1 rx => hf E F1 H1 x dx g1.s rx
theorem sa_nil : SA K mg E tNil anil := fun _ _ _ _ _ _ r => .ret r.ss .nil fun _ q => q
theorem sa_cons {t : TA} {m : MA} (ha : SE K mg E ta ma) (hr : SA K mg E t m) : SA K mg E (tCons ta t) (acons ma m) := by
  intro F0 H0 F H σ ρ rr
  refine (ha F0 H0 F H σ ρ rr).bind fun F1 H1 x dx g1 rx => ?_
  refine (hr F0 H0 F1 H1 σ ρ (rr.gr g1)).bind fun F2 H2 xs ds g2 rs => ?_
  exact .ret g2.s (.cons (rx.same g2.f) rs) fun _ q => q
theorem se_cb {r : List V → Hp → VK → Prop} {f : List D → Res D} {t : TA} {m : MA} (hf : CallD K mg r f) (ha : SA K mg E t m) : SE K mg E (tCB r t) (on f m) := by
  intro F0 H0 F H σ ρ rr
  exact (ha F0 H0 F H σ ρ rr).bind fun F1 H1 x dx g1 rx => hf E F1 H1 x dx g1.s rx
theorem ans_new {α : Type} {R : Hp → V → α → Prop} {F H : Hp} {a : α} {o : HO} {w : VK → Prop} (s : Same F H) (hr : ∀ p, H p = none → R (upd F p o) (.ref p) a) (h : ∀ Q : VK, (∀ p, H p = none → Q (.ref p) (upd H p o)) → w Q) : Ans mg E R F H (.ok a) w :=
  fun Q q => h Q fun p hp => q (upd F p o) (upd H p o) (.ref p) (.new s hp o) (hr p hp)
noncomputable def SAn (n : Nat) (m : MA) : Prop := ∀ ρ ds, m ρ = .ok ds → ds.length = n
theorem san_nil : SAn 0 anil := fun ρ ds h => by cases h; rfl
theorem san_cons {n : Nat} {m : MA} (h : SAn n m) : SAn (n + 1) (acons ma m) := fun ρ ds e => by
  unfold acons at e
  cases ea : ma ρ with
  | ok x =>
    rw [ea] at e
    cases em : m ρ with
    | ok xs =>
      have e' : (m ρ).bind (fun xs => Res.ok (x :: xs)) = .ok ds := e
      rw [em] at e'
      have e2 : Res.ok (x :: xs) = .ok ds := e'
      cases e2
      exact congrArg (· + 1) (h ρ xs em)
    | ex c =>
      have e' : (m ρ).bind (fun xs => Res.ok (x :: xs)) = .ok ds := e
      rw [em] at e'; cases e'
    | bad =>
      have e' : (m ρ).bind (fun xs => Res.ok (x :: xs)) = .ok ds := e
      rw [em] at e'; cases e'
  | ex c => rw [ea] at e; cases e
  | bad => rw [ea] at e; cases e
theorem se_tup {t : TA} {m : MA} {n : Nat} (ha : SA K mg E t m) (hl : SAn n m) (hn : n ≤ sizeLine) : SE K mg E (tTup t) (mtp m) := by
  intro F0 H0 F H σ ρ rr
  have h := ha F0 H0 F H σ ρ rr
  unfold mtp
  cases e : m ρ with
  | ok ds =>
    rw [e] at h
    exact fun Q q => h _ fun F' H' xs g rs => ⟨by rw [rs.length, hl ρ ds e]; exact hn, fun p hp => q _ _ _ (g.trans (.new g.s hp _)) (.tup (SqT.of upd_same) (rs.same (same_new (g.s.free hp) _)))⟩
  | ex c =>
    rw [e] at h
    exact fun Q q => h _ q
  | bad => trivial
theorem se_lst {t : TA} {m : MA} {n : Nat} (ha : SA K mg E t m) (hl : SAn n m) (hn : n ≤ sizeLine) : SE K mg E (tLst t) (mls m) := by
  intro F0 H0 F H σ ρ rr
  have h := ha F0 H0 F H σ ρ rr
  unfold mls
  cases e : m ρ with
  | ok ds =>
    rw [e] at h
    exact fun Q q => h _ fun F' H' xs g rs => ⟨by rw [rs.length, hl ρ ds e]; exact hn, fun p hp => q _ _ _ (g.trans (.new g.s hp _)) (.lst (SqL.of upd_same) (rs.same (same_new (g.s.free hp) _)))⟩
  | ex c =>
    rw [e] at h
    exact fun Q q => h _ q
  | bad => trivial
theorem st_b (ha : SE K mg E ta ma) : STt K mg E (L2.tB ta) (trb ma) := by
  intro F0 H0 F H σ ρ rr
  refine (ha F0 H0 F H σ ρ rr).bind fun F1 H1 x dx g1 rx => ?_
  cases dx with
  | bl b => cases rx; exact .ret g1.s rfl fun Q q => ⟨b, rfl, q⟩
  | _ => trivial
theorem st_test (ha : SE K mg E ta ma) : STt K mg E (tTest ta) (trb ma) := st_b ha
theorem st_and (ha : STt K mg E sa na) (hb : STt K mg E sb nb) : STt K mg E (tAnd sa sb) (bAnd na nb) := by
  intro F0 H0 F H σ ρ rr
  refine (ha F0 H0 F H σ ρ rr).bind fun F1 H1 x dx g1 rx => ?_
  cases (show x = dx from rx)
  cases x with
  | true =>
    have z := hb F0 H0 F1 H1 σ ρ (rr.gr g1)
    simp only [if_true]; exact z
  | false =>
    simp only [Bool.false_eq_true, if_false]
    exact Ans.ret (R := RB) g1.s rfl fun Q q => q
theorem st_or (ha : STt K mg E sa na) (hb : STt K mg E sb nb) : STt K mg E (tOr sa sb) (bOr na nb) := by
  intro F0 H0 F H σ ρ rr
  refine (ha F0 H0 F H σ ρ rr).bind fun F1 H1 x dx g1 rx => ?_
  cases (show x = dx from rx)
  cases x with
  | true =>
    simp only [if_true]
    exact Ans.ret (R := RB) g1.s rfl fun Q q => q
  | false =>
    have z := hb F0 H0 F1 H1 σ ρ (rr.gr g1)
    simp only [Bool.false_eq_true, if_false]; exact z
theorem se_and (ha : SE K mg E ta ma) (hb : SE K mg E tb mb) : SE K mg E (tAndV ta tb) (eAnd ma mb) := by
  intro F0 H0 F H σ ρ rr
  have z := (st_b ha F0 H0 F H σ ρ rr).bind (R' := Rp K mg) (k := fun x => if x = true then mb ρ else .ok (D.bl false)) (w' := fun c H1 Q => if c = true then tb σ H1 Q else Q (V.bl false) H1) fun F1 H1 x dx g1 rx => by
    cases (show x = dx from rx)
    cases x with
    | true =>
      have z := hb F0 H0 F1 H1 σ ρ (rr.gr g1)
      simp only [if_true]; exact z
    | false =>
      simp only [Bool.false_eq_true, if_false]
      exact Ans.ret (R := Rp K mg) g1.s (.bl false) fun Q q => q
  exact z
theorem se_ife (hc : STt K mg E sa na) (ha : SE K mg E ta ma) (hb : SE K mg E tb mb) : SE K mg E (tIf sa ta tb) (ife na ma mb) := by
  intro F0 H0 F H σ ρ rr
  refine (hc F0 H0 F H σ ρ rr).bind fun F1 H1 x dx g1 rx => ?_
  cases (show x = dx from rx)
  cases x with
  | true =>
    have z := ha F0 H0 F1 H1 σ ρ (rr.gr g1)
    simp only [if_true]; exact z
  | false =>
    have z := hb F0 H0 F1 H1 σ ρ (rr.gr g1)
    simp only [Bool.false_eq_true, if_false]; exact z
theorem se_chain {r r' : R2} {f g : D → D → Res D} (hf : OpD K mg r f) (hg : OpD K mg r' g) (ha : SE K mg E ta ma) (hb : SE K mg E tb mb) (hc : SE K mg E tc mc) : SE K mg E (tChain r r' ta tb tc) (chain f g ma mb mc) := by
  intro F0 H0 F H σ ρ rr
  refine (ha F0 H0 F H σ ρ rr).bind fun F1 H1 x dx g1 rx => ?_
  refine (hb F0 H0 F1 H1 σ ρ (rr.gr g1)).bind fun F2 H2 y dy g2 ry => ?_
  refine (hf E F2 H2 x y dx dy g2.s (rx.same g2.f) ry).bind fun F3 H3 z dz g3 rz => ?_
  cases dz with
  | bl b =>
    cases rz
    show Ans mg E (Rp K mg) F3 H3 (if b = true then (mc ρ).bind fun u => g dy u else .ok (.bl false)) _
    cases b with
    | true =>
      rw [if_pos rfl]
      have w := (hc F0 H0 F3 H3 σ ρ ((rr.gr g1).gr (g2.trans g3))).bind (k := fun u => g dy u) (w' := fun u H1 Q => r' y u H1 Q) fun F4 H4 u du g4 ru => hg E F4 H4 y u dy du g4.s (ry.same (g3.f.trans g4.f)) ru
      generalize ((mc ρ).bind fun u => g dy u) = res at w
      cases res with
      | ok d => exact fun Q q => ⟨true, rfl, by simp only [if_true]; exact w Q q⟩
      | ex c => exact fun Q q => ⟨true, rfl, by simp only [if_true]; exact w Q q⟩
      | bad => trivial
    | false =>
      rw [if_neg Bool.false_ne_true]
      exact .ret g3.s (.bl false) fun Q q => ⟨false, rfl, by simp only [Bool.false_eq_true, if_false]; exact q⟩
  | _ => trivial
end
end L2.Ds

namespace L2.Ds
open PySem PySem.Spec PyProof.Rows Dl
section
variable {K : PySem.W.Frag} {mg : Str → Option Value} {E : XK}
theorem opD_ii {r : R2} {f : Int → Int → Res D} (h : ∀ (E : XK) F H a b, Same F H → Ans mg E (Rp K mg) F H (f a b) (r (.int a) (.int b) H)) : OpD K mg r (ii f) := by
  intro E F H x y dx dy s rx ry
  unfold ii
  split
  · cases rx; cases ry; exact h E F H _ _ s
  · trivial
theorem opD_I {C : Int → Int → Prop} {g : Int → Int → V} {f : Int → Int → Res D} (h : ∀ a b, (∃ d, f a b = .ok d ∧ C a b ∧ ∀ F, Rp K mg F (g a b) d) ∨ f a b = .bad) : OpD K mg (rI C g) (ii f) := by
  refine opD_ii fun E F H a b s => ?_
  rcases h a b with ⟨d, e, hc, hr⟩ | e
  · rw [e]; exact .ret s (hr F) fun Q q => ⟨a, b, rfl, rfl, hc, q⟩
  · rw [e]; trivial
theorem opD_I0 {g : Int → Int → V} {f : Int → Int → Res D} (h : ∀ a b, (∃ d, f a b = .ok d ∧ ∀ F, Rp K mg F (g a b) d) ∨ f a b = .bad) : OpD K mg (rI0 g) (ii f) := by
  refine opD_ii fun E F H a b s => ?_
  rcases h a b with ⟨d, e, hr⟩ | e
  · rw [e]; exact .ret s (hr F) fun Q q => ⟨a, b, rfl, rfl, q⟩
  · rw [e]; trivial
theorem opD_sub : OpD K mg (rI0 fun i j => .int (i - j)) dSub := opD_I0 fun _ _ => .inl ⟨_, rfl, fun _ => .int _⟩
theorem opD_lt : OpD K mg (rI0 fun i j => .bl (decide (i < j))) dLt := opD_I0 fun _ _ => .inl ⟨_, rfl, fun _ => .bl _⟩
theorem opD_le : OpD K mg (rI0 fun i j => .bl (decide (i ≤ j))) dLe := opD_I0 fun _ _ => .inl ⟨_, rfl, fun _ => .bl _⟩
theorem opD_gt : OpD K mg (rI0 fun i j => .bl (decide (j < i))) dGt := opD_I0 fun _ _ => .inl ⟨_, rfl, fun _ => .bl _⟩
theorem opD_ge : OpD K mg (rI0 fun i j => .bl (decide (j ≤ i))) dGe := opD_I0 fun _ _ => .inl ⟨_, rfl, fun _ => .bl _⟩
theorem opD_mod : OpD K mg (rI (fun _ j => j ≠ 0) fun i j => .int (i.fmod j)) dMod := opD_I fun a b => by
  unfold iMod
  by_cases h1 : 0 < b
  · rw [if_pos h1]
    exact .inl ⟨_, rfl, by omega, fun _ => by rw [Int.fmod_eq_emod_of_nonneg a (by omega)]; exact .int _⟩
  · rw [if_neg h1]
    by_cases h2 : b = 0
    · rw [if_pos h2]; exact .inr rfl
    · rw [if_neg h2]; exact .inl ⟨_, rfl, h2, fun _ => .int _⟩
theorem opD_div : OpD K mg (rI CDivG fun i j => .int (i.fdiv j)) dDiv := opD_I fun a b => by
  unfold iDiv
  by_cases h0 : b.natAbs.log2 < 9000
  · rw [if_pos h0]
    by_cases h1 : 0 < b
    · rw [if_pos h1]
      exact .inl ⟨_, rfl, ⟨by omega, h0⟩, fun _ => by rw [Int.fdiv_eq_ediv_of_nonneg a (by omega)]; exact .int _⟩
    · rw [if_neg h1]
      by_cases h2 : b = 0
      · rw [if_pos h2]; exact .inr rfl
      · rw [if_neg h2]; exact .inl ⟨_, rfl, ⟨h2, h0⟩, fun _ => .int _⟩
  · rw [if_neg h0]; exact .inr rfl
theorem opD_pow : OpD K mg (rI CPow fun i j => .int (i ^ j.toNat)) dPow := opD_I fun a b => by
  unfold iPow
  by_cases h : 0 ≤ b ∧ b ≤ 1000000 ∧ a.natAbs < 2 ^ 64
  · rw [if_pos h]; exact .inl ⟨_, rfl, h, fun _ => .int _⟩
  · rw [if_neg h]; exact .inr rfl
theorem opD_shl : OpD K mg (rI CPow fun i j => .int (i * 2 ^ j.toNat)) dShl := opD_I fun a b => by
  unfold iShl
  by_cases h : 0 ≤ b ∧ b ≤ 1000000 ∧ a.natAbs < 2 ^ 64
  · rw [if_pos h]; exact .inl ⟨_, rfl, h, fun _ => .int _⟩
  · rw [if_neg h]; exact .inr rfl
theorem opD_shr : OpD K mg (rI (fun _ j => 0 ≤ j) fun i j => .int (i / 2 ^ j.toNat)) dShr := opD_I fun a b => by
  unfold iShr
  by_cases h : 0 ≤ b
  · rw [if_pos h]; exact .inl ⟨_, rfl, h, fun _ => .int _⟩
  · rw [if_neg h]; exact .inr rfl
theorem unD_neg {r : V → Hp → VK → Prop} (h : ∀ i H Q, Q (.int (-i)) H → r (.int i) H Q) : UnD K mg r dNeg := by
  intro E F H x dx s rx
  unfold dNeg
  split
  · cases rx; exact .ret s (.int _) fun Q q => h _ _ _ q
  · trivial
noncomputable def rCatL (K : PySem.W.Frag) : R2 := fun x y H Q => ∃ l b xs zs, x = .ref l ∧ y = .ref b ∧ SqL K H l xs ∧ SqL K H b zs ∧ xs.length + zs.length ≤ sizeLine ∧ ∀ p, H p = none → Q (.ref p) (upd H p (.lst (xs ++ zs)))
noncomputable def rCatU (K : PySem.W.Frag) : R2 := fun x y H Q => ∃ a b xs ys, x = .ref a ∧ y = .ref b ∧ SqT K H a xs ∧ SqT K H b ys ∧ xs.length + ys.length ≤ sizeLine ∧
  (xs = [] → Q (.ref b) H) ∧ (xs ≠ [] → ys = [] → Q (.ref a) H) ∧ (xs ≠ [] → ys ≠ [] → ∀ p, H p = none → Q (.ref p) (upd H p (.tup (xs ++ ys))))
noncomputable def rAddS : R2 := fun x y H Q => ∃ i j : Str, x = .str i ∧ y = .str j ∧ i.length + j.length ≤ sizeLine ∧ Q (.str (i ++ j)) H
noncomputable def rAddD (K : PySem.W.Frag) : R2 := fun x y H Q => rI0 (fun i j => .int (i + j)) x y H Q ∨ rCatL K x y H Q ∨ rCatU K x y H Q ∨ rAddS x y H Q
theorem lim_le {n : Nat} (h : n ≤ LIM) : n ≤ sizeLine := Nat.le_trans h (by decide)
theorem opD_add : OpD K mg (rAddD K) dAdd := by
  intro E F H x y dx dy s rx ry
  unfold dAdd
  split
  · cases rx; cases ry
    exact .ret s (.int _) fun Q q => .inl ⟨_, _, rfl, rfl, q⟩
  · next as bs =>
    by_cases h : as.length + bs.length ≤ LIM
    · rw [if_pos h]
      cases rx with
      | lst ha ra =>
        cases ry with
        | lst hb rb =>
          refine ans_new s (o := .lst _) (fun p hp => .lst (SqL.of upd_same) ((Rps.app rb ra).same (same_new (s.free hp) _))) fun Q q => .inr (.inl ⟨_, _, _, _, rfl, rfl, s.seq ha, s.seq hb, ?_, q⟩)
          rw [ra.length, rb.length]; exact lim_le h
    · rw [if_neg h]; trivial
  · next as bs =>
    by_cases h : as.length + bs.length ≤ LIM
    · rw [if_pos h]
      cases rx with
      | tup ha ra =>
        cases ry with
        | tup hb rb =>
          rename_i a xs b ys
          have hl : xs.length + ys.length ≤ sizeLine := by rw [ra.length, rb.length]; exact lim_le h
          intro Q q
          refine .inr (.inr (.inl ⟨a, b, xs, ys, rfl, rfl, seqT_same s ha, seqT_same s hb, hl, fun e => ?_, fun _ e => ?_, fun _ _ p hp => ?_⟩))
          · subst e
            cases ra
            exact q F H _ (.refl s) (.tup hb rb)
          · subst e
            cases rb
            rw [List.append_nil] at q
            exact q F H _ (.refl s) (.tup ha ra)
          · exact q _ _ _ (.new s hp _) (.tup (SqT.of upd_same) ((Rps.app rb ra).same (same_new (s.free hp) _)))
    · rw [if_neg h]; trivial
  · next a b =>
    by_cases h : a.length + b.length ≤ LIM
    · rw [if_pos h]
      cases rx; cases ry
      exact .ret s (.str _) fun Q q => .inr (.inr (.inr ⟨_, _, rfl, rfl, lim_le h, q⟩))
    · rw [if_neg h]; trivial
  · trivial
theorem at_atI {F : Hp} {xs : List V} {ds : List D} {i : Int} {d : D} (r : Rps K mg F xs ds) (h : at_ ds i = some d) : ∃ x, atI xs i = some x ∧ Rp K mg F x d := by
  have hl := r.length
  unfold at_ at h
  unfold atI ixN
  by_cases h0 : 0 ≤ i
  · rw [if_pos h0] at h
    obtain ⟨x, e, rx⟩ := r.get h
    have lt : i.toNat < xs.length := (List.getElem?_eq_some_iff.mp e).1
    exact ⟨x, by rw [if_pos h0, if_pos (by omega)]; exact e, rx⟩
  · rw [if_neg h0] at h
    by_cases h1 : -(ds.length : Int) ≤ i
    · rw [if_pos h1] at h
      obtain ⟨x, e, rx⟩ := r.get h
      exact ⟨x, by rw [if_neg h0, if_pos (by omega), hl]; exact e, rx⟩
    · rw [if_neg h1] at h; cases h
noncomputable def rIxD (K : PySem.W.Frag) : R2 := fun x y H Q => rIxL K x y H Q ∨ rIxT K x y H Q
theorem opD_ix : OpD K mg (rIxD K) dIx := by
  intro E F H x y dx dy s rx ry
  unfold dIx
  split
  · next ds i =>
    cases e : at_ ds i with
    | none => trivial
    | some d =>
      cases rx with
      | lst ha ra =>
        cases ry
        obtain ⟨z, e1, rz⟩ := at_atI ra e
        exact Ans.ret s rz fun Q q => .inl ⟨_, _, _, _, rfl, rfl, s.seq ha, e1, q⟩
  · next ds i =>
    cases e : at_ ds i with
    | none => trivial
    | some d =>
      cases rx with
      | tup ha ra =>
        cases ry
        obtain ⟨z, e1, rz⟩ := at_atI ra e
        exact Ans.ret s rz fun Q q => .inr ⟨_, _, _, _, rfl, rfl, seqT_same s ha, e1, q⟩
  · trivial
theorem cutAt_eq (n d : Nat) (o : Option Int) : cutAt n d o = HT.sIx n d o := by cases o <;> rfl
theorem cut_rps {F : Hp} {xs : List V} {ds : List D} (r : Rps K mg F xs ds) (lo hi : Option Int) : Rps K mg F (cutV xs lo hi) (cutL ds lo hi) := by
  unfold cutV cutL
  simp only [cutAt_eq, r.length]
  exact (r.drop _).take _
noncomputable def rSlU (K : PySem.W.Frag) : V → Option Int → Option Int → Hp → VK → Prop := fun x lo hi H Q => ∃ a xs, x = .ref a ∧ SqT K H a xs ∧
  ((HT.sIx xs.length 0 lo = 0 ∧ HT.sIx xs.length xs.length hi = xs.length) → Q (.ref a) H) ∧ (¬ (HT.sIx xs.length 0 lo = 0 ∧ HT.sIx xs.length xs.length hi = xs.length) → ∀ p, H p = none → Q (.ref p) (upd H p (.tup (cutV xs lo hi))))
noncomputable def rSlD (K : PySem.W.Frag) : V → Option Int → Option Int → Hp → VK → Prop := fun x lo hi H Q => rSlL K x lo hi H Q ∨ rSlU K x lo hi H Q
theorem se_cut {ta : TE} {ma : ME} {tl th : TO} {ml mh : Ev → Res (Option Int)} (ha : SE K mg E ta ma) (hl : SO K mg E tl ml) (hh : SO K mg E th mh) : SE K mg E (tSl (rSlD K) ta tl th) (cut ma ml mh) := by
  intro F0 H0 F H σ ρ rr
  refine (ha F0 H0 F H σ ρ rr).bind fun F1 H1 x dx g1 rx => ?_
  refine (hl F0 H0 F1 H1 σ ρ (rr.gr g1)).bind fun F2 H2 l l' g2 e2 => ?_
  cases (show l = l' from e2)
  refine (hh F0 H0 F2 H2 σ ρ ((rr.gr g1).gr g2)).bind fun F3 H3 h h' g3 e3 => ?_
  cases (show h = h' from e3)
  have rx' := rx.same (g2.f.trans g3.f)
  unfold dCut
  split
  · cases rx' with
    | lst hx r =>
      refine ans_new g3.s (o := .lst _) (fun p hp => .lst (SqL.of upd_same) ((cut_rps r l h).same (same_new (g3.s.free hp) _))) fun Q q => .inl ⟨_, _, rfl, g3.s.seq hx, q⟩
  · cases rx' with
    | tup hx r =>
      rename_i ds a xs
      intro Q q
      refine .inr ⟨a, xs, rfl, seqT_same g3.s hx, fun e => ?_, fun _ p hp => q _ _ _ (.new g3.s hp _) (.tup (SqT.of upd_same) ((cut_rps r l h).same (same_new (g3.s.free hp) _)))⟩
      have ec : cutL ds l h = ds := by
        unfold cutL
        simp only [cutAt_eq, ← r.length, e.1, e.2]
        rw [List.drop_zero, Nat.sub_zero, r.length, List.take_length]
      rw [ec] at q
      exact q F3 H3 _ (.refl g3.s) (.tup hx r)
  · trivial
theorem so_none : SO K mg E tNoPart pno := fun _ _ _ _ _ _ r => Ans.ret (R := RO) r.ss rfl fun _ q => q
theorem so_some {ta : TE} {ma : ME} (ha : SE K mg E ta ma) : SO K mg E (tPart ta) (pso ma) := by
  intro F0 H0 F H σ ρ rr
  refine (ha F0 H0 F H σ ρ rr).bind fun F1 H1 x dx g1 rx => ?_
  cases dx with
  | int i => cases rx; exact Ans.ret (R := RO) g1.s rfl fun Q q => ⟨i, rfl, q⟩
  | _ => trivial
theorem callD_len : CallD K mg (fun xs H Q => ∃ p ys, xs = [.ref p] ∧ (SqL K H p ys ∨ SqT K H p ys) ∧ Q (.int ys.length) H) bLen := by
  intro E F H xs ds s r
  unfold bLen
  split
  · obtain ⟨x, rfl, rx⟩ := r.one
    cases rx with
    | lst h q => rw [← q.length]; exact .ret s (.int _) fun Q q => ⟨_, _, rfl, .inl (s.seq h), q⟩
  · obtain ⟨x, rfl, rx⟩ := r.one
    cases rx with
    | tup h q => rw [← q.length]; exact .ret s (.int _) fun Q q => ⟨_, _, rfl, .inr (seqT_same s h), q⟩
  · trivial
theorem callD_int : CallD K mg (fun xs H Q => (∃ i, xs = [.int i] ∧ Q (.int i) H) ∨ ∃ k, xs = [.bl k] ∧ Q (.int (if k then 1 else 0)) H) bInt := by
  intro E F H xs ds s r
  unfold bInt
  split
  · obtain ⟨x, rfl, rx⟩ := r.one
    cases rx
    exact .ret s (.int _) fun Q q => .inl ⟨_, rfl, q⟩
  · obtain ⟨x, rfl, rx⟩ := r.one
    cases rx
    exact .ret s (.int _) fun Q q => .inr ⟨_, rfl, q⟩
  · trivial
theorem callD_tuple : CallD K mg (fun xs H Q => ∃ p ys, xs = [.ref p] ∧ ((SqL K H p ys ∧ ∀ l, H l = none → Q (.ref l) (upd H l (.tup ys))) ∨ (SqT K H p ys ∧ Q (.ref p) H))) bTup := by
  intro E F H xs ds s r
  unfold bTup
  split
  · obtain ⟨x, rfl, rx⟩ := r.one
    cases rx with
    | lst h q => exact ans_new s (o := .tup _) (fun p hp => .tup (SqT.of upd_same) (q.same (same_new (s.free hp) _))) fun Q z => ⟨_, _, rfl, .inl ⟨s.seq h, z⟩⟩
  · obtain ⟨x, rfl, rx⟩ := r.one
    cases rx with
    | tup h q => exact .ret s (.tup h q) fun Q z => ⟨_, _, rfl, .inr ⟨seqT_same s h, z⟩⟩
  · trivial
noncomputable def spD (K : PySem.W.Frag) (mg : Str → Option Value) (n : Nat) (m : List D → Res D) : Sp := fun vs H Q E => vs.length = n ∧ ∃ F ds, Same F H ∧ Rps K mg F vs ds ∧ m ds ≠ .bad ∧
  (∀ d, m ds = .ok d → ∀ F' H' x, Gr F H F' H' → Rp K mg F' x d → Q x H') ∧ (∀ c, m ds = .ex c → ∀ F' H' C, Gr F H F' H' → mg c = some (.ref C) → E (.ref C) none H')
theorem ans_call {n : Nat} {m : List D → Res D} {F H : Hp} {vs : List V} {ds : List D} (s : Same F H) (r : Rps K mg F vs ds) (hl : ds.length = n) : Ans mg E (Rp K mg) F H (m ds) (fun Q => spD K mg n m vs H Q E) := by
  have hv : vs.length = n := r.length.trans hl
  cases e : m ds with
  | ok d =>
    intro Q q
    refine ⟨hv, F, ds, s, r, fun z => ?_, fun d' e' => ?_, fun c e' => ?_⟩
    · rw [e] at z; cases z
    · rw [e] at e'; cases e'; exact q
    · rw [e] at e'; cases e'
  | ex c =>
    intro Q q
    refine ⟨hv, F, ds, s, r, fun z => ?_, fun d' e' => ?_, fun c e' => ?_⟩
    · rw [e] at z; cases z
    · rw [e] at e'; cases e'
    · rw [e] at e'; cases e'; exact q
  | bad => trivial
theorem se_call {n : Nat} {m : List D → Res D} {t : TA} {ma : MA} (ha : SA K mg E t ma) (hl : SAn n ma) : SE K mg E (tCall (spD K mg n m) [] E t) (on m ma) := by
  intro F0 H0 F H σ ρ rr
  refine (ha F0 H0 F H σ ρ rr).bindE (w' := fun vs H1 Q => spD K mg n m (vs ++ []) H1 Q E) fun ds e F1 H1 vs g1 rs => ?_
  have z := ans_call (E := E) (m := m) g1.s rs (hl ρ ds e)
  simp only [List.append_nil]
  exact z
end
end L2.Ds

namespace L2.Ds
open PySem PySem.Spec PyProof.Rows Dl
section
variable {K : PySem.W.Frag} {mg : Str → Option Value} {E : XK} {ta : TE} {ma : ME} {F0 H0 F H : Hp}
theorem AnsS.mono {F1 : Hp} {r : Res Fl} {w : Ends → Prop} (s : Same F F1) (h : AnsS K mg E F0 H0 F1 r w) : AnsS K mg E F0 H0 F r w := by
  cases r with
  | ok f =>
    cases f with
    | nx ρ => exact fun D q => h D fun F' H' σ' s' r' => q F' H' σ' (s.trans s') r'
    | bk ρ => exact fun D q => h D fun F' H' σ' s' r' => q F' H' σ' (s.trans s') r'
    | ct ρ => exact fun D q => h D fun F' H' σ' s' r' => q F' H' σ' (s.trans s') r'
    | rt d => exact h
  | ex c => exact h
  | bad => trivial
theorem Ans.stm {α β : Type} {R : Hp → β → α → Prop} {r : Res α} {w : (β → Hp → Prop) → Prop} {k : α → Res Fl} {w' : β → Hp → Ends → Prop} (h1 : Ans mg E R F H r w) (g0 : Gr F0 H0 F H) (h2 : ∀ a, r = .ok a → ∀ F1 H1 b, Gr F H F1 H1 → R F1 b a → AnsS K mg E F0 H0 F1 (k a) (w' b H1)) :
    AnsS K mg E F0 H0 F (r.bind k) (fun D => w fun b H1 => w' b H1 D) := by
  cases r with
  | ok a =>
    show AnsS K mg E F0 H0 F (k a) _
    have h2' := fun F1 H1 b (g : Gr F H F1 H1) q => (h2 a rfl F1 H1 b g q).mono g.f
    generalize k a = r2 at h2'
    cases r2 with
    | ok f =>
      cases f with
      | nx ρ => exact fun D q => h1 _ fun F1 H1 b g rb => h2' F1 H1 b g rb D q
      | bk ρ => exact fun D q => h1 _ fun F1 H1 b g rb => h2' F1 H1 b g rb D q
      | ct ρ => exact fun D q => h1 _ fun F1 H1 b g rb => h2' F1 H1 b g rb D q
      | rt d => exact fun D q => h1 _ fun F1 H1 b g rb => h2' F1 H1 b g rb D q
    | ex c => exact fun D q => h1 _ fun F1 H1 b g rb => h2' F1 H1 b g rb D q
    | bad => trivial
  | ex c => exact fun D q => h1 _ fun F1 H1 C g hc => q F1 H1 C (g0.trans g) hc
  | bad => trivial
theorem ss_nop : SS K mg E tNext nop := fun _ _ _ _ _ _ r D q => q _ _ _ (Same.refl _) r
theorem ss_seq {t u : TS} {m n : MS} (h1 : SS K mg E t m) (h2 : SS K mg E u n) : SS K mg E (tSeq t u) (sq m n) := by
  intro F0 H0 F H σ ρ rr
  have h := h1 F0 H0 F H σ ρ rr
  unfold sq
  cases e : m ρ with
  | ok f =>
    rw [e] at h
    cases f with
    | nx ρ' =>
      show AnsS K mg E F0 H0 F (n ρ') _
      have h2' := fun F1 H1 σ1 (s : Same F F1) r1 => (h2 F0 H0 F1 H1 σ1 ρ' r1).mono s
      generalize n ρ' = r2 at h2'
      cases r2 with
      | ok f =>
        cases f with
        | nx ρ => exact fun D q => h _ fun F1 H1 σ1 s r1 => h2' F1 H1 σ1 s r1 D q
        | bk ρ => exact fun D q => h _ fun F1 H1 σ1 s r1 => h2' F1 H1 σ1 s r1 D q
        | ct ρ => exact fun D q => h _ fun F1 H1 σ1 s r1 => h2' F1 H1 σ1 s r1 D q
        | rt d => exact fun D q => h _ fun F1 H1 σ1 s r1 => h2' F1 H1 σ1 s r1 D q
      | ex c => exact fun D q => h _ fun F1 H1 σ1 s r1 => h2' F1 H1 σ1 s r1 D q
      | bad => trivial
    | bk ρ' => exact fun D q => h _ q
    | ct ρ' => exact fun D q => h _ q
    | rt d => exact fun D q => h _ q
  | ex c => rw [e] at h; exact fun D q => h _ q
  | bad => trivial
theorem ss_drop (ha : SE K mg E ta ma) : SS K mg E (tDrop ta) (drp ma) := by
  intro F0 H0 F H σ ρ rr
  exact (ha F0 H0 F H σ ρ rr).stm (w' := fun _ H1 D => D.nx σ H1) rr.g fun d _ F1 H1 x g1 rx => fun D q => q F1 H1 σ (Same.refl _) (rr.gr g1)
theorem ss_ret (ha : SE K mg E ta ma) : SS K mg E (tRet ta) (ret ma) := by
  intro F0 H0 F H σ ρ rr
  exact (ha F0 H0 F H σ ρ rr).stm (w' := fun x H1 D => D.rt x H1) rr.g fun d _ F1 H1 x g1 rx => fun D q => q F1 H1 x (rr.g.trans g1) rx
theorem ss_if {sc : TT} {nc : MB} {t u : TS} {m n : MS} (hc : STt K mg E sc nc) (h1 : SS K mg E t m) (h2 : SS K mg E u n) : SS K mg E (tIfS sc t u) (ifs nc m n) := by
  intro F0 H0 F H σ ρ rr
  refine (hc F0 H0 F H σ ρ rr).stm (w' := fun b H1 D => if b = true then t D σ H1 else u D σ H1) rr.g fun b _ F1 H1 x g1 rx => ?_
  cases (show x = b from rx)
  cases b with
  | true =>
    have z := h1 F0 H0 F1 H1 σ ρ (rr.gr g1)
    simp only [if_true]; exact z
  | false =>
    have z := h2 F0 H0 F1 H1 σ ρ (rr.gr g1)
    simp only [Bool.false_eq_true, if_false]; exact z
theorem drop_set_lt {α : Type} {l : List α} {i n : Nat} {x : α} (h : i < n) : (l.set i x).drop n = l.drop n := by
  rw [List.drop_set, if_pos h]
theorem sg_name {i n : Nat} (h : i < n) : SG K mg n (gName i) (gN i) := fun _ _ _ _ _ _ _ _ r rx _ q => q _ _ _ (Same.refl _) (r.set i rx) (drop_set_lt h)
theorem sgs_nil {n : Nat} : SGs K mg n gNil gs0 := by
  intro F0 H0 F H σ ρ xs ds r rs
  unfold gs0
  split
  · cases rs
    exact fun Q q => ⟨rfl, q _ _ _ (Same.refl _) r rfl⟩
  · trivial
theorem sgs_cons {n : Nat} {t : TG} {u : TGs} {g : MG} {gs : MGs} (h1 : SG K mg n t g) (h2 : SGs K mg n u gs) : SGs K mg n (gCons t u) (gs1 g gs) := by
  intro F0 H0 F H σ ρ xs ds r rs
  unfold gs1
  cases rs with
  | nil => trivial
  | cons rx rs =>
    rename_i x xs d ds
    have h := h1 F0 H0 F H σ ρ x d r rx
    show AnsG K mg F0 H0 F n σ ((g d ρ).bind fun ρ' => gs ds ρ') _
    cases e : g d ρ with
    | ok ρ' =>
      rw [e] at h
      show AnsG K mg F0 H0 F n σ (gs ds ρ') _
      cases e2 : gs ds ρ' with
      | ok ρ'' =>
        refine fun Q q => ⟨x, xs, rfl, h _ fun F1 H1 σ1 s1 r1 d1 => ?_⟩
        have h' := h2 F0 H0 F1 H1 σ1 ρ' xs ds r1 (rs.same s1)
        rw [e2] at h'
        exact h' _ fun F2 H2 σ2 s2 r2 d2 => q F2 H2 σ2 (s1.trans s2) r2 (d2.trans d1)
      | ex c => trivial
      | bad => trivial
    | ex c => trivial
    | bad => trivial
noncomputable def gLst (K : PySem.W.Frag) (n : Nat) (t : TGs) : TG := fun v σ H Q => ∃ a xs, v = .ref a ∧ SqL K H a xs ∧ xs.length = n ∧ t xs σ H Q
noncomputable def gSeq (K : PySem.W.Frag) (n : Nat) (t : TGs) : TG := fun v σ H Q => gTup K n t v σ H Q ∨ gLst K n t v σ H Q
theorem sg_seq {n k : Nat} {t : TGs} {g : MGs} (h : SGs K mg n t g) : SG K mg n (gSeq K k t) (gU k g) := by
  intro F0 H0 F H σ ρ x d r rx
  unfold gU items
  split
  · next ds =>
    show AnsG K mg F0 H0 F n σ (if ds.length = k then g ds ρ else .bad) _
    by_cases hl : ds.length = k
    · rw [if_pos hl]
      cases rx with
      | lst ha ra =>
        have h' := h F0 H0 F H σ ρ _ _ r ra
        cases e : g ds ρ with
        | ok ρ' =>
          rw [e] at h'
          exact fun Q q => .inr ⟨_, _, rfl, r.ss.seq ha, ra.length.trans hl, h' Q q⟩
        | ex c => trivial
        | bad => trivial
    · rw [if_neg hl]; trivial
  · next ds =>
    show AnsG K mg F0 H0 F n σ (if ds.length = k then g ds ρ else .bad) _
    by_cases hl : ds.length = k
    · rw [if_pos hl]
      cases rx with
      | tup ha ra =>
        have h' := h F0 H0 F H σ ρ _ _ r ra
        cases e : g ds ρ with
        | ok ρ' =>
          rw [e] at h'
          exact fun Q q => .inl ⟨_, _, rfl, seqT_same r.ss ha, ra.length.trans hl, h' Q q⟩
        | ex c => trivial
        | bad => trivial
    · rw [if_neg hl]; trivial
  · trivial
theorem ss_asg {n : Nat} {t : TG} {g : MG} (ha : SE K mg E ta ma) (hg : SG K mg n t g) (hx : ∀ d ρ c, g d ρ ≠ .ex c) : SS K mg E (tAsg ta t) (asg g ma) := by
  intro F0 H0 F H σ ρ rr
  refine (ha F0 H0 F H σ ρ rr).stm (w' := fun x H1 D => t x σ H1 D.nx) rr.g fun d _ F1 H1 x g1 rx => ?_
  have h := hg F0 H0 F1 H1 σ ρ x d (rr.gr g1) rx
  cases e : g d ρ with
  | ok ρ' =>
    rw [e] at h
    exact fun D q => h _ fun F' H' σ' s r' _ => q F' H' σ' s r'
  | ex c => exact absurd e (hx d ρ c)
  | bad => trivial
theorem ss_set {i : Nat} (ha : SE K mg E ta ma) : SS K mg E (tAsg ta (gName i)) (st i ma) := by
  intro F0 H0 F H σ ρ rr
  exact (ha F0 H0 F H σ ρ rr).stm (w' := fun x H1 D => D.nx (σ.set i (some x)) H1) rr.g fun d _ F1 H1 x g1 rx => fun D q => q F1 H1 _ (Same.refl _) ((rr.gr g1).set i rx)
theorem ss_frz {i : Nat} {t : TS} {m : MS} (h : SS K mg E t m) : SS K mg E t (frz i m) := by
  intro F0 H0 F H σ ρ rr
  unfold frz getO
  split
  · next xs e =>
    show AnsS K mg E F0 H0 F (m (ρ.set i (.im (.lst xs)))) _
    obtain ⟨F', s, r'⟩ := rr.frz e
    exact (h F0 H0 F' H σ _ r').mono s
  · trivial
theorem ss_app {i : Nat} (ha : SE K mg E ta ma) (hty : ∀ H a xs, H a = some (.lst xs) → tyV K "list" (.ref a) H) : SS K mg E (tDrop (tBM K "list" rAppend (tVar i) (tCons ta tNil))) (app i ma) := by
  intro F0 H0 F H σ ρ rr
  unfold app getO
  split
  · next ds e =>
    show AnsS K mg E F0 H0 F ((ma ρ).bind fun d => if ds.length < LIM then .ok (.nx (ρ.set i (.ow (ds ++ [d])))) else .bad) _
    obtain ⟨a, xs, e2, e4, e5, e3, hr⟩ := rr.ow i ds e
    have hl : xs.length = ds.length := hr.length
    have h := (ha F0 H0 F H σ ρ rr).stm (K := K) (k := fun d => if ds.length < LIM then .ok (.nx (ρ.set i (.ow (ds ++ [d])))) else .bad) (w' := fun x H2 D => rAppend (.ref a) [x] H2 fun _ H3 => D.nx σ H3) rr.g fun d _ F1 H1 x g1 rx => ?_
    · generalize ((ma ρ).bind fun d => if ds.length < LIM then Res.ok (Fl.nx (ρ.set i (.ow (ds ++ [d])))) else .bad) = res at h
      have fin : ∀ D : Ends, (ta σ H fun x H2 => rAppend (.ref a) [x] H2 fun _ H3 => D.nx σ H3) → tDrop (tBM K "list" rAppend (tVar i) (tCons ta tNil)) D σ H := fun D z => ⟨.ref a, e2, hty H a xs e3, z⟩
      cases res with
      | ok f =>
        cases f with
        | nx ρ => exact fun D q => fin D (h D q)
        | bk ρ => exact fun D q => fin D (h D q)
        | ct ρ => exact fun D q => fin D (h D q)
        | rt d => exact fun D q => fin D (h D q)
      | ex c => exact fun D q => fin D (h D q)
      | bad => trivial
    · by_cases hlim : ds.length < LIM
      · simp only [hlim, if_true]
        have r1 := rr.gr g1
        obtain ⟨q1, q2⟩ := g1.o a _ e5 e3
        exact fun D q => ⟨a, xs, x, rfl, rfl, q2, by rw [hl]; exact Nat.lt_of_lt_of_le hlim (by decide), q F1 _ σ (Same.refl _) (r1.app e e2 q2 e4 q1 (hr.same g1.f) rx)⟩
      · simp only [hlim, if_false]; trivial
  · trivial
noncomputable def iSeq (K : PySem.W.Frag) (tl : TE) : TI := fun σ H R => tl σ H fun x H1 => ∃ a, x = .ref a ∧ (((∃ xs, SqL K H1 a xs) ∧ R (Itl K a) H1) ∨ ((∃ xs, SqT K H1 a xs) ∧ R (Itt K a) H1))
theorem itl_ok {a : Addr} {xs : List V} {ds : List D} (h : SqL K F a xs) (r : Rps K mg F xs ds) : ItOk K mg F (Itl K a) ds := by
  intro F' H' s1 s2 i
  have hq : SqL K H' a xs := (s1.trans s2).seq h
  refine ⟨fun d e => ?_, fun hl => ⟨xs, hq, by rw [r.length]; exact hl⟩⟩
  obtain ⟨x, e1, rx⟩ := r.get e
  refine ⟨⟨xs, x, hq, e1⟩, fun y H'' q => ?_⟩
  obtain ⟨rfl, q⟩ := q
  have e2 := q xs hq
  rw [e1] at e2; cases e2
  exact ⟨F', .refl s2, rx.same s1⟩
theorem itt_ok {a : Addr} {xs : List V} {ds : List D} (h : SqT K F a xs) (r : Rps K mg F xs ds) : ItOk K mg F (Itt K a) ds := by
  intro F' H' s1 s2 i
  have hq : SqT K H' a xs := seqT_same (s1.trans s2) h
  refine ⟨fun d e => ?_, fun hl => ⟨xs, hq, by rw [r.length]; exact hl⟩⟩
  obtain ⟨x, e1, rx⟩ := r.get e
  refine ⟨⟨xs, x, hq, e1⟩, fun y H'' q => ?_⟩
  obtain ⟨rfl, q⟩ := q
  have e2 := q xs hq
  rw [e1] at e2; cases e2
  exact ⟨F', .refl s2, rx.same s1⟩
theorem itr_ok (lo : Int) (n : Nat) : ItOk K mg F (Itr lo n) (rangeD lo n) := by
  intro F' H' s1 s2 i
  unfold rangeD
  refine ⟨fun d e => ?_, fun hl => ?_⟩
  · rw [List.getElem?_map] at e
    have hi : i < n := by
      rcases Nat.lt_or_ge i n with z | z
      · exact z
      · rw [List.getElem?_eq_none (by rw [List.length_range]; exact z)] at e; cases e
    rw [List.getElem?_range hi] at e
    cases e
    refine ⟨hi, fun y H'' q => ?_⟩
    obtain ⟨rfl, rfl⟩ := q
    exact ⟨F', .refl s2, .int _⟩
  · rw [List.length_map, List.length_range] at hl
    exact hl
theorem si_seq (ha : SE K mg E ta ma) : SI K mg E (iSeq K ta) (iv ma) := by
  intro F0 H0 F H σ ρ rr
  refine (ha F0 H0 F H σ ρ rr).bind fun F1 H1 x dx g1 rx => ?_
  cases dx with
  | lst ds =>
    cases rx with
    | lst h r => exact Ans.ret (R := ItOk K mg) g1.s (itl_ok h r) fun Q q => ⟨_, rfl, .inl ⟨⟨_, g1.s.seq h⟩, q⟩⟩
  | tup ds =>
    cases rx with
    | tup h r => exact Ans.ret (R := ItOk K mg) g1.s (itt_ok h r) fun Q q => ⟨_, rfl, .inr ⟨⟨_, seqT_same g1.s h⟩, q⟩⟩
  | _ => trivial
theorem si_r1 {t : TA} {m : MA} (ha : SA K mg E t m) : SI K mg E (iRng1 t) (r1 m) := by
  intro F0 H0 F H σ ρ rr
  refine (ha F0 H0 F H σ ρ rr).bind fun F1 H1 xs ds g1 rs => ?_
  unfold rng1
  split
  · next j =>
    by_cases h : -1000000000 ≤ j ∧ j ≤ 1000000000
    · rw [if_pos h]
      obtain ⟨x, rfl, rx⟩ := rs.one
      cases rx
      exact Ans.ret (R := ItOk K mg) g1.s (itr_ok 0 _) fun Q q => ⟨j, rfl, by omega, by omega, q⟩
    · rw [if_neg h]; trivial
  · trivial
theorem AnsS.of_eq {r r' : Res Fl} {w : Ends → Prop} (e : r = r') (h : AnsS K mg E F0 H0 F r w) : AnsS K mg E F0 H0 F r' w := e ▸ h
theorem ss_for {wi : TI} {mi : MI} {n : Nat} {t : TG} {g : MG} {u : TS} {m : MS} (hi : SI K mg E wi mi) (hg : SG K mg n t g) (hx : ∀ d ρ c, g d ρ ≠ .ex c) (hb : SS K mg E u m) : SS K mg E (tFor wi t u) (for_ mi g m) := by
  intro F0 H0 F H σ ρ rr
  refine (hi F0 H0 F H σ ρ rr).stm (w' := fun J H1 D => ∃ W : Nat → Nat → St → Hp → Prop, (∃ m, W 0 m σ H1) ∧ ∀ i m σ H, W i m σ H →
    (J.stop i H ∧ D.nx σ H) ∨ (J.go i H ∧ ∃ N : St → Hp → Prop, (∀ σ' H', N σ' H' → ∃ m', m' < m ∧ W (i + 1) m' σ' H') ∧ ∀ x H', J.yld i H x H' → t x σ H' fun σ2 H2 => u { D with nx := N, ct := N, bk := D.nx } σ2 H2)) rr.g fun ds _ F1 H1 J g1 jo => ?_
  have r1 := rr.gr g1
  -- for each wanted end: the loop by its rest
  have key : ∀ (D : Ends) (res : Res Fl), res ≠ .bad → (∀ ρ', res = .ok (.nx ρ') → ∀ F' H' σ', Same F1 F' → Rep K mg F0 H0 F' H' σ' ρ' → D.nx σ' H') → (∀ ρ', res = .ok (.bk ρ') → ∀ F' H' σ', Same F1 F' → Rep K mg F0 H0 F' H' σ' ρ' → D.bk σ' H') →
      (∀ ρ', res = .ok (.ct ρ') → ∀ F' H' σ', Same F1 F' → Rep K mg F0 H0 F' H' σ' ρ' → D.ct σ' H') → (∀ d, res = .ok (.rt d) → ∀ F' H' x, Gr F0 H0 F' H' → Rp K mg F' x d → D.rt x H') →
      (∀ c, res = .ex c → ∀ F' H' C, Gr F0 H0 F' H' → mg c = some (.ref C) → E (.ref C) none H') → forGo g m ds ρ = res →
      ∃ W : Nat → Nat → St → Hp → Prop, (∃ m, W 0 m σ H1) ∧ ∀ i m σ H, W i m σ H →
        (J.stop i H ∧ D.nx σ H) ∨ (J.go i H ∧ ∃ N : St → Hp → Prop, (∀ σ' H', N σ' H' → ∃ m', m' < m ∧ W (i + 1) m' σ' H') ∧ ∀ x H', J.yld i H x H' → t x σ H' fun σ2 H2 => u { D with nx := N, ct := N, bk := D.nx } σ2 H2) := by
    intro D res hbad qn qb qc qr qe e0
    refine ⟨fun i k σ' H' => k = ds.length - i ∧ i ≤ ds.length ∧ ∃ ρ' F', Same F1 F' ∧ Rep K mg F0 H0 F' H' σ' ρ' ∧ forGo g m (ds.drop i) ρ' = res, ⟨ds.length, by simp, Nat.zero_le _, ρ, F1, Same.refl _, r1, e0⟩, ?_⟩
    rintro i k σ' H' ⟨rfl, hi', ρ', F', s1, r', e⟩
    by_cases hlt : i < ds.length
    · refine .inr ?_
      have hd : ds[i]? = some ds[i] := List.getElem?_eq_getElem hlt
      obtain ⟨go, yl⟩ := (jo F' H' s1 r'.ss i).1 _ hd
      rw [List.drop_eq_getElem_cons hlt] at e
      refine ⟨go, fun σ2 H2 => ∃ ρ2 F2, Same F1 F2 ∧ Rep K mg F0 H0 F2 H2 σ2 ρ2 ∧ forGo g m (ds.drop (i + 1)) ρ2 = res, fun σ2 H2 ⟨ρ2, F2, s2, r2, e2⟩ => ⟨ds.length - (i + 1), by omega, rfl, hlt, ρ2, F2, s2, r2, e2⟩, fun x H2 y => ?_⟩
      obtain ⟨F2, g2, rx⟩ := yl x H2 y
      have r2 := r'.gr g2
      have hG := hg F0 H0 F2 H2 σ' ρ' x _ r2 rx
      have e' : (g ds[i] ρ').bind (fun ρ1 => (m ρ1).bind (turn (forGo g m (ds.drop (i + 1))))) = res := e
      cases eg : g ds[i] ρ' with
      | ok ρ1 =>
        rw [eg] at e' hG
        refine hG _ fun F3 H3 σ3 s3 r3 _ => ?_
        have hB := hb F0 H0 F3 H3 σ3 ρ1 r3
        have sF : Same F1 F3 := s1.trans (g2.f.trans s3)
        have e2 : (m ρ1).bind (turn (forGo g m (ds.drop (i + 1)))) = res := e'
        cases em : m ρ1 with
        | ok f =>
          rw [em] at e2 hB
          cases f with
          | nx ρ2 => exact hB _ fun F4 H4 σ4 s4 r4 => ⟨ρ2, F4, sF.trans s4, r4, e2⟩
          | ct ρ2 => exact hB _ fun F4 H4 σ4 s4 r4 => ⟨ρ2, F4, sF.trans s4, r4, e2⟩
          | bk ρ2 => exact hB _ fun F4 H4 σ4 s4 r4 => qn ρ2 e2.symm F4 H4 σ4 (sF.trans s4) r4
          | rt d => exact hB _ fun F4 H4 y g4 ry => qr d e2.symm F4 H4 y g4 ry
        | ex c =>
          rw [em] at e2 hB
          exact hB _ fun F4 H4 C g4 hc => qe c e2.symm F4 H4 C g4 hc
        | bad => rw [em] at e2; exact absurd e2.symm hbad
      | ex c => exact absurd eg (hx _ _ c)
      | bad => rw [eg] at e'; exact absurd e'.symm hbad
    · have hi2 : i = ds.length := by omega
      subst hi2
      rw [List.drop_eq_nil_of_le (Nat.le_refl _)] at e
      exact .inl ⟨(jo F' H' s1 r'.ss _).2 (Nat.le_refl _), qn ρ' e.symm F' H' σ' s1 r'⟩
  cases e : forGo g m ds ρ with
  | ok f =>
    cases f with
    | nx ρ2 => exact fun D q => key D _ (fun z => by cases z) (fun _ z => by cases z; exact q) (fun _ z => by cases z) (fun _ z => by cases z) (fun _ z => by cases z) (fun _ z => by cases z) e
    | bk ρ2 => exact fun D q => key D _ (fun z => by cases z) (fun _ z => by cases z) (fun _ z => by cases z; exact q) (fun _ z => by cases z) (fun _ z => by cases z) (fun _ z => by cases z) e
    | ct ρ2 => exact fun D q => key D _ (fun z => by cases z) (fun _ z => by cases z) (fun _ z => by cases z) (fun _ z => by cases z; exact q) (fun _ z => by cases z) (fun _ z => by cases z) e
    | rt d => exact fun D q => key D _ (fun z => by cases z) (fun _ z => by cases z) (fun _ z => by cases z) (fun _ z => by cases z) (fun _ z => by cases z; exact q) (fun _ z => by cases z) e
  | ex c => exact fun D q => key D _ (fun z => by cases z) (fun _ z => by cases z) (fun _ z => by cases z) (fun _ z => by cases z) (fun _ z => by cases z) (fun _ z => by cases z; exact q) e
  | bad => trivial
end
end L2.Ds

namespace L2.Ds
open PySem PySem.Spec PyProof.Rows Dl
section
variable {K : PySem.W.Frag} {mg : Str → Option Value} {E : XK} {F0 H0 F H : Hp} {σ : St} {ρ : Ev}
theorem Rep.inner {own : List Str} {cap : List (Str × Nat)} {Fb Hb : Hp} (r : Rep K mg F0 H0 F H σ ρ) (gb : Gr Fb Hb F H) : Rep K mg Fb Hb F H (st0 own σ cap) (noA own.length (capD ρ (cap.map (·.2)))) := by
  have key : ∀ (i : Nat) (cl : Cl), (noA own.length (capD ρ (cap.map (·.2))))[i]? = some cl → cl = .no ∨ ∃ j p d, i = own.length + j ∧ cap[j]? = some p ∧ ρ[p.2]? = some (.im d) ∧ cl = .im d := by
    intro i cl e
    rw [noA_eq, capD_map] at e
    by_cases hi : i < own.length
    · rw [List.getElem?_append_left (by simpa using hi), List.getElem?_replicate, if_pos hi] at e
      cases e
      exact .inl rfl
    · rw [List.getElem?_append_right (by simpa using hi), List.length_replicate] at e
      rw [List.map_map, List.getElem?_map] at e
      cases q : cap[i - own.length]? with
      | none => rw [q] at e; cases e
      | some p =>
        rw [q] at e
        have e' : imOf ρ[p.2]? = cl := Option.some.inj e
        unfold imOf at e'
        split at e'
        · next d h => exact .inr ⟨i - own.length, p, d, by omega, q, h, e'.symm⟩
        · exact .inl e'.symm
  refine ⟨gb, ?_, fun i d e => ?_, fun i ds e => ?_, fun i j ds es a e => ?_⟩
  · rw [noA_eq, capD_map]
    unfold st0 capt
    simp
  · rcases key i _ e with z | ⟨j, p, d', rfl, hp, hρ, z⟩
    · cases z
    · cases z
      obtain ⟨x, hx, rx⟩ := r.im p.2 d hρ
      refine ⟨x, ?_, rx⟩
      unfold st0 capt
      rw [List.getElem?_append_right (by simp), List.length_replicate, Nat.add_sub_cancel_left, List.getElem?_map, hp]
      show some ((σ[p.2]?).join) = _
      rw [hx]; rfl
  · rcases key i _ e with z | ⟨j, p, d', rfl, hp, hρ, z⟩ <;> cases z
  · rcases key i _ e with z | ⟨j, p, d', rfl, hp, hρ, z⟩ <;> cases z
theorem st_drop {own : List Str} {cap : List (Str × Nat)} : (st0 own σ cap).drop own.length = capt σ cap := by
  unfold st0
  rw [List.drop_append_of_le_length (by simp), List.drop_of_length_le (by simp)]
  rfl
theorem comp_ok {t : TG} {g : MG} {tt : TT} {nt : MB} {te : TE} {me : ME} {own : List Str} {cap : List (Str × Nat)} {J : It} {ds ys : List D} (r : Rep K mg F0 H0 F H σ ρ) (jo : ItOk K mg F J ds) (hg : SG K mg own.length t g) (ht : STt K mg E0 tt nt) (he : SE K mg E0 te me)
    (hl : ds.length ≤ LIM) (e0 : Dl.compGo g nt me (noA own.length (capD ρ (cap.map (·.2)))) ds = .ok ys) (Q : VK) (q : ∀ F' H' xs, Gr F H F' H' → Rps K mg F' xs ys → xs.length ≤ sizeLine → ∀ p, H' p = none → Q (.ref p) (upd H' p (.lst xs))) :
    compGoT J t tt te own cap σ Q H := by
  refine ⟨fun i k acc H' => k = ds.length - i ∧ i ≤ ds.length ∧ acc.length ≤ i ∧ ∃ F' zs rs, Gr F H F' H' ∧ Rps K mg F' acc zs ∧ Dl.compGo g nt me (noA own.length (capD ρ (cap.map (·.2)))) (ds.drop i) = .ok rs ∧ zs ++ rs = ys,
    ⟨ds.length, by simp, Nat.zero_le _, Nat.le_refl _, F, [], ys, .refl r.ss, .nil, e0, rfl⟩, ?_⟩
  rintro i k acc H' ⟨rfl, hi, ha, F', zs, rs, g1, r1, e1, e2⟩
  have la : acc.length ≤ LIM := Nat.le_trans ha (Nat.le_trans hi hl)
  refine ⟨lim_le la, ?_⟩
  by_cases hlt : i < ds.length
  · refine .inr ?_
    have hd : ds[i]? = some ds[i] := List.getElem?_eq_getElem hlt
    obtain ⟨go, yl⟩ := (jo F' H' g1.f g1.s i).1 _ hd
    rw [List.drop_eq_getElem_cons hlt] at e1
    refine ⟨go, fun x H2 y => ?_⟩
    obtain ⟨F2, g2, rx⟩ := yl x H2 y
    have rr := (r.gr (g1.trans g2)).inner (own := own) (cap := cap) (g1.trans g2)
    have hG := hg F H F2 H2 _ _ x _ rr rx
    have e' : (g ds[i] (noA own.length (capD ρ (cap.map (·.2))))).bind (fun ρ1 => (nt ρ1).bind fun b => if b = true then (me ρ1).bind fun y => (Dl.compGo g nt me (noA own.length (capD ρ (cap.map (·.2)))) (ds.drop (i + 1))).bind fun ys => .ok (y :: ys) else Dl.compGo g nt me (noA own.length (capD ρ (cap.map (·.2)))) (ds.drop (i + 1))) = .ok rs := e1
    cases eg : g ds[i] (noA own.length (capD ρ (cap.map (·.2)))) with
    | ok ρ1 =>
      rw [eg] at e' hG
      refine hG _ fun F3 H3 σ3 s3 r3 d3 => ⟨d3.trans st_drop, ?_⟩
      have hT := ht F H F3 H3 σ3 ρ1 r3
      have sF : Same F' F3 := g2.f.trans s3
      have e3 : (nt ρ1).bind (fun b => if b = true then (me ρ1).bind fun y => (Dl.compGo g nt me (noA own.length (capD ρ (cap.map (·.2)))) (ds.drop (i + 1))).bind fun ys => .ok (y :: ys) else Dl.compGo g nt me (noA own.length (capD ρ (cap.map (·.2)))) (ds.drop (i + 1))) = .ok rs := e'
      cases et : nt ρ1 with
      | ok b =>
        rw [et] at e3 hT
        refine hT _ fun F4 H4 b' g4 eb => ?_
        cases (show b' = b from eb)
        cases b with
        | true =>
          rw [if_pos rfl]
          have e4 : (me ρ1).bind (fun y => (Dl.compGo g nt me (noA own.length (capD ρ (cap.map (·.2)))) (ds.drop (i + 1))).bind fun ys => .ok (y :: ys)) = .ok rs := e3
          have hE := he F H F4 H4 σ3 ρ1 (r3.gr g4)
          cases em : me ρ1 with
          | ok y' =>
            rw [em] at e4 hE
            refine hE _ fun F5 H5 u g5 ru => ⟨Nat.lt_of_le_of_lt la (by decide), ds.length - (i + 1), by omega, rfl, hlt, by rw [List.length_append]; show acc.length + 1 ≤ i + 1; omega, ?_⟩
            have e5 : (Dl.compGo g nt me (noA own.length (capD ρ (cap.map (·.2)))) (ds.drop (i + 1))).bind (fun ys => .ok (y' :: ys)) = .ok rs := e4
            cases ec : Dl.compGo g nt me (noA own.length (capD ρ (cap.map (·.2)))) (ds.drop (i + 1)) with
            | ok rs' =>
              rw [ec] at e5
              have e6 : Res.ok (y' :: rs') = .ok rs := e5
              cases e6
              exact ⟨F5, zs ++ [y'], rs', r3.g.trans (g4.trans g5), Rps.app (.cons ru .nil) (r1.same (sF.trans (g4.f.trans g5.f))), rfl, by rw [List.append_assoc]; exact e2⟩
            | ex c => rw [ec] at e5; cases e5
            | bad => rw [ec] at e5; cases e5
          | ex c => rw [em] at e4; cases e4
          | bad => rw [em] at e4; cases e4
        | false =>
          rw [if_neg Bool.false_ne_true]
          have e4 : Dl.compGo g nt me (noA own.length (capD ρ (cap.map (·.2)))) (ds.drop (i + 1)) = .ok rs := e3
          exact ⟨ds.length - (i + 1), by omega, rfl, hlt, by omega, F4, zs, rs, r3.g.trans g4, r1.same (sF.trans g4.f), e4, e2⟩
      | ex c => rw [et] at e3; cases e3
      | bad => rw [et] at e3; cases e3
    | ex c => rw [eg] at e'; cases e'
    | bad => rw [eg] at e'; cases e'
  · have hi2 : i = ds.length := by omega
    subst hi2
    rw [List.drop_eq_nil_of_le (Nat.le_refl _)] at e1
    cases e1
    rw [List.append_nil] at e2
    subst e2
    exact .inl ⟨(jo F' H' g1.f g1.s _).2 (Nat.le_refl _), q F' H' acc g1 r1 (lim_le la)⟩
theorem se_comp {wi : TI} {mi : MI} {t : Fam TG} {g : MG} {tt : Fam TT} {nt : MB} {te : Fam TE} {me : ME} {own : List Str} {cap : List (Str × Nat)} (hi : SI K mg E wi mi) (hg : ∀ C s H fp pn, SG K mg own.length (t C s H fp pn) g) (ht : ∀ C s H fp pn, STt K mg E0 (tt C s H fp pn) nt) (he : ∀ C s H fp pn, SE K mg E0 (te C s H fp pn) me) :
    SE K mg E (tCompT wi t tt te own cap) (comp mi own.length (cap.map (·.2)) g nt me) := by
  intro F0 H0 F H σ ρ rr
  refine (hi F0 H0 F H σ ρ rr).bind (w' := fun J H1 Q => ∀ C s H2 fp pn, compGoT J (t C s H2 fp pn) (tt C s H2 fp pn) (te C s H2 fp pn) own cap σ Q H1) fun F1 H1 J ds g1 jo => ?_
  by_cases hl : ds.length ≤ LIM
  · rw [if_pos hl]
    cases e : Dl.compGo g nt me (noA own.length (capD ρ (cap.map (·.2)))) ds with
    | ok ys => exact fun Q q C s H2 fp pn => comp_ok (rr.gr g1) jo (hg C s H2 fp pn) (ht C s H2 fp pn) (he C s H2 fp pn) hl e Q fun F' H' xs g2 rs _ p hp => q _ _ _ (g2.trans (.new g2.s hp _)) (.lst (SqL.of upd_same) (rs.same (same_new (g2.s.free hp) _)))
    | ex c => trivial
    | bad => trivial
  · rw [if_neg hl]; trivial
end
end L2.Ds

namespace L2.Ds
open PySem PySem.Spec PyProof.Rows Dl
structure DE (X : Cx) (E : XK) (e : Expr) (t : TE) (m : ME) : Prop where
  p : PE X e t
  s : SE X.K X.mg E t m
structure DT (X : Cx) (E : XK) (e : Expr) (t : TT) (m : MB) : Prop where
  p : PT X e t
  s : STt X.K X.mg E t m
structure DW (X : Cx) (E : XK) (e : Expr) (t : TT) (m : MB) : Prop where
  p : PW X e t
  s : STt X.K X.mg E t m
structure DA (X : Cx) (E : XK) (n : Nat) (es : List Expr) (t : TA) (m : MA) : Prop where
  p : PA X es t
  s : SA X.K X.mg E t m
  n : SAn n m
structure DO (X : Cx) (E : XK) (e : Option Expr) (t : TO) (m : Ev → Res (Option Int)) : Prop where
  p : PO X e t
  s : SO X.K X.mg E t m
structure DS (X : Cx) (E : XK) (st : Stmt) (t : TS) (m : MS) : Prop where
  p : PS X st t
  s : SS X.K X.mg E t m
structure DSs (X : Cx) (E : XK) (st : List Stmt) (t : TS) (m : MS) : Prop where
  p : PSs X st t
  s : SS X.K X.mg E t m
structure DG (X : Cx) (n : Nat) (e : Expr) (t : TG) (g : MG) : Prop where
  p : PG X e t
  s : SG X.K X.mg n t g
  x : ∀ d ρ c, g d ρ ≠ .ex c
structure DGs (X : Cx) (n : Nat) (es : List Expr) (t : TGs) (g : MGs) : Prop where
  p : PGs X es t
  s : SGs X.K X.mg n t g
  x : ∀ d ρ c, g d ρ ≠ .ex c
structure DI (X : Cx) (E : XK) (tg e : Expr) (t : TI) (m : MI) : Prop where
  p : PI X tg e t
  s : SI X.K X.mg E t m
section
variable {X : Cx} {E : XK} {a b e c' : Expr} {es : List Expr} {ta tb tc te : TE} {ma mb mc me : ME} {sa sb : TT} {na nb : MB} {t : TA} {m : MA} {pos : Pos} {n : Nat}
theorem d_v (i : Nat) {x : Str} (hN : X.N[i]? = some x := by rfl) (hv : Vis X.env.scope x := by first | exact Or.inl rfl | exact Or.inr (Or.inl rfl) | exact Or.inr (Or.inr rfl)) (hd : (x == ("__debug__" : Str)) = false := by decide)
    (hcd : (x == ("__classdict__" : Str)) = false := by decide) : DE X E (.Name x pos) (tVar i) (v i) := ⟨pe_var hN hv hd hcd, se_v i⟩
theorem d_int {i j} : DE X E (.Constant (.int i) j pos) (tC (.int i)) (c (.int i)) := ⟨pe_int, se_c fun _ => .int _⟩
theorem d_bl {i j} : DE X E (.Constant (.bool i) j pos) (tC (.bl i)) (c (.bl i)) := ⟨pe_bl, se_c fun _ => .bl _⟩
theorem d_str {i j} : DE X E (.Constant (.str i) j pos) (tC (.str i)) (c (.str i)) := ⟨pe_str, se_c fun _ => .str _⟩
theorem d_bin {op : Operator} {r : R2} {f : D → D → Res D} (ho : OpR X (binaryOp op) r) (hf : OpD X.K X.mg r f) (ha : DE X E a ta ma) (hb : DE X E b tb mb) : DE X E (.BinOp a op b pos) (tOp r ta tb) (o2 f ma mb) := ⟨pe_op ho ha.p hb.p, se_op hf ha.s hb.s⟩
theorem d_cmp {op : CmpOp} {r : R2} {f : D → D → Res D} (ho : OpR X (compareOp op) r) (hf : OpD X.K X.mg r f) (ha : DE X E a ta ma) (hb : DE X E b tb mb) (hm : behindInMarks op b = false) : DE X E (.Compare a [op] [b] pos) (tOp r ta tb) (o2 f ma mb) := ⟨pe_cmpR ho ha.p hb.p hm, se_op hf ha.s hb.s⟩
theorem dt_cmp {op : CmpOp} {r : R2} {f : D → D → Res D} (ho : OpR X (compareOp op) r) (hf : OpD X.K X.mg r f) (ha : DE X E a ta ma) (hb : DE X E b tb mb) (hm : behindInMarks op b = false) : DT X E (.Compare a [op] [b] pos) (tTest (tOp r ta tb)) (trb (o2 f ma mb)) := ⟨pt_cmpR ho ha.p hb.p hm, st_test (se_op hf ha.s hb.s)⟩
theorem OpR.or {f : Value → Value → Sem Value} {r r' : R2} (h : OpR X f r) (h' : OpR X f r') : OpR X f (fun x y H Q => r x y H Q ∨ r' x y H Q) := by
  intro pins s σ H x y v u Q I rx ry q
  rcases q with q | q
  · exact h pins s σ H x y v u Q I rx ry q
  · exact h' pins s σ H x y v u Q I rx ry q
theorem op_catL : OpR X (binaryOp .Add) (rCatL X.K) := by
  intro pins s σ H x y v u Q I rx ry h
  obtain ⟨l, b, xs, zs, rfl, rfl, hH, hB, hz, q⟩ := h
  cases rx
  cases ry
  exact op_catL0 I hH hB hz q
theorem op_catU : OpR X (binaryOp .Add) (rCatU X.K) := by
  intro pins s σ H x y v u Q I rx ry h
  obtain ⟨a, b, xs, ys, rfl, rfl, ha, hb, hz, q0, q1, q2⟩ := h
  cases rx
  cases ry
  exact op_catU0 I ha hb hz q0 q1 q2
theorem op_addD : OpR X (binaryOp .Add) (rAddD X.K) := OpR.or op_add (OpR.or op_catL (OpR.or op_catU op_add_str))
theorem d_add (ha : DE X E a ta ma) (hb : DE X E b tb mb) : DE X E (.BinOp a .Add b pos) (tOp (rAddD X.K) ta tb) (o2 dAdd ma mb) := d_bin op_addD opD_add ha hb
theorem d_sub (ha : DE X E a ta ma) (hb : DE X E b tb mb) : DE X E (.BinOp a .Sub b pos) (tOp (rI0 fun i j => V.int (i - j)) ta tb) (o2 dSub ma mb) := d_bin op_sub opD_sub ha hb
theorem mul_ok {a b : Int} (h : mulOk a b = true) : IntMulOk a b := by
  have h' : (a.natAbs < 2 ^ 64 ∨ b.natAbs < 2 ^ 64) ∨ a.natAbs.log2 + b.natAbs.log2 < 100000000 := by simpa [mulOk] using h
  rcases h' with (h' | h') | h'
  · exact .of_left (intBits_le_iff.mpr h')
  · exact .of_right (intBits_le_iff.mpr h')
  · have la : a.natAbs < 2 ^ (a.natAbs.log2 + 1) := Nat.lt_log2_self
    have lb : b.natAbs < 2 ^ (b.natAbs.log2 + 1) := Nat.lt_log2_self
    exact IntMulOk.of_le (intBits_le_iff.mpr la) (intBits_le_iff.mpr lb) (by omega)
theorem opD_mul {K : PySem.W.Frag} {mg : Str → Option Value} : OpD K mg (rI IntMulOk fun i j => .int (i * j)) dMul := opD_I fun a b => by
  unfold iMul
  by_cases h : mulOk a b = true
  · rw [if_pos h]; exact .inl ⟨_, rfl, mul_ok h, fun _ => .int _⟩
  · rw [if_neg h]; exact .inr rfl
theorem d_mul (ha : DE X E a ta ma) (hb : DE X E b tb mb) : DE X E (.BinOp a .Mult b pos) (tOp (rI IntMulOk fun i j => V.int (i * j)) ta tb) (o2 dMul ma mb) := d_bin op_mulR opD_mul ha hb
theorem d_mod (ha : DE X E a ta ma) (hb : DE X E b tb mb) : DE X E (.BinOp a .Mod b pos) (tOp (rI (fun _ j => j ≠ 0) fun i j => V.int (i.fmod j)) ta tb) (o2 dMod ma mb) := d_bin op_modN opD_mod ha hb
theorem d_div (ha : DE X E a ta ma) (hb : DE X E b tb mb) : DE X E (.BinOp a .FloorDiv b pos) (tOp (rI CDivG fun i j => V.int (i.fdiv j)) ta tb) (o2 dDiv ma mb) := d_bin op_fdivG opD_div ha hb
theorem d_pow (ha : DE X E a ta ma) (hb : DE X E b tb mb) : DE X E (.BinOp a .Pow b pos) (tOp (rI CPow fun i j => V.int (i ^ j.toNat)) ta tb) (o2 dPow ma mb) := d_bin op_pow opD_pow ha hb
theorem d_shl (ha : DE X E a ta ma) (hb : DE X E b tb mb) : DE X E (.BinOp a .LShift b pos) (tOp (rI CPow fun i j => V.int (i * 2 ^ j.toNat)) ta tb) (o2 dShl ma mb) := d_bin op_shl opD_shl ha hb
theorem d_shr (ha : DE X E a ta ma) (hb : DE X E b tb mb) : DE X E (.BinOp a .RShift b pos) (tOp (rI (fun _ j => 0 ≤ j) fun i j => V.int (i / 2 ^ j.toNat)) ta tb) (o2 dShr ma mb) := d_bin op_shr opD_shr ha hb
theorem opD_and {K : PySem.W.Frag} {mg : Str → Option Value} : OpD K mg (rI0 fun i j => .int (Builtin.bitAnd i j)) dBAnd := opD_I0 fun a b => by
  unfold iAnd
  by_cases h : 0 ≤ a ∧ 0 ≤ b
  · rw [if_pos h]
    refine .inl ⟨_, rfl, fun _ => ?_⟩
    have e : Builtin.bitAnd a b = ((a.toNat &&& b.toNat : Nat) : Int) := by
      unfold Builtin.bitAnd
      rw [decide_eq_true h.1, decide_eq_true h.2]
    rw [e]
    exact .int _
  · rw [if_neg h]; exact .inr rfl
theorem d_and2 (ha : DE X E a ta ma) (hb : DE X E b tb mb) : DE X E (.BinOp a .BitAnd b pos) (tOp (rI0 fun i j => V.int (Builtin.bitAnd i j)) ta tb) (o2 dBAnd ma mb) := d_bin op_and opD_and ha hb
theorem opD_or {K : PySem.W.Frag} {mg : Str → Option Value} : OpD K mg (rI0 fun i j => .int (Builtin.bitOr i j)) dBOr := opD_I0 fun a b => by
  unfold iOr
  by_cases h : 0 ≤ a ∧ 0 ≤ b
  · rw [if_pos h]
    refine .inl ⟨_, rfl, fun _ => ?_⟩
    have e : Builtin.bitOr a b = ((a.toNat ||| b.toNat : Nat) : Int) := by
      unfold Builtin.bitOr Builtin.bitAnd
      have n1 : ¬ (0 ≤ Builtin.bitNot a) := by unfold Builtin.bitNot; omega
      have n2 : ¬ (0 ≤ Builtin.bitNot b) := by unfold Builtin.bitNot; omega
      rw [decide_eq_false n1, decide_eq_false n2]
      show Builtin.bitNot (Builtin.bitNot _) = _
      have z : ∀ x : Int, Builtin.bitNot (Builtin.bitNot x) = x := fun x => by unfold Builtin.bitNot; omega
      rw [z, z, z]
    rw [e]
    exact .int _
  · rw [if_neg h]; exact .inr rfl
theorem d_or2 (ha : DE X E a ta ma) (hb : DE X E b tb mb) : DE X E (.BinOp a .BitOr b pos) (tOp (rI0 fun i j => V.int (Builtin.bitOr i j)) ta tb) (o2 dBOr ma mb) := d_bin op_or opD_or ha hb
theorem d_neg (ha : DE X E a ta ma) : DE X E (.UnaryOp .USub a pos) (tUn (rU fun i => V.int (-i)) ta) (o1 dNeg ma) := ⟨pe_un un_neg ha.p, se_un (unD_neg fun _ _ _ q => ⟨_, rfl, q⟩) ha.s⟩
theorem dt_lt (ha : DE X E a ta ma) (hb : DE X E b tb mb) : DT X E (.Compare a [.Lt] [b] pos) (tTest (tOp (rI0 fun i j => V.bl (decide (i < j))) ta tb)) (trb (o2 dLt ma mb)) := dt_cmp op_lt opD_lt ha hb (nomark _)
theorem dt_le (ha : DE X E a ta ma) (hb : DE X E b tb mb) : DT X E (.Compare a [.LtE] [b] pos) (tTest (tOp (rI0 fun i j => V.bl (decide (i ≤ j))) ta tb)) (trb (o2 dLe ma mb)) := dt_cmp op_le opD_le ha hb (nomark _)
theorem dt_gt (ha : DE X E a ta ma) (hb : DE X E b tb mb) : DT X E (.Compare a [.Gt] [b] pos) (tTest (tOp (rI0 fun i j => V.bl (decide (j < i))) ta tb)) (trb (o2 dGt ma mb)) := dt_cmp op_gt opD_gt ha hb (nomark _)
theorem dt_ge (ha : DE X E a ta ma) (hb : DE X E b tb mb) : DT X E (.Compare a [.GtE] [b] pos) (tTest (tOp (rI0 fun i j => V.bl (decide (j ≤ i))) ta tb)) (trb (o2 dGe ma mb)) := dt_cmp op_ge opD_ge ha hb (nomark _)
mutual
noncomputable def pyD : D → PyData
  | .non => .none
  | .bl b => .bool b
  | .int i => .int i
  | .str x => .str x
  | .tup xs => .tuple (pyDs xs)
  | .lst xs => .list (pyDs xs)
  | _ => .none
noncomputable def pyDs : List D → List PyData
  | [] => []
  | x :: r => pyD x :: pyDs r
end
mutual
theorem eqD_py : ∀ x y : D, ∀ k l, Dl.plain k x = true → Dl.plain l y = true → eqD x y = PyData.eqv (pyD x) (pyD y)
  | .non, y, _, _, _, hy => by cases y <;> first | rfl | (simp [Dl.plain] at hy)
  | .bl _, y, _, _, _, hy => by cases y <;> first | rfl | (simp [Dl.plain] at hy)
  | .int _, y, _, _, _, hy => by cases y <;> first | rfl | (simp [Dl.plain] at hy)
  | .str _, y, _, _, _, hy => by cases y <;> first | rfl | (simp [Dl.plain] at hy)
  | .tup xs, y, k, l, hx, hy => by
    cases y <;> first | rfl | (simp [Dl.plain] at hy; done) | skip
    rename_i ys
    cases k with
    | zero => simp [Dl.plain] at hx
    | succ k =>
      cases l with
      | zero => simp [Dl.plain] at hy
      | succ l => exact eqDs_py xs ys k l (by simpa [Dl.plain] using hx) (by simpa [Dl.plain] using hy)
  | .lst xs, y, k, l, hx, hy => by
    cases y <;> first | rfl | (simp [Dl.plain] at hy; done) | skip
    rename_i ys
    cases k with
    | zero => simp [Dl.plain] at hx
    | succ k =>
      cases l with
      | zero => simp [Dl.plain] at hy
      | succ l => exact eqDs_py xs ys k l (by simpa [Dl.plain] using hx) (by simpa [Dl.plain] using hy)
  | .ty _, _, k, _, hx, _ => by cases k <;> simp [Dl.plain] at hx
  | .cls _, _, k, _, hx, _ => by cases k <;> simp [Dl.plain] at hx
  | .exc _, _, k, _, hx, _ => by cases k <;> simp [Dl.plain] at hx
  | .ins _ _ _, _, k, _, hx, _ => by cases k <;> simp [Dl.plain] at hx
theorem eqDs_py : ∀ xs ys : List D, ∀ k l, Dl.plains k xs = true → Dl.plains l ys = true → eqDs xs ys = PyData.eqvAll (pyDs xs) (pyDs ys)
  | [], [], _, _, _, _ => rfl
  | [], _ :: _, _, _, _, _ => rfl
  | _ :: _, [], _, _, _, _ => rfl
  | x :: xs, y :: ys, k, l, hx, hy => by
    have h1 : Dl.plain k x = true ∧ Dl.plains k xs = true := by simpa [Dl.plains] using hx
    have h2 : Dl.plain l y = true ∧ Dl.plains l ys = true := by simpa [Dl.plains] using hy
    show (eqD x y && eqDs xs ys) = (PyData.eqv (pyD x) (pyD y) && PyData.eqvAll (pyDs xs) (pyDs ys))
    rw [eqD_py x y k l h1.1 h2.1, eqDs_py xs ys k l h1.2 h2.2]
end
mutual
theorem plain_py : ∀ (x : D) (k : Nat), Dl.plain k x = true → (pyD x).canLay0 = true ∧ (pyD x).depth ≤ k
  | .non, _, _ => ⟨rfl, Nat.zero_le _⟩
  | .bl _, _, _ => ⟨rfl, Nat.zero_le _⟩
  | .int _, _, _ => ⟨rfl, Nat.zero_le _⟩
  | .str x, _, h => ⟨by simpa [Dl.plain, pyD, PyData.canLay0, PyData.strOk] using h, Nat.zero_le _⟩
  | .tup xs, 0, h => by simp [Dl.plain] at h
  | .lst xs, 0, h => by simp [Dl.plain] at h
  | .tup xs, k + 1, h => by
    obtain ⟨h1, h2⟩ := plains_py xs k (by simpa [Dl.plain] using h)
    exact ⟨h1, Nat.succ_le_succ h2⟩
  | .lst xs, k + 1, h => by
    obtain ⟨h1, h2⟩ := plains_py xs k (by simpa [Dl.plain] using h)
    exact ⟨h1, Nat.succ_le_succ h2⟩
  | .ty _, k, h => by cases k <;> simp [Dl.plain] at h
  | .cls _, k, h => by cases k <;> simp [Dl.plain] at h
  | .exc _, k, h => by cases k <;> simp [Dl.plain] at h
  | .ins _ _ _, k, h => by cases k <;> simp [Dl.plain] at h
theorem plains_py : ∀ (xs : List D) (k : Nat), Dl.plains k xs = true → PyData.canLayAll0 (pyDs xs) = true ∧ PyData.depthAll (pyDs xs) ≤ k
  | [], _, _ => ⟨rfl, Nat.zero_le _⟩
  | x :: xs, k, h => by
    have h' : Dl.plain k x = true ∧ Dl.plains k xs = true := by simpa [Dl.plains] using h
    obtain ⟨a1, a2⟩ := plain_py x k h'.1
    obtain ⟨b1, b2⟩ := plains_py xs k h'.2
    refine ⟨?_, Nat.max_le.mpr ⟨a2, b2⟩⟩
    show (PyData.canLay0 (pyD x) && PyData.canLayAll0 (pyDs xs)) = true
    rw [a1, b1]; rfl
end
mutual
theorem rp_dv {K : PySem.W.Frag} {mg : Str → Option Value} {F : Hp} : ∀ {x : V} {d : D} {k : Nat}, Rp K mg F x d → Dl.plain k d = true → DV K F x (pyD d)
  | _, _, _, .non, _ => .non
  | _, _, _, .bl b, _ => .bl b
  | _, _, _, .int b, _ => .int b
  | _, _, _, .str b, _ => .str b
  | _, _, 0, .tup h r, p => by simp [Dl.plain] at p
  | _, _, 0, .lst h r, p => by simp [Dl.plain] at p
  | _, _, k + 1, .tup h r, p => .tup h (rps_dvs r (by simpa [Dl.plain] using p))
  | _, _, k + 1, .lst h r, p => .lst h (rps_dvs r (by simpa [Dl.plain] using p))
  | _, _, k, .ty _, p => by cases k <;> simp [Dl.plain] at p
  | _, _, k, .cls _, p => by cases k <;> simp [Dl.plain] at p
  | _, _, k, .exc _ _, p => by cases k <;> simp [Dl.plain] at p
  | _, _, k, .ins _ _ _ _ _, p => by cases k <;> simp [Dl.plain] at p
theorem rps_dvs {K : PySem.W.Frag} {mg : Str → Option Value} {F : Hp} : ∀ {xs : List V} {ds : List D} {k : Nat}, Rps K mg F xs ds → Dl.plains k ds = true → DVs K F xs (pyDs ds)
  | _, _, _, .nil, _ => .nil
  | _, _, k, .cons h r, p => by
    have p' := (show Dl.plain k _ = true ∧ Dl.plains k _ = true by simpa [Dl.plains] using p)
    exact .cons (rp_dv h p'.1) (rps_dvs r p'.2)
end
mutual
theorem dv_same {K : PySem.W.Frag} {F H : Hp} (s : Same F H) : ∀ {x : V} {d : PyData}, DV K F x d → DV K H x d
  | _, _, .non => .non
  | _, _, .bl b => .bl b
  | _, _, .int b => .int b
  | _, _, .str b => .str b
  | _, _, .tup h r => .tup (seqT_same s h) (dvs_same s r)
  | _, _, .lst h r => .lst (s.seq h) (dvs_same s r)
theorem dvs_same {K : PySem.W.Frag} {F H : Hp} (s : Same F H) : ∀ {xs : List V} {ds : List PyData}, DVs K F xs ds → DVs K H xs ds
  | _, _, .nil => .nil
  | _, _, .cons h r => .cons (dv_same s h) (dvs_same s r)
end
theorem opD_eq {K : PySem.W.Frag} {mg : Str → Option Value} : OpD K mg (rEqD K id) dEq := by
  intro E F H x y dx dy s rx ry
  unfold dEq
  by_cases h : (Dl.plain 50 dx && Dl.plain 50 dy) = true
  · rw [if_pos h]
    have h' : Dl.plain 50 dx = true ∧ Dl.plain 50 dy = true := by simpa using h
    obtain ⟨a1, a2⟩ := plain_py dx 50 h'.1
    obtain ⟨b1, b2⟩ := plain_py dy 50 h'.2
    exact .ret s (.bl _) fun Q q => ⟨_, _, dv_same s (rp_dv rx h'.1), dv_same s (rp_dv ry h'.2), a1, b1, Nat.le_trans a2 (by decide), by rw [← eqD_py dx dy 50 50 h'.1 h'.2]; exact q⟩
  · rw [if_neg h]; trivial
theorem opD_ne {K : PySem.W.Frag} {mg : Str → Option Value} : OpD K mg (rEqD K not) dNe := by
  intro E F H x y dx dy s rx ry
  unfold dNe
  by_cases h : (Dl.plain 50 dx && Dl.plain 50 dy) = true
  · rw [if_pos h]
    have h' : Dl.plain 50 dx = true ∧ Dl.plain 50 dy = true := by simpa using h
    obtain ⟨a1, a2⟩ := plain_py dx 50 h'.1
    obtain ⟨b1, b2⟩ := plain_py dy 50 h'.2
    exact .ret s (.bl _) fun Q q => ⟨_, _, dv_same s (rp_dv rx h'.1), dv_same s (rp_dv ry h'.2), a1, b1, Nat.le_trans a2 (by decide), by rw [← eqD_py dx dy 50 50 h'.1 h'.2]; exact q⟩
  · rw [if_neg h]; trivial
theorem d_eq {k : Nat} (hr : Room k X.A) (ha : DE X E a ta ma) (hb : DE X E b tb mb) : DE X E (.Compare a [.Eq] [b] pos) (tOp (rEqD X.K id) ta tb) (o2 dEq ma mb) := d_cmp (op_eqD hr.units) opD_eq ha hb (nomark _)
theorem d_ne {k : Nat} (hr : Room k X.A) (ha : DE X E a ta ma) (hb : DE X E b tb mb) : DE X E (.Compare a [.NotEq] [b] pos) (tOp (rEqD X.K not) ta tb) (o2 dNe ma mb) := d_cmp (op_neD hr.units) opD_ne ha hb (nomark _)
theorem dt_eq {k : Nat} (hr : Room k X.A) (ha : DE X E a ta ma) (hb : DE X E b tb mb) : DT X E (.Compare a [.Eq] [b] pos) (tTest (tOp (rEqD X.K id) ta tb)) (trb (o2 dEq ma mb)) := dt_cmp (op_eqD hr.units) opD_eq ha hb (nomark _)
theorem dt_ne {k : Nat} (hr : Room k X.A) (ha : DE X E a ta ma) (hb : DE X E b tb mb) : DT X E (.Compare a [.NotEq] [b] pos) (tTest (tOp (rEqD X.K not) ta tb)) (trb (o2 dNe ma mb)) := dt_cmp (op_neD hr.units) opD_ne ha hb (nomark _)
theorem d_ix (ha : DE X E a ta ma) (hb : DE X E b tb mb) (hs : PlainIx b := by exact fun _ _ => rfl) : DE X E (.Subscript a b pos) (tOp (rIxD X.K) ta tb) (o2 dIx ma mb) := ⟨pe_ix (IxR.or ix_list ix_tup) ha.p hb.p hs, se_op opD_ix ha.s hb.s⟩
theorem dt_val (ha : DE X E a ta ma) (he : ∀ whole, isTrue a X.env whole = (do let v ← whole; standAt a.pos; holding [v] (truthy v)) := by intro _; rfl) : DT X E a (L2.tB ta) (trb ma) := ⟨pt_val ha.p he, st_b ha.s⟩
theorem dw_and1 (ha : DT X E a sa na) : DW X E (.BoolOp .And [a] pos) sa na := ⟨pw_and1 ha.p, ha.s⟩
theorem dw_or1 (ha : DT X E a sa na) : DW X E (.BoolOp .Or [a] pos) sa na := ⟨pw_or1 ha.p, ha.s⟩
theorem dw_and {rest : List Expr} (ha : DT X E a sa na) (hb : DW X E (.BoolOp .And (b :: rest) pos) sb nb) : DW X E (.BoolOp .And (a :: b :: rest) pos) (tAnd sa sb) (bAnd na nb) := ⟨pw_and ha.p hb.p, st_and ha.s hb.s⟩
theorem dw_or {rest : List Expr} (ha : DT X E a sa na) (hb : DW X E (.BoolOp .Or (b :: rest) pos) sb nb) : DW X E (.BoolOp .Or (a :: b :: rest) pos) (tOr sa sb) (bOr na nb) := ⟨pw_or ha.p hb.p, st_or ha.s hb.s⟩
theorem DW.dt (h : DW X E a sa na) : DT X E a sa na := ⟨h.p.pt, h.s⟩
theorem d_one {op} (ha : DE X E a ta ma) : DE X E (.BoolOp op [a] pos) ta ma := ⟨pe_one ha.p, ha.s⟩
theorem d_and {rest : List Expr} (ha : DE X E a ta ma) (hb : DE X E (.BoolOp .And (b :: rest) pos) tb mb) : DE X E (.BoolOp .And (a :: b :: rest) pos) (tAndV ta tb) (eAnd ma mb) := ⟨pe_and ha.p hb.p, se_and ha.s hb.s⟩
theorem d_ife (hc : DT X E c' sa na) (ha : DE X E a ta ma) (hb : DE X E b tb mb) : DE X E (.IfExp c' a b pos) (tIf sa ta tb) (ife na ma mb) := ⟨pe_ifExp hc.p ha.p hb.p, se_ife hc.s ha.s hb.s⟩
theorem da_nil : DA X E 0 [] tNil anil := ⟨pa_nil, sa_nil, san_nil⟩
theorem da_cons (ha : DE X E e te me) (hr : DA X E n es t m) (hs : starEach (e :: es) X.env = (false, eval e X.env) :: starEach es X.env := by rfl) : DA X E (n + 1) (e :: es) (tCons te t) (acons me m) := ⟨pa_cons ha.p hr.p hs, sa_cons ha.s hr.s, san_cons hr.n⟩
theorem d_tup {x1} (h : DA X E n es t m) (hn : n ≤ sizeLine := by decide) : DE X E (.Tuple es x1 pos) (tTup t) (mtp m) := ⟨pe_tup h.p, se_tup h.s h.n hn⟩
theorem d_lst (h : DA X E n es t m) (hn : n ≤ sizeLine := by decide) : DE X E (.List es pos) (tLst t) (mls m) := ⟨pe_lst h.p, se_lst h.s h.n hn⟩
theorem d_cb {id : String} {r : List V → Hp → VK → Prop} {f : List D → Res D} {x : Str} {p : Pos} (hc : CallR X (.builtin id) r) (hf : CallD X.K X.mg r f) (hg : Gl X x) (hm : X.mg x = none) (hv : bootBuiltins x = some (.builtin id)) (ha : DA X E n (e :: es) t m) (hn : x ≠ "__name__" := by decide) (hdb : (x == ("__debug__" : Str)) = false := by decide)
    (he : starEach (e :: es) X.env = (false, eval e X.env) :: starEach es X.env := by rfl) (hpl : (backTo pos (starEach es X.env)).any (·.1) = false := by rfl) : DE X E (.Call (.Name x p) (e :: es) [] pos) (tCB r t) (on f m) := ⟨pe_callB hc hg hm hv ha.p hn hdb he hpl, se_cb hf ha.s⟩
theorem d_ct {T : String} {r : List V → Hp → VK → Prop} {f : List D → Res D} {x : Str} {p : Pos} (hc : CallR X (.type T) r) (hf : CallD X.K X.mg r f) (hg : Gl X x) (hm : X.mg x = none) (hv : bootBuiltins x = some (.type T)) (ha : DA X E n (e :: es) t m) (hn : x ≠ "__name__" := by decide) (hdb : (x == ("__debug__" : Str)) = false := by decide)
    (he : starEach (e :: es) X.env = (false, eval e X.env) :: starEach es X.env := by rfl) (hpl : (backTo pos (starEach es X.env)).any (·.1) = false := by rfl) : DE X E (.Call (.Name x p) (e :: es) [] pos) (tCB r t) (on f m) := ⟨pe_callTy hc hg hm hv ha.p hn hdb he hpl, se_cb hf ha.s⟩
structure Cal (P : Program) (w : World) (K : PySem.W.Frag) (mg : Str → Option Value) (base : Heap) (n : Nat) (x : Str) (ps : List Str) (m : List D → Res D) : Prop where
  ex : ∃ (f : Addr) (fd : FuncData), FnOk P w K mg base (CXR P w) n f fd ps (spD K mg ps.length m) ∧ Binds K fd ps [] ∧ PySem.W.keepIn K (.ref f) = true ∧ mg x = some (.ref f)
theorem d_call {k l : Nat} {x : Str} {ps : List Str} {f : List D → Res D} {p : Pos} (C : Cal X.prog X.w X.K X.mg X.base k x ps f) (hr : Room l X.A) (hn : k ≤ l) (hg : Gl X x) (hx : Passes (CXR X.prog X.w) X E) (ha : DA X E n (e :: es) t m) (hps : ps.length = n := by rfl)
    (hdb : (x == ("__debug__" : Str)) = false := by decide) (he : starEach (e :: es) X.env = (false, eval e X.env) :: starEach es X.env := by rfl) (hpl : (backTo pos (starEach es X.env)).any (·.1) = false := by rfl) :
    DE X E (.Call (.Name x p) (e :: es) [] pos) (tCall (spD X.K X.mg ps.length f) [] E t) (on f m) := by
  obtain ⟨g, fd, F, b, kp, hm⟩ := C.ex
  exact ⟨pe_call F (hr.mono hn) hg hm kp b .nil hx ha.p hdb he hpl, by rw [hps]; exact se_call ha.s ha.n⟩
theorem pass_c {N : List Str} {scope : Scope} {cl : List (Str × Addr)} {C : Addr} {s : Shared} {H : Hp} {fp : List Addr} {pn : List (Addr × Obj)} : Passes (CXR X.prog X.w) (cxComp X N scope cl C s H fp pn) E0 := by
  intro pins σ H s e s' I h
  obtain ⟨_, _, _, _, _, q⟩ := h
  exact q.elim
end
end L2.Ds

namespace L2.Ds
open PySem PySem.Spec PyProof.Rows Dl
section
variable {X : Cx} {E : XK} {a b e c' tg : Expr} {es : List Expr} {ta tb tc te : TE} {ma mb mc me : ME} {sa sb : TT} {na nb : MB} {t : TA} {m : MA} {pos : Pos} {n : Nat}
theorem sl_tupU : SlR X (rSlU X.K) := by
  intro pins s σ H x v vl vu lo hi sl Q I rx hs pl pu h
  obtain ⟨a, xs, rfl, hx, q1, q2⟩ := h
  by_cases hw : HT.sIx xs.length 0 lo = 0 ∧ HT.sIx xs.length xs.length hi = xs.length
  · cases rx
    obtain ⟨its, r, ht, hz⟩ := I.tuple hx
    have hlen : its.toArray.size = xs.length := by rw [List.size_toArray]; exact r.length.symm
    exact ⟨"tuple", _, PyProof.Rows.slot_tuple_getitem.lookup, ht.typeIs, HT.getItem_tuple_whole ht hs pl pu (by rw [hlen]; exact hw) ⟨.ref a, H, I, rfl, q1 hw⟩⟩
  · exact sl_tup pins s σ H (.ref a) v vl vu lo hi sl Q I rx hs pl pu ⟨a, xs, rfl, hx, hw, q2 hw⟩
theorem do_none : DO X E none tNoPart pno := ⟨po_none, so_none⟩
theorem do_some (h : DE X E a ta ma) : DO X E (some a) (tPart ta) (pso ma) := ⟨po_some h.p, so_some h.s⟩
theorem d_cut {lo hi : Option Expr} {tl th : TO} {ml mh : Ev → Res (Option Int)} {p2 : Pos} (ha : DE X E a ta ma) (hl : DO X E lo tl ml) (hh : DO X E hi th mh) : DE X E (.Subscript a (.Slice lo hi none p2) pos) (tSl (rSlD X.K) ta tl th) (cut ma ml mh) :=
  ⟨pe_slice (SlR.or sl_list sl_tupU) ha.p hl.p hh.p, se_cut ha.s hl.s hh.s⟩
theorem d_chain {op op' : CmpOp} {r r' : R2} {f g : D → D → Res D} (ho : OpR X (compareOp op) r) (hf : OpD X.K X.mg r f) (ho' : OpR X (compareOp op') r') (hg : OpD X.K X.mg r' g) (ha : DE X E a ta ma) (hb : DE X E b tb mb) (hc : DE X E c' tc mc) (hm : lastMarks [op, op'] [b, c'] = false := by with_unfolding_all rfl) :
    DE X E (.Compare a [op, op'] [b, c'] pos) (tChain r r' ta tb tc) (chain f g ma mb mc) := ⟨pe_chain ho ho' ha.p hb.p hc.p (hm := hm), se_chain hf hg ha.s hb.s hc.s⟩
theorem dg_name {i : Nat} {x : Str} (hN : X.N.Nodup) (hi : X.N[i]? = some x) (hx : Loc X.env.scope x) (hl : i < n) (hf : X.fn x = true ∨ X.env.scope.names.lookup x = some .local := by first | exact .inl rfl | exact .inr rfl | assumption) : DG X n (.Name x pos) (gName i) (gN i) :=
  ⟨pg_name hN hi hx hf, sg_name hl, fun _ _ _ h => by cases h⟩
theorem dgs_nil : DGs X n [] gNil gs0 := ⟨pgs_nil, sgs_nil, fun d ρ c h => by
  unfold gs0 at h
  split at h <;> cases h⟩
theorem dgs_cons {t : TG} {u : TGs} {g : MG} {gs : MGs} (h1 : DG X n e t g) (h2 : DGs X n es u gs) (hs : (assignEach (e :: es) X.env).map (·.2) = assign e X.env :: (assignEach es X.env).map (·.2) := by rfl) : DGs X n (e :: es) (gCons t u) (gs1 g gs) :=
  ⟨pgs_cons h1.p h2.p hs, sgs_cons h1.s h2.s, fun d ρ c h => by
    unfold gs1 at h
    split at h
    · next d' ds =>
      cases eg : g d' ρ with
      | ok ρ' =>
        rw [eg] at h
        exact h2.x ds ρ' c h
      | ex c' => exact h1.x d' ρ c' eg
      | bad => rw [eg] at h; cases h
    · cases h⟩
theorem dg_tup {k : Nat} {u : TGs} {g : MGs} {j : Nat} (hc : X.calm = true) (h : DGs X n es u g) (hn : (assignEach es X.env).length = j := by rfl) (hst : (assignEach es X.env).findIdx? (·.1) = none := by rfl) : DG X n (.Tuple es k pos) (gSeq X.K j u) (gU j g) := by
  refine ⟨?_, sg_seq h.s, fun d ρ c hh => ?_⟩
  · intro pins s σ H v w Q I r hw
    rcases hw with hw | hw
    · exact pg_tup hc h.p hn hst pins s σ H v w Q I r hw
    · obtain ⟨a, xs, e1, hq, hl, hw⟩ := hw
      subst e1
      cases r
      obtain ⟨its, rv, ht, hz⟩ := I.list hq
      refine assign_Tuple_list (I.ok.hd hc) ht.isList (by simp [hn, ← hl, rv.length]) hst fun h' hx => ?_
      have I1 : Inv X pins σ H { s with heap := h' } := I.kept (t' := s.toks) fun b o e => hx b o (Nat.ne_of_lt (Heap.lt_size e)) e
      exact h.p pins _ σ H xs _ Q I1 (by simpa using rv) hw
  · unfold gU at hh
    cases ei : items d with
    | ok xs =>
      rw [ei] at hh
      have hh' : (if xs.length = j then g xs ρ else .bad) = .ex c := hh
      split at hh'
      · exact h.x xs ρ c hh'
      · cases hh'
    | ex c' => unfold items at ei; split at ei <;> cases ei
    | bad => rw [ei] at hh; cases hh
theorem di_seq (h : DE X E a ta ma) : DI X E tg a (iSeq X.K ta) (iv ma) := by
  refine ⟨?_, si_seq h.s⟩
  intro pins s σ H R I hw
  refine thn (h.p pins s σ H _ I hw) fun v s1 ⟨x, H1, I1, r1, q1⟩ => ?_
  obtain ⟨p, rfl, q1⟩ := q1
  cases r1
  rcases q1 with ⟨⟨xs, hq⟩, q⟩ | ⟨⟨xs, hq⟩, q⟩
  · obtain ⟨its, rv, pl, hz⟩ := I1.list hq
    refine wpAny_pyIter_list pl.isList ?_
    refine ⟨s1.heap.objs.size, [s1.heap.objs.size], _, _, H1, rfl, I1.kept (t' := s1.toks) fun b o e => Heap.get?_push_of_some _ e, turn_list p _, ⟨_, Heap.get?_push_size _ rfl, rfl, rfl⟩, fun b hb => ?_, q⟩
    have e : b = s1.heap.objs.size := by simpa using hb
    subst e
    exact I1.fpOk (Nat.le_refl _) (I1.hok.fresh (Nat.le_refl _))
  · obtain ⟨its, rv, pl, hz⟩ := I1.tuple hq
    refine wpAny_pyIter_tuple (show s1.heap.IsTuple p its.toArray from pl) ?_
    refine ⟨s1.heap.objs.size, [s1.heap.objs.size], _, _, H1, rfl, I1.kept (t' := s1.toks) fun b o e => Heap.get?_push_of_some _ e, turn_tuple p _, ⟨_, Heap.get?_push_size _ rfl, rfl, rfl⟩, fun b hb => ?_, q⟩
    have e : b = s1.heap.objs.size := by simpa using hb
    subst e
    exact I1.fpOk (Nat.le_refl _) (I1.hok.fresh (Nat.le_refl _))
theorem di_r1 {p : Pos} (hg : Gl X "range") (hm : X.mg "range" = none) (ha : DA X E n [a] t m) (hs : starEach [a] X.env = [(false, eval a X.env)] := by rfl) : DI X E tg (.Call (.Name "range" p) [a] [] pos) (iRng1 t) (r1 m) := ⟨pi_range1 hg hm ha.p hs, si_r1 ha.s⟩
theorem numbered_get : ∀ (ds : List D) (k i : Nat) (d : D), (Dl.numbered k ds)[i]? = some d → ∃ x, ds[i]? = some x ∧ d = .tup [.int (k + i : Nat), x]
  | [], _, _, _, h => by simp [Dl.numbered] at h
  | x :: r, k, 0, d, h => by simp [Dl.numbered] at h; exact ⟨x, rfl, h.symm⟩
  | x :: r, k, i + 1, d, h => by
    obtain ⟨y, h1, h2⟩ := numbered_get r (k + 1) i d (by simpa [Dl.numbered] using h)
    exact ⟨y, by simpa using h1, by rw [h2, Nat.add_right_comm, Nat.add_assoc]⟩
theorem numbered_len : ∀ (ds : List D) (k : Nat), (Dl.numbered k ds).length = ds.length
  | [], _ => rfl
  | _ :: r, k => congrArg (· + 1) (numbered_len r (k + 1))
theorem ite_ok {K : PySem.W.Frag} {mg : Str → Option Value} {F : Hp} {a : Addr} {xs : List V} {ds : List D} (h : SqL K F a xs) (r : Rps K mg F xs ds) : ItOk K mg F (Ite K a) (Dl.numbered 0 ds) := by
  intro F' H' s1 s2 i
  have hq : SqL K H' a xs := (s1.trans s2).seq h
  refine ⟨fun d e => ?_, fun hl => ⟨xs, hq, by rw [r.length]; rw [numbered_len] at hl; exact hl⟩⟩
  obtain ⟨x', e', rfl⟩ := numbered_get ds 0 i d e
  obtain ⟨x, e1, rx⟩ := r.get e'
  refine ⟨⟨xs, x, hq, e1⟩, fun y H'' q => ?_⟩
  obtain ⟨T, p, hT, rfl, rfl, hp⟩ := q
  have e2 := hp xs hq
  rw [e1] at e2; cases e2
  refine ⟨_, .new s2 hT _, .tup (SqT.of upd_same) (.cons ?_ (.cons ((rx.same s1).same (same_new (s2.free hT) _)) .nil))⟩
  rw [Nat.zero_add]; exact .int _
theorem di_enumerate {elts : List Expr} {x1 : Nat} {tpos p : Pos} (hg : Gl X "enumerate") (hm : X.mg "enumerate" = none) (ha : DA X E n [a] t m) (hs : starEach [a] X.env = [(false, eval a X.env)] := by rfl) : DI X E (.Tuple elts x1 tpos) (.Call (.Name "enumerate" p) [a] [] pos) (iEnum X.K t) (iEnumerate m) := by
  refine ⟨pi_enum hg hm ha.p hs, ?_⟩
  intro F0 H0 F H σ ρ rr
  refine (ha.s F0 H0 F H σ ρ rr).bind (w' := fun vs H1 R => ∃ a, vs = [V.ref a] ∧ (∃ xs, SqL X.K H1 a xs) ∧ R (Ite X.K a) H1) fun F1 H1 xs ds g1 rs => ?_
  unfold enum1
  split
  · next d =>
    obtain ⟨x, rfl, rx⟩ := rs.one
    cases d with
    | lst ds =>
      cases rx with
      | lst h r => exact Ans.ret (R := ItOk X.K X.mg) g1.s (ite_ok h r) fun Q q => ⟨_, rfl, ⟨_, g1.s.seq h⟩, q⟩
    | tup ds => trivial
    | _ => trivial
  · trivial
end
end L2.Ds

namespace L2.Ds
open PySem PySem.Spec PyProof.Rows Dl
structure DTs (X : Cx) (E : XK) (ts : List Expr) (t : TT) (m : MB) : Prop where
  p : PTs X ts t
  s : STt X.K X.mg E t m
section
variable {X : Cx} {E : XK} {a b e c' tg iter elt : Expr} {es ts : List Expr} {ta tb tc te : TE} {ma mb mc me : ME} {sa sb : TT} {na nb : MB} {t : TA} {m : MA} {pos spos pos' : Pos} {n i j : Nat} {x y : Str}
theorem st_yes {K : PySem.W.Frag} {mg : Str → Option Value} {E : XK} : STt K mg E tYes yes := fun _ _ _ _ _ _ r => Ans.ret (R := RB) r.ss rfl fun _ q => q
theorem dts_nil : DTs X E [] tYes yes := ⟨pts_nil, st_yes⟩
theorem dts_one (h : DT X E a sa na) : DTs X E [a] sa na := ⟨pts_one h.p, h.s⟩
theorem d_comp {own : List Str} {cap : List (Str × Nat)} {scope : Scope} {cl : List (Str × Addr)} {wi : TI} {mi : MI} {g : Fam TG} {gm : MG} {tt : Fam TT} {tf : Fam TE} (hi : DI X E tg iter wi mi) (O : CompOk X own cap scope cl) (hc : X.calm = true)
    (hg : ∀ C s H fp pn, DG (cxComp X (own ++ cap.map (·.1)) scope cl C s H fp pn) own.length tg (g C s H fp pn) gm) (ht : ∀ C s H fp pn, DTs (cxComp X (own ++ cap.map (·.1)) scope cl C s H fp pn) E0 ts (tt C s H fp pn) na)
    (he : ∀ C s H fp pn, DE (cxComp X (own ++ cap.map (·.1)) scope cl C s H fp pn) E0 elt (tf C s H fp pn) me) (hts : ts.length ≤ 1 := by decide) (hs : ∀ x, foldedSetIterable iter X.env x = pure x := by intro _; rfl) :
    DE X E (.ListComp elt [⟨tg, iter, ts, 0⟩] scope pos) (tCompT wi g tt tf own cap) (comp mi own.length (cap.map (·.2)) gm na me) :=
  ⟨pe_comp hi.p O hc (fun C s H fp pn => (hg C s H fp pn).p) (fun C s H fp pn => (ht C s H fp pn).p) (fun C s H fp pn => (he C s H fp pn).p) hts hs,
   se_comp hi.s (fun C s H fp pn => (hg C s H fp pn).s) (fun C s H fp pn => (ht C s H fp pn).s) (fun C s H fp pn => (he C s H fp pn).s)⟩
theorem ds_setC {own : List Str} {cap : List (Str × Nat)} {scope : Scope} {cl : List (Str × Addr)} {wi : TI} {mi : MI} {g : Fam TG} {gm : MG} {tt : Fam TT} {tf : Fam TE} (hN : X.N.Nodup) (hix : X.N[i]? = some x) (hx : Loc X.env.scope x) (hi : DI X E tg iter wi mi) (O : CompOk X own cap scope cl) (hc : X.calm = true)
    (hg : ∀ C s H fp pn, DG (cxComp X (own ++ cap.map (·.1)) scope cl C s H fp pn) own.length tg (g C s H fp pn) gm) (ht : ∀ C s H fp pn, DTs (cxComp X (own ++ cap.map (·.1)) scope cl C s H fp pn) E0 ts (tt C s H fp pn) na)
    (he : ∀ C s H fp pn, DE (cxComp X (own ++ cap.map (·.1)) scope cl C s H fp pn) E0 elt (tf C s H fp pn) me) (hts : ts.length ≤ 1 := by decide)
    (hsw : swapsWith (.ListComp elt [⟨tg, iter, ts, 0⟩] scope pos) (some (.Name x pos')) spos.line X.env = pure true := by rfl)
    (hs : ∀ x, foldedSetIterable iter X.env x = pure x := by intro _; rfl)
    (hf : X.fn x = true ∨ X.env.scope.names.lookup x = some .local := by first | exact .inl rfl | exact .inr rfl | assumption) :
    DS X E (.Assign [.Name x pos'] (.ListComp elt [⟨tg, iter, ts, 0⟩] scope pos) spos) (tAsg (tCompT wi g tt tf own cap) (gName i)) (st i (comp mi own.length (cap.map (·.2)) gm na me)) :=
  ⟨ps_setComp hN hix hx hi.p O hc (fun C s H fp pn => (hg C s H fp pn).p) (fun C s H fp pn => (ht C s H fp pn).p) (fun C s H fp pn => (he C s H fp pn).p) hts hsw hs hf,
   ss_set (se_comp hi.s (fun C s H fp pn => (hg C s H fp pn).s) (fun C s H fp pn => (ht C s H fp pn).s) (fun C s H fp pn => (he C s H fp pn).s))⟩
theorem ds_set (hN : X.N.Nodup) (hi : X.N[i]? = some x) (hx : Loc X.env.scope x) (he : DE X E e te me) (hs : swapsWith e (some (.Name x pos')) spos.line X.env = pure false := by rfl) (hf : X.fn x = true ∨ X.env.scope.names.lookup x = some .local := by first | exact .inl rfl | exact .inr rfl | assumption) :
    DS X E (.Assign [.Name x pos'] e spos) (tAsg te (gName i)) (st i me) := ⟨ps_set hN hi hx he.p hs hf, ss_set he.s⟩
theorem ds_asg {g : TG} {gm : MG} (he : DE X E e te me) (hg : DG X 1000 tg g gm) (hs : swapsWithSole [tg] e spos.line X.env = pure false := by rfl) (hw : swappedStores [tg] e X.env = pure none := by rfl)
    (h1 : (assignEach [tg] X.env).map (·.2) = [assign tg X.env] := by rfl) : DS X E (.Assign [tg] e spos) (tAsg te g) (asg gm me) := ⟨ps_asg he.p hg.p hs hw h1, ss_asg he.s hg.s hg.x⟩
theorem ds_drp (he : DE X E e te me) (hs : swapsWith e none spos.line X.env = pure false := by rfl) : DS X E (.Expr e spos) (tDrop te) (drp me) := ⟨ps_expr he.p hs, ss_drop he.s⟩
theorem ds_ret (he : DE X E e te me) : DS X E (.Return (some e) spos) (tRet te) (ret me) := ⟨ps_ret he.p, ss_ret he.s⟩
theorem ds_frz {st : Stmt} {u : TS} {k : MS} (h : DS X E st u k) : DS X E st u (frz i k) := ⟨h.p, ss_frz h.s⟩
theorem dss_nil : DSs X E [] tNext nop := ⟨pss_nil, ss_nop⟩
theorem dss_one {st : Stmt} {u : TS} {k : MS} (h : DS X E st u k) : DSs X E [st] u k := ⟨pss_one h.p, h.s⟩
theorem dss_cons {st : Stmt} {rest : List Stmt} {u u' : TS} {k k' : MS} (h : DS X E st u k) (h' : DSs X E rest u' k') : DSs X E (st :: rest) (tSeq u u') (sq k k') := ⟨pss_cons h.p h'.p, ss_seq h.s h'.s⟩
theorem ds_if {as bs : List Stmt} {u u' : TS} {k k' : MS} (hc : DT X E c' sa na) (ha : DSs X E as u k) (hb : DSs X E bs u' k') : DS X E (.If c' as bs spos) (tIfS sa u u') (ifs na k k') := ⟨ps_if hc.p ha.p hb.p, ss_if hc.s ha.s hb.s⟩
theorem ds_for {body : List Stmt} {wi : TI} {mi : MI} {g : TG} {gm : MG} {u : TS} {k : MS} (hp : PassesOwn (model X.prog X.w) X.A X.env X.xe) (hc : X.calm = true) (hi : DI X E tg iter wi mi) (hg : DG X 1000 tg g gm) (hb : DSs X E body u k)
    (hs : ∀ x, foldedSetIterable iter X.env x = pure x := by intro _; rfl) : DS X E (.For tg iter body [] spos) (tFor wi g u) (for_ mi gm k) := ⟨ps_for hp hc hi.p hg.p hb.p hs, ss_for hi.s hg.s hg.x hb.s⟩
end
section
variable {P : Program} {w : World} {K : PySem.W.Frag} {mg : Str → Option Value} {base : Heap} {N ps : List Str} {qual x : Str} {scope : Scope} {f : Addr} {cd : Value} {A : Around} {outer : List Env} {s₀ : Shared} {H₀ : Hp} {E : XK} {t : TA} {m : MA} {n : Nat}
theorem ds_rse {C : Addr} {np cpos pos : Pos} {e : Expr} {es : List Expr} (hg : Gl (cxOf (CXR P w) P w K mg base N qual scope f cd A outer s₀ H₀ E) x) (hm : mg x = some (.ref C)) (hq : PySem.W.excIn K C veMro "ValueError.__new__" = true)
    (ha : DA (cxOf (CXR P w) P w K mg base N qual scope f cd A outer s₀ H₀ E) E n (e :: es) t m) (hn : n ≤ 1000 := by decide) (hd : (x == ("__debug__" : Str)) = false := by decide)
    (he : starEach (e :: es) (cxOf (CXR P w) P w K mg base N qual scope f cd A outer s₀ H₀ E).env = (false, eval e (cxOf (CXR P w) P w K mg base N qual scope f cd A outer s₀ H₀ E).env) :: starEach es (cxOf (CXR P w) P w K mg base N qual scope f cd A outer s₀ H₀ E).env := by rfl)
    (hpl : (backTo cpos (starEach es (cxOf (CXR P w) P w K mg base N qual scope f cd A outer s₀ H₀ E).env)).any (·.1) = false := by rfl) :
    DS (cxOf (CXR P w) P w K mg base N qual scope f cd A outer s₀ H₀ E) E (.Raise (some (.Call (.Name x np) (e :: es) [] cpos)) none pos) (tRaise E C t) (rse x m) := by
  refine ⟨ps_raise hg hm hq ha.p hd he hpl, ?_⟩
  intro F0 H0 F H σ ρ rr
  refine (ha.s F0 H0 F H σ ρ rr).stm (w' := fun vs H1 _ => vs.length ≤ 1000 ∧ E (.ref C) none H1) rr.g fun ds ed F1 H1 vs g1 rs => ?_
  exact fun D q => ⟨by rw [rs.length, ha.n ρ ds ed]; exact hn, q F1 H1 C (rr.g.trans g1) hm⟩
theorem rep_start {F H : Hp} {vs : List V} {ds : List D} (s : Same F H) (r : Rps K mg F vs ds) : Rep K mg F H F H (start N vs) (ev0 N.length ds) := by
  have hl := r.length
  have key : ∀ (i : Nat) (c : Cl), (ev0 N.length ds)[i]? = some c → c = .no ∨ ∃ d, ds[i]? = some d ∧ c = .im d := by
    intro i c e
    rw [ev0_eq] at e
    by_cases hi : i < ds.length
    · rw [List.getElem?_append_left (by simpa using hi), List.getElem?_map, List.getElem?_eq_getElem hi] at e
      exact .inr ⟨ds[i], List.getElem?_eq_getElem hi, (Option.some.inj e).symm⟩
    · rw [List.getElem?_append_right (by simpa using hi), List.getElem?_replicate] at e
      split at e
      · exact .inl (Option.some.inj e).symm
      · cases e
  refine ⟨.refl s, ?_, fun i d e => ?_, fun i ds' e => ?_, fun i j ds' es' a e => ?_⟩
  · rw [ev0_eq]
    unfold start
    simp [hl]
  · rcases key i _ e with z | ⟨d', e1, z⟩
    · cases z
    · cases z
      obtain ⟨v, e2, rv⟩ := r.get e1
      refine ⟨v, ?_, rv⟩
      have hi : i < vs.length := (List.getElem?_eq_some_iff.mp e2).1
      unfold start
      rw [List.getElem?_append_left (by simpa using hi), List.getElem?_map, e2]
      rfl
  · rcases key i _ e with z | ⟨d', e1, z⟩ <;> cases z
  · rcases key i _ e with z | ⟨d', e1, z⟩ <;> cases z
theorem okD {st : Stmt} {fd : FuncData} {k : Nat} {mb : MS} (F : Fun K x x st f fd) (S : FnScope N ps (defScope st))
    (h : ∀ (cdv : Value) (A : Around) (outer : List Env) (s : Shared) (H : Hp) (E : XK), Room k (A.deeper (envOfC x (defScope st) s.heap.objs.size f cdv)) → ∃ t, DSs (cxOf (CXR P w) P w K mg base N x (defScope st) f cdv A outer s H E) E (defBody st) t mb) :
    FnOk P w K mg base (CXR P w) (k + 1) f fd ps (spD K mg ps.length (fn N.length mb)) := by
  obtain ⟨oc, od, kV, doc, pm, an, cdv, ct, osl, rfl, lk, hcd⟩ := F.ex
  refine fn_of lk hcd S (fun vs H Q E q => q.1) fun A outer s H vs Q E hr hsp => ?_
  obtain ⟨t, hd⟩ := h cdv A outer s H E hr
  refine ⟨t, hd.p, ?_⟩
  obtain ⟨_, F0, ds, s0, rs, hb, hok, hex⟩ := hsp
  have z := hd.s F0 H F0 H (start N vs) (ev0 N.length ds) (rep_start s0 rs)
  unfold fn at hb hok hex
  cases e : mb (ev0 N.length ds) with
  | ok fl =>
    rw [e] at z hb hok hex
    cases fl with
    | nx ρ => exact z _ fun F' H' σ' _ r' => hok .non rfl F' H' .non r'.g .non
    | rt d => exact z _ fun F' H' v g rv => hok d rfl F' H' v g rv
    | bk ρ => exact absurd rfl hb
    | ct ρ => exact absurd rfl hb
  | ex c =>
    rw [e] at z hex
    exact z _ fun F' H' C g hc => hex c rfl F' H' C g hc
  | bad => rw [e] at hb; exact absurd rfl hb
theorem _root_.L2.Def.cal {st : Stmt} {k : Nat} {mb : MS} (D : Def K mg x st ps) (S : FnScope N ps (defScope st))
    (h : ∀ (f : Addr) (cdv : Value) (A : Around) (outer : List Env) (s : Shared) (H : Hp) (E : XK), Room k (A.deeper (envOfC x (defScope st) s.heap.objs.size f cdv)) → ∃ t, DSs (cxOf (CXR P w) P w K mg base N x (defScope st) f cdv A outer s H E) E (defBody st) t mb) :
    Cal P w K mg base (k + 1) x ps (fn N.length mb) := by
  obtain ⟨f, fd, F, b, hm⟩ := D.ex
  exact ⟨f, fd, okD F S (h f), b, F.kp, hm⟩
end
theorem cxr_no {P : Program} {w : World} {l : List Env} {H : Hp} {s s' : Shared} {e : Value} (h : CXR P w l H s (fun _ _ _ => False) e s') : False := by
  obtain ⟨_, _, _, _, _, q⟩ := h
  exact q
theorem rps_ints {K : PySem.W.Frag} {mg : Str → Option Value} {H : Hp} : ∀ ns : List Int, Rps K mg H (ns.map V.int) (ns.map D.int)
  | [] => .nil
  | n :: r => .cons (.int n) (rps_ints r)
end L2.Ds
namespace L2.Ds
open PySem PySem.Spec PyProof.Rows Dl
theorem d_callC {X : Cx} {N : List Str} {scope : Scope} {cl : List (Str × Addr)} {C' : Addr} {s : Shared} {H : Hp} {fp : List Addr} {pn : List (Addr × Obj)} {e : Expr} {es : List Expr} {t : TA} {m : MA} {n k l : Nat} {x : Str} {ps : List Str} {f : List D → Res D} {p pos : Pos}
    (C : Cal X.prog X.w X.K X.mg X.base k x ps f) (hr : Room l X.A) (hn : k ≤ l) (hg : Gl (cxComp X N scope cl C' s H fp pn) x) (ha : DA (cxComp X N scope cl C' s H fp pn) E0 n (e :: es) t m) (hps : ps.length = n := by rfl)
    (hdb : (x == ("__debug__" : Str)) = false := by decide) (he : starEach (e :: es) (cxComp X N scope cl C' s H fp pn).env = (false, eval e (cxComp X N scope cl C' s H fp pn).env) :: starEach es (cxComp X N scope cl C' s H fp pn).env := by rfl)
    (hpl : (backTo pos (starEach es (cxComp X N scope cl C' s H fp pn).env)).any (·.1) = false := by rfl) :
    DE (cxComp X N scope cl C' s H fp pn) E0 (.Call (.Name x p) (e :: es) [] pos) (tCall (spD X.K X.mg ps.length f) [] E0 t) (on f m) :=
  d_call (X := cxComp X N scope cl C' s H fp pn) C hr hn hg pass_c ha hps hdb he hpl
end L2.Ds

namespace L2.Ds
open PySem PySem.Spec PyProof.Rows Dl
section
variable {X : Cx} {E : XK}
theorem Rps.three {K : PySem.W.Frag} {mg : Str → Option Value} {H : Hp} : ∀ {xs : List V} {d e f : D}, Rps K mg H xs [d, e, f] → ∃ x y z, xs = [x, y, z] ∧ Rp K mg H x d ∧ Rp K mg H y e ∧ Rp K mg H z f
  | _, _, _, _, .cons h (.cons h' (.cons h'' .nil)) => ⟨_, _, _, rfl, h, h', h''⟩
structure TabOk (K : PySem.W.Frag) (mg : Str → Option Value) (tc : List (Str × Str × Bool)) (tt : List (Str × String × Bool)) : Prop where
  c : ∀ e ∈ tc, ∃ D C, mg e.1 = some (.ref D) ∧ mg e.2.1 = some (.ref C) ∧ ClsOk K D ∧ PySem.W.kitOne K (.ref D) (.ref C) = some e.2.2
  t : ∀ e ∈ tt, ∃ D, mg e.1 = some (.ref D) ∧ ClsOk K D ∧ PySem.W.kitOne K (.ref D) (.type e.2.1) = some e.2.2
end
section
variable {K : PySem.W.Frag} {mg : Str → Option Value} {F0 H0 F H : Hp} {σ : St} {ρ : Ev}
end
section
variable {X : Cx} {E : XK} {k l i j : Nat} {x y n : Str} {Cy : Addr} {ps : List Str} {f : List D → Res D} {t : TA} {m : MA} {u : Addr → TS} {b : MS} {e : Expr} {es : List Expr} {p yp cpos epos hpos pos : Pos} {b₀ : Stmt} {suite : List Stmt} {hits : List Str}
end
end L2.Ds

namespace L2.Ds
open PySem PySem.Spec PyProof.Rows Dl
section
variable {X : Cx} {E : XK}
theorem vals_ints : ∀ (ns : List Int) (its : List Value), Vals (ns.map V.int) its → ∃ xs : List (Int × Tok), its = xs.map (fun p => Value.int p.1 p.2) ∧ xs.map (·.1) = ns
  | [], _, .nil => ⟨[], rfl, rfl⟩
  | n :: r, _, .cons h t => by
    obtain ⟨tk, rfl⟩ := h
    obtain ⟨xs, rfl, rfl⟩ := vals_ints r _ t
    exact ⟨(n, tk) :: xs, rfl, rfl⟩
theorem d_rev {a st : Expr} {ta ts : TE} {ma : ME} {p2 pos : Pos} (ha : DE X E a ta ma) (hs : DE X E st ts (o1 dNeg (c (.int 1)))) : DE X E (.Subscript a (.Slice none none (some st) p2) pos) (tRev X.K ta ts) (o1 dRev ma) := by
  refine ⟨pe_rev ha.p hs.p, ?_⟩
  intro F0 H0 F H σ ρ rr
  refine (ha.s F0 H0 F H σ ρ rr).bind (R' := Rp X.K X.mg) (w' := fun x H1 Q => ts σ H1 fun y H2 => y = .int (-1) ∧ ∃ a xs, x = .ref a ∧ SqL X.K H2 a xs ∧ ∀ p, H2 p = none → (Q : VK) (V.ref p) (upd H2 p (.lst xs.reverse))) fun F1 H1 x dx g1 rx => ?_
  cases dx with
  | lst es =>
    cases rx with
    | lst h rs =>
      have z := hs.s F0 H0 F1 H1 σ ρ (rr.gr g1)
      exact fun Q q => z _ fun F2 H2 y g2 ry => by
        cases ry
        exact ⟨rfl, _, _, rfl, g2.s.seq (g2.f.seq h), fun p hp => q _ _ _ (g2.trans (.new g2.s hp _)) (.lst (SqL.of upd_same) (((rs.same g2.f).rev).same (same_new (g2.s.free hp) _)))⟩
  | _ => trivial
end
section
variable {K : PySem.W.Frag} {mg : Str → Option Value} {E : XK} {i : Nat}
theorem ss_setO {t : TA} {m : MA} {n : Nat} (ha : SA K mg E t m) (hl : SAn n m) (hn : n ≤ sizeLine) : SS K mg E (tAsg (tLst t) (gName i)) (stO i (mls m)) := by
  intro F0 H0 F H σ ρ rr
  have h := ha F0 H0 F H σ ρ rr
  unfold stO mls
  cases e : m ρ with
  | ok ds =>
    rw [e] at h
    exact fun D q => h _ fun F' H' xs g rs => ⟨by rw [rs.length, hl ρ ds e]; exact hn, fun p hp => q F' _ _ g.f ((rr.gr g).own i hp rs)⟩
  | ex c =>
    rw [e] at h
    exact fun D q => h _ fun F' H' C g hC => q F' H' C (rr.g.trans g) hC
  | bad => trivial
end
section
variable {X : Cx} {E : XK} {a b e c' tg iter elt : Expr} {es ts : List Expr} {ta tb tc te : TE} {ma mb mc me : ME} {sa sb : TT} {na nb : MB} {t : TA} {m : MA} {pos spos pos' : Pos} {n i j : Nat} {x y : Str}
theorem ds_setO (hN : X.N.Nodup) (hi : X.N[i]? = some x) (hx : Loc X.env.scope x) (ha : DA X E n es t m) (hn : n ≤ sizeLine := by decide) (hs : swapsWith (.List es pos) (some (.Name x pos')) spos.line X.env = pure false := by rfl) (hf : X.fn x = true ∨ X.env.scope.names.lookup x = some .local := by first | exact .inl rfl | exact .inr rfl | assumption) :
    DS X E (.Assign [.Name x pos'] (.List es pos) spos) (tAsg (tLst t) (gName i)) (stO i (mls m)) := ⟨ps_set hN hi hx (pe_lst ha.p) hs hf, ss_setO ha.s ha.n hn⟩
theorem ds_app (i : Nat) {np apos cpos : Pos} (he : DE X E e te me) (hN : X.N[i]? = some x := by rfl) (hv : Vis X.env.scope x := by first | exact Or.inl rfl | exact Or.inr (Or.inl rfl) | exact Or.inr (Or.inr rfl)) (hd : (x == ("__debug__" : Str)) = false := by decide)
    (hcd : (x == ("__classdict__" : Str)) = false := by decide) (hbase : attributeBase (.Name x np) "append" X.env (eval (.Name x np) X.env) = eval (.Name x np) X.env := by rfl)
    (hfew : ((backTo cpos (starEach [e] X.env)).all (fun x => !x.1) && (backToKw cpos (keywordEach [] X.env)).all (fun x => x.1.isSome)
      && decide ([e].length + ([] : List Keyword).length + (if ([] : List Keyword).isEmpty then 0 else 1) < 30)) = true := by rfl)
    (hline : (apos.endLine == cpos.line) = true := by rfl) (hs : starEach [e] X.env = (false, eval e X.env) :: starEach [] X.env := by rfl) (hplain : (backTo cpos (starEach [] X.env)).any (·.1) = false := by rfl)
    (hsw : swapsWith (.Call (.Attribute (.Name x np) "append" apos) [e] [] cpos) none spos.line X.env = pure false := by rfl) :
    DS X E (.Expr (.Call (.Attribute (.Name x np) "append" apos) [e] [] cpos) spos) (tDrop (tBM X.K "list" rAppend (tVar i) (tCons te tNil))) (app i me) :=
  ⟨ps_expr (pe_bm PySem.F.plainAttrs_list PySem.F.slot_list_append PySem.F.type_list_append mt_append (pe_var hN hv hd hcd) (pa_cons he.p pa_nil hs) hbase hfew hline hs hplain) hsw,
   ss_app he.s fun H a xs h => .inl ⟨rfl, xs, SqL.of h⟩⟩
end
end L2.Ds

namespace L2
open PySem PySem.Spec PyProof.Rows PySem.Calls
section
variable {X : Cx} {k : Nat} {x y : Str} {Cy fa : Addr} {fd : FuncData} {ps : List Str} {sp : Sp} {t : TA} {u : Addr → TS} {e : Expr} {es : List Expr} {p yp cpos epos hpos pos : Pos} {b₀ : Stmt} {suite : List Stmt}
end
end L2
namespace L2.Ds
open PySem PySem.Spec PyProof.Rows Dl
section
variable {K : PySem.W.Frag} {mg : Str → Option Value}
noncomputable def del (F : Hp) (a : Addr) : Hp := fun b => if b = a then none else F b
theorem del_at {F : Hp} {a : Addr} : del F a a = none := if_pos rfl
theorem del_ne {F : Hp} {a b : Addr} (h : b ≠ a) : del F a b = F b := if_neg h
theorem Rep.look {F0 H0 F H : Hp} {σ : St} {ρ : Ev} {i : Nat} {ds : List D} (r : Rep K mg F0 H0 F H σ ρ) (e : ρ[i]? = some (.ow ds)) :
    ∃ F', Rep K mg F0 H0 F' H σ (ρ.set i (.im (.lst ds))) ∧ ∀ F1 H1, Gr F' H F1 H1 → ∃ F2, Gr F H F2 H1 := by
  obtain ⟨a, xs, e2, e4, e5, e3, hr⟩ := r.ow i ds e
  have sF : Same F (upd F a (.lst xs)) := same_new e5 _
  refine ⟨upd F a (.lst xs), ⟨⟨r.g.f.trans sF, fun b o q => ?_, fun b o q1 q2 => ?_⟩, by rw [List.length_set]; exact r.len, fun j u q => ?_, fun j es q => ?_, fun j k es ts b q1 q2 q3 q4 => ?_⟩, fun F1 H1 g => ⟨del F1 a, ⟨fun b o q => ?_, fun b o q => ?_, fun b o q1 q2 => ?_⟩⟩⟩
  · by_cases hb : b = a
    · subst hb; rw [upd_same] at q; cases q; exact e3
    · rw [upd_ne hb] at q; exact r.g.s b o q
  · rw [upd_ne (ne_of_none q2 e4)]; exact r.g.o b o q1 q2
  · rcases set_get q with ⟨rfl, z, _⟩ | ⟨_, q⟩
    · cases z
      exact ⟨.ref a, e2, .lst (SqL.of upd_same) (hr.same sF)⟩
    · obtain ⟨x, h1, h2⟩ := r.im j u q
      exact ⟨x, h1, h2.same sF⟩
  · rcases set_get q with ⟨_, z, _⟩ | ⟨hij, q⟩
    · cases z
    · obtain ⟨b, ys, h1, h2, h3, h4, h5⟩ := r.ow j es q
      have nb : b ≠ a := by
        rintro rfl
        exact hij (r.ne i j ds es b e q e2 h1)
      exact ⟨b, ys, h1, h2, by rw [upd_ne nb]; exact h3, h4, h5.same sF⟩
  · rcases set_get q1 with ⟨_, z, _⟩ | ⟨_, q1⟩
    · cases z
    · rcases set_get q2 with ⟨_, z, _⟩ | ⟨_, q2⟩
      · cases z
      · exact r.ne j k es ts b q1 q2 q3 q4
  · rw [del_ne (ne_of_none q e5)]; exact g.f b o (sF b o q)
  · by_cases hb : b = a
    · subst hb; rw [del_at] at q; cases q
    · rw [del_ne hb] at q; exact g.s b o q
  · by_cases hb : b = a
    · subst hb
      rw [e3] at q2; cases q2
      exact ⟨del_at, g.s _ _ (g.f _ _ upd_same)⟩
    · rw [del_ne hb]
      exact g.o b o (by rw [upd_ne hb]; exact q1) q2
end
section
variable {X : Cx} {E : XK} {k l i j : Nat} {x y : Str} {Cy : Addr} {ps : List Str} {f : List D → Res D} {t : TA} {m : MA} {u : Addr → TS} {b : MS} {e : Expr} {es : List Expr} {p yp cpos epos hpos pos : Pos} {b₀ : Stmt} {suite : List Stmt} {hits : List Str} {te : TE} {me : ME} {tt : TT} {mt : MB}
end
end L2.Ds

namespace L2.Ds
open PySem PySem.Spec PyProof.Rows Dl
section
variable {X : Cx} {pins : List (Addr × Obj)} {σ : St} {H : Hp} {s : Shared}
end
section
variable {X : Cx} {E : XK}
variable {a b : Expr} {ta tb : TE} {ma mb : ME} {pos : Pos}
end
end L2.Ds

namespace L2.Ds
open PySem PySem.Spec PyProof.Rows Dl
noncomputable def AnsO (K : PySem.W.Frag) (mg : Str → Option Value) (E : XK) (F0 H0 : Hp) (r : Res (List D)) (w : Ends → Prop) : Prop :=
  match r with
  | .ok ds => ∀ D : Ends, (∀ F' H' a xs, Gr F0 H0 F' H' → H' a = none → Rps K mg F' xs ds → D.rt (.ref a) (upd H' a (.lst xs))) → w D
  | .ex c => ∀ D : Ends, (∀ F' H' C, Gr F0 H0 F' H' → mg c = some (.ref C) → E (.ref C) none H') → w D
  | .bad => True
structure DSo (X : Cx) (E : XK) (sts : List Stmt) (t : TS) (m : Ev → Res (List D)) : Prop where
  p : PSs X sts t
  s : ∀ F0 H0 F H σ ρ, Rep X.K X.mg F0 H0 F H σ ρ → AnsO X.K X.mg E F0 H0 (m ρ) (fun D => t D σ H)
section
variable {X : Cx} {E : XK} {a b e c' tg iter elt : Expr} {es ts : List Expr} {ta tb tc te : TE} {ma mb mc me : ME} {sa sb : TT} {na nb : MB} {t : TA} {m : MA} {pos spos pos' : Pos} {n i j : Nat} {x y : Str}
end
noncomputable def spO (K : PySem.W.Frag) (mg : Str → Option Value) (n : Nat) (f : List D → Res D) : Sp := fun vs H Q E => vs.length = n ∧ ∃ F ds, Same F H ∧ Rps K mg F vs ds ∧ f ds ≠ .bad ∧
  (∀ d, f ds = .ok d → ∃ es, d = .lst es ∧ ∀ F' H' a xs, Gr F H F' H' → H' a = none → Rps K mg F' xs es → Q (.ref a) (upd H' a (.lst xs))) ∧ (∀ c, f ds = .ex c → ∀ F' H' C, Gr F H F' H' → mg c = some (.ref C) → E (.ref C) none H')
noncomputable def LstOnly (f : List D → Res D) : Prop := ∀ ds d, f ds = .ok d → ∃ es, d = .lst es
theorem fnO_lst {n : Nat} {m : Ev → Res (List D)} : LstOnly (fnO n m) := by
  intro ds d h
  unfold fnO at h
  cases e : m (ev0 n ds) with
  | ok es => rw [e] at h; cases h; exact ⟨es, rfl⟩
  | ex c => rw [e] at h; cases h
  | bad => rw [e] at h; cases h
theorem spO_of {K : PySem.W.Frag} {mg : Str → Option Value} {n : Nat} {f : List D → Res D} (l : LstOnly f) : ∀ vs H Q E, spD K mg n f vs H Q E → spO K mg n f vs H Q E := by
  rintro vs H Q E ⟨h1, F, ds, s, rs, nb, ok, ex⟩
  refine ⟨h1, F, ds, s, rs, nb, fun d e => ?_, ex⟩
  obtain ⟨es, rfl⟩ := l ds d e
  exact ⟨es, rfl, fun F' H' a xs g hn rx => ok _ e _ _ _ (g.trans (.new g.s hn _)) (.lst (SqL.of upd_same) (rx.same (same_new (g.s.free hn) _)))⟩
structure CalO (P : Program) (w : World) (K : PySem.W.Frag) (mg : Str → Option Value) (base : Heap) (n : Nat) (x : Str) (ps : List Str) (m : List D → Res D) : Prop where
  ex : ∃ (f : Addr) (fd : FuncData), FnOk P w K mg base (CXR P w) n f fd ps (spO K mg ps.length m) ∧ Binds K fd ps [] ∧ PySem.W.keepIn K (.ref f) = true ∧ mg x = some (.ref f)
  l : LstOnly m
theorem CalO.cal {P : Program} {w : World} {K : PySem.W.Frag} {mg : Str → Option Value} {base : Heap} {n : Nat} {x : Str} {ps : List Str} {m : List D → Res D} (C : CalO P w K mg base n x ps m) : Cal P w K mg base n x ps m := by
  obtain ⟨f, fd, F, b, k, h⟩ := C.ex
  exact ⟨f, fd, F.imp (spO_of C.l), b, k, h⟩
section
variable {P : Program} {w : World} {K : PySem.W.Frag} {mg : Str → Option Value} {base : Heap} {N ps : List Str} {x : Str}
theorem _root_.L2.Def.calO {st : Stmt} {k : Nat} {m : Ev → Res (List D)} (Df : Def K mg x st ps) (S : FnScope N ps (defScope st))
    (h : ∀ (f : Addr) (cdv : Value) (A : Around) (outer : List Env) (s : Shared) (H : Hp) (E : XK), Room k (A.deeper (envOfC x (defScope st) s.heap.objs.size f cdv)) → ∃ t, DSo (cxOf (CXR P w) P w K mg base N x (defScope st) f cdv A outer s H E) E (defBody st) t m) :
    CalO P w K mg base (k + 1) x ps (fnO N.length m) := by
  obtain ⟨f, fd, F, b, hm⟩ := Df.ex
  refine ⟨⟨f, fd, ?_, b, F.kp, hm⟩, fnO_lst⟩
  obtain ⟨oc, od, kV, doc, pm, an, cdv, ct, osl, rfl, lk, hcd⟩ := F.ex
  refine fn_of lk hcd S (fun vs H Q E q => q.1) fun A outer s H vs Q E hr hsp => ?_
  obtain ⟨t, hd⟩ := h f cdv A outer s H E hr
  refine ⟨t, hd.p, ?_⟩
  obtain ⟨_, F0, ds, s0, rs, hb, hok, hex⟩ := hsp
  have z := hd.s F0 H F0 H (start N vs) (ev0 N.length ds) (rep_start s0 rs)
  unfold fnO at hb hok hex
  cases e : m (ev0 N.length ds) with
  | ok es =>
    rw [e] at z hok
    obtain ⟨es', e', q⟩ := hok _ rfl
    cases e'
    exact z _ fun F' H' a xs g hn rx => q F' H' a xs g hn rx
  | ex c =>
    rw [e] at z hex
    exact z _ fun F' H' C g hc => hex c rfl F' H' C g hc
  | bad => rw [e] at hb; exact absurd rfl hb
end
section
variable {X : Cx} {E : XK} {k l n i : Nat} {x y : Str} {ps : List Str} {f : List D → Res D} {t : TA} {m : MA} {e : Expr} {es : List Expr} {p pos pos' spos : Pos}
end
end L2.Ds

namespace Dl
open PySem
noncomputable def mLst (f : List D → D → Res D) (a b : ME) : ME := fun ρ => (a ρ).bind fun x => (lstO x).bind fun xs => (b ρ).bind fun y => f xs y
noncomputable def ext (i : Nat) (e : ME) : MS := fun ρ => (getO ρ[i]?).bind fun xs => (e ρ).bind fun d => (lstO d).bind fun ys => if xs.length + ys.length ≤ LIM then .ok (.nx (ρ.set i (.ow (xs ++ ys)))) else .bad
noncomputable def trips : List D → List D → List D → List D
  | x :: xs, y :: ys, z :: zs => .tup [x, y, z] :: trips xs ys zs
  | _, _, _ => []
noncomputable def zip3 : List D → Res (List D)
  | [x, y, z] => (seqD x).bind fun xs => (seqD y).bind fun ys => (seqD z).bind fun zs => .ok (trips xs ys zs)
  | _ => .bad
noncomputable def iZip3 (a : MA) : MI := fun ρ => (a ρ).bind zip3
noncomputable def lz3 (ds : List D) : Res D := (zip3 ds).bind fun xs => .ok (.lst xs)
end Dl

namespace L2.Ds
open PySem PySem.Spec PyProof.Rows Dl
section
variable {X : Cx} {pins : List (Addr × Obj)} {σ : St} {H : Hp} {s : Shared}
end
section
variable {X : Cx} {E : XK}
end
section
variable {K : PySem.W.Frag} {mg : Str → Option Value} {E : XK} {ta tb te : TE} {ma mb me : ME} {F0 H0 F H : Hp}
theorem Rep.put {σ : St} {ρ : Ev} {i : Nat} {ds es : List D} {a : Addr} {xs ys : List V} (r : Rep K mg F0 H0 F H σ ρ) (e : ρ[i]? = some (.ow ds)) (e2 : σ[i]? = some (some (.ref a))) (e3 : H a = some (.lst xs)) (e4 : H0 a = none) (e5 : F a = none) (hr : Rps K mg F ys es) :
    Rep K mg F0 H0 F (upd H a (.lst ys)) σ (ρ.set i (.ow es)) := by
  refine ⟨⟨r.g.f, fun b o q => ?_, fun b o q1 q2 => ?_⟩, by rw [List.length_set]; exact r.len, fun j u q => ?_, fun j es q => ?_, fun j k es ts b q1 q2 q3 q4 => ?_⟩
  · rw [upd_ne (ne_of_none q e5)]; exact r.g.s b o q
  · rw [upd_ne (ne_of_none q2 e4)]; exact r.g.o b o q1 q2
  · rcases set_get q with ⟨_, z, _⟩ | ⟨_, q⟩
    · cases z
    · exact r.im j u q
  · rcases set_get q with ⟨rfl, z, l⟩ | ⟨hij, q⟩
    · cases z
      exact ⟨a, _, e2, e4, e5, upd_same, hr⟩
    · obtain ⟨b, ys, h1, h2, h3, h4, h5⟩ := r.ow j es q
      have nb : b ≠ a := by
        rintro rfl
        exact hij (r.ne i j ds es b e q e2 h1)
      exact ⟨b, ys, h1, h2, h3, by rw [upd_ne nb]; exact h4, h5⟩
  · have o1 : ∃ es', ρ[j]? = some (.ow es') := by
      rcases set_get q1 with ⟨rfl, _, _⟩ | ⟨_, q⟩
      · exact ⟨_, e⟩
      · exact ⟨_, q⟩
    have o2 : ∃ es', ρ[k]? = some (.ow es') := by
      rcases set_get q2 with ⟨rfl, _, _⟩ | ⟨_, q⟩
      · exact ⟨_, e⟩
      · exact ⟨_, q⟩
    obtain ⟨_, o1⟩ := o1
    obtain ⟨_, o2⟩ := o2
    exact r.ne j k _ _ b o1 o2 q3 q4
end
section
variable {X : Cx} {E : XK} {k i : Nat} {o e k' a b c' d' : Expr} {to te tk ta tb tc td : TE} {mo me mk ma mb mc md : ME} {x : Str} {np apos cpos spos pos spos' : Pos}
end
section
variable {X : Cx} {E : XK}
end
end L2.Ds

namespace L2
open PySem PySem.Spec PyProof.Rows
noncomputable abbrev Z3 (h : Heap) (z TI TO : Addr) (f0 f1 : Value) : Prop := h.get? z = some { cls := .type "zip", dict := none, data := .fields #[f0, f1, .bool false, .ref TI, .ref TO], slots := #[] }
noncomputable abbrev Tr (h : Heap) (T : Addr) (a b c : Value) : Prop := h.get? T = some { cls := .type "tuple", data := .seq #[a, b, c] }
noncomputable def Mk3 (f0 : Value) : Prop := f0 = .none ∨ ∃ T : Nat, f0 = rawInt T
structure Ap3 (z TI TO i1 i2 i3 l1 l2 l3 : Addr) : Prop where
  o1 : @LT.lt Nat _ i1 i2
  o2 : @LT.lt Nat _ i2 i3
  o3 : @LT.lt Nat _ i3 TI
  o4 : @LT.lt Nat _ TI TO
  o5 : @LT.lt Nat _ TO z
  a1 : @LT.lt Nat _ l1 i1
  a2 : @LT.lt Nat _ l2 i1
  a3 : @LT.lt Nat _ l3 i1
section
variable {prog : Program} {w : World} {A : Around} {E : Value → Shared → Prop} {s : Shared}
end
noncomputable abbrev j1 (p : Bool) (h : Heap) (l1 : Addr) : Heap := h.push (itObj p l1)
noncomputable abbrev j2 (p q : Bool) (h : Heap) (l1 l2 : Addr) : Heap := (j1 p h l1).push (itObj q l2)
section
variable {prog : Program} {w : World} {A : Around} {E : Value → Shared → Prop} {s : Shared}
end
end L2

namespace L2
open PySem PySem.Spec PyProof.Rows
noncomputable def At3 (p q r : Bool) (z TI TO i1 i2 i3 a b c : Addr) (i : Nat) (h : Heap) : Prop :=
  ∃ f0 f1 u v w, Z3 h z TI TO f0 f1 ∧ Mk3 f0 ∧ Tr h TI (.ref i1) (.ref i2) (.ref i3) ∧ Tr h TO u v w ∧ ItK p h i1 a i ∧ ItK q h i2 b i ∧ ItK r h i3 c i
theorem At3.obj {p q r : Bool} {z TI TO i1 i2 i3 a b c : Addr} {i : Nat} {h : Heap} (st : At3 p q r z TI TO i1 i2 i3 a b c i h) {x : Addr} (hx : x ∈ [z, TI, TO, i1, i2, i3]) : ∃ o, h.get? x = some o ∧ ∀ v, o.data ≠ .cell v := by
  obtain ⟨f0, f1, u, v, w, kz, kf, kTI, kTO, m1, m2, m3⟩ := st
  obtain ⟨o1, _, e1, d1⟩ := m1.flds
  obtain ⟨o2, _, e2, d2⟩ := m2.flds
  obtain ⟨o3, _, e3, d3⟩ := m3.flds
  simp only [List.mem_cons, List.not_mem_nil, or_false] at hx
  rcases hx with rfl | rfl | rfl | rfl | rfl | rfl
  · exact ⟨_, kz, fun v z => by cases z⟩
  · exact ⟨_, kTI, fun v z => by cases z⟩
  · exact ⟨_, kTO, fun v z => by cases z⟩
  · exact ⟨_, e1, fun v z => by rw [d1] at z; cases z⟩
  · exact ⟨_, e2, fun v z => by rw [d2] at z; cases z⟩
  · exact ⟨_, e3, fun v z => by rw [d3] at z; cases z⟩
theorem At3.keep {p q r : Bool} {z TI TO i1 i2 i3 a b c : Addr} {i : Nat} {h h' : Heap} (st : At3 p q r z TI TO i1 i2 i3 a b c i h) (k : ∀ x ∈ [z, TI, TO, i1, i2, i3], ∀ o, h.get? x = some o → h'.get? x = some o) : At3 p q r z TI TO i1 i2 i3 a b c i h' := by
  obtain ⟨f0, f1, u, v, w, kz, kf, kTI, kTO, m1, m2, m3⟩ := st
  exact ⟨f0, f1, u, v, w, k z (by simp) _ kz, kf, k TI (by simp) _ kTI, k TO (by simp) _ kTO, m1.at fun o e => k i1 (by simp) o e, m2.at fun o e => k i2 (by simp) o e, m3.at fun o e => k i3 (by simp) o e⟩
section
variable {X : Cx} {B : Around} {pins : List (Addr × Obj)} {σ : St} {H : Hp} {s : Shared} {p q r : Bool} {z TI TO i1 i2 i3 a b c : Addr} {i : Nat}
end
end L2

namespace L2
open PySem PySem.Spec PyProof.Rows
inductive Lay3 (H : Hp) : List (V × V × V) → List Addr → Hp → Prop
  | nil : Lay3 H [] [] H
  | snoc {ts : List (V × V × V)} {as : List Addr} {H' : Hp} {T : Addr} {x y u : V} (h : Lay3 H ts as H') (hT : H' T = none) : Lay3 H (ts ++ [(x, y, u)]) (as ++ [T]) (upd H' T (.tup [x, y, u]))
theorem Lay3.same {H H' : Hp} {ts : List (V × V × V)} {as : List Addr} (h : Lay3 H ts as H') : Same H H' := by
  induction h with
  | nil => exact fun _ _ e => e
  | snoc h hT ih => exact fun b o e => (by
      have e' := ih b o e
      rw [upd_ne (fun q => by subst q; rw [hT] at e'; cases e')]
      exact e')
section
variable {X : Cx} {pins : List (Addr × Obj)} {σ : St} {H : Hp} {p q r : Bool} {z TI TO i1 i2 i3 a b c S : Addr} {xs ys us : List V}
end
section
variable {X : Cx}
end
end L2

namespace L2.Ds
open PySem PySem.Spec PyProof.Rows Dl
section
variable {K : PySem.W.Frag} {mg : Str → Option Value} {F : Hp}
end
section
variable {X : Cx} {E : XK} {a b c : Expr} {n : Nat} {t : TA} {m : MA} {pos pos' lp p : Pos}
end
end L2.Ds

namespace Dl
open PySem
end Dl

namespace L2
open PySem PySem.Spec PyProof.Rows PySem.Calls
noncomputable abbrev TB := St → Hp → (Hp → Prop) → (Value → Hp → Prop) → Prop
noncomputable def PB (X : Cx) (body : List Stmt) (t : TB) : Prop :=
  ∀ (pins : List (Addr × Obj)) (s : Shared) (σ : St) (H : Hp) (N : Hp → Prop) (XE : Value → Hp → Prop), Inv X pins σ H s → t σ H N XE → wpAny (model X.prog X.w) X.A (execs body X.env) (fun f s' => f = .next ∧ ∃ H2, Inv X pins σ H2 s' ∧ N H2) (fun ev s' => ∃ s1 H1 a cls H', ev = .ref a ∧ Inv X pins σ H1 s1 ∧ Fly X.prog X.w X.stack H1 H' s1 s' a cls ∧ XE cls H') s
section
variable {X : Cx} {k i : Nat} {x y n : Str} {Cy fa : Addr} {fd : FuncData} {ps : List Str} {sp : Sp} {t : TA} {tb tb' : TB} {tc : TT} {u : Addr → TS} {e c : Expr} {es : List Expr} {p yp cpos epos hpos pos : Pos} {b₀ : Stmt} {suite body bd be : List Stmt}
end
end L2
namespace L2.Ds
open PySem PySem.Spec PyProof.Rows PySem.Calls Dl
noncomputable def SB (K : PySem.W.Frag) (mg : Str → Option Value) (t : TB) (m : ME) : Prop := ∀ F0 H0 F H σ ρ, Rep K mg F0 H0 F H σ ρ → match m ρ with
  | .ok _ => ∀ (N : Hp → Prop) (XE : Value → Hp → Prop), (∀ F' H', Gr F H F' H' → N H') → t σ H N XE
  | .ex c => ∀ (N : Hp → Prop) (XE : Value → Hp → Prop), (∀ F' H' C, Gr F H F' H' → mg c = some (.ref C) → XE (.ref C) H') → t σ H N XE
  | .bad => True
structure DB (X : Cx) (body : List Stmt) (t : TB) (m : ME) : Prop where
  p : PB X body t
  s : SB X.K X.mg t m
section
variable {K : PySem.W.Frag} {mg : Str → Option Value}
end
section
variable {X : Cx} {E : XK} {k l i j : Nat} {x y n : Str} {Cy : Addr} {ps : List Str} {f : List D → Res D} {t : TA} {tb tb' : TB} {tc : TT} {nc : MB} {m : MA} {ma mb : ME} {u : Addr → TS} {b : MS} {e c : Expr} {es : List Expr} {p yp cpos epos hpos pos : Pos} {b₀ : Stmt} {suite body bd be : List Stmt} {hits : List Str}
end
end L2.Ds

namespace Dl
open PySem
noncomputable def rangeS (lo : Int) (n : Nat) : List D := (List.range n).map fun (k : Nat) => D.int (lo + (k : Int) * 2)
noncomputable def rng3 : List D → Res (List D)
  | [.int i, .int j, .int s] => if ((-1000000000 ≤ i ∧ i ≤ 1000000000) ∧ (-1000000000 ≤ j ∧ j ≤ 1000000000)) ∧ s = 2 then .ok (rangeS i ((j - i + 1) / 2).toNat) else .bad
  | _ => .bad
noncomputable def r3 (a : MA) : MI := fun ρ => (a ρ).bind rng3
end Dl

namespace L2
open PySem PySem.Spec PyProof.Rows
section
variable {X : Cx} {tg : Expr}
end
end L2
namespace L2.Ds
open PySem PySem.Spec PyProof.Rows PySem.Calls Dl
section
variable {K : PySem.W.Frag} {mg : Str → Option Value} {E : XK} {F : Hp}
end
section
variable {X : Cx} {E : XK} {a b c e tg : Expr} {es : List Expr} {t : TA} {m : MA} {n : Nat} {tb : TE} {mb : ME} {pos p lpos : Pos}
end
end L2.Ds

namespace Dl
open PySem
end Dl

namespace L2.Ds
open PySem PySem.Spec PyProof.Rows PySem.Calls Dl
noncomputable def AnsK (i : Nat) (σ : St) (K : PySem.W.Frag) (mg : Str → Option Value) (E : XK) (F0 H0 F : Hp) (r : Res Fl) (w : Ends → Prop) : Prop :=
  match r with
  | .ok (.nx ρ) => ∀ D : Ends, (∀ F' H' σ', Same F F' → Rep K mg F0 H0 F' H' σ' ρ → σ'[i]? = σ[i]? → D.nx σ' H') → w D
  | .ok (.bk ρ) => ∀ D : Ends, (∀ F' H' σ', Same F F' → Rep K mg F0 H0 F' H' σ' ρ → σ'[i]? = σ[i]? → D.bk σ' H') → w D
  | .ok (.ct ρ) => ∀ D : Ends, (∀ F' H' σ', Same F F' → Rep K mg F0 H0 F' H' σ' ρ → σ'[i]? = σ[i]? → D.ct σ' H') → w D
  | .ok (.rt d) => ∀ D : Ends, (∀ F' H' x, Gr F0 H0 F' H' → Rp K mg F' x d → D.rt x H') → w D
  | .ex c => ∀ D : Ends, (∀ F' H' C, Gr F0 H0 F' H' → mg c = some (.ref C) → E (.ref C) none H') → w D
  | .bad => True
noncomputable def SSk (i : Nat) (K : PySem.W.Frag) (mg : Str → Option Value) (E : XK) (t : TS) (m : MS) : Prop := ∀ F0 H0 F H σ ρ, Rep K mg F0 H0 F H σ ρ → AnsK i σ K mg E F0 H0 F (m ρ) (fun D => t D σ H)
section
variable {K : PySem.W.Frag} {mg : Str → Option Value} {E : XK} {F0 H0 F H : Hp} {i : Nat} {σ : St} {ta : TE} {ma : ME}
theorem AnsK.mono {F1 : Hp} {r : Res Fl} {w : Ends → Prop} (s : Same F F1) (h : AnsK i σ K mg E F0 H0 F1 r w) : AnsK i σ K mg E F0 H0 F r w := by
  cases r with
  | ok f =>
    cases f with
    | nx ρ => exact fun D q => h D fun F' H' σ' s' r' => q F' H' σ' (s.trans s') r'
    | bk ρ => exact fun D q => h D fun F' H' σ' s' r' => q F' H' σ' (s.trans s') r'
    | ct ρ => exact fun D q => h D fun F' H' σ' s' r' => q F' H' σ' (s.trans s') r'
    | rt d => exact h
  | ex c => exact h
  | bad => trivial
end
structure DSk (X : Cx) (i : Nat) (E : XK) (st : Stmt) (t : TS) (m : MS) : Prop where
  p : PS X st t
  s : SSk i X.K X.mg E t m
structure DSsk (X : Cx) (i : Nat) (E : XK) (st : List Stmt) (t : TS) (m : MS) : Prop where
  p : PSs X st t
  s : SSk i X.K X.mg E t m
section
variable {X : Cx} {E : XK} {i j : Nat} {c' e tg : Expr} {sa : TT} {na : MB} {te : TE} {me : ME} {x y : Str} {pos' spos pos ipos tpos : Pos}
end
section
variable {X : Cx} {E : XK} {a b c d o : Expr} {ta tb tc td to : TE} {ma mb mc md mo : ME} {pos apos cpos : Pos}
end
end L2.Ds

namespace Dl
open PySem
end Dl

namespace L2.Ds
open PySem PySem.Spec PyProof.Rows Dl
noncomputable def Nw (F F' : Hp) : Nat → V → Prop
  | 0, _ => True
  | n + 1, x => ∃ a xs, x = .ref a ∧ F a = none ∧ F' a = some (.lst xs) ∧ ∀ y ∈ xs, Nw F F' n y
theorem Nw.up {F F' F'' : Hp} (s : Same F' F'') : ∀ {n : Nat} {x : V}, Nw F F' n x → Nw F F'' n x
  | 0, _, _ => trivial
  | _ + 1, _, ⟨a, xs, e, h1, h2, h3⟩ => ⟨a, xs, e, h1, s _ _ h2, fun y hy => Nw.up s (h3 y hy)⟩
section
variable {K : PySem.W.Frag} {mg : Str → Option Value} {E : XK} {F0 H0 F H : Hp} {σ : St} {ρ : Ev}
noncomputable def Ln (F' : Hp) (x : V) (d : D) : Prop := ∀ a xs, x = .ref a → F' a = some (.lst xs) → ∃ ds, d = .lst ds ∧ xs.length = ds.length
noncomputable def SEn (K : PySem.W.Frag) (mg : Str → Option Value) (E : XK) (n : Nat) (t : TE) (m : ME) : Prop := ∀ Fb F0 H0 F H σ ρ, Rep K mg F0 H0 F H σ ρ → Same Fb F → Ans mg E (fun F' x d => Rp K mg F' x d ∧ Nw Fb F' n x ∧ Ln F' x d) F H (m ρ) (t σ H)
end
structure DEn (X : Cx) (E : XK) (n : Nat) (e : Expr) (t : TE) (m : ME) : Prop where
  p : PE X e t
  s : SEn X.K X.mg E n t m
noncomputable def spN (K : PySem.W.Frag) (mg : Str → Option Value) (k n : Nat) (f : List D → Res D) : Sp := fun vs H Q E => vs.length = k ∧ ∃ F ds, Same F H ∧ Rps K mg F vs ds ∧ f ds ≠ .bad ∧
  (∀ d, f ds = .ok d → ∃ es, d = .lst es ∧ ∀ F' H' a xs, Gr F H F' H' → H' a = none → Rps K mg F' xs es → (∀ y ∈ xs, Nw F F' n y) → Q (.ref a) (upd H' a (.lst xs))) ∧ (∀ c, f ds = .ex c → ∀ F' H' C, Gr F H F' H' → mg c = some (.ref C) → E (.ref C) none H')
structure CalN (P : Program) (w : World) (K : PySem.W.Frag) (mg : Str → Option Value) (base : Heap) (k n : Nat) (x : Str) (ps : List Str) (m : List D → Res D) : Prop where
  ex : ∃ (f : Addr) (fd : FuncData), FnOk P w K mg base (CXR P w) k f fd ps (spN K mg ps.length n m) ∧ Binds K fd ps [] ∧ PySem.W.keepIn K (.ref f) = true ∧ mg x = some (.ref f)
  l : LstOnly m
section
variable {P : Program} {w : World} {K : PySem.W.Frag} {mg : Str → Option Value} {base : Heap} {N ps : List Str} {x : Str} {k n : Nat} {m : List D → Res D}
theorem CalN.calO (C : CalN P w K mg base k n x ps m) : CalO P w K mg base k x ps m := by
  obtain ⟨f, fd, F, b, kp, h⟩ := C.ex
  refine ⟨⟨f, fd, F.imp ?_, b, kp, h⟩, C.l⟩
  rintro vs H Q E ⟨h1, F, ds, s, rs, nb, ok, ex⟩
  refine ⟨h1, F, ds, s, rs, nb, fun d e => ?_, ex⟩
  obtain ⟨es, e', q⟩ := ok d e
  exact ⟨es, e', fun F' H' a xs g hn rx _ => q F' H' a xs g hn rx⟩
theorem CalN.cal (C : CalN P w K mg base k n x ps m) : Cal P w K mg base k x ps m := C.calO.cal
theorem CalO.new (C : CalO P w K mg base k x ps m) : CalN P w K mg base k 0 x ps m := by
  obtain ⟨f, fd, F, b, kp, h⟩ := C.ex
  refine ⟨⟨f, fd, F.imp ?_, b, kp, h⟩, C.l⟩
  rintro vs H Q E ⟨h1, F, ds, s, rs, nb, ok, ex⟩
  refine ⟨h1, F, ds, s, rs, nb, fun d e => ?_, ex⟩
  obtain ⟨es, e', q⟩ := ok d e
  exact ⟨es, e', fun F' H' a xs g hn rx => q F' H' a xs g hn rx fun _ _ => trivial⟩
end
section
variable {X : Cx} {E : XK} {k l n i nn : Nat} {x y : Str} {ps : List Str} {f : List D → Res D} {t : TA} {m : MA} {e : Expr} {es : List Expr} {p pos pos' spos : Pos}
end
section
variable {K : PySem.W.Frag} {mg : Str → Option Value} {E : XK} {F0 H0 F H : Hp} {σ : St} {ρ : Ev}
noncomputable def AnsN (K : PySem.W.Frag) (mg : Str → Option Value) (E : XK) (n : Nat) (F0 H0 : Hp) (r : Res (List D)) (w : Ends → Prop) : Prop :=
  match r with
  | .ok ds => ∀ D : Ends, (∀ F' H' a xs, Gr F0 H0 F' H' → H' a = none → Rps K mg F' xs ds → (∀ y ∈ xs, Nw F0 F' n y) → D.rt (.ref a) (upd H' a (.lst xs))) → w D
  | .ex c => ∀ D : Ends, (∀ F' H' C, Gr F0 H0 F' H' → mg c = some (.ref C) → E (.ref C) none H') → w D
  | .bad => True
end
structure DSn (X : Cx) (E : XK) (n : Nat) (sts : List Stmt) (t : TS) (m : Ev → Res (List D)) : Prop where
  p : PSs X sts t
  s : ∀ F0 H0 F H σ ρ, Rep X.K X.mg F0 H0 F H σ ρ → AnsN X.K X.mg E n F0 H0 (m ρ) (fun D => t D σ H)
section
variable {X : Cx} {E : XK} {tg iter elt : Expr} {ts : List Expr} {me : ME} {na : MB} {pos spos : Pos} {n : Nat}
end
section
variable {P : Program} {w : World} {K : PySem.W.Frag} {mg : Str → Option Value} {base : Heap} {N ps : List Str} {x : Str}
end
section
variable {X : Cx} {E : XK} {i nn : Nat} {y : Str} {te : TE} {me : ME} {e c' : Expr} {sa : TT} {na : MB} {kb kr : MS} {ub ur : TS} {body rest : List Stmt} {pos pos' spos ip ipos np apos cpos spos' spos'' : Pos} {j : Nat}
theorem AnsS.same {K : PySem.W.Frag} {mg : Str → Option Value} {F0 H0 F F1 : Hp} {r : Res Fl} {w : Ends → Prop} (s : Same F F1) (h : AnsS K mg E F0 H0 F1 r w) : AnsS K mg E F0 H0 F r w := h.mono s
end
section
variable {X : Cx} {E : XK} {i nn : Nat} {y : Str} {te : TE} {me : ME} {e c' : Expr} {sa : TT} {na : MB} {kb kr : MS} {ub ur : TS} {body rest : List Stmt} {pos' spos ip np zp apos cpos spos' spos'' : Pos} {j : Nat}
end
end L2.Ds

namespace Dl
open PySem
noncomputable def compX (it : MI) (own : Nat) (cap : List Nat) (g : MG) (t : MB) (e : ME) : ME := fun ρ => (it ρ).bind fun xs =>
  if xs.length ≤ LIM then (compGo g t e (noA own (capD ρ cap)) xs).bind fun ys => .ok (.lst ys) else .bad
end Dl

namespace L2
open PySem PySem.Spec PyProof.Rows
theorem Cx.Ok.rexe {X : Cx} {xe : Value → Shared → Prop} (o : X.Ok) : ({ X with xe := xe } : Cx).Ok := by
  cases o
  constructor <;> assumption
theorem Inv.rexe {X : Cx} {pins : List (Addr × Obj)} {σ : St} {H : Hp} {s : Shared} {xe : Value → Shared → Prop} (I : Inv X pins σ H s) : Inv { X with xe := xe } pins σ H s := by
  obtain ⟨ok, i1, i2, i3, i4, i5, i6, i7, i8, i9, i10⟩ := I
  exact ⟨ok.rexe, i1, i2, i3, i4, i5, i6, i7, i8, i9, i10⟩
noncomputable def cxCompE (xf : Addr → Shared → Hp → List Addr → Value → Shared → Prop) (X : Cx) (N : List Str) (scope : Scope) (cl : List (Str × Addr)) (C : Addr) (s₂ : Shared) (H₂ : Hp) (fp : List Addr) (pn : List (Addr × Obj)) : Cx := { cxComp X N scope cl C s₂ H₂ fp pn with xe := xf C s₂ H₂ fp }
section
variable {X : Cx} {own : List Str} {cap : List (Str × Nat)} {scope : Scope} {cl : List (Str × Addr)} {pins : List (Addr × Obj)} {σ : St} {H : Hp} {s : Shared} {fp : List Addr} {tg : Expr} {J : It} {it : Addr} {tn : Nat → Heap → Prop}
theorem comp_runX {xf : Addr → Shared → Hp → List Addr → Value → Shared → Prop} {elt iter : Expr} {ts : List Expr} {pos : Pos} {gF : Fam TG} {ttF : Fam TT} {teF : Fam TE} {E : Value → Shared → Prop} (O : CompOk X own cap scope cl) (hc : X.calm = true)
    (hgF : ∀ C s H fp pn, PG (cxCompE xf X (own ++ cap.map (·.1)) scope cl C s H fp pn) tg (gF C s H fp pn)) (htF : ∀ C s H fp pn, PTs (cxCompE xf X (own ++ cap.map (·.1)) scope cl C s H fp pn) ts (ttF C s H fp pn)) (heF : ∀ C s H fp pn, PE (cxCompE xf X (own ++ cap.map (·.1)) scope cl C s H fp pn) elt (teF C s H fp pn)) (hts : ts.length ≤ 1)
    (I2 : Inv X pins σ H s) (T : Turn X.prog X.w X.K tg J fp it tn) (st2 : tn 0 s.heap) (f2 : ∀ b ∈ fp, FpOk X pins H b) {Q : VK}
    (hw : ∀ C s H2 fp pn, compGoT J (gF C s H2 fp pn) (ttF C s H2 fp pn) (teF C s H2 fp pn) own cap σ Q H)
    {R : Value → Addr → Result → Shared → Prop}
    (fin : ∀ (D C : Addr) (H' : Hp) (s' : Shared) (m : Str → Option Value), s.heap.objs.size ≤ C → s'.heap.Ns C m → H' C = none →
      (∀ h', Heap.SameBut C s'.heap h' → Inv X pins σ H' { s' with heap := h' }) → Q (.ref D) H' → R (.ref D) C (.ok .next) s')
    (hexc : ∀ (D C : Addr) (cells : List (Str × Addr)) (e : Value) (s' : Shared), s.heap.objs.size ≤ C → xf C s H fp e s' → notedBy (model X.prog X.w) X.A (compEnvC scope cells C X.env) (fun e s' => R (.ref D) C (.error e) s') e s') :
    wpAny (model X.prog X.w) X.A (newList []) (fun acc s₃ => wpAny (model X.prog X.w) X.A (newFunctionEnv scope X.env.globals cl [] X.env.qual none .none (some X.env)) (fun cenv s₄ =>
      codeAny (model X.prog X.w) X.A (.compStart (.ListComp elt [⟨tg, iter, ts, 0⟩] scope pos) 0 (.ref it) acc { cenv with scope := relabel scope X.env }) (R acc cenv.locals) s₄) E s₃) E s := by
  refine wpAny_newObj_type (newEnv_own (fun h₁ hns₁ hk₁ hx₁ => ?_))
  dsimp only at hns₁ hk₁ hx₁ ⊢
  generalize hHh : s.heap.push { cls := .type "list", dict := none, data := .seq ([] : List Value).toArray } = Hh at hns₁ hk₁ hx₁ ⊢
  have hCs : Hh.objs.size = s.heap.objs.size + 1 := by rw [← hHh, Heap.size_push]
  generalize hCC : Hh.objs.size = C at hns₁ hx₁ hCs ⊢
  generalize hDD : s.heap.objs.size = D at hCs ⊢
  have ltDC : D < C := by omega
  have hDC : D ≠ C := Nat.ne_of_lt ltDC
  have hsD : s.heap.objs.size ≤ D := Nat.le_of_eq hDD
  have hsC : s.heap.objs.size ≤ C := by omega
  have ltS : ∀ {b : Addr} {o : Obj}, s.heap.get? b = some o → b < D := fun e => by rw [← hDD]; exact Heap.lt_size e
  have old : ∀ b o, s.heap.get? b = some o → h₁.get? b = some o := fun b o e => by
    refine hk₁ b o ?_
    rw [← hHh]
    exact Heap.get?_push_of_some _ e
  have hD0 : h₁.PlainList D #[] := by
    have z : Hh.get? D = some { cls := .type "list", dict := none, data := .seq ([] : List Value).toArray } := by
      rw [← hHh, ← hDD]
      exact Heap.get?_push_size _ rfl
    exact ⟨_, hk₁ D _ z⟩
  obtain ⟨W, ⟨m0, w0⟩, turn⟩ := hw C s H fp (X.pn ++ pins)
  have hg := hgF C s H fp (X.pn ++ pins)
  have ht := htF C s H fp (X.pn ++ pins)
  have he := heF C s H fp (X.pn ++ pins)
  have I' : Inv (cxCompE xf X (own ++ cap.map (·.1)) scope cl C s H fp (X.pn ++ pins)) [] (st0 own σ cap) H { s with heap := h₁, toks := s.toks } := (I2.comp (t' := s.toks) O T st2 f2 hsC old hns₁ hx₁).rexe
  have cne : ∀ x c, (PySem.cellsFrom (C + 1) scope.names cl).lookup x = some c → (∃ v, s.heap.IsCell c v ∧ X.env.cells.lookup x = some c) ∨ C < c := fun x c e => by
    rcases hx₁ x c (PySem.mem_of_lookup e) with z | ⟨_, z⟩
    · obtain ⟨v, hv⟩ := I2.cell x c (O.sub x c z)
      exact .inl ⟨v, hv, O.sub x c z⟩
    · exact .inr z
  have st' : tn 0 h₁ := T.keep _ _ _ st2 fun b hb o e => old b o e
  have nofr : ∀ {a : Addr}, s.heap.objs.size ≤ a → a ∉ frs X.stack := fun {a} ha z => by
    rcases List.mem_cons.mp (I2.stkSub a z) with q | q
    · exact absurd (Nat.lt_of_lt_of_le I2.lt ha) (by rw [q]; exact Nat.lt_irrefl _)
    · exact I2.nofs ha q
  have ltfp : ∀ b ∈ fp, b < D := fun b hb => by
    obtain ⟨o, e, _⟩ := T.obj _ _ st2 b hb
    exact ltS e
  have fpk : ∀ {H3 : Hp} {objD : Obj}, (∀ b ∈ fp, H3 b = none) → ∀ b ∈ fp, FpOk (cxCompE xf X (own ++ cap.map (·.1)) scope cl C s H fp (X.pn ++ pins)) [(D, objD)] H3 b := fun {H3 objD} hn b hb => by
    obtain ⟨_, f1, f3, f4, f5, f6⟩ := f2 b hb
    have lb := ltfp b hb
    refine ⟨hn b hb, (Nat.ne_of_lt (Nat.lt_trans lb ltDC)), fun z => ?_, .inl hb, fun x c e => ?_, fun p hp => ?_⟩
    · rcases List.mem_cons.mp (I2.stkSub b z) with q | q
      · exact f1 q
      · exact f3 q
    · rcases cne x c e with ⟨_, _, z⟩ | z
      · exact f5 x c z
      · exact Nat.ne_of_gt (Nat.lt_trans lb (Nat.lt_trans ltDC z))
    · rcases List.mem_append.mp hp with z | z
      · exact f6 p z
      · have z' : p = (D, objD) := by simpa using z
        subst z'
        exact Nat.ne_of_gt lb
  have loop : ∀ s₃ : Shared, s₃ = { s with heap := h₁ } →
      codeAny (model X.prog X.w) X.A (.compLoop (.ListComp elt [⟨tg, iter, ts, 0⟩] scope pos) 0 (.ref it) (.ref D) (compEnvC scope (PySem.cellsFrom (C + 1) scope.names cl) C X.env)) (R (.ref D) C) s₃ := by
    rintro s₃ rfl
    refine compLoop_any hts (fun n s' => ∃ (i : Nat) (acc : List V) (its : List Value) (H' : Hp), Inv (cxCompE xf X (own ++ cap.map (·.1)) scope cl C s H fp (X.pn ++ pins)) [] (st0 own σ cap) H' s' ∧ tn i s'.heap ∧ (∀ b ∈ fp, H' b = none) ∧ H' D = none ∧
      s'.heap.PlainList D its.toArray ∧ Vals acc its ∧ W i n acc H') ?_ m0 ⟨0, [], [], H, I', st', fun b hb => (f2 b hb).1, I2.hok.fresh hsD, hD0, .nil, w0⟩
    rintro n s3 ⟨i, acc, its, H3, I3, st3, fr3, nD, ⟨nn, hD⟩, rv, w3⟩
    obtain ⟨hlen, hturn⟩ := turn i n acc H3 w3
    have lenV := rv.length
    have pinD : ∀ {s5 : Shared} {H5 : Hp}, s5.heap.get? D = some { cls := .type "list", data := .seq its.toArray nn } → H5 D = none → ∀ p ∈ [(D, ({ cls := .type "list", data := .seq its.toArray nn } : Obj))], s5.heap.get? p.1 = some p.2 ∧ H5 p.1 = none ∧ p.1 ≠ C ∧ p.1 ∉ frs X.stack ∧ ∀ v, p.2.data ≠ .cell v := by
      intro s5 H5 e1 e2 p hp
      have z' : p = (D, ({ cls := .type "list", data := .seq its.toArray nn } : Obj)) := by simpa using hp
      subst z'
      exact ⟨e1, e2, hDC, nofr hsD, fun v z => by cases z⟩
    have I3p : Inv (cxCompE xf X (own ++ cap.map (·.1)) scope cl C s H fp (X.pn ++ pins)) [(D, { cls := .type "list", data := .seq its.toArray nn })] (st0 own σ cap) H3 s3 := I3.pins_of (pinD hD nD)
    rcases hturn with ⟨stop, qn⟩ | ⟨go, step⟩
    · refine wpAny_mono (T.done (cxCompE xf X (own ++ cap.map (·.1)) scope cl C s H fp (X.pn ++ pins)) rfl rfl rfl hc i _ s3 _ H3 (fun _ _ => False) I3p (fpk fr3) st3 stop) (fun r s4 h4 => ?_) (fun _ _ z => z.elim)
      obtain ⟨hr, I4⟩ := h4
      subst hr
      obtain ⟨m4, hm4, _⟩ := I4.loc
      have hD4 := (I4.pin (D, { cls := .type "list", data := .seq its.toArray nn }) (List.mem_append_right _ (by simp))).1
      have nC : H3 C = none := I4.free
      refine fin D C (upd H3 D (.lst acc)) s4 m4 hsC hm4 (by rw [upd_ne (Ne.symm hDC)]; exact nC) (fun h' sb => ?_) (qn D nD)
      have kc : ∀ b o, b ≠ C → s4.heap.get? b = some o → h'.get? b = some o := fun b o hb e => sb.extBut b o hb e
      have neD : ∀ {b : Addr} {o : Obj}, s.heap.get? b = some o → b ≠ D := fun e => Nat.ne_of_lt (ltS e)
      have neC : ∀ {b : Addr} {o : Obj}, s.heap.get? b = some o → b ≠ C := fun e => Nat.ne_of_lt (Nat.lt_trans (ltS e) ltDC)
      refine I2.call' (s' := { s4 with heap := h' }) (ch := fp) I4.os ⟨?_, ?_, ?_, ?_, ?_, ?_, ?_⟩ (fun a o e => ?_) I4.bare (fun b hb => ?_)
      · exact fun b o e n hb hx => kc b o (neC e) (I4.base.keep b o e n hb hx)
      · intro b o e n hb hx
        obtain ⟨sl, q⟩ := I4.base.slot b o e n hb hx
        exact ⟨sl, kc b _ (neC e) q⟩
      · intro b o e n hx
        rw [upd_ne (neD e)]
        exact I4.base.free b o e n hx
      · intro b o e hx
        obtain ⟨o', q⟩ := I4.base.there b o e hx
        exact ⟨o', kc b _ (neC e) q⟩
      · intro b xs e
        have q := I4.base.tups b xs e
        rw [upd_ne (ne_of_none q nD)]
        exact q
      · intro b o u e
        have q := I4.base.frzs b o u e
        rw [upd_ne (ne_of_none q nD)]
        exact q
      · intro b ps e
        obtain ⟨more, q⟩ := I4.base.tbls b ps e
        exact ⟨more, by rw [upd_ne (ne_of_none q nD)]; exact q⟩
      · by_cases ha : a = D
        · subst ha
          rw [upd_same] at e
          cases e
          exact ⟨hlen, its, nn, rv, kc _ _ hDC hD4⟩
        · rw [upd_ne ha] at e
          refine (I4.hok a o e).stay (fun b u hb q => kc b u ?_ q) (fun b q => ?_) (fun b xs q => ?_)
          · rcases hb with rfl | hb
            · exact ne_of_none e nC
            · exact ne_of_none hb nC
          · rw [upd_ne (ne_of_none q nD)]; exact q
          · rw [upd_ne (ne_of_none q nD)]; exact q
      · obtain ⟨_, f1, _, f4, f5, f6⟩ := f2 b hb
        exact ⟨f4, f1, f5, f6⟩
    · refine wpAny_mono (T.item (cxCompE xf X (own ++ cap.map (·.1)) scope cl C s H fp (X.pn ++ pins)) rfl rfl rfl hc i _ s3 _ H3 (fun _ _ => False) I3p (fpk fr3) st3 go) (fun r s4 h4 => ?_) (fun _ _ z => z.elim)
      obtain ⟨u, hr, h4⟩ := h4
      subst hr
      refine wpAny_mono h4 (fun _ s5 h5 => ?_) (fun _ _ z => z.elim)
      obtain ⟨x, H5, I5, r5, y5, st5, fr5⟩ := h5
      have I5' := I5.pinned (fpk fr5) (T.obj _ _ st5)
      refine wpAny_mono (hg _ s5 _ H5 x u _ I5' r5 (step x H5 y5)) (fun _ s6 h6 => ?_) (fun e s' z => hexc D C _ e s' hsC z)
      obtain ⟨σ6, H6, I6, e6, q6⟩ := h6
      refine wpAny_mono (ht _ s6 σ6 H6 _ I6 q6) (fun bb s6' h6' => ?_) (fun e s' z => hexc D C _ e s' hsC z)
      obtain ⟨H6', I6', q6'⟩ := h6'
      have stay : ∀ {H7 : Hp} {s7 : Shared}, Inv (cxCompE xf X (own ++ cap.map (·.1)) scope cl C s H fp (X.pn ++ pins)) [] σ6 H7 s7 → Inv (cxCompE xf X (own ++ cap.map (·.1)) scope cl C s H fp (X.pn ++ pins)) [] (st0 own σ cap) H7 s7 := fun {H7 s7} I8 => by
        refine I8.weak (I'.len.trans I8.len.symm) (fun j v e => ?_)
        obtain ⟨l, p, rfl, hp, hs⟩ := get_st0 e
        have q : (σ6.drop own.length)[l]? = some (some v) := by
          rw [e6]
          unfold capt
          rw [List.getElem?_map, hp]
          show some ((σ[p.2]?).join) = _
          rw [hs]
          rfl
        rwa [List.getElem?_drop] at q
      cases bb with
      | false =>
        rw [if_neg Bool.false_ne_true] at q6' ⊢
        obtain ⟨m', hm, w7⟩ := q6'
        obtain ⟨hD7, nD7, _⟩ := I6'.pin (D, { cls := .type "list", data := .seq its.toArray nn }) (List.mem_append_right _ (by simp))
        have st7 : tn (i + 1) s6'.heap := T.keep _ _ _ st5 fun b hb o e => (I6'.pin (b, o) (List.mem_append_right _ (List.mem_append_right _ (mem_pinsAt hb e)))).1
        have fr7 : ∀ b ∈ fp, H6' b = none := fun b hb => by
          obtain ⟨o, e, _⟩ := T.obj _ _ st5 b hb
          exact (I6'.pin (b, o) (List.mem_append_right _ (List.mem_append_right _ (mem_pinsAt hb e)))).2.1
        exact ⟨m', hm, i + 1, acc, its, H6', stay (I6'.pins_of fun p hp => nomatch hp), st7, fr7, nD7, ⟨nn, hD7⟩, rv, w7⟩
      | true =>
      rw [if_pos rfl] at q6' ⊢
      refine wpAny_mono (he _ s6' σ6 H6' _ I6' q6') (fun y s7 h7 => ?_) (fun e s' z => hexc D C _ e s' hsC z)
      obtain ⟨v, H7, I7, r7, hl7, m', hm, w7⟩ := h7
      obtain ⟨hD7, nD7, _⟩ := I7.pin (D, { cls := .type "list", data := .seq its.toArray nn }) (List.mem_append_right _ (by simp))
      have st7 : tn (i + 1) s7.heap := T.keep _ _ _ st5 fun b hb o e => (I7.pin (b, o) (List.mem_append_right _ (List.mem_append_right _ (mem_pinsAt hb e)))).1
      have fr7 : ∀ b ∈ fp, H7 b = none := fun b hb => by
        obtain ⟨o, e, _⟩ := T.obj _ _ st5 b hb
        exact (I7.pin (b, o) (List.mem_append_right _ (List.mem_append_right _ (mem_pinsAt hb e)))).2.1
      refine wpAny_list_append_plain (l := D) (items := its.toArray) ⟨nn, hD7⟩ (fun h8 hp8 hs8 => ?_) (by rw [List.size_toArray]; omega)
      have I7w : Inv (cxCompE xf X (own ++ cap.map (·.1)) scope cl C s H fp (X.pn ++ pins)) [] σ6 H7 s7 := I7.pins_of fun p hp => nomatch hp
      have I8 : Inv (cxCompE xf X (own ++ cap.map (·.1)) scope cl C s H fp (X.pn ++ pins)) [] σ6 H7 { s7 with heap := h8 } := by
        refine I7w.turned (t' := s7.toks) (it := D) (fun b o hb e => hs8.extBut b o hb e) nD7 hDC (.inr hsD) (fun x c e => ?_) (fun p hp => ?_)
        · rcases cne x c e with ⟨v, ⟨o, ho, _⟩, _⟩ | z
          · exact Nat.ne_of_lt (ltS ho)
          · exact Nat.ne_of_gt (Nat.lt_trans ltDC z)
        · have hp' : p ∈ X.pn ++ pins := by simpa [cxCompE, cxComp] using hp
          exact Nat.ne_of_lt (ltS (I2.pin p hp').1)
      have I9 := stay I8
      refine ⟨m', hm, i + 1, acc ++ [v], its ++ [y], H7, I9, T.keep _ _ _ st7 (fun b hb o e => hs8.extBut b o (Nat.ne_of_lt (ltfp b hb)) e), fr7, nD7, ?_, rv.append (.cons r7 .nil), w7⟩
      simpa using hp8
  exact codeAny_compStart_list (loop _ rfl) (T.self X.A 0 _ _ _ st' (loop _ rfl))
end
section
variable {M : Model} {A : Around} {E : Value → Shared → Prop} {s : Shared} {B : Heap} {env cenv : Env} {outer l : List Env} {L e : Addr} {cls a0 fl : Value}
theorem but_frames {h h' B' : Heap} {C : Addr} (sB : ∀ b o, B'.get? b = some o → B.get? b = some o) (k : ∀ b o, b ≠ C → h.get? b = some o → h'.get? b = some o) : ∀ {l : List Env}, C ∉ frs l → h.FunFrames B l → h'.FunFrames B' l
  | [], _, _ => trivial
  | v :: r, hC, ⟨h1, ⟨L, o, h2, h3, h4, h5⟩, h6⟩ => by
    have nC : L ≠ C ∧ C ∉ frs r := by
      unfold frs at hC ⊢
      rw [List.filterMap_cons, h2] at hC
      exact ⟨fun z => hC (z ▸ List.mem_cons_self), fun z => hC (List.mem_cons_of_mem _ z)⟩
    refine ⟨h1, ⟨L, o, h2, ?_, k L o nC.1 h4, h5⟩, but_frames sB k nC.2 h6⟩
    cases q : B'.get? L with
    | none => rfl
    | some u => rw [sB L u q] at h3; cases h3
theorem wpAny_leaving_fl {Q : Unit → Shared → Prop} (hfr : A.frames = some (env :: outer)) (hf : env.frame = some L) (hkb : B.StaysIn s.heap) (hen : B.get? e = none) (hl : s.heap.FunFrames B (env :: outer)) (ht : s.heap.TracedAtW B e cls a0 fl)
    (hQ : ∀ h', Heap.FlyingW B outer e cls a0 h' → s.heap.UpToSlots h' → Q () { s with heap := h' }) : wpAny M A (leaving env (.ref e)) Q E s := by
  by_cases hfl : fl = rawInt L
  · subst hfl
    unfold leaving
    refine wpAny_bind (wpAny_noteFrame_againW hf ht ?_)
    refine wpAny_landsW (L := L) ⟨hkb, hen, hl, ht⟩ fun h' x1 sm => ?_
    obtain ⟨k1, k2, ⟨_, _, k3⟩, k4⟩ := x1
    exact hQ h' ⟨k1, k2, k3, k4⟩ sm
  · obtain ⟨oe, vs, T, oT, ts, he, ⟨hcls, h0⟩, hd, h1, hnT, hTe, hT, hdT, h3⟩ := ht
    subst hcls
    have away : ∀ b, b ≠ T → (s.heap.update T (Obj.mapFields (·.setIfInBounds 3 Value.none))).get? b = s.heap.get? b := fun b hb => Heap.get?_update_other _ _ (Ne.symm hb)
    have neT : ∀ b o, s.heap.get? b = some o → (∀ vs, o.data ≠ .fields vs) → b ≠ T := fun b o hb hnf q => by
      rw [q, hT] at hb
      cases hb
      exact hnf ts hdT
    unfold leaving noteFrame
    simp only [hf]
    refine wpAny_bind (wpAny_bind (wpAny_field he hd h1 ?_))
    rw [if_pos (show (Value.ref T != Value.none) = true from by simp)]
    refine wpAny_bind (wpAny_field hT hdT h3 ?_)
    rw [if_neg (show ¬ ((fl == rawInt L) = true) from by simpa using hfl)]
    refine wpAny_bind (wpAny_setField hT hdT (Array.getElem?_eq_some_iff.mp h3).1 ?_)
    refine wpAny_newEntryW hfr (hl.of_keeps fun b o hb hnf => ⟨o, (away b (neT b o hb hnf)).trans hb, rfl⟩) hf ((away e (Ne.symm hTe)).trans he) (fun b o hbo => (away b fun q => by rw [q, hnT] at hbo; cases hbo).trans (hkb b o hbo)) hen hd (Array.getElem?_eq_some_iff.mp h1).1 h0 fun h' x => ?_
    obtain ⟨x1, ⟨_, _, x2⟩, x3, x4⟩ := x
    exact hQ h' ⟨x1, hen, x2, x3⟩ fun b o hb hnf => x4 b o ((away b (neT b o hb hnf)).trans hb) hnf
theorem wpAny_passOn_fl {what : String} (hkb : B.StaysIn s.heap) (hl : s.heap.FunFrames B l) (ht : s.heap.TracedAtW B e cls a0 fl)
    (h : ∀ h' fl', B.StaysIn h' → h'.FunFrames B l → h'.TracedAtW B e cls a0 fl' → (∀ b o, s.heap.get? b = some o → (∀ vs, o.data ≠ .fields vs) → h'.get? b = some o) → E (.ref e) { s with heap := h' }) :
    wpAny M A (PySem.passOn what (.ref e) cenv : Sem Value) (fun _ _ => False) E s := by
  obtain ⟨oe, vs, T, oT, ts, he, hcls, hd, h1, hnT, hTe, hT, hdT, h3⟩ := ht
  have sz : 3 < ts.size := (Array.getElem?_eq_some_iff.mp h3).1
  have away : ∀ b, b ≠ T → (s.heap.update T (Obj.mapFields (·.setIfInBounds 3 (cenv.frame.elim Value.none fun f => rawInt f)))).get? b = s.heap.get? b := fun b hb => Heap.get?_update_other _ _ (Ne.symm hb)
  have neT : ∀ b o, s.heap.get? b = some o → (∀ vs, o.data ≠ .fields vs) → b ≠ T := fun b o hb hnf q => by
    rw [q, hT] at hb
    cases hb
    exact hnf ts hdT
  unfold PySem.passOn
  refine wpAny_bind (wpAny_field he hd h1 ?_)
  rw [if_neg (show ¬ ((Value.ref T == Value.none) = true) from by simp)]
  refine wpAny_bind ?_
  unfold setFlight
  refine wpAny_bind (wpAny_field he hd h1 ?_)
  rw [if_pos (show (Value.ref T != Value.none) = true from by simp)]
  refine wpAny_setField hT hdT sz ?_
  refine wpAny_throw ?_
  refine h _ (cenv.frame.elim Value.none fun f => rawInt f) (fun b o hbo => (away b fun q => by rw [q, hnT] at hbo; cases hbo).trans (hkb b o hbo)) (hl.of_keeps fun b o hb hnf => ⟨o, (away b (neT b o hb hnf)).trans hb, rfl⟩) ?_ fun b o hb hnf => (away b (neT b o hb hnf)).trans hb
  exact ⟨oe, vs, T, _, _, (away e (Ne.symm hTe)).trans he, hcls, hd, h1, hnT, hTe, Heap.get?_update_self _ hT (Obj.isFreed_of_fields (Obj.data_mapFields hdT _)), Obj.data_mapFields hdT _, by simp [sz]⟩
end
theorem fly_of2 {P : Program} {w : World} {l l' : List Env} {H H' : Hp} {s s' : Shared} {x : Addr} {cls a0 : Value} {B h' : Heap} (os : s'.os = s.os) (bare : AllBare s'.gens) (un : Un (frs l) [] H H' s.heap s'.heap) (hok : HOk P w H' s'.heap)
    (frf : ∀ b ∈ frs l, H' b = none) (nf : ∀ b ∈ frs l, ∃ o, s'.heap.get? b = some o ∧ ∀ vs, o.data ≠ .fields vs)
    (cov : ∀ b o, s'.heap.get? b = some o → (H' b ≠ none ∨ ∃ o', s.heap.get? b = some o') → b ∉ frs l → B.get? b = some o)
    (sub : ∀ b ∈ frs l', b ∈ frs l) (new : ∀ b ∈ frs l, b ∉ frs l' → s.heap.get? b = none) (fl : Heap.FlyingW B l' x cls a0 h') (sm : ∀ b ∈ frs l, ∀ o, s'.heap.get? b = some o → (∀ vs, o.data ≠ .fields vs) → ∃ sl, h'.get? b = some { o with slots := sl }) (free : H' x = none) :
    Fly P w l' H H' s { s' with heap := h' } x cls := by
  have stay : ∀ b o, s'.heap.get? b = some o → (H' b ≠ none ∨ ∃ o', s.heap.get? b = some o') → b ∉ frs l → h'.get? b = some o := fun b o e q hb => fl.1 b o (cov b o e q hb)
  have out : ∀ {b : Addr} {o : Obj}, s.heap.get? b = some o → b ∉ frs l' → b ∉ frs l := fun {b o} e hb z => by
    rw [new b z hb] at e; cases e
  refine ⟨os, bare, ⟨fun b o e n hb hx => ?_, fun b o e n hb hx => ?_, un.free, fun b o e hx => ?_, un.tups, un.frzs, un.tbls⟩, fun a o e => ?_, fun b hb => frf b (sub b hb), free, B, a0, fl, fun b o e q hb => ?_⟩
  · exact stay b o (un.keep b o e n (out e hb) hx) (.inr ⟨o, e⟩) (out e hb)
  · obtain ⟨sl, q⟩ := un.slot b o e n (sub b hb) hx
    obtain ⟨o1, q1, d1⟩ := nf b (sub b hb)
    rw [q] at q1; cases q1
    obtain ⟨sl', q2⟩ := sm b (sub b hb) _ q d1
    exact ⟨sl', q2⟩
  · obtain ⟨o', q⟩ := un.there b o e hx
    by_cases hb : b ∈ frs l
    · obtain ⟨o1, q1, d1⟩ := nf b hb
      obtain ⟨sl', q2⟩ := sm b hb _ q1 d1
      exact ⟨_, q2⟩
    · exact ⟨o', stay b o' q (.inr ⟨o, e⟩) hb⟩
  · refine (hok a o e).stay (fun b u hb q => ?_) (fun _ q => q) fun _ _ q => q
    have tr : H' b ≠ none := by
      rcases hb with rfl | hb
      · rw [e]; simp
      · rw [hb]; simp
    exact stay b u q (.inl tr) fun z => tr (frf b z)
  · have hb' : b ∉ frs l := by
      intro z
      rcases q with q | ⟨o', q⟩
      · exact q (frf b z)
      · exact out q hb z
    have ⟨o1, q1⟩ : ∃ o1, s'.heap.get? b = some o1 := by
      rcases q with q | ⟨o', q⟩
      · cases z : H' b with
        | none => exact absurd z q
        | some u => exact (hok b u z).there
      · exact un.there b o' q (by simp)
    have c := cov b o1 q1 q hb'
    have z := fl.1 b o1 c
    have e' : h'.get? b = some o := e
    rw [e'] at z; cases z
    exact c
noncomputable def xfE (E : XK) (X : Cx) : Addr → Shared → Hp → List Addr → Value → Shared → Prop := fun C s H fp e s' => ∃ H6 s6, s6.os = s.os ∧ Un (frs X.stack) fp H H6 s.heap s6.heap ∧ (∃ m, s6.heap.Ns C m) ∧ H6 C = none ∧ CXR X.prog X.w X.stack H6 s6 E e s'
theorem pass_cX {X : Cx} {E : XK} {N : List Str} {scope : Scope} {cl : List (Str × Addr)} {C : Addr} {s : Shared} {H : Hp} {fp : List Addr} {pn : List (Addr × Obj)} : Passes (CXR X.prog X.w) (cxCompE (xfE E X) X N scope cl C s H fp pn) E := by
  intro pins σ H6 s6 e s' I h
  obtain ⟨m, hn, _⟩ := I.loc
  exact ⟨H6, s6, I.os, I.base, ⟨m, hn⟩, I.free, h⟩
section
variable {X : Cx} {E : XK} {pins : List (Addr × Obj)} {σ : St} {H : Hp} {s s7 : Shared} {fp : List Addr} {scope : Scope} {cells : List (Str × Addr)} {C : Addr} {e acc : Value} {use : Option (Value → Sem Unit)} {Q : Value → Shared → Prop}
theorem Un.strip {fs ex : List Addr} {H H1 : Hp} {h h1 : Heap} (u : Un fs ex H H1 h h1) (n : ∀ b ∈ ex, h.get? b = none) : Un fs [] H H1 h h1 := by
  have no : ∀ {b : Addr} {o : Obj}, h.get? b = some o → b ∉ ex := fun {b o} e z => by rw [n b z] at e; cases e
  exact ⟨fun b o e q1 q2 _ => u.keep b o e q1 q2 (no e), fun b o e q1 q2 _ => u.slot b o e q1 q2 (no e), fun b o e q1 _ => u.free b o e q1 (no e), fun b o e _ => u.there b o e (no e), u.tups, u.frzs, u.tbls⟩
theorem comp_out (hst : X.stack = X.env :: X.outer) (hfr : X.env.frame = some X.env.locals) (hex : X.ex = [])
    (hxe : X.xe = fun e s' => wpAny (model X.prog X.w) X.A (leaving X.env e) (fun _ s'' => CXR X.prog X.w X.outer X.H₀ X.s₀ E e s'') (fun e' s'' => CXR X.prog X.w X.outer X.H₀ X.s₀ E e' s'') s')
    (I : Inv X pins σ H s) (fpn : ∀ b ∈ fp, X.s₀.heap.objs.size ≤ b) (hC : s.heap.objs.size ≤ C) (h : xfE E X C s H fp e s7) :
    notedBy (model X.prog X.w) X.A (compEnvC scope cells C X.env) (fun e s' => compPost (model X.prog X.w) X.A X.xe use Q acc C (.error e) s') e s7 := by
  obtain ⟨H6, s6, os6, un6, ⟨m, oc, es, ep, ho, hd, hk⟩, fC, x, cls, H', rfl, F, q⟩ := h
  obtain ⟨B, a0, fl, cov⟩ := F.ex
  have nfC : C ∉ frs X.stack := fun z => by
    rcases List.mem_cons.mp (I.stkSub C z) with q | q
    · exact absurd (Nat.lt_of_lt_of_le I.lt hC) (by rw [q]; exact Nat.lt_irrefl _)
    · exact I.nofs hC q
  have C7 : s7.heap.get? C = some oc := F.un.keep C oc ho fC nfC (by simp)
  have nC7 : H' C = none := F.un.free C oc ho fC (by simp)
  have C0 : X.s₀.heap.get? C = none := Heap.get?_none_of_le (Nat.le_trans I.sz hC)
  have ns7 : s7.heap.Ns C m := ⟨oc, es, ep, C7, hd, hk⟩
  show wpAny _ _ (noteFrame (.ref x) X.env) _ _ s7
  refine wpAny_looks_onW (outer := X.outer) (by rw [← hst]; exact I.ok.frames) hfr (by rw [← hst]; exact fl) fun h8 held sm8 => ?_
  obtain ⟨k1, k2, k3, k4⟩ := held
  refine ⟨m, sm8.ns ns7, fun h9 sb cenv' _ => ?_⟩
  have kb9 : ∀ b o, b ≠ C → h8.get? b = some o → h9.get? b = some o := fun b o hb z => sb.extBut b o hb z
  obtain ⟨sl8, C8⟩ := sm8 C oc C7 fun vs z => by rw [hd] at z; cases z
  have neF : ∀ {b : Addr} {o : Obj} {vs : Array Value}, h8.get? b = some o → o.data = .fields vs → b ≠ C := fun {b o vs} z1 z2 z3 => by
    rw [z3, C8] at z1
    cases z1
    have z2' : oc.data = .fields vs := z2
    rw [hd] at z2'
    cases z2'
  have hide : ∀ b o, (PySem.W.hideAll B [C]).get? b = some o → B.get? b = some o := fun b o z => PySem.W.of_hideAll _ z
  have hideC : ∀ b o, (PySem.W.hideAll B [C]).get? b = some o → b ≠ C := fun b o z1 z2 => by
    rw [z2, PySem.W.hideAll_none [C] (by simp)] at z1
    cases z1
  have t9 : h9.TracedAtW (PySem.W.hideAll B [C]) x cls a0 (rawInt X.env.locals) := by
    obtain ⟨oe, vs, T, oT, ts, he, hc, hd, h1, hnT, hTe, hT, hdT, h3⟩ := k4
    refine ⟨oe, vs, T, oT, ts, kb9 _ _ (neF he hd) he, hc, hd, h1, ?_, hTe, kb9 _ _ (neF hT hdT) hT, hdT, h3⟩
    cases z : (PySem.W.hideAll B [C]).get? T with
    | none => rfl
    | some u => rw [hide _ _ z] at hnT; cases hnT
  have st9 : (PySem.W.hideAll B [C]).StaysIn h9 := fun b o z => kb9 b o (hideC b o z) (k1 b o (hide b o z))
  have en9 : (PySem.W.hideAll B [C]).get? x = none := by
    cases z : (PySem.W.hideAll B [C]).get? x with
    | none => rfl
    | some u => rw [hide _ _ z] at k2; cases k2
  have f9 : h9.FunFrames (PySem.W.hideAll B [C]) (X.env :: X.outer) := but_frames hide kb9 (by rw [← hst]; exact nfC) k3
  refine wpAny_passOn_fl (l := X.env :: X.outer) st9 f9 t9 fun h10 fl' st10 f10 t10 sm10 => ?_
  rw [hxe]
  refine wpAny_leaving_fl (by rw [← hst]; exact I.ok.frames) hfr st10 en9 f10 t10 fun h11 fl11 sm11 => ?_
  refine ⟨x, cls, H', rfl, ?_, q⟩
  have un : Un (frs X.stack) [] X.H₀ H' X.s₀.heap s7.heap := by
    refine Un.strip (ex := fp) ?_ fun b hb => Heap.get?_none_of_le (fpn b hb)
    exact ((I.base.mono I.sub (by rw [hex]; simp)).trans un6).trans (F.un.mono (fun _ z => z) (by simp))
  refine fly_of2 (l := X.stack) (s' := s7) (F.os.trans (os6.trans I.os)) F.bare un F.hok F.frf (fun b hb => (fl.2.2.1.mem hb).2) (B := PySem.W.hideAll B [C]) (a0 := a0) (fun b o z1 z2 z3 => ?_) I.sub (fun b h1 h2 => ?_) fl11 (fun b hb o z1 z2 => ?_) F.free
  · have nb : b ≠ C := by
      rintro rfl
      rcases z2 with z2 | ⟨o', z2⟩
      · exact z2 nC7
      · rw [C0] at z2; cases z2
    have zB : B.get? b = some o := cov b o z1 (z2.imp id fun ⟨o', z⟩ => by
      obtain ⟨o1, w1⟩ := I.base.there b o' z (by rw [hex]; simp)
      exact un6.there b o1 w1 fun hb => by
        rw [Heap.get?_none_of_le (fpn b hb)] at z; cases z) z3
    exact PySem.W.hideAll_get _ zB (by simpa using nb)
  · rcases List.mem_cons.mp (I.stkSub b h1) with e | e
    · rw [e]; exact Heap.get?_none_of_le I.ok.above
    · exact absurd e h2
  · have nb : b ≠ C := fun z => nfC (z ▸ hb)
    obtain ⟨sl, w8⟩ := sm8 b o z1 z2
    have w9 := kb9 b _ nb w8
    have w10 := sm10 b _ w9 z2
    obtain ⟨sl', w11⟩ := sm11 b _ w10 z2
    exact ⟨sl', w11⟩
end
section
variable {X : Cx} {own : List Str} {cap : List (Str × Nat)} {scope : Scope} {cl : List (Str × Addr)} {pins : List (Addr × Obj)} {σ : St} {H : Hp} {s : Shared} {fp : List Addr} {tg : Expr} {J : It} {it : Addr} {tn : Nat → Heap → Prop} {E : XK}
structure BodyX (X : Cx) (E : XK) : Prop where
  hst : X.stack = X.env :: X.outer
  hfr : X.env.frame = some X.env.locals
  hex : X.ex = []
  hxe : X.xe = fun e s' => wpAny (model X.prog X.w) X.A (leaving X.env e) (fun _ s'' => CXR X.prog X.w X.outer X.H₀ X.s₀ E e s'') (fun e' s'' => CXR X.prog X.w X.outer X.H₀ X.s₀ E e' s'') s'
theorem pe_compX {elt iter : Expr} {pos : Pos} {wi : TI} {ts : List Expr} {g : Fam TG} {tt : Fam TT} {te : Fam TE} (b : BodyX X E) (hi : PI X tg iter wi) (O : CompOk X own cap scope cl) (hc : X.calm = true)
    (hg : ∀ C s H fp pn, PG (cxCompE (xfE E X) X (own ++ cap.map (·.1)) scope cl C s H fp pn) tg (g C s H fp pn)) (ht : ∀ C s H fp pn, PTs (cxCompE (xfE E X) X (own ++ cap.map (·.1)) scope cl C s H fp pn) ts (tt C s H fp pn)) (he : ∀ C s H fp pn, PE (cxCompE (xfE E X) X (own ++ cap.map (·.1)) scope cl C s H fp pn) elt (te C s H fp pn)) (hts : ts.length ≤ 1)
    (hs : ∀ x, foldedSetIterable iter X.env x = pure x := by intro _; rfl) : PE X (.ListComp elt [⟨tg, iter, ts, 0⟩] scope pos) (tCompT wi g tt te own cap) := by
  intro pins s σ H Q I h
  rw [eval_ListComp]
  refine wpAny_comprehension_free (use := none) rfl hs O.clos O.kind O.locals (thn (hi pins s σ H _ I h) fun xv s₁ h₁ => thn h₁ fun itv s₂ h₂ => ?_)
  obtain ⟨it, fp, tn, J, H2, rfl, I2, T, st2, f2, hw⟩ := h₂
  refine comp_runX (xf := xfE E X) (R := fun acc C => compPost (model X.prog X.w) X.A X.xe none (EP X pins σ Q) acc C) O hc hg ht he hts I2 T st2 f2 hw ?_ ?_
  · intro D C H' s' m hC hn hH IV q
    exact ⟨m, hn, fun h' sb => ⟨.ref D, H', IV h' sb, rfl, q⟩⟩
  · intro D C cells e s' hC z
    refine comp_out b.hst b.hfr b.hex b.hxe I2 (fun a ha => ?_) hC z
    rcases (f2 a ha).2.2.2.1 with q | q
    · rw [b.hex] at q; cases q
    · exact q
end
end L2
namespace L2.Ds
open PySem PySem.Spec PyProof.Rows Dl
section
variable {K : PySem.W.Frag} {mg : Str → Option Value} {E : XK} {F0 H0 F H : Hp} {σ : St} {ρ : Ev}
theorem comp_okE {t : TG} {g : MG} {tt : TT} {nt : MB} {te : TE} {me : ME} {own : List Str} {cap : List (Str × Nat)} {J : It} {ds ys : List D} (r : Rep K mg F0 H0 F H σ ρ) (jo : ItOk K mg F J ds) (hg : SG K mg own.length t g) (ht : STt K mg E tt nt) (he : SE K mg E te me)
    (hl : ds.length ≤ LIM) (e0 : Dl.compGo g nt me (noA own.length (capD ρ (cap.map (·.2)))) ds = .ok ys) (Q : VK) (q : ∀ F' H' xs, Gr F H F' H' → Rps K mg F' xs ys → xs.length ≤ sizeLine → ∀ p, H' p = none → Q (.ref p) (upd H' p (.lst xs))) :
    compGoT J t tt te own cap σ Q H := by
  refine ⟨fun i k acc H' => k = ds.length - i ∧ i ≤ ds.length ∧ acc.length ≤ i ∧ ∃ F' zs rs, Gr F H F' H' ∧ Rps K mg F' acc zs ∧ Dl.compGo g nt me (noA own.length (capD ρ (cap.map (·.2)))) (ds.drop i) = .ok rs ∧ zs ++ rs = ys,
    ⟨ds.length, by simp, Nat.zero_le _, Nat.le_refl _, F, [], ys, .refl r.ss, .nil, e0, rfl⟩, ?_⟩
  rintro i k acc H' ⟨rfl, hi, ha, F', zs, rs, g1, r1, e1, e2⟩
  have la : acc.length ≤ LIM := Nat.le_trans ha (Nat.le_trans hi hl)
  refine ⟨lim_le la, ?_⟩
  by_cases hlt : i < ds.length
  · refine .inr ?_
    have hd : ds[i]? = some ds[i] := List.getElem?_eq_getElem hlt
    obtain ⟨go, yl⟩ := (jo F' H' g1.f g1.s i).1 _ hd
    rw [List.drop_eq_getElem_cons hlt] at e1
    refine ⟨go, fun x H2 y => ?_⟩
    obtain ⟨F2, g2, rx⟩ := yl x H2 y
    have rr := (r.gr (g1.trans g2)).inner (own := own) (cap := cap) (g1.trans g2)
    have hG := hg F H F2 H2 _ _ x _ rr rx
    have e' : (g ds[i] (noA own.length (capD ρ (cap.map (·.2))))).bind (fun ρ1 => (nt ρ1).bind fun b => if b = true then (me ρ1).bind fun y => (Dl.compGo g nt me (noA own.length (capD ρ (cap.map (·.2)))) (ds.drop (i + 1))).bind fun ys => .ok (y :: ys) else Dl.compGo g nt me (noA own.length (capD ρ (cap.map (·.2)))) (ds.drop (i + 1))) = .ok rs := e1
    cases eg : g ds[i] (noA own.length (capD ρ (cap.map (·.2)))) with
    | ok ρ1 =>
      rw [eg] at e' hG
      refine hG _ fun F3 H3 σ3 s3 r3 d3 => ⟨d3.trans st_drop, ?_⟩
      have hT := ht F H F3 H3 σ3 ρ1 r3
      have sF : Same F' F3 := g2.f.trans s3
      have e3 : (nt ρ1).bind (fun b => if b = true then (me ρ1).bind fun y => (Dl.compGo g nt me (noA own.length (capD ρ (cap.map (·.2)))) (ds.drop (i + 1))).bind fun ys => .ok (y :: ys) else Dl.compGo g nt me (noA own.length (capD ρ (cap.map (·.2)))) (ds.drop (i + 1))) = .ok rs := e'
      cases et : nt ρ1 with
      | ok b =>
        rw [et] at e3 hT
        refine hT _ fun F4 H4 b' g4 eb => ?_
        cases (show b' = b from eb)
        cases b with
        | true =>
          rw [if_pos rfl]
          have e4 : (me ρ1).bind (fun y => (Dl.compGo g nt me (noA own.length (capD ρ (cap.map (·.2)))) (ds.drop (i + 1))).bind fun ys => .ok (y :: ys)) = .ok rs := e3
          have hE := he F H F4 H4 σ3 ρ1 (r3.gr g4)
          cases em : me ρ1 with
          | ok y' =>
            rw [em] at e4 hE
            refine hE _ fun F5 H5 u g5 ru => ⟨Nat.lt_of_le_of_lt la (by decide), ds.length - (i + 1), by omega, rfl, hlt, by rw [List.length_append]; show acc.length + 1 ≤ i + 1; omega, ?_⟩
            have e5 : (Dl.compGo g nt me (noA own.length (capD ρ (cap.map (·.2)))) (ds.drop (i + 1))).bind (fun ys => .ok (y' :: ys)) = .ok rs := e4
            cases ec : Dl.compGo g nt me (noA own.length (capD ρ (cap.map (·.2)))) (ds.drop (i + 1)) with
            | ok rs' =>
              rw [ec] at e5
              have e6 : Res.ok (y' :: rs') = .ok rs := e5
              cases e6
              exact ⟨F5, zs ++ [y'], rs', r3.g.trans (g4.trans g5), Rps.app (.cons ru .nil) (r1.same (sF.trans (g4.f.trans g5.f))), rfl, by rw [List.append_assoc]; exact e2⟩
            | ex c => rw [ec] at e5; cases e5
            | bad => rw [ec] at e5; cases e5
          | ex c => rw [em] at e4; cases e4
          | bad => rw [em] at e4; cases e4
        | false =>
          rw [if_neg Bool.false_ne_true]
          have e4 : Dl.compGo g nt me (noA own.length (capD ρ (cap.map (·.2)))) (ds.drop (i + 1)) = .ok rs := e3
          exact ⟨ds.length - (i + 1), by omega, rfl, hlt, by omega, F4, zs, rs, r3.g.trans g4, r1.same (sF.trans g4.f), e4, e2⟩
      | ex c => rw [et] at e3; cases e3
      | bad => rw [et] at e3; cases e3
    | ex c => rw [eg] at e'; cases e'
    | bad => rw [eg] at e'; cases e'
  · have hi2 : i = ds.length := by omega
    subst hi2
    rw [List.drop_eq_nil_of_le (Nat.le_refl _)] at e1
    cases e1
    rw [List.append_nil] at e2
    subst e2
    exact .inl ⟨(jo F' H' g1.f g1.s _).2 (Nat.le_refl _), q F' H' acc g1 r1 (lim_le la)⟩
theorem comp_exE {t : TG} {g : MG} {tt : TT} {nt : MB} {te : TE} {me : ME} {own : List Str} {cap : List (Str × Nat)} {J : It} {ds : List D} {c : Str} (r : Rep K mg F0 H0 F H σ ρ) (jo : ItOk K mg F J ds) (hg : SG K mg own.length t g) (hgx : ∀ d ρ c, g d ρ ≠ .ex c) (ht : STt K mg E tt nt) (he : SE K mg E te me)
    (hl : ds.length ≤ LIM) (e0 : Dl.compGo g nt me (noA own.length (capD ρ (cap.map (·.2)))) ds = .ex c) (Q : VK) (q : ∀ F' H' C, Gr F H F' H' → mg c = some (.ref C) → E (.ref C) none H') :
    compGoT J t tt te own cap σ Q H := by
  refine ⟨fun i k acc H' => k = ds.length - i ∧ i ≤ ds.length ∧ acc.length ≤ i ∧ ∃ F', Gr F H F' H' ∧ Dl.compGo g nt me (noA own.length (capD ρ (cap.map (·.2)))) (ds.drop i) = .ex c,
    ⟨ds.length, by simp, Nat.zero_le _, Nat.le_refl _, F, .refl r.ss, e0⟩, ?_⟩
  rintro i k acc H' ⟨rfl, hi, ha, F', g1, e1⟩
  have la : acc.length ≤ LIM := Nat.le_trans ha (Nat.le_trans hi hl)
  refine ⟨lim_le la, ?_⟩
  by_cases hlt : i < ds.length
  case neg =>
    rw [List.drop_eq_nil_of_le (by omega)] at e1
    cases e1
  refine .inr ?_
  have hd : ds[i]? = some ds[i] := List.getElem?_eq_getElem hlt
  obtain ⟨go, yl⟩ := (jo F' H' g1.f g1.s i).1 _ hd
  rw [List.drop_eq_getElem_cons hlt] at e1
  refine ⟨go, fun x H2 y => ?_⟩
  obtain ⟨F2, g2, rx⟩ := yl x H2 y
  have rr := (r.gr (g1.trans g2)).inner (own := own) (cap := cap) (g1.trans g2)
  have hG := hg F H F2 H2 _ _ x _ rr rx
  have e' : (g ds[i] (noA own.length (capD ρ (cap.map (·.2))))).bind (fun ρ1 => (nt ρ1).bind fun b => if b = true then (me ρ1).bind fun y => (Dl.compGo g nt me (noA own.length (capD ρ (cap.map (·.2)))) (ds.drop (i + 1))).bind fun ys => .ok (y :: ys) else Dl.compGo g nt me (noA own.length (capD ρ (cap.map (·.2)))) (ds.drop (i + 1))) = .ex c := e1
  cases eg : g ds[i] (noA own.length (capD ρ (cap.map (·.2)))) with
  | bad => rw [eg] at e'; cases e'
  | ex c' => exact absurd eg (hgx _ _ _)
  | ok ρ1 =>
    rw [eg] at e' hG
    refine hG _ fun F3 H3 σ3 s3 r3 d3 => ⟨d3.trans st_drop, ?_⟩
    have hT := ht F H F3 H3 σ3 ρ1 r3
    have e3 : (nt ρ1).bind (fun b => if b = true then (me ρ1).bind fun y => (Dl.compGo g nt me (noA own.length (capD ρ (cap.map (·.2)))) (ds.drop (i + 1))).bind fun ys => .ok (y :: ys) else Dl.compGo g nt me (noA own.length (capD ρ (cap.map (·.2)))) (ds.drop (i + 1))) = .ex c := e'
    cases et : nt ρ1 with
    | bad => rw [et] at e3; cases e3
    | ex c' =>
      rw [et] at e3 hT
      cases (show Res.ex c' = .ex c from e3)
      exact hT _ fun F4 H4 C g4 hC => q F4 H4 C (r3.g.trans g4) hC
    | ok b =>
      rw [et] at e3 hT
      refine hT _ fun F4 H4 b' g4 eb => ?_
      cases (show b' = b from eb)
      cases b with
      | false =>
        rw [if_neg Bool.false_ne_true]
        exact ⟨ds.length - (i + 1), by omega, rfl, hlt, by omega, F4, r3.g.trans g4, e3⟩
      | true =>
        rw [if_pos rfl]
        have e4 : (me ρ1).bind (fun y => (Dl.compGo g nt me (noA own.length (capD ρ (cap.map (·.2)))) (ds.drop (i + 1))).bind fun ys => .ok (y :: ys)) = .ex c := e3
        have hE := he F H F4 H4 σ3 ρ1 (r3.gr g4)
        cases em : me ρ1 with
        | bad => rw [em] at e4; cases e4
        | ex c' =>
          rw [em] at e4 hE
          cases (show Res.ex c' = .ex c from e4)
          exact hE _ fun F5 H5 C g5 hC => q F5 H5 C (r3.g.trans (g4.trans g5)) hC
        | ok y' =>
          rw [em] at e4 hE
          have e5 : (Dl.compGo g nt me (noA own.length (capD ρ (cap.map (·.2)))) (ds.drop (i + 1))).bind (fun ys => .ok (y' :: ys)) = .ex c := e4
          refine hE _ fun F5 H5 u g5 ru => ⟨Nat.lt_of_le_of_lt la (by decide), ds.length - (i + 1), by omega, rfl, hlt, by rw [List.length_append]; show acc.length + 1 ≤ i + 1; omega, F5, r3.g.trans (g4.trans g5), ?_⟩
          cases ec : Dl.compGo g nt me (noA own.length (capD ρ (cap.map (·.2)))) (ds.drop (i + 1)) with
          | ok rs => rw [ec] at e5; cases e5
          | bad => rw [ec] at e5; cases e5
          | ex c' =>
            rw [ec] at e5
            exact e5
theorem se_compX {wi : TI} {mi : MI} {t : Fam TG} {g : MG} {tt : Fam TT} {nt : MB} {te : Fam TE} {me : ME} {own : List Str} {cap : List (Str × Nat)} (hi : SI K mg E wi mi) (hg : ∀ C s H fp pn, SG K mg own.length (t C s H fp pn) g) (hgx : ∀ d ρ c, g d ρ ≠ .ex c) (ht : ∀ C s H fp pn, STt K mg E (tt C s H fp pn) nt) (he : ∀ C s H fp pn, SE K mg E (te C s H fp pn) me) :
    SE K mg E (tCompT wi t tt te own cap) (compX mi own.length (cap.map (·.2)) g nt me) := by
  intro F0 H0 F H σ ρ rr
  refine (hi F0 H0 F H σ ρ rr).bind (w' := fun J H1 Q => ∀ C s H2 fp pn, compGoT J (t C s H2 fp pn) (tt C s H2 fp pn) (te C s H2 fp pn) own cap σ Q H1) fun F1 H1 J ds g1 jo => ?_
  by_cases hl : ds.length ≤ LIM
  · rw [if_pos hl]
    cases e : Dl.compGo g nt me (noA own.length (capD ρ (cap.map (·.2)))) ds with
    | ok ys => exact fun Q q C s H2 fp pn => comp_okE (rr.gr g1) jo (hg C s H2 fp pn) (ht C s H2 fp pn) (he C s H2 fp pn) hl e Q fun F' H' xs g2 rs _ p hp => q _ _ _ (g2.trans (.new g2.s hp _)) (.lst (SqL.of upd_same) (rs.same (same_new (g2.s.free hp) _)))
    | ex c => exact fun Q q C s H2 fp pn => comp_exE (rr.gr g1) jo (hg C s H2 fp pn) hgx (ht C s H2 fp pn) (he C s H2 fp pn) hl e Q fun F' H' C g2 hC => q F' H' C g2 hC
    | bad => trivial
  · rw [if_neg hl]; trivial
end
section
variable {X : Cx} {E : XK} {tg iter elt : Expr} {ts : List Expr} {me : ME} {na : MB} {pos : Pos}
theorem d_compX {own : List Str} {cap : List (Str × Nat)} {scope : Scope} {cl : List (Str × Addr)} {wi : TI} {mi : MI} {g : Fam TG} {gm : MG} {tt : Fam TT} {tf : Fam TE} (b : BodyX X E) (hi : DI X E tg iter wi mi) (O : CompOk X own cap scope cl) (hc : X.calm = true)
    (hg : ∀ C s H fp pn, DG (cxCompE (xfE E X) X (own ++ cap.map (·.1)) scope cl C s H fp pn) own.length tg (g C s H fp pn) gm) (ht : ∀ C s H fp pn, DTs (cxCompE (xfE E X) X (own ++ cap.map (·.1)) scope cl C s H fp pn) E ts (tt C s H fp pn) na)
    (he : ∀ C s H fp pn, DE (cxCompE (xfE E X) X (own ++ cap.map (·.1)) scope cl C s H fp pn) E elt (tf C s H fp pn) me) (hts : ts.length ≤ 1 := by decide) (hs : ∀ x, foldedSetIterable iter X.env x = pure x := by intro _; rfl) :
    DE X E (.ListComp elt [⟨tg, iter, ts, 0⟩] scope pos) (tCompT wi g tt tf own cap) (compX mi own.length (cap.map (·.2)) gm na me) :=
  ⟨pe_compX b hi.p O hc (fun C s H fp pn => (hg C s H fp pn).p) (fun C s H fp pn => (ht C s H fp pn).p) (fun C s H fp pn => (he C s H fp pn).p) hts hs,
   se_compX hi.s (fun C s H fp pn => (hg C s H fp pn).s) (hg 0 X.s₀ (fun _ => none) [] []).x (fun C s H fp pn => (ht C s H fp pn).s) (fun C s H fp pn => (he C s H fp pn).s)⟩
theorem d_callX {X : Cx} {E : XK} {N : List Str} {scope : Scope} {cl : List (Str × Addr)} {C' : Addr} {s : Shared} {H : Hp} {fp : List Addr} {pn : List (Addr × Obj)} {e : Expr} {es : List Expr} {t : TA} {m : MA} {n k l : Nat} {x : Str} {ps : List Str} {f : List D → Res D} {p pos : Pos}
    (C : Cal X.prog X.w X.K X.mg X.base k x ps f) (hr : Room l X.A) (hn : k ≤ l) (hg : Gl (cxCompE (xfE E X) X N scope cl C' s H fp pn) x) (ha : DA (cxCompE (xfE E X) X N scope cl C' s H fp pn) E n (e :: es) t m) (hps : ps.length = n := by rfl)
    (hdb : (x == ("__debug__" : Str)) = false := by decide) (he : starEach (e :: es) (cxCompE (xfE E X) X N scope cl C' s H fp pn).env = (false, eval e (cxCompE (xfE E X) X N scope cl C' s H fp pn).env) :: starEach es (cxCompE (xfE E X) X N scope cl C' s H fp pn).env := by rfl)
    (hpl : (backTo pos (starEach es (cxCompE (xfE E X) X N scope cl C' s H fp pn).env)).any (·.1) = false := by rfl) :
    DE (cxCompE (xfE E X) X N scope cl C' s H fp pn) E (.Call (.Name x p) (e :: es) [] pos) (tCall (spD X.K X.mg ps.length f) [] E t) (on f m) :=
  d_call (X := cxCompE (xfE E X) X N scope cl C' s H fp pn) C hr hn hg pass_cX ha hps hdb he hpl
end
end L2.Ds

namespace Dl
open PySem
end Dl

namespace L2.Ds
open PySem PySem.Spec PyProof.Rows Dl
noncomputable def FldOk (K : PySem.W.Frag) (mg : Str → Option Value) (cs : List Str) (f : Str) : Prop := ∀ c, cs.contains c = true → ∀ C, mg c = some (.ref C) → Cls K C ∧ NoAttr K C f
section
variable {K : PySem.W.Frag} {mg : Str → Option Value}
end
end L2.Ds

namespace Dl
open PySem
mutual
/-- no list in it -/
noncomputable def noL : D → Bool
  | .lst _ => false
  | .ins _ _ _ => false
  | .tup xs => noLs xs
  | _ => true
noncomputable def noLs : List D → Bool
  | [] => true
  | x :: r => noL x && noLs r
end
noncomputable def cellsO : D → Option (List D)
  | .lst cs => if noLs cs = true then some cs else none
  | _ => none
noncomputable def rowsOk : List D → Bool
  | [] => true
  | d :: r => (cellsO d).isSome && rowsOk r
end Dl

namespace L2.Ds
open PySem PySem.Spec PyProof.Rows Dl
section
variable {K : PySem.W.Frag} {mg : Str → Option Value} {E : XK} {F0 H0 F H : Hp} {σ : St} {ρ : Ev}
mutual
theorem rp_noL {F F3 : Hp} (k : ∀ b o, F b = some o → (∀ xs, o ≠ .lst xs) → F3 b = some o) : ∀ {x : V} {d : D}, Rp K mg F x d → noL d = true → Rp K mg F3 x d
  | _, _, .non, _ => .non
  | _, _, .bl b, _ => .bl b
  | _, _, .int i, _ => .int i
  | _, _, .str x, _ => .str x
  | _, _, .ty n, _ => .ty n
  | _, _, .cls h, _ => .cls h
  | _, _, .tup h r, p => by
    refine .tup ?_ (rps_noL k r (by simpa [noL] using p))
    rcases h with (h | ⟨o, h⟩) | h
    · exact .inl (.inl (k _ _ h fun _ z => by cases z))
    · exact .inl (.inr ⟨o, k _ _ h fun _ z => by cases z⟩)
    · exact .inr h
  | _, _, .lst h r, p => by simp [noL] at p
  | _, _, .exc m h, _ => .exc m (k _ _ h fun _ z => by cases z)
  | _, _, .ins m h o q r, p => by simp [noL] at p
theorem rps_noL {F F3 : Hp} (k : ∀ b o, F b = some o → (∀ xs, o ≠ .lst xs) → F3 b = some o) : ∀ {xs : List V} {ds : List D}, Rps K mg F xs ds → noLs ds = true → Rps K mg F3 xs ds
  | _, _, .nil, _ => .nil
  | _, _, .cons h r, p => by
    rw [noLs, Bool.and_eq_true] at p
    exact .cons (rp_noL k h p.1) (rps_noL k r p.2)
end
noncomputable def RowR (K : PySem.W.Frag) (mg : Str → Option Value) (Fb F' : Hp) (x : V) (d : D) : Prop := ∃ q ys cs, x = .ref q ∧ d = .lst cs ∧ Fb q = none ∧ F' q = some (.lst ys) ∧ Rps K mg F' ys cs
theorem RowR.up {Fb F' F'' : Hp} {x : V} {d : D} (h : RowR K mg Fb F' x d) (s : Same F' F'') : RowR K mg Fb F'' x d := by
  obtain ⟨q, ys, cs, e1, e2, h1, h2, h3⟩ := h
  exact ⟨q, ys, cs, e1, e2, h1, s _ _ h2, h3.same s⟩
noncomputable def SEl (K : PySem.W.Frag) (mg : Str → Option Value) (E : XK) (t : TE) (m : ME) : Prop := ∀ F0 H0 F H σ ρ, Rep K mg F0 H0 F H σ ρ → Ans mg E (RowR K mg F) F H (m ρ) (t σ H)
theorem rowsOk_get : ∀ {rows : List D} {r : Nat} {d : D}, rowsOk rows = true → rows[r]? = some d → ∃ cs, d = .lst cs ∧ noLs cs = true
  | [], _, _, _, e => by simp at e
  | x :: rows, 0, d, h, e => by
    have e' : x = d := by simpa using e
    subst e'
    rw [rowsOk, Bool.and_eq_true] at h
    cases x with
    | lst cs =>
      refine ⟨cs, rfl, ?_⟩
      have h1 : (if noLs cs = true then some cs else none).isSome = true := h.1
      by_cases z : noLs cs = true
      · exact z
      · rw [if_neg z] at h1; cases h1
    | _ => exact absurd h.1 (by simp [cellsO])
  | x :: rows, r + 1, d, h, e => by
    rw [rowsOk, Bool.and_eq_true] at h
    exact rowsOk_get (r := r) h.2 (by simpa using e)
theorem rps_of : ∀ {xs : List V} {ds : List D} {G : Hp}, xs.length = ds.length → (∀ (k : Nat) (x : V) (d : D), xs[k]? = some x → ds[k]? = some d → Rp K mg G x d) → Rps K mg G xs ds
  | [], [], _, _, _ => .nil
  | [], _ :: _, _, l, _ => by cases l
  | _ :: _, [], _, l, _ => by cases l
  | x :: xs, d :: ds, G, l, h => .cons (h 0 x d rfl rfl) (rps_of (by simpa using l) fun k y e h1 h2 => h (k + 1) y e (by simpa using h1) (by simpa using h2))
end
structure DEl (X : Cx) (E : XK) (e : Expr) (t : TE) (m : ME) : Prop where
  p : PE X e t
  s : SEl X.K X.mg E t m
section
variable {X : Cx} {E : XK} {tg iter elt e e0 : Expr} {ts es : List Expr} {me mv : ME} {na : MB} {n i a b : Nat} {x xa xb : Str} {t : TA} {m : MA} {tv : TE} {ur : TS} {kr : MS} {rest : List Stmt} {pos pos' spos spos2 np nap nbp ip ip2 : Pos}
end
end L2.Ds

namespace Dl
open PySem
end Dl

namespace L2
open PySem PySem.Spec PyProof.Rows
section
variable {X : Cx}
end
end L2
namespace L2.Ds
open PySem PySem.Spec PyProof.Rows PySem.Calls Dl
section
variable {K : PySem.W.Frag} {mg : Str → Option Value}
end
section
variable {X : Cx} {E : XK} {a b : Expr} {ta tb : TE} {ma mb : ME} {pos : Pos}
end
end L2.Ds

namespace Dl
open PySem
noncomputable abbrev Fs := List (Str × D)
noncomputable abbrev MSi := Ev → Fs → Res Fs
end Dl

namespace L2.Ds
open PySem PySem.Spec PyProof.Rows Dl
theorem Ans.imp {α β : Type} {mg : Str → Option Value} {E : XK} {R : Hp → β → α → Prop} {F H : Hp} {r : Res α} {w w' : (β → Hp → Prop) → Prop} (h : Ans mg E R F H r w) (hw : ∀ Q, w Q → w' Q) : Ans mg E R F H r w' := by
  cases r with
  | ok a => exact fun Q q => hw Q (h Q q)
  | ex c => exact fun Q q => hw Q (h Q q)
  | bad => trivial
section
variable {X : Cx} {E : XK} {k : Nat} {m : Str} {e o : Expr} {es : List Expr} {ta : TE} {t : TA} {pos apos : Pos} {pl : Sem Bool}
end
noncomputable def MethOk (P : Program) (w : World) (K : PySem.W.Frag) (mg : Str → Option Value) (base : Heap) (k n : Nat) (m : Str) (tab : List (Str × (List D → Res D))) : Prop := ∀ c f, tab.lookup c = some f → ∀ C, mg c = some (.ref C) →
  Cls K C ∧ ∃ g fd ps, Meth K C m g ∧ FnOk P w K mg base (CXR P w) k g fd ps (spD K mg ps.length f) ∧ Binds K fd ps [] ∧ ps.length = n + 1
theorem MethOk.nil {P : Program} {w : World} {K : PySem.W.Frag} {mg : Str → Option Value} {base : Heap} {k n : Nat} {m : Str} : MethOk P w K mg base k n m [] := fun _ _ e => by cases e
theorem MethOk.cons {P : Program} {w : World} {K : PySem.W.Frag} {mg : Str → Option Value} {base : Heap} {k n : Nat} {m c : Str} {f : List D → Res D} {tab : List (Str × (List D → Res D))}
    (h : ∀ C, mg c = some (.ref C) → Cls K C ∧ ∃ g fd ps, Meth K C m g ∧ FnOk P w K mg base (CXR P w) k g fd ps (spD K mg ps.length f) ∧ Binds K fd ps [] ∧ ps.length = n + 1) (r : MethOk P w K mg base k n m tab) : MethOk P w K mg base k n m ((c, f) :: tab) := by
  intro c' f' e
  rw [List.lookup_cons] at e
  split at e
  · next q =>
    cases e
    rw [eq_of_beq q]
    exact h
  · exact r c' f' e
section
variable {P : Program} {w : World} {K : PySem.W.Frag} {mg : Str → Option Value} {base : Heap} {E : XK} {k n : Nat} {m : Str} {tab : List (Str × (List D → Res D))} {ta : TE} {mo : ME} {t : TA} {ma : MA}
end
section
variable {X : Cx} {E : XK} {k l n : Nat} {m : Str} {e o : Expr} {es : List Expr} {ta : TE} {mo : ME} {t : TA} {ma : MA} {pos apos : Pos} {pl : Sem Bool} {tab : List (Str × (List D → Res D))}
end
section
variable {X : Cx} {N : List Str} {scope : Scope} {cl : List (Str × Addr)} {C' : Addr} {s : Shared} {H : Hp} {fp : List Addr} {pn : List (Addr × Obj)} {e o : Expr} {es : List Expr} {ta : TE} {mo : ME} {t : TA} {ma : MA} {n k l : Nat} {m f : Str} {pos apos : Pos} {pl : Sem Bool} {tab : List (Str × (List D → Res D))} {cs : List Str}
end
theorem FldOk.nil {K : PySem.W.Frag} {mg : Str → Option Value} {f : Str} : FldOk K mg [] f := fun _ h => by cases h
theorem FldOk.cons {K : PySem.W.Frag} {mg : Str → Option Value} {c f : Str} {cs : List Str} (h : ∀ C, mg c = some (.ref C) → Cls K C ∧ NoAttr K C f) (r : FldOk K mg cs f) : FldOk K mg (c :: cs) f := fun c' hc => by
  rw [List.contains_cons] at hc
  cases z : c' == c with
  | true => rw [eq_of_beq z]; exact h
  | false =>
    rw [z, Bool.false_or] at hc
    exact r c' hc
structure FR (K : PySem.W.Frag) (mg : Str → Option Value) (F : Hp) (fs : List (Str × V)) (fl : Fs) : Prop where
  nm : fs.map (·.1) = fl.map (·.1)
  rv : Rps K mg F (fs.map (·.2)) (fl.map (·.2))
theorem FR.same {K : PySem.W.Frag} {mg : Str → Option Value} {F F' : Hp} {fs : List (Str × V)} {fl : Fs} (h : FR K mg F fs fl) (s : Same F F') : FR K mg F' fs fl := ⟨h.nm, h.rv.same s⟩
theorem FR.len {K : PySem.W.Frag} {mg : Str → Option Value} {F : Hp} {fs : List (Str × V)} {fl : Fs} (h : FR K mg F fs fl) : fs.length = fl.length := by
  have := congrArg List.length h.nm
  rwa [List.length_map, List.length_map] at this
theorem putF_new {f : Str} {y : V} : ∀ {fs : List (Str × V)}, ¬ (fs.map (·.1)).contains f = true → putF f y fs = fs ++ [(f, y)]
  | [], _ => rfl
  | (g, x) :: r, h => by
    rw [List.map_cons, List.contains_cons] at h
    have hg : g ≠ f := by
      rintro rfl
      exact h (by rw [show ((g, x).fst == g) = true from beq_self_eq_true g]; rfl)
    show (if g = f then (g, y) :: r else (g, x) :: putF f y r) = _
    rw [if_neg hg, putF_new fun q => h (by rw [q, Bool.or_true])]
    rfl
theorem FR.put {K : PySem.W.Frag} {mg : Str → Option Value} {F : Hp} {fs : List (Str × V)} {fl : Fs} {f : Str} {y : V} {d : D} (h : FR K mg F fs fl) (hn : ¬ (fl.map (·.1)).contains f = true) (ry : Rp K mg F y d) : FR K mg F (putF f y fs) (fl ++ [(f, d)]) := by
  rw [putF_new (by rw [h.nm]; exact hn)]
  refine ⟨by rw [List.map_append, List.map_append, h.nm]; rfl, ?_⟩
  rw [List.map_append, List.map_append]
  exact Rps.app (.cons ry .nil) h.rv
noncomputable def spI (K : PySem.W.Frag) (mg : Str → Option Value) (n : Nat) (cs : List Str) (m : List D → Fs → Res Fs) : Sp := fun vs H Q E => vs.length = n + 1 ∧ ∃ (x dx C : Addr) (c : Str) (ys : List V) (fs : List (Str × V)) (F : Hp) (ds : List D) (fl : Fs),
  vs = .ref x :: ys ∧ cs.contains c = true ∧ mg c = some (.ref C) ∧ H x = some (.ins C dx fs) ∧ F x = none ∧ Same F H ∧ Rps K mg F ys ds ∧ FR K mg F fs fl ∧ m ds fl ≠ .bad ∧
  (∀ fl', m ds fl = .ok fl' → ∀ F' H' fs', Gr F (del H x) F' H' → F' x = none → H' x = some (.ins C dx fs') → FR K mg F' fs' fl' → Q .non H') ∧
  (∀ e, m ds fl = .ex e → ∀ F' H' fs' Ce, Gr F (del H x) F' H' → F' x = none → H' x = some (.ins C dx fs') → mg e = some (.ref Ce) → E (.ref Ce) none H')
structure RepI (K : PySem.W.Frag) (mg : Str → Option Value) (x dx C : Addr) (F0 H0 F H : Hp) (σ : St) (ρ : Ev) (fs : List (Str × V)) (fl : Fs) : Prop where
  rep : Rep K mg F0 H0 F H σ ρ
  h0 : H0 x = none
  self : σ[0]? = some (some (.ref x))
  fx : F x = none
  hx : H x = some (.ins C dx fs)
  fr : FR K mg F fs fl
section
variable {K : PySem.W.Frag} {mg : Str → Option Value} {x dx C : Addr} {F0 H0 F H F' H' : Hp} {σ : St} {ρ : Ev} {fs fs' : List (Str × V)} {fl fl' : Fs}
theorem RepI.gr (r : RepI K mg x dx C F0 H0 F H σ ρ fs fl) (g : Gr F H F' H') : RepI K mg x dx C F0 H0 F' H' σ ρ fs fl := by
  obtain ⟨q1, q2⟩ := g.o x _ r.fx r.hx
  exact ⟨r.rep.gr g, r.h0, r.self, q1, q2, r.fr.same g.f⟩
theorem RepI.go (r : RepI K mg x dx C F0 H0 F H σ ρ fs fl) (g : Gr F (del H x) F' H') (fx : F' x = none) (hx : H' x = some (.ins C dx fs')) (fr : FR K mg F' fs' fl') : RepI K mg x dx C F0 H0 F' H' σ ρ fs' fl' := by
  refine ⟨⟨⟨r.rep.g.f.trans g.f, g.s, fun a o h1 h2 => ?_⟩, r.rep.len, fun i d e => ?_, fun i ds e => ?_, r.rep.ne⟩, r.h0, r.self, fx, hx, fr⟩
  · obtain ⟨q1, q2⟩ := r.rep.g.o a o h1 h2
    exact g.o a o q1 (by rw [del_ne (ne_of_none h2 r.h0)]; exact q2)
  · obtain ⟨y, h1, h2⟩ := r.rep.im i d e
    exact ⟨y, h1, h2.same g.f⟩
  · obtain ⟨a, xs, h1, h2, h3, h4, h5⟩ := r.rep.ow i ds e
    have ne : a ≠ x := by
      rintro rfl
      rw [r.hx] at h4
      cases h4
    obtain ⟨q1, q2⟩ := g.o a _ h3 (by rw [del_ne ne]; exact h4)
    exact ⟨a, xs, h1, h2, q1, q2, h5.same g.f⟩
theorem RepI.set {f : Str} {y : V} {d : D} (r : RepI K mg x dx C F0 H0 F H σ ρ fs fl) (hn : ¬ (fl.map (·.1)).contains f = true) (ry : Rp K mg F y d) : RepI K mg x dx C F0 H0 F (upd H x (.ins C dx (putF f y fs))) σ ρ (putF f y fs) (fl ++ [(f, d)]) := by
  refine r.go ⟨Same.refl _, fun a o e => ?_, fun a o h1 h2 => ⟨h1, ?_⟩⟩ r.fx upd_same (r.fr.put hn ry)
  · rw [upd_ne (ne_of_none e r.fx)]; exact r.rep.g.s a o e
  · have ne : a ≠ x := by
      rintro rfl
      rw [del_at] at h2
      cases h2
    rw [del_ne ne] at h2
    rw [upd_ne ne]; exact h2
end
noncomputable def AnsI (K : PySem.W.Frag) (mg : Str → Option Value) (E : XK) (x dx C : Addr) (F0 H0 : Hp) (r : Res Fs) (w : Ends → Prop) : Prop :=
  match r with
  | .ok fl => ∀ D : Ends, (∀ F' H' σ' fs, Gr F0 H0 F' H' → F' x = none → H' x = some (.ins C dx fs) → FR K mg F' fs fl → D.nx σ' H') → w D
  | .ex c => ∀ D : Ends, (∀ F' H' fs Ce, Gr F0 H0 F' H' → F' x = none → H' x = some (.ins C dx fs) → mg c = some (.ref Ce) → E (.ref Ce) none H') → w D
  | .bad => True
noncomputable def SSi (K : PySem.W.Frag) (mg : Str → Option Value) (E : XK) (cs : List Str) (t : TS) (m : MSi) : Prop := ∀ x dx C c F0 H0 F H σ ρ fs fl, cs.contains c = true → mg c = some (.ref C) → RepI K mg x dx C F0 H0 F H σ ρ fs fl → AnsI K mg E x dx C F0 H0 (m ρ fl) (fun D => t D σ H)
structure DSi (X : Cx) (E : XK) (cs : List Str) (sts : List Stmt) (t : TS) (m : MSi) : Prop where
  p : PSs X sts t
  s : SSi X.K X.mg E cs t m
section
variable {K : PySem.W.Frag} {mg : Str → Option Value} {E : XK} {x dx C : Addr} {F0 H0 F H : Hp} {α β : Type} {R : Hp → β → α → Prop} {σ : St} {ρ : Ev} {fs : List (Str × V)} {fl : Fs}
end
section
variable {X : Cx} {E : XK} {cs cs' : List Str} {rest : List Stmt} {u : TS} {k : MSi} {e o : Expr} {es : List Expr} {te : TE} {me : ME} {t : TA} {ma : MA} {spos pos apos p p' : Pos} {f x y m : Str} {n j l : Nat}
end
structure ClsM (K : PySem.W.Frag) (C : Addr) (m : Str) (f : Addr) : Prop where
  sg : PySem.W.specialIn K (.ref C) "__getattribute__" = some (some (.builtin "type.__getattribute__"))
  rd : ∃ mc, PySem.W.readsIn K C mc = true ∧ PySem.W.findCls K (.ref C) mc m = some (.val (.ref f))
  hh : PySem.W.handedIn (.ref f) = true
  kp : PySem.W.keepIn K (.ref f) = true
section
variable {X : Cx} {E : XK} {k : Nat} {y m : Str} {C f : Addr} {fd : FuncData} {ps : List Str} {sp : Sp} {e : Expr} {es : List Expr} {t : TA} {p pos apos : Pos} {pl : Sem Bool}
end
structure CalS (P : Program) (w : World) (K : PySem.W.Frag) (mg : Str → Option Value) (base : Heap) (k : Nat) (y m : Str) (n : Nat) (cs : List Str) (g : List D → Fs → Res Fs) : Prop where
  ex : ∃ (C f : Addr) (fd : FuncData) (ps : List Str), mg y = some (.ref C) ∧ ClsM K C m f ∧ FnOk P w K mg base (CXR P w) k f fd ps (spI K mg n cs g) ∧ Binds K fd ps []
section
variable {X : Cx} {E : XK} {cs cs' : List Str} {rest : List Stmt} {u : TS} {k : MSi} {e : Expr} {es : List Expr} {t : TA} {ma : MA} {spos pos apos p p' : Pos} {x y m : Str} {n j l : Nat} {g : List D → Fs → Res Fs} {pl : Sem Bool}
end
section
variable {P : Program} {w : World} {K : PySem.W.Frag} {mg : Str → Option Value} {base : Heap} {N ps : List Str} {x qual : Str} {f : Addr} {cs : List Str}
end
structure CalI (P : Program) (w : World) (K : PySem.W.Frag) (mg : Str → Option Value) (base : Heap) (k : Nat) (c : Str) (n : Nat) (cs : List Str) (g : List D → Fs → Res Fs) : Prop where
  ex : ∃ (C f : Addr) (fd : FuncData) (ps : List Str), mg c = some (.ref C) ∧ Mk K C f ∧ FnOk P w K mg base (CXR P w) k f fd ps (spI K mg n cs g) ∧ Binds K fd ps [] ∧ cs.contains c = true
section
variable {K : PySem.W.Frag} {mg : Str → Option Value} {E : XK} {c : Str} {n : Nat} {cs : List Str} {g : List D → Fs → Res Fs} {t : TA} {ma : MA}
end
section
variable {X : Cx} {E : XK} {k l n : Nat} {c : Str} {cs : List Str} {g : List D → Fs → Res Fs} {e : Expr} {es : List Expr} {t : TA} {ma : MA} {p pos : Pos}
end
section
variable {X : Cx} {N : List Str} {scope : Scope} {cl : List (Str × Addr)} {C' : Addr} {s : Shared} {H : Hp} {fp : List Addr} {pn : List (Addr × Obj)} {k l n : Nat} {c : Str} {cs : List Str} {g : List D → Fs → Res Fs} {e : Expr} {es : List Expr} {t : TA} {ma : MA} {p pos : Pos}
end
end L2.Ds

namespace Dl
open PySem
end Dl

namespace L2
open PySem PySem.Spec PyProof.Rows
end L2
namespace L2.Ds
open PySem PySem.Spec PyProof.Rows Dl
section
variable {K : PySem.W.Frag} {mg : Str → Option Value} {E : XK} {tk te : TE} {mk me : ME}
end
section
variable {X : Cx} {E : XK} {k' e : Expr} {tk te : TE} {mk me : ME} {x : Str} {np apos cpos spos : Pos}
end
end L2.Ds

namespace Dl
open PySem
end Dl

namespace L2
open PySem PySem.Spec PyProof.Rows
end L2
namespace L2.Ds
open PySem PySem.Spec PyProof.Rows PySem.Calls Dl
section
variable {X : Cx} {E : XK} {a b : Expr} {ta tb : TE} {ma mb : ME} {pos : Pos} {k : Nat}
end
end L2.Ds

namespace Dl
open PySem
end Dl

namespace L2
open PySem PySem.Spec PyProof.Rows PySem.Calls
section
variable {X : Cx} {k : Nat} {x : Str} {C f : Addr} {fd : FuncData} {ps : List Str} {sp : Sp} {t : TA} {e : Expr} {es : List Expr} {p cpos epos : Pos}
end
end L2
namespace L2.Ds
open PySem PySem.Spec PyProof.Rows PySem.Calls Dl
end L2.Ds

namespace L2
open PySem PySem.Spec PyProof.Rows
structure RoomH (k : Nat) (A : Around) : Prop where
  dp : A.depth + 3 * k + 5 < recursionLimit
  un : A.units + 16 * k + 200 < cLine
theorem Room.h {k : Nat} {A : Around} (r : Room k A) (v : Option Value) : RoomH k (A.mark v) := ⟨r.dp, r.un⟩
theorem RoomH.mono {j k : Nat} {A : Around} (r : RoomH k A) (h : j ≤ k) : RoomH j A := ⟨by have := r.dp; omega, by have := r.un; omega⟩
structure FnOkH (P : Program) (w : World) (K : PySem.W.Frag) (mg : Str → Option Value) (base : Heap) (CX : CXT) (k : Nat) (f : Addr) (fd : FuncData) (ps : List Str) (sp : Sp) : Prop where
  len : ∀ vs H Q E, sp vs H Q E → vs.length = ps.length
  run : ∀ (A : Around) (outer : List Env) (s : Shared) (H : Hp) (args : Args) (us : List Value) (vs : List V) (Q : VK) (E : XK), RoomH k A → Env0 P w K mg base A outer s H → BindsTo s fd args (ps.zip us) → Vals vs us → sp vs H Q E →
    codeAny (model P w) A (.call (.ref f) args) (CR CX outer P w H s Q E) s
section
variable {CX : CXT} {P : Program} {w : World} {K : PySem.W.Frag} {mg : Str → Option Value} {base : Heap} {N ps : List Str} {qual : Str} {scope : Scope} {f : Addr} {cd : Value} {A : Around} {outer : List Env} {s s1 : Shared} {H : Hp} {E : XK} {us : List Value} {vs : List V}
end
end L2
namespace L2.Ds
open PySem PySem.Spec PyProof.Rows PySem.Calls Dl
section
variable {P : Program} {w : World} {K : PySem.W.Frag} {mg : Str → Option Value} {base : Heap} {N ps : List Str} {x : Str} {f : Addr}
end
structure CalH (P : Program) (w : World) (K : PySem.W.Frag) (mg : Str → Option Value) (base : Heap) (n : Nat) (x : Str) (ps : List Str) (m : List D → Res D) : Prop where
  ex : ∃ (f : Addr) (fd : FuncData), FnOkH P w K mg base (CXR P w) n f fd ps (spD K mg ps.length m) ∧ Binds K fd ps [] ∧ PySem.W.keepIn K (.ref f) = true ∧ mg x = some (.ref f)
section
variable {X : Cx} {k l n : Nat} {x : Str} {ps : List Str} {f : List D → Res D} {p pos : Pos} {e : Expr} {es : List Expr} {t : TA} {m : MA} {a : Addr}
end
end L2.Ds

namespace Dl
open PySem
noncomputable def rowsD : D → Bool
  | .lst rows => rowsOk rows
  | _ => false
end Dl

namespace HT
open PySem PyProof.Rows
section
variable {prog : Program} {w : World} {A : Around} {E : Value → Shared → Prop} {s : Shared}
end
end HT
namespace L2
open PySem PySem.Spec PyProof.Rows
section
variable {X : Cx} {e st : Expr} {te ts : TE} {p2 pos : Pos}
end
end L2
namespace L2.Ds
open PySem PySem.Spec PyProof.Rows Dl
structure TabI (K : PySem.W.Frag) (mg : Str → Option Value) (tab : List (Str × Str × Bool)) : Prop where
  c : ∀ e ∈ tab, ∃ D C, mg e.1 = some (.ref D) ∧ mg e.2.1 = some (.ref C) ∧ Cls K D ∧ PySem.W.findIn K (.ref D) "__class__" = some (some (.builtin "object.__class__")) ∧
    PySem.W.specialIn K (.builtin "object.__class__") "__get__" = some (some (.builtin "getset_descriptor.__get__")) ∧ PySem.W.takesIn K (.builtin "object.__class__") = some true ∧ PySem.W.mroIn K D (.type "object") = some true ∧ PySem.W.kitOne K (.ref D) (.ref C) = some e.2.2
theorem TabI.nil {K : PySem.W.Frag} {mg : Str → Option Value} : TabI K mg [] := ⟨fun _ h => by cases h⟩
theorem TabI.cons {K : PySem.W.Frag} {mg : Str → Option Value} {a b : Str} {v : Bool} {tab : List (Str × Str × Bool)} {D C : Addr} (h1 : mg a = some (.ref D)) (h2 : mg b = some (.ref C)) (h3 : Cls K D) (h4 : PySem.W.findIn K (.ref D) "__class__" = some (some (.builtin "object.__class__")))
    (h5 : PySem.W.specialIn K (.builtin "object.__class__") "__get__" = some (some (.builtin "getset_descriptor.__get__"))) (h6 : PySem.W.takesIn K (.builtin "object.__class__") = some true) (h7 : PySem.W.mroIn K D (.type "object") = some true) (h8 : PySem.W.kitOne K (.ref D) (.ref C) = some v) (r : TabI K mg tab) : TabI K mg ((a, b, v) :: tab) :=
  ⟨fun e he => by
    rcases List.mem_cons.mp he with rfl | he
    · exact ⟨D, C, h1, h2, h3, h4, h5, h6, h7, h8⟩
    · exact r.c e he⟩
noncomputable def Fr (K : PySem.W.Frag) (mg : Str → Option Value) (G F : Hp) (x : V) (d : D) : Prop := ∀ G' : Hp, (∀ b o, F b = some o → (G b = none ∨ ∀ xs, o ≠ .lst xs) → G' b = some o) → Rp K mg G' x d
section
variable {K : PySem.W.Frag} {mg : Str → Option Value} {E : XK} {G Gb F F' F0 H0 H : Hp} {x : V} {d : D} {σ : St} {ρ : Ev}
theorem Fr.rp (h : Fr K mg G F x d) : Rp K mg F x d := h F fun _ _ e _ => e
theorem Fr.up (h : Fr K mg G F x d) (s : Same F F') : Fr K mg G F' x d := fun G' k => h G' fun b o e z => k b o (s b o e) z
theorem Fr.noL (h : Rp K mg F x d) (p : noL d = true) : Fr K mg G F x d := fun G' k => rp_noL (fun b o e z => k b o e (.inr z)) h p
noncomputable def RowsR (K : PySem.W.Frag) (mg : Str → Option Value) (Fb F' : Hp) (x : V) (d : D) : Prop := ∃ p xs rows, x = .ref p ∧ d = .lst rows ∧ Fb p = none ∧ F' p = some (.lst xs) ∧ xs.length = rows.length ∧ ∀ (k : Nat) (y : V) (d : D), xs[k]? = some y → rows[k]? = some d → RowR K mg Fb F' y d
theorem RowsR.fr (h : RowsR K mg G F x d) (hr : rowsD d = true) : Fr K mg G F x d := by
  obtain ⟨p, xs, rows, rfl, rfl, h1, h2, h3, h4⟩ := h
  intro G' k
  refine .lst (SqL.of (k p _ h2 (.inl h1))) (rps_of h3 fun m y e a b => ?_)
  obtain ⟨q, ys, cs, rfl, rfl, q1, q2, q3⟩ := h4 m y e a b
  obtain ⟨_, ec, hn⟩ := rowsOk_get (show rowsOk rows = true from hr) b
  cases ec
  exact .lst (SqL.of (k q _ q2 (.inl q1))) (rps_noL (fun b o e z => k b o e (.inr z)) q3 hn)
noncomputable def SEr (K : PySem.W.Frag) (mg : Str → Option Value) (E : XK) (t : TE) (m : ME) : Prop := ∀ Fb F0 H0 F H σ ρ, Rep K mg F0 H0 F H σ ρ → Same Fb F → Ans mg E (RowsR K mg Fb) F H (m ρ) (t σ H)
noncomputable def SEf (K : PySem.W.Frag) (mg : Str → Option Value) (E : XK) (t : TE) (m : ME) : Prop := ∀ F0 H0 F H σ ρ, Rep K mg F0 H0 F H σ ρ → Ans mg E (Fr K mg F) F H (m ρ) (t σ H)
noncomputable def spR (K : PySem.W.Frag) (mg : Str → Option Value) (k : Nat) (f : List D → Res D) : Sp := fun vs H Q E => vs.length = k ∧ ∃ F ds, Same F H ∧ Rps K mg F vs ds ∧ f ds ≠ .bad ∧
  (∀ d, f ds = .ok d → ∀ F' H' x, Gr F H F' H' → RowsR K mg F F' x d → Q x H') ∧ (∀ c, f ds = .ex c → ∀ F' H' C, Gr F H F' H' → mg c = some (.ref C) → E (.ref C) none H')
noncomputable def AnsR (K : PySem.W.Frag) (mg : Str → Option Value) (E : XK) (F0 H0 : Hp) (r : Res D) (w : Ends → Prop) : Prop :=
  match r with
  | .ok d => ∀ D : Ends, (∀ F' H' x, Gr F0 H0 F' H' → RowsR K mg F0 F' x d → D.rt x H') → w D
  | .ex c => ∀ D : Ends, (∀ F' H' C, Gr F0 H0 F' H' → mg c = some (.ref C) → E (.ref C) none H') → w D
  | .bad => True
end
structure DEr (X : Cx) (E : XK) (e : Expr) (t : TE) (m : ME) : Prop where
  p : PE X e t
  s : SEr X.K X.mg E t m
structure DEf (X : Cx) (E : XK) (e : Expr) (t : TE) (m : ME) : Prop where
  p : PE X e t
  s : SEf X.K X.mg E t m
structure CalR (P : Program) (w : World) (K : PySem.W.Frag) (mg : Str → Option Value) (base : Heap) (k : Nat) (x : Str) (ps : List Str) (m : List D → Res D) : Prop where
  ex : ∃ (f : Addr) (fd : FuncData), FnOk P w K mg base (CXR P w) k f fd ps (spR K mg ps.length m) ∧ Binds K fd ps [] ∧ PySem.W.keepIn K (.ref f) = true ∧ mg x = some (.ref f)
structure DSr (X : Cx) (E : XK) (sts : List Stmt) (t : TS) (m : ME) : Prop where
  p : PSs X sts t
  s : ∀ F0 H0 F H σ ρ, Rep X.K X.mg F0 H0 F H σ ρ → AnsR X.K X.mg E F0 H0 (m ρ) (fun D => t D σ H)
section
variable {X : Cx} {E : XK} {k l n i nn : Nat} {x y : Str} {ps : List Str} {f : List D → Res D} {t : TA} {m : MA} {e : Expr} {es : List Expr} {p pos pos' spos : Pos}
end
section
variable {X : Cx} {E : XK} {tg iter elt : Expr} {ts : List Expr} {me : ME} {na : MB} {pos spos : Pos}
end
section
variable {P : Program} {w : World} {K : PySem.W.Frag} {mg : Str → Option Value} {base : Heap} {N ps : List Str} {x : Str}
end
structure FRt (K : PySem.W.Frag) (mg : Str → Option Value) (G F : Hp) (fs : List (Str × V)) (fl : Fs) : Prop where
  nm : fs.map (·.1) = fl.map (·.1)
  rv : Rps K mg F (fs.map (·.2)) (fl.map (·.2))
  nw : ∀ (k : Nat) (x : V) (d : D), (fs.map (·.2))[k]? = some x → (fl.map (·.2))[k]? = some d → Fr K mg G F x d
theorem FRt.same {K : PySem.W.Frag} {mg : Str → Option Value} {G F F' : Hp} {fs : List (Str × V)} {fl : Fs} (h : FRt K mg G F fs fl) (s : Same F F') : FRt K mg G F' fs fl := ⟨h.nm, h.rv.same s, fun k x d h1 h2 => (h.nw k x d h1 h2).up s⟩
theorem FRt.len {K : PySem.W.Frag} {mg : Str → Option Value} {G F : Hp} {fs : List (Str × V)} {fl : Fs} (h : FRt K mg G F fs fl) : fs.length = fl.length := by
  have := congrArg List.length h.nm
  rwa [List.length_map, List.length_map] at this
theorem FRt.put {K : PySem.W.Frag} {mg : Str → Option Value} {G F : Hp} {fs : List (Str × V)} {fl : Fs} {f : Str} {y : V} {d : D} (h : FRt K mg G F fs fl) (hn : ¬ (fl.map (·.1)).contains f = true) (ry : Fr K mg G F y d) : FRt K mg G F (putF f y fs) (fl ++ [(f, d)]) := by
  rw [putF_new (by rw [h.nm]; exact hn)]
  have hl : (fs.map (·.2)).length = (fl.map (·.2)).length := by rw [List.length_map, List.length_map]; exact h.len
  refine ⟨by rw [List.map_append, List.map_append, h.nm]; rfl, ?_, fun k x e h1 h2 => ?_⟩
  · rw [List.map_append, List.map_append]
    exact Rps.app (.cons ry.rp .nil) h.rv
  · rw [List.map_append] at h1 h2
    by_cases hk : k < (fs.map (·.2)).length
    · rw [List.getElem?_append_left hk] at h1
      rw [List.getElem?_append_left (by omega)] at h2
      exact h.nw k x e h1 h2
    · rw [List.getElem?_append_right (by omega)] at h1
      rw [List.getElem?_append_right (by omega)] at h2
      have hk0 : k - (fs.map (·.2)).length = 0 := by
        have := (List.getElem?_eq_some_iff.mp h1).1
        simp at this ⊢
        omega
      rw [hk0] at h1
      rw [show k - (fl.map (·.2)).length = 0 by omega] at h2
      cases h1
      cases h2
      exact ry
noncomputable def spJ (K : PySem.W.Frag) (mg : Str → Option Value) (n : Nat) (cs : List Str) (m : List D → Fs → Res Fs) : Sp := fun vs H Q E => vs.length = n + 1 ∧ ∃ (x dx C : Addr) (c : Str) (ys : List V) (fs : List (Str × V)) (G F : Hp) (ds : List D) (fl : Fs), Same G F ∧
  vs = .ref x :: ys ∧ cs.contains c = true ∧ mg c = some (.ref C) ∧ H x = some (.ins C dx fs) ∧ F x = none ∧ Same F H ∧ Rps K mg F ys ds ∧ FRt K mg G F fs fl ∧ m ds fl ≠ .bad ∧
  (∀ fl', m ds fl = .ok fl' → ∀ F' H' fs', Gr F (del H x) F' H' → F' x = none → H' x = some (.ins C dx fs') → FRt K mg G F' fs' fl' → Q .non H') ∧
  (∀ e, m ds fl = .ex e → ∀ F' H' fs' Ce, Gr F (del H x) F' H' → F' x = none → H' x = some (.ins C dx fs') → mg e = some (.ref Ce) → E (.ref Ce) none H')
structure RepJ (K : PySem.W.Frag) (mg : Str → Option Value) (G : Hp) (x dx C : Addr) (F0 H0 F H : Hp) (σ : St) (ρ : Ev) (fs : List (Str × V)) (fl : Fs) : Prop where
  rep : Rep K mg F0 H0 F H σ ρ
  h0 : H0 x = none
  self : σ[0]? = some (some (.ref x))
  fx : F x = none
  hx : H x = some (.ins C dx fs)
  fr : FRt K mg G F fs fl
  sg : Same G F
section
variable {K : PySem.W.Frag} {mg : Str → Option Value} {x dx C : Addr} {G F0 H0 F H F' H' : Hp} {σ : St} {ρ : Ev} {fs fs' : List (Str × V)} {fl fl' : Fs}
theorem RepJ.gr (r : RepJ K mg G x dx C F0 H0 F H σ ρ fs fl) (g : Gr F H F' H') : RepJ K mg G x dx C F0 H0 F' H' σ ρ fs fl := by
  obtain ⟨q1, q2⟩ := g.o x _ r.fx r.hx
  exact ⟨r.rep.gr g, r.h0, r.self, q1, q2, r.fr.same g.f, r.sg.trans g.f⟩
theorem RepJ.go (r : RepJ K mg G x dx C F0 H0 F H σ ρ fs fl) (g : Gr F (del H x) F' H') (fx : F' x = none) (hx : H' x = some (.ins C dx fs')) (fr : FRt K mg G F' fs' fl') : RepJ K mg G x dx C F0 H0 F' H' σ ρ fs' fl' := by
  refine ⟨⟨⟨r.rep.g.f.trans g.f, g.s, fun a o h1 h2 => ?_⟩, r.rep.len, fun i d e => ?_, fun i ds e => ?_, r.rep.ne⟩, r.h0, r.self, fx, hx, fr, r.sg.trans g.f⟩
  · obtain ⟨q1, q2⟩ := r.rep.g.o a o h1 h2
    exact g.o a o q1 (by rw [del_ne (ne_of_none h2 r.h0)]; exact q2)
  · obtain ⟨y, h1, h2⟩ := r.rep.im i d e
    exact ⟨y, h1, h2.same g.f⟩
  · obtain ⟨a, xs, h1, h2, h3, h4, h5⟩ := r.rep.ow i ds e
    have ne : a ≠ x := by
      rintro rfl
      rw [r.hx] at h4
      cases h4
    obtain ⟨q1, q2⟩ := g.o a _ h3 (by rw [del_ne ne]; exact h4)
    exact ⟨a, xs, h1, h2, q1, q2, h5.same g.f⟩
theorem RepJ.set {f : Str} {y : V} {d : D} (r : RepJ K mg G x dx C F0 H0 F H σ ρ fs fl) (hn : ¬ (fl.map (·.1)).contains f = true) (ry : Fr K mg G F y d) : RepJ K mg G x dx C F0 H0 F (upd H x (.ins C dx (putF f y fs))) σ ρ (putF f y fs) (fl ++ [(f, d)]) := by
  refine r.go ⟨Same.refl _, fun a o e => ?_, fun a o h1 h2 => ⟨h1, ?_⟩⟩ r.fx upd_same (r.fr.put hn ry)
  · rw [upd_ne (ne_of_none e r.fx)]; exact r.rep.g.s a o e
  · have ne : a ≠ x := by
      rintro rfl
      rw [del_at] at h2
      cases h2
    rw [del_ne ne] at h2
    rw [upd_ne ne]; exact h2
end
noncomputable def AnsJ (K : PySem.W.Frag) (mg : Str → Option Value) (E : XK) (G : Hp) (x dx C : Addr) (F0 H0 : Hp) (r : Res Fs) (w : Ends → Prop) : Prop :=
  match r with
  | .ok fl => ∀ D : Ends, (∀ F' H' σ' fs, Gr F0 H0 F' H' → F' x = none → H' x = some (.ins C dx fs) → FRt K mg G F' fs fl → D.nx σ' H') → w D
  | .ex c => ∀ D : Ends, (∀ F' H' fs Ce, Gr F0 H0 F' H' → F' x = none → H' x = some (.ins C dx fs) → mg c = some (.ref Ce) → E (.ref Ce) none H') → w D
  | .bad => True
noncomputable def SSj (K : PySem.W.Frag) (mg : Str → Option Value) (E : XK) (cs : List Str) (t : TS) (m : MSi) : Prop := ∀ G x dx C c F0 H0 F H σ ρ fs fl, cs.contains c = true → mg c = some (.ref C) → RepJ K mg G x dx C F0 H0 F H σ ρ fs fl → AnsJ K mg E G x dx C F0 H0 (m ρ fl) (fun D => t D σ H)
structure DSj (X : Cx) (E : XK) (cs : List Str) (sts : List Stmt) (t : TS) (m : MSi) : Prop where
  p : PSs X sts t
  s : SSj X.K X.mg E cs t m
section
variable {K : PySem.W.Frag} {mg : Str → Option Value} {E : XK} {G : Hp} {x dx C : Addr} {F0 H0 F H : Hp} {α β : Type} {R : Hp → β → α → Prop} {σ : St} {ρ : Ev} {fs : List (Str × V)} {fl : Fs}
end
section
variable {X : Cx} {E : XK} {cs cs' : List Str} {rest : List Stmt} {u : TS} {k : MSi} {e o : Expr} {es : List Expr} {te : TE} {me : ME} {t : TA} {ma : MA} {spos pos apos p p' : Pos} {f x y m : Str} {n j l : Nat}
end
structure CalSJ (P : Program) (w : World) (K : PySem.W.Frag) (mg : Str → Option Value) (base : Heap) (k : Nat) (y m : Str) (n : Nat) (cs : List Str) (g : List D → Fs → Res Fs) : Prop where
  ex : ∃ (C f : Addr) (fd : FuncData) (ps : List Str), mg y = some (.ref C) ∧ ClsM K C m f ∧ FnOk P w K mg base (CXR P w) k f fd ps (spJ K mg n cs g) ∧ Binds K fd ps []
section
variable {X : Cx} {E : XK} {cs cs' : List Str} {rest : List Stmt} {u : TS} {k : MSi} {e : Expr} {es : List Expr} {t : TA} {ma : MA} {spos pos apos p p' : Pos} {x y m : Str} {n j l : Nat} {g : List D → Fs → Res Fs} {pl : Sem Bool}
end
section
variable {P : Program} {w : World} {K : PySem.W.Frag} {mg : Str → Option Value} {base : Heap} {N ps : List Str} {x qual : Str} {f : Addr} {cs : List Str}
end
structure CalJ (P : Program) (w : World) (K : PySem.W.Frag) (mg : Str → Option Value) (base : Heap) (k : Nat) (c : Str) (n : Nat) (cs : List Str) (g : List D → Fs → Res Fs) : Prop where
  ex : ∃ (C f : Addr) (fd : FuncData) (ps : List Str), mg c = some (.ref C) ∧ Mk K C f ∧ FnOk P w K mg base (CXR P w) k f fd ps (spJ K mg n cs g) ∧ Binds K fd ps [] ∧ cs.contains c = true
section
variable {K : PySem.W.Frag} {mg : Str → Option Value} {E : XK} {c : Str} {n : Nat} {cs : List Str} {g : List D → Fs → Res Fs} {t : TA} {ma : MA}
end
section
variable {X : Cx} {E : XK} {k l n : Nat} {c : Str} {cs : List Str} {g : List D → Fs → Res Fs} {e : Expr} {es : List Expr} {t : TA} {ma : MA} {p pos : Pos}
end
end L2.Ds

namespace Dl
open PySem
end Dl

namespace L2.Ds
open PySem PySem.Spec PyProof.Rows Dl
section
variable {K : PySem.W.Frag} {mg : Str → Option Value} {E : XK} {G Gb F F' F0 H0 H : Hp} {x : V} {d : D} {σ : St} {ρ : Ev}
theorem RowsR.up (h : RowsR K mg G F x d) (s : Same F F') : RowsR K mg G F' x d := by
  obtain ⟨p, xs, rows, e1, e2, h1, h2, h3, h4⟩ := h
  exact ⟨p, xs, rows, e1, e2, h1, s _ _ h2, h3, fun k y d a b => (h4 k y d a b).up s⟩
theorem RowsR.del {a : Addr} {xs : List V} (h : RowsR K mg G F x d) (hr : rowsD d = true) (ha : G a = some (.lst xs)) (hf : F a = some (.lst xs)) : RowsR K mg G (del F a) x d := by
  obtain ⟨p, zs, rows, rfl, rfl, h1, h2, h3, h4⟩ := h
  have np : ∀ {b : Addr}, G b = none → b ≠ a := fun {b} z e => by rw [e, ha] at z; cases z
  refine ⟨p, zs, rows, rfl, rfl, h1, by rw [del_ne (np h1)]; exact h2, h3, fun m y e z1 z2 => ?_⟩
  obtain ⟨q, ys, cs, rfl, rfl, q1, q2, q3⟩ := h4 m y e z1 z2
  obtain ⟨_, ec, hn⟩ := rowsOk_get (show rowsOk rows = true from hr) z2
  cases ec
  refine ⟨q, ys, cs, rfl, rfl, q1, by rw [del_ne (np q1)]; exact q2, rps_noL (fun b o e z => ?_) q3 hn⟩
  rw [del_ne]
  · exact e
  · rintro rfl
    rw [hf] at e
    cases e
    exact z _ rfl
theorem RowsR.rp (h : RowsR K mg G F x d) : Rp K mg F x d := by
  obtain ⟨p, xs, rows, rfl, rfl, h1, h2, h3, h4⟩ := h
  refine .lst (SqL.of h2) (rps_of h3 fun m y e a b => ?_)
  obtain ⟨q, ys, cs, rfl, rfl, q1, q2, q3⟩ := h4 m y e a b
  exact .lst (SqL.of q2) q3
noncomputable def ChR (K : PySem.W.Frag) (mg : Str → Option Value) (Fb F' : Hp) (x : V) (d : D) : Prop := ∃ p xs ds, x = .ref p ∧ d = .lst ds ∧ Fb p = none ∧ F' p = some (.lst xs) ∧ xs.length = ds.length ∧ ∀ (k : Nat) (y : V) (e : D), xs[k]? = some y → ds[k]? = some e → RowsR K mg Fb F' y e
theorem ChR.rp (h : ChR K mg G F x d) : Rp K mg F x d := by
  obtain ⟨p, xs, ds, rfl, rfl, h1, h2, h3, h4⟩ := h
  exact .lst (SqL.of h2) (rps_of h3 fun m y e a b => (h4 m y e a b).rp)
noncomputable def spC (K : PySem.W.Frag) (mg : Str → Option Value) (k : Nat) (f : List D → Res D) : Sp := fun vs H Q E => vs.length = k ∧ ∃ F ds, Same F H ∧ Rps K mg F vs ds ∧ f ds ≠ .bad ∧
  (∀ d, f ds = .ok d → ∀ F' H' x, Gr F H F' H' → ChR K mg F F' x d → Q x H') ∧ (∀ c, f ds = .ex c → ∀ F' H' C, Gr F H F' H' → mg c = some (.ref C) → E (.ref C) none H')
noncomputable def AnsC (K : PySem.W.Frag) (mg : Str → Option Value) (E : XK) (F0 H0 : Hp) (r : Res D) (w : Ends → Prop) : Prop :=
  match r with
  | .ok d => ∀ D : Ends, (∀ F' H' x, Gr F0 H0 F' H' → ChR K mg F0 F' x d → D.rt x H') → w D
  | .ex c => ∀ D : Ends, (∀ F' H' C, Gr F0 H0 F' H' → mg c = some (.ref C) → E (.ref C) none H') → w D
  | .bad => True
noncomputable def SEc (K : PySem.W.Frag) (mg : Str → Option Value) (E : XK) (t : TE) (m : ME) : Prop := ∀ Fb F0 H0 F H σ ρ, Rep K mg F0 H0 F H σ ρ → Same Fb F → Ans mg E (ChR K mg Fb) F H (m ρ) (t σ H)
end
structure DEc (X : Cx) (E : XK) (e : Expr) (t : TE) (m : ME) : Prop where
  p : PE X e t
  s : SEc X.K X.mg E t m
structure CalC (P : Program) (w : World) (K : PySem.W.Frag) (mg : Str → Option Value) (base : Heap) (k : Nat) (x : Str) (ps : List Str) (m : List D → Res D) : Prop where
  ex : ∃ (f : Addr) (fd : FuncData), FnOk P w K mg base (CXR P w) k f fd ps (spC K mg ps.length m) ∧ Binds K fd ps [] ∧ PySem.W.keepIn K (.ref f) = true ∧ mg x = some (.ref f)
structure DSc (X : Cx) (E : XK) (sts : List Stmt) (t : TS) (m : ME) : Prop where
  p : PSs X sts t
  s : ∀ F0 H0 F H σ ρ, Rep X.K X.mg F0 H0 F H σ ρ → AnsC X.K X.mg E F0 H0 (m ρ) (fun D => t D σ H)
section
variable {X : Cx} {E : XK} {k l n i nn : Nat} {x y : Str} {ps : List Str} {f : List D → Res D} {t : TA} {m : MA} {e : Expr} {es : List Expr} {p pos pos' spos : Pos}
end
section
variable {P : Program} {w : World} {K : PySem.W.Frag} {mg : Str → Option Value} {base : Heap} {N ps : List Str} {x : Str}
end
section
variable {X : Cx} {E : XK} {i : Nat} {y : Str} {te tv : TE} {me mv : ME} {e c' ev : Expr} {sa : TT} {na : MB} {kb kr : MS} {ub ur : TS} {body rest : List Stmt}
end
end L2.Ds

namespace Dl
open PySem
end Dl
namespace Dl
open PySem
end Dl

namespace L2.Ds
open PySem PySem.Spec PyProof.Rows Dl
section
variable {K : PySem.W.Frag} {mg : Str → Option Value} {E : XK} {F0 H0 F H : Hp} {σ : St} {ρ : Ev}
end
end L2.Ds

namespace L2.Ds
open PySem PySem.Spec PyProof.Rows Dl
section
variable {K : PySem.W.Frag} {mg : Str → Option Value} {E : XK} {G Gb F F' F0 H0 H : Hp} {x : V} {d : D} {σ : St} {ρ : Ev}
noncomputable def TwoR (K : PySem.W.Frag) (mg : Str → Option Value) (Fb F' : Hp) (x : V) (d : D) : Prop := ∃ p q0 q1 xs ys as bs, x = .ref p ∧ d = .tup [.lst as, .lst bs] ∧ F' p = some (.tup [.ref q0, .ref q1]) ∧ q0 ≠ q1 ∧ Fb q0 = none ∧ Fb q1 = none ∧ F' q0 = some (.lst xs) ∧ F' q1 = some (.lst ys) ∧ Rps K mg F' xs as ∧ Rps K mg F' ys bs
theorem TwoR.rp (h : TwoR K mg G F x d) : Rp K mg F x d := by
  obtain ⟨p, q0, q1, xs, ys, as, bs, rfl, rfl, h1, h2, h3, h4, h5, h6, h7, h8⟩ := h
  exact .tup (SqT.of h1) (.cons (.lst (SqL.of h5) h7) (.cons (.lst (SqL.of h6) h8) .nil))
noncomputable def spT (K : PySem.W.Frag) (mg : Str → Option Value) (k : Nat) (f : List D → Res D) : Sp := fun vs H Q E => vs.length = k ∧ ∃ F ds, Same F H ∧ Rps K mg F vs ds ∧ f ds ≠ .bad ∧
  (∀ d, f ds = .ok d → ∀ F' H' x, Gr F H F' H' → TwoR K mg F F' x d → Q x H') ∧ (∀ c, f ds = .ex c → ∀ F' H' C, Gr F H F' H' → mg c = some (.ref C) → E (.ref C) none H')
noncomputable def AnsT (K : PySem.W.Frag) (mg : Str → Option Value) (E : XK) (F0 H0 : Hp) (r : Res D) (w : Ends → Prop) : Prop :=
  match r with
  | .ok d => ∀ D : Ends, (∀ F' H' x, Gr F0 H0 F' H' → TwoR K mg F0 F' x d → D.rt x H') → w D
  | .ex c => ∀ D : Ends, (∀ F' H' C, Gr F0 H0 F' H' → mg c = some (.ref C) → E (.ref C) none H') → w D
  | .bad => True
noncomputable def SEt (K : PySem.W.Frag) (mg : Str → Option Value) (E : XK) (t : TE) (m : ME) : Prop := ∀ Fb F0 H0 F H σ ρ, Rep K mg F0 H0 F H σ ρ → Same Fb F → Ans mg E (TwoR K mg Fb) F H (m ρ) (t σ H)
end
structure DEt (X : Cx) (E : XK) (e : Expr) (t : TE) (m : ME) : Prop where
  p : PE X e t
  s : SEt X.K X.mg E t m
structure CalT (P : Program) (w : World) (K : PySem.W.Frag) (mg : Str → Option Value) (base : Heap) (k : Nat) (x : Str) (ps : List Str) (m : List D → Res D) : Prop where
  ex : ∃ (f : Addr) (fd : FuncData), FnOk P w K mg base (CXR P w) k f fd ps (spT K mg ps.length m) ∧ Binds K fd ps [] ∧ PySem.W.keepIn K (.ref f) = true ∧ mg x = some (.ref f)
structure DSt2 (X : Cx) (E : XK) (sts : List Stmt) (t : TS) (m : ME) : Prop where
  p : PSs X sts t
  s : ∀ F0 H0 F H σ ρ, Rep X.K X.mg F0 H0 F H σ ρ → AnsT X.K X.mg E F0 H0 (m ρ) (fun D => t D σ H)
section
variable {X : Cx} {E : XK} {k l n i nn : Nat} {x y : Str} {ps : List Str} {f : List D → Res D} {t : TA} {m : MA} {e : Expr} {es : List Expr} {p pos pos' spos : Pos}
end
section
variable {P : Program} {w : World} {K : PySem.W.Frag} {mg : Str → Option Value} {base : Heap} {N ps : List Str} {x : Str}
end
end L2.Ds
namespace L2.Ds
open PySem PySem.Spec PyProof.Rows Dl
section
variable {X : Cx} {E : XK} {i : Nat} {c c' : Int} {y : Str} {te : TE} {me : ME} {e : Expr} {kr : MS} {ur : TS} {rest : List Stmt}
end
noncomputable def spW (K : PySem.W.Frag) (mg : Str → Option Value) (k : Nat) (f : List D → List D → Res D) : Sp := fun vs H Q E => vs.length = k ∧ ∃ F us ds a xs es, vs = us ++ [.ref a] ∧ Same F H ∧ F a = none ∧ H a = some (.lst xs) ∧ Rps K mg F us ds ∧ Rps K mg F xs es ∧ f ds es ≠ .bad ∧
  (∀ d, f ds es = .ok d → ∀ F' H' v, Gr F (del H a) F' H' → Rp K mg F' v d → Q v H') ∧ (∀ c, f ds es = .ex c → ∀ F' H' C, Gr F (del H a) F' H' → mg c = some (.ref C) → E (.ref C) none H')
structure CalW (P : Program) (w : World) (K : PySem.W.Frag) (mg : Str → Option Value) (base : Heap) (k : Nat) (x : Str) (ps : List Str) (m : List D → List D → Res D) : Prop where
  ex : ∃ (f : Addr) (fd : FuncData), FnOk P w K mg base (CXR P w) k f fd ps (spW K mg ps.length m) ∧ Binds K fd ps [] ∧ PySem.W.keepIn K (.ref f) = true ∧ mg x = some (.ref f)
section
variable {P : Program} {w : World} {K : PySem.W.Frag} {mg : Str → Option Value} {base : Heap} {N ps : List Str} {x : Str}
end
section
variable {K : PySem.W.Frag} {mg : Str → Option Value} {E : XK} {F0 H0 F H : Hp} {σ : St} {ρ : Ev}
end
section
variable {X : Cx} {E : XK} {i k l n : Nat} {f : List D → List D → Res D} {t1 t2 : TE} {m1 m2 : ME} {ub ur : TS} {kb kr : MS} {e1 e2 : Expr} {x y : Str} {ps : List Str} {body rest : List Stmt} {p pos npos spos upos : Pos}
end
section
variable {X : Cx} {E : XK} {k l n : Nat} {f : List D → Res D} {t : TA} {m : MA} {te : TE} {me : ME} {e ev : Expr} {es : List Expr} {x : Str} {ps : List Str} {p pos apos cpos spos : Pos}
end
section
variable {X : Cx} {E : XK} {i jk jw jq jv : Nat} {te tE : TE} {m0 mE : ME} {e0 eE : Expr} {xp xk xw xq xv : Str} {a1 a2 a3 a4 a5 a6 a7 a8 a9 b1 b2 b3 b4 b5 b6 b7 b8 b9 c1 c2 c3 c4 c5 c6 : Pos}
end
end L2.Ds
namespace L2.Ds
open PySem PySem.Spec PyProof.Rows Dl
section
variable {K : PySem.W.Frag} {mg : Str → Option Value} {E : XK}
end
section
variable {X : Cx} {E : XK} {i j : Nat} {iter : Expr} {x : Str} {tpos spos : Pos}
end
end L2.Ds

namespace L2.Ds
open PySem PySem.Spec PyProof.Rows Dl
section
variable {F F1 F3 : Hp} {b : Addr} {o u : HO}
end
section
variable {K : PySem.W.Frag} {mg : Str → Option Value} {E : XK}
end
end L2.Ds
namespace L2.Ds
open PySem PySem.Spec PyProof.Rows Dl
section
variable {X : Cx} {E : XK} {i j : Nat} {x y : Str} {tg iter elt m e : Expr} {ts : List Expr} {rest : List Stmt} {na : MB} {me mm mv : ME} {tm tv : TE} {ur : TS} {kr : MS}
end
end L2.Ds
namespace L2.Ds
open PySem PySem.Spec PyProof.Rows Dl
end L2.Ds

namespace L2
open PySem PySem.Spec PyProof.Rows PySem.W
noncomputable def codeX (c : Addr) (q : Str) : HO := .ext fun h => h.CodeRec (.ref c) q
noncomputable def objX (a : Addr) (o : Obj) : HO := .ext fun h => h.get? a = some o
theorem codeX_ok {P : Program} {w : World} {H : Hp} {h : Heap} {c : Addr} {q : Str} (e : h.CodeRec (.ref c) q) : ObjOk P w H h c (codeX c q) := by
  refine ⟨e, ?_, fun h1 h2 x k => ?_⟩
  · obtain ⟨c', o, vs, t, e1, e2, _⟩ := e; cases e1; exact ⟨o, e2⟩
  · obtain ⟨c', o, vs, t, e1, e2, r⟩ := x; cases e1; exact ⟨c, o, vs, t, rfl, k o e2, r⟩
theorem objX_ok {P : Program} {w : World} {H : Hp} {h : Heap} {a : Addr} {o : Obj} (e : h.get? a = some o) : ObjOk P w H h a (objX a o) := ⟨e, ⟨o, e⟩, fun _ _ x k => k o x⟩
theorem codeX_get {P : Program} {w : World} {H : Hp} {h : Heap} {c : Addr} {q : Str} (x : HOk P w H h) (e : H c = some (codeX c q)) : h.CodeRec (.ref c) q := (show _ ∧ _ from x c _ e).1
theorem objX_get {P : Program} {w : World} {H : Hp} {h : Heap} {a : Addr} {o : Obj} (x : HOk P w H h) (e : H a = some (objX a o)) : h.get? a = some o := (show _ ∧ _ from x a _ e).1
structure TabGood (H : Hp) (q : Str) (ps : Array Value) : Prop where
  ok : TriplesOk ps.toList
  co : ∀ pos cv, codeAmong pos ps.toList = some cv → ∃ c, cv = .ref c ∧ H c = some (codeX c q)
theorem TabGood.nil {H : Hp} {q : Str} : TabGood H q #[] := ⟨trivial, fun _ _ h => by cases h⟩
theorem triples_snoc {a b : Nat} {c : Value} : ∀ {l : List Value}, TriplesOk l → TriplesOk (l ++ [rawInt a, rawInt b, c])
  | [], _ => trivial
  | .int _ _ :: .int _ _ :: _ :: r, h => triples_snoc (l := r) h
theorem among_snoc {pos pos' : Pos} {c cv : Value} : ∀ {l : List Value}, TriplesOk l → codeAmong pos' (l ++ [rawInt pos.line, rawInt pos.col, c]) = some cv → codeAmong pos' l = some cv ∨ cv = c
  | [], _, h => by
    have h' : (if ((pos.line : Int) == pos'.line && (pos.col : Int) == pos'.col) = true then some c else none) = some cv := h
    split at h'
    · exact .inr (Option.some.inj h').symm
    · cases h'
  | .int i t :: .int j u :: d :: r, ht, h => by
    have h' : (if (i == pos'.line && j == pos'.col) = true then some d else codeAmong pos' (r ++ [rawInt pos.line, rawInt pos.col, c])) = some cv := h
    show (if (i == pos'.line && j == pos'.col) = true then some d else codeAmong pos' r) = some cv ∨ cv = c
    split at h'
    · rename_i z; rw [if_pos z]; exact .inl h'
    · rename_i z; rw [if_neg z]; exact among_snoc (l := r) ht h'
theorem TabGood.snoc {H H' : Hp} {q : Str} {ps : Array Value} {pos : Pos} {c : Addr} (g : TabGood H q ps) (k : ∀ b o, H b = some o → (∀ ps, o ≠ .tbl ps) → H' b = some o) (hc : H' c = some (codeX c q)) : TabGood H' q (ps ++ #[rawInt pos.line, rawInt pos.col, .ref c]) := by
  have e : (ps ++ #[rawInt pos.line, rawInt pos.col, .ref c]).toList = ps.toList ++ [rawInt pos.line, rawInt pos.col, .ref c] := by simp
  refine ⟨by rw [e]; exact triples_snoc g.ok, fun pos' cv h => ?_⟩
  rw [e] at h
  rcases among_snoc g.ok h with h | rfl
  · obtain ⟨d, e1, e2⟩ := g.co pos' cv h
    exact ⟨d, e1, k d _ e2 fun ps z => by cases z⟩
  · exact ⟨c, rfl, hc⟩
theorem TabGood.up {H H' : Hp} {q : Str} {ps : Array Value} (g : TabGood H q ps) (k : ∀ b o, H b = some o → (∀ ps, o ≠ .tbl ps) → H' b = some o) : TabGood H' q ps := ⟨g.ok, fun pos cv h => by
  obtain ⟨d, e1, e2⟩ := g.co pos cv h
  exact ⟨d, e1, k d _ e2 fun ps z => by cases z⟩⟩
end L2
namespace L2
open PySem PySem.Spec PyProof.Rows PySem.W
section
variable {X : Cx} {pins : List (Addr × Obj)} {σ : List (Option V)} {H : Hp} {s : Shared} {h' : Heap} {P : Addr} {ps more : Array Value}
theorem Inv.tabbed {t' : Nat} (I : Inv X pins σ H s) (hP : H P = some (.tbl ps)) (k : ∀ b u, b ≠ P → s.heap.get? b = some u → h'.get? b = some u) (e : h'.get? P = some (tabObj (ps ++ more))) :
    Inv X pins σ (upd H P (.tbl (ps ++ more))) { s with heap := h', toks := t' } := by
  have ne : ∀ b, H b = none → b ≠ P := fun b n z => by rw [z, hP] at n; cases n
  have ne2 : ∀ b o, H b = some o → (∀ ps, o ≠ .tbl ps) → b ≠ P := fun b o q n z => by rw [z, hP] at q; cases q; exact n ps rfl
  refine I.un ⟨fun b u q n _ _ => k b u (ne b n) q, fun b u q n _ _ => ⟨u.slots, k b u (ne b n) q⟩, fun b u q n _ => by rw [upd_ne (ne b n)]; exact n, fun b u q _ => ?_, fun b xs q => by rw [upd_ne (ne2 b _ q fun _ z => by cases z)]; exact q,
    fun b o u q => by rw [upd_ne (ne2 b _ q fun _ z => by cases z)]; exact q, fun b qs q => ?_⟩ fun b o q => ?_
  · by_cases z : b = P
    · subst z; exact ⟨_, e⟩
    · exact ⟨u, k b u z q⟩
  · by_cases z : b = P
    · subst z
      rw [hP] at q
      cases q
      exact ⟨more, upd_same⟩
    · exact ⟨#[], by rw [upd_ne z, q]; simp⟩
  · by_cases z : b = P
    · subst z
      rw [upd_same] at q
      cases q
      exact e
    · rw [upd_ne z] at q
      refine (I.hok b o q).stay (fun c v hc r => k c v ?_ r) (fun c r => by rw [upd_ne (ne2 c _ r fun _ z => by cases z)]; exact r) fun c xs r => by rw [upd_ne (ne2 c _ r fun _ z => by cases z)]; exact r
      rcases hc with rfl | hc
      · exact z
      · exact ne2 c _ hc fun _ z => by cases z
theorem Inv.track {a : Addr} {o : HO} {n : Nat} (I : Inv X pins σ H s) (hn : H a = none) (h0 : X.s₀.heap.objs.size ≤ a) (h1 : a ≠ X.env.locals) (h2 : ∀ x c, X.env.cells.lookup x = some c → c ≠ a) (h3 : ∀ p ∈ X.pn ++ pins, p.1 ≠ a) (new : ObjOk X.prog X.w (upd H a o) s.heap a o) : Inv X pins σ (upd H a o) s := by
  have lo : ∀ b u, X.s₀.heap.get? b = some u → b ≠ a := fun b u e => Nat.ne_of_lt (Nat.lt_of_lt_of_le (Heap.lt_size e) h0)
  refine ⟨I.ok, I.os, I.bare, ⟨I.base.keep, I.base.slot, fun b u e n hx => by rw [upd_ne (lo b u e)]; exact I.base.free b u e n hx, I.base.there, fun b xs e => ?_, fun b ob u e => ?_, fun b ps e => ?_⟩, I.loc, I.cell, by rw [upd_ne (Ne.symm h1)]; exact I.free, fun x c e => by rw [upd_ne (h2 x c e)]; exact I.freeC x c e, fun p hp => ?_, fun b u e => ?_, I.len⟩
  · have q := I.base.tups b xs e; rw [upd_ne (ne_of_none q hn)]; exact q
  · have q := I.base.frzs b ob u e; rw [upd_ne (ne_of_none q hn)]; exact q
  · obtain ⟨m, q⟩ := I.base.tbls b ps e; exact ⟨m, by rw [upd_ne (ne_of_none q hn)]; exact q⟩
  · obtain ⟨e, n, r⟩ := I.pin p hp
    exact ⟨e, by rw [upd_ne (h3 p hp)]; exact n, r⟩
  · by_cases z : b = a
    · subst z; rw [upd_same] at e; cases e; exact new
    · rw [upd_ne z] at e
      exact (I.hok b u e).stay (fun _ _ _ q => q) (fun c q => by rw [upd_ne (ne_of_none q hn)]; exact q) fun c xs q => by rw [upd_ne (ne_of_none q hn)]; exact q
theorem Inv.beyond {a : Addr} (I : Inv X pins σ H s) (ha : s.heap.objs.size ≤ a) : X.s₀.heap.objs.size ≤ a ∧ a ≠ X.env.locals ∧ (∀ x c, X.env.cells.lookup x = some c → c ≠ a) ∧ (∀ p ∈ X.pn ++ pins, p.1 ≠ a) ∧ H a = none := by
  refine ⟨Nat.le_trans I.sz ha, Nat.ne_of_gt (Nat.lt_of_lt_of_le I.lt ha), fun x c e => ?_, fun p hp => ?_, I.hok.fresh ha⟩
  · obtain ⟨v, o, ho, _⟩ := I.cell x c e
    exact Nat.ne_of_lt (Nat.lt_of_lt_of_le (Heap.lt_size ho) ha)
  · exact Nat.ne_of_lt (Nat.lt_of_lt_of_le (Heap.lt_size (I.pin p hp).1) ha)
structure Made (X : Cx) (pins : List (Addr × Obj)) (σ : List (Option V)) (H H' : Hp) (s' : Shared) (P : Addr) (q : Str) (f c : Addr) (ps' : Array Value) (o : Obj) : Prop where
  inv : Inv X pins σ H' s'
  tab : H' P = some (.tbl ps')
  good : TabGood H' q ps'
  code : H' c = some (codeX c q)
  fn : H' f = some (objX f o)
  keep : ∀ b o, b ≠ P → H b = some o → H' b = some o
  new : H f = none
  some : ∀ b, b ≠ P → H b = none → H' b ≠ none → b = c ∨ b = f
theorem lam_eval {c P : Addr} {params : Arguments} {body : Expr} {scope : Scope} {pos : Pos} {clos : List (Str × Addr)} {Q : Value → Shared → Prop} {E : Value → Shared → Prop} (I : Inv X pins σ H s) (hd : defaultsOf params X.env = ([], [])) (hcl : closureFor scope X.env = pure clos) (hge : X.env.globals = mainGlobals)
    (hcode : X.env.code = .ref c) (C : CodeHd X.base c P) (hb : X.base.BuiltinsAt X.mg P) (hP : H P = some (.tbl ps)) (hgP : mainGlobals ≠ P) (g : TabGood H (X.env.qual ++ "<lambda>") ps)
    (h : ∀ f c' ctv ps' H' s', Made X pins σ H H' s' P (X.env.qual ++ "<lambda>") f c' ps' { cls := .type "function", data := .func (kla_fn "<lambda>" (X.env.qual ++ "<lambda>") params body scope clos ((X.mg "__name__").getD .none) (.ref c') ctv) } → Q (.ref f) s') :
    wpAny (model X.prog X.w) X.A (eval (.Lambda params body scope pos) X.env) Q E s := by
  have bk := I.bk
  have hP' : s.heap.get? P = some (tabObj ps) := I.hok P _ hP
  have hg := I.mod.glob.keeps bk
  have hb' : s.heap.BuiltinsAt X.mg P := by
    obtain ⟨bm, o, b1, b2, b3, b4, b5, b6⟩ := hb
    exact ⟨bm, o, b1, b2, b3, b4, bk _ _ b5, b6⟩
  refine kla_eval hd ?_
  cases e : codeAmong pos ps.toList with
  | none =>
    refine kla_makeFunction hcl hge hg hcode (C.keeps bk) hP' g.ok e hgP hb' fun c' ctv h' tk hx hge' hlt hrec htb => ?_
    obtain ⟨ob, hob⟩ : ∃ ob : Obj, ob = { cls := .type "function", data := .func (kla_fn "<lambda>" (X.env.qual ++ "<lambda>") params body scope clos ((X.mg "__name__").getD .none) (.ref c') ctv) } := ⟨_, rfl⟩
    obtain ⟨n1, n2, n3, n4, n5⟩ := I.beyond hge'
    have hf : s.heap.objs.size ≤ h'.objs.size := Nat.le_trans hge' (Nat.le_of_lt hlt)
    obtain ⟨m1, m2, m3, m4, m5⟩ := I.beyond hf
    have nP : ∀ a, H a = none → a ≠ P := fun a n z => by rw [z, hP] at n; cases n
    have I1 := I.tabbed (t' := tk) (h' := h'.push ob) (more := #[rawInt pos.line, rawInt pos.col, .ref c']) hP (fun b u nb q => Heap.get?_push_of_some _ (hx b u nb q)) (Heap.get?_push_of_some _ htb)
    have c1 : upd H P (.tbl (ps ++ #[rawInt pos.line, rawInt pos.col, .ref c'])) c' = none := by rw [upd_ne (nP _ n5)]; exact n5
    have I2 := I1.track (n := 0) (o := codeX c' (X.env.qual ++ "<lambda>")) c1 n1 n2 n3 n4 (codeX_ok (hrec.push ob))
    have ne : h'.objs.size ≠ c' := Nat.ne_of_gt hlt
    have f1 : upd (upd H P (.tbl (ps ++ #[rawInt pos.line, rawInt pos.col, .ref c']))) c' (codeX c' (X.env.qual ++ "<lambda>")) h'.objs.size = none := by rw [upd_ne ne, upd_ne (nP _ m5)]; exact m5
    have I3 := I2.track (n := 0) (o := objX h'.objs.size ob) f1 m1 m2 m3 m4 (objX_ok (Heap.get?_push_size _ (by rw [hob]; rfl)))
    have kp : ∀ b o, H b = some o → (∀ ps, o ≠ .tbl ps) → upd (upd (upd H P (.tbl (ps ++ #[rawInt pos.line, rawInt pos.col, .ref c']))) c' (codeX c' (X.env.qual ++ "<lambda>"))) h'.objs.size (objX h'.objs.size ob) b = some o := fun b o q nt => by
      have a1 : b ≠ P := fun z => by rw [z, hP] at q; cases q; exact nt ps rfl
      rw [upd_ne (ne_of_none q m5), upd_ne (ne_of_none q n5), upd_ne a1]; exact q
    have kq : ∀ b o, b ≠ P → H b = some o → upd (upd (upd H P (.tbl (ps ++ #[rawInt pos.line, rawInt pos.col, .ref c']))) c' (codeX c' (X.env.qual ++ "<lambda>"))) h'.objs.size (objX h'.objs.size ob) b = some o := fun b o a1 q => by
      rw [upd_ne (ne_of_none q m5), upd_ne (ne_of_none q n5), upd_ne a1]; exact q
    have cc : upd (upd (upd H P (.tbl (ps ++ #[rawInt pos.line, rawInt pos.col, .ref c']))) c' (codeX c' (X.env.qual ++ "<lambda>"))) h'.objs.size (objX h'.objs.size ob) c' = some (codeX c' (X.env.qual ++ "<lambda>")) := by rw [upd_ne (Ne.symm ne), upd_same]
    subst hob
    refine h h'.objs.size c' ctv _ _ _ ⟨I3, ?_, g.snoc (pos := pos) kp cc, cc, ?_, kq, m5, fun b nb hb hb' => ?_⟩
    · rw [upd_ne (Ne.symm (nP _ m5)), upd_ne (Ne.symm (nP _ n5)), upd_same]
    · exact upd_same
    · by_cases z1 : b = h'.objs.size
      · exact .inr z1
      · by_cases z2 : b = c'
        · exact .inl z2
        · rw [upd_ne z1, upd_ne z2, upd_ne nb] at hb'; exact absurd hb hb'
  | some cv =>
    obtain ⟨c', rfl, hc'⟩ := g.co pos cv e
    refine kla_makeFunctionHit hcl hge hg hcode (C.keeps bk) hP' g.ok e hb' fun ctv h' tk hk hsz => ?_
    obtain ⟨ob, hob⟩ : ∃ ob : Obj, ob = { cls := .type "function", data := .func (kla_fn "<lambda>" (X.env.qual ++ "<lambda>") params body scope clos ((X.mg "__name__").getD .none) (.ref c') ctv) } := ⟨_, rfl⟩
    obtain ⟨m1, m2, m3, m4, m5⟩ := I.beyond hsz
    have I1 := I.kept (t' := tk) (h' := h'.push ob) fun b u q => Heap.get?_push_of_some _ (hk b u q)
    have I3 := I1.track (n := 0) (o := objX h'.objs.size ob) m5 m1 m2 m3 m4 (objX_ok (Heap.get?_push_size _ (by rw [hob]; rfl)))
    have kp : ∀ b o, H b = some o → upd H h'.objs.size (objX h'.objs.size ob) b = some o := fun b o q => by rw [upd_ne (ne_of_none q m5)]; exact q
    subst hob
    refine h h'.objs.size c' ctv ps _ _ ⟨I3, kp _ _ hP, g.up fun b o q _ => kp b o q, kp _ _ hc', ?_, fun b o _ q => kp b o q, m5, fun b nb hb hb' => ?_⟩
    · exact upd_same
    · by_cases z1 : b = h'.objs.size
      · exact .inr z1
      · rw [upd_ne z1] at hb'; exact absurd hb hb'
end
end L2

namespace L2
open PySem PySem.Spec PyProof.Rows PySem.W
noncomputable def cxLam (CX : CXT) (P : Program) (w : World) (K : PySem.W.Frag) (mg : Str → Option Value) (base : Heap) (N : List Str) (qual : Str) (scope : Scope) (f : Addr) (cd : Value) (cl : List (Str × Addr)) (A : Around) (outer : List Env) (s : Shared) (H : Hp) (E : XK) : Cx where
  prog := P
  w := w
  K := K
  mg := mg
  base := base
  A := A.deeper (envX qual scope s.heap.objs.size f cd cl)
  N := N
  s₀ := s
  H₀ := H
  env := envX qual scope s.heap.objs.size f cd cl
  outer := outer
  stack := envX qual scope s.heap.objs.size f cd cl :: outer
  ex := []
  calm := true
  fn := fun _ => false
  pn := []
  xe := fun e s' => wpAny (model P w) (A.deeper (envX qual scope s.heap.objs.size f cd cl)) (leaving (envX qual scope s.heap.objs.size f cd cl) e) (fun _ s'' => CX outer H s E e s'') (fun e' s'' => CX outer H s E e' s'') s'
structure LamScope (N : List Str) (scope : Scope) (cl : List (Str × Addr)) : Prop where
  kind : scope.kind = .function
  co : scope.isCoroutine = false
  gen : scope.isGenerator = false
  nocell : ∀ x ∈ scope.names, x.2 ≠ .cell
  has : ∀ x, scope.names.lookup x = some .free → ∃ c, cl.lookup x = some c
  inj : ∀ x y c, cl.lookup x = some c → cl.lookup y = some c → x = y
  free : ∀ x ∈ N, scope.names.lookup x = some .free
section
variable {CX : CXT} {k : Nat} {P : Program} {w : World} {K : PySem.W.Frag} {mg : Str → Option Value} {base : Heap} {A : Around} {outer : List Env} {s : Shared} {H : Hp} {N : List Str} {q : Str} {scope : Scope} {f c : Addr} {cl : List (Str × Addr)} {params : Arguments} {body : Expr} {pm ctv : Value} {vs : List V} {Q : VK} {E : XK}
theorem lam_start {h₁ : Heap} {m : Str → Option Value} (S : LamScope N scope cl) (hd : A.handled = none) (e0 : Env0 P w K mg base A outer s H) (hl : vs.length = N.length)
    (hc : ∀ x a, cl.lookup x = some a → (∃ v, s.heap.IsCell a v) ∧ H a = none) (hv : ∀ (i : Nat) (x : Str) (v : V), N[i]? = some x → vs[i]? = some v → ∃ a u, cl.lookup x = some a ∧ RelV v u ∧ s.heap.IsCell a (some u))
    (ns : h₁.Ns s.heap.objs.size m) (hk : ∀ b o, s.heap.get? b = some o → h₁.get? b = some o) (tk : Nat) :
    Inv (cxLam CX P w K mg base N q scope f (.ref c) cl A outer s H E) [] (vs.map some) H { s with heap := h₁, toks := tk } := by
  have noA : ∀ b : Addr, b ∉ (cxLam CX P w K mg base N q scope f (.ref c) cl A outer s H E).ex := fun b z => absurd (show b ∈ ([] : List Addr) from z) (by simp)
  have ck : ∀ a v, s.heap.IsCell a v → h₁.IsCell a v := fun a v ⟨o, e, d⟩ => ⟨o, hk a o e, d⟩
  refine ⟨⟨e0.mod, S.kind, rfl, rfl, Nat.le_refl _, S.inj, fun x hx => ?_, fun x a z => (Bool.false_ne_true z).elim, fun _ => hd, Around.frames_deeper e0.frames, .inr ⟨rfl, rfl⟩, fun b z => absurd z (noA b), e0.bs, e0.bsz, fun b _ _ => noA b, fun b z => absurd z (noA b), e0.funs, e0.frf⟩,
    rfl, e0.bare, Un.kept hk, ⟨m, ns, fun i x v h1 h2 h3 => ?_⟩, fun x a e => ?_, e0.hok.fresh (Nat.le_refl _), fun x a e => (hc x a e).2, fun p hp => absurd (show p ∈ ([] : List (Addr × Obj)) from hp) (by simp), e0.hok.kept hk, by rw [List.length_map]; exact hl⟩
  · rcases (show scope.names.lookup x = some .cell ∨ scope.names.lookup x = some .free from hx) with z | z
    · exact absurd rfl (S.nocell _ (PySem.mem_of_lookup z))
    · exact S.has x z
  · have h2' : vs[i]? = some v := by
      rw [List.getElem?_map] at h2
      cases e : vs[i]? with
      | none => rw [e] at h2; cases h2
      | some z => rw [e] at h2; cases h2; rfl
    obtain ⟨a, u, e1, e2, e3⟩ := hv i x v h1 h2'
    exact ⟨u, e2, .inr ⟨.inr (S.free x (List.mem_of_getElem? h1)), a, e1, ck _ _ e3⟩⟩
  · obtain ⟨v, z⟩ := (hc x a e).1
    exact ⟨v, ck _ _ z⟩
theorem lam_call (S : LamScope N scope cl) (hr : Room (k + 1) A) (e0 : Env0 P w K mg base A outer s H) (hl : vs.length = N.length) (hf : H f = some (objX f { cls := .type "function", data := .func (kla_fn "<lambda>" q params body scope cl pm (.ref c) ctv) })) (hcd : H c = some (codeX c q))
    (hc : ∀ x a, cl.lookup x = some a → (∃ v, s.heap.IsCell a v) ∧ H a = none) (hv : ∀ (i : Nat) (x : Str) (v : V), N[i]? = some x → vs[i]? = some v → ∃ a u, cl.lookup x = some a ∧ RelV v u ∧ s.heap.IsCell a (some u))
    (hb : bindArgs (kla_fn "<lambda>" q params body scope cl pm (.ref c) ctv) ⟨[], []⟩ = pure [])
    (hbody : Room k (A.deeper (envX q scope s.heap.objs.size f (.ref c) cl)) → ∃ t, PE (cxLam (CXR P w) P w K mg base N q scope f (.ref c) cl A outer s H E) body t ∧ t (vs.map some) H Q) :
    codeAny (model P w) A (.call (.ref f) ⟨[], []⟩) (CR (CXR P w) outer P w H s Q E) s := by
  have lim : s.heap.NoLimit := e0.mod.nolimit.keeps fun b o e => (e0.bs b o e).1
  refine kla_callFunE hr.depth (objX_get e0.hok hf) rfl S.co S.gen rfl (codeX_get e0.hok hcd) ?_
  rw [hb]
  refine wpAny_pure (wpAny_newFunctionEnv S.nocell (fun x hx => by cases hx) (fun h₁ hns hsb => ⟨lim.fresh _ hsb, ?_⟩) S.kind)
  have hk : ∀ b o, s.heap.get? b = some o → h₁.get? b = some o := fun b o e => hsb.extBut b o (Nat.ne_of_lt (Heap.lt_size e)) (Heap.get?_push_of_some _ e)
  show codeAny _ _ (.expr body (envX q scope s.heap.objs.size f (.ref c) cl)) _ _
  obtain ⟨t, ht, hq⟩ := hbody (hr.deeper _)
  have I := lam_start (CX := CXR P w) (E := E) (q := q) (f := f) (c := c) S hr.hd e0 hl hc hv hns hk (s.toks + ([] : List (Str × Value)).length)
  refine kla_codeExpr (wpAny_mono (ht [] _ _ H Q I hq) (fun u s' hs => ?_) fun e s' hs => hs)
  obtain ⟨v, H', J, rv, qq⟩ := hs
  exact ⟨v, H', J.os, J.bare, J.base, J.hok, rv, qq⟩
end
end L2

namespace L2
open PySem PySem.Spec PyProof.Rows PySem.W
noncomputable def tTryV (i : Nat) (Dd : Addr → Hp → Prop) (Rr : Hp → Prop) (u : Addr → TS) : TS := fun D σ H => ∃ f, σ[i]? = some (some (.ref f)) ∧ Dd f H ∧ ∀ H' a, Rr H' → u a D σ H'
section
variable {X : Cx} {i : Nat} {x y : Str} {Cy : Addr} {Dd : Addr → Hp → Prop} {Rr : Hp → Prop} {u : Addr → TS} {p yp cpos epos hpos pos : Pos} {b₀ : Stmt} {suite : List Stmt}
theorem ps_tryV (hst : X.stack = X.env :: X.outer) (hfr : X.env.frame = some X.env.locals) (hi : X.N[i]? = some x) (hv : Vis X.env.scope x) (hgy : Gl X y) (hmy : X.mg y = some (.ref Cy)) (hs : ∀ a, PSs (X.inX a) (b₀ :: suite) (u a))
    (hD : ∀ f pins s σ H, Dd f H → Inv X pins σ H s → FnAt f s.heap ∧ codeAny (model X.prog X.w) X.A (.call (.ref f) ⟨[], []⟩) (CR (CXR X.prog X.w) X.stack X.prog X.w H s (fun _ _ => False) fun cls _ H' => PySem.W.exmOne X.K cls (.ref Cy) = some true ∧ Rr H') s)
    (hdx : (x == ("__debug__" : Str)) = false) (hcx : (x == ("__classdict__" : Str)) = false) (hdy : (y == ("__debug__" : Str)) = false) (hsw : swapsWith (.Call (.Name x p) [] [] cpos) none epos.line X.env = pure false) :
    PS X (.Try [.Expr (.Call (.Name x p) [] [] cpos) epos] [.ExceptHandler (some (.Name y yp)) none (b₀ :: suite) hpos] [] [] pos) (tTryV i Dd Rr u) := by
  intro pins s σ H D I h
  obtain ⟨f, hf, hd, hu⟩ := h
  refine wpAny_Try_except (wpAny_execs_cons (wpAny_Expr_any ?_ I.quiet hsw))
  refine wpAny_Call_Name_kw ?_
  refine wpAny_mono (pe_var (X := X.nox) hi hv hdx hcx pins s σ H (fun v H1 => v = .ref f ∧ H1 = H) (I.wish _) ⟨_, hf, rfl, rfl⟩) (fun uv s1 ⟨v, H1, I1', r, hv1, hH1⟩ => ?_) fun _ _ z => z.elim
  subst hv1 hH1
  cases (show uv = Value.ref f from r)
  have I1 := I1'.unwish
  obtain ⟨fa, run⟩ := hD f pins s1 σ H1 hd I1
  refine callWith_F0 fa (wpAny_call (codeAny_mono run fun rr s' hq => ?_))
  cases rr with
  | ok fl =>
    cases fl with
    | ret v =>
      obtain ⟨_, _, _, _, _, _, _, q2⟩ := hq
      exact False.elim q2
    | next => exact False.elim hq
    | brk => exact False.elim hq
    | cont => exact False.elim hq
  | error ev =>
    obtain ⟨a, cls, H', rfl, Fl, hit, kk⟩ := hq
    obtain ⟨B, a0, fl, cov⟩ := Fl.ex
    have fl' : Heap.FlyingW B (X.env :: X.outer) a cls a0 s'.heap := hst ▸ fl
    refine wpAny_looks_onW (by rw [I.ok.frames, hst]) hfr fl' fun h1 held sm1 => ?_
    refine wpAny_landsW held fun h2 fl2 sm2 => ?_
    have F2 := Fl.moved fl cov (hst.symm ▸ fl2) (sm1.trans sm2)
    have I2 := I1.landed F2
    refine wpAny_handleBy_cons (codeAny_handlers_test ?_) (by intro q; cases q)
    refine ld_glob (X := X.inX a) (I2.inX a) hgy hmy ?_ hdy
    have LT : PySem.W.Looks (model X.prog X.w) h2 (typeOf (.ref a)) cls := ExcAt.ty (show ExcAt a cls h2 from fl2.there)
    refine (PySem.W.exm_one (show X.K.In h2 from I2.kIn) LT hit).here ?_
    refine codeAny_handlers_suite ?_
    refine lands_againW fl2 fun h3 fl3 sm3 => ?_
    have F3 := Fl.moved fl cov (hst.symm ▸ fl3) ((sm1.trans sm2).trans sm3)
    have I3 := I1.landed F3
    refine wpAny_mono (hs a pins _ _ _ D (I3.inX a) (hu H' a kk)) (fun f s5 q5 => ?_) fun _ _ z => False.elim z
    cases f with
    | next =>
      obtain ⟨σ', H5, I5, q⟩ := q5
      exact ⟨σ', H5, I5.outX I.ok, q⟩
    | brk =>
      obtain ⟨σ', H5, I5, q⟩ := q5
      exact ⟨σ', H5, I5.outX I.ok, q⟩
    | cont =>
      obtain ⟨σ', H5, I5, q⟩ := q5
      exact ⟨σ', H5, I5.outX I.ok, q⟩
    | ret v =>
      obtain ⟨v', σ', H5, I5, r5, q⟩ := q5
      exact ⟨v', σ', H5, I5.outX I.ok, r5, q⟩
end
end L2

namespace L2
open PySem PySem.Spec PyProof.Rows PySem.W
theorem fn_at {CX : CXT} {P : Program} {w : World} {K : PySem.W.Frag} {mg : Str → Option Value} {base : Heap} {k : Nat} {f : Addr} {name qual : Str} {params : Arguments} {body : List Stmt} {scope : Scope} {dV kV doc pm cdv ct oc : Value} {an od : Option Addr}
    {osl : Array (Option Value)} {N ps : List Str} (lk : K.lookup f = some ⟨oc, od, .func (PySem.W.fnOf name qual params body scope dV kV doc pm an cdv ct), osl⟩) (hcd : PySem.W.codeIn K cdv qual = true) (S : FnScope N ps scope)
    {A : Around} {outer : List Env} {s : Shared} {H : Hp} {args : Args} {us : List Value} {vs : List V} {Q : VK} {E : XK} (hr : Room (k + 1) A) (e0 : Env0 P w K mg base A outer s H) (hb : BindsTo s (PySem.W.fnOf name qual params body scope dV kV doc pm an cdv ct) args (ps.zip us)) (r : Vals vs us) (hl : vs.length = ps.length)
    (hbody : Room k (A.deeper (envOfC qual scope s.heap.objs.size f cdv)) → ∃ t, PSs (cxOf CX P w K mg base N qual scope f cdv A outer s H E) body t ∧ t { nx := fun _ H' => Q .non H', rt := Q } (start N vs) H) :
    codeAny (model P w) A (.call (.ref f) args) (CR CX outer P w H s Q E) s := by
  have KX : K.In s.heap := e0.mod.kin.keeps fun b o e => (e0.bs b o e).1
  have lim : s.heap.NoLimit := e0.mod.nolimit.keeps fun b o e => (e0.bs b o e).1
  have hkind : ∀ y ∈ ps.zip us, scope.names.lookup y.1 = some .local ∨ (scope.names.lookup y.1 = some .cell ∧ ((cellsFrom (s.heap.objs.size + 1) scope.names []).lookup y.1).isSome = true) := fun ⟨n, v⟩ hy => by
    rcases S.par n (List.of_mem_zip hy).1 with q | q
    · exact .inl q
    · exact .inr ⟨q, PySem.W.cellsFrom_some _ _ _ (.inl q)⟩
  refine codeAny_call_function hr.depth (KX _ _ lk) rfl S.co S.gen rfl (PySem.W.codeRec_of KX hcd) (hb _ _ _ _ ?_)
  refine wpAny_newFunctionEnv_cells S.kind hkind fun env he s1 x => ?_
  subst he
  refine ⟨lim.keeps x.toInCall.keep, codeAny_func ?_⟩
  obtain ⟨t, ht, hq⟩ := hbody (hr.deeper _)
  have I : Inv (cxOf CX P w K mg base N qual scope f cdv A outer s H E) [] (start N vs) H s1 := inv_start S hr.hd e0 hl r x
  refine wpAny_mono (ht [] s1 (start N vs) H _ I hq) (fun fl s' hs => ?_) fun e s' hs => hs
  have fin : ∀ {σ' : St} {H' : Hp} {v : V} {u : Value}, Inv (cxOf CX P w K mg base N qual scope f cdv A outer s H E) [] σ' H' s' → RelV v u → Q v H' → CE outer P w H s Q u s' :=
    fun {σ' H' v u} J rv q => ⟨v, H', J.os, J.bare, J.base, J.hok, rv, q⟩
  cases fl with
  | ret u =>
    obtain ⟨v, σ', H', J, rv, q⟩ := hs
    exact fin J rv q
  | next =>
    obtain ⟨σ', H', J, q⟩ := hs
    exact fin (v := V.non) (u := Value.none) J rfl q
  | brk =>
    obtain ⟨_, _, _, q⟩ := hs
    exact False.elim q
  | cont =>
    obtain ⟨_, _, _, q⟩ := hs
    exact False.elim q
section
variable {P : Program} {w : World} {K : PySem.W.Frag} {mg : Str → Option Value} {base : Heap} {A : Around} {outer : List Env} {s : Shared} {H : Hp} {fr f Cy : Addr} {fd : FuncData} {st : Stmt} {nm xd xf y : Str} {k j j2 : Nat} {p1 p2 p3 p4 p5 p6 q1 q2 q3 q4 q5 q6 q7 q8 : Pos} {Rr : Hp → Prop} {Q : VK} {E : XK} {args : Args}
theorem refused_call (F : Fun K nm nm st fr fd) (S : FnScope [xd, xf] [xd] (defScope st)) (hb : defBody st = [.Assign [.Name xf p1] (.Constant (.bool false) j p2) p3, .Try [.Expr (.Call (.Name xd q1) [] [] q2) q3] [.ExceptHandler (some (.Name y q4)) none [.Assign [.Name xf p4] (.Constant (.bool true) j2 p5) p6] q5] [] [] q6, .Return (some (.Name xf q7)) q8])
    (hr : Room (k + 1) A) (e0 : Env0 P w K mg base A outer s H) (hbi : BindsTo s fd args [(xd, .ref f)]) (hmy : mg y = some (.ref Cy)) (ly : (defScope st).names.lookup y = some .globalImplicit)
    (hD : ∀ (cdv : Value) (pins : List (Addr × Obj)) (s1 : Shared) (σ : St), Room k (A.deeper (envOfC nm (defScope st) s.heap.objs.size fr cdv)) → Inv (cxOf (CXR P w) P w K mg base [xd, xf] nm (defScope st) fr cdv A outer s H E) pins σ H s1 →
      FnAt f s1.heap ∧ codeAny (model P w) (A.deeper (envOfC nm (defScope st) s.heap.objs.size fr cdv)) (.call (.ref f) ⟨[], []⟩) (CR (CXR P w) (envOfC nm (defScope st) s.heap.objs.size fr cdv :: outer) P w H s1 (fun _ _ => False) fun cls _ H' => PySem.W.exmOne K cls (.ref Cy) = some true ∧ Rr H') s1)
    (hQ : ∀ H', Rr H' → Q (.bl true) H')
    (nd : List.Nodup [xd, xf] := by decide +kernel) (lf : (defScope st).names.lookup xf = some .local := by rfl) (ld : (defScope st).names.lookup xd = some .local := by rfl) (d1 : (xd == ("__debug__" : Str)) = false := by decide) (d2 : (xd == ("__classdict__" : Str)) = false := by decide) (d3 : (xf == ("__debug__" : Str)) = false := by decide) (d4 : (xf == ("__classdict__" : Str)) = false := by decide) (d5 : (y == ("__debug__" : Str)) = false := by decide) :
    codeAny (model P w) A (.call (.ref fr) args) (CR (CXR P w) outer P w H s Q E) s := by
  obtain ⟨oc, od, kV, doc, pm, an, cdv, ct, osl, rfl, lk, hcd⟩ := F.ex
  refine fn_at (us := [.ref f]) (vs := [.ref f]) lk hcd S hr e0 hbi (.cons rfl .nil) rfl fun hr' => ?_
  refine ⟨tSeq (tAsg (tC (.bl false)) (gName 1)) (tSeq (tTryV 0 (fun g H1 => g = f ∧ H1 = H) Rr fun _ => tSeq (tAsg (tC (.bl true)) (gName 1)) tNext) (tSeq (tRet (tVar 1)) tNext)), ?_, ?_⟩
  · rw [hb]
    refine pss_cons (ps_set nd rfl (.inl lf) pe_bl ?_ ?_) (pss_cons (ps_tryV rfl rfl rfl (.inl ld) ly hmy (fun a => pss_cons (ps_set nd rfl (.inl lf) pe_bl ?_ ?_) pss_nil) (fun g pins s1 σ H1 hd I => ?_) d1 d2 d5 ?_) (pss_cons (ps_ret (pe_var rfl (.inl lf) d3 d4)) pss_nil))
    · rfl
    · exact .inl rfl
    · rfl
    · exact .inl rfl
    · obtain ⟨rfl, rfl⟩ := hd
      exact hD cdv pins s1 σ hr' I
    · rfl
  · exact ⟨f, rfl, ⟨rfl, rfl⟩, fun H' a hR => ⟨_, rfl, hQ H' hR⟩⟩
end
end L2

namespace L2.Ds
open PySem PySem.Spec PyProof.Rows PySem.W Dl
section
variable {P : Program} {w : World} {K : PySem.W.Frag} {mg : Str → Option Value} {base : Heap} {N : List Str} {qual : Str} {scope : Scope} {f : Addr} {cd : Value} {cl : List (Str × Addr)} {A : Around} {outer : List Env} {s₀ : Shared} {H₀ : Hp} {E : XK}
theorem pass_lam : Passes (CXR P w) (cxLam (CXR P w) P w K mg base N qual scope f cd cl A outer s₀ H₀ E) E := by
  intro pins σ H s e s' I h
  obtain ⟨x, cls, H', rfl, F, q⟩ := h
  obtain ⟨B, a0, fl, cov⟩ := F.ex
  show wpAny (model P w) (A.deeper (envX qual scope s₀.heap.objs.size f cd cl)) (leaving (envX qual scope s₀.heap.objs.size f cd cl) (.ref x)) _ _ s'
  exact wpAny_leaves_onW I.ok.frames rfl fl fun h' fl' sm => ⟨x, cls, H', rfl, I.flyOut rfl F fl cov fl' sm, q⟩
end
noncomputable def tRef (K : PySem.W.Frag) (mg : Str → Option Value) (Pt : Addr) (q : Str) (i j l : Nat) (m : List D → Res D) (Cy : Addr) : TE := fun σ H Q => ∃ ps x y z F ds c, H Pt = some (.tbl ps) ∧ TabGood H q ps ∧ F Pt = none ∧ Same F H ∧ σ[i]? = some (some x) ∧ σ[j]? = some (some y) ∧ σ[l]? = some (some z) ∧ Rps K mg F [x, y, z] ds ∧ m ds = .ex c ∧
  (∀ C, mg c = some (.ref C) → PySem.W.exmOne K (.ref C) (.ref Cy) = some true) ∧ ∀ H1 F' H' ps', H1 Pt = some (.tbl ps') → TabGood H1 q ps' → (∀ b o, b ≠ Pt → H b = some o → H1 b = some o) → Gr F H1 F' H' → Q (.bl true) H'
section
variable {X : Cx} {fr Pt cc Cy : Addr} {fd : FuncData} {st : Stmt} {nm xd xf y g na nb nc : Str} {k k' l0 : Nat} {i j l : Nat} {m : List D → Res D} {ps : List Str} {p1 p2 p3 p4 p5 p6 q1 q2 q3 q4 q5 q6 q7 q8 : Pos} {j1 j2 : Nat} {params : Arguments} {lsc : Scope} {cl : List (Str × Addr)} {gp ap bp cp cpos lpos rp pos : Pos}
theorem pe_ref (hst : X.stack = X.env :: X.outer) (hge : X.env.globals = mainGlobals) (hfn : ∀ x, X.fn x = true) (hex : X.ex = []) (F : Fun X.K nm nm st fr fd) (S : FnScope [xd, xf] [xd] (defScope st))
    (hb : defBody st = [.Assign [.Name xf p1] (.Constant (.bool false) j1 p2) p3, .Try [.Expr (.Call (.Name xd q1) [] [] q2) q3] [.ExceptHandler (some (.Name y q4)) none [.Assign [.Name xf p4] (.Constant (.bool true) j2 p5) p6] q5] [] [] q6, .Return (some (.Name xf q7)) q8])
    (hbi : ∀ (s : Shared) (v : Value), BindsTo s fd ⟨[v], []⟩ [(xd, v)]) (hmr : X.mg nm = some (.ref fr)) (hgr : Gl X nm) (hmy : X.mg y = some (.ref Cy)) (ly : (defScope st).names.lookup y = some .globalImplicit)
    (C : Cal X.prog X.w X.K X.mg X.base k g ps m) (hps : ps.length = 3) (hr : Room (k' + 1) X.A) (hk : k + 2 ≤ k')
    (hd : defaultsOf params X.env = ([], [])) (hcl : closureFor lsc X.env = pure cl) (hsub : ∀ x a, cl.lookup x = some a → X.env.cells.lookup x = some a) (L : LamScope [na, nb, nc] lsc cl) (hba : ∀ q pm c ctv, bindArgs (kla_fn "<lambda>" q params (.Call (.Name g gp) [.Name na ap, .Name nb bp, .Name nc cp] [] cpos) lsc cl pm (.ref c) ctv) ⟨[], []⟩ = pure [])
    (hcode : X.env.code = .ref cc) (CH : CodeHd X.base cc Pt) (hB : X.base.BuiltinsAt X.mg Pt) (hgP : mainGlobals ≠ Pt)
    (hna : X.N[i]? = some na) (hnb : X.N[j]? = some nb) (hnc : X.N[l]? = some nc) (va : X.env.scope.names.lookup na = some .cell) (vb : X.env.scope.names.lookup nb = some .cell) (vc : X.env.scope.names.lookup nc = some .cell) (lg : lsc.names.lookup g = some .globalImplicit)
    (nd : List.Nodup [xd, xf] := by decide +kernel) (lf : (defScope st).names.lookup xf = some .local := by rfl) (ld : (defScope st).names.lookup xd = some .local := by rfl) (d1 : (xd == ("__debug__" : Str)) = false := by decide) (d2 : (xd == ("__classdict__" : Str)) = false := by decide) (d3 : (xf == ("__debug__" : Str)) = false := by decide) (d4 : (xf == ("__classdict__" : Str)) = false := by decide) (d5 : (y == ("__debug__" : Str)) = false := by decide)
    (d6 : (nm == ("__debug__" : Str)) = false := by decide) (d7 : (g == ("__debug__" : Str)) = false := by decide) (e1 : (na == ("__debug__" : Str)) = false := by decide) (e2 : (na == ("__classdict__" : Str)) = false := by decide) (e3 : (nb == ("__debug__" : Str)) = false := by decide) (e4 : (nb == ("__classdict__" : Str)) = false := by decide) (e5 : (nc == ("__debug__" : Str)) = false := by decide) (e6 : (nc == ("__classdict__" : Str)) = false := by decide)
    (he : starEach [.Lambda params (.Call (.Name g gp) [.Name na ap, .Name nb bp, .Name nc cp] [] cpos) lsc lpos] X.env = [(false, eval (.Lambda params (.Call (.Name g gp) [.Name na ap, .Name nb bp, .Name nc cp] [] cpos) lsc lpos) X.env)] := by rfl) :
    PE X (.Call (.Name nm rp) [.Lambda params (.Call (.Name g gp) [.Name na ap, .Name nb bp, .Name nc cp] [] cpos) lsc lpos] [] pos) (tRef X.K X.mg Pt (X.env.qual ++ "<lambda>") i j l m Cy) := by
  intro pins s σ H Q I ⟨tb, x, y', z, Fz, ds, c, hP, tg, fP, sF, sx, sy, sz, rs, mx, hit, hq⟩
  refine wpAny_Call_Name_kw (ld_glob I hgr hmr ?_ d6)
  refine PySem.W.callWith_K (h₀ := X.base) I.ok.mod.kin F.kp ?_ he rfl
  rw [he]
  refine Calls.spliced_cons (lam_eval I hd hcl hge hcode CH hB hP hgP tg fun fl c' ctv ps' H1 s1 M => ?_)
  refine Calls.spliced_nil ⟨M.inv.kIn, ?_⟩
  have I1 := M.inv
  have sF1 : Same Fz H1 := fun b o e => M.keep b o (fun z => by rw [z, fP] at e; cases e) (sF b o e)
  have off : ∀ x a, X.env.cells.lookup x = some a → a ∉ frs X.stack := fun x a e hm => by
    rcases List.mem_cons.mp (I1.stkSub a hm) with z | z
    · exact I1.cne x a e z
    · obtain ⟨_, o, ho, _⟩ := I1.ok.funs.mem z
      exact absurd (Nat.lt_of_lt_of_le (Heap.lt_size ho) (I1.ok.cab x a (hfn x) e)) (Nat.lt_irrefl _)
  have look : ∀ (i : Nat) (n : Str) (v : V), X.N[i]? = some n → σ[i]? = some (some v) → X.env.scope.names.lookup n = some .cell → n ∈ [na, nb, nc] → ∃ a u, cl.lookup n = some a ∧ RelV v u ∧ s1.heap.IsCell a (some u) := fun i n v h1 h2 h3 hm => by
    obtain ⟨mm, hn, hl⟩ := I1.loc
    obtain ⟨u, rv, lk⟩ := hl i n v h1 h2 (.inr (.inl h3))
    obtain ⟨a, ea⟩ := L.has n (L.free n hm)
    have eb := hsub n a ea
    rcases lk with ⟨hk, _⟩ | ⟨_, c0, ec, ic⟩
    · rw [show X.env.kindOf n = some .cell from h3] at hk; cases hk
    · rw [eb] at ec
      cases ec
      exact ⟨a, u, ea, rv, ic⟩
  refine wpAny_call (codeAny_mono (refused_call (f := fl) (k := k') (E := fun _ _ _ => False) (Q := Q) (Rr := fun H' => ∃ F', Gr Fz H1 F' H') F S hb hr I1.env0 (hbi _ _) hmy ly (fun cdv pins' s2 σ' hr2 I2 => ?_) (fun H' ⟨F', g'⟩ => hq H1 F' H' ps' M.tab M.good M.keep g') nd lf ld d1 d2 d3 d4 d5) fun r s' hq' => ?_)
  · have gf := objX_get I2.hok M.fn
    refine ⟨⟨_, _, _, _, gf⟩, ?_⟩
    have ck : ∀ x a v, X.env.cells.lookup x = some a → s1.heap.IsCell a v → s2.heap.IsCell a v := fun x a v e ⟨o, ho, hdc⟩ => ⟨o, I2.base.keep a o ho (I1.freeC x a e) (off x a e) (by intro z; cases z), hdc⟩
    refine lam_call (k := k + 1) (vs := [x, y', z]) L (hr2.mono (by omega)) I2.env0 rfl M.fn M.code (fun n a e => ?_) (fun t n v h1 h2 => ?_) (hba _ _ _ _) fun hr3 => ?_
    · obtain ⟨v, ic⟩ := I1.cell n a (hsub n a e)
      exact ⟨⟨v, ck n a v (hsub n a e) ic⟩, I1.freeC n a (hsub n a e)⟩
    · have key : ∃ a u, cl.lookup n = some a ∧ RelV v u ∧ s1.heap.IsCell a (some u) := by
        match t, h1, h2 with
        | 0, h1, h2 => cases h1; cases h2; exact look i na x hna sx va (by simp)
        | 1, h1, h2 => cases h1; cases h2; exact look j nb y' hnb sy vb (by simp)
        | 2, h1, h2 => cases h1; cases h2; exact look l nc z hnc sz vc (by simp)
      obtain ⟨a, u, e1', e2', e3'⟩ := key
      exact ⟨a, u, e1', e2', ck n a _ (hsub n a e1') e3'⟩
    · obtain ⟨fa, fdg, Fg, bi, kp, hm⟩ := C
      refine ⟨tCall (spD X.K X.mg ps.length m) [] (fun cls _ H' => PySem.W.exmOne X.K cls (.ref Cy) = some true ∧ ∃ F', Gr Fz H1 F' H') (tCons (tVar 0) (tCons (tVar 1) (tCons (tVar 2) tNil))), ?_, ?_⟩
      · exact pe_call Fg (hr3.mono (by omega)) lg hm kp bi .nil pass_lam (pa_cons (pe_var rfl (.inr (.inr (L.free na (by simp)))) e1 e2) (pa_cons (pe_var rfl (.inr (.inr (L.free nb (by simp)))) e3 e4) (pa_cons (pe_var rfl (.inr (.inr (L.free nc (by simp)))) e5 e6) pa_nil rfl) rfl) rfl) d7 rfl rfl
      · refine ⟨x, rfl, y', rfl, z, rfl, by simp [hps], Fz, ds, sF1, rs, (by rw [mx]; intro z; cases z), (fun d e => by rw [mx] at e; cases e), fun c0 e F' H' C0 g' hC => ?_⟩
        rw [mx] at e
        cases e
        exact ⟨hit C0 hC, F', g'⟩
  · cases r with
    | error e => obtain ⟨_, _, _, _, _, z⟩ := hq'; exact False.elim z
    | ok fl' =>
      cases fl' with
      | ret u => exact I1.after hq'
      | next => exact False.elim hq'
      | brk => exact False.elim hq'
      | cont => exact False.elim hq'
end
end L2.Ds

namespace L2
open PySem PySem.Spec PyProof.Rows PySem.W
noncomputable def spLawP (K : PySem.W.Frag) (Pt : Addr) : Sp := fun vs H Q _ => ∃ (a : Addr) (ns : List Int) (F : Hp), vs = [.ref a] ∧ Same F H ∧ F Pt = none ∧ SqL K F a (ns.map V.int) ∧ ns.length ≤ 63 ∧ H Pt = some (.tbl #[]) ∧ ∀ H', Q (.bl true) H'
theorem law_callP {P : Program} {w : World} {K : PySem.W.Frag} {mg mb : Str → Option Value} {CX : CXT} {k : Nat} {fa a cc Pt : Addr} {fd : FuncData} {x : Str} {s₁ : Shared} {vs : List Value} {ns : List Int}
    (KX : K.In s₁.heap) (hns : s₁.heap.Ns mainGlobals mg) (hb : s₁.heap.Ns builtinsNs mb) (hbb : ∀ x : Str, x ≠ "__name__" → mb x = bootBuiltins x) (hlim : s₁.heap.NoLimit) (hg : s₁.gens = #[])
    (ha : s₁.heap.get? a = some { cls := .type "list", data := .seq vs.toArray }) (hi : IntsAre vs ns) (hl : ns.length ≤ 63) (hr : Room k callerA)
    (hC : CodeHd s₁.heap cc Pt) (hPt : s₁.heap.get? Pt = some (tabObj #[])) (hKP : K.lookup Pt = none) (hB : s₁.heap.BuiltinsAt mg Pt)
    (F : ∀ base : Heap, K.In base → base.Ns mainGlobals mg → CodeHd base cc Pt → base.BuiltinsAt mg Pt → FnOk P w K mg base CX k fa fd [x] (spLawP K Pt)) (hbind : ∀ (s : Shared) (u : Value), BindsTo s fd ⟨[u], []⟩ [(x, u)])
    (hCX : ∀ H e s', CX [] H s₁ (fun _ _ _ => False) e s' → False) :
    codeAny (model P w) callerA (.call (.ref fa) ⟨[.ref a], []⟩) (fun r s' => r = .ok (.ret (.bool true)) ∧ OldK s₁.heap s'.heap ∧ s'.os = s₁.os ∧ AllBare s'.gens) s₁ := by
  have rv := vals_ints hi
  have lenV := hi.length
  have hl2 : ns.length ≤ sizeLine := Nat.le_trans hl (by decide)
  have naP : Pt ≠ a := fun z => by rw [z, ha] at hPt; cases hPt
  have core : ∀ G : Hp, Only G → SqL K G a (ns.map V.int) → HOk P w G s₁.heap → (∀ b, G b ≠ none → b = a) → (G a ≠ none → K.lookup a = none) →
      codeAny (model P w) callerA (.call (.ref fa) ⟨[.ref a], []⟩) (fun r s' => r = .ok (.ret (.bool true)) ∧ OldK s₁.heap s'.heap ∧ s'.os = s₁.os ∧ AllBare s'.gens) s₁ := by
    intro G hO hS hokG hA hK
    have gP : G Pt = none := by
      cases q : G Pt with
      | none => rfl
      | some u => exact absurd (hA Pt (by rw [q]; simp)) naP
    obtain ⟨H, hH⟩ : ∃ H : Hp, H = upd G Pt (.tbl #[]) := ⟨_, rfl⟩
    have HP : H Pt = some (.tbl #[]) := by rw [hH]; exact upd_same
    have HG : ∀ b, b ≠ Pt → H b = G b := fun b nb => by rw [hH]; exact upd_ne nb
    have sG : Same G H := fun b o e => by rw [HG b (ne_of_none e gP)]; exact e
    have hok : HOk P w H s₁.heap := fun b u e => by
      by_cases z : b = Pt
      · subst z; rw [HP] at e; cases e; exact hPt
      · rw [HG b z] at e
        exact (hokG b u e).stay (fun _ _ _ q => q) (fun c q => sG c _ q) fun c xs q => sG c _ q
    have none_of : ∀ b, b ≠ Pt → b ≠ a → H b = none := fun b n1 n2 => by
      rw [HG b n1]
      cases q : G b with
      | none => rfl
      | some u => exact absurd (hA b (by rw [q]; simp)) n2
    have base_of : ∀ {b : Addr} {o : Obj}, s₁.heap.get? b = some o → H b = none → (hidT s₁.heap H).get? b = some o := fun e n => hidT_get e n
    have noA : ∀ {b : Addr} {o : Obj} {es : Array DictEntry} {ep : Nat}, s₁.heap.get? b = some o → o.data = .dict es ep → H b = none := fun {b o es ep} e d => by
      refine none_of b (fun z => ?_) fun z => ?_
      · subst z; rw [hPt] at e; cases e; cases d
      · subst z; rw [ha] at e; cases e; cases d
    have nsK : ∀ {b : Addr} {m : Str → Option Value}, s₁.heap.Ns b m → (hidT s₁.heap H).Ns b m := fun {b m} ⟨o, es, ep, e, d, r⟩ => ⟨o, es, ep, base_of e (noA e d), d, r⟩
    have hKb : K.In (hidT s₁.heap H) := fun b o e => base_of (KX b o e) (by
      by_cases z : b = Pt
      · subst z; rw [hKP] at e; cases e
      · rw [HG b z]
        cases q : G b with
        | none => rfl
        | some u =>
          have e' : b = a := hA b (by rw [q]; simp)
          subst e'
          rw [hK (by rw [q]; simp)] at e; cases e)
    have hCb : CodeHd (hidT s₁.heap H) cc Pt := by
      obtain ⟨o, us, file, tf, flags, tg, inF, text, tt, e1, e2, r⟩ := hC
      refine ⟨o, us, file, tf, flags, tg, inF, text, tt, base_of e1 (none_of cc r.2.2.2.2.2.2.2 fun z => ?_), e2, r⟩
      subst z; rw [ha] at e1; cases e1; exact absurd (show Value.type "list" = Value.type "code" from e2) (by decide)
    have hBb : (hidT s₁.heap H).BuiltinsAt mg Pt := by
      obtain ⟨bm, o, b1, b2, b3, b4, b5, b6⟩ := hB
      refine ⟨bm, o, b1, b2, b3, b4, base_of b5 (none_of bm b4 fun z => ?_), b6⟩
      subst z; rw [ha] at b5; cases b5; exact absurd (show Value.type "list" = Value.type "module" from b6.1) (by decide)
    have hM : Mod K mg (hidT s₁.heap H) := ⟨hKb, nsK hns, ⟨mb, nsK hb, hbb⟩, let ⟨mc, h1, h2⟩ := hlim; ⟨mc, nsK h1, h2⟩⟩
    have e0 : Env0 P w K mg (hidT s₁.heap H) callerA [] s₁ H := ⟨rfl, hM, fun b o e => of_hidT e, Nat.le_of_eq (hidT_size _ _), trivial, fun b hb => absurd (show b ∈ ([] : List Addr) from hb) (by simp), hok, .of_eq hg⟩
    refine codeAny_mono ((F _ hKb (nsK hns) hCb hBb).run callerA [] s₁ H ⟨[.ref a], []⟩ [.ref a] [.ref a] (fun v _ => v = .bl true) (fun _ _ _ => False) hr e0 (hbind s₁ (.ref a)) (.cons rfl .nil) ⟨a, ns, G, rfl, sG, gP, hS, hl, HP, fun _ => rfl⟩) fun r s' h => ?_
    cases r with
    | error e => exact (hCX H e s' h).elim
    | ok fl =>
      cases fl with
      | next => exact False.elim h
      | brk => exact False.elim h
      | cont => exact False.elim h
      | ret u =>
        obtain ⟨v, H', os, bare, un, hok', r', q⟩ := h
        have q' : v = .bl true := q
        subst q'
        obtain rfl : u = Value.bool true := r'
        obtain ⟨more, hm⟩ := un.tbls Pt #[] HP
        have hP2 : s'.heap.get? Pt = some (tabObj (#[] ++ more)) := hok' Pt _ hm
        have keep : ∀ b o, b ≠ Pt → s₁.heap.get? b = some o → s'.heap.get? b = some o := fun b o nb e => by
          cases q : H b with
          | none => exact un.keep b o e q (by intro z; exact absurd (show b ∈ ([] : List Addr) from z) (by simp)) (by simp)
          | some u =>
            rw [HG b nb] at q
            rcases hO b with z | ⟨ob, xs, z⟩
            · rw [q] at z; cases z
            · have z1 : H b = some (.frz ob (.lst xs)) := by rw [HG b nb]; exact z
              have z2 := un.frzs b ob _ z1
              obtain ⟨e1, _⟩ := hok b _ z1
              obtain ⟨e2, _⟩ := hok' b _ z2
              rw [e] at e1; cases e1
              exact e2
        refine ⟨rfl, ⟨fun b o e => ?_, fun b o e => ?_⟩, os, bare⟩
        · by_cases z : b = Pt
          · subst z
            rw [hPt] at e
            cases e
            exact .inr (.inl ⟨(hC.tab hPt).isCodeTable, rfl, #[], more, rfl, hP2⟩)
          · exact .inl (keep b o z e)
        · by_cases z : b = Pt
          · subst z; exact ⟨_, hP2⟩
          · exact ⟨o, keep b o z e⟩
  cases hk : K.lookup a with
  | some o =>
    have e := KX a o hk
    rw [ha] at e
    cases e
    refine core (fun _ => none) (fun _ => .inl rfl) (.inr ⟨_, vs.toArray, _, hk, rfl, rfl, rfl, by rw [List.size_toArray, lenV]; exact hl2, by simpa using rv⟩) (fun b u z => by have z' : (none : Option HO) = some u := z; cases z') (fun b z => absurd rfl z) fun z => absurd rfl z
  | none =>
    refine core (fun b => if b = a then some (.frz { cls := .type "list", data := .seq vs.toArray } (.lst (ns.map V.int))) else none) (fun b => ?_) (.inl (.inr ⟨{ cls := .type "list", data := .seq vs.toArray }, if_pos rfl⟩)) (fun b u z => ?_) (fun b z => ?_) fun _ => hk
    · by_cases hb : b = a
      · exact .inr ⟨_, _, if_pos hb⟩
      · exact .inl (if_neg hb)
    · by_cases hb : b = a
      · have z' := (if_pos hb).symm.trans z
        cases z'
        subst hb
        exact ⟨ha, by rw [List.length_map]; exact hl2, vs, _, rv, ha⟩
      · have z' := (if_neg hb).symm.trans z
        cases z'
    · by_cases hb : b = a
      · exact hb
      · exact absurd (if_neg hb) z
theorem walk_P {l : PySem.W.OpenLaw} {k : Nat} {q : Program} {loose : List Str} {XP : (Str → Option Value) → Heap → Prop} {YP : World → Heap → Prop} {d d' : DefRec} {K : Params → PySem.W.Frag} {CX : World → CXT} {x nm : Str} {cc Pt : Addr}
    (hn : l.most = some 63) (hdf : d.params.defaults = []) (hr : Room k callerA) (hY : ∀ (w : World) (h : Heap), YP w h → (K w.params).In h) (hrec : (recsOf q).find? (fun e => e.name == nm) = some d') (htab : ∀ w : World, tabIn (K w.params) nm = some (cc, Pt)) (hKP : ∀ w : World, (K w.params).lookup Pt = none)
    (F : ∀ (w : World) (mg : Str → Option Value) (fa : Addr) (h : Heap), (K w.params).In h → h.Ns mainGlobals mg → mg d.name = some (.ref fa) →
      ∃ fd : FuncData, (∀ (s : Shared) (u : Value), BindsTo s fd ⟨[u], []⟩ [(x, u)]) ∧
        ∀ base : Heap, (K w.params).In base → base.Ns mainGlobals mg → CodeHd base cc Pt → base.BuiltinsAt mg Pt → FnOk l.prog w (K w.params) mg base (CX w) k fa fd [x] (spLawP (K w.params) Pt))
    (hCX : ∀ (w : World) (H : Hp) (s : Shared) (e : Value) (s' : Shared), CX w [] H s (fun _ _ _ => False) e s' → False) :
    PySem.W.WalkO q loose XP YP l.row.toRowW d [] (fun f vs => PySem.call f vs) := by
  refine Att.attach_call hn hdf fun w s₀ s₁ mg mb fa o pm cd doc a vs ns G Y ho hd hcd hmg hobj hints hlen hg => ?_
  have KX := hY w _ Y
  obtain ⟨hC, hPt⟩ := tab_of G.T KX hrec (htab w)
  have hB : s₁.heap.BuiltinsAt mg Pt := by
    obtain ⟨bm, ob, b1, b2, b3, b4, b5, b6⟩ := G.T.bmain
    refine ⟨bm, ob, b1, b2, fun z => ?_, fun z => ?_, b3, b4, b5, b6⟩
    · obtain ⟨o', es, ep, e, hd', _⟩ := G.T.g
      rw [z, e] at b3; cases b3; rw [hd'] at b6; cases b6
    · rw [z, hPt] at b3; cases b3; cases b4
  obtain ⟨fd, hb, hF⟩ := F w mg fa _ KX G.T.g hmg
  exact law_callP KX G.T.g G.T.b G.T.builtins G.T.nolimit hg hobj hints hlen hr hC hPt (hKP w) hB hF hb fun H e s' => hCX w H s₁ e s'
end L2

namespace L2
open PySem PySem.Spec PyProof.Rows PySem.W
theorem wp_execs_append {M : Model} {Γ : _} {env : Env} {b : List Stmt} {Q : _} {E : _} : ∀ (a : List Stmt) (p : _) (s : Shared),
    Sem.wp M Γ (execs a env) (fun f p' s' => match f with | .next => Sem.wp M Γ (execs b env) Q E p' s' | f => Q f p' s') E p s → Sem.wp M Γ (execs (a ++ b) env) Q E p s
  | [], p, s, h => h
  | st :: r, p, s, h => by
    rw [execs_cons, Sem.wp_bind'] at h
    show Sem.wp M Γ (execs (st :: (r ++ b)) env) Q E p s
    rw [execs_cons, Sem.wp_bind']
    refine Sem.wp_mono M Γ _ (fun f p' s' h' => ?_) (fun _ _ _ h' => h') _ _ h
    cases f with
    | next => exact wp_execs_append r p' s' h'
    | ret v => exact h'
    | brk => exact h'
    | cont => exact h'
theorem pss_append {X : Cx} {a b : List Stmt} {t u : TS} (h1 : PSs X a t) (h2 : PSs X b u) : PSs X (a ++ b) (tSeq t u) := by
  intro pins s σ H D I h Γ p hΓ
  refine wp_execs_append a p s (Sem.wp_mono _ Γ _ (fun f p' s' q => ?_) (fun _ _ _ h' => h') _ _ (h1 pins s σ H { D with nx := u D } I h Γ p hΓ))
  cases f with
  | next =>
    obtain ⟨σ', H', I', q⟩ := q
    exact h2 pins s' σ' H' D I' q Γ p' hΓ
  | ret v => exact q
  | brk => exact q
  | cont => exact q
end L2
namespace L2.Ds
open PySem PySem.Spec PyProof.Rows PySem.W Dl
noncomputable def FinX (K : PySem.W.Frag) (mg : Str → Option Value) (Pt : Addr) (q : Str) (F1 : Hp) (js : List (Nat × D)) (n : Nat) (σ : St) (H : Hp) : Prop :=
  ∃ F ps, Same F1 F ∧ Same F H ∧ F Pt = none ∧ H Pt = some (.tbl ps) ∧ TabGood H q ps ∧ n < σ.length ∧ ∀ x ∈ js, ∃ v, σ[x.1]? = some (some v) ∧ Rp K mg F v x.2
theorem fin_ref {K : PySem.W.Frag} {mg : Str → Option Value} {Pt Cy : Addr} {q : Str} {F1 : Hp} {i j l n : Nat} {d dw dr : D} {m : List D → Res D} {c : Str} {σ : St} {H : Hp} {Q : VK} (h : FinX K mg Pt q F1 [(i, d), (j, dw), (l, dr)] n σ H) (mx : m [d, dw, dr] = .ex c)
    (hit : ∀ C, mg c = some (.ref C) → PySem.W.exmOne K (.ref C) (.ref Cy) = some true) (hQ : ∀ H', FinX K mg Pt q F1 [(i, d), (j, dw), (l, dr)] n σ H' → Q (.bl true) H') : tRef K mg Pt q i j l m Cy σ H Q := by
  obtain ⟨F, ps, s1, s2, fP, hP, tg, hl, hj⟩ := h
  obtain ⟨x, ex, rx⟩ := hj (i, d) (by simp)
  obtain ⟨y, ey, ry⟩ := hj (j, dw) (by simp)
  obtain ⟨z, ez, rz⟩ := hj (l, dr) (by simp)
  refine ⟨ps, x, y, z, F, [d, dw, dr], c, hP, tg, fP, s2, ex, ey, ez, .cons rx (.cons ry (.cons rz .nil)), mx, hit, fun H1 F' H' ps' h1 g1 kp gr => hQ H' ?_⟩
  have sF1 : Same F H1 := fun b o e => kp b o (fun w => by rw [w, fP] at e; cases e) (s2 b o e)
  obtain ⟨f1, f2⟩ := gr.o Pt _ fP h1
  refine ⟨F', ps', s1.trans gr.f, gr.s, f1, f2, g1.up fun b o e _ => gr.same sF1 b o e, hl, fun x hx => ?_⟩
  obtain ⟨v, e, r⟩ := hj x hx
  exact ⟨v, e, r.same gr.f⟩
section
variable {P : Program} {w : World} {K : PySem.W.Frag} {mg : Str → Option Value} {base : Heap} {N : List Str} {px x : Str} {f cc Pt Cy : Addr} {st : Stmt} {fd : FuncData} {k : Nat} {mb : MS} {mi : MI} {m1 m2 : List D → Res D} {i j l : Nat} {pre : List Stmt} {ns : Str} {iter call1 call2 : Expr} {c : Str}
  {np fp p1 p2 p3 p4 p5 p6 p7 p8 p9 p10 : Pos} {a1 a2 a3 : _}
theorem okP (F : Fun K x x st f fd) (S : FnScope N [px] (defScope st)) (hKb : K.In base) (hN : base.Ns mainGlobals mg) (htab : tabIn K x = some (cc, Pt)) (hm : mg x = some (.ref f))
    (hb : defBody st = pre ++ [.For (.Name ns np) iter [.If (.UnaryOp .Not call1 p1) [.Return (some (.Constant (.bool false) a1 p2)) p3] [] p4, .If (.UnaryOp .Not call2 p5) [.Return (some (.Constant (.bool false) a2 p6)) p7] [] p8] [] fp, .Return (some (.Constant (.bool true) a3 p9)) p10])
    (h : ∀ (A : Around) (outer : List Env) (s : Shared) (H : Hp) (E : XK), Room k (A.deeper (envOfC x (defScope st) s.heap.objs.size f (.ref cc))) → ∃ t wi, DSs (cxOf (CXR P w) P w K mg base N x (defScope st) f (.ref cc) A outer s H E) E pre t mb ∧ DI (cxOf (CXR P w) P w K mg base N x (defScope st) f (.ref cc) A outer s H E) E (.Name ns np) iter wi mi ∧
      PG (cxOf (CXR P w) P w K mg base N x (defScope st) f (.ref cc) A outer s H E) (.Name ns np) (gName i) ∧
      PE (cxOf (CXR P w) P w K mg base N x (defScope st) f (.ref cc) A outer s H E) call1 (tRef K mg Pt ((cxOf (CXR P w) P w K mg base N x (defScope st) f (.ref cc) A outer s H E).env.qual ++ "<lambda>") i j l m1 Cy) ∧
      PE (cxOf (CXR P w) P w K mg base N x (defScope st) f (.ref cc) A outer s H E) call2 (tRef K mg Pt ((cxOf (CXR P w) P w K mg base N x (defScope st) f (.ref cc) A outer s H E).env.qual ++ "<lambda>") i j l m2 Cy))
    (e1 : ∀ env whole, isTrue call1 env whole = (do let v ← whole; standAt call1.pos; holding [v] (truthy v))) (e2 : ∀ env whole, isTrue call2 env whole = (do let v ← whole; standAt call2.pos; holding [v] (truthy v))) (hs : ∀ env x, foldedSetIterable iter env x = pure x)
    (hit : ∀ C, mg c = some (.ref C) → PySem.W.exmOne K (.ref C) (.ref Cy) = some true) (hij : i ≠ j) (hil : i ≠ l) 
    (pure : ∀ ns : List Int, ns.length ≤ 63 → ∃ ρ dA dB dw dr, mb (ev0 N.length [.lst (ns.map .int)]) = .ok (.nx ρ) ∧ mi ρ = .ok [dA, dB] ∧ i < ρ.length ∧ ρ[j]? = some (.im dw) ∧ ρ[l]? = some (.im dr) ∧ m1 [dA, dw, dr] = .ex c ∧ m1 [dB, dw, dr] = .ex c ∧ m2 [dA, dw, dr] = .ex c ∧ m2 [dB, dw, dr] = .ex c) :
    FnOk P w K mg base (CXR P w) (k + 1) f fd [px] (spLawP K Pt) := by
  obtain ⟨oc, od, kV, doc, pm, an, cdv, ct, osl, rfl, lk, hcd⟩ := F.ex
  have hcv : cdv = .ref cc := law_code (o := ⟨oc, od, .func (PySem.W.fnOf x x (defArgs st) (defBody st) (defScope st) .none kV doc pm an cdv ct), osl⟩) hKb hN htab hm (hKb _ _ lk) rfl
  subst hcv
  refine fn_of lk hcd S (fun vs H Q E q => by obtain ⟨a, ns, F, rfl, _⟩ := q; rfl) fun A outer s H vs Q E hr hsp => ?_
  obtain ⟨t, wi, hd, hdi, hg, hp1, hp2⟩ := h A outer s H E hr
  rw [hb]
  refine ⟨_, pss_append hd.p (pss_cons (ps_for PassesOwn.leaving rfl hdi.p hg (pss_cons (ps_if (pt_not (pt_val hp1 (e1 _))) (pss_one (ps_ret pe_bl)) pss_nil) (pss_cons (ps_if (pt_not (pt_val hp2 (e2 _))) (pss_one (ps_ret pe_bl)) pss_nil) pss_nil)) (hs _)) (pss_cons (ps_ret pe_bl) pss_nil)), ?_⟩
  obtain ⟨a, is, F0, rfl, s0, f0, sq, hl, hP0, hQ⟩ := hsp
  obtain ⟨ρ, dA, dB, dw, dr, em, ei, hi, ew, er, x1, x2, y1, y2⟩ := pure is hl
  have z := hd.s F0 H F0 H (start N [.ref a]) (ev0 N.length [.lst (is.map .int)]) (rep_start s0 (.cons (.lst sq (rps_ints is)) .nil))
  rw [em] at z
  refine z _ fun F1 H1 σ1 _ rp => ?_
  obtain ⟨f1, h1⟩ := rp.g.o Pt _ f0 hP0
  have zi := hdi.s F0 H F1 H1 σ1 ρ rp
  rw [ei] at zi
  refine zi _ fun F2 H2 J g2 jo => ?_
  obtain ⟨f2, h2⟩ := g2.o Pt _ f1 h1
  have hlen : i < σ1.length := by rw [rp.len]; exact hi
  generalize hq : (cxOf (CXR P w) P w K mg base N x (defScope st) f (.ref cc) A outer s H E).env.qual ++ "<lambda>" = q
  refine ⟨fun k m σ H' => m = 2 - k ∧ k ≤ 2 ∧ FinX K mg Pt q F2 [(j, dw), (l, dr)] i σ H', ⟨2, rfl, by omega, ?_⟩, ?_⟩
  · refine ⟨F2, #[], Same.refl _, g2.s, f2, h2, .nil, hlen, fun x hx => ?_⟩
    rcases List.mem_cons.mp hx with rfl | hx
    · obtain ⟨v, e, r⟩ := rp.im j dw ew
      exact ⟨v, e, r.same g2.f⟩
    · rcases List.mem_cons.mp hx with rfl | hx
      · obtain ⟨v, e, r⟩ := rp.im l dr er
        exact ⟨v, e, r.same g2.f⟩
      · cases hx
  · rintro k m σ H' ⟨rfl, hk, F', ps, s1, s2, fP, hP, tg, hl', hj⟩
    by_cases hk2 : k = 2
    · subst hk2
      exact .inl ⟨(jo F' H' s1 s2 2).2 (Nat.le_refl _), hQ H'⟩
    · have hk3 : k < 2 := by omega
      obtain ⟨d, ed, xd1, xd2⟩ : ∃ d, [dA, dB][k]? = some d ∧ m1 [d, dw, dr] = .ex c ∧ m2 [d, dw, dr] = .ex c := by
        match k, hk3 with
        | 0, _ => exact ⟨dA, rfl, x1, y1⟩
        | 1, _ => exact ⟨dB, rfl, x2, y2⟩
      obtain ⟨go, yl⟩ := (jo F' H' s1 s2 k).1 d ed
      refine .inr ⟨go, fun σ H' => FinX K mg Pt q F2 [(j, dw), (l, dr)] i σ H', fun σ' H'' hf => ⟨2 - (k + 1), by omega, rfl, by omega, hf⟩, fun x H'' hy => ?_⟩
      obtain ⟨F'', gr, rx⟩ := yl x H'' hy
      obtain ⟨f3, h3⟩ := gr.o Pt _ fP hP
      have hf : FinX K mg Pt q F2 [(i, d), (j, dw), (l, dr)] i (σ.set i (some x)) H'' := by
        refine ⟨F'', ps, s1.trans gr.f, gr.s, f3, h3, tg.up fun b o e _ => gr.same s2 b o e, by rw [List.length_set]; exact hl', fun y hy => ?_⟩
        rcases List.mem_cons.mp hy with rfl | hy
        · exact ⟨x, set_at hl', rx⟩
        · obtain ⟨v, e, r⟩ := hj y hy
          refine ⟨v, ?_, r.same gr.f⟩
          rw [set_off]
          · exact e
          · rcases List.mem_cons.mp hy with rfl | hy
            · exact hij
            · rcases List.mem_cons.mp hy with rfl | hy
              · exact hil
              · cases hy
      subst hq
      unfold gName tSeq tIfS tNot tB
      refine fin_ref hf xd1 hit fun H3 hf3 => ?_
      refine ⟨true, rfl, ?_⟩
      simp only [Bool.not_true, Bool.false_eq_true, if_false, tNext]
      refine fin_ref hf3 xd2 hit fun H4 hf4 => ?_
      refine ⟨true, rfl, ?_⟩
      simp only [Bool.not_true, Bool.false_eq_true, if_false]
      obtain ⟨G, ps', r⟩ := hf4
      obtain ⟨r1, r2, r3, r4, r5, r6, r7⟩ := r
      exact ⟨G, ps', r1, r2, r3, r4, r5, r6, fun x hx => r7 x (List.mem_cons_of_mem _ hx)⟩
end
end L2.Ds

namespace L2.Ds
open PySem PySem.Spec PyProof.Rows Dl
section
variable {K : PySem.W.Frag} {mg : Str → Option Value} {E : XK} {ta tb : TE} {ma mb : ME} {i : Nat}
theorem ss_setA (ha : SE K mg E ta ma) (hb : SE K mg E tb mb) : SS K mg E (tAsg (tOp (rAddD K) ta tb) (gName i)) (stO i (o2 dAdd ma mb)) := by
  intro F0 H0 F H σ ρ rr
  have h := ha F0 H0 F H σ ρ rr
  unfold stO o2
  cases e : ma ρ with
  | bad => trivial
  | ex c =>
    rw [e] at h
    exact fun D q => h _ fun F' H' C g hC => q F' H' C (rr.g.trans g) hC
  | ok dx =>
    rw [e] at h
    cases e2 : mb ρ with
    | bad => trivial
    | ex c =>
      refine fun D q => h _ fun F1 H1 x g1 rx => ?_
      have h2 := hb F0 H0 F1 H1 σ ρ (rr.gr g1)
      rw [e2] at h2
      exact h2 _ fun F' H' C g hC => q F' H' C ((rr.g.trans g1).trans g) hC
    | ok dy =>
      show AnsS K mg E F0 H0 F ((dAdd dx dy).bind fun d => (lstO d).bind fun xs => .ok (.nx (ρ.set i (.ow xs)))) _
      cases dx with
      | lst as =>
        cases dy with
        | lst bs =>
          show AnsS K mg E F0 H0 F ((if as.length + bs.length ≤ LIM then Res.ok (D.lst (as ++ bs)) else .bad).bind fun d => (lstO d).bind fun xs => .ok (.nx (ρ.set i (.ow xs)))) _
          by_cases hl : as.length + bs.length ≤ LIM
          · rw [if_pos hl]
            refine fun D q => h _ fun F1 H1 x g1 rx => ?_
            have h2 := hb F0 H0 F1 H1 σ ρ (rr.gr g1)
            rw [e2] at h2
            refine h2 _ fun F2 H2 y g2 ry => ?_
            have rx2 := rx.same g2.f
            cases rx2 with
            | lst hA ra =>
              cases ry with
              | lst hB rb =>
                refine .inr (.inl ⟨_, _, _, _, rfl, rfl, g2.s.seq hA, g2.s.seq hB, ?_, fun p hp => ?_⟩)
                · rw [ra.length, rb.length]; exact lim_le hl
                · exact q F2 _ _ (g1.f.trans g2.f) (((rr.gr g1).gr g2).own i hp (Rps.app rb ra))
          · rw [if_neg hl]; trivial
        | _ => trivial
      | int a => cases dy <;> trivial
      | tup a =>
        cases dy with
        | tup b =>
          show AnsS K mg E F0 H0 F ((if a.length + b.length ≤ LIM then Res.ok (D.tup (a ++ b)) else .bad).bind fun d => (lstO d).bind fun xs => .ok (.nx (ρ.set i (.ow xs)))) _
          split <;> trivial
        | _ => trivial
      | str a =>
        cases dy with
        | str b =>
          show AnsS K mg E F0 H0 F ((if a.length + b.length ≤ LIM then Res.ok (D.str (a ++ b)) else .bad).bind fun d => (lstO d).bind fun xs => .ok (.nx (ρ.set i (.ow xs)))) _
          split <;> trivial
        | _ => trivial
      | _ => trivial
end
section
variable {X : Cx} {E : XK} {a b : Expr} {ta tb : TE} {ma mb : ME} {i : Nat} {x : Str} {pos pos' spos : Pos}
theorem ds_setA (hN : X.N.Nodup) (hi : X.N[i]? = some x) (hx : Loc X.env.scope x) (ha : DE X E a ta ma) (hb : DE X E b tb mb) (hs : swapsWith (.BinOp a .Add b pos) (some (.Name x pos')) spos.line X.env = pure false := by rfl) (hf : X.fn x = true ∨ X.env.scope.names.lookup x = some .local := by first | exact .inl rfl | exact .inr rfl | assumption) :
    DS X E (.Assign [.Name x pos'] (.BinOp a .Add b pos) spos) (tAsg (tOp (rAddD X.K) ta tb) (gName i)) (stO i (o2 dAdd ma mb)) := ⟨ps_set hN hi hx (pe_op op_addD ha.p hb.p) hs hf, ss_setA ha.s hb.s⟩
end
end L2.Ds
namespace L2.Ds
open PySem PySem.Spec PyProof.Rows PySem.W Dl
noncomputable def lamChk (sc : Scope) (cn N : List Str) : Bool := sc.names.all (fun y => y.2 != .cell) && sc.names.all (fun y => y.2 != .free || cn.contains y.1) && N.all (fun n => sc.names.lookup n == some .free)
theorem lam_ok {X : Cx} {N : List Str} {sc : Scope} {cl : List (Str × Addr)} (inj : ∀ x y c, X.env.cells.lookup x = some c → X.env.cells.lookup y = some c → x = y) (hk : sc.kind = .function) (hc : sc.isCoroutine = false) (hg : sc.isGenerator = false) (sub : SubOk X cl) (chk : lamChk sc (cl.map (·.1)) N = true) : LamScope N sc cl := by
  unfold lamChk at chk
  simp only [Bool.and_eq_true, List.all_eq_true] at chk
  obtain ⟨⟨h1, h2⟩, h3⟩ := chk
  have sub' : ∀ x c, cl.lookup x = some c → X.env.cells.lookup x = some c := fun x c e => sub.mem (PySem.mem_of_lookup e)
  refine ⟨hk, hc, hg, fun x hx => ?_, fun x hx => ?_, fun x y c e1 e2 => inj x y c (sub' x c e1) (sub' y c e2), fun x hx => by simpa using h3 x hx⟩
  · have := h1 x hx
    intro z
    rw [z] at this
    simp at this
  · have := h2 _ (PySem.mem_of_lookup hx)
    refine look_some ?_
    simpa using this
section
variable {X : Cx} {Pt cc Cy : Addr} {st : Stmt} {nm xd xf y g na nb nc : Str} {k k' : Nat} {i j l : Nat} {m : List D → Res D} {ps : List Str} {p1 p2 p3 p4 p5 p6 q1 q2 q3 q4 q5 q6 q7 q8 : Pos} {j1 j2 : Nat} {params : Arguments} {lsc : Scope} {cl : List (Str × Addr)} {gp ap bp cp cpos lpos rp pos : Pos}
theorem pe_refD (Dr : Def X.K X.mg nm st [xd]) (S : FnScope [xd, xf] [xd] (defScope st)) (hst : X.stack = X.env :: X.outer) (hge : X.env.globals = mainGlobals) (hfn : ∀ x, X.fn x = true) (hex : X.ex = [])
    (hb : defBody st = [.Assign [.Name xf p1] (.Constant (.bool false) j1 p2) p3, .Try [.Expr (.Call (.Name xd q1) [] [] q2) q3] [.ExceptHandler (some (.Name y q4)) none [.Assign [.Name xf p4] (.Constant (.bool true) j2 p5) p6] q5] [] [] q6, .Return (some (.Name xf q7)) q8])
    (hbr : ∀ (kV doc pm : Value) (an : Option Addr) (cdv ct : Value) (v : Value), bindArgs (PySem.W.fnOf nm nm (defArgs st) (defBody st) (defScope st) .none kV doc pm an cdv ct) ⟨[v], []⟩ = pure [(xd, v)])
    (hgr : Gl X nm) (hmy : X.mg y = some (.ref Cy)) (ly : (defScope st).names.lookup y = some .globalImplicit)
    (C : Cal X.prog X.w X.K X.mg X.base k g ps m) (hps : ps.length = 3) (hr : Room (k' + 1) X.A) (hk : k + 2 ≤ k')
    (hd : defaultsOf params X.env = ([], [])) (hcl : closureFor lsc X.env = pure cl) (sub : SubOk X cl) (chk : lamChk lsc (cl.map (·.1)) [na, nb, nc] = true) (lk : lsc.kind = .function) (lc : lsc.isCoroutine = false) (lgn : lsc.isGenerator = false) (hba : ∀ q pm c ctv, bindArgs (kla_fn "<lambda>" q params (.Call (.Name g gp) [.Name na ap, .Name nb bp, .Name nc cp] [] cpos) lsc cl pm (.ref c) ctv) ⟨[], []⟩ = pure [])
    (hcode : X.env.code = .ref cc) (CH : CodeHd X.base cc Pt) (hB : X.base.BuiltinsAt X.mg Pt) (hgP : mainGlobals ≠ Pt)
    (hna : X.N[i]? = some na) (hnb : X.N[j]? = some nb) (hnc : X.N[l]? = some nc) (va : X.env.scope.names.lookup na = some .cell) (vb : X.env.scope.names.lookup nb = some .cell) (vc : X.env.scope.names.lookup nc = some .cell) (lg : lsc.names.lookup g = some .globalImplicit)
    (nd : List.Nodup [xd, xf] := by decide +kernel) (lf : (defScope st).names.lookup xf = some .local := by rfl) (ld : (defScope st).names.lookup xd = some .local := by rfl) (d1 : (xd == ("__debug__" : Str)) = false := by decide) (d2 : (xd == ("__classdict__" : Str)) = false := by decide) (d3 : (xf == ("__debug__" : Str)) = false := by decide) (d4 : (xf == ("__classdict__" : Str)) = false := by decide) (d5 : (y == ("__debug__" : Str)) = false := by decide)
    (d6 : (nm == ("__debug__" : Str)) = false := by decide) (d7 : (g == ("__debug__" : Str)) = false := by decide) (e1 : (na == ("__debug__" : Str)) = false := by decide) (e2 : (na == ("__classdict__" : Str)) = false := by decide) (e3 : (nb == ("__debug__" : Str)) = false := by decide) (e4 : (nb == ("__classdict__" : Str)) = false := by decide) (e5 : (nc == ("__debug__" : Str)) = false := by decide) (e6 : (nc == ("__classdict__" : Str)) = false := by decide)
    (he : starEach [.Lambda params (.Call (.Name g gp) [.Name na ap, .Name nb bp, .Name nc cp] [] cpos) lsc lpos] X.env = [(false, eval (.Lambda params (.Call (.Name g gp) [.Name na ap, .Name nb bp, .Name nc cp] [] cpos) lsc lpos) X.env)] := by rfl) :
    PE X (.Call (.Name nm rp) [.Lambda params (.Call (.Name g gp) [.Name na ap, .Name nb bp, .Name nc cp] [] cpos) lsc lpos] [] pos) (tRef X.K X.mg Pt (X.env.qual ++ "<lambda>") i j l m Cy) := by
  intro pins s σ H Q I h
  obtain ⟨fr, fd, F, _, hmr⟩ := Dr.ex
  have L : LamScope [na, nb, nc] lsc cl := lam_ok I.ok.inj lk lc lgn sub chk
  have hbi : ∀ (s : Shared) (v : Value), BindsTo s fd ⟨[v], []⟩ [(xd, v)] := by
    obtain ⟨oc, od, kV, doc, pm, an, cdv, ct, osl, rfl, _, _⟩ := F.ex
    exact fun s v => .of_eq (hbr kV doc pm an cdv ct v)
  exact pe_ref hst hge hfn hex F S hb hbi hmr hgr hmy ly C hps hr hk hd hcl (fun x a e => sub.mem (PySem.mem_of_lookup e)) L hba hcode CH hB hgP hna hnb hnc va vb vc lg nd lf ld d1 d2 d3 d4 d5 d6 d7 e1 e2 e3 e4 e5 e6 he pins s σ H Q I h
end
end L2.Ds

namespace Dl
open PySem
noncomputable def Sm (k : Nat) (x : Int) : Prop := x.natAbs < 2 ^ k
theorem Sm.mono {k n : Nat} {x : Int} (h : Sm k x) (hn : k ≤ n) : Sm n x := Nat.lt_of_lt_of_le h (Nat.pow_le_pow_right (by decide) hn)
theorem Sm.mul {m n : Nat} {x y : Int} (h : Sm m x) (g : Sm n y) : Sm (m + n) (x * y) := by
  unfold Sm at *
  rw [Int.natAbs_mul, Nat.pow_add]
  rcases Nat.eq_zero_or_pos x.natAbs with z | z
  · rw [z, Nat.zero_mul]; exact Nat.mul_pos (Nat.two_pow_pos _) (Nat.two_pow_pos _)
  · exact Nat.lt_of_le_of_lt (Nat.mul_le_mul_left _ (Nat.le_of_lt g)) (Nat.mul_lt_mul_of_pos_right h (Nat.two_pow_pos _))
theorem Sm.add {m n : Nat} {x y : Int} (h : Sm m x) (g : Sm n y) : Sm (max m n + 1) (x + y) := by
  have h' := h.mono (Nat.le_max_left m n)
  have g' := g.mono (Nat.le_max_right m n)
  unfold Sm at *
  rw [Nat.pow_succ]
  have := Int.natAbs_add_le x y
  omega
theorem Sm.neg {m : Nat} {x : Int} (h : Sm m x) : Sm m (-x) := by
  unfold Sm at *
  rw [Int.natAbs_neg]
  exact h
theorem Sm.sub {m n : Nat} {x y : Int} (h : Sm m x) (g : Sm n y) : Sm (max m n + 1) (x - y) := by
  rw [Int.sub_eq_add_neg]; exact h.add g.neg
theorem Sm.min {m n : Nat} {x y : Int} (h : Sm m x) (g : Sm n y) : Sm (max m n) (min x y) := by
  rcases Int.le_total x y with z | z
  · rw [Int.min_eq_left z]; exact h.mono (Nat.le_max_left m n)
  · rw [Int.min_eq_right z]; exact g.mono (Nat.le_max_right m n)
theorem Sm.max {m n : Nat} {x y : Int} (h : Sm m x) (g : Sm n y) : Sm (max m n) (max x y) := by
  rcases Int.le_total x y with z | z
  · rw [Int.max_eq_right z]; exact g.mono (Nat.le_max_right m n)
  · rw [Int.max_eq_left z]; exact h.mono (Nat.le_max_left m n)
theorem Sm.le {m : Nat} {x y : Int} (h : Sm m x) (e : y.natAbs ≤ x.natAbs) : Sm m y := Nat.lt_of_le_of_lt e h
theorem Sm.of64 {x : Int} (h1 : -18446744073709551616 < x) (h2 : x < 18446744073709551616) : Sm 64 x := by
  unfold Sm
  have : (2 : Nat) ^ 64 = 18446744073709551616 := by decide
  omega
theorem log_lt {n k : Nat} (h : n < 2 ^ k) (hk : 0 < k) : n.log2 < k := by
  rcases Nat.eq_zero_or_pos n with z | z
  · rw [z]; simpa using hk
  · exact (Nat.log2_lt (Nat.ne_of_gt z)).mpr h
theorem Sm.log {m : Nat} {x : Int} (h : Sm m x) (hm : m < 9000) : x.natAbs.log2 < 9000 := log_lt (h.mono (Nat.le_of_lt hm)) (by decide)
theorem mulOk_l {a b : Int} (h : Sm 64 a) : mulOk a b = true := by
  unfold mulOk
  rw [decide_eq_true (show a.natAbs < 2 ^ 64 from h)]; rfl
theorem mulOk_r {a b : Int} (h : Sm 64 b) : mulOk a b = true := by
  unfold mulOk
  rw [decide_eq_true (show b.natAbs < 2 ^ 64 from h)]
  simp
theorem mulOk_s {a b : Int} {m n : Nat} (h : Sm m a) (g : Sm n b) (hk : m + n < 99999990) : mulOk a b = true := by
  have h1 := log_lt (h.mono (Nat.le_succ m)) (Nat.succ_pos _)
  have h2 := log_lt (g.mono (Nat.le_succ n)) (Nat.succ_pos _)
  unfold mulOk
  rw [decide_eq_true (show a.natAbs.log2 + b.natAbs.log2 < 100000000 by omega)]
  simp
theorem iMul_ok {a b : Int} (h : mulOk a b = true) : iMul a b = .ok (.int (a * b)) := by unfold iMul; rw [if_pos h]
theorem iMod_pos {a b : Int} (h : 0 < b) : iMod a b = .ok (.int (a % b)) := by unfold iMod; rw [if_pos h]
theorem iDiv_pos {a b : Int} (h : 0 < b) (hl : b.natAbs.log2 < 9000) : iDiv a b = .ok (.int (a / b)) := by unfold iDiv; rw [if_pos hl, if_pos h]
theorem iPow_ok {a b : Int} (h0 : 0 ≤ b) (h1 : b ≤ 1000000) (h2 : a.natAbs < 2 ^ 64) : iPow a b = .ok (.int (a ^ b.toNat)) := by unfold iPow; rw [if_pos ⟨h0, h1, h2⟩]
theorem iShl_ok {a b : Int} (h0 : 0 ≤ b) (h1 : b ≤ 1000000) (h2 : a.natAbs < 2 ^ 64) : iShl a b = .ok (.int (a * 2 ^ b.toNat)) := by unfold iShl; rw [if_pos ⟨h0, h1, h2⟩]
theorem iShr_ok {a b : Int} (h0 : 0 ≤ b) : iShr a b = .ok (.int (a / 2 ^ b.toNat)) := by unfold iShr; rw [if_pos h0]
theorem dEq_int (a b : Int) : dEq (.int a) (.int b) = .ok (.bl (decide (a = b))) := by
  show Res.ok (D.bl (a == b)) = _
  rw [Bool.beq_eq_decide_eq]
theorem dNe_int (a b : Int) : dNe (.int a) (.int b) = .ok (.bl (!decide (a = b))) := by
  show Res.ok (D.bl (!(a == b))) = _
  rw [Bool.beq_eq_decide_eq]
theorem dAdd_lst {a b : List D} (h : a.length + b.length ≤ 1000000) : dAdd (.lst a) (.lst b) = .ok (.lst (a ++ b)) := by
  show (if a.length + b.length ≤ LIM then Res.ok (D.lst (a ++ b)) else .bad) = _
  rw [if_pos (show a.length + b.length ≤ LIM from h)]
theorem dIx_lst (xs : List D) (i : Int) : dIx (.lst xs) (.int i) = ofO (at_ xs i) := rfl
theorem bLen_lst (xs : List D) : bLen [.lst xs] = .ok (.int xs.length) := rfl
theorem bLen_tup (xs : List D) : bLen [.tup xs] = .ok (.int xs.length) := rfl
theorem bAbs_int (i : Int) : bAbs [.int i] = .ok (.int i.natAbs) := by
  show Res.ok (D.int (if i < 0 then -i else i)) = _
  have : (if i < 0 then -i else i) = (i.natAbs : Int) := by split <;> omega
  rw [this]
theorem bMax_int (i j : Int) : bMax [.int i, .int j] = .ok (.int (max i j)) := by
  show Res.ok (D.int (if j > i then j else i)) = _
  have : (if j > i then j else i) = max i j := by split <;> omega
  rw [this]
theorem bMin_int (i j : Int) : bMin [.int i, .int j] = .ok (.int (min i j)) := by
  show Res.ok (D.int (if j < i then j else i)) = _
  have : (if j < i then j else i) = min i j := by split <;> omega
  rw [this]
theorem rng1_ok {j : Int} (h0 : -1000000000 ≤ j) (h1 : j ≤ 1000000000) : rng1 [.int j] = .ok (rangeD 0 j.toNat) := by
  show (if -1000000000 ≤ j ∧ j ≤ 1000000000 then Res.ok (rangeD 0 j.toNat) else .bad) = _
  rw [if_pos ⟨h0, h1⟩]
theorem for_inv_pre {g : MG} {b : MS} (I : List D → Ev → Prop) : ∀ (xs pre : List D), (∀ p x r, xs = p ++ x :: r → ∀ ρ, I (pre ++ p) ρ → ∃ ρ1 ρ2, g x ρ = .ok ρ1 ∧ b ρ1 = .ok (.nx ρ2) ∧ I (pre ++ p ++ [x]) ρ2) → ∀ ρ, I pre ρ → ∃ ρ', forGo g b xs ρ = .ok (.nx ρ') ∧ I (pre ++ xs) ρ'
  | [], pre, _, ρ, i => ⟨ρ, rfl, by rw [List.append_nil]; exact i⟩
  | x :: r, pre, h, ρ, i => by
    obtain ⟨ρ1, ρ2, h1, h2, i2⟩ := h [] x r rfl ρ (by rw [List.append_nil]; exact i)
    rw [List.append_nil] at i2
    obtain ⟨ρ', h3, i3⟩ := for_inv_pre I r (pre ++ [x]) (fun p y s e ρ i => by
      have z := h (x :: p) y s (by rw [e]; rfl) ρ (by simpa using i)
      simpa using z) ρ2 i2
    refine ⟨ρ', ?_, by simpa using i3⟩
    show (g x ρ).bind (fun ρ1 => (b ρ1).bind (turn (forGo g b r))) = _
    rw [h1]
    show (b ρ1).bind (turn (forGo g b r)) = _
    rw [h2]
    exact h3
theorem compGo_cons (g : MG) (t : MB) (e : ME) (ρ : Ev) (x : D) (r : List D) : compGo g t e ρ (x :: r) = (g x ρ).bind fun ρ1 => (t ρ1).bind fun b => if b = true then (e ρ1).bind fun y => (compGo g t e ρ r).bind fun ys => .ok (y :: ys) else compGo g t e ρ r := rfl
theorem comp_all {g : MG} {e : ME} {ρ : Ev} (P : D → D → Prop) : ∀ xs : List D, (∀ x ∈ xs, ∃ ρ1 y, g x ρ = .ok ρ1 ∧ e ρ1 = .ok y ∧ P x y) → ∃ ys, compGo g yes e ρ xs = .ok ys ∧ ys.length = xs.length ∧ ∀ (i : Nat) x y, xs[i]? = some x → ys[i]? = some y → P x y
  | [], _ => ⟨[], rfl, rfl, fun i x y h => by simp at h⟩
  | x :: r, h => by
    obtain ⟨ρ1, y, h1, h2, hp⟩ := h x List.mem_cons_self
    obtain ⟨ys, e1, l1, q⟩ := comp_all P r fun z hz => h z (List.mem_cons_of_mem _ hz)
    refine ⟨y :: ys, ?_, congrArg (· + 1) l1, fun i a b ha hb => ?_⟩
    · rw [compGo_cons, h1, ok_bind]
      unfold yes at e1 ⊢
      rw [ok_bind, if_pos rfl, h2, ok_bind, e1]
      rfl
    · cases i with
      | zero => simp at ha hb; subst ha hb; exact hp
      | succ i => exact q i a b (by simpa using ha) (by simpa using hb)
end Dl

namespace Dl
open PySem
noncomputable def Tl {α : Type} (r : Res α) (Φ : α → Prop) : Prop := ∃ a, r = .ok a ∧ Φ a
section
variable {α β : Type} {Φ : α → Prop} {ρ : Ev} {a b d : ME} {s t : MB} {i j : Nat}
theorem tl_of {r : Res α} {x : α} (e : r = .ok x) (h : Φ x) : Tl r Φ := ⟨x, e, h⟩
theorem tl_ok {x : α} (h : Φ x) : Tl (.ok x) Φ := ⟨x, rfl, h⟩
theorem tl_bind {r : Res β} {f : β → Res α} (h : Tl r fun x => Tl (f x) Φ) : Tl (r.bind f) Φ := by
  obtain ⟨x, rfl, y, e, q⟩ := h
  exact ⟨y, e, q⟩
theorem Tl.mono {r : Res α} {Ψ : α → Prop} (h : Tl r Ψ) (k : ∀ x, Ψ x → Φ x) : Tl r Φ := by
  obtain ⟨x, e, q⟩ := h
  exact ⟨x, e, k x q⟩
theorem Tl.eq {r : Res α} {x : α} (h : Tl r (· = x)) : r = .ok x := by
  obtain ⟨y, e, rfl⟩ := h
  exact e
theorem w_iteT {c : Bool} {A B : Res α} (hc : c = true) (h : Tl A Φ) : Tl (if c = true then A else B) Φ := by rw [if_pos hc]; exact h
theorem w_iteF {c : Bool} {A B : Res α} (hc : c = false) (h : Tl B Φ) : Tl (if c = true then A else B) Φ := by rw [if_neg (by rw [hc]; exact Bool.false_ne_true)]; exact h
theorem w_dT {P : Prop} [Decidable P] {A B : Res α} (hc : P) (h : Tl A Φ) : Tl (if decide P = true then A else B) Φ := w_iteT (decide_eq_true hc) h
theorem w_dF {P : Prop} [Decidable P] {A B : Res α} (hc : ¬ P) (h : Tl B Φ) : Tl (if decide P = true then A else B) Φ := w_iteF (decide_eq_false hc) h
theorem w_nT {P : Prop} [Decidable P] {A B : Res α} (hc : ¬ P) (h : Tl A Φ) : Tl (if (!decide P) = true then A else B) Φ := w_iteT (by rw [decide_eq_false hc]; rfl) h
theorem w_nF {P : Prop} [Decidable P] {A B : Res α} (hc : P) (h : Tl B Φ) : Tl (if (!decide P) = true then A else B) Φ := w_iteF (by rw [decide_eq_true hc]; rfl) h
theorem w_dec {P : Prop} [Decidable P] {A B : Res α} (h1 : P → Tl A Φ) (h2 : ¬ P → Tl B Φ) : Tl (if decide P = true then A else B) Φ := by
  by_cases h : P
  · exact w_dT h (h1 h)
  · exact w_dF h (h2 h)
theorem w_ndec {P : Prop} [Decidable P] {A B : Res α} (h1 : ¬ P → Tl A Φ) (h2 : P → Tl B Φ) : Tl (if (!decide P) = true then A else B) Φ := by
  by_cases h : P
  · exact w_nF h (h2 h)
  · exact w_nT h (h1 h)
theorem w_bool {c : Bool} {A B : Res α} (h1 : c = true → Tl A Φ) (h2 : c = false → Tl B Φ) : Tl (if c = true then A else B) Φ := by
  cases c with
  | true => exact w_iteT rfl (h1 rfl)
  | false => exact w_iteF rfl (h2 rfl)
end
section
variable {Φ : D → Prop} {ρ : Ev} {a b d : ME} {s t : MB} {i j n : Nat} {m : MA}
theorem w_v' (h : Tl (getC ρ[i]?) Φ) : Tl (v i ρ) Φ := h
theorem w_gC {o : Option Cl} {x : D} (e : o = some (.im x)) (h : Φ x) : Tl (getC o) Φ := tl_of (by rw [e]; rfl) h
theorem w_c {x : D} (h : Φ x) : Tl (c x ρ) Φ := tl_ok h
theorem w_o1 {f : D → Res D} (h : Tl (a ρ) fun x => Tl (f x) Φ) : Tl (o1 f a ρ) Φ := tl_bind h
theorem w_o2 {f : D → D → Res D} (h : Tl (a ρ) fun x => Tl (b ρ) fun y => Tl (f x y) Φ) : Tl (o2 f a b ρ) Φ := tl_bind (h.mono fun _ q => tl_bind q)
theorem w_on {f : List D → Res D} (h : Tl (m ρ) fun xs => Tl (f xs) Φ) : Tl (on f m ρ) Φ := tl_bind h
theorem w_mtp (h : Tl (m ρ) fun xs => Φ (.tup xs)) : Tl (mtp m ρ) Φ := tl_bind (h.mono fun _ q => tl_ok q)
theorem w_mls (h : Tl (m ρ) fun xs => Φ (.lst xs)) : Tl (mls m ρ) Φ := tl_bind (h.mono fun _ q => tl_ok q)
theorem w_eAnd (h : Tl (trb a ρ) fun x => Tl (if x = true then b ρ else .ok (.bl false)) Φ) : Tl (eAnd a b ρ) Φ := tl_bind h
theorem w_eOr (h : Tl (trb a ρ) fun x => Tl (if x = true then .ok (.bl true) else b ρ) Φ) : Tl (eOr a b ρ) Φ := tl_bind h
theorem w_eNot (h : Tl (trb a ρ) fun x => Φ (.bl (!x))) : Tl (eNot a ρ) Φ := tl_bind (h.mono fun _ q => tl_ok q)
theorem w_ife (h : Tl (t ρ) fun x => Tl (if x = true then a ρ else b ρ) Φ) : Tl (ife t a b ρ) Φ := tl_bind h
theorem w_chain {f g : D → D → Res D} (h : Tl (a ρ) fun x => Tl (b ρ) fun y => Tl (f x y) fun z => Tl (tru z) fun k => Tl (if k = true then (d ρ).bind fun u => g y u else .ok (.bl false)) Φ) : Tl (chain f g a b d ρ) Φ :=
  tl_bind (h.mono fun _ q => tl_bind (q.mono fun _ q => tl_bind (q.mono fun _ q => tl_bind q)))
theorem w_cut {lo hi : Ev → Res (Option Int)} (h : Tl (a ρ) fun x => Tl (lo ρ) fun l => Tl (hi ρ) fun u => Tl (dCut x l u) Φ) : Tl (cut a lo hi ρ) Φ := tl_bind (h.mono fun _ q => tl_bind (q.mono fun _ q => tl_bind q))
theorem w_comp {it : MI} {own : Nat} {cap : List Nat} {g : MG} {e : ME} (h : Tl (it ρ) fun xs => xs.length ≤ 1000000 ∧ Tl (compGo g t e (noA own (capD ρ cap)) xs) fun ys => Φ (.lst ys)) : Tl (comp it own cap g t e ρ) Φ := by
  refine tl_bind (h.mono fun xs q => ?_)
  rw [if_pos (show xs.length ≤ LIM from q.1)]
  obtain ⟨ys, e1, q2⟩ := q.2
  rw [e1]
  exact tl_ok q2
theorem w_fn {k : MS} {ds : List D} (h : Tl (k (ev0 n ds)) fun f => Tl (endOf f) Φ) : Tl (fn n k ds) Φ := tl_bind h
theorem w_addI {x y : Int} (h : Φ (.int (x + y))) : Tl (dAdd (.int x) (.int y)) Φ := tl_ok h
theorem w_sub {x y : Int} (h : Φ (.int (x - y))) : Tl (dSub (.int x) (.int y)) Φ := tl_ok h
theorem w_mul {x y : Int} (hm : mulOk x y = true) (h : Φ (.int (x * y))) : Tl (dMul (.int x) (.int y)) Φ := tl_of (iMul_ok hm) h
theorem w_mod {x y : Int} (hy : 0 < y) (h : Φ (.int (x % y))) : Tl (dMod (.int x) (.int y)) Φ := tl_of (iMod_pos hy) h
theorem w_div {x y : Int} (hy : 0 < y) (hl : y.natAbs.log2 < 9000) (h : Φ (.int (x / y))) : Tl (dDiv (.int x) (.int y)) Φ := tl_of (iDiv_pos hy hl) h
theorem w_pow {x y : Int} (h0 : 0 ≤ y) (h1 : y ≤ 1000000) (h2 : x.natAbs < 2 ^ 64) (h : Φ (.int (x ^ y.toNat))) : Tl (dPow (.int x) (.int y)) Φ := tl_of (iPow_ok h0 h1 h2) h
theorem w_shl {x y : Int} (h0 : 0 ≤ y) (h1 : y ≤ 1000000) (h2 : x.natAbs < 2 ^ 64) (h : Φ (.int (x * 2 ^ y.toNat))) : Tl (dShl (.int x) (.int y)) Φ := tl_of (iShl_ok h0 h1 h2) h
theorem w_shr {x y : Int} (h0 : 0 ≤ y) (h : Φ (.int (x / 2 ^ y.toNat))) : Tl (dShr (.int x) (.int y)) Φ := tl_of (iShr_ok h0) h
theorem w_neg {x : Int} (h : Φ (.int (-x))) : Tl (dNeg (.int x)) Φ := tl_ok h
theorem w_lt {x y : Int} (h : Φ (.bl (decide (x < y)))) : Tl (dLt (.int x) (.int y)) Φ := tl_ok h
theorem w_le {x y : Int} (h : Φ (.bl (decide (x ≤ y)))) : Tl (dLe (.int x) (.int y)) Φ := tl_ok h
theorem w_gt {x y : Int} (h : Φ (.bl (decide (y < x)))) : Tl (dGt (.int x) (.int y)) Φ := tl_ok h
theorem w_ge {x y : Int} (h : Φ (.bl (decide (y ≤ x)))) : Tl (dGe (.int x) (.int y)) Φ := tl_ok h
theorem w_eqI {x y : Int} (h : Φ (.bl (decide (x = y)))) : Tl (dEq (.int x) (.int y)) Φ := tl_of (dEq_int x y) h
theorem w_neI {x y : Int} (h : Φ (.bl (!decide (x = y)))) : Tl (dNe (.int x) (.int y)) Φ := tl_of (dNe_int x y) h
theorem w_isN {x : D} (h : Φ (.bl (isNon x))) : Tl (dIsN x) Φ := tl_ok h
theorem w_notN {x : D} (h : Φ (.bl (!isNon x))) : Tl (dNotN x) Φ := tl_ok h
theorem w_lenL {xs : List D} (h : Φ (.int xs.length)) : Tl (bLen [.lst xs]) Φ := tl_ok h
theorem w_lenT {xs : List D} (h : Φ (.int xs.length)) : Tl (bLen [.tup xs]) Φ := tl_ok h
theorem w_lenMT {ns : List Int} (h : Φ (.int ns.length)) : Tl (bLen [.tup (ns.map .int)]) Φ := tl_of (by rw [bLen_tup, List.length_map]) h
theorem w_lenML {ns : List Int} (h : Φ (.int ns.length)) : Tl (bLen [.lst (ns.map .int)]) Φ := tl_of (by rw [bLen_lst, List.length_map]) h
theorem w_abs {x : Int} (h : Φ (.int x.natAbs)) : Tl (bAbs [.int x]) Φ := tl_of (bAbs_int x) h
theorem w_max {x y : Int} (h : Φ (.int (max x y))) : Tl (bMax [.int x, .int y]) Φ := tl_of (bMax_int x y) h
theorem w_min {x y : Int} (h : Φ (.int (min x y))) : Tl (bMin [.int x, .int y]) Φ := tl_of (bMin_int x y) h
theorem w_tupL {xs : List D} (h : Φ (.tup xs)) : Tl (bTup [.lst xs]) Φ := tl_ok h
theorem w_tupT {xs : List D} (h : Φ (.tup xs)) : Tl (bTup [.tup xs]) Φ := tl_ok h
theorem w_lstL {xs : List D} (h : Φ (.lst xs)) : Tl (bLst [.lst xs]) Φ := tl_ok h
theorem w_lstT {xs : List D} (h : Φ (.lst xs)) : Tl (bLst [.tup xs]) Φ := tl_ok h
theorem w_cutL {xs : List D} {lo hi : Option Int} (h : Φ (.lst (cutL xs lo hi))) : Tl (dCut (.lst xs) lo hi) Φ := tl_ok h
theorem w_cutT {xs : List D} {lo hi : Option Int} (h : Φ (.tup (cutL xs lo hi))) : Tl (dCut (.tup xs) lo hi) Φ := tl_ok h
end
section
variable {Φ : Bool → Prop} {ρ : Ev} {a : ME} {s t : MB}
theorem w_trb (h : Tl (a ρ) fun x => Tl (tru x) Φ) : Tl (trb a ρ) Φ := tl_bind h
theorem w_tru {b : Bool} (h : Φ b) : Tl (tru (.bl b)) Φ := tl_ok h
theorem w_bAnd (h : Tl (s ρ) fun x => Tl (if x = true then t ρ else .ok false) Φ) : Tl (bAnd s t ρ) Φ := tl_bind h
theorem w_bOr (h : Tl (s ρ) fun x => Tl (if x = true then .ok true else t ρ) Φ) : Tl (bOr s t ρ) Φ := tl_bind h
theorem w_bNot (h : Tl (s ρ) fun x => Φ (!x)) : Tl (bNot s ρ) Φ := tl_bind (h.mono fun _ q => tl_ok q)
theorem w_yes (h : Φ true) : Tl (yes ρ) Φ := tl_ok h
end
section
variable {Φ : List D → Prop} {ρ : Ev} {a : ME} {m : MA}
theorem w_anil (h : Φ []) : Tl (anil ρ) Φ := tl_ok h
theorem w_acons (h : Tl (a ρ) fun x => Tl (m ρ) fun xs => Φ (x :: xs)) : Tl (acons a m ρ) Φ := tl_bind (h.mono fun _ q => tl_bind (q.mono fun _ q => tl_ok q))
theorem w_iv (h : Tl (a ρ) fun x => Tl (items x) Φ) : Tl (iv a ρ) Φ := tl_bind h
theorem w_itL {xs : List D} (h : Φ xs) : Tl (items (.lst xs)) Φ := tl_ok h
theorem w_itT {xs : List D} (h : Φ xs) : Tl (items (.tup xs)) Φ := tl_ok h
theorem w_r1 (h : Tl (m ρ) fun xs => Tl (rng1 xs) Φ) : Tl (r1 m ρ) Φ := tl_bind h
theorem w_rng1 {j : Int} (h0 : -1000000000 ≤ j ∧ j ≤ 1000000000) (h : Φ (rangeD 0 j.toNat)) : Tl (rng1 [.int j]) Φ := tl_of (rng1_ok h0.1 h0.2) h
theorem w_zip (h : Tl (m ρ) fun xs => Tl (zip2 xs) Φ) : Tl (iZip m ρ) Φ := tl_bind h
theorem w_zip2 {xs ys : List D} (h : Φ (pairs xs ys)) : Tl (zip2 [.lst xs, .lst ys]) Φ := tl_ok h
theorem w_zipTL {xs ys : List D} (h : Φ (pairs xs ys)) : Tl (zip2 [.tup xs, .lst ys]) Φ := tl_ok h
theorem w_zipLT {xs ys : List D} (h : Φ (pairs xs ys)) : Tl (zip2 [.lst xs, .tup ys]) Φ := tl_ok h
theorem w_zipTT {xs ys : List D} (h : Φ (pairs xs ys)) : Tl (zip2 [.tup xs, .tup ys]) Φ := tl_ok h
theorem w_enum (h : Tl (m ρ) fun xs => Tl (enum1 xs) Φ) : Tl (iEnumerate m ρ) Φ := tl_bind h
theorem w_enum1 {xs : List D} (h : Φ (numbered 0 xs)) : Tl (enum1 [.lst xs]) Φ := tl_ok h
theorem w_cg0 {g : MG} {t : MB} {e : ME} (h : Φ []) : Tl (compGo g t e ρ []) Φ := tl_ok h
theorem w_cg1 {g : MG} {t : MB} {e : ME} {x : D} {r : List D} (h : Tl (g x ρ) fun ρ1 => Tl (t ρ1) fun b => Tl (if b = true then (e ρ1).bind fun y => (compGo g t e ρ r).bind fun ys => .ok (y :: ys) else compGo g t e ρ r) Φ) : Tl (compGo g t e ρ (x :: r)) Φ :=
  tl_bind (h.mono fun _ q => tl_bind q)
end
section
variable {Φ : Option Int → Prop} {ρ : Ev} {a : ME}
theorem w_pno (h : Φ none) : Tl (pno ρ) Φ := tl_ok h
theorem w_pso (h : Tl (a ρ) fun x => Tl (optI x) Φ) : Tl (pso a ρ) Φ := tl_bind h
theorem w_optI {i : Int} (h : Φ (some i)) : Tl (optI (.int i)) Φ := tl_ok h
end
section
variable {Φ : Ev → Prop} {ρ : Ev} {i n : Nat} {x : D}
theorem w_gN (h : Φ (ρ.set i (.im x))) : Tl (gN i x ρ) Φ := tl_ok h
theorem w_gs0 (h : Φ ρ) : Tl (gs0 [] ρ) Φ := tl_ok h
theorem w_gs1 {g : MG} {r : MGs} {ds : List D} (h : Tl (g x ρ) fun ρ' => Tl (r ds ρ') Φ) : Tl (gs1 g r (x :: ds) ρ) Φ := tl_bind h
theorem w_gUL {g : MGs} {xs : List D} (hl : xs.length = n) (h : Tl (g xs ρ) Φ) : Tl (gU n g (.lst xs) ρ) Φ := by
  show Tl (if xs.length = n then g xs ρ else .bad) Φ
  rw [if_pos hl]; exact h
theorem w_gUT {g : MGs} {xs : List D} (hl : xs.length = n) (h : Tl (g xs ρ) Φ) : Tl (gU n g (.tup xs) ρ) Φ := by
  show Tl (if xs.length = n then g xs ρ else .bad) Φ
  rw [if_pos hl]; exact h
end
section
variable {Φ : Fl → Prop} {ρ : Ev} {a b : ME} {k l : MS} {t : MB} {i j : Nat}
theorem w_sq (h : Tl (k ρ) fun f => Tl (goOn l f) Φ) : Tl (sq k l ρ) Φ := tl_bind h
theorem w_gx (h : Tl (l ρ) Φ) : Tl (goOn l (.nx ρ)) Φ := h
theorem w_gr {x : D} (h : Φ (.rt x)) : Tl (goOn l (.rt x)) Φ := tl_ok h
theorem w_gb (h : Φ (.bk ρ)) : Tl (goOn l (.bk ρ)) Φ := tl_ok h
theorem w_gc (h : Φ (.ct ρ)) : Tl (goOn l (.ct ρ)) Φ := tl_ok h
theorem w_st (h : Tl (a ρ) fun x => Φ (.nx (ρ.set i (.im x)))) : Tl (st i a ρ) Φ := tl_bind (h.mono fun _ q => tl_ok q)
theorem w_ret (h : Tl (a ρ) fun x => Φ (.rt x)) : Tl (ret a ρ) Φ := tl_bind (h.mono fun _ q => tl_ok q)
theorem w_retN (h : Φ (.rt .non)) : Tl (retN ρ) Φ := tl_ok h
theorem w_nop (h : Φ (.nx ρ)) : Tl (nop ρ) Φ := tl_ok h
theorem w_brk (h : Φ (.bk ρ)) : Tl (brk ρ) Φ := tl_ok h
theorem w_cnt (h : Φ (.ct ρ)) : Tl (cnt ρ) Φ := tl_ok h
theorem w_drp (h : Tl (a ρ) fun _ => Φ (.nx ρ)) : Tl (drp a ρ) Φ := tl_bind (h.mono fun _ q => tl_ok q)
theorem w_asg {g : MG} (h : Tl (a ρ) fun x => Tl (g x ρ) fun ρ' => Φ (.nx ρ')) : Tl (asg g a ρ) Φ := tl_bind (h.mono fun _ q => tl_bind (q.mono fun _ q => tl_ok q))
theorem w_par (h : Tl (a ρ) fun x => Tl (b ρ) fun y => Φ (.nx ((ρ.set i (.im x)).set j (.im y)))) : Tl (par i j a b ρ) Φ := tl_bind (h.mono fun _ q => tl_bind (q.mono fun _ q => tl_ok q))
theorem w_ifs (h : Tl (t ρ) fun x => Tl (if x = true then k ρ else l ρ) Φ) : Tl (ifs t k l ρ) Φ := tl_bind h
theorem w_for {it : MI} {g : MG} (h : Tl (it ρ) fun xs => Tl (forGo g k xs ρ) Φ) : Tl (for_ it g k ρ) Φ := tl_bind h
theorem w_whl {fu : Ev → Nat} (h : Tl (whGo t k (fu ρ) ρ) Φ) : Tl (whl fu t k ρ) Φ := h
theorem w_stO (h : Tl (a ρ) fun x => Tl (lstO x) fun xs => Φ (.nx (ρ.set i (.ow xs)))) : Tl (stO i a ρ) Φ := tl_bind (h.mono fun _ q => tl_bind (q.mono fun _ q => tl_ok q))
theorem w_lstO {Ψ : List D → Prop} {xs : List D} (h : Ψ xs) : Tl (lstO (.lst xs)) Ψ := tl_ok h
theorem w_frz' (h : Tl (getO ρ[i]?) fun xs => Tl (k (ρ.set i (.im (.lst xs)))) Φ) : Tl (frz i k ρ) Φ := tl_bind h
theorem w_app' (h : Tl (getO ρ[i]?) fun xs => Tl (a ρ) fun d => xs.length < 1000000 ∧ Φ (.nx (ρ.set i (.ow (xs ++ [d]))))) : Tl (app i a ρ) Φ := by
  refine tl_bind (h.mono fun xs q => tl_bind (q.mono fun d q => ?_))
  rw [if_pos (show xs.length < LIM from q.1)]
  exact tl_ok q.2
theorem w_gO {Ψ : List D → Prop} {o : Option Cl} {xs : List D} (e : o = some (.ow xs)) (h : Ψ xs) : Tl (getO o) Ψ := tl_of (by rw [e]; rfl) h
theorem w_eR {Ψ : D → Prop} {x : D} (h : Ψ x) : Tl (endOf (.rt x)) Ψ := tl_ok h
theorem w_eN {Ψ : D → Prop} (h : Ψ .non) : Tl (endOf (.nx ρ)) Ψ := tl_ok h
theorem w_tx (h : Tl (k ρ) Φ) : Tl (turn k (.nx ρ)) Φ := h
theorem w_tc (h : Tl (k ρ) Φ) : Tl (turn k (.ct ρ)) Φ := h
theorem w_tb (h : Φ (.nx ρ)) : Tl (turn k (.bk ρ)) Φ := tl_ok h
theorem w_tr {x : D} (h : Φ (.rt x)) : Tl (turn k (.rt x)) Φ := tl_ok h
theorem w_f0 {g : MG} (h : Φ (.nx ρ)) : Tl (forGo g k [] ρ) Φ := tl_ok h
theorem w_f1 {g : MG} {x : D} {r : List D} (h : Tl (g x ρ) fun ρ1 => Tl (k ρ1) fun f => Tl (turn (forGo g k r) f) Φ) : Tl (forGo g k (x :: r) ρ) Φ := tl_bind (h.mono fun _ q => tl_bind q)
theorem w_invP {g : MG} {xs : List D} (I : List D → Ev → Prop) (h0 : I [] ρ) (h : ∀ p x r, xs = p ++ x :: r → ∀ ρ, I p ρ → Tl (g x ρ) fun ρ1 => Tl (k ρ1) fun f => ∃ ρ2, f = .nx ρ2 ∧ I (p ++ [x]) ρ2) (hd : ∀ ρ, I xs ρ → Φ (.nx ρ)) : Tl (forGo g k xs ρ) Φ := by
  obtain ⟨ρ', e, i⟩ := for_inv_pre (g := g) (b := k) I xs [] (fun p x r hx ρ i => by
    obtain ⟨ρ1, e1, f, e2, ρ2, rfl, i2⟩ := h p x r hx ρ i
    exact ⟨ρ1, ρ2, e1, e2, i2⟩) ρ h0
  exact ⟨_, e, hd ρ' i⟩
end
theorem w_mapP {α : Type} {Φ : List D → Prop} {g : MG} {e : ME} {ρ : Ev} {enc : α → D} (f : α → D) : ∀ {l : List α}, (∀ a ∈ l, Tl (g (enc a) ρ) fun ρ1 => Tl (e ρ1) fun y => y = f a) → Φ (l.map f) → Tl (compGo g yes e ρ (l.map enc)) Φ := by
  intro l h q
  have key : ∀ l : List α, (∀ a ∈ l, Tl (g (enc a) ρ) fun ρ1 => Tl (e ρ1) fun y => y = f a) → compGo g yes e ρ (l.map enc) = .ok (l.map f) := by
    intro l
    induction l with
    | nil => exact fun _ => rfl
    | cons a r ih =>
      intro h
      obtain ⟨ρ1, e1, y, e2, rfl⟩ := h a List.mem_cons_self
      have z := ih fun b hb => h b (List.mem_cons_of_mem _ hb)
      rw [List.map_cons, compGo_cons, e1, ok_bind]
      unfold yes at z ⊢
      rw [ok_bind, if_pos rfl, e2, ok_bind, z]
      rfl
  exact tl_of (key l h) q
theorem w_all {Φ : List D → Prop} {g : MG} {e : ME} {ρ : Ev} {xs : List D} (P : D → D → Prop) (h : ∀ x ∈ xs, Tl (g x ρ) fun ρ1 => Tl (e ρ1) fun y => P x y) (q : ∀ ys : List D, ys.length = xs.length → (∀ (i : Nat) x y, xs[i]? = some x → ys[i]? = some y → P x y) → Φ ys) : Tl (compGo g yes e ρ xs) Φ := by
  obtain ⟨ys, e1, l, hp⟩ := comp_all (g := g) (e := e) (ρ := ρ) P xs fun x hx => by
    obtain ⟨ρ1, e1, y, e2, hp⟩ := h x hx
    exact ⟨ρ1, y, e1, e2, hp⟩
  exact ⟨ys, e1, q ys l hp⟩
end Dl
namespace Dl
open PySem
section
variable {Φ : D → Prop}
theorem w_ixr {x y : D} (h : Tl (dIx x y) Φ) : Tl (dIx x y) Φ := h
theorem w_lenr {xs : List D} (h : Tl (bLen xs) Φ) : Tl (bLen xs) Φ := h
theorem w_isi {xs : List D} (h : Tl (bIsi xs) Φ) : Tl (bIsi xs) Φ := h
theorem at_nat {α : Type} {xs : List α} {i : Nat} : at_ xs (i : Int) = xs[i]? := by
  unfold at_
  rw [if_pos (Int.natCast_nonneg i), Int.toNat_natCast]
theorem w_ixL {xs : List D} {i : Int} (h : 0 ≤ i ∧ i < xs.length) (q : ∀ x ∈ xs, Φ x) : Tl (dIx (.lst xs) (.int i)) Φ := by
  obtain ⟨n, rfl⟩ := Int.eq_ofNat_of_zero_le h.1
  have hn : n < xs.length := by omega
  rw [dIx_lst, at_nat, List.getElem?_eq_getElem hn]
  exact tl_ok (q _ (List.getElem_mem hn))
theorem w_ixI {ns : List Int} {i : Int} (h : -(ns.length : Int) ≤ i ∧ i < ns.length) (q : ∀ n ∈ ns, Φ (.int n)) : Tl (dIx (.lst (ns.map .int)) (.int i)) Φ := by
  rw [dIx_lst]
  unfold at_
  rw [List.length_map]
  by_cases h0 : 0 ≤ i
  · have hn : i.toNat < ns.length := by omega
    rw [if_pos h0, List.getElem?_map, List.getElem?_eq_getElem hn]
    exact tl_ok (q _ (List.getElem_mem hn))
  · have hn : (i + ns.length).toNat < ns.length := by omega
    rw [if_neg h0, if_pos h.1, List.getElem?_map, List.getElem?_eq_getElem hn]
    exact tl_ok (q _ (List.getElem_mem hn))
end
theorem mem_range {n : Nat} {x : D} (h : x ∈ rangeD 0 n) : ∃ k : Nat, k < n ∧ x = .int (k : Int) := by
  unfold rangeD at h
  obtain ⟨k, hk, rfl⟩ := List.mem_map.mp h
  exact ⟨k, List.mem_range.mp hk, by rw [Int.zero_add]⟩
end Dl
namespace Dl
open PySem
section
variable {α β : Type} {c : Str} {ρ : Ev} {i n : Nat} {k l : MS} {m : MA}
theorem x_bind {r : Res β} {f : β → Res α} (h : Tl r fun x => f x = .ex c) : r.bind f = .ex c := by
  obtain ⟨x, rfl, e⟩ := h
  exact e
theorem x_bind1 {r : Res β} {f : β → Res α} (h : r = .ex c) : r.bind f = .ex c := by rw [h]; rfl
theorem x_fn {ds : List D} (h : k (ev0 n ds) = .ex c) : fn n k ds = .ex c := x_bind1 h
theorem x_sq1 (h : k ρ = .ex c) : sq k l ρ = .ex c := x_bind1 h
theorem x_sq2 (h : Tl (k ρ) fun f => goOn l f = .ex c) : sq k l ρ = .ex c := x_bind h
theorem x_ifs {t : MB} (h : Tl (t ρ) fun x => (if x = true then k ρ else l ρ) = .ex c) : ifs t k l ρ = .ex c := x_bind h
theorem x_rse (h : Tl (m ρ) fun _ => True) : rse c m ρ = .ex c := x_bind (h.mono fun _ _ => rfl)
theorem x_T {P : Prop} [Decidable P] {A B : Res α} (hc : P) (h : A = .ex c) : (if decide P = true then A else B) = .ex c := by rw [if_pos (decide_eq_true hc)]; exact h
theorem x_for {it : MI} {g : MG} (h : Tl (it ρ) fun xs => forGo g k xs ρ = .ex c) : for_ it g k ρ = .ex c := x_bind h
theorem x_f1 {g : MG} {x : D} {r : List D} (h : Tl (g x ρ) fun ρ1 => k ρ1 = .ex c) : forGo g k (x :: r) ρ = .ex c := x_bind (h.mono fun _ q => x_bind1 q)
theorem x_f2 {g : MG} {x : D} {r : List D} (h : Tl (g x ρ) fun ρ1 => Tl (k ρ1) fun f => turn (forGo g k r) f = .ex c) : forGo g k (x :: r) ρ = .ex c := x_bind (h.mono fun _ q => x_bind q)
theorem x_tx (h : k ρ = .ex c) : turn k (.nx ρ) = .ex c := h
theorem w_endT {Φ : Fl → Prop} (h : Φ (.nx (ρ.set i .no))) : Tl (endT i (.ok (.nx ρ))) Φ := tl_ok h
end
theorem w_max3 {Φ : D → Prop} {i j k : Int} (h : Φ (.int (max (max i j) k))) : Tl (bMax3 [.int i, .int j, .int k]) Φ := by
  refine tl_of (x := .int (max (max i j) k)) ?_ h
  show Res.ok (D.int (if j > i then (if k > j then k else j) else (if k > i then k else i))) = _
  have e : (if j > i then (if k > j then k else j) else (if k > i then k else i)) = max (max i j) k := by omega
  rw [e]
end Dl
namespace Dl
open PySem
section
variable {Φ : D → Prop} {ρ : Ev} {i : Nat}
theorem w_pk {m : ME} (h : Tl (getO ρ[i]?) fun xs => Tl (m (ρ.set i (.im (.lst xs)))) fun d => Tl (scalD d) Φ) : Tl (pk i m ρ) Φ := tl_bind (h.mono fun _ q => tl_bind q)
theorem w_pkB {Ψ : Bool → Prop} {m : MB} (h : Tl (getO ρ[i]?) fun xs => Tl (m (ρ.set i (.im (.lst xs)))) Ψ) : Tl (pkB i m ρ) Ψ := tl_bind h
theorem w_scI {n : Int} (h : Φ (.int n)) : Tl (scalD (.int n)) Φ := tl_ok h
theorem w_scB {n : Bool} (h : Φ (.bl n)) : Tl (scalD (.bl n)) Φ := tl_ok h
theorem ints_map : ∀ ns : List Int, intsD (ns.map .int) = .ok ns
  | [] => rfl
  | n :: r => by show (intsD (r.map .int)).bind _ = _; rw [ints_map r]; rfl
theorem w_sum {ns : List Int} (h : Φ (.int ns.sum)) : Tl (bSum [.lst (ns.map .int)]) Φ := by
  refine tl_of (x := .int ns.sum) ?_ h
  show (intsD (ns.map .int)).bind _ = _
  rw [ints_map]; rfl
theorem w_rev {xs : List D} (h : Φ (.lst xs.reverse)) : Tl (dRev (.lst xs)) Φ := tl_ok h
end
section
variable {c : Str} {ρ : Ev} {m : MA}
end
end Dl
namespace Dl
section
variable {Φ : D → Prop}
theorem w_p6 (h : Φ (.int 1000000)) : Tl (dPow (.int 10) (.int 6)) Φ := tl_of rfl h
theorem w_p8 (h : Φ (.int 100000000)) : Tl (dPow (.int 10) (.int 8)) Φ := tl_of rfl h
theorem w_p20 (h : Φ (.int 100000000000000000000)) : Tl (dPow (.int 10) (.int 20)) Φ := tl_of rfl h
end
end Dl
namespace Dl
end Dl
namespace Dl
section
variable {Ψ : List D → Prop} {Φ : D → Prop} {ρ : Ev} {m : MA} {xs ys zs : List D} {a b : ME}
theorem w_iz3 (h : Tl (m ρ) fun xs => Tl (zip3 xs) Ψ) : Tl (iZip3 m ρ) Ψ := tl_bind h
theorem w_zip3T (h : Ψ (trips xs ys zs)) : Tl (zip3 [.tup xs, .tup ys, .tup zs]) Ψ := tl_ok h
theorem w_lz3T (h : Φ (.lst (trips xs ys zs))) : Tl (lz3 [.tup xs, .tup ys, .tup zs]) Φ := tl_ok h
theorem w_mLst {f : List D → D → Res D} (h : Tl (a ρ) fun x => Tl (lstO x) fun us => Tl (b ρ) fun y => Tl (f us y) Φ) : Tl (mLst f a b ρ) Φ := tl_bind (h.mono fun _ q => tl_bind (q.mono fun _ q => tl_bind q))
end
end Dl

namespace Dl
open PySem
section
variable {ρ : Ev} {i : Nat} {c : Str} {e a b' : ME} {m : MA} {n : MB} {b : MS} {hits : List Str}
end
end Dl
namespace Dl
open PySem
end Dl

namespace Mt
structure Fr (t b p q : Int) : Prop where
  pos : 1 ≤ q
  low : Int.gcd p q = 1
  same : p * b = t * q
  np : p.natAbs ≤ t.natAbs
  nq : q.natAbs ≤ b.natAbs
end Mt

local macro_rules | `(tactic| walk_at "sm") => `(tactic| first | assumption | exact Dl.Sm.of64 (by omega) (by omega) | exact Dl.Sm.mul (by walk_at "sm") (by walk_at "sm") | exact Dl.Sm.add (by walk_at "sm") (by walk_at "sm") | exact Dl.Sm.sub (by walk_at "sm") (by walk_at "sm") | exact Dl.Sm.neg (by walk_at "sm") | exact Dl.Sm.min (by walk_at "sm") (by walk_at "sm") | exact Dl.Sm.max (by walk_at "sm") (by walk_at "sm"))
local macro_rules | `(tactic| walk_at "mo") => `(tactic| first | assumption | exact Dl.mulOk_l (Dl.Sm.of64 (by omega) (by omega)) | exact Dl.mulOk_r (Dl.Sm.of64 (by omega) (by omega)) | exact Dl.mulOk_s (by walk_at "sm") (by walk_at "sm") (by decide))
local macro_rules | `(tactic| walk_at "lg") => `(tactic| first | assumption | decide | exact Dl.Sm.log (by walk_at "sm") (by decide))
local macro_rules | `(tactic| walk_at "w1") => `(tactic| first
  | ((with_reducible refine Dl.w_v' ?_); refine Dl.w_gC rfl ?_) | with_reducible refine Dl.w_o2 ?_ | with_reducible refine Dl.w_c ?_ | with_reducible refine Dl.w_on ?_ | with_reducible refine Dl.w_acons ?_ | with_reducible refine Dl.w_anil ?_ | with_reducible refine Dl.w_sq ?_ | with_reducible refine Dl.w_gx ?_ | with_reducible refine Dl.w_st ?_ | with_reducible refine Dl.w_ifs ?_ | with_reducible refine Dl.w_trb ?_ | with_reducible refine Dl.w_tru ?_
  | with_reducible refine Dl.w_addI ?_ | with_reducible refine Dl.w_sub ?_ | ((with_reducible refine Dl.w_mul ?_ ?_); walk_at "mo") | ((with_reducible refine Dl.w_mod ?_ ?_); (first | decide | omega)) | ((with_reducible refine Dl.w_div ?_ ?_ ?_); (first | decide | omega); walk_at "lg")
  | with_reducible refine Dl.w_lt ?_ | with_reducible refine Dl.w_le ?_ | with_reducible refine Dl.w_gt ?_ | with_reducible refine Dl.w_ge ?_ | with_reducible refine Dl.w_eqI ?_ | with_reducible refine Dl.w_neI ?_ | with_reducible refine Dl.w_bAnd ?_ | with_reducible refine Dl.w_bOr ?_ | with_reducible refine Dl.w_bNot ?_
  | with_reducible refine Dl.w_ret ?_ | with_reducible refine Dl.w_gr ?_ | with_reducible refine Dl.w_eR ?_ | with_reducible refine Dl.w_nop ?_ | with_reducible refine Dl.w_mtp ?_ | with_reducible refine Dl.w_mls ?_ | with_reducible refine Dl.w_fn ?_ | with_reducible refine Dl.w_o1 ?_ | with_reducible refine Dl.w_eAnd ?_ | with_reducible refine Dl.w_eOr ?_ | with_reducible refine Dl.w_eNot ?_ | with_reducible refine Dl.w_ife ?_ | with_reducible refine Dl.w_chain ?_
  | with_reducible refine Dl.w_lenMT ?_ | with_reducible refine Dl.w_lenML ?_ | with_reducible refine Dl.w_lenL ?_ | with_reducible refine Dl.w_lenT ?_ | with_reducible refine Dl.w_abs ?_ | with_reducible refine Dl.w_max ?_ | with_reducible refine Dl.w_min ?_ | with_reducible refine Dl.w_tupL ?_ | with_reducible refine Dl.w_tupT ?_ | with_reducible refine Dl.w_lstL ?_ | with_reducible refine Dl.w_lstT ?_ | with_reducible refine Dl.w_neg ?_
  | with_reducible refine Dl.w_cut ?_ | with_reducible refine Dl.w_pno ?_ | with_reducible refine Dl.w_pso ?_ | with_reducible refine Dl.w_optI ?_ | with_reducible refine Dl.w_cutL ?_ | with_reducible refine Dl.w_cutT ?_ | with_reducible refine Dl.w_iv ?_ | with_reducible refine Dl.w_itL ?_ | with_reducible refine Dl.w_itT ?_ | with_reducible refine Dl.w_r1 ?_ | ((with_reducible refine Dl.w_rng1 ?_ ?_); omega) | with_reducible refine Dl.w_gN ?_ | with_reducible refine Dl.w_gs0 ?_ | with_reducible refine Dl.w_gs1 ?_
  | ((with_reducible refine Dl.w_gUT ?_ ?_); exact rfl) | ((with_reducible refine Dl.w_gUL ?_ ?_); exact rfl) | with_reducible refine Dl.w_drp ?_ | with_reducible refine Dl.w_asg ?_ | with_reducible refine Dl.w_par ?_ | with_reducible refine Dl.w_for ?_ | with_reducible refine Dl.w_whl ?_ | with_reducible refine Dl.w_zip ?_ | with_reducible refine Dl.w_zip2 ?_ | with_reducible refine Dl.w_zipTL ?_ | with_reducible refine Dl.w_zipLT ?_ | with_reducible refine Dl.w_zipTT ?_ | with_reducible refine Dl.w_iz3 ?_ | with_reducible refine Dl.w_zip3T ?_ | with_reducible refine Dl.w_lz3T ?_ | with_reducible refine Dl.w_mLst ?_ | with_reducible refine Dl.w_enum ?_ | with_reducible refine Dl.w_enum1 ?_ | with_reducible refine Dl.w_comp ?_
  | with_reducible refine Dl.w_retN ?_ | with_reducible refine Dl.w_eN ?_ | with_reducible refine Dl.w_brk ?_ | with_reducible refine Dl.w_cnt ?_ | with_reducible refine Dl.w_gb ?_ | with_reducible refine Dl.w_gc ?_ | with_reducible refine Dl.w_isN ?_ | with_reducible refine Dl.w_notN ?_ | with_reducible refine Dl.w_p6 ?_ | with_reducible refine Dl.w_p8 ?_ | with_reducible refine Dl.w_p20 ?_ | ((with_reducible refine Dl.w_pow ?_ ?_ ?_ ?_); decide; decide; decide) | ((with_reducible refine Dl.w_shl ?_ ?_ ?_ ?_); decide; decide; decide) | ((with_reducible refine Dl.w_shr ?_ ?_); omega) | with_reducible refine Dl.w_yes ?_
  | with_reducible refine Dl.w_tx ?_ | with_reducible refine Dl.w_tc ?_ | with_reducible refine Dl.w_tb ?_ | with_reducible refine Dl.w_tr ?_ | with_reducible refine Dl.w_max3 ?_ | with_reducible refine Dl.w_sum ?_ | with_reducible refine Dl.w_rev ?_ | ((with_reducible refine Dl.w_pkB ?_); refine Dl.w_gO rfl ?_) | ((with_reducible refine Dl.w_pk ?_); refine Dl.w_gO rfl ?_) | with_reducible refine Dl.w_scI ?_ | with_reducible refine Dl.w_scB ?_ | with_reducible refine Dl.w_endT ?_ | with_reducible refine Dl.w_stO ?_ | with_reducible refine Dl.w_lstO ?_ | ((with_reducible refine Dl.w_frz' ?_); refine Dl.w_gO rfl ?_) | ((with_reducible refine Dl.w_app' ?_); refine Dl.w_gO rfl ?_) | ((with_reducible refine Dl.w_ixr ?_); refine Dl.tl_of rfl ?_) | ((with_reducible refine Dl.w_isi ?_); refine Dl.tl_of rfl ?_) | ((with_reducible refine Dl.w_lenr ?_); refine Dl.tl_of rfl ?_) | with_reducible refine Dl.tl_ok ?_ | with_reducible refine Dl.tl_bind ?_)
local macro_rules | `(tactic| walk_at "wi") => `(tactic| first | ((with_reducible refine Dl.w_iteT ?_ ?_); exact rfl) | ((with_reducible refine Dl.w_iteF ?_ ?_); exact rfl) | ((with_reducible refine Dl.w_dT ?_ ?_); first | assumption | omega) | ((with_reducible refine Dl.w_dF ?_ ?_); first | assumption | omega) | ((with_reducible refine Dl.w_nT ?_ ?_); first | assumption | omega) | ((with_reducible refine Dl.w_nF ?_ ?_); first | assumption | omega))
local macro_rules | `(tactic| walk_at "wr") => `(tactic| (refine Dl.tl_of rfl ?_))
local macro_rules | `(tactic| walk_at "w") => `(tactic| (repeat (first | walk_at "w1" | walk_at "wi")); try dsimp only [List.set_cons_zero, List.set_cons_succ, Dl.ev0, Dl.evF, Dl.noA, Dl.capD, Dl.imOf, List.getElem?_cons_zero, List.getElem?_cons_succ, Nat.reduceAdd, Nat.reduceSub])

namespace My
open PySem Dl
noncomputable def m__law_cell_at : List D → Res D := fn 2
    (sq (ifs (trb (o2 dLt (v 1) (on bLen (acons (v 0) anil))))
    (ret (o2 dIx (v 0) (v 1)))
    nop)
    (ret (c (.int 0))))
noncomputable def m__law_mixed : List D → Res D := fn 3
    (sq (ifs (bAnd (trb (o2 dGe (v 0) (o2 dShl (c (.int 1)) (c (.int 90))))) (bAnd (trb (o2 dEq (o2 dMod (v 0) (c (.int 2))) (c (.int 1)))) (trb (o2 dGt (o2 dShr (v 0) (o2 dAdd (c (.int 1)) (o2 dMul (c (.int 31)) (v 1)))) (c (.int 0))))))
    (ret (o2 dMod (o2 dShr (v 0) (o2 dAdd (c (.int 1)) (o2 dMul (c (.int 31)) (v 1)))) (c (.int 2147483648))))
    nop)
    (sq (st 2 (o2 dMod (o2 dMul (o2 dAdd (o2 dAdd (v 0) (o2 dMul (c (.int 7919)) (v 1))) (c (.int 1))) (c (.int 48271))) (c (.int 2147483647))))
    (sq (st 2 (o2 dMod (o2 dMul (v 2) (o2 dAdd (o2 dDiv (v 2) (c (.int 1009))) (c (.int 69621)))) (c (.int 2147483647))))
    (ret (o2 dMod (o2 dMul (v 2) (o2 dAdd (o2 dAdd (o2 dDiv (v 2) (c (.int 2003))) (c (.int 39373))) (v 1))) (c (.int 2147483629)))))))
noncomputable def m__law_draws : List D → Res D := fn 2
    (ret (comp (r1 (acons (v 1) anil)) 1 [0] (gN 0) yes (on m__law_mixed (acons (v 1) (acons (v 0) anil)))))
noncomputable def m__law_fan : List D → Res D := fn 11
    (sq (st 1 (o2 dMod (v 0) (c (.int 9))))
    (sq (st 2 (o2 dMod (o2 dDiv (v 0) (c (.int 9))) (c (.int 9))))
    (sq (st 3 (o2 dAdd (c (.int 2)) (o2 dMod (o2 dDiv (v 0) (c (.int 81))) (c (.int 8)))))
    (sq (st 4 (o2 dAdd (c (.int 2)) (o2 dMod (o2 dDiv (v 0) (c (.int 729))) (c (.int 8)))))
    (sq (stO 5 (mls (acons (mtp (acons (v 1) (acons (v 2) anil))) (acons (mtp (acons (o2 dAdd (o2 dAdd (v 1) (o2 dMod (o2 dDiv (v 0) (c (.int 4096))) (o2 dSub (v 3) (c (.int 1))))) (c (.int 1))) (acons (v 2) anil))) (acons (mtp (acons (o2 dAdd (v 1) (v 3)) (acons (v 2) anil))) anil)))))
    (sq (frz 5 (stO 5 (o2 dAdd (v 5) (mls (acons (mtp (acons (o2 dAdd (v 1) (v 3)) (acons (o2 dAdd (v 2) (v 4)) anil))) (acons (mtp (acons (v 1) (acons (o2 dAdd (v 2) (v 4)) anil))) anil))))))
    (sq (ifs (trb (o2 dEq (o2 dMod (o2 dDiv (v 0) (c (.int 32768))) (c (.int 2))) (c (.int 0))))
    (app 5 (mtp (acons (v 1) (acons (o2 dAdd (o2 dAdd (v 2) (c (.int 1))) (o2 dMod (o2 dDiv (v 0) (c (.int 65536))) (o2 dSub (v 4) (c (.int 1))))) anil))))
    nop)
    (sq (st 6 (mtp (acons (o2 dAdd (o2 dAdd (v 1) (c (.int 1))) (o2 dMod (o2 dDiv (v 0) (c (.int 131072))) (o2 dSub (v 3) (c (.int 1))))) (acons (o2 dAdd (o2 dAdd (v 2) (c (.int 1))) (o2 dMod (o2 dDiv (v 0) (c (.int 1048576))) (o2 dSub (v 4) (c (.int 1))))) anil))))
    (sq (stO 7 (mls anil))
    (sq (frz 5 (for_ (r1 (acons (on bLen (acons (v 5) anil)) anil)) (gN 8)
    (sq (st 9 (mls (acons (v 6) (acons (o2 dIx (v 5) (o2 dSub (v 8) (c (.int 1)))) (acons (o2 dIx (v 5) (v 8)) anil)))))
    (sq (st 10 (comp (iv (v 9)) 2 [0] (gU 2 (gs1 (gN 0) (gs1 (gN 1) gs0))) yes (mtp (acons (v 0) (acons (v 1) (acons (c (.int 2)) (acons (o2 dAdd (c (.int 1)) (o2 dMod (v 2) (c (.int 3)))) (acons (mtp anil) anil))))))))
    (sq (ifs (trb (o2 dEq (o2 dMod (o2 dDiv (v 0) (o2 dAdd (c (.int 2)) (v 8))) (c (.int 2))) (c (.int 0))))
    (st 10 (mls (acons (o2 dIx (v 10) (c (.int 0))) (acons (o2 dIx (v 10) (c (.int 2))) (acons (o2 dIx (v 10) (c (.int 1))) anil)))))
    nop)
    (app 7 (mtp (acons (o2 dIx (v 10) (c (.int 0))) (acons (o2 dIx (v 10) (c (.int 1))) (acons (o2 dIx (v 10) (c (.int 2))) anil))))))))))
    (frz 7 (ret (mtp (acons (v 7) (acons (v 1) (acons (v 2) (acons (o2 dAdd (v 1) (v 3)) (acons (o2 dAdd (v 2) (v 4)) anil))))))))))))))))))
noncomputable def m__law_in_box : List D → Res D := fn 7
    (sq (asg (gU 4 (gs1 (gN 3) (gs1 (gN 4) (gs1 (gN 5) (gs1 (gN 6) gs0))))) (v 0))
    (ret (eAnd (chain dLe dLt (v 3) (o2 dAdd (o2 dMul (c (.int 2)) (v 1)) (c (.int 1))) (v 5)) (chain dLe dLt (v 4) (o2 dAdd (o2 dMul (c (.int 2)) (v 2)) (c (.int 1))) (v 6)))))
noncomputable def m__law_corner : List D → Res D := fn 11
    (sq (asg (gU 2 (gs1 (gN 2) (gs1 (gN 3) gs0))) (cut (v 0) pno (pso (c (.int 2)))))
    (sq (st 4 (o2 dIx (mls (acons (c (.int 2)) (acons (c (.int 8)) (acons (c (.int 1)) (acons (c (.int 2)) anil))))) (o2 dMod (o2 dDiv (v 2) (c (.int 4))) (c (.int 4)))))
    (sq (st 5 (o2 dAdd (c (.int 1)) (o2 dMod (o2 dDiv (v 2) (c (.int 16))) (c (.int 3)))))
    (sq (st 6 (o2 dMul (v 5) (o2 dSub (o2 dMod (o2 dDiv (v 2) (c (.int 64))) (o2 dAdd (o2 dMul (v 4) (c (.int 8))) (c (.int 1)))) (v 4))))
    (sq (st 7 (o2 dMul (v 5) (o2 dSub (o2 dMod (v 3) (o2 dAdd (o2 dMul (v 4) (c (.int 8))) (c (.int 1)))) (v 4))))
    (sq (st 8 (o2 dMul (v 4) (v 5)))
    (sq (st 9 (o2 dIx (mls (acons (c (.int 1)) (acons (v 8) (acons (o2 dAdd (c (.int 1)) (o2 dMod (o2 dDiv (v 3) (c (.int 512))) (c (.int 9)))) (acons (v 8) anil))))) (o2 dMod (o2 dDiv (v 3) (c (.int 32))) (c (.int 4)))))
    (sq (st 10 (on bTup (acons (comp (r1 (acons (v 1) anil)) 1 [0] (gN 0) yes (o2 dSub (o2 dMod (o2 dIx (v 1) (o2 dAdd (c (.int 6)) (v 0))) (c (.int 41))) (c (.int 10)))) anil)))
    (sq (ifs (trb (o2 dEq (o2 dMod (v 2) (c (.int 4))) (c (.int 3))))
    (sq (st 6 (o2 dSub (o2 dMod (o2 dIx (v 0) (c (.int 2))) (c (.int 2000001))) (o2 dPow (c (.int 10)) (c (.int 6)))))
    (sq (st 7 (o2 dSub (o2 dMod (o2 dIx (v 0) (c (.int 3))) (c (.int 2000001))) (o2 dPow (c (.int 10)) (c (.int 6)))))
    (sq (st 8 (o2 dAdd (c (.int 1)) (o2 dMod (o2 dIx (v 0) (c (.int 4))) (o2 dPow (c (.int 10)) (c (.int 6))))))
    (sq (st 9 (o2 dAdd (c (.int 1)) (o2 dMod (o2 dIx (v 0) (c (.int 5))) (o2 dPow (c (.int 10)) (c (.int 6))))))
    (st 10 (on bTup (acons (comp (r1 (acons (v 1) anil)) 1 [0] (gN 0) yes (o2 dSub (o2 dMod (o2 dIx (v 1) (o2 dAdd (c (.int 6)) (v 0))) (c (.int 2000001))) (o2 dPow (c (.int 10)) (c (.int 6))))) anil)))))))
    nop)
    (sq (ifs (trb (o2 dEq (o2 dMod (v 2) (c (.int 4))) (c (.int 2))))
    (sq (st 8 (o2 dAdd (c (.int 1)) (o2 dMod (o2 dDiv (v 3) (c (.int 4096))) (c (.int 300)))))
    (st 6 (o2 dSub (o2 dMod (o2 dIx (v 0) (c (.int 2))) (c (.int 2001))) (c (.int 1000)))))
    nop)
    (ret (mtp (acons (v 6) (acons (v 7) (acons (v 8) (acons (v 9) (acons (v 10) anil)))))))))))))))))
noncomputable def m__law_triangles : List D → Res D := fn 12
    (sq (st 4 (o2 dAdd (c (.int 6)) (v 3)))
    (sq (st 5 (comp (r1 (acons (c (.int 6)) anil)) 1 [4, 0, 1] (gN 0) yes (on m__law_draws (acons (on m__law_cell_at (acons (v 2) (acons (o2 dAdd (v 3) (v 0)) anil))) (acons (o2 dMul (c (.int 3)) (v 1)) anil)))))
    (sq (st 6 (comp (iv (v 5)) 1 [4, 3] (gN 0) yes (on m__law_corner (acons (cut (v 0) pno (pso (v 1))) (acons (v 2) anil)))))
    (sq (st 7 (on m__law_draws (acons (on m__law_cell_at (acons (v 0) (acons (o2 dAdd (v 1) (c (.int 6))) anil))) (acons (o2 dAdd (v 2) (c (.int 1))) anil))))
    (sq (stO 8 (mls anil))
    (sq (for_ (r1 (acons (o2 dMod (o2 dIx (v 7) (c (.int 0))) (o2 dAdd (v 2) (c (.int 1)))) anil)) (gN 9)
    (sq (st 10 (o2 dIx (v 7) (o2 dAdd (c (.int 1)) (v 9))))
    (sq (st 11 (mls (acons (o2 dIx (v 6) (o2 dMod (v 10) (c (.int 6)))) (acons (o2 dIx (v 6) (o2 dMod (o2 dDiv (v 10) (c (.int 6))) (c (.int 6)))) (acons (o2 dIx (v 6) (o2 dMod (o2 dDiv (v 10) (c (.int 36))) (c (.int 6)))) anil)))))
    (sq (ifs (trb (o2 dEq (o2 dMod (o2 dDiv (v 10) (c (.int 216))) (c (.int 4))) (c (.int 1))))
    (st 11 (comp (r1 (acons (c (.int 3)) anil)) 1 [4, 5, 3, 9] (gN 0) yes (on m__law_corner (acons (cut (o2 dIx (v 2) (v 4)) (pso (o2 dMul (v 1) (v 0))) (pso (o2 dAdd (o2 dMul (v 1) (v 0)) (v 1)))) (acons (v 3) anil)))))
    nop)
    (app 8 (mtp (acons (o2 dIx (v 11) (c (.int 0))) (acons (o2 dIx (v 11) (c (.int 1))) (acons (o2 dIx (v 11) (c (.int 2))) anil)))))))))
    (frz 8 (ret (v 8)))))))))
noncomputable def m_check_before_eye : List D → Res D := fn 2
    (for_ (iv (v 0)) (gN 1)
    (ifs (trb (o2 dLe (o2 dIx (v 1) (c (.int 2))) (c (.int 0))))
    (rse "BadTriangle" (acons (c (.str "only corners with w above 0 are thrown onto the floor")) anil))
    nop))
noncomputable def m_edge_numbers : List D → Res D := fn 2
    (ret (mtp (acons (o2 dSub (o2 dMul (o2 dIx (v 0) (c (.int 1))) (o2 dIx (v 1) (c (.int 2)))) (o2 dMul (o2 dIx (v 0) (c (.int 2))) (o2 dIx (v 1) (c (.int 1))))) (acons (o2 dSub (o2 dMul (o2 dIx (v 0) (c (.int 2))) (o2 dIx (v 1) (c (.int 0)))) (o2 dMul (o2 dIx (v 0) (c (.int 0))) (o2 dIx (v 1) (c (.int 2))))) (acons (o2 dSub (o2 dMul (o2 dIx (v 0) (c (.int 0))) (o2 dIx (v 1) (c (.int 1)))) (o2 dMul (o2 dIx (v 0) (c (.int 1))) (o2 dIx (v 1) (c (.int 0))))) anil)))))
noncomputable def m_summed_products : List D → Res D := fn 2
    (ret (o2 dAdd (o2 dAdd (o2 dMul (o2 dIx (v 0) (c (.int 0))) (o2 dIx (v 1) (c (.int 0)))) (o2 dMul (o2 dIx (v 0) (c (.int 1))) (o2 dIx (v 1) (c (.int 1))))) (o2 dMul (o2 dIx (v 0) (c (.int 2))) (o2 dIx (v 1) (c (.int 2))))))
noncomputable def m_side : List D → Res D := fn 5
    (sq (st 3 (on m_edge_numbers (acons (v 0) (acons (v 1) anil))))
    (sq (for_ (iv (mtp (acons (on m_summed_products (acons (v 3) (acons (v 2) anil))) (acons (o2 dIx (v 3) (c (.int 0))) (acons (o2 dIx (v 3) (c (.int 1))) anil))))) (gN 4)
    (ifs (trb (o2 dNe (v 4) (c (.int 0))))
    (ret (ife (trb (o2 dGt (v 4) (c (.int 0)))) (c (.int 1)) (o1 dNeg (c (.int 1)))))
    nop))
    (ret (c (.int 0)))))
noncomputable def m_had : List D → Res D := fn 3
    (sq (drp (on m_check_before_eye (acons (v 0) anil)))
    (sq (st 2 (on m_side (acons (o2 dIx (v 0) (c (.int 0))) (acons (o2 dIx (v 0) (c (.int 1))) (acons (v 1) anil)))))
    (sq (ifs (bOr (trb (o2 dNe (on m_side (acons (o2 dIx (v 0) (c (.int 1))) (acons (o2 dIx (v 0) (c (.int 2))) (acons (v 1) anil)))) (v 2))) (trb (o2 dNe (on m_side (acons (o2 dIx (v 0) (c (.int 2))) (acons (o2 dIx (v 0) (c (.int 0))) (acons (v 1) anil)))) (v 2))))
    (ret (c (.int 0)))
    nop)
    (ret (v 2)))))
noncomputable def m_mask_of : List D → Res D := fn 4
    (sq (st 1 (c (.int 0)))
    (sq (for_ (iEnumerate (acons (v 0) anil)) (gU 2 (gs1 (gN 2) (gs1 (gN 3) gs0)))
    (ifs (trb (v 3))
    (st 1 (o2 dBOr (v 1) (o2 dShl (c (.int 1)) (v 2))))
    nop))
    (ret (v 1))))
noncomputable def m_middle : List D → Res D := fn 2
    (ret (mtp (acons (o2 dAdd (o2 dMul (c (.int 2)) (v 0)) (c (.int 1))) (acons (o2 dAdd (o2 dMul (c (.int 2)) (v 1)) (c (.int 1))) (acons (c (.int 2)) anil)))))
noncomputable def m_middles : List D → Res D := fn 2
    (ret (comp (r1 (acons (v 0) anil)) 1 [1] (gN 0) yes (on m_middle (acons (v 0) (acons (v 1) anil)))))
noncomputable def m_row_mask : List D → Res D := fn 3
    (sq (drp (on m_check_before_eye (acons (v 0) anil)))
    (ret (on m_mask_of (acons (compX (iv (on m_middles (acons (v 1) (acons (v 2) anil)))) 1 [0] (gN 0) yes (o2 dNe (on m_had (acons (v 1) (acons (v 0) anil))) (c (.int 0)))) anil))))
noncomputable def m_filled_mask : List D → Res D := fn 5
    (sq (st 3 (c (.int 0)))
    (sq (for_ (iv (v 0)) (gN 4)
    (st 3 (o2 dBOr (v 3) (on m_row_mask (acons (v 4) (acons (v 1) (acons (v 2) anil)))))))
    (ret (v 3))))
noncomputable def m_shared_mask : List D → Res D := fn 7
    (sq (st 3 (c (.int 0)))
    (sq (st 4 (c (.int 0)))
    (sq (for_ (iv (v 0)) (gN 5)
    (sq (st 6 (on m_row_mask (acons (v 5) (acons (v 1) (acons (v 2) anil)))))
    (sq (st 4 (o2 dBOr (v 4) (o2 dBAnd (v 3) (v 6))))
    (st 3 (o2 dBOr (v 3) (v 6))))))
    (ret (v 4)))))
noncomputable def m_law_pre : MS :=
    (sq (st 1 (on m__law_triangles (acons (v 0) (acons (c (.int 0)) (acons (c (.int 6)) (acons (c (.int 0)) anil))))))
    (sq (st 2 (o2 dIx (on m__law_draws (acons (on m__law_cell_at (acons (v 0) (acons (c (.int 7)) anil))) (acons (c (.int 1)) anil))) (c (.int 0))))
    (sq (st 3 (o2 dIx (mls (acons (o2 dAdd (c (.int 1)) (o2 dMod (v 2) (c (.int 12)))) (acons (c (.int 64)) anil))) (on bInt (acons (o2 dEq (o2 dMod (o2 dDiv (v 2) (c (.int 12))) (c (.int 6))) (c (.int 3))) anil))))
    (sq (st 4 (on m__law_fan (acons (o2 dIx (on m__law_draws (acons (on m__law_cell_at (acons (v 0) (acons (c (.int 8)) anil))) (acons (c (.int 1)) anil))) (c (.int 0))) anil)))
    (sq (for_ (iv (mls (acons (o2 dMod (o2 dDiv (v 2) (c (.int 16))) (c (.int 9))) (acons (o2 dMod (o2 dDiv (v 2) (c (.int 256))) (c (.int 9))) (acons (c (.int 0)) anil))))) (gN 5)
    (sq (st 6 (c (.int 0)))
    (sq (st 7 (c (.int 0)))
    (sq (st 8 (c (.int 0)))
    (sq (for_ (r1 (acons (v 3) anil)) (gN 9)
    (sq (st 10 (on bLen (acons (comp (iv (v 1)) 1 [5, 9] (gN 0) (trb (o2 dNe (on m_had (acons (v 0) (acons (mtp (acons (o2 dAdd (o2 dMul (c (.int 2)) (v 2)) (c (.int 1))) (acons (o2 dAdd (o2 dMul (c (.int 2)) (v 1)) (c (.int 1))) (acons (c (.int 2)) anil)))) anil))) (c (.int 0)))) (v 0)) anil)))
    (sq (ifs (trb (o2 dGt (v 10) (c (.int 0))))
    (st 6 (o2 dAdd (v 6) (o2 dShl (c (.int 1)) (v 9))))
    nop)
    (sq (ifs (trb (o2 dGt (v 10) (c (.int 1))))
    (st 7 (o2 dAdd (v 7) (o2 dShl (c (.int 1)) (v 9))))
    nop)
    (ifs (trb (on m__law_in_box (acons (cut (v 4) (pso (c (.int 1))) pno) (acons (v 9) (acons (v 5) anil)))))
    (st 8 (o2 dAdd (v 8) (o2 dShl (c (.int 1)) (v 9))))
    nop)))))
    (sq (for_ (iv (mls (acons (v 1) (acons (o1 dRev (v 1)) (acons (o2 dAdd (cut (v 1) (pso (c (.int 1))) pno) (cut (v 1) pno (pso (c (.int 1))))) anil))))) (gN 11)
    (ifs (bOr (trb (o2 dNe (on m_filled_mask (acons (v 11) (acons (v 3) (acons (v 5) anil)))) (v 6))) (trb (o2 dNe (on m_shared_mask (acons (v 11) (acons (v 3) (acons (v 5) anil)))) (v 7))))
    (ret (c (.bl false)))
    nop))
    (ifs (bOr (trb (o2 dNe (on m_filled_mask (acons (o2 dIx (v 4) (c (.int 0))) (acons (v 3) (acons (v 5) anil)))) (v 8))) (trb (o2 dNe (on m_shared_mask (acons (o2 dIx (v 4) (c (.int 0))) (acons (v 3) (acons (v 5) anil)))) (c (.int 0)))))
    (ret (c (.bl false)))
    nop)))))))
    (sq (asg (gU 5 (gs1 (gN 12) (gs1 (gN 13) (gs1 (gN 14) (gs1 (gN 15) (gs1 (gN 16) gs0)))))) (o2 dIx (o2 dIx (o2 dIx (v 4) (c (.int 0))) (c (.int 0))) (c (.int 1))))
    (st 17 (mtp (acons (o2 dIx (o2 dIx (o2 dIx (v 4) (c (.int 0))) (c (.int 0))) (c (.int 0))) (acons (mtp (acons (v 12) (acons (v 13) (acons (o2 dSub (c (.int 0)) (o2 dMod (o2 dDiv (v 2) (c (.int 32))) (c (.int 3)))) (acons (v 15) (acons (v 16) anil)))))) (acons (o2 dIx (o2 dIx (o2 dIx (v 4) (c (.int 0))) (c (.int 0))) (c (.int 2))) anil)))))))))))
noncomputable def m_law_it : MI :=
    (iv (mls (acons (o2 dAdd (v 1) (mls (acons (v 17) anil))) (acons (o2 dAdd (mls (acons (v 17) anil)) (o2 dIx (v 4) (c (.int 0)))) anil))))
end My

namespace My
open PySem Dl
theorem w_mixed {Φ : D → Prop} {cc k : Int} (hk : 0 ≤ k ∧ k ≤ 1000) (h : ∀ r : Int, 0 ≤ r ∧ r < 2147483648 → Φ (.int r)) : Tl (m__law_mixed [.int cc, .int k]) Φ := by
  unfold m__law_mixed
  walk_at "w"
  refine w_dec (fun _ => ?_) (fun _ => ?_)
  · walk_at "w"
    refine w_dec (fun _ => ?_) (fun _ => ?_)
    · walk_at "w"
      refine w_dec (fun _ => ?_) (fun _ => ?_)
      · walk_at "w"
        exact h _ (by omega)
      · walk_at "w"
        exact h _ (by omega)
    · walk_at "w"
      exact h _ (by omega)
  · walk_at "w"
    exact h _ (by omega)

noncomputable def cor (x y w h : Int) (vs : List Int) : D := .tup [.int x, .int y, .int w, .int h, .tup (vs.map .int)]
noncomputable def Bd (x : Int) : Prop := -1000000 ≤ x ∧ x ≤ 1000000
theorem vals_of {ys : List D} {n : Nat} (hl : ys.length = n) (h : ∀ y ∈ ys, ∃ v : Int, y = .int v ∧ Bd v) : ∃ vs : List Int, ys = vs.map .int ∧ vs.length = n ∧ ∀ v ∈ vs, Bd v := by
  induction ys generalizing n with
  | nil => exact ⟨[], rfl, hl, fun _ h => (List.not_mem_nil h).elim⟩
  | cons y r ih =>
    obtain ⟨v, rfl, hv⟩ := h y List.mem_cons_self
    obtain ⟨vs, rfl, l, hb⟩ := ih (n := r.length) rfl fun z hz => h z (List.mem_cons_of_mem _ hz)
    refine ⟨v :: vs, rfl, by simpa using hl, fun u hu => ?_⟩
    rcases List.mem_cons.mp hu with rfl | hu
    · exact hv
    · exact hb u hu
theorem w_draw {Φ : List D → Prop} {g : MG} {e : ME} {ρ : Ev} {n : Nat} (h : ∀ k : Nat, k < n → Tl (g (.int k) ρ) fun ρ1 => Tl (e ρ1) fun y => ∃ v : Int, y = .int v ∧ Bd v) (q : ∀ vs : List Int, vs.length = n → (∀ v ∈ vs, Bd v) → Φ (vs.map .int)) : Tl (compGo g yes e ρ (rangeD 0 n)) Φ := by
  have hl : (rangeD 0 n).length = n := by unfold rangeD; simp
  refine w_all (fun _ y => ∃ v : Int, y = .int v ∧ Bd v) (fun x hx => ?_) fun ys l hp => ?_
  · obtain ⟨k, hk, rfl⟩ := mem_range hx
    exact h k hk
  · obtain ⟨vs, rfl, l2, hb⟩ := vals_of (n := n) (l.trans hl) fun y hy => by
      obtain ⟨i, hi, rfl⟩ := List.mem_iff_getElem.mp hy
      exact hp i _ _ (List.getElem?_eq_getElem (by omega)) (List.getElem?_eq_getElem hi)
    exact q vs l2 hb

theorem w_cell_at {Φ : D → Prop} {ns : List Int} {k : Int} (hk : 0 ≤ k) (h : ∀ n : Int, Φ (.int n)) : Tl (m__law_cell_at [.lst (ns.map .int), .int k]) Φ := by
  unfold m__law_cell_at
  walk_at "w"
  refine w_dec (fun hl => ?_) (fun _ => ?_)
  · walk_at "w"
    refine w_ixI (by omega) fun n _ => ?_
    walk_at "w"
    exact h n
  · walk_at "w"
    exact h 0

noncomputable abbrev ow (ax ay aw bx bY bw cx cy cw : Int) : Int := (ay * bw - aw * bY) * cx + (aw * bx - ax * bw) * cy + (ax * bY - ay * bx) * cw
theorem sm6 {x : Int} (h : -100000000 ≤ x ∧ x ≤ 100000000) : Sm 64 x := Sm.of64 (by omega) (by omega)
structure Cr (x y w : Int) : Prop where
  x : Sm 64 x
  y : Sm 64 y
  w : Sm 64 w
theorem Cr.n {ax ay aw bx bY bw : Int} (a : Cr ax ay aw) (b : Cr bx bY bw) : Sm 129 (ay * bw - aw * bY) ∧ Sm 129 (aw * bx - ax * bw) ∧ Sm 129 (ax * bY - ay * bx) :=
  ⟨(a.y.mul b.w).sub (a.w.mul b.y), (a.w.mul b.x).sub (a.x.mul b.w), (a.x.mul b.y).sub (a.y.mul b.x)⟩
theorem Cr.ow {ax ay aw bx bY bw cx cy cw : Int} (a : Cr ax ay aw) (b : Cr bx bY bw) (c : Cr cx cy cw) : Sm 200 (ow ax ay aw bx bY bw cx cy cw) := by
  obtain ⟨n1, n2, n3⟩ := a.n b
  exact (((n1.mul c.x).add (n2.mul c.y)).add (n3.mul c.w)).mono (by decide)
noncomputable def C3 (x y w : Int) : Prop := Bd x ∧ Bd y ∧ Bd w
theorem Bd.s {x : Int} (h : Bd x) : Sm 64 x := sm6 ⟨by have := h.1; omega, by have := h.2; omega⟩
theorem C3.cr {x y w : Int} (h : C3 x y w) : Cr x y w := ⟨h.1.s, h.2.1.s, h.2.2.s⟩
noncomputable def Pt (x y s : Int) : Prop := (-100000000 ≤ x ∧ x ≤ 100000000) ∧ (-100000000 ≤ y ∧ y ≤ 100000000) ∧ 1 ≤ s ∧ s ≤ 100000000
theorem Pt.cr {x y s : Int} (h : Pt x y s) : Cr x y s := ⟨sm6 h.1, sm6 h.2.1, sm6 ⟨by have := h.2.2.1; omega, h.2.2.2⟩⟩

theorem w_edge_numbers {Φ : D → Prop} {ax ay aw ah bx bY bw bh : Int} {av bv : List Int} (a : Cr ax ay aw) (b : Cr bx bY bw) (h : Φ (.tup [.int (ay * bw - aw * bY), .int (aw * bx - ax * bw), .int (ax * bY - ay * bx)])) : Tl (m_edge_numbers [cor ax ay aw ah av, cor bx bY bw bh bv]) Φ := by
  obtain ⟨a1, a2, a3⟩ := a
  obtain ⟨b1, b2, b3⟩ := b
  unfold m_edge_numbers cor
  walk_at "w"
  exact h
theorem w_summed {Φ : D → Prop} {l m n px py ps : Int} (hl : Sm 129 l) (hm : Sm 129 m) (hn : Sm 129 n) (p : Cr px py ps) (h : Φ (.int (l * px + m * py + n * ps))) : Tl (m_summed_products [.tup [.int l, .int m, .int n], .tup [.int px, .int py, .int ps]]) Φ := by
  obtain ⟨p1, p2, p3⟩ := p
  unfold m_summed_products
  walk_at "w"
  exact h

noncomputable def sg (x : Int) : Int := if 0 < x then 1 else if x < 0 then -1 else 0
noncomputable def sd3 (s m n : Int) : Int := if s = 0 then (if m = 0 then sg n else sg m) else sg s
theorem sg_pos {x : Int} (h : 0 < x) : sg x = 1 := if_pos h
theorem sg_neg {x : Int} (h : x < 0) : sg x = -1 := by unfold sg; rw [if_neg (by omega), if_pos h]
theorem sg_zero : sg 0 = 0 := rfl
theorem sg_opp (x : Int) : sg (-x) = - sg x := by unfold sg; split <;> split <;> (try split) <;> (try split) <;> omega
theorem sd3_opp (s m n : Int) : sd3 (-s) (-m) (-n) = - sd3 s m n := by
  unfold sd3
  rw [sg_opp, sg_opp, sg_opp]
  split <;> split <;> (try split) <;> (try split) <;> omega
theorem sg_of {x : Int} : sg x = 1 ∧ 0 < x ∨ sg x = 0 ∧ x = 0 ∨ sg x = -1 ∧ x < 0 := by
  unfold sg; split <;> (try split) <;> omega
theorem sg_any (x : Int) : sg x = 1 ∨ sg x = 0 ∨ sg x = -1 := by
  rcases sg_of (x := x) with h | h | h
  · exact .inl h.1
  · exact .inr (.inl h.1)
  · exact .inr (.inr h.1)
theorem sd3_of (s m n : Int) : sd3 s m n = 1 ∨ sd3 s m n = 0 ∨ sd3 s m n = -1 := by
  unfold sd3
  by_cases h : s = 0
  · rw [if_pos h]
    by_cases h' : m = 0
    · rw [if_pos h']; exact sg_any n
    · rw [if_neg h']; exact sg_any m
  · rw [if_neg h]; exact sg_any s
theorem sd3_iff {s m n e : Int} {P Q R : Prop} (h1 : sg s = e ↔ P) (h2 : sg m = e ↔ Q) (h3 : sg n = e ↔ R) : sd3 s m n = e ↔ (¬ s = 0 ∧ P) ∨ (s = 0 ∧ ((¬ m = 0 ∧ Q) ∨ (m = 0 ∧ R))) := by
  unfold sd3
  by_cases h : s = 0
  · rw [if_pos h]
    by_cases h' : m = 0
    · rw [if_pos h', h3]; simp [h, h']
    · rw [if_neg h', h2]; simp [h, h']
  · rw [if_neg h, h1]; simp [h]
theorem sg_eq1 {x : Int} : sg x = 1 ↔ 0 < x := by rcases sg_of (x := x) with h | h | h <;> omega
theorem sg_eq0 {x : Int} : sg x = 0 ↔ x = 0 := by rcases sg_of (x := x) with h | h | h <;> omega
noncomputable abbrev sdE (ax ay aw bx bY bw px py ps : Int) : Int := sd3 (ow ax ay aw bx bY bw px py ps) (ay * bw - aw * bY) (aw * bx - ax * bw)
theorem sdE_opp (ax ay aw bx bY bw px py ps : Int) : sdE bx bY bw ax ay aw px py ps = - sdE ax ay aw bx bY bw px py ps := by
  unfold sdE
  rw [← sd3_opp]
  congr 1
  · unfold ow; grind
  · grind
  · grind
theorem w_side {Φ : D → Prop} {ax ay aw ah bx bY bw bh px py ps : Int} {av bv : List Int} (a : Cr ax ay aw) (b : Cr bx bY bw) (p : Cr px py ps) (h : Φ (.int (sdE ax ay aw bx bY bw px py ps))) : Tl (m_side [cor ax ay aw ah av, cor bx bY bw bh bv, .tup [.int px, .int py, .int ps]]) Φ := by
  unfold m_side
  walk_at "w"
  refine w_edge_numbers a b ?_
  walk_at "w"
  obtain ⟨n1, n2, n3⟩ := a.n b
  refine w_summed n1 n2 n3 p ?_
  walk_at "w"
  unfold sdE sd3 at h
  change Φ (.int (if ow ax ay aw bx bY bw px py ps = 0 then _ else _)) at h
  show Tl (forGo _ _ [.int (ow ax ay aw bx bY bw px py ps), .int _, .int _] _) _
  generalize ow ax ay aw bx bY bw px py ps = s at *
  generalize ay * bw - aw * bY = m at *
  generalize aw * bx - ax * bw = n at *
  refine w_f1 ?_
  walk_at "w"
  refine w_ndec (fun h0 => ?_) (fun h0 => ?_)
  · rw [if_neg h0] at h
    walk_at "w"
    refine w_dec (fun h1 => ?_) (fun h1 => ?_)
    · walk_at "w"
      rw [sg_pos h1] at h
      exact h
    · walk_at "w"
      rw [sg_neg (by omega)] at h
      exact h
  rw [if_pos h0] at h
  walk_at "w"
  refine w_f1 ?_
  walk_at "w"
  refine w_ndec (fun h0 => ?_) (fun h0 => ?_)
  · rw [if_neg h0] at h
    walk_at "w"
    refine w_dec (fun h1 => ?_) (fun h1 => ?_)
    · walk_at "w"
      rw [sg_pos h1] at h
      exact h
    · walk_at "w"
      rw [sg_neg (by omega)] at h
      exact h
  rw [if_pos h0] at h
  walk_at "w"
  refine w_f1 ?_
  walk_at "w"
  refine w_ndec (fun h0 => ?_) (fun h0 => ?_)
  · walk_at "w"
    refine w_dec (fun h1 => ?_) (fun h1 => ?_)
    · walk_at "w"
      rw [sg_pos h1] at h
      exact h
    · walk_at "w"
      rw [sg_neg (by omega)] at h
      exact h
  walk_at "w"
  refine w_f0 ?_
  walk_at "w"
  rw [h0, sg_zero] at h
  exact h

theorem w_check {Φ : D → Prop} {ax ay aw ah bx bY bw bh cx cy cw ch : Int} {av bv cv : List Int} (ha : 1 ≤ aw) (hb : 1 ≤ bw) (hc : 1 ≤ cw) (h : Φ .non) : Tl (m_check_before_eye [.tup [cor ax ay aw ah av, cor bx bY bw bh bv, cor cx cy cw ch cv]]) Φ := by
  unfold m_check_before_eye cor
  walk_at "w"
  refine w_f1 ?_
  walk_at "w"
  refine w_f1 ?_
  walk_at "w"
  refine w_f1 ?_
  walk_at "w"
  refine w_f0 ?_
  walk_at "w"
  exact h
theorem x_check1 {ax ay aw : Int} {ah av : D} {r : List D} (ha : aw ≤ 0) : m_check_before_eye [.tup (.tup [.int ax, .int ay, .int aw, ah, av] :: r)] = .ex "BadTriangle" := by
  unfold m_check_before_eye
  refine x_fn (x_for ?_)
  walk_at "w"
  refine x_f1 ?_
  walk_at "w"
  refine x_ifs ?_
  walk_at "w"
  refine x_T (by omega) (x_rse ?_)
  walk_at "w"
theorem x_check2 {ax ay aw bx bY bw : Int} {ah av bh bv : D} {r : List D} (ha : bw ≤ 0) : m_check_before_eye [.tup (.tup [.int ax, .int ay, .int aw, ah, av] :: .tup [.int bx, .int bY, .int bw, bh, bv] :: r)] = .ex "BadTriangle" := by
  by_cases h : aw ≤ 0
  · exact x_check1 h
  unfold m_check_before_eye
  refine x_fn (x_for ?_)
  walk_at "w"
  refine x_f2 ?_
  walk_at "w"
  refine x_tx (x_f1 ?_)
  walk_at "w"
  refine x_ifs ?_
  walk_at "w"
  refine x_T (by omega) (x_rse ?_)
  walk_at "w"
theorem x_drp {ρ : Ev} {e : ME} {c : Str} (h : e ρ = .ex c) : drp e ρ = .ex c := x_bind1 h
theorem x_on {ρ : Ev} {f : List D → Res D} {m : MA} {c : Str} (h : Tl (m ρ) fun xs => f xs = .ex c) : on f m ρ = .ex c := x_bind h
noncomputable def hd3 (ab bc ca : Int) : Int := if ab = bc ∧ bc = ca then ab else 0
theorem w_had {Φ : D → Prop} {ax ay aw ah bx bY bw bh cx cy cw ch px py ps : Int} {av bv cv : List Int} (ha : 1 ≤ aw) (hb : 1 ≤ bw) (hc : 1 ≤ cw) (a : Cr ax ay aw) (b : Cr bx bY bw) (c : Cr cx cy cw) (p : Cr px py ps) (h : Φ (.int (hd3 (sdE ax ay aw bx bY bw px py ps) (sdE bx bY bw cx cy cw px py ps) (sdE cx cy cw ax ay aw px py ps)))) : Tl (m_had [.tup [cor ax ay aw ah av, cor bx bY bw bh bv, cor cx cy cw ch cv], .tup [.int px, .int py, .int ps]]) Φ := by
  unfold m_had
  walk_at "w"
  refine w_check ha hb hc ?_
  walk_at "w"
  refine w_side a b p ?_
  walk_at "w"
  refine w_side b c p ?_
  walk_at "w"
  unfold hd3 at h
  refine w_ndec (fun h0 => ?_) (fun h0 => ?_)
  · walk_at "w"
    rw [if_neg (by omega)] at h
    exact h
  walk_at "w"
  refine w_side c a p ?_
  walk_at "w"
  refine w_ndec (fun h1 => ?_) (fun h1 => ?_)
  · walk_at "w"
    rw [if_neg (by omega)] at h
    exact h
  walk_at "w"
  rw [if_pos (by omega)] at h
  exact h

noncomputable def mkB (f : Nat → Bool) : Nat → Nat
  | 0 => 0
  | n + 1 => mkB f n + if f n = true then 2 ^ n else 0
theorem mkB_succ (f : Nat → Bool) (n : Nat) : mkB f (n + 1) = mkB f n + if f n = true then 2 ^ n else 0 := rfl
theorem mkB_lt (f : Nat → Bool) : ∀ n, mkB f n < 2 ^ n
  | 0 => by simp [mkB]
  | n + 1 => by
    have h := mkB_lt f n
    have e : 2 ^ (n + 1) = 2 ^ n + 2 ^ n := by rw [Nat.pow_succ]; omega
    unfold mkB
    split <;> omega
theorem mkB_or (f : Nat → Bool) (n : Nat) : mkB f n ||| 2 ^ n = mkB f n + 2 ^ n := by
  have h := Nat.two_pow_add_eq_or_of_lt (mkB_lt f n) 1
  rw [Nat.mul_one] at h
  rw [Nat.or_comm, ← h, Nat.add_comm]
theorem mkB_bit (f : Nat → Bool) : ∀ n i, (mkB f n).testBit i = (decide (i < n) && f i)
  | 0, i => by simp [mkB]
  | n + 1, i => by
    unfold mkB
    by_cases h : f n = true
    · rw [if_pos h, ← mkB_or, Nat.testBit_or, mkB_bit f n i, Nat.testBit_two_pow]
      by_cases h1 : n = i
      · subst h1; simp [h]
      · by_cases h2 : i < n
        · simp [h1, h2, Nat.lt_succ_of_lt h2]
        · have : ¬ i < n + 1 := by omega
          simp [h1, h2, this]
    · rw [if_neg h, Nat.add_zero, mkB_bit f n i]
      by_cases h1 : n = i
      · subst h1; simp [h]
      · by_cases h2 : i < n
        · simp [h2, Nat.lt_succ_of_lt h2]
        · have : ¬ i < n + 1 := by omega
          simp [h2, this]
theorem mkB_congr {f g : Nat → Bool} : ∀ {n}, (∀ i, i < n → f i = g i) → mkB f n = mkB g n
  | 0, _ => rfl
  | n + 1, h => by
    unfold mkB
    rw [mkB_congr (n := n) fun i hi => h i (by omega), h n (by omega)]
theorem mkB_bor (f g : Nat → Bool) (n : Nat) : mkB f n ||| mkB g n = mkB (fun i => f i || g i) n := by
  refine Nat.eq_of_testBit_eq fun i => ?_
  rw [Nat.testBit_or, mkB_bit, mkB_bit, mkB_bit]
  cases decide (i < n) <;> rfl
theorem mkB_band (f g : Nat → Bool) (n : Nat) : mkB f n &&& mkB g n = mkB (fun i => f i && g i) n := by
  refine Nat.eq_of_testBit_eq fun i => ?_
  rw [Nat.testBit_and, mkB_bit, mkB_bit, mkB_bit]
  cases decide (i < n) <;> simp
theorem mkB_none : ∀ n, mkB (fun _ => false) n = 0
  | 0 => rfl
  | n + 1 => by unfold mkB; rw [mkB_none n]; rfl
theorem w_upto {Φ : Fl → Prop} {g : MG} {k : MS} {ρ : Ev} {enc : Nat → D} {n : Nat} (I : Nat → Ev → Prop) (h0 : I 0 ρ) (h : ∀ j, j < n → ∀ ρ, I j ρ → Tl (g (enc j) ρ) fun ρ1 => Tl (k ρ1) fun f => ∃ ρ2, f = .nx ρ2 ∧ I (j + 1) ρ2) (hd : ∀ ρ, I n ρ → Φ (.nx ρ)) : Tl (forGo g k ((List.range n).map enc) ρ) Φ := by
  refine w_invP (fun p ρ => I p.length ρ) h0 (fun p x r e ρ i => ?_) fun ρ i => ?_
  · have l : p.length < n := by
      have := congrArg List.length e
      simp at this
      omega
    have ex : x = enc p.length := by
      have z := congrArg (fun l => l[p.length]?) e
      simp [l] at z
      exact z.symm
    subst ex
    obtain ⟨ρ1, e1, f, e2, ρ2, rfl, i2⟩ := h _ l ρ i
    refine ⟨ρ1, e1, _, e2, ρ2, rfl, ?_⟩
    simpa using i2
  · simp at i
    exact hd ρ i
theorem rangeD_eq (n : Nat) : rangeD 0 n = (List.range n).map fun (k : Nat) => D.int (k : Int) := by
  unfold rangeD
  simp
theorem numbered_map {g : Nat → D} : ∀ (l : List Nat) (k : Nat), numbered k (l.map g) = (l.zipIdx k).map fun p => D.tup [.int (p.2 : Int), g p.1]
  | [], _ => rfl
  | x :: r, k => by
    show D.tup [.int k, g x] :: Dl.numbered (k + 1) (r.map g) = _
    rw [numbered_map r (k + 1)]
    rfl
theorem numbered_range {g : Nat → D} (n : Nat) : Dl.numbered 0 ((List.range n).map g) = (List.range n).map fun (k : Nat) => D.tup [.int (k : Int), g k] := by
  rw [numbered_map]
  apply List.ext_getElem?
  intro i
  simp [List.getElem?_map, List.getElem?_zipIdx]
  by_cases h : i < n
  · simp [h]
  · simp [h]
section
variable {Φ : D → Prop}
theorem w_borN {a b : Nat} (h : Φ (.int ((a ||| b : Nat) : Int))) : Tl (dBOr (.int (a : Int)) (.int (b : Int))) Φ := by
  refine tl_of ?_ h
  show iOr _ _ = _
  unfold iOr
  rw [if_pos ⟨by omega, by omega⟩]
  rfl
theorem w_bandN {a b : Nat} (h : Φ (.int ((a &&& b : Nat) : Int))) : Tl (dBAnd (.int (a : Int)) (.int (b : Int))) Φ := by
  refine tl_of ?_ h
  show iAnd _ _ = _
  unfold iAnd
  rw [if_pos ⟨by omega, by omega⟩]
  rfl
theorem w_shl1 {k : Nat} (hk : k ≤ 1000000) (h : Φ (.int ((2 ^ k : Nat) : Int))) : Tl (dShl (.int 1) (.int (k : Int))) Φ := by
  refine w_shl (by omega) (by omega) (by decide) ?_
  rw [Int.one_mul, Int.toNat_natCast]
  simpa using h
end

theorem w_middle {Φ : D → Prop} {c r : Int} (h : Φ (.tup [.int (2 * c + 1), .int (2 * r + 1), .int 2])) : Tl (m_middle [.int c, .int r]) Φ := by
  unfold m_middle
  walk_at "w"
  exact h
theorem w_middles {Φ : D → Prop} {n : Nat} {r : Int} (hn : n ≤ 1000) (h : Φ (.lst ((List.range n).map fun (c : Nat) => .tup [.int (2 * (c : Int) + 1), .int (2 * r + 1), .int 2]))) : Tl (m_middles [.int (n : Int), .int r]) Φ := by
  unfold m_middles
  walk_at "w"
  refine ⟨by simp [rangeD]; omega, ?_⟩
  rw [rangeD_eq, Int.toNat_natCast]
  refine w_mapP (fun (c : Nat) => D.tup [.int (2 * (c : Int) + 1), .int (2 * r + 1), .int 2]) (fun c _ => ?_) ?_
  · walk_at "w"
    exact w_middle rfl
  · walk_at "w"
    exact h
theorem w_mask_of {Φ : D → Prop} {f : Nat → Bool} {n : Nat} (hn : n ≤ 1000) (h : Φ (.int ((mkB f n : Nat) : Int))) : Tl (m_mask_of [.lst ((List.range n).map fun k => .bl (f k))]) Φ := by
  unfold m_mask_of
  walk_at "w"
  rw [numbered_range]
  refine w_upto (fun j ρ => ∃ v2 v3 : Cl, ρ = [.im (.lst ((List.range n).map fun k => .bl (f k))), .im (.int ((mkB f j : Nat) : Int)), v2, v3]) ⟨_, _, rfl⟩ ?_ ?_
  · rintro j hj ρ ⟨v2, v3, rfl⟩
    walk_at "w"
    rw [mkB_succ]
    refine w_bool (fun e => ?_) (fun e => ?_)
    · walk_at "w"
      refine w_shl1 (by omega) ?_
      refine w_borN ?_
      rw [mkB_or]
      rw [if_pos e]
      exact ⟨_, rfl, _, _, rfl⟩
    · walk_at "w"
      rw [if_neg (by rw [e]; exact Bool.false_ne_true), Nat.add_zero]
      exact ⟨_, rfl, _, _, rfl⟩
  · rintro ρ ⟨v2, v3, rfl⟩
    walk_at "w"
    exact h

theorem mid_cr {c : Nat} {r : Int} (hc : c ≤ 1000) (hr : 0 ≤ r ∧ r ≤ 1000) : Cr (2 * (c : Int) + 1) (2 * r + 1) 2 := ⟨sm6 (by omega), sm6 (by omega), sm6 (by omega)⟩

theorem sd3_one {s m n : Int} : sd3 s m n = 1 ↔ 0 < s ∨ (s = 0 ∧ (0 < m ∨ (m = 0 ∧ 0 < n))) := by
  rw [sd3_iff sg_eq1 sg_eq1 sg_eq1]
  omega
theorem mul0 {a b : Int} (ha : 0 < a) (hb : 0 ≤ b) : 0 ≤ a * b := Int.mul_nonneg (Int.le_of_lt ha) hb
theorem zero_of {a b c x y z : Int} (ha : 0 < a) (hb : 0 < b) (hc : 0 < c) (hx : 0 ≤ x) (hy : 0 ≤ y) (hz : 0 ≤ z) (h : a * x + b * y + c * z ≤ 0) : x = 0 ∧ y = 0 ∧ z = 0 := by
  have h1 := mul0 ha hx
  have h2 := mul0 hb hy
  have h3 := mul0 hc hz
  refine ⟨?_, ?_, ?_⟩
  · rcases Int.mul_eq_zero.mp (show a * x = 0 by omega) with h | h <;> omega
  · rcases Int.mul_eq_zero.mp (show b * y = 0 by omega) with h | h <;> omega
  · rcases Int.mul_eq_zero.mp (show c * z = 0 by omega) with h | h <;> omega
theorem own_pos {ax ay aw bx bY bw cx cy cw px py ps : Int} (ha : 0 < aw) (hb : 0 < bw) (hc : 0 < cw) (hp : 0 < ps) (h1 : sdE ax ay aw bx bY bw px py ps = 1) (h2 : sdE bx bY bw cx cy cw px py ps = 1) (h3 : sdE cx cy cw ax ay aw px py ps = 1) : 0 < ow ax ay aw bx bY bw cx cy cw := by
  unfold sdE at h1 h2 h3
  rw [sd3_one] at h1 h2 h3
  have i0 : aw * ow bx bY bw cx cy cw px py ps + bw * ow cx cy cw ax ay aw px py ps + cw * ow ax ay aw bx bY bw px py ps = ow ax ay aw bx bY bw cx cy cw * ps := by unfold ow; grind
  have i1 : aw * (bY * cw - bw * cy) + bw * (cy * aw - cw * ay) + cw * (ay * bw - aw * bY) = 0 := by grind
  have i2 : aw * (bw * cx - bx * cw) + bw * (cw * ax - cx * aw) + cw * (aw * bx - ax * bw) = 0 := by grind
  generalize ow bx bY bw cx cy cw px py ps = e at *
  generalize ow cx cy cw ax ay aw px py ps = f at *
  generalize ow ax ay aw bx bY bw px py ps = g at *
  generalize ow ax ay aw bx bY bw cx cy cw = o at *
  by_cases ho : 0 < o
  · exact ho
  exfalso
  have ho' : o * ps ≤ 0 := by
    have := Int.mul_nonneg (show 0 ≤ -o by omega) (show 0 ≤ ps by omega)
    rw [Int.neg_mul] at this
    omega
  obtain ⟨z1, z2, z3⟩ := zero_of ha hb hc (x := e) (y := f) (z := g) (by omega) (by omega) (by omega) (by omega)
  obtain ⟨y1, y2, y3⟩ := zero_of ha hb hc (x := bY * cw - bw * cy) (y := cy * aw - cw * ay) (z := ay * bw - aw * bY) (by omega) (by omega) (by omega) (by omega)
  obtain ⟨x1, x2, x3⟩ := zero_of ha hb hc (x := bw * cx - bx * cw) (y := cw * ax - cx * aw) (z := aw * bx - ax * bw) (by omega) (by omega) (by omega) (by omega)
  omega
theorem own_neg {ax ay aw bx bY bw cx cy cw px py ps : Int} (ha : 0 < aw) (hb : 0 < bw) (hc : 0 < cw) (hp : 0 < ps) (h1 : sdE ax ay aw bx bY bw px py ps = -1) (h2 : sdE bx bY bw cx cy cw px py ps = -1) (h3 : sdE cx cy cw ax ay aw px py ps = -1) : ow ax ay aw bx bY bw cx cy cw < 0 := by
  have z := own_pos hc hb ha hp (by rw [sdE_opp bx bY bw cx cy cw, h2]; rfl) (by rw [sdE_opp ax ay aw bx bY bw, h1]; rfl) (by rw [sdE_opp cx cy cw ax ay aw, h3]; rfl)
  have e : ow cx cy cw bx bY bw ax ay aw = - ow ax ay aw bx bY bw cx cy cw := by unfold ow; grind
  omega
noncomputable abbrev hdE (ax ay aw bx bY bw cx cy cw px py ps : Int) : Int := hd3 (sdE ax ay aw bx bY bw px py ps) (sdE bx bY bw cx cy cw px py ps) (sdE cx cy cw ax ay aw px py ps)
theorem hd3_cases {x y z : Int} (hx : x = 1 ∨ x = 0 ∨ x = -1) (h : hd3 x y z ≠ 0) : ∃ e, (e = 1 ∨ e = -1) ∧ x = e ∧ y = e ∧ z = e := by
  unfold hd3 at h
  split at h
  · exact ⟨x, by omega, rfl, by omega, by omega⟩
  · exact absurd rfl h
theorem w_compX {Φ : D → Prop} {it : MI} {own : Nat} {cap : List Nat} {g : MG} {t : MB} {e : ME} {ρ : Ev} (h : Tl (it ρ) fun xs => xs.length ≤ 1000000 ∧ Tl (compGo g t e (noA own (capD ρ cap)) xs) fun ys => Φ (.lst ys)) : Tl (compX it own cap g t e ρ) Φ := by
  obtain ⟨xs, e1, hl, ys, e2, q⟩ := h
  refine tl_of ?_ q
  unfold compX
  rw [e1]
  show (if xs.length ≤ LIM then (compGo g t e (noA own (capD ρ cap)) xs).bind (fun ys => Res.ok (D.lst ys)) else .bad) = _
  rw [if_pos (show xs.length ≤ LIM from hl), e2]
  rfl

theorem w_row_mask {Φ : D → Prop} {ax ay aw ah bx bY bw bh cx cy cw ch : Int} {av bv cv : List Int} {n : Nat} {r : Int} (ha : 1 ≤ aw) (hb : 1 ≤ bw) (hc : 1 ≤ cw) (a : Cr ax ay aw) (b : Cr bx bY bw) (c : Cr cx cy cw) (hn : n ≤ 1000) (hr : 0 ≤ r ∧ r ≤ 1000) (h : Φ (.int ((mkB (fun k => !decide (hdE ax ay aw bx bY bw cx cy cw (2 * (k : Int) + 1) (2 * r + 1) 2 = 0)) n : Nat) : Int))) : Tl (m_row_mask [.tup [cor ax ay aw ah av, cor bx bY bw bh bv, cor cx cy cw ch cv], .int (n : Int), .int r]) Φ := by
  unfold m_row_mask
  walk_at "w"
  refine w_check ha hb hc ?_
  walk_at "w"
  refine w_compX ?_
  walk_at "w"
  refine w_middles hn ?_
  walk_at "w"
  refine ⟨by simp; omega, ?_⟩
  refine w_mapP (fun (k : Nat) => D.bl (!decide (hdE ax ay aw bx bY bw cx cy cw (2 * (k : Int) + 1) (2 * r + 1) 2 = 0))) (fun k hk => ?_) ?_
  · have : k < n := List.mem_range.mp hk
    walk_at "w"
    refine w_had ha hb hc a b c (mid_cr (by omega) hr) ?_
    walk_at "w"
  · walk_at "w"
    refine w_mask_of hn ?_
    walk_at "w"
    exact h
theorem x_row_mask {tr n r : D} (h : m_check_before_eye [tr] = .ex "BadTriangle") : m_row_mask [tr, n, r] = .ex "BadTriangle" := by
  unfold m_row_mask
  refine x_fn (x_sq1 (x_drp (x_on ?_)))
  walk_at "w"
  exact h

noncomputable def Dw (r : Int) : Prop := 0 ≤ r ∧ r < 2147483648
theorem w_draws {Φ : D → Prop} {cc : Int} {n : Nat} (hn : n ≤ 900) (q : ∀ rs : List Int, rs.length = n → (∀ r ∈ rs, Dw r) → Φ (.lst (rs.map .int))) : Tl (m__law_draws [.int cc, .int (n : Int)]) Φ := by
  unfold m__law_draws
  walk_at "w"
  refine ⟨by simp [rangeD]; omega, ?_⟩
  rw [rangeD_eq, Int.toNat_natCast]
  refine w_all (fun _ y => ∃ r : Int, y = .int r ∧ Dw r) (fun x hx => ?_) fun ys ly hy => ?_
  · obtain ⟨k, hk, rfl⟩ := List.mem_map.mp hx
    have hk := List.mem_range.mp hk
    walk_at "w"
    exact w_mixed (by omega) fun r hr => ⟨r, rfl, hr⟩
  · have l : ys.length = n := by simpa using ly
    have hy' : ∀ y ∈ ys, ∃ r : Int, y = .int r ∧ Dw r := fun y hm => by
      obtain ⟨i, hi, rfl⟩ := List.mem_iff_getElem.mp hm
      exact hy i _ _ (List.getElem?_eq_getElem (by omega)) (List.getElem?_eq_getElem hi)
    obtain ⟨rs, rfl, hrs⟩ : ∃ rs : List Int, ys = rs.map .int ∧ ∀ r ∈ rs, Dw r := by
      clear l hy ly q
      induction ys with
      | nil => exact ⟨[], rfl, fun _ h => (List.not_mem_nil h).elim⟩
      | cons y t ih =>
        obtain ⟨r, rfl, hr⟩ := hy' y List.mem_cons_self
        obtain ⟨rs, rfl, hrs⟩ := ih fun z hz => hy' z (List.mem_cons_of_mem _ hz)
        refine ⟨r :: rs, rfl, fun u hu => ?_⟩
        rcases List.mem_cons.mp hu with rfl | hu
        · exact hr
        · exact hrs u hu
    walk_at "w"
    exact q rs (by simpa using l) hrs
structure Ck (x y w h : Int) : Prop where
  x : Bd x
  y : Bd y
  w : 1 ≤ w ∧ w ≤ 1000000
  h : 1 ≤ h ∧ h ≤ 1000000
theorem Ck.cr {x y w h : Int} (c : Ck x y w h) : Cr x y w := ⟨c.x.s, c.y.s, sm6 ⟨by have := c.w; omega, by have := c.w; omega⟩⟩
theorem cut2 (a b : D) (r : List D) : cutL (a :: b :: r) none (some 2) = [a, b] := by
  unfold cutL cutAt
  have : min (2 : Int).toNat (a :: b :: r).length = 2 := by simp
  simp only []
  rw [if_neg (by decide), this]
  rfl
theorem six {rs : List Int} (h : 6 ≤ rs.length) : ∃ n0 n1 n2 n3 n4 n5 t, rs = n0 :: n1 :: n2 :: n3 :: n4 :: n5 :: t := by
  rcases rs with _ | ⟨n0, _ | ⟨n1, _ | ⟨n2, _ | ⟨n3, _ | ⟨n4, _ | ⟨n5, t⟩⟩⟩⟩⟩⟩ <;> first | exact ⟨_, _, _, _, _, _, _, rfl⟩ | (exfalso; simp at h)
theorem sc_bd {s t e : Int} (hs : 1 ≤ s ∧ s ≤ 8) (ht : 1 ≤ t ∧ t ≤ 3) (he : 0 ≤ e ∧ e ≤ s * 8) : Bd (t * (e - s)) := by
  have a1 : t * (-8) ≤ t * (e - s) := Int.mul_le_mul_of_nonneg_left (by omega) (by omega)
  have a2 : t * (e - s) ≤ t * 64 := Int.mul_le_mul_of_nonneg_left (by omega) (by omega)
  exact ⟨by omega, by omega⟩
theorem w_corner3 {Φ : D → Prop} {rs : List Int} {many : Nat} (hm : many ≤ 3) (hl : rs.length = 6 + many) (hr : ∀ r ∈ rs, Dw r) (q : ∀ (x y w h : Int) (vs : List Int), Ck x y w h → vs.length = many → (∀ v ∈ vs, Bd v) → Φ (cor x y w h vs)) : Tl (m__law_corner [.lst (rs.map .int), .int (many : Int)]) Φ := by
  obtain ⟨n0, n1, n2, n3, n4, n5, t, rfl⟩ := six (rs := rs) (by omega)
  have lt : t.length = many := by simp at hl; omega
  have d0 := hr n0 (by simp)
  have d1 := hr n1 (by simp)
  have d2 := hr n2 (by simp)
  have d3 := hr n3 (by simp)
  have d4 := hr n4 (by simp)
  have d5 := hr n5 (by simp)
  unfold Dw at d0 d1 d2 d3 d4 d5
  unfold m__law_corner
  walk_at "w"
  rw [show cutL ((n0 :: n1 :: n2 :: n3 :: n4 :: n5 :: t).map D.int) none (some 2) = [.int n0, .int n1] from cut2 _ _ _]
  walk_at "w"
  refine w_ixL (by simp; omega) fun d hd => ?_
  have hd' : ∃ s : Int, d = .int s ∧ 1 ≤ s ∧ s ≤ 8 := by
    simp only [List.mem_cons, List.not_mem_nil, or_false] at hd
    rcases hd with rfl | rfl | rfl | rfl
    · exact ⟨_, rfl, by decide⟩
    · exact ⟨_, rfl, by decide⟩
    · exact ⟨_, rfl, by decide⟩
    · exact ⟨_, rfl, by decide⟩
  obtain ⟨s, rfl, hs⟩ := hd'
  walk_at "w"
  have ht : 1 ≤ 1 + n0 / 16 % 3 ∧ 1 + n0 / 16 % 3 ≤ 3 := by omega
  generalize 1 + n0 / 16 % 3 = tm at *
  have hx : Bd (tm * (n0 / 64 % (s * 8 + 1) - s)) := sc_bd hs ht (by
    have := Int.emod_nonneg (n0 / 64) (show s * 8 + 1 ≠ 0 by omega)
    have := Int.emod_lt_of_pos (n0 / 64) (show 0 < s * 8 + 1 by omega)
    omega)
  have hy : Bd (tm * (n1 % (s * 8 + 1) - s)) := sc_bd hs ht (by
    have := Int.emod_nonneg n1 (show s * 8 + 1 ≠ 0 by omega)
    have := Int.emod_lt_of_pos n1 (show 0 < s * 8 + 1 by omega)
    omega)
  have hw : 1 ≤ s * tm ∧ s * tm ≤ 1000000 := by
    have a1 : 0 < s * tm := Int.mul_pos (by omega) (by omega)
    have a2 : s * tm ≤ s * 3 := Int.mul_le_mul_of_nonneg_left (by omega) (by omega)
    omega
  generalize tm * (n0 / 64 % (s * 8 + 1) - s) = x at *
  generalize tm * (n1 % (s * 8 + 1) - s) = y at *
  generalize s * tm = w at *
  refine w_ixL (by simp; omega) fun d hd => ?_
  have hd' : ∃ h : Int, d = .int h ∧ 1 ≤ h ∧ h ≤ 1000000 := by
    simp only [List.mem_cons, List.not_mem_nil, or_false] at hd
    rcases hd with rfl | rfl | rfl | rfl
    · exact ⟨_, rfl, by decide⟩
    · exact ⟨_, rfl, by omega⟩
    · exact ⟨_, rfl, by omega⟩
    · exact ⟨_, rfl, by omega⟩
  obtain ⟨h, rfl, hh⟩ := hd'
  walk_at "w"
  refine ⟨by simp [rangeD]; omega, ?_⟩
  rw [Int.toNat_natCast]
  refine w_draw (fun k hk => ?_) fun vs lv bv => ?_
  · walk_at "w"
    show Tl (dIx (.lst ((n0 :: n1 :: n2 :: n3 :: n4 :: n5 :: t).map .int)) _) _
    refine w_ixI (by rw [hl]; omega) fun u hu => ?_
    walk_at "w"
    exact ⟨_, rfl, by omega, by omega⟩
  walk_at "w"
  refine Tl.mono (Ψ := fun f => ∃ (x y w h : Int) (vs : List Int), Ck x y w h ∧ vs.length = many ∧ (∀ v ∈ vs, Bd v) ∧ f = Fl.nx [.im (.lst ((n0 :: n1 :: n2 :: n3 :: n4 :: n5 :: t).map .int)), .im (.int (many : Int)), .im (.int n0), .im (.int n1), .im (.int s), .im (.int tm), .im (.int x), .im (.int y), .im (.int w), .im (.int h), .im (.tup (vs.map .int))]) ?_ ?_
  · refine w_dec (fun _ => ?_) (fun _ => ?_)
    · walk_at "w"
      refine ⟨by simp [rangeD]; omega, ?_⟩
      rw [Int.toNat_natCast]
      refine w_draw (fun k hk => ?_) fun vs lv bv => ?_
      · walk_at "w"
        show Tl (dIx (.lst ((n0 :: n1 :: n2 :: n3 :: n4 :: n5 :: t).map .int)) _) _
        refine w_ixI (by rw [hl]; omega) fun u hu => ?_
        walk_at "w"
        exact ⟨_, rfl, by omega, by omega⟩
      walk_at "w"
      exact ⟨_, _, _, _, vs, ⟨⟨by omega, by omega⟩, ⟨by omega, by omega⟩, by omega, by omega⟩, lv, bv, rfl⟩
    · walk_at "w"
      exact ⟨_, _, _, _, vs, ⟨hx, hy, hw, hh⟩, lv, bv, rfl⟩
  rintro f ⟨x, y, w, h, vs, ck, lv, bv, rfl⟩
  walk_at "w"
  refine w_dec (fun _ => ?_) (fun _ => ?_)
  · walk_at "w"
    exact q _ _ _ _ vs ⟨⟨by omega, by omega⟩, ck.y, by omega, ck.h⟩ lv bv
  · walk_at "w"
    exact q _ _ _ _ vs ck lv bv

theorem cut_to {rs : List Int} {k : Nat} (h : k ≤ rs.length) : cutL (rs.map .int) none (some (k : Int)) = (rs.take k).map .int := by
  unfold cutL cutAt
  rw [List.length_map]
  simp only []
  rw [if_neg (by omega), Int.toNat_natCast, Nat.min_eq_left h, List.drop_zero, Nat.sub_zero, List.map_take]
theorem cut_mid {rs : List Int} {i k : Nat} (h0 : i ≤ k) (h : k ≤ rs.length) : cutL (rs.map .int) (some (i : Int)) (some (k : Int)) = ((rs.drop i).take (k - i)).map .int := by
  unfold cutL cutAt
  rw [List.length_map]
  simp only []
  rw [if_neg (by omega), if_neg (by omega), Int.toNat_natCast, Int.toNat_natCast, Nat.min_eq_left h, Nat.min_eq_left (Nat.le_trans h0 h), List.map_take, List.map_drop]
noncomputable def isC (k : Nat) (d : D) : Prop := ∃ (x y w h : Int) (vs : List Int), d = cor x y w h vs ∧ Ck x y w h ∧ vs.length = k ∧ ∀ v ∈ vs, Bd v
noncomputable def isT (k : Nat) (d : D) : Prop := ∃ a b c : D, d = .tup [a, b, c] ∧ isC k a ∧ isC k b ∧ isC k c
noncomputable def isR (n : Nat) (d : D) : Prop := ∃ rs : List Int, d = .lst (rs.map .int) ∧ rs.length = n ∧ ∀ r ∈ rs, Dw r
theorem w_ixP {Φ : D → Prop} {xs : List D} {i : Int} {P : D → Prop} (h : 0 ≤ i ∧ i < xs.length) (hp : ∀ x ∈ xs, P x) (q : ∀ x, P x → Φ x) : Tl (dIx (.lst xs) (.int i)) Φ := w_ixL h fun x hx => q x (hp x hx)
theorem all_of {xs ys : List D} {P : D → Prop} (ly : ys.length = xs.length) (hy : ∀ (i : Nat) x y, xs[i]? = some x → ys[i]? = some y → P y) : ∀ y ∈ ys, P y := fun y hm => by
  obtain ⟨i, hi, rfl⟩ := List.mem_iff_getElem.mp hm
  exact hy i _ _ (List.getElem?_eq_getElem (by omega)) (List.getElem?_eq_getElem hi)
theorem w_triangles {Φ : D → Prop} {ns : List Int} {first : Int} {most many : Nat} (hf : 0 ≤ first ∧ first ≤ 100) (hmo : most ≤ 6) (hm : many ≤ 3) (q : ∀ ts : List D, ts.length ≤ most → (∀ t ∈ ts, isT many t) → Φ (.lst ts)) : Tl (m__law_triangles [.lst (ns.map .int), .int first, .int (most : Int), .int (many : Int)]) Φ := by
  unfold m__law_triangles
  walk_at "w"
  refine ⟨by simp [rangeD], ?_⟩
  refine w_all (fun _ y => isR (3 * (6 + many)) y) (fun x hx => ?_) fun ys ly hy => ?_
  · obtain ⟨k, hk, rfl⟩ := mem_range hx
    walk_at "w"
    refine w_cell_at (by omega) fun cc => ?_
    walk_at "w"
    rw [show (3 * (6 + (many : Int))) = ((3 * (6 + many) : Nat) : Int) by omega]
    exact w_draws (by omega) fun rs lr hr => ⟨rs, rfl, lr, hr⟩
  have hy := all_of ly hy
  have ly : ys.length = 6 := ly
  walk_at "w"
  refine ⟨by rw [ly]; decide, ?_⟩
  refine w_all (fun _ y => isC many y) (fun x hx => ?_) fun zs lz hz => ?_
  · obtain ⟨rs, rfl, lr, hr⟩ := hy x hx
    walk_at "w"
    rw [show (6 + (many : Int)) = ((6 + many : Nat) : Int) by omega, cut_to (by omega)]
    exact w_corner3 hm (by rw [List.length_take]; omega) (fun r h => hr r (List.mem_of_mem_take h)) fun x y w h vs ck lv bv => ⟨x, y, w, h, vs, rfl, ck, lv, bv⟩
  have hz := all_of lz hz
  have lz : zs.length = 6 := lz.trans ly
  walk_at "w"
  refine w_cell_at (by omega) fun cc => ?_
  walk_at "w"
  rw [show ((most : Int) + 1) = ((most + 1 : Nat) : Int) by omega]
  refine w_draws (by omega) fun ds ld hd => ?_
  walk_at "w"
  refine w_ixI (by rw [ld]; omega) fun d0 hd0 => ?_
  have d0' : Dw d0 := hd d0 hd0
  unfold Dw at d0'
  walk_at "w"
  have hn : 0 ≤ d0 % ((most : Int) + 1) ∧ d0 % ((most : Int) + 1) ≤ most := by
    have := Int.emod_nonneg d0 (show (most : Int) + 1 ≠ 0 by omega)
    have := Int.emod_lt_of_pos d0 (show (0 : Int) < (most : Int) + 1 by omega)
    omega
  generalize d0 % ((most : Int) + 1) = m at hn ⊢
  walk_at "w"
  rw [rangeD_eq]
  refine w_upto (fun j ρ => ∃ (ts : List D) (v9 v10 v11 : Cl), ts.length = j ∧ (∀ t ∈ ts, isT many t) ∧ ρ = [.im (.lst (ns.map .int)), .im (.int first), .im (.int (most : Int)), .im (.int (many : Int)), .im (.int (6 + (many : Int))), .im (.lst ys), .im (.lst zs), .im (.lst (ds.map .int)), .ow ts, v9, v10, v11]) ⟨[], _, _, _, rfl, fun _ h => (List.not_mem_nil h).elim, rfl⟩ ?_ ?_
  · rintro j hj ρ ⟨ts, v9, v10, v11, lt, ht, rfl⟩
    walk_at "w"
    refine w_ixI (by rw [ld]; omega) fun dj hdj => ?_
    have dj' : Dw dj := hd dj hdj
    unfold Dw at dj'
    walk_at "w"
    refine w_ixP (by rw [lz]; omega) hz fun A hA => ?_
    walk_at "w"
    refine w_ixP (by rw [lz]; omega) hz fun B hB => ?_
    walk_at "w"
    refine w_ixP (by rw [lz]; omega) hz fun C hC => ?_
    walk_at "w"
    refine Tl.mono (Ψ := fun f => ∃ A B C : D, isC many A ∧ isC many B ∧ isC many C ∧ f = Fl.nx [.im (.lst (ns.map .int)), .im (.int first), .im (.int (most : Int)), .im (.int (many : Int)), .im (.int (6 + (many : Int))), .im (.lst ys), .im (.lst zs), .im (.lst (ds.map .int)), .ow ts, .im (.int (j : Int)), .im (.int dj), .im (.lst [A, B, C])]) ?_ ?_
    · refine w_dec (fun _ => ?_) (fun _ => ?_)
      · walk_at "w"
        refine ⟨by simp [rangeD], ?_⟩
        refine w_all (fun _ y => isC many y) (fun x hx => ?_) fun us lu hu => ?_
        · obtain ⟨k, hk, rfl⟩ := mem_range hx
          walk_at "w"
          refine w_ixP (by rw [ly]; omega) hy fun row hrow => ?_
          obtain ⟨rs, rfl, lr, hr⟩ := hrow
          have k3 : k < 3 := hk
          have ka : (6 + many) * k ≤ (6 + many) * 2 := Nat.mul_le_mul_left _ (by omega)
          walk_at "w"
          rw [show (6 + (many : Int)) * (k : Int) = (((6 + many) * k : Nat) : Int) by rw [Int.natCast_mul]; rfl, show (((6 + many) * k : Nat) : Int) + (6 + (many : Int)) = (((6 + many) * k + (6 + many) : Nat) : Int) by omega, cut_mid (by omega) (by omega)]
          exact w_corner3 hm (by rw [List.length_take, List.length_drop]; omega) (fun r h => hr r (List.mem_of_mem_drop (List.mem_of_mem_take h))) fun x y w h vs ck lv bv => ⟨x, y, w, h, vs, rfl, ck, lv, bv⟩
        have hu := all_of lu hu
        have lu : us.length = 3 := lu
        walk_at "w"
        match us, lu with
        | [A, B, C], _ => exact ⟨A, B, C, hu A (by simp), hu B (by simp), hu C (by simp), rfl⟩
      · walk_at "w"
        exact ⟨A, B, C, hA, hB, hC, rfl⟩
    rintro f ⟨A, B, C, hA, hB, hC, rfl⟩
    walk_at "w"
    refine ⟨by omega, _, rfl, ts ++ [.tup [A, B, C]], _, _, _, by simp [lt], fun t h => ?_, rfl⟩
    rcases List.mem_append.mp h with h | h
    · exact ht t h
    · simp only [List.mem_cons, List.not_mem_nil, or_false] at h
      subst h
      exact ⟨A, B, C, rfl, hA, hB, hC⟩
  · rintro ρ ⟨ts, v9, v10, v11, lt, ht, rfl⟩
    walk_at "w"
    exact q ts (by omega) ht

theorem w_filtR {α : Type} {Φ : List D → Prop} {g : MG} {t : MB} {e : ME} {ρ : Ev} {enc : α → D} (f : α → Bool) : ∀ {l : List α}, (∀ a ∈ l, Tl (g (enc a) ρ) fun ρ1 => Tl (t ρ1) fun b => b = f a ∧ Tl (e ρ1) fun y => y = enc a) → Φ ((l.filter f).map enc) → Tl (compGo g t e ρ (l.map enc)) Φ := by
  intro l h q
  have key : ∀ l : List α, (∀ a ∈ l, Tl (g (enc a) ρ) fun ρ1 => Tl (t ρ1) fun b => b = f a ∧ Tl (e ρ1) fun y => y = enc a) → Tl (compGo g t e ρ (l.map enc)) fun ys => ys = (l.filter f).map enc := by
    intro l
    induction l with
    | nil => exact fun _ => w_cg0 rfl
    | cons x r ih =>
      intro h
      obtain ⟨ρ1, e1, b, e2, hb, y, e4, hy⟩ := h x List.mem_cons_self
      have z := ih fun y hy => h y (List.mem_cons_of_mem _ hy)
      rw [List.map_cons]
      refine w_cg1 ⟨ρ1, e1, b, e2, ?_⟩
      rw [List.filter_cons]
      subst hb hy
      cases hf : f x with
      | true =>
        rw [if_pos rfl, if_pos rfl, e4]
        obtain ⟨ys, e5, rfl⟩ := z
        rw [e5]
        exact tl_ok rfl
      | false =>
        rw [if_neg Bool.false_ne_true, if_neg Bool.false_ne_true]
        exact z
  obtain ⟨ys, e1, rfl⟩ := key l h
  exact tl_of e1 q
theorem sd3_big {s m n N : Int} (h : (m.natAbs : Int) + n.natAbs < N) : sd3 s m n = sg (s * (N * N) + m * N + n) := by
  have hN : 0 < N := by omega
  have k1 : ((m.natAbs : Int) + n.natAbs) * N ≤ (N - 1) * N := Int.mul_le_mul_of_nonneg_right (by omega) (by omega)
  have k2 : (N - 1) * N = N * N - N := by rw [Int.sub_mul, Int.one_mul]
  have k3 : ((m.natAbs : Int) + n.natAbs) * N = (m.natAbs : Int) * N + (n.natAbs : Int) * N := Int.add_mul _ _ _
  have k4 : (n.natAbs : Int) ≤ (n.natAbs : Int) * N := by
    have := Int.mul_le_mul_of_nonneg_left (show 1 ≤ N by omega) (show 0 ≤ (n.natAbs : Int) by omega)
    omega
  have k5 : m * N ≤ (m.natAbs : Int) * N := Int.mul_le_mul_of_nonneg_right (by omega) (by omega)
  have k6 : -((m.natAbs : Int) * N) ≤ m * N := by
    have := Int.mul_le_mul_of_nonneg_right (show -(m.natAbs : Int) ≤ m by omega) (show 0 ≤ N by omega)
    rw [Int.neg_mul] at this
    exact this
  unfold sd3
  by_cases hs : s = 0
  · rw [if_pos hs]
    subst hs
    rw [Int.zero_mul, Int.zero_add]
    by_cases hm : m = 0
    · rw [if_pos hm]
      subst hm
      rw [Int.zero_mul, Int.zero_add]
    · rw [if_neg hm]
      rcases Int.lt_or_gt_of_ne hm with z | z
      · have := Int.mul_le_mul_of_nonneg_right (show m ≤ -1 by omega) (show 0 ≤ N by omega)
        rw [sg_neg z, sg_neg (by omega)]
      · have := Int.mul_le_mul_of_nonneg_right (show 1 ≤ m by omega) (show 0 ≤ N by omega)
        rw [sg_pos z, sg_pos (by omega)]
  · rw [if_neg hs]
    have nn : 0 ≤ N * N := Int.mul_nonneg (by omega) (by omega)
    rcases Int.lt_or_gt_of_ne hs with z | z
    · have := Int.mul_le_mul_of_nonneg_right (show s ≤ -1 by omega) nn
      rw [sg_neg z, sg_neg (by omega)]
    · have := Int.mul_le_mul_of_nonneg_right (show 1 ≤ s by omega) nn
      rw [sg_pos z, sg_pos (by omega)]
theorem ow_move (ax ay aw bx bY bw px py ps N : Int) : ow ax ay aw bx bY bw (px * (N * N) + N) (py * (N * N) + 1) (ps * (N * N)) = ow ax ay aw bx bY bw px py ps * (N * N) + (ay * bw - aw * bY) * N + (aw * bx - ax * bw) := by
  unfold ow
  grind
noncomputable abbrev upE (ay aw py ps : Int) : Bool := decide (py * aw < ay * ps)
noncomputable def crB (a b : Bool) (s : Int) : Int := if (!a && b && decide (s = 1)) = true then 1 else if (a && !b && decide (s = -1)) = true then -1 else 0
noncomputable abbrev crE (ax ay aw bx bY bw px py ps : Int) : Int := crB (upE ay aw py ps) (upE bY bw py ps) (sdE ax ay aw bx bY bw px py ps)
theorem crB_opp (a b : Bool) (s : Int) : crB b a (-s) = - crB a b s := by
  unfold crB
  cases a <;> cases b <;> simp <;> split <;> (try split) <;> omega
theorem crE_opp (ax ay aw bx bY bw px py ps : Int) : crE bx bY bw ax ay aw px py ps = - crE ax ay aw bx bY bw px py ps := by
  unfold crE
  rw [sdE_opp ax ay aw bx bY bw, crB_opp]
theorem msgn {x d u : Int} (e : u = x * d) (hd : 0 < d) : (0 < x → 0 < u) ∧ (x < 0 → u < 0) ∧ (x = 0 → u = 0) := by
  subst e
  exact ⟨fun h => Int.mul_pos h hd, fun h => Int.mul_neg_of_neg_of_pos h hd, fun h => by rw [h, Int.zero_mul]⟩
theorem msgn' {x d u : Int} (e : u = x * d) (hd : d < 0) : (0 < x → u < 0) ∧ (x < 0 → 0 < u) ∧ (x = 0 → u = 0) := by
  subst e
  exact ⟨fun h => Int.mul_neg_of_pos_of_neg h hd, fun h => Int.mul_pos_of_neg_of_neg h hd, fun h => by rw [h, Int.zero_mul]⟩
noncomputable def Ud (a : Bool) (d : Int) : Prop := if a = true then 0 < d else d < 0
noncomputable def vl3 (x : Fin 3) : Int := (x.val : Int) - 1
noncomputable def tw (a : Bool) (x : Fin 3) : Int := if a = true then vl3 x else - vl3 x
theorem fin_core : ∀ (a b c : Bool) (x y z : Fin 3), ¬ (0 ≤ tw a x ∧ 0 ≤ tw b y ∧ 0 ≤ tw c z ∧ (0 < tw a x ∨ 0 < tw b y ∨ 0 < tw c z)) → ¬ (tw a x ≤ 0 ∧ tw b y ≤ 0 ∧ tw c z ≤ 0 ∧ (tw a x < 0 ∨ tw b y < 0 ∨ tw c z < 0)) → (vl3 x = 0 → b = c) → (vl3 y = 0 → c = a) → (vl3 z = 0 → a = b) → hd3 (vl3 z) (vl3 x) (vl3 y) = crB a b (vl3 z) + crB b c (vl3 x) + crB c a (vl3 y) := by
  unfold hd3 crB tw vl3
  decide
theorem sg_fin {a : Bool} {E d : Int} (h : Ud a d) : ∃ x : Fin 3, sg E = vl3 x ∧ (vl3 x = 0 ↔ E = 0) ∧ (0 < tw a x ↔ 0 < E * d) ∧ (tw a x < 0 ↔ E * d < 0) := by
  unfold Ud at h
  rcases sg_of (x := E) with ⟨s, t⟩ | ⟨s, t⟩ | ⟨s, t⟩
  · refine ⟨2, s, ⟨fun z => absurd z (by decide), fun z => by omega⟩, ?_⟩
    cases a with
    | true =>
      have := (msgn rfl (show 0 < d from h) : (0 < E → 0 < E * d) ∧ _).1 t
      exact ⟨⟨fun _ => this, fun _ => by decide⟩, ⟨fun z => absurd z (by decide), fun z => by omega⟩⟩
    | false =>
      have := (msgn' rfl (show d < 0 from h) : (0 < E → E * d < 0) ∧ _).1 t
      exact ⟨⟨fun z => absurd z (by decide), fun z => by omega⟩, ⟨fun _ => this, fun _ => by decide⟩⟩
  · refine ⟨1, s, ⟨fun _ => t, fun _ => rfl⟩, ?_⟩
    rw [t, Int.zero_mul]
    cases a with
    | true => exact ⟨⟨fun z => absurd z (by decide), fun z => by omega⟩, ⟨fun z => absurd z (by decide), fun z => by omega⟩⟩
    | false => exact ⟨⟨fun z => absurd z (by decide), fun z => by omega⟩, ⟨fun z => absurd z (by decide), fun z => by omega⟩⟩
  · refine ⟨0, s, ⟨fun z => absurd z (by decide), fun z => by omega⟩, ?_⟩
    cases a with
    | true =>
      have := (msgn rfl (show 0 < d from h) : _ ∧ (E < 0 → E * d < 0) ∧ _).2.1 t
      exact ⟨⟨fun z => absurd z (by decide), fun z => by omega⟩, ⟨fun _ => this, fun _ => by decide⟩⟩
    | false =>
      have := (msgn' rfl (show d < 0 from h) : _ ∧ (E < 0 → 0 < E * d) ∧ _).2.1 t
      exact ⟨⟨fun _ => this, fun _ => by decide⟩, ⟨fun z => absurd z (by decide), fun z => by omega⟩⟩
theorem cross_core {a b c : Bool} {E F G dA dB dC : Int} (ha : Ud a dA) (hb : Ud b dB) (hc : Ud c dC) (id0 : E * dA + F * dB + G * dC = 0) (zE : E = 0 → b = c) (zF : F = 0 → c = a) (zG : G = 0 → a = b) : hd3 (sg G) (sg E) (sg F) = crB a b (sg G) + crB b c (sg E) + crB c a (sg F) := by
  obtain ⟨x, ex, x0, x1, x2⟩ := sg_fin (E := E) ha
  obtain ⟨y, ey, y0, y1, y2⟩ := sg_fin (E := F) hb
  obtain ⟨z, ez, z0, z1, z2⟩ := sg_fin (E := G) hc
  rw [ex, ey, ez]
  generalize E * dA = u at *
  generalize F * dB = v at *
  generalize G * dC = w at *
  refine fin_core a b c x y z (fun h => ?_) (fun h => ?_) (fun h => zE (x0.mp h)) (fun h => zF (y0.mp h)) (fun h => zG (z0.mp h))
  · clear ex ey ez x0 y0 z0 ha hb hc zE zF zG
    omega
  · clear ex ey ez x0 y0 z0 ha hb hc zE zF zG
    omega

theorem up_ud {y w py ps N : Int} (hw : 0 < w) (hN : w < N) : Ud (upE y w py ps) (y * (ps * (N * N)) - (py * (N * N) + 1) * w) := by
  have nn : N ≤ N * N := by
    have := Int.mul_le_mul_of_nonneg_left (show 1 ≤ N by omega) (show 0 ≤ N by omega)
    omega
  have e : y * (ps * (N * N)) - (py * (N * N) + 1) * w = (y * ps - py * w) * (N * N) - w := by grind
  rw [e]
  unfold Ud upE
  by_cases h : py * w < y * ps
  · rw [if_pos (decide_eq_true h)]
    have := Int.mul_le_mul_of_nonneg_right (show 1 ≤ y * ps - py * w by omega) (show 0 ≤ N * N by omega)
    omega
  · rw [if_neg (by rw [decide_eq_false h]; exact Bool.false_ne_true)]
    have := Int.mul_le_mul_of_nonneg_right (show y * ps - py * w ≤ 0 by omega) (show 0 ≤ N * N by omega)
    omega
theorem up_same {ay aw bY bw py ps : Int} (ha : 0 < aw) (hb : 0 < bw) (h : ay * bw - aw * bY = 0) : upE ay aw py ps = upE bY bw py ps := by
  have e : (ay * ps - py * aw) * bw = (bY * ps - py * bw) * aw := by grind
  unfold upE
  rw [decide_eq_decide]
  constructor
  · intro z
    have := Int.mul_pos (show 0 < ay * ps - py * aw by omega) hb
    rw [e] at this
    have := Int.pos_of_mul_pos_left this ha
    omega
  · intro z
    have := Int.mul_pos (show 0 < bY * ps - py * bw by omega) ha
    rw [← e] at this
    have := Int.pos_of_mul_pos_left this hb
    omega
theorem sd3_zero {s m n : Int} : sd3 s m n = 0 ↔ s = 0 ∧ m = 0 ∧ n = 0 := by
  rw [sd3_iff sg_eq0 sg_eq0 sg_eq0]
  omega
theorem bigN (m1 n1 m2 n2 m3 n3 : Int) {aw bw cw : Int} (ha : 0 < aw) (hb : 0 < bw) (hc : 0 < cw) : ∃ N : Int, (m1.natAbs : Int) + n1.natAbs < N ∧ (m2.natAbs : Int) + n2.natAbs < N ∧ (m3.natAbs : Int) + n3.natAbs < N ∧ aw < N ∧ bw < N ∧ cw < N := by
  have g1 := Int.natCast_nonneg m1.natAbs
  have g2 := Int.natCast_nonneg n1.natAbs
  have g3 := Int.natCast_nonneg m2.natAbs
  have g4 := Int.natCast_nonneg n2.natAbs
  have g5 := Int.natCast_nonneg m3.natAbs
  have g6 := Int.natCast_nonneg n3.natAbs
  generalize (m1.natAbs : Int) = a1 at *
  generalize (n1.natAbs : Int) = a2 at *
  generalize (m2.natAbs : Int) = a3 at *
  generalize (n2.natAbs : Int) = a4 at *
  generalize (m3.natAbs : Int) = a5 at *
  generalize (n3.natAbs : Int) = a6 at *
  exact ⟨1 + a1 + a2 + a3 + a4 + a5 + a6 + aw + bw + cw, by omega, by omega, by omega, by omega, by omega, by omega⟩
theorem had_cr {ax ay aw bx bY bw cx cy cw px py ps : Int} (ha : 0 < aw) (hb : 0 < bw) (hc : 0 < cw) : hdE ax ay aw bx bY bw cx cy cw px py ps = crE ax ay aw bx bY bw px py ps + crE bx bY bw cx cy cw px py ps + crE cx cy cw ax ay aw px py ps := by
  obtain ⟨N, g1, g2, g3, w1, w2, w3⟩ := bigN (ay * bw - aw * bY) (aw * bx - ax * bw) (bY * cw - bw * cy) (bw * cx - bx * cw) (cy * aw - cw * ay) (cw * ax - cx * aw) ha hb hc
  have s1 : sdE ax ay aw bx bY bw px py ps = sg (ow ax ay aw bx bY bw (px * (N * N) + N) (py * (N * N) + 1) (ps * (N * N))) := by
    rw [ow_move]
    exact sd3_big g1
  have s2 : sdE bx bY bw cx cy cw px py ps = sg (ow bx bY bw cx cy cw (px * (N * N) + N) (py * (N * N) + 1) (ps * (N * N))) := by
    rw [ow_move]
    exact sd3_big g2
  have s3 : sdE cx cy cw ax ay aw px py ps = sg (ow cx cy cw ax ay aw (px * (N * N) + N) (py * (N * N) + 1) (ps * (N * N))) := by
    rw [ow_move]
    exact sd3_big g3
  have z1 : ow ax ay aw bx bY bw (px * (N * N) + N) (py * (N * N) + 1) (ps * (N * N)) = 0 → upE ay aw py ps = upE bY bw py ps := fun h => by
    rw [h, sg_zero] at s1
    exact up_same ha hb (sd3_zero.mp s1).2.1
  have z2 : ow bx bY bw cx cy cw (px * (N * N) + N) (py * (N * N) + 1) (ps * (N * N)) = 0 → upE bY bw py ps = upE cy cw py ps := fun h => by
    rw [h, sg_zero] at s2
    exact up_same hb hc (sd3_zero.mp s2).2.1
  have z3 : ow cx cy cw ax ay aw (px * (N * N) + N) (py * (N * N) + 1) (ps * (N * N)) = 0 → upE cy cw py ps = upE ay aw py ps := fun h => by
    rw [h, sg_zero] at s3
    exact up_same hc ha (sd3_zero.mp s3).2.1
  unfold hdE crE
  rw [s1, s2, s3]
  refine cross_core (up_ud (py := py) (ps := ps) (N := N) ha w1) (up_ud (N := N) hb w2) (up_ud (N := N) hc w3) ?_ z2 z3 z1
  generalize px * (N * N) + N = qx
  generalize py * (N * N) + 1 = qy
  generalize ps * (N * N) = qs
  unfold ow
  grind

theorem w_each {α : Type} {Φ : Fl → Prop} {g : MG} {k : MS} {enc : α → D} {ts : List α} (I : List α → Ev → Prop) (h : ∀ us t vs, ts = us ++ t :: vs → ∀ ρ, I us ρ → Tl (g (enc t) ρ) fun ρ1 => Tl (k ρ1) fun f => ∃ ρ2, f = .nx ρ2 ∧ I (us ++ [t]) ρ2) (hd : ∀ ρ, I ts ρ → Φ (.nx ρ)) {ρ : Ev} (h0 : I [] ρ) : Tl (forGo g k (ts.map enc) ρ) Φ := by
  have key : ∀ (vs us : List α) (ρ : Ev), ts = us ++ vs → I us ρ → Tl (forGo g k (vs.map enc) ρ) Φ := by
    intro vs
    induction vs with
    | nil =>
      intro us ρ e i
      rw [List.append_nil] at e
      subst e
      exact w_f0 (hd ρ i)
    | cons t vs ih =>
      intro us ρ e i
      obtain ⟨ρ1, e1, f, e2, ρ2, rfl, i2⟩ := h us t vs e ρ i
      rw [List.map_cons]
      refine w_f1 ⟨ρ1, e1, _, e2, ?_⟩
      exact ih (us ++ [t]) ρ2 (by rw [e]; simp) i2
  exact key ts [] ρ rfl h0
theorem x_each {α : Type} {g : MG} {k : MS} {enc : α → D} {c : Str} {bad : D} {rest : List D} (I : Ev → Prop) : ∀ {ts : List α} {ρ : Ev}, I ρ → (∀ t ∈ ts, ∀ ρ, I ρ → Tl (g (enc t) ρ) fun ρ1 => Tl (k ρ1) fun f => ∃ ρ2, f = .nx ρ2 ∧ I ρ2) → (∀ ρ, I ρ → Tl (g bad ρ) fun ρ1 => k ρ1 = .ex c) → forGo g k (ts.map enc ++ bad :: rest) ρ = .ex c
  | [], ρ, i, _, hb => x_f1 (hb ρ i)
  | t :: r, ρ, i, h, hb => by
    obtain ⟨ρ1, e1, f, e2, ρ2, rfl, i2⟩ := h t List.mem_cons_self ρ i
    rw [List.map_cons, List.cons_append]
    exact x_f2 ⟨ρ1, e1, _, e2, x_tx (x_each I i2 (fun u hu => h u (List.mem_cons_of_mem _ hu)) hb)⟩
theorem x_st {ρ : Ev} {i : Nat} {e : ME} {c : Str} (h : e ρ = .ex c) : st i e ρ = .ex c := x_bind1 h
theorem x_o22 {ρ : Ev} {f : D → D → Res D} {a b : ME} {c : Str} (h : Tl (a ρ) fun _ => b ρ = .ex c) : o2 f a b ρ = .ex c := x_bind (h.mono fun _ q => x_bind1 q)
structure T3 where
  ax : Int
  ay : Int
  aw : Int
  ah : Int
  av : List Int
  bx : Int
  bY : Int
  bw : Int
  bh : Int
  bv : List Int
  cx : Int
  cy : Int
  cw : Int
  ch : Int
  cv : List Int
noncomputable def T3.d (t : T3) : D := .tup [cor t.ax t.ay t.aw t.ah t.av, cor t.bx t.bY t.bw t.bh t.bv, cor t.cx t.cy t.cw t.ch t.cv]
noncomputable def T3.hd (t : T3) (px py : Int) : Int := hdE t.ax t.ay t.aw t.bx t.bY t.bw t.cx t.cy t.cw px py 2
noncomputable def T3.at (r : Int) (k : Nat) (t : T3) : Bool := !decide (t.hd (2 * (k : Int) + 1) (2 * r + 1) = 0)
structure T3.Ok (t : T3) : Prop where
  wa : 1 ≤ t.aw
  wb : 1 ≤ t.bw
  wc : 1 ≤ t.cw
  a : Cr t.ax t.ay t.aw
  b : Cr t.bx t.bY t.bw
  c : Cr t.cx t.cy t.cw
noncomputable abbrev cnt (r : Int) (k : Nat) (ts : List T3) : Nat := ts.countP (T3.at r k)
noncomputable def fil (r : Int) (n : Nat) (ts : List T3) : Nat := mkB (fun k => decide (0 < cnt r k ts)) n
noncomputable def shr (r : Int) (n : Nat) (ts : List T3) : Nat := mkB (fun k => decide (1 < cnt r k ts)) n
theorem w_rowT {Φ : D → Prop} {t : T3} {n : Nat} {r : Int} (o : t.Ok) (hn : n ≤ 1000) (hr : 0 ≤ r ∧ r ≤ 1000) (h : Φ (.int ((mkB (fun k => T3.at r k t) n : Nat) : Int))) : Tl (m_row_mask [t.d, .int (n : Int), .int r]) Φ := w_row_mask o.wa o.wb o.wc o.a o.b o.c hn hr h
theorem w_hadT {Φ : D → Prop} {t : T3} {k : Nat} {r : Int} (o : t.Ok) (hk : k ≤ 1000) (hr : 0 ≤ r ∧ r ≤ 1000) (h : Φ (.int (t.hd (2 * (k : Int) + 1) (2 * r + 1)))) : Tl (m_had [t.d, .tup [.int (2 * (k : Int) + 1), .int (2 * r + 1), .int 2]]) Φ := w_had o.wa o.wb o.wc o.a o.b o.c (mid_cr (by omega) hr) h
theorem fil_nil (r : Int) (n : Nat) : fil r n [] = 0 := mkB_none n
theorem shr_nil (r : Int) (n : Nat) : shr r n [] = 0 := mkB_none n
theorem fil_snoc (r : Int) (n : Nat) (us : List T3) (t : T3) : fil r n us ||| mkB (fun k => T3.at r k t) n = fil r n (us ++ [t]) := by
  unfold fil
  rw [mkB_bor]
  refine mkB_congr fun i _ => ?_
  show (decide (0 < cnt r i us) || T3.at r i t) = decide (0 < cnt r i (us ++ [t]))
  unfold cnt
  rw [List.countP_append, List.countP_singleton]
  cases T3.at r i t <;> simp
theorem shr_snoc (r : Int) (n : Nat) (us : List T3) (t : T3) : shr r n us ||| (fil r n us &&& mkB (fun k => T3.at r k t) n) = shr r n (us ++ [t]) := by
  unfold shr fil
  rw [mkB_band, mkB_bor]
  refine mkB_congr fun i _ => ?_
  show (decide (1 < cnt r i us) || (decide (0 < cnt r i us) && T3.at r i t)) = decide (1 < cnt r i (us ++ [t]))
  unfold cnt
  rw [List.countP_append, List.countP_singleton]
  cases T3.at r i t
  · simp
  · simp only [Bool.and_true, if_true]
    rw [← Bool.decide_or, decide_eq_decide]
    omega
theorem w_filled {Φ : D → Prop} {ts : List T3} {n : Nat} {r : Int} (o : ∀ t ∈ ts, t.Ok) (hl : ts.length ≤ 1000) (hn : n ≤ 1000) (hr : 0 ≤ r ∧ r ≤ 1000) (h : Φ (.int ((fil r n ts : Nat) : Int))) : Tl (m_filled_mask [.lst (ts.map T3.d), .int (n : Int), .int r]) Φ := by
  unfold m_filled_mask
  walk_at "w"
  refine w_each (fun us ρ => ∃ v4 : Cl, ρ = [.im (.lst (ts.map T3.d)), .im (.int (n : Int)), .im (.int r), .im (.int ((fil r n us : Nat) : Int)), v4]) ?_ ?_ ⟨.no, by rw [fil_nil]; rfl⟩
  · rintro us t vs e ρ ⟨v4, rfl⟩
    walk_at "w"
    refine w_rowT (o t (by rw [e]; simp)) hn hr ?_
    refine w_borN ?_
    rw [fil_snoc]
    exact ⟨_, rfl, _, rfl⟩
  · rintro ρ ⟨v4, rfl⟩
    walk_at "w"
    exact h
theorem w_shared {Φ : D → Prop} {ts : List T3} {n : Nat} {r : Int} (o : ∀ t ∈ ts, t.Ok) (hl : ts.length ≤ 1000) (hn : n ≤ 1000) (hr : 0 ≤ r ∧ r ≤ 1000) (h : Φ (.int ((shr r n ts : Nat) : Int))) : Tl (m_shared_mask [.lst (ts.map T3.d), .int (n : Int), .int r]) Φ := by
  unfold m_shared_mask
  walk_at "w"
  refine w_each (fun us ρ => ∃ v5 v6 : Cl, ρ = [.im (.lst (ts.map T3.d)), .im (.int (n : Int)), .im (.int r), .im (.int ((fil r n us : Nat) : Int)), .im (.int ((shr r n us : Nat) : Int)), v5, v6]) ?_ ?_ ⟨.no, .no, by rw [fil_nil, shr_nil]; rfl⟩
  · rintro us t vs e ρ ⟨v5, v6, rfl⟩
    walk_at "w"
    refine w_rowT (o t (by rw [e]; simp)) hn hr ?_
    walk_at "w"
    refine w_bandN ?_
    refine w_borN ?_
    walk_at "w"
    refine w_borN ?_
    rw [fil_snoc, shr_snoc]
    exact ⟨_, rfl, _, _, rfl⟩
  · rintro ρ ⟨v5, v6, rfl⟩
    walk_at "w"
    exact h
theorem x_filled {ts : List T3} {n : Nat} {r : Int} {bad : D} {rest : List D} (o : ∀ t ∈ ts, t.Ok) (hn : n ≤ 1000) (hr : 0 ≤ r ∧ r ≤ 1000) (hb : m_check_before_eye [bad] = .ex "BadTriangle") : m_filled_mask [.lst (ts.map T3.d ++ bad :: rest), .int (n : Int), .int r] = .ex "BadTriangle" := by
  unfold m_filled_mask
  refine x_fn (x_sq2 ?_)
  walk_at "w"
  refine x_sq1 (x_for ?_)
  walk_at "w"
  refine x_each (fun ρ => ∃ (m : Nat) (v4 : Cl), ρ = [.im (.lst (ts.map T3.d ++ bad :: rest)), .im (.int (n : Int)), .im (.int r), .im (.int (m : Int)), v4]) ⟨0, _, rfl⟩ ?_ ?_
  · rintro t ht ρ ⟨m, v4, rfl⟩
    walk_at "w"
    refine w_rowT (o t ht) hn hr ?_
    refine w_borN ?_
    exact ⟨_, rfl, _, _, rfl⟩
  · rintro ρ ⟨m, v4, rfl⟩
    walk_at "w"
    refine x_st (x_o22 ?_)
    walk_at "w"
    refine x_on ?_
    walk_at "w"
    exact x_row_mask hb
theorem x_shared {ts : List T3} {n : Nat} {r : Int} {bad : D} {rest : List D} (o : ∀ t ∈ ts, t.Ok) (hn : n ≤ 1000) (hr : 0 ≤ r ∧ r ≤ 1000) (hb : m_check_before_eye [bad] = .ex "BadTriangle") : m_shared_mask [.lst (ts.map T3.d ++ bad :: rest), .int (n : Int), .int r] = .ex "BadTriangle" := by
  unfold m_shared_mask
  refine x_fn (x_sq2 ?_)
  walk_at "w"
  refine x_sq2 ?_
  walk_at "w"
  refine x_sq1 (x_for ?_)
  walk_at "w"
  refine x_each (fun ρ => ∃ (m m' : Nat) (v5 v6 : Cl), ρ = [.im (.lst (ts.map T3.d ++ bad :: rest)), .im (.int (n : Int)), .im (.int r), .im (.int (m : Int)), .im (.int (m' : Int)), v5, v6]) ⟨0, 0, _, _, rfl⟩ ?_ ?_
  · rintro t ht ρ ⟨m, m', v5, v6, rfl⟩
    walk_at "w"
    refine w_rowT (o t ht) hn hr ?_
    walk_at "w"
    refine w_bandN ?_
    refine w_borN ?_
    walk_at "w"
    refine w_borN ?_
    exact ⟨_, rfl, _, _, _, _, rfl⟩
  · rintro ρ ⟨m, m', v5, v6, rfl⟩
    walk_at "w"
    refine x_sq1 (x_st (x_on ?_))
    walk_at "w"
    exact x_row_mask hb

noncomputable def fanK (fl : Bool) (hh ix iy px py qx qy : Int) : T3 := if fl = true then ⟨ix, iy, 2, hh, [], qx, qy, 2, hh, [], px, py, 2, hh, []⟩ else ⟨ix, iy, 2, hh, [], px, py, 2, hh, [], qx, qy, 2, hh, []⟩
noncomputable abbrev cr2 (ax ay bx bY px py : Int) : Int := crE ax ay 2 bx bY 2 px py 2
theorem hdE_flip (ax ay aw bx bY bw cx cy cw px py ps : Int) : hdE ax ay aw cx cy cw bx bY bw px py ps = - hdE ax ay aw bx bY bw cx cy cw px py ps := by
  have e : hdE ax ay aw cx cy cw bx bY bw px py ps = hd3 (- sdE cx cy cw ax ay aw px py ps) (- sdE bx bY bw cx cy cw px py ps) (- sdE ax ay aw bx bY bw px py ps) := by
    show hd3 (sdE ax ay aw cx cy cw px py ps) (sdE cx cy cw bx bY bw px py ps) (sdE bx bY bw ax ay aw px py ps) = _
    rw [sdE_opp cx cy cw ax ay aw, sdE_opp bx bY bw cx cy cw, sdE_opp ax ay aw bx bY bw]
  rw [e]
  unfold hdE hd3
  split <;> split <;> omega
theorem hd_turn {ax ay aw bx bY bw cx cy cw px py ps : Int} (ha : 0 < aw) (hb : 0 < bw) (hc : 0 < cw) (hp : 0 < ps) (h : 0 < ow ax ay aw bx bY bw cx cy cw) : hdE ax ay aw bx bY bw cx cy cw px py ps = 0 ∨ hdE ax ay aw bx bY bw cx cy cw px py ps = 1 := by
  by_cases z : hdE ax ay aw bx bY bw cx cy cw px py ps = 0
  · exact .inl z
  · obtain ⟨e, he, h1, h2, h3⟩ := hd3_cases (x := sdE ax ay aw bx bY bw px py ps) (sd3_of _ _ _) z
    rcases he with rfl | rfl
    · right
      show hd3 _ _ _ = 1
      rw [h1, h2, h3]
      rfl
    · have := own_neg ha hb hc hp h1 h2 h3
      omega
theorem fan_at {fl : Bool} {hh ix iy px py qx qy : Int} {k : Nat} {r : Int} (h : 0 < ow ix iy 2 px py 2 qx qy 2) : (((if T3.at r k (fanK fl hh ix iy px py qx qy) = true then 1 else 0) : Nat) : Int) = cr2 ix iy px py (2 * (k : Int) + 1) (2 * r + 1) + cr2 px py qx qy (2 * (k : Int) + 1) (2 * r + 1) - cr2 ix iy qx qy (2 * (k : Int) + 1) (2 * r + 1) := by
  have key : hdE ix iy 2 px py 2 qx qy 2 (2 * (k : Int) + 1) (2 * r + 1) 2 = cr2 ix iy px py (2 * (k : Int) + 1) (2 * r + 1) + cr2 px py qx qy (2 * (k : Int) + 1) (2 * r + 1) - cr2 ix iy qx qy (2 * (k : Int) + 1) (2 * r + 1) := by
    rw [had_cr (by decide) (by decide) (by decide), crE_opp ix iy 2 qx qy 2, Int.sub_eq_add_neg]
  rw [← key]
  have e : T3.at r k (fanK fl hh ix iy px py qx qy) = !decide (hdE ix iy 2 px py 2 qx qy 2 (2 * (k : Int) + 1) (2 * r + 1) 2 = 0) := by
    cases fl
    · rfl
    · show (!decide (hdE ix iy 2 qx qy 2 px py 2 (2 * (k : Int) + 1) (2 * r + 1) 2 = 0)) = _
      rw [hdE_flip ix iy 2 px py 2 qx qy 2]
      congr 1
      rw [decide_eq_decide]
      omega
  rw [e]
  rcases hd_turn (px := 2 * (k : Int) + 1) (py := 2 * r + 1) (ps := 2) (by decide) (by decide) (by decide) (by decide) h with z | z
  · rw [z]; rfl
  · rw [z]; rfl
theorem cr_hor (ax bx y px py : Int) : cr2 ax y bx y px py = 0 := by
  unfold cr2 crE crB
  cases upE y 2 py 2 <;> simp
theorem sd_ver {x y y' px py : Int} : sdE x y 2 x y' 2 px py 2 = sd3 (2 * ((y - y') * (px - x))) (2 * (y - y')) 0 := by
  unfold sdE
  congr 1
  · unfold ow; grind
  · grind
  · grind
theorem cr_up {x y y' px py : Int} (h : y < y') : cr2 x y x y' px py = if y ≤ py ∧ py < y' ∧ px < x then 1 else 0 := by
  unfold cr2 crE crB
  rw [sd_ver]
  have e1 : sd3 (2 * ((y - y') * (px - x))) (2 * (y - y')) 0 = 1 ↔ px < x := by
    rw [sd3_one]
    rcases Int.lt_trichotomy (px - x) 0 with z | z | z
    · have := Int.mul_pos_of_neg_of_neg (show y - y' < 0 by omega) z
      omega
    · rw [z, Int.mul_zero]; omega
    · have := Int.mul_neg_of_neg_of_pos (show y - y' < 0 by omega) z
      omega
  by_cases h1 : py * 2 < y * 2
  · have h2 : py * 2 < y' * 2 := by omega
    simp only [upE, decide_eq_true h1, decide_eq_true h2]
    rw [if_neg (by simp), if_neg (by simp), if_neg (by omega)]
  · by_cases h2 : py * 2 < y' * 2
    · simp only [upE, decide_eq_false h1, decide_eq_true h2]
      by_cases h3 : px < x
      · rw [if_pos (by simp [e1.mpr h3]), if_pos (by omega)]
      · rw [if_neg (by simp; exact fun z => h3 (e1.mp z)), if_neg (by simp), if_neg (by omega)]
    · simp only [upE, decide_eq_false h1, decide_eq_false h2]
      rw [if_neg (by simp), if_neg (by simp), if_neg (by omega)]
theorem cr_dn {x y y' px py : Int} (h : y' < y) : cr2 x y x y' px py = if y' ≤ py ∧ py < y ∧ px < x then -1 else 0 := by
  have e := crE_opp x y' 2 x y 2 px py 2
  have e2 := cr_up (x := x) (px := px) (py := py) h
  unfold cr2 at e2 ⊢
  rw [e, e2]
  split <;> rfl
theorem fan5 {hh L m R lo hi ix iy : Int} {f0 f1 f2 f3 f4 : Bool} {k : Nat} {r : Int} (h1 : L < m) (h2 : m < R) (h3 : L < ix) (h4 : ix < R) (h5 : lo < iy) (h6 : iy < hi) :
    ((cnt r k [fanK f0 hh ix iy L hi L lo, fanK f1 hh ix iy L lo m lo, fanK f2 hh ix iy m lo R lo, fanK f3 hh ix iy R lo R hi, fanK f4 hh ix iy R hi L hi] : Nat) : Int) = if (L ≤ 2 * (k : Int) + 1 ∧ 2 * (k : Int) + 1 < R) ∧ lo ≤ 2 * r + 1 ∧ 2 * r + 1 < hi then 1 else 0 := by
  have o0 : 0 < ow ix iy 2 L hi 2 L lo 2 := by
    have e : ow ix iy 2 L hi 2 L lo 2 = 2 * ((ix - L) * (hi - lo)) := by unfold ow; grind
    have := Int.mul_pos (show 0 < ix - L by omega) (show 0 < hi - lo by omega)
    omega
  have o1 : 0 < ow ix iy 2 L lo 2 m lo 2 := by
    have e : ow ix iy 2 L lo 2 m lo 2 = 2 * ((m - L) * (iy - lo)) := by unfold ow; grind
    have := Int.mul_pos (show 0 < m - L by omega) (show 0 < iy - lo by omega)
    omega
  have o2 : 0 < ow ix iy 2 m lo 2 R lo 2 := by
    have e : ow ix iy 2 m lo 2 R lo 2 = 2 * ((R - m) * (iy - lo)) := by unfold ow; grind
    have := Int.mul_pos (show 0 < R - m by omega) (show 0 < iy - lo by omega)
    omega
  have o3 : 0 < ow ix iy 2 R lo 2 R hi 2 := by
    have e : ow ix iy 2 R lo 2 R hi 2 = 2 * ((R - ix) * (hi - lo)) := by unfold ow; grind
    have := Int.mul_pos (show 0 < R - ix by omega) (show 0 < hi - lo by omega)
    omega
  have o4 : 0 < ow ix iy 2 R hi 2 L hi 2 := by
    have e : ow ix iy 2 R hi 2 L hi 2 = 2 * ((R - L) * (hi - iy)) := by unfold ow; grind
    have := Int.mul_pos (show 0 < R - L by omega) (show 0 < hi - iy by omega)
    omega
  have a0 := fan_at (fl := f0) (hh := hh) (k := k) (r := r) o0
  have a1 := fan_at (fl := f1) (hh := hh) (k := k) (r := r) o1
  have a2 := fan_at (fl := f2) (hh := hh) (k := k) (r := r) o2
  have a3 := fan_at (fl := f3) (hh := hh) (k := k) (r := r) o3
  have a4 := fan_at (fl := f4) (hh := hh) (k := k) (r := r) o4
  unfold cnt
  simp only [List.countP_cons, List.countP_nil, Int.natCast_add, a0, a1, a2, a3, a4]
  rw [cr_hor, cr_hor, cr_hor, cr_up (x := R) (y := lo) (y' := hi) (by omega), cr_dn (x := L) (y := hi) (y' := lo) (by omega)]
  generalize 2 * (k : Int) + 1 = x at *
  generalize 2 * r + 1 = y at *
  generalize cr2 ix iy L hi x y = c0 at *
  generalize cr2 ix iy L lo x y = c1 at *
  generalize cr2 ix iy m lo x y = c2 at *
  generalize cr2 ix iy R lo x y = c3 at *
  generalize cr2 ix iy R hi x y = c4 at *
  clear a0 a1 a2 a3 a4 o0 o1 o2 o3 o4
  split <;> split <;> split <;> omega
theorem fan6 {hh L m R lo hi ix iy y1 : Int} {f0 f1 f2 f3 f4 f5 : Bool} {k : Nat} {r : Int} (h1 : L < m) (h2 : m < R) (h3 : L < ix) (h4 : ix < R) (h5 : lo < iy) (h6 : iy < hi) (h7 : lo < y1) (h8 : y1 < hi) :
    ((cnt r k [fanK f0 hh ix iy L y1 L lo, fanK f1 hh ix iy L lo m lo, fanK f2 hh ix iy m lo R lo, fanK f3 hh ix iy R lo R hi, fanK f4 hh ix iy R hi L hi, fanK f5 hh ix iy L hi L y1] : Nat) : Int) = if (L ≤ 2 * (k : Int) + 1 ∧ 2 * (k : Int) + 1 < R) ∧ lo ≤ 2 * r + 1 ∧ 2 * r + 1 < hi then 1 else 0 := by
  have o0 : 0 < ow ix iy 2 L y1 2 L lo 2 := by
    have e : ow ix iy 2 L y1 2 L lo 2 = 2 * ((ix - L) * (y1 - lo)) := by unfold ow; grind
    have := Int.mul_pos (show 0 < ix - L by omega) (show 0 < y1 - lo by omega)
    omega
  have o1 : 0 < ow ix iy 2 L lo 2 m lo 2 := by
    have e : ow ix iy 2 L lo 2 m lo 2 = 2 * ((m - L) * (iy - lo)) := by unfold ow; grind
    have := Int.mul_pos (show 0 < m - L by omega) (show 0 < iy - lo by omega)
    omega
  have o2 : 0 < ow ix iy 2 m lo 2 R lo 2 := by
    have e : ow ix iy 2 m lo 2 R lo 2 = 2 * ((R - m) * (iy - lo)) := by unfold ow; grind
    have := Int.mul_pos (show 0 < R - m by omega) (show 0 < iy - lo by omega)
    omega
  have o3 : 0 < ow ix iy 2 R lo 2 R hi 2 := by
    have e : ow ix iy 2 R lo 2 R hi 2 = 2 * ((R - ix) * (hi - lo)) := by unfold ow; grind
    have := Int.mul_pos (show 0 < R - ix by omega) (show 0 < hi - lo by omega)
    omega
  have o4 : 0 < ow ix iy 2 R hi 2 L hi 2 := by
    have e : ow ix iy 2 R hi 2 L hi 2 = 2 * ((R - L) * (hi - iy)) := by unfold ow; grind
    have := Int.mul_pos (show 0 < R - L by omega) (show 0 < hi - iy by omega)
    omega
  have o5 : 0 < ow ix iy 2 L hi 2 L y1 2 := by
    have e : ow ix iy 2 L hi 2 L y1 2 = 2 * ((ix - L) * (hi - y1)) := by unfold ow; grind
    have := Int.mul_pos (show 0 < ix - L by omega) (show 0 < hi - y1 by omega)
    omega
  have a0 := fan_at (fl := f0) (hh := hh) (k := k) (r := r) o0
  have a1 := fan_at (fl := f1) (hh := hh) (k := k) (r := r) o1
  have a2 := fan_at (fl := f2) (hh := hh) (k := k) (r := r) o2
  have a3 := fan_at (fl := f3) (hh := hh) (k := k) (r := r) o3
  have a4 := fan_at (fl := f4) (hh := hh) (k := k) (r := r) o4
  have a5 := fan_at (fl := f5) (hh := hh) (k := k) (r := r) o5
  unfold cnt
  simp only [List.countP_cons, List.countP_nil, Int.natCast_add, a0, a1, a2, a3, a4, a5]
  rw [cr_hor, cr_hor, cr_hor, cr_up (x := R) (y := lo) (y' := hi) (by omega), cr_dn (x := L) (y := y1) (y' := lo) (by omega), cr_dn (x := L) (y := hi) (y' := y1) (by omega)]
  generalize 2 * (k : Int) + 1 = x at *
  generalize 2 * r + 1 = y at *
  generalize cr2 ix iy L hi x y = c0 at *
  generalize cr2 ix iy L lo x y = c1 at *
  generalize cr2 ix iy m lo x y = c2 at *
  generalize cr2 ix iy R lo x y = c3 at *
  generalize cr2 ix iy R hi x y = c4 at *
  generalize cr2 ix iy L y1 x y = c5 at *
  clear a0 a1 a2 a3 a4 a5 o0 o1 o2 o3 o4 o5
  split <;> split <;> split <;> split <;> omega

noncomputable abbrev fanB : MS :=
    (sq (st 9 (mls (acons (v 6) (acons (o2 dIx (v 5) (o2 dSub (v 8) (c (.int 1)))) (acons (o2 dIx (v 5) (v 8)) anil)))))
    (sq (st 10 (comp (iv (v 9)) 2 [0] (gU 2 (gs1 (gN 0) (gs1 (gN 1) gs0))) yes (mtp (acons (v 0) (acons (v 1) (acons (c (.int 2)) (acons (o2 dAdd (c (.int 1)) (o2 dMod (v 2) (c (.int 3)))) (acons (mtp anil) anil))))))))
    (sq (ifs (trb (o2 dEq (o2 dMod (o2 dDiv (v 0) (o2 dAdd (c (.int 2)) (v 8))) (c (.int 2))) (c (.int 0))))
    (st 10 (mls (acons (o2 dIx (v 10) (c (.int 0))) (acons (o2 dIx (v 10) (c (.int 2))) (acons (o2 dIx (v 10) (c (.int 1))) anil)))))
    nop)
    (app 7 (mtp (acons (o2 dIx (v 10) (c (.int 0))) (acons (o2 dIx (v 10) (c (.int 1))) (acons (o2 dIx (v 10) (c (.int 2))) anil))))))))
noncomputable abbrev pt2 (x y : Int) : D := .tup [.int x, .int y]
theorem w_fanB {Φ : Fl → Prop} {d L lo w hg ix iy px py qx qy : Int} {k : Nat} {xs ys : List D} {v9 v10 : Cl} (hk : k ≤ 100) (h1 : dIx (.lst xs) (.int ((k : Int) - 1)) = .ok (pt2 px py)) (h2 : dIx (.lst xs) (.int (k : Int)) = .ok (pt2 qx qy)) (hl : ys.length < 1000)
    (h : ∀ (fl : Bool) (v9 v10 : Cl), Φ (.nx [.im (.int d), .im (.int L), .im (.int lo), .im (.int w), .im (.int hg), .im (.lst xs), .im (pt2 ix iy), .ow (ys ++ [(fanK fl (1 + d % 3) ix iy px py qx qy).d]), .im (.int (k : Int)), v9, v10])) :
    Tl (fanB [.im (.int d), .im (.int L), .im (.int lo), .im (.int w), .im (.int hg), .im (.lst xs), .im (pt2 ix iy), .ow ys, .im (.int (k : Int)), v9, v10]) Φ := by
  unfold fanB
  walk_at "w"
  refine tl_of h1 ?_
  walk_at "w"
  refine tl_of h2 ?_
  walk_at "w"
  refine ⟨by simp, ?_⟩
  refine Tl.mono (Ψ := fun zs => zs = [cor ix iy 2 (1 + d % 3) [], cor px py 2 (1 + d % 3) [], cor qx qy 2 (1 + d % 3) []]) ?_ ?_
  · show Tl (compGo _ _ _ _ ([(ix, iy), (px, py), (qx, qy)].map fun p : Int × Int => pt2 p.1 p.2)) _
    refine w_mapP (fun p : Int × Int => cor p.1 p.2 2 (1 + d % 3) []) (fun p _ => ?_) rfl
    walk_at "w"
    rfl
  rintro zs rfl
  walk_at "w"
  refine Tl.mono (Ψ := fun f => ∃ fl : Bool, f = Fl.nx [.im (.int d), .im (.int L), .im (.int lo), .im (.int w), .im (.int hg), .im (.lst xs), .im (pt2 ix iy), .ow ys, .im (.int (k : Int)), .im (.lst [pt2 ix iy, pt2 px py, pt2 qx qy]), .im (.lst (if fl = true then [cor ix iy 2 (1 + d % 3) [], cor qx qy 2 (1 + d % 3) [], cor px py 2 (1 + d % 3) []] else [cor ix iy 2 (1 + d % 3) [], cor px py 2 (1 + d % 3) [], cor qx qy 2 (1 + d % 3) []]))]) ?_ ?_
  · refine w_dec (fun _ => ?_) (fun _ => ?_)
    · walk_at "w"
      exact ⟨true, rfl⟩
    · walk_at "w"
      exact ⟨false, rfl⟩
  rintro f ⟨fl, rfl⟩
  cases fl
  · walk_at "w"
    exact ⟨by omega, h false _ _⟩
  · walk_at "w"
    exact ⟨by omega, h true _ _⟩

theorem fan_ok {fl : Bool} {hh ix iy px py qx qy : Int} (h1 : Bd ix) (h2 : Bd iy) (h3 : Bd px) (h4 : Bd py) (h5 : Bd qx) (h6 : Bd qy) : (fanK fl hh ix iy px py qx qy).Ok := by
  have w : Sm 64 2 := sm6 (by decide)
  cases fl
  · exact ⟨by show (1 : Int) ≤ 2; decide, by show (1 : Int) ≤ 2; decide, by show (1 : Int) ≤ 2; decide, ⟨h1.s, h2.s, w⟩, ⟨h3.s, h4.s, w⟩, ⟨h5.s, h6.s, w⟩⟩
  · exact ⟨by show (1 : Int) ≤ 2; decide, by show (1 : Int) ≤ 2; decide, by show (1 : Int) ≤ 2; decide, ⟨h1.s, h2.s, w⟩, ⟨h5.s, h6.s, w⟩, ⟨h3.s, h4.s, w⟩⟩
theorem w_fan {Φ : D → Prop} {d : Int} (hd : Dw d) (q : ∀ (t : T3) (us : List T3) (L lo R hi : Int), (∀ u ∈ t :: us, u.Ok) → us.length ≤ 10 → (0 ≤ L ∧ 0 ≤ lo ∧ R ≤ 1000 ∧ hi ≤ 1000) → (∀ (r : Int) (k : Nat), ((cnt r k (t :: us) : Nat) : Int) = if (L ≤ 2 * (k : Int) + 1 ∧ 2 * (k : Int) + 1 < R) ∧ lo ≤ 2 * r + 1 ∧ 2 * r + 1 < hi then 1 else 0) → Φ (.tup [.lst ((t :: us).map T3.d), .int L, .int lo, .int R, .int hi])) : Tl (m__law_fan [.int d]) Φ := by
  unfold Dw at hd
  unfold m__law_fan
  walk_at "w"
  have hL : 0 ≤ d % 9 ∧ d % 9 ≤ 8 := by omega
  have hlo : 0 ≤ d / 9 % 9 ∧ d / 9 % 9 ≤ 8 := by omega
  have hw : 2 ≤ 2 + d / 81 % 8 ∧ 2 + d / 81 % 8 ≤ 9 := by omega
  have hh : 2 ≤ 2 + d / 729 % 8 ∧ 2 + d / 729 % 8 ≤ 9 := by omega
  generalize d % 9 = L at *
  generalize d / 9 % 9 = lo at *
  generalize 2 + d / 81 % 8 = w at *
  generalize 2 + d / 729 % 8 = hg at *
  walk_at "w"
  have m1 : 0 ≤ d / 4096 % (w - 1) ∧ d / 4096 % (w - 1) < w - 1 := ⟨Int.emod_nonneg _ (by omega), Int.emod_lt_of_pos _ (by omega)⟩
  generalize d / 4096 % (w - 1) = e1 at *
  refine tl_of (show dAdd (.lst [pt2 L lo, pt2 (L + e1 + 1) lo, pt2 (L + w) lo]) (.lst [pt2 (L + w) (lo + hg), pt2 L (lo + hg)]) = .ok (.lst [pt2 L lo, pt2 (L + e1 + 1) lo, pt2 (L + w) lo, pt2 (L + w) (lo + hg), pt2 L (lo + hg)]) from rfl) ?_
  walk_at "w"
  have m2 : 0 ≤ d / 65536 % (hg - 1) ∧ d / 65536 % (hg - 1) < hg - 1 := ⟨Int.emod_nonneg _ (by omega), Int.emod_lt_of_pos _ (by omega)⟩
  have m3 : 0 ≤ d / 131072 % (w - 1) ∧ d / 131072 % (w - 1) < w - 1 := ⟨Int.emod_nonneg _ (by omega), Int.emod_lt_of_pos _ (by omega)⟩
  have m4 : 0 ≤ d / 1048576 % (hg - 1) ∧ d / 1048576 % (hg - 1) < hg - 1 := ⟨Int.emod_nonneg _ (by omega), Int.emod_lt_of_pos _ (by omega)⟩
  refine w_dec (fun _ => ?_) (fun _ => ?_)
  · walk_at "w"
    refine ⟨by simp, ?_⟩
    walk_at "w"
    generalize d / 65536 % (hg - 1) = e2 at *
    generalize d / 131072 % (w - 1) = e3 at *
    generalize d / 1048576 % (hg - 1) = e4 at *
    refine w_rng1 (by simp) ?_
    show Tl (forGo _ _ ([.int 0, .int 1, .int 2, .int 3, .int 4, .int 5] : List D) _) _
    refine w_f1 (tl_of rfl ?_)
    refine w_fanB (k := 0) (by decide) rfl rfl (by simp) fun f0 v9 v10 => ?_
    refine w_tx ?_
    refine w_f1 (tl_of rfl ?_)
    refine w_fanB (k := 1) (by decide) rfl rfl (by simp) fun f1 v9 v10 => ?_
    refine w_tx ?_
    refine w_f1 (tl_of rfl ?_)
    refine w_fanB (k := 2) (by decide) rfl rfl (by simp) fun f2 v9 v10 => ?_
    refine w_tx ?_
    refine w_f1 (tl_of rfl ?_)
    refine w_fanB (k := 3) (by decide) rfl rfl (by simp) fun f3 v9 v10 => ?_
    refine w_tx ?_
    refine w_f1 (tl_of rfl ?_)
    refine w_fanB (k := 4) (by decide) rfl rfl (by simp) fun f4 v9 v10 => ?_
    refine w_tx ?_
    refine w_f1 (tl_of rfl ?_)
    refine w_fanB (k := 5) (by decide) rfl rfl (by simp) fun f5 v9 v10 => ?_
    refine w_tx ?_
    refine w_f0 ?_
    walk_at "w"
    refine q (fanK f0 (1 + d % 3) (L + 1 + e3) (lo + 1 + e4) L (lo + 1 + e2) L lo) [fanK f1 (1 + d % 3) (L + 1 + e3) (lo + 1 + e4) L lo (L + e1 + 1) lo, fanK f2 (1 + d % 3) (L + 1 + e3) (lo + 1 + e4) (L + e1 + 1) lo (L + w) lo, fanK f3 (1 + d % 3) (L + 1 + e3) (lo + 1 + e4) (L + w) lo (L + w) (lo + hg), fanK f4 (1 + d % 3) (L + 1 + e3) (lo + 1 + e4) (L + w) (lo + hg) L (lo + hg), fanK f5 (1 + d % 3) (L + 1 + e3) (lo + 1 + e4) L (lo + hg) L (lo + 1 + e2)] L lo (L + w) (lo + hg) ?_ (by simp) (by omega) (fun r k => ?_)
    · intro u hu
      simp only [List.mem_cons, List.not_mem_nil, or_false] at hu
      rcases hu with rfl | rfl | rfl | rfl | rfl | rfl <;> exact fan_ok ⟨by omega, by omega⟩ ⟨by omega, by omega⟩ ⟨by omega, by omega⟩ ⟨by omega, by omega⟩ ⟨by omega, by omega⟩ ⟨by omega, by omega⟩
    · exact fan6 (by omega) (by omega) (by omega) (by omega) (by omega) (by omega) (by omega) (by omega)
  · walk_at "w"
    generalize d / 131072 % (w - 1) = e3 at *
    generalize d / 1048576 % (hg - 1) = e4 at *
    refine w_rng1 (by simp) ?_
    show Tl (forGo _ _ ([.int 0, .int 1, .int 2, .int 3, .int 4] : List D) _) _
    refine w_f1 (tl_of rfl ?_)
    refine w_fanB (k := 0) (by decide) rfl rfl (by simp) fun f0 v9 v10 => ?_
    refine w_tx ?_
    refine w_f1 (tl_of rfl ?_)
    refine w_fanB (k := 1) (by decide) rfl rfl (by simp) fun f1 v9 v10 => ?_
    refine w_tx ?_
    refine w_f1 (tl_of rfl ?_)
    refine w_fanB (k := 2) (by decide) rfl rfl (by simp) fun f2 v9 v10 => ?_
    refine w_tx ?_
    refine w_f1 (tl_of rfl ?_)
    refine w_fanB (k := 3) (by decide) rfl rfl (by simp) fun f3 v9 v10 => ?_
    refine w_tx ?_
    refine w_f1 (tl_of rfl ?_)
    refine w_fanB (k := 4) (by decide) rfl rfl (by simp) fun f4 v9 v10 => ?_
    refine w_tx ?_
    refine w_f0 ?_
    walk_at "w"
    refine q (fanK f0 (1 + d % 3) (L + 1 + e3) (lo + 1 + e4) L (lo + hg) L lo) [fanK f1 (1 + d % 3) (L + 1 + e3) (lo + 1 + e4) L lo (L + e1 + 1) lo, fanK f2 (1 + d % 3) (L + 1 + e3) (lo + 1 + e4) (L + e1 + 1) lo (L + w) lo, fanK f3 (1 + d % 3) (L + 1 + e3) (lo + 1 + e4) (L + w) lo (L + w) (lo + hg), fanK f4 (1 + d % 3) (L + 1 + e3) (lo + 1 + e4) (L + w) (lo + hg) L (lo + hg)] L lo (L + w) (lo + hg) ?_ (by simp) (by omega) (fun r k => ?_)
    · intro u hu
      simp only [List.mem_cons, List.not_mem_nil, or_false] at hu
      rcases hu with rfl | rfl | rfl | rfl | rfl <;> exact fan_ok ⟨by omega, by omega⟩ ⟨by omega, by omega⟩ ⟨by omega, by omega⟩ ⟨by omega, by omega⟩ ⟨by omega, by omega⟩ ⟨by omega, by omega⟩
    · exact fan5 (by omega) (by omega) (by omega) (by omega) (by omega) (by omega)

theorem tri_list : ∀ {ts : List D}, (∀ t ∈ ts, isT 0 t) → ∃ us : List T3, ts = us.map T3.d ∧ us.length = ts.length ∧ ∀ u ∈ us, u.Ok
  | [], _ => ⟨[], rfl, rfl, fun _ h => (List.not_mem_nil h).elim⟩
  | t :: r, h => by
    obtain ⟨us, rfl, hl, hu⟩ := tri_list (ts := r) fun u hu => h u (List.mem_cons_of_mem _ hu)
    obtain ⟨A, B, C, rfl, ⟨ax, ay, aw, ah, av, rfl, ca, _⟩, ⟨bx, bY, bw, bh, bv, rfl, cb, _⟩, ⟨cx, cy, cw, ch, cv, rfl, cc, _⟩⟩ := h t List.mem_cons_self
    refine ⟨⟨ax, ay, aw, ah, av, bx, bY, bw, bh, bv, cx, cy, cw, ch, cv⟩ :: us, rfl, by simp, fun u hu' => ?_⟩
    rcases List.mem_cons.mp hu' with rfl | hu'
    · exact ⟨ca.w.1, cb.w.1, cc.w.1, ca.cr, cb.cr, cc.cr⟩
    · exact hu u hu'
theorem w_in_box {Φ : D → Prop} {L lo R hi c r : Int} (h : Φ (.bl (decide ((L ≤ 2 * c + 1 ∧ 2 * c + 1 < R) ∧ lo ≤ 2 * r + 1 ∧ 2 * r + 1 < hi)))) : Tl (m__law_in_box [.tup [.int L, .int lo, .int R, .int hi], .int c, .int r]) Φ := by
  unfold m__law_in_box
  walk_at "w"
  refine w_dec (fun a1 => ?_) (fun a1 => ?_)
  · walk_at "w"
    refine w_dec (fun a2 => ?_) (fun a2 => ?_)
    · walk_at "w"
      refine w_dec (fun a3 => ?_) (fun a3 => ?_)
      · walk_at "w"
        rw [show decide ((L ≤ 2 * c + 1 ∧ 2 * c + 1 < R) ∧ lo ≤ 2 * r + 1 ∧ 2 * r + 1 < hi) = decide (2 * r + 1 < hi) by rw [decide_eq_decide]; omega] at h
        exact h
      · walk_at "w"
        rw [decide_eq_false (by omega)] at h
        exact h
    · walk_at "w"
      rw [decide_eq_false (by omega)] at h
      exact h
  · walk_at "w"
    rw [decide_eq_false (by omega)] at h
    exact h
theorem rot_d (us : List T3) (h : us.length ≤ 6) : dAdd (.lst (cutL (us.map T3.d) (some 1) none)) (.lst (cutL (us.map T3.d) none (some 1))) = .ok (.lst ((us.drop 1 ++ us.take 1).map T3.d)) := by
  have e1 : cutL (us.map T3.d) (some 1) none = (us.drop 1).map T3.d := by
    cases us with
    | nil => rfl
    | cons a r =>
      unfold cutL cutAt
      simp only []
      rw [if_neg (by decide), show min (1 : Int).toNat ((a :: r).map T3.d).length = 1 by simp, ← List.map_drop]
      exact List.take_of_length_le (by simp)
  have e2 : cutL (us.map T3.d) none (some 1) = (us.take 1).map T3.d := by
    cases us with
    | nil => rfl
    | cons a r => simp [cutL, cutAt]
  rw [e1, e2, List.map_append]
  show (if _ ≤ LIM then _ else _) = _
  rw [if_pos]
  simp only [List.length_map, List.length_drop, List.length_take]
  show _ ≤ 1000000
  omega
theorem turned_d (us : List T3) (hu : ∀ u ∈ us, u.Ok) (h6 : us.length ≤ 6) : ∀ l ∈ [us, us.reverse, us.drop 1 ++ us.take 1], (∀ f, l.countP f = us.countP f) ∧ l.length ≤ 6 ∧ ∀ u ∈ l, u.Ok := by
  intro l hl
  simp only [List.mem_cons, List.not_mem_nil, or_false] at hl
  rcases hl with rfl | rfl | rfl
  · exact ⟨fun _ => rfl, h6, hu⟩
  · exact ⟨fun f => List.countP_reverse, by rw [List.length_reverse]; exact h6, fun u h => hu u (List.mem_reverse.mp h)⟩
  · refine ⟨fun f => ?_, ?_, fun u h => ?_⟩
    · conv => rhs; rw [← List.take_append_drop 1 us]
      rw [List.countP_append, List.countP_append, Nat.add_comm]
    · simp only [List.length_append, List.length_drop, List.length_take]
      omega
    · rcases List.mem_append.mp h with h | h
      · exact hu u (List.mem_of_mem_drop h)
      · exact hu u (List.mem_of_mem_take h)
theorem Tl.is {α : Type} {r : Res α} {a : α} (h : Tl r fun x => x = a) : r = .ok a := by
  obtain ⟨x, e, rfl⟩ := h
  exact e
theorem dAdd_lst {as bs : List D} (h : as.length + bs.length ≤ 1000000) : dAdd (.lst as) (.lst bs) = .ok (.lst (as ++ bs)) := if_pos h
theorem pure_law (ns : List Int) (h63 : ns.length ≤ 63) : ∃ ρ dA dB dw dr, m_law_pre (ev0 18 [.lst (ns.map .int)]) = .ok (.nx ρ) ∧ m_law_it ρ = .ok [dA, dB] ∧ 11 < ρ.length ∧ ρ[3]? = some (.im dw) ∧ ρ[5]? = some (.im dr) ∧ m_filled_mask [dA, dw, dr] = .ex "BadTriangle" ∧ m_filled_mask [dB, dw, dr] = .ex "BadTriangle" ∧ m_shared_mask [dA, dw, dr] = .ex "BadTriangle" ∧ m_shared_mask [dB, dw, dr] = .ex "BadTriangle" := by
  have key : Tl (m_law_pre (ev0 18 [.lst (ns.map .int)])) fun f => ∃ ρ dA dB dw dr, f = .nx ρ ∧ m_law_it ρ = .ok [dA, dB] ∧ 11 < ρ.length ∧ ρ[3]? = some (.im dw) ∧ ρ[5]? = some (.im dr) ∧ m_filled_mask [dA, dw, dr] = .ex "BadTriangle" ∧ m_filled_mask [dB, dw, dr] = .ex "BadTriangle" ∧ m_shared_mask [dA, dw, dr] = .ex "BadTriangle" ∧ m_shared_mask [dB, dw, dr] = .ex "BadTriangle" := by
    unfold m_law_pre
    walk_at "w"
    refine w_triangles (most := 6) (many := 0) (by decide) (by decide) (by decide) fun ts lt ht => ?_
    obtain ⟨us, rfl, lu, hu⟩ := tri_list ht
    rw [← lu] at lt
    clear lu ht
    walk_at "w"
    refine w_cell_at (by decide) fun c7 => ?_
    walk_at "w"
    refine w_draws (n := 1) (by decide) fun ds ld hd => ?_
    walk_at "w"
    refine w_ixI (by rw [ld]; omega) fun d hd0 => ?_
    have hd := hd d hd0
    clear hd0 ld
    unfold Dw at hd
    walk_at "w"
    have wd : Tl (bInt [.bl (decide (d / 12 % 6 = 3))]) fun y => Tl (dIx (.lst [.int (1 + d % 12), .int 64]) y) fun x => ∃ n : Nat, x = .int (n : Int) ∧ 1 ≤ n ∧ n ≤ 64 := by
      by_cases z : d / 12 % 6 = 3
      · rw [decide_eq_true z]; exact tl_of rfl (tl_of rfl ⟨64, rfl, by decide⟩)
      · rw [decide_eq_false z]; exact tl_of rfl (tl_of rfl ⟨(1 + d % 12).toNat, by rw [Int.toNat_of_nonneg (by omega)], by omega⟩)
    obtain ⟨y, e1, x, e2, n, rfl, hn⟩ := wd
    refine tl_of e1 (tl_of e2 ?_)
    clear e1 e2 y
    walk_at "w"
    refine w_cell_at (by decide) fun c8 => ?_
    walk_at "w"
    refine w_draws (n := 1) (by decide) fun es le he => ?_
    walk_at "w"
    refine w_ixI (by rw [le]; omega) fun g hg0 => ?_
    have hg := he g hg0
    clear hg0 le he
    walk_at "w"
    refine w_fan hg fun t vs L lo R hi hv lv hb hc => ?_
    walk_at "w"
    have hrow : ∀ x ∈ ([.int (d / 16 % 9), .int (d / 256 % 9), .int 0] : List D), ∃ r : Int, x = .int r ∧ 0 ≤ r ∧ r ≤ 8 := by
      intro x hx
      simp only [List.mem_cons, List.not_mem_nil, or_false] at hx
      rcases hx with rfl | rfl | rfl
      · exact ⟨_, rfl, by omega⟩
      · exact ⟨_, rfl, by omega⟩
      · exact ⟨_, rfl, by omega⟩
    refine w_invP (fun p ρ => ∃ v5 v6 v7 v8 v9 v10 v11 : Cl, (p ≠ [] → ∃ r : Int, v5 = .im (.int r) ∧ 0 ≤ r ∧ r ≤ 8) ∧ ρ = [.im (.lst (ns.map .int)), .im (.lst (us.map T3.d)), .im (.int d), .im (.int (n : Int)), .im (.tup [.lst ((t :: vs).map T3.d), .int L, .int lo, .int R, .int hi]), v5, v6, v7, v8, v9, v10, v11, .no, .no, .no, .no, .no, .no]) ⟨_, _, _, _, _, _, _, fun z => absurd rfl z, rfl⟩ ?_ ?_
    · rintro p x rest e ρ ⟨v5, v6, v7, v8, v9, v10, v11, _, rfl⟩
      obtain ⟨r, rfl, hr⟩ := hrow x (by rw [e]; simp)
      clear e
      walk_at "w"
      rw [rangeD_eq, Int.toNat_natCast]
      refine w_upto (fun j ρ => ∃ v9 v10 : Cl, ρ = [.im (.lst (ns.map .int)), .im (.lst (us.map T3.d)), .im (.int d), .im (.int (n : Int)), .im (.tup [.lst ((t :: vs).map T3.d), .int L, .int lo, .int R, .int hi]), .im (.int r), .im (.int ((fil r j us : Nat) : Int)), .im (.int ((shr r j us : Nat) : Int)), .im (.int ((mkB (fun k : Nat => decide ((L ≤ 2 * (k : Int) + 1 ∧ 2 * (k : Int) + 1 < R) ∧ lo ≤ 2 * r + 1 ∧ 2 * r + 1 < hi)) j : Nat) : Int)), v9, v10, v11, .no, .no, .no, .no, .no, .no]) ⟨_, _, rfl⟩ ?_ ?_
      · rintro j hj ρ ⟨v9, v10, rfl⟩
        walk_at "w"
        refine ⟨by rw [List.length_map]; omega, ?_⟩
        refine w_filtR (T3.at r j) (fun a ha => ?_) ?_
        · walk_at "w"
          refine w_hadT (hu a ha) (by omega) (by omega) ?_
          walk_at "w"
          exact ⟨rfl, tl_of rfl rfl⟩
        walk_at "w"
        rw [List.length_map, ← List.countP_eq_length_filter]
        refine Tl.mono (Ψ := fun f => f = Fl.nx [.im (.lst (ns.map .int)), .im (.lst (us.map T3.d)), .im (.int d), .im (.int (n : Int)), .im (.tup [.lst ((t :: vs).map T3.d), .int L, .int lo, .int R, .int hi]), .im (.int r), .im (.int ((fil r (j + 1) us : Nat) : Int)), .im (.int ((shr r j us : Nat) : Int)), .im (.int ((mkB (fun k : Nat => decide ((L ≤ 2 * (k : Int) + 1 ∧ 2 * (k : Int) + 1 < R) ∧ lo ≤ 2 * r + 1 ∧ 2 * r + 1 < hi)) j : Nat) : Int)), .im (.int (j : Int)), .im (.int ((cnt r j us : Nat) : Int)), v11, .no, .no, .no, .no, .no, .no]) ?_ ?_
        · refine w_dec (fun z => ?_) (fun z => ?_)
          · walk_at "w"
            refine w_shl1 (by omega) ?_
            walk_at "w"
            rw [show fil r (j + 1) us = fil r j us + 2 ^ j by unfold fil; rw [mkB_succ, if_pos (decide_eq_true (show 0 < cnt r j us by unfold cnt; omega))], Int.natCast_add]
          · walk_at "w"
            rw [show fil r (j + 1) us = fil r j us by unfold fil; rw [mkB_succ, if_neg (by rw [decide_eq_false (show ¬ 0 < cnt r j us by unfold cnt; omega)]; exact Bool.false_ne_true), Nat.add_zero]]
        rintro f rfl
        walk_at "w"
        refine Tl.mono (Ψ := fun f => f = Fl.nx [.im (.lst (ns.map .int)), .im (.lst (us.map T3.d)), .im (.int d), .im (.int (n : Int)), .im (.tup [.lst ((t :: vs).map T3.d), .int L, .int lo, .int R, .int hi]), .im (.int r), .im (.int ((fil r (j + 1) us : Nat) : Int)), .im (.int ((shr r (j + 1) us : Nat) : Int)), .im (.int ((mkB (fun k : Nat => decide ((L ≤ 2 * (k : Int) + 1 ∧ 2 * (k : Int) + 1 < R) ∧ lo ≤ 2 * r + 1 ∧ 2 * r + 1 < hi)) j : Nat) : Int)), .im (.int (j : Int)), .im (.int ((cnt r j us : Nat) : Int)), v11, .no, .no, .no, .no, .no, .no]) ?_ ?_
        · refine w_dec (fun z => ?_) (fun z => ?_)
          · walk_at "w"
            refine w_shl1 (by omega) ?_
            walk_at "w"
            rw [show shr r (j + 1) us = shr r j us + 2 ^ j by unfold shr; rw [mkB_succ, if_pos (decide_eq_true (show 1 < cnt r j us by omega))], Int.natCast_add]
          · walk_at "w"
            rw [show shr r (j + 1) us = shr r j us by unfold shr; rw [mkB_succ, if_neg (by rw [decide_eq_false (show ¬ 1 < cnt r j us by omega)]; exact Bool.false_ne_true), Nat.add_zero]]
        rintro f rfl
        walk_at "w"
        refine (show Tl (m__law_in_box [.tup [.int L, .int lo, .int R, .int hi], .int (j : Int), .int r]) _ from w_in_box ?_)
        walk_at "w"
        rw [mkB_succ]
        refine w_dec (fun z => ?_) (fun z => ?_)
        · walk_at "w"
          refine w_shl1 (by omega) ?_
          walk_at "w"
          rw [if_pos (decide_eq_true z), Int.natCast_add]
          exact ⟨_, rfl, _, _, rfl⟩
        · walk_at "w"
          rw [if_neg (by rw [decide_eq_false z]; exact Bool.false_ne_true), Nat.add_zero]
          exact ⟨_, rfl, _, _, rfl⟩
      rintro ρ ⟨v9, v10, rfl⟩
      walk_at "w"
      refine tl_of (rot_d us lt) ?_
      walk_at "w"
      rw [← List.map_reverse]
      show Tl (forGo _ _ ([us, us.reverse, us.drop 1 ++ us.take 1].map fun l : List T3 => D.lst (l.map T3.d)) _) _
      have fe : ∀ l ∈ [us, us.reverse, us.drop 1 ++ us.take 1], fil r n l = fil r n us ∧ shr r n l = shr r n us := fun l hl => by
        have := (turned_d us hu lt l hl).1
        unfold fil shr cnt
        simp [this]
      refine w_each (fun _ ρ => ∃ v11 : Cl, ρ = [.im (.lst (ns.map .int)), .im (.lst (us.map T3.d)), .im (.int d), .im (.int (n : Int)), .im (.tup [.lst ((t :: vs).map T3.d), .int L, .int lo, .int R, .int hi]), .im (.int r), .im (.int ((fil r n us : Nat) : Int)), .im (.int ((shr r n us : Nat) : Int)), .im (.int ((mkB (fun k : Nat => decide ((L ≤ 2 * (k : Int) + 1 ∧ 2 * (k : Int) + 1 < R) ∧ lo ≤ 2 * r + 1 ∧ 2 * r + 1 < hi)) n : Nat) : Int)), v9, v10, v11, .no, .no, .no, .no, .no, .no]) ?_ ?_ ⟨_, rfl⟩
      · rintro p' l q' e ρ ⟨v11, rfl⟩
        have hl : l ∈ [us, us.reverse, us.drop 1 ++ us.take 1] := by rw [e]; simp
        clear e
        obtain ⟨_, l6, ol⟩ := turned_d us hu lt l hl
        obtain ⟨fl1, fl2⟩ := fe l hl
        walk_at "w"
        refine w_filled ol (by omega) (by omega) (by omega) ?_
        rw [fl1]
        walk_at "w"
        refine w_shared ol (by omega) (by omega) (by omega) ?_
        rw [fl2]
        walk_at "w"
        exact ⟨_, rfl, _, rfl⟩
      rintro ρ ⟨v11, rfl⟩
      have g1 : fil r n (t :: vs) = mkB (fun k : Nat => decide ((L ≤ 2 * (k : Int) + 1 ∧ 2 * (k : Int) + 1 < R) ∧ lo ≤ 2 * r + 1 ∧ 2 * r + 1 < hi)) n := mkB_congr fun i _ => by
        rw [decide_eq_decide]
        have := hc r i
        split at this <;> omega
      have g2 : shr r n (t :: vs) = 0 := by
        unfold shr
        rw [← mkB_none n]
        refine mkB_congr fun i _ => decide_eq_false ?_
        have := hc r i
        split at this <;> omega
      walk_at "w"
      refine w_filled hv (by simp; omega) (by omega) (by omega) ?_
      rw [g1]
      walk_at "w"
      refine w_shared hv (by simp; omega) (by omega) (by omega) ?_
      rw [g2]
      walk_at "w"
      exact ⟨_, rfl, _, _, _, _, _, _, _, fun _ => ⟨r, rfl, hr⟩, rfl⟩
    · rintro ρ ⟨v5, v6, v7, v8, v9, v10, v11, h5, rfl⟩
      obtain ⟨r, rfl, hr⟩ := h5 (by simp)
      walk_at "w"
      unfold cor
      walk_at "w"
      have hbad : m_check_before_eye [.tup [cor t.ax t.ay t.aw t.ah t.av, .tup [.int t.bx, .int t.bY, .int (0 - d / 32 % 3), .int t.bh, .tup (t.bv.map .int)], cor t.cx t.cy t.cw t.ch t.cv]] = .ex "BadTriangle" := x_check2 (by omega)
      have hn' : n ≤ 1000 := by omega
      have hr' : 0 ≤ r ∧ r ≤ 1000 := by omega
      refine ⟨_, _, _, .int (n : Int), .int r, rfl, ?_, by simp, rfl, rfl, x_filled (ts := us) hu hn' hr' hbad (rest := []), x_filled (ts := []) (fun _ h => (List.not_mem_nil h).elim) hn' hr' hbad (rest := (t :: vs).map T3.d), x_shared (ts := us) hu hn' hr' hbad (rest := []), x_shared (ts := []) (fun _ h => (List.not_mem_nil h).elim) hn' hr' hbad (rest := (t :: vs).map T3.d)⟩
      refine Tl.is ?_
      unfold m_law_it
      walk_at "w"
      refine tl_of (dAdd_lst (by simp; omega)) ?_
      walk_at "w"
      refine tl_of (dAdd_lst (by simp; omega)) ?_
      walk_at "w"
      rfl
  obtain ⟨f, e, ρ, dA, dB, dw, dr, rfl, r⟩ := key
  exact ⟨ρ, dA, dB, dw, dr, e, r⟩

end My
namespace My
open PySem L2 Ds Dl
noncomputable def top (i : Nat) : Stmt := PySem.Challenge.pw_sampleyard_k24_filled_and_shared.main.body.getD i (.Pass ⟨0, 0, 0, 0⟩)
noncomputable abbrev s__law_cell_at : Stmt := top 18
noncomputable abbrev s__law_mixed : Stmt := top 19
noncomputable abbrev s__law_draws : Stmt := top 20
noncomputable abbrev s__law_fan : Stmt := top 23
noncomputable abbrev s__law_in_box : Stmt := top 24
noncomputable abbrev s__law_corner : Stmt := top 21
noncomputable abbrev s__law_triangles : Stmt := top 22
noncomputable abbrev s_check_before_eye : Stmt := top 8
noncomputable abbrev s_edge_numbers : Stmt := top 7
noncomputable abbrev s_summed_products : Stmt := top 4
noncomputable abbrev s_side : Stmt := top 6
noncomputable abbrev s_had : Stmt := top 9
noncomputable abbrev s_mask_of : Stmt := top 13
noncomputable abbrev s_middle : Stmt := top 11
noncomputable abbrev s_middles : Stmt := top 12
noncomputable abbrev s_row_mask : Stmt := top 14
noncomputable abbrev s_filled_mask : Stmt := top 15
noncomputable abbrev s_shared_mask : Stmt := top 16
noncomputable abbrev s__law_refused : Stmt := top 25
noncomputable abbrev s_law : Stmt := top 26
theorem sc__law_cell_at : FnScope ["_law_script", "_law_k"] ["_law_script", "_law_k"] (defScope s__law_cell_at) := ⟨rfl, rfl, rfl, by decide +kernel, rfl, by decide +kernel, by decide +kernel⟩
theorem sc__law_mixed : FnScope ["_law_cell", "_law_k", "_law_number"] ["_law_cell", "_law_k"] (defScope s__law_mixed) := ⟨rfl, rfl, rfl, by decide +kernel, rfl, by decide +kernel, by decide +kernel⟩
theorem sc__law_draws : FnScope ["_law_cell", "_law_many"] ["_law_cell", "_law_many"] (defScope s__law_draws) := ⟨rfl, rfl, rfl, by decide +kernel, rfl, by decide +kernel, by decide +kernel⟩
theorem sc__law_fan : FnScope ["_law_number", "_law_left", "_law_low", "_law_wide", "_law_high", "_law_border", "_law_inner", "_law_found", "_law_k", "_law_ends", "_law_corners"] ["_law_number"] (defScope s__law_fan) := ⟨rfl, rfl, rfl, by decide +kernel, rfl, by decide +kernel, by decide +kernel⟩
theorem sc__law_in_box : FnScope ["_law_box", "_law_column", "_law_row", "_law_left", "_law_low", "_law_right", "_law_high"] ["_law_box", "_law_column", "_law_row"] (defScope s__law_in_box) := ⟨rfl, rfl, rfl, by decide +kernel, rfl, by decide +kernel, by decide +kernel⟩
theorem sc__law_corner : FnScope ["_law_draws_here", "_law_many", "_law_number", "_law_more", "_law_scale", "_law_times", "_law_x", "_law_y", "_law_w", "_law_h", "_law_values"] ["_law_draws_here", "_law_many"] (defScope s__law_corner) := ⟨rfl, rfl, rfl, by decide +kernel, rfl, by decide +kernel, by decide +kernel⟩
theorem sc__law_triangles : FnScope ["_law_script", "_law_first", "_law_most", "_law_many", "_law_size", "_law_rows", "_law_pool", "_law_draws_here", "_law_found", "_law_k", "_law_number", "_law_one"] ["_law_script", "_law_first", "_law_most", "_law_many"] (defScope s__law_triangles) := ⟨rfl, rfl, rfl, by decide +kernel, rfl, by decide +kernel, by decide +kernel⟩
theorem sc_check_before_eye : FnScope ["corners", "corner"] ["corners"] (defScope s_check_before_eye) := ⟨rfl, rfl, rfl, by decide +kernel, rfl, by decide +kernel, by decide +kernel⟩
theorem sc_edge_numbers : FnScope ["one", "other"] ["one", "other"] (defScope s_edge_numbers) := ⟨rfl, rfl, rfl, by decide +kernel, rfl, by decide +kernel, by decide +kernel⟩
theorem sc_summed_products : FnScope ["three", "other"] ["three", "other"] (defScope s_summed_products) := ⟨rfl, rfl, rfl, by decide +kernel, rfl, by decide +kernel, by decide +kernel⟩
theorem sc_side : FnScope ["one", "other", "point", "n", "number"] ["one", "other", "point"] (defScope s_side) := ⟨rfl, rfl, rfl, by decide +kernel, rfl, by decide +kernel, by decide +kernel⟩
theorem sc_had : FnScope ["triangle", "point", "turn"] ["triangle", "point"] (defScope s_had) := ⟨rfl, rfl, rfl, by decide +kernel, rfl, by decide +kernel, by decide +kernel⟩
theorem sc_mask_of : FnScope ["truths", "bits", "column", "truth"] ["truths"] (defScope s_mask_of) := ⟨rfl, rfl, rfl, by decide +kernel, rfl, by decide +kernel, by decide +kernel⟩
theorem sc_middle : FnScope ["column", "row"] ["column", "row"] (defScope s_middle) := ⟨rfl, rfl, rfl, by decide +kernel, rfl, by decide +kernel, by decide +kernel⟩
theorem sc_middles : FnScope ["width", "row"] ["width", "row"] (defScope s_middles) := ⟨rfl, rfl, rfl, by decide +kernel, rfl, by decide +kernel, by decide +kernel⟩
theorem sc_row_mask : FnScope ["triangle", "width", "row"] ["triangle", "width", "row"] (defScope s_row_mask) := ⟨rfl, rfl, rfl, by decide +kernel, rfl, by decide +kernel, by decide +kernel⟩
theorem sc_filled_mask : FnScope ["triangles", "width", "row", "filled", "triangle"] ["triangles", "width", "row"] (defScope s_filled_mask) := ⟨rfl, rfl, rfl, by decide +kernel, rfl, by decide +kernel, by decide +kernel⟩
theorem sc_shared_mask : FnScope ["triangles", "width", "row", "filled", "shared", "triangle", "bits"] ["triangles", "width", "row"] (defScope s_shared_mask) := ⟨rfl, rfl, rfl, by decide +kernel, rfl, by decide +kernel, by decide +kernel⟩
theorem sc__law_refused : FnScope ["_law_deed", "_law_found"] ["_law_deed"] (defScope s__law_refused) := ⟨rfl, rfl, rfl, by decide +kernel, rfl, by decide +kernel, by decide +kernel⟩
theorem sc_law : FnScope ["_law_script", "_law_triangles_here", "_law_number", "_law_width", "_law_fan_here", "_law_row", "_law_filled", "_law_twice", "_law_boxed", "_law_column", "_law_many", "_law_some", "_law_x", "_law_y", "_law_w", "_law_h", "_law_values", "_law_bad"] ["_law_script"] (defScope s_law) := ⟨rfl, rfl, rfl, by decide +kernel, rfl, by decide +kernel, by decide +kernel⟩
structure Txt (K : PySem.W.Frag) (mg : Str → Option Value) : Prop where
  z_enumerate : mg "enumerate" = none
  z_int : mg "int" = none
  z_len : mg "len" = none
  z_range : mg "range" = none
  z_tuple : mg "tuple" = none
  c_BadTriangle : ∃ C, mg "BadTriangle" = some (.ref C)
  e_BadTriangle : ∃ C, mg "BadTriangle" = some (.ref C) ∧ PySem.W.excIn K C veMro "ValueError.__new__" = true
  h_BadTriangle : ∀ C, mg "BadTriangle" = some (.ref C) → ∀ c ∈ (["BadTriangle"] : List Str), ∃ D, mg c = some (.ref D) ∧ PySem.W.exmOne K (.ref D) (.ref C) = some true
section
variable {P : Program} {w : World} {K : PySem.W.Frag} {mg : Str → Option Value} {base : Heap}
theorem ok__law_cell_at (T : Txt K mg) (D : Def K mg "_law_cell_at" s__law_cell_at ["_law_script", "_law_k"])  : Cal P w K mg base 1  "_law_cell_at" ["_law_script", "_law_k"] m__law_cell_at := by
  exact D.cal sc__law_cell_at (fun f cdv A outer s H E hr => ⟨_, (dss_cons (ds_if (dt_lt (d_v 1) (d_cb call_len_seq callD_len rfl T.z_len bt_len (da_cons (d_v 0) da_nil)))
    (dss_one (ds_ret (d_ix (d_v 0) (d_v 1))))
    dss_nil)
    (dss_one (ds_ret d_int)))⟩)
theorem ok__law_mixed (T : Txt K mg) (D : Def K mg "_law_mixed" s__law_mixed ["_law_cell", "_law_k"])  : Cal P w K mg base 1  "_law_mixed" ["_law_cell", "_law_k"] m__law_mixed := by
  exact D.cal sc__law_mixed (fun f cdv A outer s H E hr => ⟨_, (dss_cons (ds_if (DW.dt (dw_and (dt_ge (d_v 0) (d_shl d_int d_int)) (dw_and (dt_eq hr (d_mod (d_v 0) d_int) d_int) (dw_and1 (dt_gt (d_shr (d_v 0) (d_add d_int (d_mul d_int (d_v 1)))) d_int)))))
    (dss_one (ds_ret (d_mod (d_shr (d_v 0) (d_add d_int (d_mul d_int (d_v 1)))) d_int)))
    dss_nil)
    (dss_cons (ds_set (i := 2) sc__law_mixed.nd rfl (Or.inl rfl) (d_mod (d_mul (d_add (d_add (d_v 0) (d_mul d_int (d_v 1))) d_int) d_int) d_int))
    (dss_cons (ds_set (i := 2) sc__law_mixed.nd rfl (Or.inl rfl) (d_mod (d_mul (d_v 2) (d_add (d_div (d_v 2) d_int) d_int)) d_int))
    (dss_one (ds_ret (d_mod (d_mul (d_v 2) (d_add (d_add (d_div (d_v 2) d_int) d_int) (d_v 1))) d_int))))))⟩)
theorem ok__law_draws (T : Txt K mg) (D : Def K mg "_law_draws" s__law_draws ["_law_cell", "_law_many"]) (c__law_mixed : Cal P w K mg base 1  "_law_mixed" ["_law_cell", "_law_k"] m__law_mixed) : Cal P w K mg base 2  "_law_draws" ["_law_cell", "_law_many"] m__law_draws := by
  exact D.cal sc__law_draws (fun f cdv A outer s H E hr => ⟨_, (dss_one (ds_ret (d_comp (own := ["_law_k"]) (cap := [("_law_cell", 0)]) (di_r1 rfl T.z_range (da_cons (d_v 1) da_nil)) (CompOk.of rfl rfl (by kernel_rfl) rfl ⟨rfl, trivial⟩ ⟨rfl, trivial⟩) rfl (fun _ _ _ _ _ => (dg_name (i := 0) (show List.Nodup (["_law_k", "_law_cell"] : List Str) by decide +kernel) rfl (Or.inl rfl) (by decide))) (fun _ _ _ _ _ => dts_nil) (fun _ _ _ _ _ => (d_callC c__law_mixed hr (by decide) rfl (da_cons (d_v 1) (da_cons (d_v 0) da_nil)))))))⟩)
theorem ok__law_fan (T : Txt K mg) (D : Def K mg "_law_fan" s__law_fan ["_law_number"])  : Cal P w K mg base 1  "_law_fan" ["_law_number"] m__law_fan := by
  exact D.cal sc__law_fan (fun f cdv A outer s H E hr => ⟨_, (dss_cons (ds_set (i := 1) sc__law_fan.nd rfl (Or.inl rfl) (d_mod (d_v 0) d_int))
    (dss_cons (ds_set (i := 2) sc__law_fan.nd rfl (Or.inl rfl) (d_mod (d_div (d_v 0) d_int) d_int))
    (dss_cons (ds_set (i := 3) sc__law_fan.nd rfl (Or.inl rfl) (d_add d_int (d_mod (d_div (d_v 0) d_int) d_int)))
    (dss_cons (ds_set (i := 4) sc__law_fan.nd rfl (Or.inl rfl) (d_add d_int (d_mod (d_div (d_v 0) d_int) d_int)))
    (dss_cons (ds_setO (i := 5) sc__law_fan.nd rfl (Or.inl rfl) (da_cons (d_tup (da_cons (d_v 1) (da_cons (d_v 2) da_nil))) (da_cons (d_tup (da_cons (d_add (d_add (d_v 1) (d_mod (d_div (d_v 0) d_int) (d_sub (d_v 3) d_int))) d_int) (da_cons (d_v 2) da_nil))) (da_cons (d_tup (da_cons (d_add (d_v 1) (d_v 3)) (da_cons (d_v 2) da_nil))) da_nil))))
    (dss_cons (ds_frz (ds_setA (i := 5) sc__law_fan.nd rfl (Or.inl rfl) (d_v 5) (d_lst (da_cons (d_tup (da_cons (d_add (d_v 1) (d_v 3)) (da_cons (d_add (d_v 2) (d_v 4)) da_nil))) (da_cons (d_tup (da_cons (d_v 1) (da_cons (d_add (d_v 2) (d_v 4)) da_nil))) da_nil)))))
    (dss_cons (ds_if (dt_eq hr (d_mod (d_div (d_v 0) d_int) d_int) d_int)
    (dss_one (ds_app 5 (d_tup (da_cons (d_v 1) (da_cons (d_add (d_add (d_v 2) d_int) (d_mod (d_div (d_v 0) d_int) (d_sub (d_v 4) d_int))) da_nil)))))
    dss_nil)
    (dss_cons (ds_set (i := 6) sc__law_fan.nd rfl (Or.inl rfl) (d_tup (da_cons (d_add (d_add (d_v 1) d_int) (d_mod (d_div (d_v 0) d_int) (d_sub (d_v 3) d_int))) (da_cons (d_add (d_add (d_v 2) d_int) (d_mod (d_div (d_v 0) d_int) (d_sub (d_v 4) d_int))) da_nil))))
    (dss_cons (ds_setO (i := 7) sc__law_fan.nd rfl (Or.inl rfl) da_nil)
    (dss_cons (ds_frz (ds_for PassesOwn.leaving rfl (di_r1 rfl T.z_range (da_cons (d_cb call_len_seq callD_len rfl T.z_len bt_len (da_cons (d_v 5) da_nil)) da_nil)) (dg_name (i := 8) sc__law_fan.nd rfl (Or.inl rfl) (by decide))
    (dss_cons (ds_set (i := 9) sc__law_fan.nd rfl (Or.inl rfl) (d_lst (da_cons (d_v 6) (da_cons (d_ix (d_v 5) (d_sub (d_v 8) d_int)) (da_cons (d_ix (d_v 5) (d_v 8)) da_nil)))))
    (dss_cons (ds_setC (i := 10) sc__law_fan.nd rfl (Or.inl rfl) (own := ["_law_x", "_law_y"]) (cap := [("_law_number", 0)]) (di_seq (d_v 9)) (CompOk.of rfl rfl (by kernel_rfl) rfl ⟨rfl, trivial⟩ ⟨rfl, trivial⟩) rfl (fun _ _ _ _ _ => (dg_tup rfl (dgs_cons (dg_name (i := 0) (show List.Nodup (["_law_x", "_law_y", "_law_number"] : List Str) by decide +kernel) rfl (Or.inl rfl) (by decide)) (dgs_cons (dg_name (i := 1) (show List.Nodup (["_law_x", "_law_y", "_law_number"] : List Str) by decide +kernel) rfl (Or.inl rfl) (by decide)) dgs_nil)))) (fun _ _ _ _ _ => dts_nil) (fun _ _ _ _ _ => (d_tup (da_cons (d_v 0) (da_cons (d_v 1) (da_cons d_int (da_cons (d_add d_int (d_mod (d_v 2) d_int)) (da_cons (d_tup da_nil) da_nil))))))))
    (dss_cons (ds_if (dt_eq hr (d_mod (d_div (d_v 0) (d_add d_int (d_v 8))) d_int) d_int)
    (dss_one (ds_set (i := 10) sc__law_fan.nd rfl (Or.inl rfl) (d_lst (da_cons (d_ix (d_v 10) d_int) (da_cons (d_ix (d_v 10) d_int) (da_cons (d_ix (d_v 10) d_int) da_nil))))))
    dss_nil)
    (dss_one (ds_app 7 (d_tup (da_cons (d_ix (d_v 10) d_int) (da_cons (d_ix (d_v 10) d_int) (da_cons (d_ix (d_v 10) d_int) da_nil)))))))))))
    (dss_one (ds_frz (ds_ret (d_tup (da_cons (d_v 7) (da_cons (d_v 1) (da_cons (d_v 2) (da_cons (d_add (d_v 1) (d_v 3)) (da_cons (d_add (d_v 2) (d_v 4)) da_nil)))))))))))))))))))⟩)
theorem ok__law_in_box (T : Txt K mg) (D : Def K mg "_law_in_box" s__law_in_box ["_law_box", "_law_column", "_law_row"])  : Cal P w K mg base 1  "_law_in_box" ["_law_box", "_law_column", "_law_row"] m__law_in_box := by
  exact D.cal sc__law_in_box (fun f cdv A outer s H E hr => ⟨_, (dss_cons (ds_asg (d_v 0) (dg_tup rfl (dgs_cons (dg_name (i := 3) sc__law_in_box.nd rfl (Or.inl rfl) (by decide)) (dgs_cons (dg_name (i := 4) sc__law_in_box.nd rfl (Or.inl rfl) (by decide)) (dgs_cons (dg_name (i := 5) sc__law_in_box.nd rfl (Or.inl rfl) (by decide)) (dgs_cons (dg_name (i := 6) sc__law_in_box.nd rfl (Or.inl rfl) (by decide)) dgs_nil))))))
    (dss_one (ds_ret (d_and (d_chain op_le opD_le op_lt opD_lt (d_v 3) (d_add (d_mul d_int (d_v 1)) d_int) (d_v 5)) (d_one (d_chain op_le opD_le op_lt opD_lt (d_v 4) (d_add (d_mul d_int (d_v 2)) d_int) (d_v 6)))))))⟩)
theorem ok__law_corner (T : Txt K mg) (D : Def K mg "_law_corner" s__law_corner ["_law_draws_here", "_law_many"])  : Cal P w K mg base 1  "_law_corner" ["_law_draws_here", "_law_many"] m__law_corner := by
  exact D.cal sc__law_corner (fun f cdv A outer s H E hr => ⟨_, (dss_cons (ds_asg (d_cut (d_v 0) do_none (do_some d_int)) (dg_tup rfl (dgs_cons (dg_name (i := 2) sc__law_corner.nd rfl (Or.inl rfl) (by decide)) (dgs_cons (dg_name (i := 3) sc__law_corner.nd rfl (Or.inl rfl) (by decide)) dgs_nil))))
    (dss_cons (ds_set (i := 4) sc__law_corner.nd rfl (Or.inl rfl) (d_ix (d_lst (da_cons d_int (da_cons d_int (da_cons d_int (da_cons d_int da_nil))))) (d_mod (d_div (d_v 2) d_int) d_int)))
    (dss_cons (ds_set (i := 5) sc__law_corner.nd rfl (Or.inl rfl) (d_add d_int (d_mod (d_div (d_v 2) d_int) d_int)))
    (dss_cons (ds_set (i := 6) sc__law_corner.nd rfl (Or.inl rfl) (d_mul (d_v 5) (d_sub (d_mod (d_div (d_v 2) d_int) (d_add (d_mul (d_v 4) d_int) d_int)) (d_v 4))))
    (dss_cons (ds_set (i := 7) sc__law_corner.nd rfl (Or.inl rfl) (d_mul (d_v 5) (d_sub (d_mod (d_v 3) (d_add (d_mul (d_v 4) d_int) d_int)) (d_v 4))))
    (dss_cons (ds_set (i := 8) sc__law_corner.nd rfl (Or.inl rfl) (d_mul (d_v 4) (d_v 5)))
    (dss_cons (ds_set (i := 9) sc__law_corner.nd rfl (Or.inl rfl) (d_ix (d_lst (da_cons d_int (da_cons (d_v 8) (da_cons (d_add d_int (d_mod (d_div (d_v 3) d_int) d_int)) (da_cons (d_v 8) da_nil))))) (d_mod (d_div (d_v 3) d_int) d_int)))
    (dss_cons (ds_set (i := 10) sc__law_corner.nd rfl (Or.inl rfl) (d_ct call_tuple_of callD_tuple rfl T.z_tuple bt_tuple (da_cons (d_comp (own := ["_law_j"]) (cap := [("_law_draws_here", 0)]) (di_r1 rfl T.z_range (da_cons (d_v 1) da_nil)) (CompOk.of rfl rfl (by kernel_rfl) rfl ⟨rfl, trivial⟩ ⟨rfl, trivial⟩) rfl (fun _ _ _ _ _ => (dg_name (i := 0) (show List.Nodup (["_law_j", "_law_draws_here"] : List Str) by decide +kernel) rfl (Or.inl rfl) (by decide))) (fun _ _ _ _ _ => dts_nil) (fun _ _ _ _ _ => (d_sub (d_mod (d_ix (d_v 1) (d_add d_int (d_v 0))) d_int) d_int))) da_nil)))
    (dss_cons (ds_if (dt_eq hr (d_mod (d_v 2) d_int) d_int)
    (dss_cons (ds_set (i := 6) sc__law_corner.nd rfl (Or.inl rfl) (d_sub (d_mod (d_ix (d_v 0) d_int) d_int) (d_pow d_int d_int)))
    (dss_cons (ds_set (i := 7) sc__law_corner.nd rfl (Or.inl rfl) (d_sub (d_mod (d_ix (d_v 0) d_int) d_int) (d_pow d_int d_int)))
    (dss_cons (ds_set (i := 8) sc__law_corner.nd rfl (Or.inl rfl) (d_add d_int (d_mod (d_ix (d_v 0) d_int) (d_pow d_int d_int))))
    (dss_cons (ds_set (i := 9) sc__law_corner.nd rfl (Or.inl rfl) (d_add d_int (d_mod (d_ix (d_v 0) d_int) (d_pow d_int d_int))))
    (dss_one (ds_set (i := 10) sc__law_corner.nd rfl (Or.inl rfl) (d_ct call_tuple_of callD_tuple rfl T.z_tuple bt_tuple (da_cons (d_comp (own := ["_law_j"]) (cap := [("_law_draws_here", 0)]) (di_r1 rfl T.z_range (da_cons (d_v 1) da_nil)) (CompOk.of rfl rfl (by kernel_rfl) rfl ⟨rfl, trivial⟩ ⟨rfl, trivial⟩) rfl (fun _ _ _ _ _ => (dg_name (i := 0) (show List.Nodup (["_law_j", "_law_draws_here"] : List Str) by decide +kernel) rfl (Or.inl rfl) (by decide))) (fun _ _ _ _ _ => dts_nil) (fun _ _ _ _ _ => (d_sub (d_mod (d_ix (d_v 1) (d_add d_int (d_v 0))) d_int) (d_pow d_int d_int)))) da_nil))))))))
    dss_nil)
    (dss_cons (ds_if (dt_eq hr (d_mod (d_v 2) d_int) d_int)
    (dss_cons (ds_set (i := 8) sc__law_corner.nd rfl (Or.inl rfl) (d_add d_int (d_mod (d_div (d_v 3) d_int) d_int)))
    (dss_one (ds_set (i := 6) sc__law_corner.nd rfl (Or.inl rfl) (d_sub (d_mod (d_ix (d_v 0) d_int) d_int) d_int))))
    dss_nil)
    (dss_one (ds_ret (d_tup (da_cons (d_v 6) (da_cons (d_v 7) (da_cons (d_v 8) (da_cons (d_v 9) (da_cons (d_v 10) da_nil))))))))))))))))))⟩)
theorem ok__law_triangles (T : Txt K mg) (D : Def K mg "_law_triangles" s__law_triangles ["_law_script", "_law_first", "_law_most", "_law_many"]) (c__law_cell_at : Cal P w K mg base 1  "_law_cell_at" ["_law_script", "_law_k"] m__law_cell_at) (c__law_draws : Cal P w K mg base 2  "_law_draws" ["_law_cell", "_law_many"] m__law_draws) (c__law_corner : Cal P w K mg base 1  "_law_corner" ["_law_draws_here", "_law_many"] m__law_corner) : Cal P w K mg base 3  "_law_triangles" ["_law_script", "_law_first", "_law_most", "_law_many"] m__law_triangles := by
  exact D.cal sc__law_triangles (fun f cdv A outer s H E hr => ⟨_, (dss_cons (ds_set (i := 4) sc__law_triangles.nd rfl (Or.inr rfl) (d_add d_int (d_v 3)))
    (dss_cons (ds_set (i := 5) sc__law_triangles.nd rfl (Or.inr rfl) (d_comp (own := ["_law_k"]) (cap := [("_law_size", 4), ("_law_script", 0), ("_law_first", 1)]) (di_r1 rfl T.z_range (da_cons d_int da_nil)) (CompOk.of rfl rfl (by kernel_rfl) rfl ⟨rfl, rfl, rfl, trivial⟩ ⟨rfl, rfl, rfl, trivial⟩) rfl (fun _ _ _ _ _ => (dg_name (i := 0) (show List.Nodup (["_law_k", "_law_size", "_law_script", "_law_first"] : List Str) by decide +kernel) rfl (Or.inl rfl) (by decide))) (fun _ _ _ _ _ => dts_nil) (fun _ _ _ _ _ => (d_callC c__law_draws hr (by decide) rfl (da_cons (d_callC c__law_cell_at hr (by decide) rfl (da_cons (d_v 2) (da_cons (d_add (d_v 3) (d_v 0)) da_nil))) (da_cons (d_mul d_int (d_v 1)) da_nil))))))
    (dss_cons (ds_setC (i := 6) sc__law_triangles.nd rfl (Or.inl rfl) (own := ["_law_row"]) (cap := [("_law_size", 4), ("_law_many", 3)]) (di_seq (d_v 5)) (CompOk.of rfl rfl (by kernel_rfl) rfl ⟨rfl, rfl, trivial⟩ ⟨rfl, rfl, trivial⟩) rfl (fun _ _ _ _ _ => (dg_name (i := 0) (show List.Nodup (["_law_row", "_law_size", "_law_many"] : List Str) by decide +kernel) rfl (Or.inl rfl) (by decide))) (fun _ _ _ _ _ => dts_nil) (fun _ _ _ _ _ => (d_callC c__law_corner hr (by decide) rfl (da_cons (d_cut (d_v 0) do_none (do_some (d_v 1))) (da_cons (d_v 2) da_nil)))))
    (dss_cons (ds_set (i := 7) sc__law_triangles.nd rfl (Or.inl rfl) (d_call c__law_draws hr (by decide) rfl pass_on (da_cons (d_call c__law_cell_at hr (by decide) rfl pass_on (da_cons (d_v 0) (da_cons (d_add (d_v 1) d_int) da_nil))) (da_cons (d_add (d_v 2) d_int) da_nil))))
    (dss_cons (ds_setO (i := 8) sc__law_triangles.nd rfl (Or.inl rfl) da_nil)
    (dss_cons (ds_for PassesOwn.leaving rfl (di_r1 rfl T.z_range (da_cons (d_mod (d_ix (d_v 7) d_int) (d_add (d_v 2) d_int)) da_nil)) (dg_name (i := 9) sc__law_triangles.nd rfl (Or.inr rfl) (by decide))
    (dss_cons (ds_set (i := 10) sc__law_triangles.nd rfl (Or.inl rfl) (d_ix (d_v 7) (d_add d_int (d_v 9))))
    (dss_cons (ds_set (i := 11) sc__law_triangles.nd rfl (Or.inl rfl) (d_lst (da_cons (d_ix (d_v 6) (d_mod (d_v 10) d_int)) (da_cons (d_ix (d_v 6) (d_mod (d_div (d_v 10) d_int) d_int)) (da_cons (d_ix (d_v 6) (d_mod (d_div (d_v 10) d_int) d_int)) da_nil)))))
    (dss_cons (ds_if (dt_eq hr (d_mod (d_div (d_v 10) d_int) d_int) d_int)
    (dss_one (ds_setC (i := 11) sc__law_triangles.nd rfl (Or.inl rfl) (own := ["_law_j"]) (cap := [("_law_size", 4), ("_law_rows", 5), ("_law_many", 3), ("_law_k", 9)]) (di_r1 rfl T.z_range (da_cons d_int da_nil)) (CompOk.of rfl rfl (by kernel_rfl) rfl ⟨rfl, rfl, rfl, rfl, trivial⟩ ⟨rfl, rfl, rfl, rfl, trivial⟩) rfl (fun _ _ _ _ _ => (dg_name (i := 0) (show List.Nodup (["_law_j", "_law_size", "_law_rows", "_law_many", "_law_k"] : List Str) by decide +kernel) rfl (Or.inl rfl) (by decide))) (fun _ _ _ _ _ => dts_nil) (fun _ _ _ _ _ => (d_callC c__law_corner hr (by decide) rfl (da_cons (d_cut (d_ix (d_v 2) (d_v 4)) (do_some (d_mul (d_v 1) (d_v 0))) (do_some (d_add (d_mul (d_v 1) (d_v 0)) (d_v 1)))) (da_cons (d_v 3) da_nil))))))
    dss_nil)
    (dss_one (ds_app 8 (d_tup (da_cons (d_ix (d_v 11) d_int) (da_cons (d_ix (d_v 11) d_int) (da_cons (d_ix (d_v 11) d_int) da_nil))))))))))
    (dss_one (ds_frz (ds_ret (d_v 8))))))))))⟩)
theorem ok_check_before_eye (T : Txt K mg) (D : Def K mg "check_before_eye" s_check_before_eye ["corners"])  : Cal P w K mg base 1  "check_before_eye" ["corners"] m_check_before_eye := by
  obtain ⟨C_BadTriangle, m_BadTriangle, q_BadTriangle⟩ := T.e_BadTriangle
  exact D.cal sc_check_before_eye (fun f cdv A outer s H E hr => ⟨_, (dss_one (ds_for PassesOwn.leaving rfl (di_seq (d_v 0)) (dg_name (i := 1) sc_check_before_eye.nd rfl (Or.inl rfl) (by decide))
    (dss_one (ds_if (dt_le (d_ix (d_v 1) d_int) d_int)
    (dss_one (ds_rse rfl m_BadTriangle q_BadTriangle (da_cons d_str da_nil)))
    dss_nil))))⟩)
theorem ok_edge_numbers (T : Txt K mg) (D : Def K mg "edge_numbers" s_edge_numbers ["one", "other"])  : Cal P w K mg base 1  "edge_numbers" ["one", "other"] m_edge_numbers := by
  exact D.cal sc_edge_numbers (fun f cdv A outer s H E hr => ⟨_, (dss_one (ds_ret (d_tup (da_cons (d_sub (d_mul (d_ix (d_v 0) d_int) (d_ix (d_v 1) d_int)) (d_mul (d_ix (d_v 0) d_int) (d_ix (d_v 1) d_int))) (da_cons (d_sub (d_mul (d_ix (d_v 0) d_int) (d_ix (d_v 1) d_int)) (d_mul (d_ix (d_v 0) d_int) (d_ix (d_v 1) d_int))) (da_cons (d_sub (d_mul (d_ix (d_v 0) d_int) (d_ix (d_v 1) d_int)) (d_mul (d_ix (d_v 0) d_int) (d_ix (d_v 1) d_int))) da_nil))))))⟩)
theorem ok_summed_products (T : Txt K mg) (D : Def K mg "summed_products" s_summed_products ["three", "other"])  : Cal P w K mg base 1  "summed_products" ["three", "other"] m_summed_products := by
  exact D.cal sc_summed_products (fun f cdv A outer s H E hr => ⟨_, (dss_one (ds_ret (d_add (d_add (d_mul (d_ix (d_v 0) d_int) (d_ix (d_v 1) d_int)) (d_mul (d_ix (d_v 0) d_int) (d_ix (d_v 1) d_int))) (d_mul (d_ix (d_v 0) d_int) (d_ix (d_v 1) d_int)))))⟩)
theorem ok_side (T : Txt K mg) (D : Def K mg "side" s_side ["one", "other", "point"]) (c_edge_numbers : Cal P w K mg base 1  "edge_numbers" ["one", "other"] m_edge_numbers) (c_summed_products : Cal P w K mg base 1  "summed_products" ["three", "other"] m_summed_products) : Cal P w K mg base 2  "side" ["one", "other", "point"] m_side := by
  exact D.cal sc_side (fun f cdv A outer s H E hr => ⟨_, (dss_cons (ds_set (i := 3) sc_side.nd rfl (Or.inl rfl) (d_call c_edge_numbers hr (by decide) rfl pass_on (da_cons (d_v 0) (da_cons (d_v 1) da_nil))))
    (dss_cons (ds_for PassesOwn.leaving rfl (di_seq (d_tup (da_cons (d_call c_summed_products hr (by decide) rfl pass_on (da_cons (d_v 3) (da_cons (d_v 2) da_nil))) (da_cons (d_ix (d_v 3) d_int) (da_cons (d_ix (d_v 3) d_int) da_nil))))) (dg_name (i := 4) sc_side.nd rfl (Or.inl rfl) (by decide))
    (dss_one (ds_if (dt_ne hr (d_v 4) d_int)
    (dss_one (ds_ret (d_ife (dt_gt (d_v 4) d_int) d_int (d_neg d_int))))
    dss_nil)))
    (dss_one (ds_ret d_int))))⟩)
theorem ok_had (T : Txt K mg) (D : Def K mg "had" s_had ["triangle", "point"]) (c_check_before_eye : Cal P w K mg base 1  "check_before_eye" ["corners"] m_check_before_eye) (c_side : Cal P w K mg base 2  "side" ["one", "other", "point"] m_side) : Cal P w K mg base 3  "had" ["triangle", "point"] m_had := by
  exact D.cal sc_had (fun f cdv A outer s H E hr => ⟨_, (dss_cons (ds_drp (d_call c_check_before_eye hr (by decide) rfl pass_on (da_cons (d_v 0) da_nil)))
    (dss_cons (ds_set (i := 2) sc_had.nd rfl (Or.inl rfl) (d_call c_side hr (by decide) rfl pass_on (da_cons (d_ix (d_v 0) d_int) (da_cons (d_ix (d_v 0) d_int) (da_cons (d_v 1) da_nil)))))
    (dss_cons (ds_if (DW.dt (dw_or (dt_ne hr (d_call c_side hr (by decide) rfl pass_on (da_cons (d_ix (d_v 0) d_int) (da_cons (d_ix (d_v 0) d_int) (da_cons (d_v 1) da_nil)))) (d_v 2)) (dw_or1 (dt_ne hr (d_call c_side hr (by decide) rfl pass_on (da_cons (d_ix (d_v 0) d_int) (da_cons (d_ix (d_v 0) d_int) (da_cons (d_v 1) da_nil)))) (d_v 2)))))
    (dss_one (ds_ret d_int))
    dss_nil)
    (dss_one (ds_ret (d_v 2))))))⟩)
theorem ok_mask_of (T : Txt K mg) (D : Def K mg "mask_of" s_mask_of ["truths"])  : Cal P w K mg base 1  "mask_of" ["truths"] m_mask_of := by
  exact D.cal sc_mask_of (fun f cdv A outer s H E hr => ⟨_, (dss_cons (ds_set (i := 1) sc_mask_of.nd rfl (Or.inl rfl) d_int)
    (dss_cons (ds_for PassesOwn.leaving rfl (di_enumerate rfl T.z_enumerate (da_cons (d_v 0) da_nil)) (dg_tup rfl (dgs_cons (dg_name (i := 2) sc_mask_of.nd rfl (Or.inl rfl) (by decide)) (dgs_cons (dg_name (i := 3) sc_mask_of.nd rfl (Or.inl rfl) (by decide)) dgs_nil)))
    (dss_one (ds_if (dt_val (d_v 3))
    (dss_one (ds_set (i := 1) sc_mask_of.nd rfl (Or.inl rfl) (d_or2 (d_v 1) (d_shl d_int (d_v 2)))))
    dss_nil)))
    (dss_one (ds_ret (d_v 1)))))⟩)
theorem ok_middle (T : Txt K mg) (D : Def K mg "middle" s_middle ["column", "row"])  : Cal P w K mg base 1  "middle" ["column", "row"] m_middle := by
  exact D.cal sc_middle (fun f cdv A outer s H E hr => ⟨_, (dss_one (ds_ret (d_tup (da_cons (d_add (d_mul d_int (d_v 0)) d_int) (da_cons (d_add (d_mul d_int (d_v 1)) d_int) (da_cons d_int da_nil))))))⟩)
theorem ok_middles (T : Txt K mg) (D : Def K mg "middles" s_middles ["width", "row"]) (c_middle : Cal P w K mg base 1  "middle" ["column", "row"] m_middle) : Cal P w K mg base 2  "middles" ["width", "row"] m_middles := by
  exact D.cal sc_middles (fun f cdv A outer s H E hr => ⟨_, (dss_one (ds_ret (d_comp (own := ["column"]) (cap := [("row", 1)]) (di_r1 rfl T.z_range (da_cons (d_v 0) da_nil)) (CompOk.of rfl rfl (by kernel_rfl) rfl ⟨rfl, trivial⟩ ⟨rfl, trivial⟩) rfl (fun _ _ _ _ _ => (dg_name (i := 0) (show List.Nodup (["column", "row"] : List Str) by decide +kernel) rfl (Or.inl rfl) (by decide))) (fun _ _ _ _ _ => dts_nil) (fun _ _ _ _ _ => (d_callC c_middle hr (by decide) rfl (da_cons (d_v 0) (da_cons (d_v 1) da_nil)))))))⟩)
theorem ok_row_mask (T : Txt K mg) (D : Def K mg "row_mask" s_row_mask ["triangle", "width", "row"]) (c_check_before_eye : Cal P w K mg base 1  "check_before_eye" ["corners"] m_check_before_eye) (c_had : Cal P w K mg base 3  "had" ["triangle", "point"] m_had) (c_mask_of : Cal P w K mg base 1  "mask_of" ["truths"] m_mask_of) (c_middles : Cal P w K mg base 2  "middles" ["width", "row"] m_middles) : Cal P w K mg base 4  "row_mask" ["triangle", "width", "row"] m_row_mask := by
  exact D.cal sc_row_mask (fun f cdv A outer s H E hr => ⟨_, (dss_cons (ds_drp (d_call c_check_before_eye hr (by decide) rfl pass_on (da_cons (d_v 0) da_nil)))
    (dss_one (ds_ret (d_call c_mask_of hr (by decide) rfl pass_on (da_cons (d_compX ⟨rfl, rfl, rfl, rfl⟩ (own := ["point"]) (cap := [("triangle", 0)]) (di_seq (d_call c_middles hr (by decide) rfl pass_on (da_cons (d_v 1) (da_cons (d_v 2) da_nil)))) (CompOk.of rfl rfl (by kernel_rfl) rfl ⟨rfl, trivial⟩ ⟨rfl, trivial⟩) rfl (fun _ _ _ _ _ => (dg_name (i := 0) (show List.Nodup (["point", "triangle"] : List Str) by decide +kernel) rfl (Or.inl rfl) (by decide))) (fun _ _ _ _ _ => dts_nil) (fun _ _ _ _ _ => (d_ne hr (d_callX c_had hr (by decide) rfl (da_cons (d_v 1) (da_cons (d_v 0) da_nil))) d_int))) da_nil)))))⟩)
theorem ok_filled_mask (T : Txt K mg) (D : Def K mg "filled_mask" s_filled_mask ["triangles", "width", "row"]) (c_row_mask : Cal P w K mg base 4  "row_mask" ["triangle", "width", "row"] m_row_mask) : Cal P w K mg base 5  "filled_mask" ["triangles", "width", "row"] m_filled_mask := by
  exact D.cal sc_filled_mask (fun f cdv A outer s H E hr => ⟨_, (dss_cons (ds_set (i := 3) sc_filled_mask.nd rfl (Or.inl rfl) d_int)
    (dss_cons (ds_for PassesOwn.leaving rfl (di_seq (d_v 0)) (dg_name (i := 4) sc_filled_mask.nd rfl (Or.inl rfl) (by decide))
    (dss_one (ds_set (i := 3) sc_filled_mask.nd rfl (Or.inl rfl) (d_or2 (d_v 3) (d_call c_row_mask hr (by decide) rfl pass_on (da_cons (d_v 4) (da_cons (d_v 1) (da_cons (d_v 2) da_nil))))))))
    (dss_one (ds_ret (d_v 3)))))⟩)
theorem ok_shared_mask (T : Txt K mg) (D : Def K mg "shared_mask" s_shared_mask ["triangles", "width", "row"]) (c_row_mask : Cal P w K mg base 4  "row_mask" ["triangle", "width", "row"] m_row_mask) : Cal P w K mg base 5  "shared_mask" ["triangles", "width", "row"] m_shared_mask := by
  exact D.cal sc_shared_mask (fun f cdv A outer s H E hr => ⟨_, (dss_cons (ds_set (i := 3) sc_shared_mask.nd rfl (Or.inl rfl) d_int)
    (dss_cons (ds_set (i := 4) sc_shared_mask.nd rfl (Or.inl rfl) d_int)
    (dss_cons (ds_for PassesOwn.leaving rfl (di_seq (d_v 0)) (dg_name (i := 5) sc_shared_mask.nd rfl (Or.inl rfl) (by decide))
    (dss_cons (ds_set (i := 6) sc_shared_mask.nd rfl (Or.inl rfl) (d_call c_row_mask hr (by decide) rfl pass_on (da_cons (d_v 5) (da_cons (d_v 1) (da_cons (d_v 2) da_nil)))))
    (dss_cons (ds_set (i := 4) sc_shared_mask.nd rfl (Or.inl rfl) (d_or2 (d_v 4) (d_and2 (d_v 3) (d_v 6))))
    (dss_one (ds_set (i := 3) sc_shared_mask.nd rfl (Or.inl rfl) (d_or2 (d_v 3) (d_v 6)))))))
    (dss_one (ds_ret (d_v 4))))))⟩)
theorem ok_law {f cc Pt : Addr} {fd : FuncData} (T : Txt K mg) (F : Fun K "law" "law" s_law f fd) (Dr : Def K mg "_law_refused" s__law_refused ["_law_deed"]) (c__law_cell_at : Cal P w K mg base 1  "_law_cell_at" ["_law_script", "_law_k"] m__law_cell_at) (c__law_draws : Cal P w K mg base 2  "_law_draws" ["_law_cell", "_law_many"] m__law_draws) (c__law_fan : Cal P w K mg base 1  "_law_fan" ["_law_number"] m__law_fan) (c__law_in_box : Cal P w K mg base 1  "_law_in_box" ["_law_box", "_law_column", "_law_row"] m__law_in_box) (c__law_triangles : Cal P w K mg base 3  "_law_triangles" ["_law_script", "_law_first", "_law_most", "_law_many"] m__law_triangles) (c_had : Cal P w K mg base 3  "had" ["triangle", "point"] m_had) (c_filled_mask : Cal P w K mg base 5  "filled_mask" ["triangles", "width", "row"] m_filled_mask) (c_shared_mask : Cal P w K mg base 5  "shared_mask" ["triangles", "width", "row"] m_shared_mask) (hKb : K.In base) (hN : base.Ns mainGlobals mg) (htab : PySem.W.tabIn K "law" = some (cc, Pt)) (hm : mg "law" = some (.ref f)) (CH : PySem.W.CodeHd base cc Pt) (hB : base.BuiltinsAt mg Pt) (hgP : mainGlobals ≠ Pt) : FnOk P w K mg base (CXR P w) 9 f fd ["_law_script"] (spLawP K Pt) := by
  obtain ⟨K_BadTriangle, k_BadTriangle⟩ := T.c_BadTriangle
  exact okP (i := 11) (j := 3) (l := 5) (k := 8) (mb := m_law_pre) (mi := m_law_it) (m1 := m_filled_mask) (m2 := m_shared_mask) (c := "BadTriangle") (Cy := K_BadTriangle) (pre := (defBody s_law).take 7) F sc_law hKb hN htab hm rfl
    (fun A outer s H E hr => ⟨_, _, (dss_cons (ds_set (i := 1) sc_law.nd rfl (Or.inl rfl) (d_call c__law_triangles hr (by decide) rfl pass_on (da_cons (d_v 0) (da_cons d_int (da_cons d_int (da_cons d_int da_nil))))))
    (dss_cons (ds_set (i := 2) sc_law.nd rfl (Or.inl rfl) (d_ix (d_call c__law_draws hr (by decide) rfl pass_on (da_cons (d_call c__law_cell_at hr (by decide) rfl pass_on (da_cons (d_v 0) (da_cons d_int da_nil))) (da_cons d_int da_nil))) d_int))
    (dss_cons (ds_set (i := 3) sc_law.nd rfl (Or.inr rfl) (d_ix (d_lst (da_cons (d_add d_int (d_mod (d_v 2) d_int)) (da_cons d_int da_nil))) (d_ct call_int1 callD_int rfl T.z_int bt_int (da_cons (d_eq hr (d_mod (d_div (d_v 2) d_int) d_int) d_int) da_nil))))
    (dss_cons (ds_set (i := 4) sc_law.nd rfl (Or.inl rfl) (d_call c__law_fan hr (by decide) rfl pass_on (da_cons (d_ix (d_call c__law_draws hr (by decide) rfl pass_on (da_cons (d_call c__law_cell_at hr (by decide) rfl pass_on (da_cons (d_v 0) (da_cons d_int da_nil))) (da_cons d_int da_nil))) d_int) da_nil)))
    (dss_cons (ds_for PassesOwn.leaving rfl (di_seq (d_lst (da_cons (d_mod (d_div (d_v 2) d_int) d_int) (da_cons (d_mod (d_div (d_v 2) d_int) d_int) (da_cons d_int da_nil))))) (dg_name (i := 5) sc_law.nd rfl (Or.inr rfl) (by decide))
    (dss_cons (ds_set (i := 6) sc_law.nd rfl (Or.inl rfl) d_int)
    (dss_cons (ds_set (i := 7) sc_law.nd rfl (Or.inl rfl) d_int)
    (dss_cons (ds_set (i := 8) sc_law.nd rfl (Or.inl rfl) d_int)
    (dss_cons (ds_for PassesOwn.leaving rfl (di_r1 rfl T.z_range (da_cons (d_v 3) da_nil)) (dg_name (i := 9) sc_law.nd rfl (Or.inr rfl) (by decide))
    (dss_cons (ds_set (i := 10) sc_law.nd rfl (Or.inl rfl) (d_cb call_len_seq callD_len rfl T.z_len bt_len (da_cons (d_comp (own := ["_law_one"]) (cap := [("_law_row", 5), ("_law_column", 9)]) (di_seq (d_v 1)) (CompOk.of rfl rfl (by kernel_rfl) rfl ⟨rfl, rfl, trivial⟩ ⟨rfl, rfl, trivial⟩) rfl (fun _ _ _ _ _ => (dg_name (i := 0) (show List.Nodup (["_law_one", "_law_row", "_law_column"] : List Str) by decide +kernel) rfl (Or.inl rfl) (by decide))) (fun _ _ _ _ _ => dts_one (dt_ne hr (d_callC c_had hr (by decide) rfl (da_cons (d_v 0) (da_cons (d_tup (da_cons (d_add (d_mul d_int (d_v 2)) d_int) (da_cons (d_add (d_mul d_int (d_v 1)) d_int) (da_cons d_int da_nil)))) da_nil))) d_int)) (fun _ _ _ _ _ => (d_v 0))) da_nil)))
    (dss_cons (ds_if (dt_gt (d_v 10) d_int)
    (dss_one (ds_set (i := 6) sc_law.nd rfl (Or.inl rfl) (d_add (d_v 6) (d_shl d_int (d_v 9)))))
    dss_nil)
    (dss_cons (ds_if (dt_gt (d_v 10) d_int)
    (dss_one (ds_set (i := 7) sc_law.nd rfl (Or.inl rfl) (d_add (d_v 7) (d_shl d_int (d_v 9)))))
    dss_nil)
    (dss_one (ds_if (dt_val (d_call c__law_in_box hr (by decide) rfl pass_on (da_cons (d_cut (d_v 4) (do_some d_int) do_none) (da_cons (d_v 9) (da_cons (d_v 5) da_nil)))))
    (dss_one (ds_set (i := 8) sc_law.nd rfl (Or.inl rfl) (d_add (d_v 8) (d_shl d_int (d_v 9)))))
    dss_nil))))))
    (dss_cons (ds_for PassesOwn.leaving rfl (di_seq (d_lst (da_cons (d_v 1) (da_cons (d_rev (d_v 1) (d_neg d_int)) (da_cons (d_add (d_cut (d_v 1) (do_some d_int) do_none) (d_cut (d_v 1) do_none (do_some d_int))) da_nil))))) (dg_name (i := 11) sc_law.nd rfl (Or.inr rfl) (by decide))
    (dss_one (ds_if (DW.dt (dw_or (dt_ne hr (d_call c_filled_mask hr (by decide) rfl pass_on (da_cons (d_v 11) (da_cons (d_v 3) (da_cons (d_v 5) da_nil)))) (d_v 6)) (dw_or1 (dt_ne hr (d_call c_shared_mask hr (by decide) rfl pass_on (da_cons (d_v 11) (da_cons (d_v 3) (da_cons (d_v 5) da_nil)))) (d_v 7)))))
    (dss_one (ds_ret d_bl))
    dss_nil)))
    (dss_one (ds_if (DW.dt (dw_or (dt_ne hr (d_call c_filled_mask hr (by decide) rfl pass_on (da_cons (d_ix (d_v 4) d_int) (da_cons (d_v 3) (da_cons (d_v 5) da_nil)))) (d_v 8)) (dw_or1 (dt_ne hr (d_call c_shared_mask hr (by decide) rfl pass_on (da_cons (d_ix (d_v 4) d_int) (da_cons (d_v 3) (da_cons (d_v 5) da_nil)))) d_int))))
    (dss_one (ds_ret d_bl))
    dss_nil))))))))
    (dss_cons (ds_asg (d_ix (d_ix (d_ix (d_v 4) d_int) d_int) d_int) (dg_tup rfl (dgs_cons (dg_name (i := 12) sc_law.nd rfl (Or.inl rfl) (by decide)) (dgs_cons (dg_name (i := 13) sc_law.nd rfl (Or.inl rfl) (by decide)) (dgs_cons (dg_name (i := 14) sc_law.nd rfl (Or.inl rfl) (by decide)) (dgs_cons (dg_name (i := 15) sc_law.nd rfl (Or.inl rfl) (by decide)) (dgs_cons (dg_name (i := 16) sc_law.nd rfl (Or.inl rfl) (by decide)) dgs_nil)))))))
    (dss_one (ds_set (i := 17) sc_law.nd rfl (Or.inl rfl) (d_tup (da_cons (d_ix (d_ix (d_ix (d_v 4) d_int) d_int) d_int) (da_cons (d_tup (da_cons (d_v 12) (da_cons (d_v 13) (da_cons (d_sub d_int (d_mod (d_div (d_v 2) d_int) d_int)) (da_cons (d_v 15) (da_cons (d_v 16) da_nil)))))) (da_cons (d_ix (d_ix (d_ix (d_v 4) d_int) d_int) d_int) da_nil)))))))))))), (di_seq (d_lst (da_cons (d_add (d_v 1) (d_lst (da_cons (d_v 17) da_nil))) (da_cons (d_add (d_lst (da_cons (d_v 17) da_nil)) (d_ix (d_v 4) d_int)) da_nil)))), DG.p (n := 1000) (dg_name (i := 11) sc_law.nd rfl (Or.inr rfl) (by decide)),
      pe_refD (k' := 7) Dr sc__law_refused rfl rfl (fun _ => rfl) rfl rfl (fun _ _ _ _ _ _ _ => rfl) rfl k_BadTriangle rfl c_filled_mask rfl hr (by decide) rfl rfl ⟨rfl, rfl, rfl, trivial⟩ (by kernel_rfl) rfl rfl rfl (fun _ _ _ _ => rfl) rfl CH hB hgP rfl rfl rfl rfl rfl rfl rfl,
      pe_refD (k' := 7) Dr sc__law_refused rfl rfl (fun _ => rfl) rfl rfl (fun _ _ _ _ _ _ _ => rfl) rfl k_BadTriangle rfl c_shared_mask rfl hr (by decide) rfl rfl ⟨rfl, rfl, rfl, trivial⟩ (by kernel_rfl) rfl rfl rfl (fun _ _ _ _ => rfl) rfl CH hB hgP rfl rfl rfl rfl rfl rfl rfl⟩)
    (fun _ _ => rfl) (fun _ _ => rfl) (fun _ _ => rfl) (fun C hC => by
      obtain ⟨D, hD, e⟩ := T.h_BadTriangle _ k_BadTriangle "BadTriangle" (by simp)
      rw [hC] at hD; cases hD; exact e) (by decide) (by decide) pure_law
end
theorem all_mk {l : PySem.W.OpenLaw} {w : World} {K : PySem.W.Frag} {h : Heap} {mg : Str → Option Value} {fa f1 f2 f3 f4 f5 f6 f7 f8 f9 f10 f11 f12 f13 f14 f15 f16 f17 f18 f19 f20 : Addr} (X : K.In h) (G : h.Ns mainGlobals mg) (hfa : mg "law" = some (.ref fa))
    {od1 an1 od2 an2 od3 an3 od4 an4 od5 an5 od6 an6 od7 an7 od8 an8 od9 an9 od10 an10 od11 an11 od12 an12 od13 an13 od14 an14 od15 an15 od16 an16 od17 an17 od18 an18 od19 an19 od20 an20 : Option Addr} {sl1 sl2 sl3 sl4 sl5 sl6 sl7 sl8 sl9 sl10 sl11 sl12 sl13 sl14 sl15 sl16 sl17 sl18 sl19 sl20 : Array (Option Value)} {oc1 kV1 dc1 pm1 cd1 ct1 oc2 kV2 dc2 pm2 cd2 ct2 oc3 kV3 dc3 pm3 cd3 ct3 oc4 kV4 dc4 pm4 cd4 ct4 oc5 kV5 dc5 pm5 cd5 ct5 oc6 kV6 dc6 pm6 cd6 ct6 oc7 kV7 dc7 pm7 cd7 ct7 oc8 kV8 dc8 pm8 cd8 ct8 oc9 kV9 dc9 pm9 cd9 ct9 oc10 kV10 dc10 pm10 cd10 ct10 oc11 kV11 dc11 pm11 cd11 ct11 oc12 kV12 dc12 pm12 cd12 ct12 oc13 kV13 dc13 pm13 cd13 ct13 oc14 kV14 dc14 pm14 cd14 ct14 oc15 kV15 dc15 pm15 cd15 ct15 oc16 kV16 dc16 pm16 cd16 ct16 oc17 kV17 dc17 pm17 cd17 ct17 oc18 kV18 dc18 pm18 cd18 ct18 oc19 kV19 dc19 pm19 cd19 ct19 oc20 kV20 dc20 pm20 cd20 ct20 : Value} {C0 X0 : Addr} 
    (a1 : PySem.W.nsIn K mainGlobals "_law_cell_at" = some (some (.ref f1))) (l1 : K.lookup f1 = some ⟨oc1, od1, .func (PySem.W.fnOf "_law_cell_at" "_law_cell_at" (defArgs s__law_cell_at) (defBody s__law_cell_at) (defScope s__law_cell_at) .none kV1 dc1 pm1 an1 cd1 ct1), sl1⟩) (c1 : PySem.W.codeIn K cd1 "_law_cell_at" = true) (k1 : PySem.W.keepIn K (.ref f1) = true)
    (a2 : PySem.W.nsIn K mainGlobals "_law_mixed" = some (some (.ref f2))) (l2 : K.lookup f2 = some ⟨oc2, od2, .func (PySem.W.fnOf "_law_mixed" "_law_mixed" (defArgs s__law_mixed) (defBody s__law_mixed) (defScope s__law_mixed) .none kV2 dc2 pm2 an2 cd2 ct2), sl2⟩) (c2 : PySem.W.codeIn K cd2 "_law_mixed" = true) (k2 : PySem.W.keepIn K (.ref f2) = true)
    (a3 : PySem.W.nsIn K mainGlobals "_law_draws" = some (some (.ref f3))) (l3 : K.lookup f3 = some ⟨oc3, od3, .func (PySem.W.fnOf "_law_draws" "_law_draws" (defArgs s__law_draws) (defBody s__law_draws) (defScope s__law_draws) .none kV3 dc3 pm3 an3 cd3 ct3), sl3⟩) (c3 : PySem.W.codeIn K cd3 "_law_draws" = true) (k3 : PySem.W.keepIn K (.ref f3) = true)
    (a4 : PySem.W.nsIn K mainGlobals "_law_fan" = some (some (.ref f4))) (l4 : K.lookup f4 = some ⟨oc4, od4, .func (PySem.W.fnOf "_law_fan" "_law_fan" (defArgs s__law_fan) (defBody s__law_fan) (defScope s__law_fan) .none kV4 dc4 pm4 an4 cd4 ct4), sl4⟩) (c4 : PySem.W.codeIn K cd4 "_law_fan" = true) (k4 : PySem.W.keepIn K (.ref f4) = true)
    (a5 : PySem.W.nsIn K mainGlobals "_law_in_box" = some (some (.ref f5))) (l5 : K.lookup f5 = some ⟨oc5, od5, .func (PySem.W.fnOf "_law_in_box" "_law_in_box" (defArgs s__law_in_box) (defBody s__law_in_box) (defScope s__law_in_box) .none kV5 dc5 pm5 an5 cd5 ct5), sl5⟩) (c5 : PySem.W.codeIn K cd5 "_law_in_box" = true) (k5 : PySem.W.keepIn K (.ref f5) = true)
    (a6 : PySem.W.nsIn K mainGlobals "_law_corner" = some (some (.ref f6))) (l6 : K.lookup f6 = some ⟨oc6, od6, .func (PySem.W.fnOf "_law_corner" "_law_corner" (defArgs s__law_corner) (defBody s__law_corner) (defScope s__law_corner) .none kV6 dc6 pm6 an6 cd6 ct6), sl6⟩) (c6 : PySem.W.codeIn K cd6 "_law_corner" = true) (k6 : PySem.W.keepIn K (.ref f6) = true)
    (a7 : PySem.W.nsIn K mainGlobals "_law_triangles" = some (some (.ref f7))) (l7 : K.lookup f7 = some ⟨oc7, od7, .func (PySem.W.fnOf "_law_triangles" "_law_triangles" (defArgs s__law_triangles) (defBody s__law_triangles) (defScope s__law_triangles) .none kV7 dc7 pm7 an7 cd7 ct7), sl7⟩) (c7 : PySem.W.codeIn K cd7 "_law_triangles" = true) (k7 : PySem.W.keepIn K (.ref f7) = true)
    (a8 : PySem.W.nsIn K mainGlobals "check_before_eye" = some (some (.ref f8))) (l8 : K.lookup f8 = some ⟨oc8, od8, .func (PySem.W.fnOf "check_before_eye" "check_before_eye" (defArgs s_check_before_eye) (defBody s_check_before_eye) (defScope s_check_before_eye) .none kV8 dc8 pm8 an8 cd8 ct8), sl8⟩) (c8 : PySem.W.codeIn K cd8 "check_before_eye" = true) (k8 : PySem.W.keepIn K (.ref f8) = true)
    (a9 : PySem.W.nsIn K mainGlobals "edge_numbers" = some (some (.ref f9))) (l9 : K.lookup f9 = some ⟨oc9, od9, .func (PySem.W.fnOf "edge_numbers" "edge_numbers" (defArgs s_edge_numbers) (defBody s_edge_numbers) (defScope s_edge_numbers) .none kV9 dc9 pm9 an9 cd9 ct9), sl9⟩) (c9 : PySem.W.codeIn K cd9 "edge_numbers" = true) (k9 : PySem.W.keepIn K (.ref f9) = true)
    (a10 : PySem.W.nsIn K mainGlobals "summed_products" = some (some (.ref f10))) (l10 : K.lookup f10 = some ⟨oc10, od10, .func (PySem.W.fnOf "summed_products" "summed_products" (defArgs s_summed_products) (defBody s_summed_products) (defScope s_summed_products) .none kV10 dc10 pm10 an10 cd10 ct10), sl10⟩) (c10 : PySem.W.codeIn K cd10 "summed_products" = true) (k10 : PySem.W.keepIn K (.ref f10) = true)
    (a11 : PySem.W.nsIn K mainGlobals "side" = some (some (.ref f11))) (l11 : K.lookup f11 = some ⟨oc11, od11, .func (PySem.W.fnOf "side" "side" (defArgs s_side) (defBody s_side) (defScope s_side) .none kV11 dc11 pm11 an11 cd11 ct11), sl11⟩) (c11 : PySem.W.codeIn K cd11 "side" = true) (k11 : PySem.W.keepIn K (.ref f11) = true)
    (a12 : PySem.W.nsIn K mainGlobals "had" = some (some (.ref f12))) (l12 : K.lookup f12 = some ⟨oc12, od12, .func (PySem.W.fnOf "had" "had" (defArgs s_had) (defBody s_had) (defScope s_had) .none kV12 dc12 pm12 an12 cd12 ct12), sl12⟩) (c12 : PySem.W.codeIn K cd12 "had" = true) (k12 : PySem.W.keepIn K (.ref f12) = true)
    (a13 : PySem.W.nsIn K mainGlobals "mask_of" = some (some (.ref f13))) (l13 : K.lookup f13 = some ⟨oc13, od13, .func (PySem.W.fnOf "mask_of" "mask_of" (defArgs s_mask_of) (defBody s_mask_of) (defScope s_mask_of) .none kV13 dc13 pm13 an13 cd13 ct13), sl13⟩) (c13 : PySem.W.codeIn K cd13 "mask_of" = true) (k13 : PySem.W.keepIn K (.ref f13) = true)
    (a14 : PySem.W.nsIn K mainGlobals "middle" = some (some (.ref f14))) (l14 : K.lookup f14 = some ⟨oc14, od14, .func (PySem.W.fnOf "middle" "middle" (defArgs s_middle) (defBody s_middle) (defScope s_middle) .none kV14 dc14 pm14 an14 cd14 ct14), sl14⟩) (c14 : PySem.W.codeIn K cd14 "middle" = true) (k14 : PySem.W.keepIn K (.ref f14) = true)
    (a15 : PySem.W.nsIn K mainGlobals "middles" = some (some (.ref f15))) (l15 : K.lookup f15 = some ⟨oc15, od15, .func (PySem.W.fnOf "middles" "middles" (defArgs s_middles) (defBody s_middles) (defScope s_middles) .none kV15 dc15 pm15 an15 cd15 ct15), sl15⟩) (c15 : PySem.W.codeIn K cd15 "middles" = true) (k15 : PySem.W.keepIn K (.ref f15) = true)
    (a16 : PySem.W.nsIn K mainGlobals "row_mask" = some (some (.ref f16))) (l16 : K.lookup f16 = some ⟨oc16, od16, .func (PySem.W.fnOf "row_mask" "row_mask" (defArgs s_row_mask) (defBody s_row_mask) (defScope s_row_mask) .none kV16 dc16 pm16 an16 cd16 ct16), sl16⟩) (c16 : PySem.W.codeIn K cd16 "row_mask" = true) (k16 : PySem.W.keepIn K (.ref f16) = true)
    (a17 : PySem.W.nsIn K mainGlobals "filled_mask" = some (some (.ref f17))) (l17 : K.lookup f17 = some ⟨oc17, od17, .func (PySem.W.fnOf "filled_mask" "filled_mask" (defArgs s_filled_mask) (defBody s_filled_mask) (defScope s_filled_mask) .none kV17 dc17 pm17 an17 cd17 ct17), sl17⟩) (c17 : PySem.W.codeIn K cd17 "filled_mask" = true) (k17 : PySem.W.keepIn K (.ref f17) = true)
    (a18 : PySem.W.nsIn K mainGlobals "shared_mask" = some (some (.ref f18))) (l18 : K.lookup f18 = some ⟨oc18, od18, .func (PySem.W.fnOf "shared_mask" "shared_mask" (defArgs s_shared_mask) (defBody s_shared_mask) (defScope s_shared_mask) .none kV18 dc18 pm18 an18 cd18 ct18), sl18⟩) (c18 : PySem.W.codeIn K cd18 "shared_mask" = true) (k18 : PySem.W.keepIn K (.ref f18) = true)
    (a19 : PySem.W.nsIn K mainGlobals "_law_refused" = some (some (.ref f19))) (l19 : K.lookup f19 = some ⟨oc19, od19, .func (PySem.W.fnOf "_law_refused" "_law_refused" (defArgs s__law_refused) (defBody s__law_refused) (defScope s__law_refused) .none kV19 dc19 pm19 an19 cd19 ct19), sl19⟩) (c19 : PySem.W.codeIn K cd19 "_law_refused" = true) (k19 : PySem.W.keepIn K (.ref f19) = true)
    (a20 : PySem.W.nsIn K mainGlobals "law" = some (some (.ref f20))) (l20 : K.lookup f20 = some ⟨oc20, od20, .func (PySem.W.fnOf "law" "law" (defArgs s_law) (defBody s_law) (defScope s_law) .none kV20 dc20 pm20 an20 cd20 ct20), sl20⟩) (c20 : PySem.W.codeIn K cd20 "law" = true) (k20 : PySem.W.keepIn K (.ref f20) = true)
    (z0 : PySem.W.nsIn K mainGlobals "enumerate" = some none)
    (z1 : PySem.W.nsIn K mainGlobals "int" = some none)
    (z2 : PySem.W.nsIn K mainGlobals "len" = some none)
    (z3 : PySem.W.nsIn K mainGlobals "range" = some none)
    (z4 : PySem.W.nsIn K mainGlobals "tuple" = some none)
    (cl0 : PySem.W.nsIn K mainGlobals "BadTriangle" = some (some (.ref C0)))
    (xa0 : PySem.W.nsIn K mainGlobals "BadTriangle" = some (some (.ref X0))) (xb0 : PySem.W.excIn K X0 veMro "ValueError.__new__" = true)
    (xm0_0 : PySem.W.exmOne K (.ref X0) (.ref C0) = some true)
    {cc Pt : Addr} (htab : PySem.W.tabIn K "law" = some (cc, Pt)) (hgP : mainGlobals ≠ Pt)
    : ∃ fd : FuncData, (∀ (s : Shared) (v : Value), BindsTo s fd ⟨[v], []⟩ [("_law_script", v)]) ∧ ∀ base : Heap, K.In base → base.Ns mainGlobals mg → PySem.W.CodeHd base cc Pt → base.BuiltinsAt mg Pt → FnOk l.prog w K mg base (CXR l.prog w) 9 fa fd ["_law_script"] (spLawP K Pt) := by
  have e := hfa.symm.trans (PySem.W.mg_of X G a20)
  cases e
  have T : Txt K mg := ⟨PySem.W.mg_none_of X G z0, PySem.W.mg_none_of X G z1, PySem.W.mg_none_of X G z2, PySem.W.mg_none_of X G z3, PySem.W.mg_none_of X G z4, ⟨_, PySem.W.mg_of X G cl0⟩, ⟨_, PySem.W.mg_of X G xa0, xb0⟩, fun C hC => by cases (PySem.W.mg_of X G cl0).symm.trans hC; exact (List.forall_mem_cons.mpr ⟨⟨_, PySem.W.mg_of X G xa0, xm0_0⟩, (fun _ h => absurd h List.not_mem_nil)⟩)⟩
  have F1 := fun_mk (st := s__law_cell_at) l1 c1 k1
  have D1 : Def K mg "_law_cell_at" s__law_cell_at ["_law_script", "_law_k"] := ⟨_, _, F1, F1.binds (ps := ["_law_script", "_law_k"]) fun _ _ _ _ _ _ us hl => match us, hl with | [_, _], _ => rfl, PySem.W.mg_of X G a1⟩
  have F2 := fun_mk (st := s__law_mixed) l2 c2 k2
  have D2 : Def K mg "_law_mixed" s__law_mixed ["_law_cell", "_law_k"] := ⟨_, _, F2, F2.binds (ps := ["_law_cell", "_law_k"]) fun _ _ _ _ _ _ us hl => match us, hl with | [_, _], _ => rfl, PySem.W.mg_of X G a2⟩
  have F3 := fun_mk (st := s__law_draws) l3 c3 k3
  have D3 : Def K mg "_law_draws" s__law_draws ["_law_cell", "_law_many"] := ⟨_, _, F3, F3.binds (ps := ["_law_cell", "_law_many"]) fun _ _ _ _ _ _ us hl => match us, hl with | [_, _], _ => rfl, PySem.W.mg_of X G a3⟩
  have F4 := fun_mk (st := s__law_fan) l4 c4 k4
  have D4 : Def K mg "_law_fan" s__law_fan ["_law_number"] := ⟨_, _, F4, F4.binds (ps := ["_law_number"]) fun _ _ _ _ _ _ us hl => match us, hl with | [_], _ => rfl, PySem.W.mg_of X G a4⟩
  have F5 := fun_mk (st := s__law_in_box) l5 c5 k5
  have D5 : Def K mg "_law_in_box" s__law_in_box ["_law_box", "_law_column", "_law_row"] := ⟨_, _, F5, F5.binds (ps := ["_law_box", "_law_column", "_law_row"]) fun _ _ _ _ _ _ us hl => match us, hl with | [_, _, _], _ => rfl, PySem.W.mg_of X G a5⟩
  have F6 := fun_mk (st := s__law_corner) l6 c6 k6
  have D6 : Def K mg "_law_corner" s__law_corner ["_law_draws_here", "_law_many"] := ⟨_, _, F6, F6.binds (ps := ["_law_draws_here", "_law_many"]) fun _ _ _ _ _ _ us hl => match us, hl with | [_, _], _ => rfl, PySem.W.mg_of X G a6⟩
  have F7 := fun_mk (st := s__law_triangles) l7 c7 k7
  have D7 : Def K mg "_law_triangles" s__law_triangles ["_law_script", "_law_first", "_law_most", "_law_many"] := ⟨_, _, F7, F7.binds (ps := ["_law_script", "_law_first", "_law_most", "_law_many"]) fun _ _ _ _ _ _ us hl => match us, hl with | [_, _, _, _], _ => rfl, PySem.W.mg_of X G a7⟩
  have F8 := fun_mk (st := s_check_before_eye) l8 c8 k8
  have D8 : Def K mg "check_before_eye" s_check_before_eye ["corners"] := ⟨_, _, F8, F8.binds (ps := ["corners"]) fun _ _ _ _ _ _ us hl => match us, hl with | [_], _ => rfl, PySem.W.mg_of X G a8⟩
  have F9 := fun_mk (st := s_edge_numbers) l9 c9 k9
  have D9 : Def K mg "edge_numbers" s_edge_numbers ["one", "other"] := ⟨_, _, F9, F9.binds (ps := ["one", "other"]) fun _ _ _ _ _ _ us hl => match us, hl with | [_, _], _ => rfl, PySem.W.mg_of X G a9⟩
  have F10 := fun_mk (st := s_summed_products) l10 c10 k10
  have D10 : Def K mg "summed_products" s_summed_products ["three", "other"] := ⟨_, _, F10, F10.binds (ps := ["three", "other"]) fun _ _ _ _ _ _ us hl => match us, hl with | [_, _], _ => rfl, PySem.W.mg_of X G a10⟩
  have F11 := fun_mk (st := s_side) l11 c11 k11
  have D11 : Def K mg "side" s_side ["one", "other", "point"] := ⟨_, _, F11, F11.binds (ps := ["one", "other", "point"]) fun _ _ _ _ _ _ us hl => match us, hl with | [_, _, _], _ => rfl, PySem.W.mg_of X G a11⟩
  have F12 := fun_mk (st := s_had) l12 c12 k12
  have D12 : Def K mg "had" s_had ["triangle", "point"] := ⟨_, _, F12, F12.binds (ps := ["triangle", "point"]) fun _ _ _ _ _ _ us hl => match us, hl with | [_, _], _ => rfl, PySem.W.mg_of X G a12⟩
  have F13 := fun_mk (st := s_mask_of) l13 c13 k13
  have D13 : Def K mg "mask_of" s_mask_of ["truths"] := ⟨_, _, F13, F13.binds (ps := ["truths"]) fun _ _ _ _ _ _ us hl => match us, hl with | [_], _ => rfl, PySem.W.mg_of X G a13⟩
  have F14 := fun_mk (st := s_middle) l14 c14 k14
  have D14 : Def K mg "middle" s_middle ["column", "row"] := ⟨_, _, F14, F14.binds (ps := ["column", "row"]) fun _ _ _ _ _ _ us hl => match us, hl with | [_, _], _ => rfl, PySem.W.mg_of X G a14⟩
  have F15 := fun_mk (st := s_middles) l15 c15 k15
  have D15 : Def K mg "middles" s_middles ["width", "row"] := ⟨_, _, F15, F15.binds (ps := ["width", "row"]) fun _ _ _ _ _ _ us hl => match us, hl with | [_, _], _ => rfl, PySem.W.mg_of X G a15⟩
  have F16 := fun_mk (st := s_row_mask) l16 c16 k16
  have D16 : Def K mg "row_mask" s_row_mask ["triangle", "width", "row"] := ⟨_, _, F16, F16.binds (ps := ["triangle", "width", "row"]) fun _ _ _ _ _ _ us hl => match us, hl with | [_, _, _], _ => rfl, PySem.W.mg_of X G a16⟩
  have F17 := fun_mk (st := s_filled_mask) l17 c17 k17
  have D17 : Def K mg "filled_mask" s_filled_mask ["triangles", "width", "row"] := ⟨_, _, F17, F17.binds (ps := ["triangles", "width", "row"]) fun _ _ _ _ _ _ us hl => match us, hl with | [_, _, _], _ => rfl, PySem.W.mg_of X G a17⟩
  have F18 := fun_mk (st := s_shared_mask) l18 c18 k18
  have D18 : Def K mg "shared_mask" s_shared_mask ["triangles", "width", "row"] := ⟨_, _, F18, F18.binds (ps := ["triangles", "width", "row"]) fun _ _ _ _ _ _ us hl => match us, hl with | [_, _, _], _ => rfl, PySem.W.mg_of X G a18⟩
  have F19 := fun_mk (st := s__law_refused) l19 c19 k19
  have D19 : Def K mg "_law_refused" s__law_refused ["_law_deed"] := ⟨_, _, F19, F19.binds (ps := ["_law_deed"]) fun _ _ _ _ _ _ us hl => match us, hl with | [_], _ => rfl, PySem.W.mg_of X G a19⟩
  have F20 := fun_mk (st := s_law) l20 c20 k20
  have D20 : Def K mg "law" s_law ["_law_script"] := ⟨_, _, F20, F20.binds (ps := ["_law_script"]) fun _ _ _ _ _ _ us hl => match us, hl with | [_], _ => rfl, PySem.W.mg_of X G a20⟩
  refine ⟨PySem.W.fnOf "law" "law" (defArgs s_law) (defBody s_law) (defScope s_law) .none kV20 dc20 pm20 an20 cd20 ct20, fun s v => .of_eq rfl, fun base hKb hN CH hB => ?_⟩
  have C__law_cell_at := ok__law_cell_at (P := l.prog) (w := w) (base := base) T D1 
  have C__law_mixed := ok__law_mixed (P := l.prog) (w := w) (base := base) T D2 
  have C__law_draws := ok__law_draws (P := l.prog) (w := w) (base := base) T D3 C__law_mixed
  have C__law_fan := ok__law_fan (P := l.prog) (w := w) (base := base) T D4 
  have C__law_in_box := ok__law_in_box (P := l.prog) (w := w) (base := base) T D5 
  have C__law_corner := ok__law_corner (P := l.prog) (w := w) (base := base) T D6 
  have C__law_triangles := ok__law_triangles (P := l.prog) (w := w) (base := base) T D7 C__law_cell_at C__law_draws C__law_corner
  have C_check_before_eye := ok_check_before_eye (P := l.prog) (w := w) (base := base) T D8 
  have C_edge_numbers := ok_edge_numbers (P := l.prog) (w := w) (base := base) T D9 
  have C_summed_products := ok_summed_products (P := l.prog) (w := w) (base := base) T D10 
  have C_side := ok_side (P := l.prog) (w := w) (base := base) T D11 C_edge_numbers C_summed_products
  have C_had := ok_had (P := l.prog) (w := w) (base := base) T D12 C_check_before_eye C_side
  have C_mask_of := ok_mask_of (P := l.prog) (w := w) (base := base) T D13 
  have C_middle := ok_middle (P := l.prog) (w := w) (base := base) T D14 
  have C_middles := ok_middles (P := l.prog) (w := w) (base := base) T D15 C_middle
  have C_row_mask := ok_row_mask (P := l.prog) (w := w) (base := base) T D16 C_check_before_eye C_had C_mask_of C_middles
  have C_filled_mask := ok_filled_mask (P := l.prog) (w := w) (base := base) T D17 C_row_mask
  have C_shared_mask := ok_shared_mask (P := l.prog) (w := w) (base := base) T D18 C_row_mask
  exact ok_law (P := l.prog) (w := w) (base := base) T F20 D19 C__law_cell_at C__law_draws C__law_fan C__law_in_box C__law_triangles C_had C_filled_mask C_shared_mask hKb hN htab hfa CH hB hgP
theorem walk {l : PySem.W.OpenLaw} {q : Program} {loose : List Str} {XP : (Str → Option Value) → Heap → Prop} {YP : World → Heap → Prop} {d : DefRec} {K : Params → PySem.W.Frag} {cc Pt : Addr} (hn : l.most = some 63) (hdf : d.params.defaults = [])
    (hY : ∀ (w : World) (h : Heap), YP w h → (K w.params).In h) (hrec : ((PyProof.Rows.recsOf q).find? (fun e => e.name == ("law" : Str))).isSome = true) (htab : ∀ w : World, PySem.W.tabIn (K w.params) "law" = some (cc, Pt)) (hKP : ∀ w : World, (K w.params).lookup Pt = none)
    (F : ∀ (w : World) (mg : Str → Option Value) (fa : Addr) (h : Heap), (K w.params).In h → h.Ns mainGlobals mg → mg d.name = some (.ref fa) →
      ∃ fd : FuncData, (∀ (s : Shared) (u : Value), BindsTo s fd ⟨[u], []⟩ [("_law_script", u)]) ∧ ∀ base : Heap, (K w.params).In base → base.Ns mainGlobals mg → PySem.W.CodeHd base cc Pt → base.BuiltinsAt mg Pt → FnOk l.prog w (K w.params) mg base (CXR l.prog w) 9 fa fd ["_law_script"] (spLawP (K w.params) Pt)) :
    PySem.W.WalkO q loose XP YP l.row.toRowW d [] (fun f vs => PySem.call f vs) := by
  obtain ⟨d2, hd2⟩ := Option.isSome_iff_exists.mp hrec
  exact L2.walk_P (k := 9) (x := "_law_script") (CX := fun w => CXR l.prog w) hn hdf ⟨rfl, by decide, by decide⟩ hY hd2 htab hKP F (fun _ _ _ _ _ z => cxr_no z)
end My

open PySem PySem.W PyProof.Rows
set_option maxRecDepth 100000 in
set_option maxHeartbeats 0 in
theorem PySem.Challenge.cw_sampleyard_k24_filled_and_shared_holds : PySem.Challenge.rw_sampleyard_k24_filled_and_shared.Holds := by
  w_on; o_law
  refine holds_open (r := PySem.Challenge.rw_sampleyard_k24_filled_and_shared.row) (q := Hd.view) (loose := []) (Xt := (fun s => xlAt Hd.view [] s && recOk (RowW.records PySem.Challenge.rw_sampleyard_k24_filled_and_shared.row.toRowW) s)) (XP := XL Hd.view []) (Yf := Hook.obs (kHook Hd.heap Hd.addrs Hd.addrs_eq)) (Ya := Hook.val (kHook Hd.heap Hd.addrs Hd.addrs_eq)) (YP := Hook.says (kHook Hd.heap Hd.addrs Hd.addrs_eq)) (N := Hd.most) Hd.left (Hook.of (kHook Hd.heap Hd.addrs Hd.addrs_eq)) (Hook.keeps (kHook Hd.heap Hd.addrs Hd.addrs_eq)) (fun s e => xl_of s (Bool.and_eq_true_iff.mp e).1) XL.keeps (by rfl) (by rfl) (by rfl) (fun s e => recFacts_of (Bool.and_eq_true_iff.mp e).2) (by rfl) (by assumption) (by decide +kernel) ⟨rfl, rfl, rfl, rfl, rfl, by decide +kernel⟩ ?hw ?hc
  (case hw => w_witness2)
  k_fill
  refine My.walk (l := PySem.Challenge.rw_sampleyard_k24_filled_and_shared) (cc := 164) (Pt := 162) rfl rfl (fun w h Y => PySem.W.kIn_of Y) ?hrec ?htab ?hKP ?F
  (case hrec => kernel_rfl)
  (case htab => intro w; rfl)
  (case hKP => intro w; rfl)
  case F =>
    intro w mg fa h KX G hmg
    refine' My.all_mk KX G hmg ?a1 ?l1 ?c1 ?k1 ?a2 ?l2 ?c2 ?k2 ?a3 ?l3 ?c3 ?k3 ?a4 ?l4 ?c4 ?k4 ?a5 ?l5 ?c5 ?k5 ?a6 ?l6 ?c6 ?k6 ?a7 ?l7 ?c7 ?k7 ?a8 ?l8 ?c8 ?k8 ?a9 ?l9 ?c9 ?k9 ?a10 ?l10 ?c10 ?k10 ?a11 ?l11 ?c11 ?k11 ?a12 ?l12 ?c12 ?k12 ?a13 ?l13 ?c13 ?k13 ?a14 ?l14 ?c14 ?k14 ?a15 ?l15 ?c15 ?k15 ?a16 ?l16 ?c16 ?k16 ?a17 ?l17 ?c17 ?k17 ?a18 ?l18 ?c18 ?k18 ?a19 ?l19 ?c19 ?k19 ?a20 ?l20 ?c20 ?k20 ?z0 ?z1 ?z2 ?z3 ?z4 ?cl0 ?xa0 ?xb0 ?xm0_0 ?htab ?hgP
    (case a1 => k_is)
    (case l1 => k_is)
    (case c1 => k_is)
    (case k1 => k_is)
    (case a2 => k_is)
    (case l2 => k_is)
    (case c2 => k_is)
    (case k2 => k_is)
    (case a3 => k_is)
    (case l3 => k_is)
    (case c3 => k_is)
    (case k3 => k_is)
    (case a4 => k_is)
    (case l4 => k_is)
    (case c4 => k_is)
    (case k4 => k_is)
    (case a5 => k_is)
    (case l5 => k_is)
    (case c5 => k_is)
    (case k5 => k_is)
    (case a6 => k_is)
    (case l6 => k_is)
    (case c6 => k_is)
    (case k6 => k_is)
    (case a7 => k_is)
    (case l7 => k_is)
    (case c7 => k_is)
    (case k7 => k_is)
    (case a8 => k_is)
    (case l8 => k_is)
    (case c8 => k_is)
    (case k8 => k_is)
    (case a9 => k_is)
    (case l9 => k_is)
    (case c9 => k_is)
    (case k9 => k_is)
    (case a10 => k_is)
    (case l10 => k_is)
    (case c10 => k_is)
    (case k10 => k_is)
    (case a11 => k_is)
    (case l11 => k_is)
    (case c11 => k_is)
    (case k11 => k_is)
    (case a12 => k_is)
    (case l12 => k_is)
    (case c12 => k_is)
    (case k12 => k_is)
    (case a13 => k_is)
    (case l13 => k_is)
    (case c13 => k_is)
    (case k13 => k_is)
    (case a14 => k_is)
    (case l14 => k_is)
    (case c14 => k_is)
    (case k14 => k_is)
    (case a15 => k_is)
    (case l15 => k_is)
    (case c15 => k_is)
    (case k15 => k_is)
    (case a16 => k_is)
    (case l16 => k_is)
    (case c16 => k_is)
    (case k16 => k_is)
    (case a17 => k_is)
    (case l17 => k_is)
    (case c17 => k_is)
    (case k17 => k_is)
    (case a18 => k_is)
    (case l18 => k_is)
    (case c18 => k_is)
    (case k18 => k_is)
    (case a19 => k_is)
    (case l19 => k_is)
    (case c19 => k_is)
    (case k19 => k_is)
    (case a20 => k_is)
    (case l20 => k_is)
    (case c20 => k_is)
    (case k20 => k_is)
    (case z0 => k_is)
    (case z1 => k_is)
    (case z2 => k_is)
    (case z3 => k_is)
    (case z4 => k_is)
    (case cl0 => k_is)
    (case xa0 => k_is)
    (case xb0 => k_exc)
    (case xm0_0 => kts_exm)
    (case htab => rfl)
    (case hgP => decide)

