import PyProof.Rows.All
import Wide.All
import OpenK.AllK
import Wide.FinOn
import HandS.ForMost
import HandS.DictComp
import HandS.Zip
import HandS.TupAny
import HandS.Style
import HandS.Deep
import HandS.CallLocal
import HandS.More
import HandS.Conv
import HandS.SortInts
import HandS.Walk
import KE.GoesMore
import KE.KEqDeep
import HandS.IsInst
import HandS.Star
import HandS.WordsDict
import HandS.Steps
import PyProof.Rows.StrMeet
import KE.SortData
import KE.DataMinMax
import KE.KTupSum
import HandS.Defaults
import HandS.Ends
import PySem.Challenge.RW_aswritten_k08_own_unknowns_and_smallness
set_option Elab.async false
set_option linter.all false
set_option maxRecDepth 100000
set_option maxHeartbeats 4000000
/-! own words over the hand layer: names of readings, calls by a bundle, the lists' in-place store, text times number, keywords alone. -/
namespace AW
open PySem PySem.Spec PyProof.Rows L2

abbrev rAddI : R2 := rI0 fun i j => .int (i + j)
abbrev rSubI : R2 := rI0 fun i j => .int (i - j)
abbrev rMulI : R2 := rI CMul fun i j => .int (i * j)
abbrev rDivI : R2 := rI CDiv fun i j => .int (i / j)
abbrev rModI : R2 := rI (fun _ j => 0 < j) fun i j => .int (i % j)
abbrev rPowI : R2 := rI CPow fun i j => .int (i ^ j.toNat)
abbrev rLtI : R2 := rI0 fun i j => .bl (decide (i < j))
abbrev rLeI : R2 := rI0 fun i j => .bl (decide (i ≤ j))
abbrev rGtI : R2 := rI0 fun i j => .bl (decide (j < i))
abbrev rGeI : R2 := rI0 fun i j => .bl (decide (j ≤ i))
abbrev rNeg : V → Hp → VK → Prop := rU fun i => .int (-i)
def rAddS : R2 := fun x y H Q => ∃ i j, x = .str i ∧ y = .str j ∧ i.length + j.length ≤ sizeLine ∧ Q (.str (i ++ j)) H
theorem op_addS {X : Cx} : OpR X (binaryOp .Add) rAddS := op_add_str
def rRepS : R2 := fun x y H Q => ∃ z n, x = .str z ∧ y = .int n ∧ MulOk z n ∧ Q (.str (Txt.mul z n)) H
theorem op_repS {X : Cx} : OpR X (binaryOp .Mult) rRepS := by
  intro pins s σ H x y v u Q I rx ry h
  obtain ⟨z, n, rfl, rfl, ok, q⟩ := h
  obtain ⟨t, rfl⟩ := rx
  obtain ⟨t', rfl⟩ := ry
  exact SB.mul ok fun t2 k => ⟨.str _, H, I.tok _, ⟨_, rfl⟩, q⟩
def rLen1 (K : PySem.W.Frag) : List V → Hp → VK → Prop := fun xs H Q => ∃ x n, xs = [x] ∧ LenV K x H n ∧ Q (.int n) H
theorem call_len1 {X : Cx} : CallR X (.builtin "len") (rLen1 X.K) := call_len
def rAbs : List V → Hp → VK → Prop := fun xs H Q => ∃ i, xs = [.int i] ∧ Q (.int (if i < 0 then -i else i)) H
theorem call_abs1 {X : Cx} : CallR X (.builtin "abs") rAbs := call_abs
def rInt1 : List V → Hp → VK → Prop := fun xs H Q => (∃ i, xs = [.int i] ∧ Q (.int i) H) ∨ ∃ k, xs = [.bl k] ∧ Q (.int (if k then 1 else 0)) H
def rStr1 : List V → Hp → VK → Prop := fun xs H Q => ∃ i, xs = [.int i] ∧ i.natAbs.log2 < 1920 ∧ Q (.str (toString i)) H
def rMax2 : List V → Hp → VK → Prop := fun xs H Q => ∃ i j, xs = [.int i, .int j] ∧ Q (.int (if j > i then j else i)) H
def rMin2 : List V → Hp → VK → Prop := fun xs H Q => ∃ i j, xs = [.int i, .int j] ∧ Q (.int (if j < i then j else i)) H
def rListOf (K : PySem.W.Frag) : List V → Hp → VK → Prop := fun xs H Q => ∃ p ys, xs = [.ref p] ∧ (SqL K H p ys ∨ SqT K H p ys) ∧ ∀ l, H l = none → Q (.ref l) (upd H l (.lst ys))
theorem call_listOf {X : Cx} : CallR X (.type "list") (rListOf X.K) := call_list_of
def rSortDI : List V → Hp → VK → Prop := fun xs H Q => ∃ (a : Addr) (kvs : List (Key × V)) (ks : List Int), xs = [.ref a] ∧ Rd H a (.dK kvs) ∧ kvs.map (·.1) = ks.map Sum.inl ∧ ks.length < 64 ∧
    ∀ (ys : List Int) (p : Addr), ys.Perm ks → ys.Pairwise (· ≤ ·) → H p = none → Q (.ref p) (upd H p (.lst (ys.map V.int)))
def rIxA (K : PySem.W.Frag) : R2 := fun x y H Q => rIxL K x y H Q ∨ rIxT K x y H Q
theorem ix_any {X : Cx} : IxR X (rIxA X.K) := ix_list.or ix_tup
def rIsN : R2 := fun x y H Q => y = .non ∧ Q (.bl (decide (x = .non))) H
theorem op_isN1 {X : Cx} : OpR X (compareOp .Is) rIsN := op_isN
def rJoin (K : PySem.W.Frag) : V → List V → Hp → VK → Prop := fun x xs H Q => ∃ a p, ∃ ys : List Str, x = .str a ∧ xs = [.ref p] ∧ (SqL K H p (ys.map V.str) ∨ SqT K H p (ys.map V.str)) ∧
  (ys.map (·.length)).sum + ys.length * a.length ≤ 16777216 ∧ Q (.str (Txt.join a ys)) H
theorem units64 {A : Around} {k : Nat} (hr : Room k A) : A.units + 64 < cLine := hr.units
theorem units65 {A : Around} {k : Nat} (hr : Room k A) : A.units + 65 < cLine := by have := hr.un; omega
section
variable {X : Cx}
theorem pe_joinK {o e : Expr} {to te : TE} {apos pos : Pos} (ho : PE X o to) (he : PE X e te) (hs : starEach [e] X.env = [(false, eval e X.env)] := by rfl) (hbase : attributeBase o "join" X.env (eval o X.env) = eval o X.env := by rfl) (hline : (apos.endLine == pos.line) = true := by rfl) :
    PE X (.Call (.Attribute o "join" apos) [e] [] pos) (tM1 (rJoin X.K) to te) := pe_join ho he hs hbase hline

/-! ### a def by name, with all that a call asks of it -/
structure Cal (P : Program) (w : World) (K : PySem.W.Frag) (mg : Str → Option Value) (base : Heap) (x : Str) (k : Nat) (ps : List Str) (sp : Sp) : Prop where
  ex : ∃ (f : Addr) (fd : FuncData), FnOk P w K mg base CX0 k f fd ps sp ∧ PySem.W.keepIn K (.ref f) = true ∧ Binds K fd ps [] ∧ mg x = some (.ref f)
theorem pe_cal {x : Str} {k : Nat} {ps : List Str} {sp : Sp} {e : Expr} {es : List Expr} {t : TA} {p pos : Pos} (C : Cal X.prog X.w X.K X.mg X.base x k ps sp) (hr : Room k X.A) (hg : Gl X x) (ha : PA X (e :: es) t)
    (hdb : (x == ("__debug__" : Str)) = false := by decide) (he : starEach (e :: es) X.env = (false, eval e X.env) :: starEach es X.env := by rfl) (hpl : (backTo pos (starEach es X.env)).any (·.1) = false := by rfl) :
    PE X (.Call (.Name x p) (e :: es) [] pos) (tCall sp [] E0 t) := by
  refine ⟨fun pins s σ H Q I h => ?_⟩
  obtain ⟨f, fd, F, hk, hb, hm⟩ := C.ex
  exact (pe_call F hr hg hm hk hb .nil pass0 ha hdb he hpl).run pins s σ H Q I h
/-- how keywords alone bind -/
structure CalK (P : Program) (w : World) (K : PySem.W.Frag) (mg : Str → Option Value) (base : Heap) (x : Str) (k : Nat) (ps ks : List Str) (gV : List V → List V → List V) (sp : Sp) : Prop where
  ex : ∃ (f : Addr) (fd : FuncData) (g : List Value → List Value → List Value), FnOk P w K mg base CX0 k f fd ps sp ∧ PySem.W.keepIn K (.ref f) = true ∧ KBinds K fd ps ks g gV ∧ mg x = some (.ref f)
theorem pe_calK {x : Str} {k : Nat} {ps ks : List Str} {gV : List V → List V → List V} {sp : Sp} {kws : List Keyword} {tk : TA} {p pos : Pos} (C : CalK X.prog X.w X.K X.mg X.base x k ps ks gV sp) (hr : Room k X.A) (hg : Gl X x) (hkw : PK X kws tk)
    (hall : (backToKw pos (keywordEach kws X.env)).all (·.1.isSome) = true := by rfl) (hks : (backToKw pos (keywordEach kws X.env)).filterMap (·.1) = ks := by rfl)
    (hdb : (x == ("__debug__" : Str)) = false := by decide)
    (hpl : ((backTo pos (starEach [] X.env)).any (·.1) || (backToKw pos (keywordEach kws X.env)).any (·.1.isNone)) = false := by rfl) :
    PE X (.Call (.Name x p) [] kws pos) (tCallK sp gV E0 tNil tk) := by
  refine ⟨fun pins s σ H Q I h => ?_⟩
  obtain ⟨f, fd, g, F, hk, hb, hm⟩ := C.ex
  refine wpAny_Call_Name_kw (ld_glob I hg hm ?_ hdb)
  refine PySem.W.callWith_KW0 (h₀ := X.base) I.ok.mod.kin hk hall (thn (hkw.run pos pins s σ H _ I h) fun ws s2 ⟨zs, H2, I2, rz, q2⟩ => ⟨I2.kIn, ?_⟩) hpl
  rw [hks]
  exact run_fnk (us := []) F hr hb pass0 I2 .nil rz q2
end
/-- a list's item, by values -/
theorem get_list {X : Cx} : PGet X (rIxL X.K) := by
  intro pins s σ H o i ov iv Q I ro ri h
  obtain ⟨p, xs, j, z, rfl, rfl, hq, he, q⟩ := h
  cases ro
  obtain ⟨t, rfl⟩ := ri
  obtain ⟨its, r, pl, hz⟩ := I.list hq
  obtain ⟨m, h1, h2, h3, h4, h5⟩ := atI_get he
  obtain ⟨w, ew, rw'⟩ := r.get h2
  have hl := r.length
  have hn := line63
  have fin : EP X pins σ Q w s := ⟨z, H, I, rw', q⟩
  by_cases h0 : 0 ≤ j
  · have hj : j.toNat = m := by
      rw [seqIndex_of h0 h5] at h1
      exact Option.some.inj h1
    exact wpAny_getItem_list pl.isList h0 (by omega) (by rw [hj]; simpa using ew) fin
  · have hj : (j + (its.toArray.size : Int)).toNat = m := by
      rw [seqIndex_neg (by omega) h4] at h1
      rw [List.size_toArray, ← hl]
      exact Option.some.inj h1
    exact wpAny_getItem_list_neg pl.isList (by omega) (by rw [List.size_toArray] <;> omega) (by omega) (by rw [hj]; simpa using ew) fin
end AW
/-! tuple(d): a dict's keys -/
namespace AW
open PySem PySem.Spec PyProof.Rows L2
section
variable {prog : Program} {w : World} {A : Around} {E : Value → Shared → Prop} {s : Shared} {T : String} {r d : Addr} {n : Nat} {P : Nat → Value → Prop} {OK : Heap → Prop}
def CollP (s : Shared) (n : Nat) (P : Nat → Value → Prop) (rr : Result) (s2 : Shared) : Prop :=
  rr = .ok (.ret (.ref s.heap.objs.size)) ∧ ∃ (h2 : Heap) (tk : Nat) (acc : Array Value) (c : Nat), s2 = { s with heap := h2, toks := tk } ∧ (∀ b o, s.heap.get? b = some o → h2.get? b = some o) ∧
    h2.get? s.heap.objs.size = some { cls := .type "list", dict := none, data := .seq acc c, slots := #[] } ∧ ItemsOf P acc n
theorem collect_src {Q : List Value → Shared → Prop} (src : PySem.W.KdlSrc prog w T r d n P OK) (hh : A.handled = none) (hok : OK s.heap) (hn : n ≤ sizeLine)
    (hQ : ∀ (h2 : Heap) (tk : Nat) (acc : Array Value), (∀ b o, s.heap.get? b = some o → h2.get? b = some o) → ItemsOf P acc n → Q acc.toList { s with heap := h2, toks := tk }) :
    wpAny (model prog w) A (collect (.ref r)) Q E s := by
  have old : ∀ b o, s.heap.get? b = some o → (s.heap.push { cls := .type "list", data := .seq #[] }).get? b = some o := fun b o e => Heap.get?_push_of_some _ e
  have lt := src.there _ hok
  have new0 : (s.heap.push { cls := .type "list", data := .seq #[] }).get? s.heap.objs.size = some { cls := .type "list", data := .seq #[] } := Heap.get?_push_size _ rfl
  unfold collect
  refine wpAny_bind (wpAny_runValue (codeAny_builtin F.entry_proto_collect ?_))
  rw [Around.under_plainId F.plain_proto_collect _]
  refine (show wpAny _ A.in1 (newList [] >>= fun l => again (.builtin "list.__iadd__" ⟨[l, .ref r], []⟩)) _ _ s from wpAny_bind (wpAny_newObj_type (wpAny_pure ⟨plainId_quiet F.plain_list_iadd _, codeAny_builtin F.entry_list_iadd ?_⟩)))
  rw [Around.under_plainId F.plain_list_iadd _]
  refine wpAny_mono (show wpAny _ A.in1 (Builtin.List.listExtendWith (.ref s.heap.objs.size) (.ref r) (.ref s.heap.objs.size)) _ _ _ from PySem.W.kdl_extend (A := A) (R := CollP s n P) (s := { s with heap := s.heap.push { cls := .type "list", data := .seq #[] } })
    src hh (src.keep _ _ hok fun b _ o e => old b o e) s.heap.objs.size (Nat.ne_of_gt lt.1) (Nat.ne_of_gt lt.2) (.ref s.heap.objs.size) 0 new0
    (fun h2 tk acc c k e it => ⟨rfl, h2, tk, acc, c, rfl, fun b o q => k b o (Nat.ne_of_lt (Heap.lt_size q)) (old b o q), e, it⟩) hn) (fun fin s2 h => ?_) (fun e s2 h => absurd h.1 (by simp))
  cases fin with
  | done f =>
    obtain ⟨e, h2, tk, acc, c, rfl, k, e2, it⟩ := h
    cases e
    exact (show wpAny _ A (load s.heap.objs.size >>= _) _ _ _ from wpAny_bind (wpAny_load e2 (wpAny_pure (hQ h2 tk acc k it))))
  | again c2 =>
    refine ⟨h.1, codeAny_mono h.2 fun rr s3 hr => ?_⟩
    obtain ⟨rfl, h2, tk, acc, c, rfl, k, e2, it⟩ := hr
    exact (show wpAny _ A (load s.heap.objs.size >>= _) _ _ _ from wpAny_bind (wpAny_load e2 (wpAny_pure (hQ h2 tk acc k it))))
theorem call_tuple_src {Q : Value → Shared → Prop} (src : PySem.W.KdlSrc prog w T r d n P OK) (hh : A.handled = none) (hok : OK s.heap) (hn : n ≤ sizeLine)
    (hQ : ∀ (h2 : Heap) (tk : Nat) (acc : Array Value), (∀ b o, s.heap.get? b = some o → h2.get? b = some o) → ItemsOf P acc n → Q (.ref h2.objs.size) { s with heap := h2.push { cls := .type "tuple", data := .seq acc }, toks := tk }) :
    wpAny (model prog w) A (call (.type "tuple") [.ref r]) Q E s := by
  have made : codeAny (model prog w) A.in1 (.call (.builtin "tuple.__new__") ⟨[.type "tuple", .ref r], []⟩) (wants (fun obj s1 => s1.TypeIs obj "tuple" ∧ Q obj s1) E) s := by
    refine codeAny_of_tree (show wpAny _ A.in1.in1 (do checkBuiltinCall "tuple.__new__" ⟨[.type "tuple", .ref r], []⟩; again (.builtin "tuple.__new__" ⟨[.type "tuple", .ref r], []⟩)) _ _ s from
      wpAny_bind (wpAny_of_eq (F.newCall_tuple_1 _) (wpAny_pure ⟨plainId_quiet F.plain_tuple_new _, codeAny_builtin F.entry_tuple_new ?_⟩)))
    rw [Around.under_plainId F.plain_tuple_new _]
    have sub := sub_tuple_self; have ini := init_tuple_lookup; have mh := madeHere_tuple
    have ty := src.type s hok
    have h1 : A.in1.in1.handled = none := hh
    have nt : (Value.type T == Value.type "tuple") = false := src.notTuple
    wp_walk using wpAny_typeOf ty, collect_src (A := A.in1.in1) src h1 hok hn
    intro h2 tk acc hk it
    refine (show wpAny _ _ (Builtin.Tuple.tupleExact acc.toList.toArray >>= fun v => ret v) _ _ _ from ?_)
    unfold Builtin.Tuple.tupleExact
    refine wpAny_bind (wpAny_newObj_type (wpAny_pure ?_) (by show acc.toList.toArray.size ≤ sizeLine; rw [Array.toArray_toList, it.1]; exact hn))
    rw [show acc.toList.toArray = acc by simp]
    exact ⟨⟨_, Heap.get?_push_size _ rfl, rfl⟩, hQ h2 tk acc hk it⟩
  exact callType_codes (Q₁ := fun obj s1 => s1.TypeIs obj "tuple" ∧ Q obj s1) F.called_tuple (F.typeCall_tuple_1 _) F.entry_object_init made fun obj s1 h1 =>
    ⟨h1.1, F.args_object_init_2 obj _, object_init_meets F.called_tuple.init.lookup F.called_tuple.made (by decide) prog w A.in1 _ s1 ⟨h1.1, rfl, h1.2⟩⟩
end
def rTupD : List V → Hp → VK → Prop := fun xs H Q => ∃ p kvs, xs = [.ref p] ∧ H p = some (.dK kvs) ∧ ∀ q, H q = none → Q (.ref q) (upd H q (.tup (kvs.map fun kv => kV kv.1)))
theorem call_tuple_dK {X : Cx} (hc : X.calm = true) : CallR X (.type "tuple") rTupD := by
  rintro pins s σ H _ us Q I r ⟨p, kvs, rfl, hk, q⟩
  obtain ⟨u, rfl, rx⟩ := vals1 r
  obtain rfl : u = Value.ref p := rx
  obtain ⟨z, lo, vs, rk, hd⟩ := (show ObjOk X.prog X.w H s.heap p (.dK kvs) from I.hok p _ hk)
  obtain ⟨ep, hat⟩ := hd.dictAt
  have hl : kvs.length = vs.length := Paired.length rk
  refine call_tuple_src (PySem.W.kdl_dict (knd := mixKind X.prog X.w) (kvs := vs) (ep := ep) lo) (I.ok.hd hc) hat (hl ▸ z) fun h2 tk acc keep it => ?_
  have I1 : Inv X pins σ H { s with heap := h2, toks := tk } := I.kept (t' := tk) keep
  have rv : Vals (kvs.map fun kv => kV kv.1) acc.toList := by
    have el : acc.toList.length = vs.length := by rw [Array.length_toList]; exact it.1
    refine vals_of_at (by rw [List.length_map, el]; exact hl) fun j x w' h1 h3 => ?_
    obtain ⟨k, y, hky, hi⟩ := it.2 j w' (by rw [← Array.getElem?_toList]; exact h3)
    have e1 : (kvs.map (·.1))[j]? = some k := by rw [KV.keys rk, List.getElem?_map, hky]; rfl
    have e2 : (kvs.map fun kv => kV kv.1)[j]? = some (kV k) := by
      rw [show (kvs.map fun kv => kV kv.1) = (kvs.map (·.1)).map kV by rw [List.map_map]; rfl, List.getElem?_map, e1]; rfl
    cases e2.symm.trans h1
    exact keyIs_rel hi
  have I2 : Inv X pins σ (upd H h2.objs.size (.tup (kvs.map fun kv => kV kv.1))) { s with heap := h2.push { cls := .type "tuple", data := .seq acc }, toks := tk } :=
    I1.laid (t' := tk) (fun b o e => Heap.get?_push_of_some _ e) (Nat.le_refl _) (show ObjOk X.prog X.w _ _ _ (.tup (kvs.map fun kv => kV kv.1)) from ⟨by rw [List.length_map]; exact z, acc.toList, rv, by simpa using IsTup.new _ _⟩)
  exact ⟨.ref h2.objs.size, _, I2, rfl, q _ (I1.hok.fresh (Nat.le_refl _))⟩
end AW
/-! sorted(t), t a tuple of texts -/
namespace AW
open PySem PySem.Spec PyProof.Rows L2
def rSortTS (K : PySem.W.Frag) : List V → Hp → VK → Prop := fun vs H Q => ∃ (a : Addr) (xs : List Str), vs = [V.ref a] ∧ SqT K H a (xs.map V.str) ∧ xs.length < 64 ∧ ∀ (ys : List Str) (p : Addr), ys.Perm xs → sortedS ys = true → H p = none → Q (.ref p) (upd H p (.lst (ys.map V.str)))
theorem call_sortTS {X : Cx} : CallR X (.builtin "sorted") (rSortTS X.K) := by
  rintro pins s σ H _ us Q I r ⟨a, xs, rfl, hs, h64, q⟩
  obtain ⟨its, rv, pl, hz⟩ := I.tuple hs
  rw [Vals.ref1 r]
  have len : its.length = xs.length := by have := rv.length; rw [List.length_map] at this; exact this.symm
  have sa := rv.strs
  obtain ⟨o, ho, hc, n, hd⟩ := pl
  refine Calls.call_function_entry kind_sorted plain_sorted entry_sorted (args_sorted1 _) ?_
  unfold Builtin.«sorted»
  refine wpAny_bind (m := checkCount "sorted" 1 1 _) (wpAny_pure (wpAny_bind (wpAny_collect_seq a (.inr rfl) ho hc hd (fun h1 k1 => ?_) (by rw [List.size_toArray, len, sizeLine_eq]; omega))))
  rw [show its.toArray.toList = its by simp]
  refine wpAny_bind (wpAny_newList ?_ (by rw [len, sizeLine_eq]; omega))
  have at1 : (h1.push (seqObj "list" its.toArray 0)).get? h1.objs.size = some (seqObj "list" its.toArray 0) := Heap.get?_push_size _ rfl
  refine wpAny_bind (wpAny_holding (wpAny_call_entry slot_list_sort ⟨_, at1, rfl⟩ entry_list_sort (list_sort_treeK strKind_oneLt at1 sa.keysOf (fun v₁ v₂ rest e => keyKind_strs (by rw [← e]; exact sa)) (by rw [len]; exact h64) fun st' a1 a2 => ⟨_, rfl, ?_⟩) (args_list_sort _)))
  obtain ⟨ys, g1, g2, g3⟩ := sorted_out_str sa a1 a2
  obtain ⟨ep, he⟩ := sortedHeap_at (vs := its) (out := (arrOf st').map (·.2)) at1
  have I1 : Inv X pins σ H { s with heap := h1 } := I.kept (t' := s.toks) k1
  have old : ∀ b u, h1.get? b = some u → (sortedHeap (h1.push (seqObj "list" its.toArray 0)) h1.objs.size its ((arrOf st').map (·.2))).get? b = some u := fun b u e => by
    have lt := Heap.lt_size e
    rw [sortedHeap_old (Nat.ne_of_lt lt) (by rw [size_push']; exact Nat.lt_succ_of_lt lt)]
    exact Heap.get?_push_of_some _ e
  refine wpAny_pure ⟨_, rfl, .ref h1.objs.size, upd H h1.objs.size (.lst (ys.map V.str)), I1.laid (t' := s.toks) old (Nat.le_refl _) (show ObjOk X.prog X.w _ _ _ (.lst (ys.map V.str)) from ⟨?_, ((arrOf st').map (·.2)).toList, ep, vals_of_strs g1, by rw [Array.toArray_toList]; exact he⟩), rfl, q ys _ g2 g3 (I1.hok.fresh (Nat.le_refl _))⟩
  rw [List.length_map, g2.length_eq, sizeLine_eq]
  omega
end AW
/-! list(x), x a text -/
namespace AW
open PySem PySem.Spec PyProof.Rows L2
section
variable {prog : Program} {w : World} {A : Around} {E : Value → Shared → Prop} {s : Shared}
theorem init_list_str {R : Result → Shared → Prop} (hh : A.handled = none) (x : Str) (t : Tok) (S : Addr) (hS : s.heap.get? S = some { cls := .type "list", data := .seq #[] })
    (hR : ∀ h' tk acc' c', (∀ b o, b ≠ S → s.heap.get? b = some o → h'.get? b = some o) → h'.get? S = some { cls := .type "list", dict := none, data := .seq acc' c', slots := #[] } → ItemsOf (SignAt x) acc' x.cps.size → R (.ok (.ret .none)) { s with heap := h', toks := tk }) (hn : x.cps.size ≤ sizeLine) :
    wpAny (model prog w) A.in1 (Builtin.«list.__init__» ⟨[.ref S, .str x t], []⟩)
      (fun fin s' => match fin with | .done f => R (.ok f) s' | .again c' => c'.quiet = true ∧ codeAny (model prog w) A c' R s') (fun e s' => R (.error e) s') s := by
  show wpAny _ _ (do let old ← Builtin.List.listItems (.ref S); Builtin.List.listUpdate (.ref S) (fun _ => #[]); letGo old.toList.reverse; Builtin.List.listExtendWith (.ref S) (.str x t) .none) _ _ s
  refine wpAny_bind ?_
  unfold Builtin.List.listItems
  refine wpAny_bind (wpAny_seqItems hS rfl (wpAny_pure ?_))
  show wpAny _ _ (updateSeq S (fun _ => #[]) >>= fun _ => letGo (#[] : Array Value).toList.reverse >>= fun _ => Builtin.List.listExtendWith (.ref S) (.str x t) .none) _ _ s
  refine wpAny_bind (wpAny_updateSeq hS rfl ?_)
  have hS₂ := Heap.get?_update_self (Obj.mapSeq (fun _ => (#[] : Array Value))) hS rfl
  have oth : ∀ b o, b ≠ S → s.heap.get? b = some o → (s.heap.update S (Obj.mapSeq (fun _ => (#[] : Array Value)))).get? b = some o :=
    fun b o hb e => (Heap.get?_update_other _ _ (Ne.symm hb)).trans e
  refine wpAny_bind (wpAny_letGo ?_)
  unfold Builtin.List.listExtendWith
  refine wpAny_bind (wpAny_typeOf (T := "str") (v := .str x t) rfl ?_)
  have h1 : Builtin.List.listSameRef (.ref S) (.str x t) = false := rfl
  have h2 : (Value.type "str" == Value.type "list") = false := by decide
  have h3 : (Value.type "str" == Value.type "tuple") = false := by decide
  simp only [h1, h2, h3, Bool.or_false, Bool.false_eq_true, if_false]
  refine wpAny_bind (wpAny_pyIter_str fun o St W hst => ?_)
  refine wpAny_bind (wpAny_holding ?_)
  unfold Builtin.List.listLengthHint
  refine wpAny_bind (wpAny_specialOf (T := "str") (v := .str x t) rfl PySem.F.str_len ?_)
  wp_delta
  refine wpAny_bind (wpAny_isInstance (T := "str") (v := .str x t) (b := true) rfl (by rw [isSubtype_type]; kernel_rfl) ?_)
  show wpAny _ A.in1 (typeOf (Value.str x t) >>= _) _ _ _
  refine wpAny_bind (wpAny_typeOf (T := "str") (v := .str x t) rfl ?_)
  refine wpAny_pure ?_
  rw [if_neg (by decide)]
  generalize hH : s.heap.update S (Obj.mapSeq (fun _ => (#[] : Array Value))) = H at W hst hS₂ oth ⊢
  have hSlt := Heap.lt_size hS₂
  have hSf : S ∉ [H.objs.size] := fun hm => by rw [List.mem_singleton.mp hm] at hSlt; exact Nat.lt_irrefl _ hSlt
  have hS3 : (H.push o).get? S = _ := Heap.get?_push_of_some _ hS₂
  refine wpAny_pure ⟨plainId_quiet PySem.F.plain_extend_loop _, codeAny_extend_loopS (W A.in1 hh).toS hn S hSf .none x.cps.size 0 _ #[] _ rfl (Nat.zero_le _) hst hS3 (ItemsOf.nil _) fun s' acc' c' hm hS' hacc => ?_⟩
  rw [Moved.eq_with hm]
  refine hR s'.heap s'.toks acc' c' (fun b ob hb e => hm.heap b ob (fun hmem => ?_) (Heap.get?_push_of_some _ (oth b ob hb e))) hS' hacc
  rcases List.mem_cons.mp hmem with e' | hmem
  · exact hb e'
  · have e3 := Heap.lt_size (oth b ob hb e)
    rw [List.mem_singleton.mp hmem] at e3
    exact Nat.lt_irrefl _ e3
theorem call_list_str {Q : Value → Shared → Prop} (hh : A.handled = none) (x : Str) (t : Tok) (hn : x.cps.size ≤ sizeLine)
    (hQ : ∀ h' tk acc' c', (∀ b o, s.heap.get? b = some o → h'.get? b = some o) → h'.get? s.heap.objs.size = some { cls := .type "list", dict := none, data := .seq acc' c', slots := #[] } → ItemsOf (SignAt x) acc' x.cps.size → Q (.ref s.heap.objs.size) { s with heap := h', toks := tk }) :
    wpAny (model prog w) A (call (.type "list") [.str x t]) Q E s := by
  refine callType_codes (Q₁ := fun obj s₁ => obj = .ref s.heap.objs.size ∧ s₁ = { s with heap := s.heap.push { cls := .type "list", data := .seq #[] } }) PySem.F.called_list (PySem.F.typeCall_list_1 _) PySem.F.entry_list_init
    (code_list_new _ ⟨rfl, rfl⟩) fun obj s₁ h₁ => ?_
  obtain ⟨rfl, rfl⟩ := h₁
  have hS : (s.heap.push { cls := .type "list", data := .seq #[] }).get? s.heap.objs.size = some { cls := .type "list", data := .seq #[] } := Heap.get?_push_size _ rfl
  refine ⟨⟨_, hS, rfl⟩, PySem.F.args_list_init_2 _ _, init_list_str (A := A.in1) hh x t _ hS (fun h' tk acc' c' hk hS' hacc => ?_) hn⟩
  exact ⟨rfl, hQ h' tk acc' c' (fun b o e => hk b o (Nat.ne_of_lt (Heap.lt_size e)) (Heap.get?_push_of_some _ e)) hS' hacc⟩
end
/-- the signs of a text, each as a text -/
def signsOf (x : Str) : List Str := x.cps.toList.map fun c => ⟨#[c]⟩
def rListS : List V → Hp → VK → Prop := fun xs H Q => ∃ x, xs = [.str x] ∧ x.cps.size ≤ sizeLine ∧ ∀ l, H l = none → Q (.ref l) (upd H l (.lst ((signsOf x).map V.str)))
theorem call_listS {X : Cx} (hc : X.calm = true) : CallR X (.type "list") rListS := by
  rintro pins s σ H _ us Q I r ⟨x, rfl, hz, q⟩
  obtain ⟨u, rfl, rx⟩ := vals1 r
  obtain ⟨t, rfl⟩ := rx
  refine call_list_str (I.ok.hd hc) x t hz fun h' tk acc' c' hkeep hS hacc => ?_
  refine ⟨.ref s.heap.objs.size, upd H s.heap.objs.size (.lst ((signsOf x).map V.str)), I.laid hkeep (Nat.le_refl _) (show ObjOk X.prog X.w _ _ _ (.lst ((signsOf x).map V.str)) from ⟨?_, acc'.toList, c', ?_, ?_⟩), rfl, q _ (I.hok.fresh (Nat.le_refl _))⟩
  · unfold signsOf
    rw [List.length_map, List.length_map, Array.length_toList]
    exact hz
  · have el : acc'.toList.length = acc'.size := by simp
    refine vals_of_at (by unfold signsOf; rw [List.length_map, List.length_map, Array.length_toList, el]; exact hacc.1.symm) fun j v w' h1 h2 => ?_
    obtain ⟨c, u, h3, rfl⟩ := hacc.2 j w' (by rw [← Array.getElem?_toList]; exact h2)
    unfold signsOf at h1
    rw [List.getElem?_map, List.getElem?_map, Array.getElem?_toList, h3] at h1
    cases h1
    exact ⟨u, rfl⟩
  · rw [Array.toArray_toList]; exact hS
def rListOfA (K : PySem.W.Frag) : List V → Hp → VK → Prop := fun xs H Q => rListOf K xs H Q ∨ rListS xs H Q
theorem call_listOfA {X : Cx} (hc : X.calm = true) : CallR X (.type "list") (rListOfA X.K) := (call_list_of).or (call_listS hc)
end AW
/-! heaps that go on, the law's state, readings of one def at a time -/
namespace AW
open PySem PySem.Spec PyProof.Rows L2

/-- what goes on: all but the objects of S; tuples and locked things always -/
structure Adv (S : List Addr) (H H' : Hp) : Prop where
  keep : ∀ a o, a ∉ S → H a = some o → H' a = some o
  tup : ∀ a xs, H a = some (.tup xs) → H' a = some (.tup xs)
theorem Adv.refl (S : List Addr) (H : Hp) : Adv S H H := ⟨fun _ _ _ h => h, fun _ _ h => h⟩
theorem Adv.trans {S : List Addr} {H H1 H2 : Hp} (a : Adv S H H1) (b : Adv S H1 H2) : Adv S H H2 := ⟨fun c o n h => b.keep c o n (a.keep c o n h), fun c xs h => b.tup c xs (a.tup c xs h)⟩
theorem Adv.mono {S S' : List Addr} {H H' : Hp} (a : Adv S H H') (h : ∀ b ∈ S, b ∈ S') : Adv S' H H' := ⟨fun c o n q => a.keep c o (fun m => n (h c m)) q, a.tup⟩
theorem Adv.any {S : List Addr} {H H' : Hp} (a : Adv [] H H') : Adv S H H' := a.mono fun _ h => nomatch h
theorem Adv.new {H : Hp} {p : Addr} {o : HO} (h : H p = none) : Adv [] H (upd H p o) :=
  ⟨fun a u _ e => by rw [upd_ne (ne_of_none e h)]; exact e, fun a xs e => by rw [upd_ne (ne_of_none e h)]; exact e⟩
/-- an object that is no tuple is changed -/
theorem Adv.set {H : Hp} {f : Addr} {o u : HO} (e : H f = some u) (nt : ∀ xs, u ≠ .tup xs) : Adv [f] H (upd H f o) :=
  ⟨fun a v n q => by rw [upd_ne (fun z => n (by rw [z]; exact List.mem_singleton.mpr rfl))]; exact q, fun a xs q => by rw [upd_ne (ne_of q e (nt xs).symm)]; exact q⟩
theorem Adv.lst {H : Hp} {f : Addr} {o : HO} {ys : List V} (e : H f = some (.lst ys)) : Adv [f] H (upd H f o) := Adv.set e (fun _ z => by cases z)
theorem Adv.dct {H : Hp} {f : Addr} {o : HO} {ys : List (Key × V)} (e : H f = some (.dK ys)) : Adv [f] H (upd H f o) := Adv.set e (fun _ z => by cases z)
/-- what H does not know yet need not be named -/
theorem Adv.drop {S : List Addr} {f : Addr} {H H' : Hp} (a : Adv (f :: S) H H') (h : H f = none) : Adv S H H' :=
  ⟨fun b o n e => a.keep b o (fun m => by
    rcases List.mem_cons.mp m with z | z
    · rw [z] at e; rw [h] at e; cases e
    · exact n z) e, a.tup⟩
/-- f is new, the rest goes on, f is changed -/
theorem Adv.mut {S : List Addr} {f : Addr} {H H' : Hp} {o u : HO} (a : Adv S H H') (h : H f = none) (e : H' f = some u) (nt : ∀ xs, u ≠ .tup xs) : Adv S H (upd H' f o) :=
  ⟨fun b v n q => by rw [upd_ne (ne_of_none q h)]; exact a.keep b v n q, fun b xs q => by rw [upd_ne (ne_of_none q h)]; exact a.tup b xs q⟩
theorem Adv.free {S : List Addr} {H H' : Hp} {p : Addr} (a : Adv S H H') (hS : p ∉ S) (h : H' p = none) : H p = none := by
  cases q : H p with
  | none => rfl
  | some o =>
    rw [a.keep p o hS q] at h
    cases h
section
variable {K : PySem.W.Frag} {S : List Addr} {H H' : Hp} {a : Addr} {xs : List V}
theorem Adv.sqt (e : Adv S H H') (hf : ∀ o u, H a = some (.frz o u) → a ∉ S) (h : SqT K H a xs) : SqT K H' a xs := by
  rcases h with (h | ⟨o, h⟩) | h
  · exact .inl (.inl (e.tup _ _ h))
  · exact .inl (.inr ⟨o, e.keep _ _ (hf _ _ h) h⟩)
  · exact .inr h
theorem Adv.sql (e : Adv S H H') (hn : a ∉ S) (h : SqL K H a xs) : SqL K H' a xs := by
  rcases h with (h | ⟨o, h⟩) | h
  · exact .inl (.inl (e.keep _ _ hn h))
  · exact .inl (.inr ⟨o, e.keep _ _ hn h⟩)
  · exact .inr h
end
theorem w_new {H : Hp} {o : HO} {Q : V → Hp → Prop} (h : ∀ p H', H p = none → Adv [] H H' → H' p = some o → Q (.ref p) H') : ∀ p, H p = none → Q (.ref p) (upd H p o) := fun p hp => h p _ hp (Adv.new hp) upd_same

/-! ### the law's bag at st: what is left of a great cell, the draws, the great cells to come at cs.1, the cells at cs.2 -/
def StOk (st : Addr) (cs : Addr × Addr) (H : Hp) : Prop := ∃ (r n : Int) (gs ns : List Int),
  H st = some (.lst [.int r, .int n, .ref cs.1, .ref cs.2]) ∧ H cs.1 = some (.lst (gs.map V.int)) ∧ H cs.2 = some (.lst (ns.map V.int)) ∧ 0 < ns.length ∧ ns.length ≤ 100 ∧ gs.length ≤ 100 ∧ cs.1 ≠ st ∧ cs.2 ≠ st ∧ cs.2 ≠ cs.1 ∧ ∀ x ∈ ns, 0 ≤ x ∧ x < 2147483647
def Off (p st : Addr) (cs : Addr × Addr) : Prop := p ≠ st ∧ p ≠ cs.1
theorem Off.not {p st : Addr} {cs : Addr × Addr} (h : Off p st cs) : p ∉ [st, cs.1] := fun z => by
  rcases List.mem_cons.mp z with e | e
  · exact h.1 e
  · exact h.2 (List.mem_singleton.mp e)
/-- a new object is none of them -/
theorem StOk.ne {st : Addr} {cs : Addr × Addr} {p : Addr} {H : Hp} (h : StOk st cs H) (hp : H p = none) : Off p st cs ∧ p ≠ cs.2 := by
  obtain ⟨_, _, _, _, h1, h2, h3, _⟩ := h
  exact ⟨⟨(ne_of_none h1 hp).symm, (ne_of_none h2 hp).symm⟩, (ne_of_none h3 hp).symm⟩
theorem StOk.keep {st : Addr} {cs : Addr × Addr} {H H' : Hp} {S : List Addr} (h : StOk st cs H) (e : Adv S H H') (h1 : st ∉ S) (h2 : cs.1 ∉ S) (h3 : cs.2 ∉ S) : StOk st cs H' := by
  obtain ⟨r, n, gs, ns, a, b, c, d⟩ := h
  exact ⟨r, n, gs, ns, e.keep _ _ h1 a, e.keep _ _ h2 b, e.keep _ _ h3 c, d⟩
/-- the run goes on: the bag alone is changed -/
structure Go (st : Addr) (cs : Addr × Addr) (H H' : Hp) : Prop where
  adv : Adv [st, cs.1] H H'
  ok : StOk st cs H'
section
variable {st : Addr} {cs : Addr × Addr}
theorem Go.refl {H : Hp} (h : StOk st cs H) : Go st cs H H := ⟨.refl _ _, h⟩
theorem Go.trans {H H1 H2 : Hp} (a : Go st cs H H1) (b : Go st cs H1 H2) : Go st cs H H2 := ⟨a.adv.trans b.adv, b.ok⟩
theorem Go.of {H H' : Hp} (h : StOk st cs H) (e : Adv [] H H') : Go st cs H H' := ⟨e.any, h.keep e (fun z => nomatch z) (fun z => nomatch z) fun z => nomatch z⟩
theorem Go.new {H H' : Hp} (a : Go st cs H H') {H2 : Hp} (e : Adv [] H' H2) : Go st cs H H2 := a.trans (.of a.ok e)
theorem Go.mut {f : Addr} {H H' : Hp} {o u : HO} (a : Go st cs H H') (h : H f = none) (e : H' f = some u) (nt : ∀ xs, u ≠ .tup xs) (n1 : Off f st cs) (n2 : f ≠ cs.2) : Go st cs H (upd H' f o) :=
  ⟨a.adv.mut h e nt, a.ok.keep (Adv.set e nt) (fun z => n1.1 (List.mem_singleton.mp z).symm) (fun z => n1.2 (List.mem_singleton.mp z).symm) fun z => n2 (List.mem_singleton.mp z).symm⟩
theorem Go.mutL {f : Addr} {H H' : Hp} {o : HO} {xs : List V} (a : Go st cs H H') (hs : StOk st cs H) (h : H f = none) (e : H' f = some (.lst xs)) : Go st cs H (upd H' f o) :=
  a.mut h e (fun _ z => by cases z) (hs.ne h).1 (hs.ne h).2
theorem Go.mutD {f : Addr} {H H' : Hp} {o : HO} {xs : List (Key × V)} (a : Go st cs H H') (hs : StOk st cs H) (h : H f = none) (e : H' f = some (.dK xs)) : Go st cs H (upd H' f o) :=
  a.mut h e (fun _ z => by cases z) (hs.ne h).1 (hs.ne h).2
theorem Go.mutT {f : Addr} {H H' : Hp} {o : HO} {xs : List (List L2.Key × V)} (a : Go st cs H H') (hs : StOk st cs H) (h : H f = none) (e : H' f = some (.dT xs)) : Go st cs H (upd H' f o) :=
  a.mut h e (fun _ z => by cases z) (hs.ne h).1 (hs.ne h).2
theorem Go.keep {a : Addr} {H H' : Hp} {o : HO} (g : Go st cs H H') (n : Off a st cs) (h : H a = some o) : H' a = some o := g.adv.keep a o n.not h
theorem Go.sql {a : Addr} {K : PySem.W.Frag} {H H' : Hp} {xs : List V} (g : Go st cs H H') (n : Off a st cs) (h : SqL K H a xs) : SqL K H' a xs := g.adv.sql n.not h
theorem Go.free {p : Addr} {H H' : Hp} (g : Go st cs H H') (hs : StOk st cs H) (h : H' p = none) : H p = none := g.adv.free (g.ok.ne h).1.not h
theorem StOk.notD {a : Addr} {H : Hp} {o : HO} (h : StOk st cs H) (e : H a = some o) (no : ∀ xs, o ≠ .lst xs) : Off a st cs := by
  obtain ⟨_, _, _, _, h1, h2, _⟩ := h
  exact ⟨ne_of e h1 (no _), ne_of e h2 (no _)⟩
end
end AW
/-! one step of a reading at a time -/
namespace AW
open PySem PySem.Spec PyProof.Rows L2
section
variable {σ : L2.St} {H : Hp} {Q : VK} {ta tb te : TE} {t u : TT} {D : Ends} {t1 t2 : TS} {K : PySem.W.Frag}
theorem w_var {i : Nat} {v : V} (h : σ[i]? = some (some v)) (q : Q v H) : tVar i σ H Q := ⟨v, h, q⟩
theorem w_c {v : V} (q : Q v H) : tC v σ H Q := q
theorem w_op {r : R2} (h : ta σ H fun x H1 => tb σ H1 fun y H2 => r x y H2 Q) : tOp r ta tb σ H Q := h
theorem w_un {r : V → Hp → VK → Prop} (h : ta σ H fun x H1 => r x H1 Q) : tUn r ta σ H Q := h
theorem w_I0 {g : Int → Int → V} {i j : Int} (q : Q (g i j) H) : rI0 g (.int i) (.int j) H Q := ⟨i, j, rfl, rfl, q⟩
theorem w_I {C : Int → Int → Prop} {g : Int → Int → V} {i j : Int} (c : C i j) (q : Q (g i j) H) : rI C g (.int i) (.int j) H Q := ⟨i, j, rfl, rfl, c, q⟩
theorem w_U {g : Int → V} {i : Int} (q : Q (g i) H) : rU g (.int i) H Q := ⟨i, rfl, q⟩
theorem w_cb {r : List V → Hp → VK → Prop} {a : TA} (h : a σ H fun vs H1 => r vs H1 Q) : tCB r a σ H Q := h
theorem w_nil {Q : List V → Hp → Prop} (q : Q [] H) : tNil σ H Q := q
theorem w_cons {Q : List V → Hp → Prop} {a : TA} (h : ta σ H fun x H1 => a σ H1 fun xs H2 => Q (x :: xs) H2) : tCons ta a σ H Q := h
theorem w_call {sp : Sp} {E : XK} {a : TA} (h : a σ H fun vs H1 => sp vs H1 Q E) : tCall sp [] E a σ H Q := by
  show a σ H fun vs H1 => sp (vs ++ []) H1 Q E
  have e : (fun (vs : List V) (H1 : Hp) => sp (vs ++ []) H1 Q E) = fun vs H1 => sp vs H1 Q E := by
    funext vs H1
    rw [List.append_nil]
  rw [e]
  exact h
theorem w_test {Q : Bool → Hp → Prop} (h : te σ H fun x H1 => ∃ k, x = .bl k ∧ Q k H1) : tTest te σ H Q := h
theorem w_B {Q : Bool → Hp → Prop} (h : te σ H fun x H1 => ∃ k, x = .bl k ∧ Q k H1) : tB te σ H Q := h
theorem w_bl {k : Bool} {P : Bool → Prop} (q : P k) : ∃ k', V.bl k = .bl k' ∧ P k' := ⟨k, rfl, q⟩
theorem w_yes {Q : Bool → Hp → Prop} (q : Q true H) : tYes σ H Q := q
theorem w_not {Q : Bool → Hp → Prop} (h : t σ H fun c H1 => Q (!c) H1) : tNot t σ H Q := h
theorem w_and {Q : Bool → Hp → Prop} (h : t σ H fun c H1 => if c = true then u σ H1 Q else Q false H1) : tAnd t u σ H Q := h
theorem w_or {Q : Bool → Hp → Prop} (h : t σ H fun c H1 => if c = true then Q true H1 else u σ H1 Q) : tOr t u σ H Q := h
theorem w_andV (h : ta σ H fun x H1 => ∃ c, x = .bl c ∧ if c = true then tb σ H1 Q else Q (.bl false) H1) : tAndV ta tb σ H Q := h
theorem w_orV (h : ta σ H fun x H1 => ∃ c, x = .bl c ∧ if c = true then Q (.bl true) H1 else tb σ H1 Q) : tOrV ta tb σ H Q := h
theorem w_notV (h : ta σ H fun x H1 => ∃ c, x = .bl c ∧ Q (.bl (!c)) H1) : tNotV ta σ H Q := h
theorem w_if (h : t σ H fun c H1 => if c = true then ta σ H1 Q else tb σ H1 Q) : tIf t ta tb σ H Q := h
def kTupD (xs : List V) (H : Hp) (Q : VK) : Prop := xs.length ≤ sizeLine ∧ ∀ p, H p = none → Q (.ref p) (upd H p (.tup xs))
theorem w_tup {a : TA} (h : a σ H fun xs H1 => kTupD xs H1 Q) : tTup a σ H Q := h
def kLstD (xs : List V) (H : Hp) (Q : VK) : Prop := xs.length ≤ sizeLine ∧ ∀ p, H p = none → Q (.ref p) (upd H p (.lst xs))
theorem w_lst {a : TA} (h : a σ H fun xs H1 => kLstD xs H1 Q) : tLst a σ H Q := h
theorem w_int1 {i : Int} (q : Q (.int i) H) : rInt1 [.int i] H Q := .inl ⟨i, rfl, q⟩
theorem w_int1b {k : Bool} (q : Q (.int (if k then 1 else 0)) H) : rInt1 [.bl k] H Q := .inr ⟨k, rfl, q⟩
theorem w_abs {i : Int} (q : Q (.int (if i < 0 then -i else i)) H) : rAbs [.int i] H Q := ⟨i, rfl, q⟩
theorem w_max2 {i j : Int} (q : Q (.int (if j > i then j else i)) H) : rMax2 [.int i, .int j] H Q := ⟨i, j, rfl, q⟩
theorem w_min2 {i j : Int} (q : Q (.int (if j < i then j else i)) H) : rMin2 [.int i, .int j] H Q := ⟨i, j, rfl, q⟩
theorem w_eq {x y : V} (h : scal x y = true) (q : Q (.bl (decide (x = y))) H) : rEq x y H Q := ⟨h, q⟩
theorem w_ne {x y : V} (h : scal x y = true) (q : Q (.bl (!decide (x = y))) H) : rNe x y H Q := ⟨h, q⟩
theorem w_isN {x : V} (q : Q (.bl (decide (x = .non))) H) : rIsN x .non H Q := ⟨rfl, q⟩
theorem w_isB {a b : Bool} (q : Q (.bl (decide (a = b))) H) : rIsB (.bl a) (.bl b) H Q := ⟨a, b, rfl, rfl, q⟩
theorem w_chain {r r' : R2} {tc : TE} (h : ta σ H fun x H1 => tb σ H1 fun y H2 => r x y H2 fun z H3 => ∃ k, z = .bl k ∧ (if k = true then tc σ H3 fun w' H4 => r' y w' H4 Q else Q (.bl false) H3)) : tChain r r' ta tb tc σ H Q := h
/-- a list's item at a place -/
theorem w_ixL {p : Addr} {xs : List V} {i : Int} {v : V} (h : SqL K H p xs) (e : atI xs i = some v) (q : Q v H) : rIxL K (.ref p) (.int i) H Q := ⟨p, xs, i, v, rfl, rfl, h, e, q⟩
theorem w_ixT {p : Addr} {xs : List V} {i : Int} {v : V} (h : SqT K H p xs) (e : atI xs i = some v) (q : Q v H) : rIxT K (.ref p) (.int i) H Q := ⟨p, xs, i, v, rfl, rfl, h, e, q⟩
theorem w_lenL {p : Addr} {xs : List V} (h : SqL K H p xs) (q : Q (.int (xs.length : Nat)) H) : rLen1 K [.ref p] H Q := ⟨.ref p, xs.length, rfl, .inl ⟨xs, h, rfl⟩, q⟩
theorem w_lenT {p : Addr} {xs : List V} (h : SqT K H p xs) (q : Q (.int (xs.length : Nat)) H) : rLen1 K [.ref p] H Q := ⟨.ref p, xs.length, rfl, .inr ⟨xs, h, rfl⟩, q⟩
/-! statements -/
theorem w_seq (h : t1 { D with nx := t2 D } σ H) : tSeq t1 t2 D σ H := h
theorem w_next (q : D.nx σ H) : tNext D σ H := q
theorem w_ret (h : te σ H D.rt) : tRet te D σ H := h
theorem w_drop (h : te σ H fun _ H1 => D.nx σ H1) : tDrop te D σ H := h
theorem w_asg {g : TG} (h : te σ H fun x H1 => g x σ H1 D.nx) : tAsg te g D σ H := h
theorem w_gname {i : Nat} {v : V} {Q : L2.St → Hp → Prop} (q : Q (σ.set i (some v)) H) : gName i v σ H Q := q
theorem w_ifS (h : t σ H fun b H1 => if b = true then t1 D σ H1 else t2 D σ H1) : tIfS t t1 t2 D σ H := h
theorem w_gsub {s : TSet} {v : V} {Q : L2.St → Hp → Prop} (h : ta σ H fun o H1 => tb σ H1 fun i H2 => s o i v H2 fun H3 => Q σ H3) : gSub ta tb s v σ H Q := h
theorem w_setL {p : Addr} {xs : List V} {k : Int} {j : Nat} {v : V} {Q : Hp → Prop} (h : H p = some (.lst xs)) (e : ixN xs.length k = some j) (q : Q (upd H p (.lst (xs.set j v)))) : rSetL (.ref p) (.int k) v H Q := ⟨p, xs, k, j, rfl, rfl, h, e, q⟩
theorem w_augS {to ti : TE} {tget : V → V → Hp → VK → Prop} {tip : TIp} {tset : TSet} (h : to σ H fun o H1 => ti σ H1 fun i H2 => tget o i H2 fun x H3 => te σ H3 fun y H4 => tip x y H4 fun z H5 => tset o i z H5 fun H6 => D.nx σ H6) : tAugS to ti te tget tip tset D σ H := h
theorem w_ipI {f : Int → Int → Int} {i j : Int} (q : Q (.int (f i j)) H) : ipI f (.int i) (.int j) H Q := ⟨i, j, rfl, rfl, q⟩
theorem w_ite {c A B : Prop} [Decidable c] (h1 : c → A) (h2 : ¬c → B) : if c then A else B := ite2 h1 h2
theorem w_iteB {c : Prop} [Decidable c] {A B : Prop} (h1 : c → A) (h2 : ¬c → B) : if (decide c) = true then A else B := ite2 (fun h => h1 (of_decide_eq_true h)) fun h => h2 fun z => h (decide_eq_true z)
theorem w_iteNB {c : Prop} [Decidable c] {A B : Prop} (h1 : ¬c → A) (h2 : c → B) : if (!decide c) = true then A else B := ite2 (fun h => h1 fun z => by rw [decide_eq_true z] at h; cases h) fun h => h2 (Classical.byContradiction fun z => h (by rw [decide_eq_false z]; rfl))
/-! slices, lists joined, append -/
theorem w_sl {r : V → Option Int → Option Int → Hp → VK → Prop} {tl th : TO} (h : te σ H fun x H1 => tl σ H1 fun l H2 => th σ H2 fun u H3 => r x l u H3 Q) : tSl r te tl th σ H Q := h
theorem w_part {Q : Option Int → Hp → Prop} (h : te σ H fun x H1 => ∃ i, x = .int i ∧ Q (some i) H1) : tPart te σ H Q := h
theorem w_noPart {Q : Option Int → Hp → Prop} (q : Q none H) : tNoPart σ H Q := q
theorem w_in {i : Int} {P : Int → Prop} (q : P i) : ∃ k, V.int i = .int k ∧ P k := ⟨i, rfl, q⟩
theorem w_slL {p : Addr} {xs : List V} {lo hi : Option Int} (h : SqL K H p xs) (q : ∀ r H', H r = none → Adv [] H H' → H' r = some (.lst (cutV xs lo hi)) → Q (.ref r) H') : rSlL K (.ref p) lo hi H Q := ⟨p, xs, rfl, h, w_new q⟩
theorem w_cat {a b : Addr} {xs ys : List V} (h1 : H a = some (.lst xs)) (h2 : H b = some (.lst ys)) (hz : xs.length + ys.length ≤ 100000) (q : ∀ r H', H r = none → Adv [] H H' → H' r = some (.lst (xs ++ ys)) → Q (.ref r) H') : rCat (.ref a) (.ref b) H Q :=
  ⟨a, b, xs, ys, rfl, rfl, h1, h2, Nat.le_trans hz (by decide), w_new q⟩
theorem w_listOf {p : Addr} {xs : List V} (h : SqL K H p xs ∨ SqT K H p xs) (q : ∀ r H', H r = none → Adv [] H H' → H' r = some (.lst xs) → Q (.ref r) H') : rListOf K [.ref p] H Q := ⟨p, xs, rfl, h, w_new q⟩
theorem w_app {i : Nat} {l : Addr} {xs0 : List V} {a : TA} (hσ : σ[i]? = some (some (.ref l))) (h0 : H l = some (.lst xs0)) (h : a σ H fun vs H2 => rAppend (.ref l) vs H2 Q) : tBM K "list" rAppend (tVar i) a σ H Q :=
  ⟨.ref l, hσ, .inl ⟨rfl, xs0, SqL.of h0⟩, h⟩
theorem w_append {l : Addr} {xs : List V} {y : V} (h : H l = some (.lst xs)) (hz : xs.length < 100000) (q : Q .non (upd H l (.lst (xs ++ [y])))) : rAppend (.ref l) [y] H Q :=
  ⟨l, xs, y, rfl, rfl, h, Nat.lt_of_lt_of_le hz (by decide), q⟩
theorem w_lstD {xs : List V} (hz : xs.length ≤ 100000) (q : ∀ r H', H r = none → Adv [] H H' → H' r = some (.lst xs) → Q (.ref r) H') : kLstD xs H Q := ⟨Nat.le_trans hz (by decide), w_new q⟩
theorem w_tupD {xs : List V} (hz : xs.length ≤ 100000) (q : ∀ r H', H r = none → Adv [] H H' → H' r = some (.tup xs) → Q (.ref r) H') : kTupD xs H Q := ⟨Nat.le_trans hz (by decide), w_new q⟩
/-! loops -/
def kFor (J : It) (g : TG) (tb : TS) (D : Ends) (σ : L2.St) (H1 : Hp) : Prop := ∃ W : Nat → Nat → L2.St → Hp → Prop, (∃ m, W 0 m σ H1) ∧ ∀ i m σ H, W i m σ H →
  (J.stop i H ∧ D.nx σ H) ∨ (J.go i H ∧ ∃ N : L2.St → Hp → Prop, (∀ σ' H', N σ' H' → ∃ m', m' < m ∧ W (i + 1) m' σ' H') ∧ ∀ v H', J.yld i H v H' → g v σ H' fun σ2 H2 => tb { D with nx := N, ct := N, bk := D.nx } σ2 H2)
def kForR (g : TG) (tb : TS) (D : Ends) (σ : L2.St) (vs : List V) (H1 : Hp) : Prop := ∃ j : Int, vs = [.int j] ∧ -(2 ^ 62) ≤ j ∧ j < 2 ^ 62 ∧ kFor (Itr 0 j.toNat) g tb D σ H1
theorem w_forR {a : TA} {g : TG} {tb : TS} (h : a σ H (kForR g tb D σ)) : tFor (iRng1 a) g tb D σ H := h
theorem kForR_i {n : Nat} {j : Nat} {tb : TS} (hn : n ≤ 1000000) (Pv : Nat → L2.St → Hp → Prop) (h0 : Pv 0 σ H) (hs : ∀ i σ' H', i < n → Pv i σ' H' → tb { D with nx := Pv (i + 1), ct := Pv (i + 1), bk := D.nx } (σ'.set j (some (.int (i : Nat)))) H')
    (hd : ∀ σ' H', Pv n σ' H' → D.nx σ' H') : kForR (gName j) tb D σ [.int (n : Nat)] H := by
  refine ⟨n, rfl, by omega, by omega, ?_⟩
  have e : ((n : Nat) : Int).toNat = n := by omega
  rw [e]
  refine for_range (lo := 0) (n := n) Pv h0 (fun i σ' H' hi p => ?_) hd
  show tb { D with nx := Pv (i + 1), ct := Pv (i + 1), bk := D.nx } (σ'.set j (some (.int ((0 : Int) + (i : Nat))))) H'
  rw [Int.zero_add]
  exact hs i σ' H' hi p
def kForR2 (g : TG) (tb : TS) (D : Ends) (σ : L2.St) (vs : List V) (H1 : Hp) : Prop := ∃ i j : Int, vs = [.int i, .int j] ∧ (-(2 ^ 62) ≤ i ∧ i < 2 ^ 62 ∧ -(2 ^ 62) ≤ j ∧ j < 2 ^ 62) ∧ kFor (Itr i (j - i).toNat) g tb D σ H1
theorem w_forR2 {a : TA} {g : TG} {tb : TS} (h : a σ H (kForR2 g tb D σ)) : tFor (iRng2 a) g tb D σ H := h
theorem kForR2_i {lo hi : Int} {j : Nat} {tb : TS} (h1 : -1000000 ≤ lo ∧ lo ≤ 1000000) (h2 : -1000000 ≤ hi ∧ hi ≤ 1000000) (Pv : Nat → L2.St → Hp → Prop) (h0 : Pv 0 σ H)
    (hs : ∀ i σ' H', i < (hi - lo).toNat → Pv i σ' H' → tb { D with nx := Pv (i + 1), ct := Pv (i + 1), bk := D.nx } (σ'.set j (some (.int (lo + (i : Nat))))) H') (hd : ∀ σ' H', Pv (hi - lo).toNat σ' H' → D.nx σ' H') : kForR2 (gName j) tb D σ [.int lo, .int hi] H :=
  ⟨lo, hi, rfl, ⟨by omega, by omega, by omega, by omega⟩, for_range (lo := lo) (n := (hi - lo).toNat) Pv h0 (fun i σ' H' hi p => hs i σ' H' hi p) hd⟩
def kForL (K : PySem.W.Frag) (g : TG) (tb : TS) (D : Ends) (σ : L2.St) (x : V) (H1 : Hp) : Prop := ∃ a, x = .ref a ∧ (∃ xs, SqL K H1 a xs) ∧ kFor (Itl K a) g tb D σ H1
theorem w_forL {tl : TE} {g : TG} {tb : TS} (h : tl σ H (kForL K g tb D σ)) : tFor (iList K tl) g tb D σ H := h
theorem kForL_i {p : Addr} {xs : List V} {g : TG} {tb : TS} (Pv : Nat → L2.St → Hp → Prop) (hp : SqL K H p xs) (h0 : Pv 0 σ H) (hl : ∀ i σ' H', i ≤ xs.length → Pv i σ' H' → SqL K H' p xs)
    (hs : ∀ i v σ' H', xs[i]? = some v → Pv i σ' H' → g v σ' H' fun σ2 H2 => tb { D with nx := Pv (i + 1), ct := Pv (i + 1), bk := D.nx } σ2 H2) (hd : ∀ σ' H', Pv xs.length σ' H' → D.nx σ' H') : kForL K g tb D σ (.ref p) H :=
  ⟨p, rfl, ⟨xs, hp⟩, for_list Pv h0 hl hs hd⟩
def kForT (K : PySem.W.Frag) (g : TG) (tb : TS) (D : Ends) (σ : L2.St) (x : V) (H1 : Hp) : Prop := ∃ a, x = .ref a ∧ (∃ xs, SqT K H1 a xs) ∧ kFor (Itt K a) g tb D σ H1
theorem w_forT {tl : TE} {g : TG} {tb : TS} (h : tl σ H (kForT K g tb D σ)) : tFor (iTup K tl) g tb D σ H := h
theorem kForT_i {p : Addr} {xs : List V} {g : TG} {tb : TS} (Pv : Nat → L2.St → Hp → Prop) (hp : SqT K H p xs) (h0 : Pv 0 σ H) (hl : ∀ i σ' H', i ≤ xs.length → Pv i σ' H' → SqT K H' p xs)
    (hs : ∀ i v σ' H', xs[i]? = some v → Pv i σ' H' → g v σ' H' fun σ2 H2 => tb { D with nx := Pv (i + 1), ct := Pv (i + 1), bk := D.nx } σ2 H2) (hd : ∀ σ' H', Pv xs.length σ' H' → D.nx σ' H') : kForT K g tb D σ (.ref p) H :=
  ⟨p, rfl, ⟨xs, hp⟩, for_tup Pv h0 hl hs hd⟩
/-! comprehensions -/
def kLc (J : It) (g : TG) (tt : TT) (te : TE) (vs : List Nat) (σ : L2.St) (Q : VK) (H1 : Hp) : Prop := ∀ D, H1 D = none → ∃ W : Nat → Nat → Hp → Prop, (∃ m, W 0 m (upd H1 D (.lst []))) ∧ ∀ i m H, W i m H →
  (J.stop i H ∧ Q (.ref D) H) ∨ (J.go i H ∧ ∃ Nx : Hp → Prop, (∀ H', Nx H' → ∃ m', m' < m ∧ W (i + 1) m' H') ∧ ∀ x H', J.yld i H x H' → g x (wipe σ vs) H' fun σ2 H2 => wipe σ2 vs = wipe σ vs ∧ tt σ2 H2 fun b H3 =>
    if b = true then te σ2 H3 fun y H4 => ∃ acc, H4 D = some (.lst acc) ∧ acc.length < sizeLine ∧ Nx (upd H4 D (.lst (acc ++ [y]))) else Nx H3)
def kLcR (g : TG) (tt : TT) (te : TE) (vs : List Nat) (σ : L2.St) (Q : VK) (ws : List V) (H1 : Hp) : Prop := ∃ j : Int, ws = [.int j] ∧ -(2 ^ 62) ≤ j ∧ j < 2 ^ 62 ∧ kLc (Itr 0 j.toNat) g tt te vs σ Q H1
def kLcL (K : PySem.W.Frag) (g : TG) (tt : TT) (te : TE) (vs : List Nat) (σ : L2.St) (Q : VK) (x : V) (H1 : Hp) : Prop := ∃ a, x = .ref a ∧ (∃ xs, SqL K H1 a xs) ∧ kLc (Itl K a) g tt te vs σ Q H1
def kLcT (K : PySem.W.Frag) (g : TG) (tt : TT) (te : TE) (vs : List Nat) (σ : L2.St) (Q : VK) (x : V) (H1 : Hp) : Prop := ∃ a, x = .ref a ∧ (∃ xs, SqT K H1 a xs) ∧ kLc (Itt K a) g tt te vs σ Q H1
theorem w_lcR {a : TA} {g : TG} {vs : List Nat} (h : a σ H (kLcR g t te vs σ Q)) : tLc (iRng1 a) g t te vs σ H Q := h
theorem w_lcL {tl : TE} {g : TG} {vs : List Nat} (h : tl σ H (kLcL K g t te vs σ Q)) : tLc (iList K tl) g t te vs σ H Q := h
theorem w_lcT {tl : TE} {g : TG} {vs : List Nat} (h : tl σ H (kLcT K g t te vs σ Q)) : tLc (iTup K tl) g t te vs σ H Q := h
/-- a list is made, turn by turn, while the run goes on: R tells of each item that is given, at the places that are taken -/
structure Mk (st : Addr) (cs : Addr × Addr) (H0 : Hp) (R : Nat → V → Hp → Prop) (l : Addr) (i : Nat) (H : Hp) : Prop where
  go : Go st cs H0 H
  new : H0 l = none
  ok0 : StOk st cs H0
  at_ : ∃ (ks : List Nat) (ys : List V), H l = some (.lst ys) ∧ ks.length = ys.length ∧ ks.Pairwise (· < ·) ∧ (∀ k ∈ ks, k < i) ∧ ∀ (m : Nat) k v, ks[m]? = some k → ys[m]? = some v → R k v H
end
end AW
/-! data that stand in tuples; lists made by comprehensions while the run goes on -/
namespace AW
open PySem PySem.Spec PyProof.Rows L2

/-- tuples are kept -/
def TK (H H' : Hp) : Prop := ∀ a xs, H a = some (.tup xs) → H' a = some (.tup xs)
theorem TK.refl (H : Hp) : TK H H := fun _ _ h => h
theorem TK.trans {H H1 H2 : Hp} (a : TK H H1) (b : TK H1 H2) : TK H H2 := fun c xs h => b c xs (a c xs h)
theorem Go.tk {st : Addr} {cs : Addr × Addr} {H H' : Hp} (g : Go st cs H H') : TK H H' := g.adv.tup
mutual
/-- the value stands for the datum: scalars, and tuples of such -/
inductive Is (H : Hp) : PyData → V → Prop where
  | non : Is H .none .non
  | bl (b : Bool) : Is H (.bool b) (.bl b)
  | int (i : Int) : Is H (.int i) (.int i)
  | str (x : Str) : Is H (.str x) (.str x)
  | tup {a : Addr} {xs : List V} {ds : List PyData} : H a = some (.tup xs) → IsAll H ds xs → Is H (.tuple ds) (.ref a)
inductive IsAll (H : Hp) : List PyData → List V → Prop where
  | nil : IsAll H [] []
  | cons {d : PyData} {ds : List PyData} {v : V} {vs : List V} : Is H d v → IsAll H ds vs → IsAll H (d :: ds) (v :: vs)
end
mutual
theorem Is.up {H H' : Hp} (k : TK H H') : ∀ {d : PyData} {v : V}, Is H d v → Is H' d v
  | _, _, .non => .non
  | _, _, .bl b => .bl b
  | _, _, .int i => .int i
  | _, _, .str x => .str x
  | _, _, .tup e h => .tup (k _ _ e) (IsAll.up k h)
theorem IsAll.up {H H' : Hp} (k : TK H H') : ∀ {ds : List PyData} {vs : List V}, IsAll H ds vs → IsAll H' ds vs
  | _, _, .nil => .nil
  | _, _, .cons h t => .cons (Is.up k h) (IsAll.up k t)
end
mutual
theorem Is.dp {K : PySem.W.Frag} {H : Hp} : ∀ {d : PyData} {v : V}, Is H d v → Dp K H v d
  | _, _, .non => .non
  | _, _, .bl b => .bl b
  | _, _, .int i => .int i
  | _, _, .str x => .str x
  | _, _, .tup e h => .tup (SqT.of e) (IsAll.dp h)
theorem IsAll.dp {K : PySem.W.Frag} {H : Hp} : ∀ {ds : List PyData} {vs : List V}, IsAll H ds vs → DpAll K H vs ds
  | _, _, .nil => .nil
  | _, _, .cons h t => .cons (Is.dp h) (IsAll.dp t)
end
theorem IsAll.length {H : Hp} : ∀ {ds : List PyData} {vs : List V}, IsAll H ds vs → vs.length = ds.length
  | _, _, .nil => rfl
  | _, _, .cons _ t => congrArg (· + 1) t.length
theorem IsAll.get {H : Hp} : ∀ {ds : List PyData} {vs : List V} {i : Nat} {v : V}, IsAll H ds vs → vs[i]? = some v → ∃ d, ds[i]? = some d ∧ Is H d v
  | _, _, _, _, .nil, e => by simp at e
  | _, _, 0, _, .cons h _, e => by
    simp at e
    subst e
    exact ⟨_, rfl, h⟩
  | _, _, i + 1, v, .cons _ t, e => by
    obtain ⟨d, h1, h2⟩ := IsAll.get (i := i) (v := v) t (by simpa using e)
    exact ⟨d, by simpa using h1, h2⟩
theorem IsAll.get' {H : Hp} : ∀ {ds : List PyData} {vs : List V} {i : Nat} {d : PyData}, IsAll H ds vs → ds[i]? = some d → ∃ v, vs[i]? = some v ∧ Is H d v
  | _, _, _, _, .nil, e => by simp at e
  | _, _, 0, _, .cons h _, e => by
    simp at e
    subst e
    exact ⟨_, rfl, h⟩
  | _, _, i + 1, d, .cons _ t, e => by
    obtain ⟨v, h1, h2⟩ := IsAll.get' (i := i) (d := d) t (by simpa using e)
    exact ⟨v, by simpa using h1, h2⟩
theorem IsAll.of {H : Hp} : ∀ (ds : List PyData) (vs : List V), vs.length = ds.length → (∀ (i : Nat) d v, ds[i]? = some d → vs[i]? = some v → Is H d v) → IsAll H ds vs
  | [], [], _, _ => .nil
  | d :: ds, v :: vs, hl, h => .cons (h 0 d v rfl rfl) (IsAll.of ds vs (Nat.succ.inj hl) fun i d' v' h1 h2 => h (i + 1) d' v' (by simpa using h1) (by simpa using h2))
  | [], _ :: _, hl, _ => by simp at hl
  | _ :: _, [], hl, _ => by simp at hl
theorem IsAll.append {H : Hp} : ∀ {ds es : List PyData} {vs ws : List V}, IsAll H ds vs → IsAll H es ws → IsAll H (ds ++ es) (vs ++ ws)
  | _, _, _, _, .nil, h => h
  | _, _, _, _, .cons a t, h => .cons a (IsAll.append t h)
theorem IsAll.ints {H : Hp} : ∀ (ns : List Int), IsAll H (ns.map .int) (ns.map V.int)
  | [] => .nil
  | n :: ns => .cons (.int n) (IsAll.ints ns)
theorem IsAll.strs {H : Hp} : ∀ (ns : List Str), IsAll H (ns.map .str) (ns.map V.str)
  | [] => .nil
  | n :: ns => .cons (.str n) (IsAll.strs ns)
theorem IsAll.ints_inv {H : Hp} : ∀ {ns : List Int} {vs : List V}, IsAll H (ns.map .int) vs → vs = ns.map V.int
  | [], _, .nil => rfl
  | n :: ns, _, .cons h t => by
    cases h
    rw [IsAll.ints_inv t]
    rfl
theorem IsAll.strs_inv {H : Hp} : ∀ {ns : List Str} {vs : List V}, IsAll H (ns.map .str) vs → vs = ns.map V.str
  | [], _, .nil => rfl
  | n :: ns, _, .cons h t => by
    cases h
    rw [IsAll.strs_inv t]
    rfl
theorem Is.int_inv {H : Hp} {n : Int} {v : V} (h : Is H (.int n) v) : v = .int n := by
  cases h
  rfl
theorem Is.str_inv {H : Hp} {n : Str} {v : V} (h : Is H (.str n) v) : v = .str n := by
  cases h
  rfl
theorem Is.tup_inv {H : Hp} {ds : List PyData} {v : V} (h : Is H (.tuple ds) v) : ∃ a xs, v = .ref a ∧ H a = some (.tup xs) ∧ IsAll H ds xs := by
  cases h with
  | tup e t => exact ⟨_, _, rfl, e, t⟩
theorem IsAll.perm {H : Hp} {ds : List PyData} {vs ws : List V} (h : IsAll H ds vs) (p : ws.Perm vs) : ∃ es, es.Perm ds ∧ IsAll H es ws := by
  induction p generalizing ds with
  | nil => cases h; exact ⟨[], .refl _, .nil⟩
  | cons x p ih =>
    cases h with
    | cons a t =>
      obtain ⟨es, h1, h2⟩ := ih t
      exact ⟨_ :: es, h1.cons _, .cons a h2⟩
  | swap x y l =>
    cases h with
    | cons a t =>
      cases t with
      | cons b t => exact ⟨_, List.Perm.swap .., .cons b (.cons a t)⟩
  | trans p q ih1 ih2 =>
    obtain ⟨es, h1, h2⟩ := ih2 h
    obtain ⟨fs, h3, h4⟩ := ih1 h2
    exact ⟨fs, h3.trans h1, h4⟩

section
variable {K : PySem.W.Frag} {st : Addr} {cs : Addr × Addr} {J : It} {n : Nat} {G : Hp → Prop} {Y : Nat → Hp → V → Hp → Prop} {g : TG} {tt : TT} {te : TE} {vs : List Nat} {σ : L2.St} {Q : VK} {H1 : Hp}
/-- a comprehension without a test -/
theorem kLc_all (wk : Walk J n G Y) (hn : n ≤ 100000) (ok : StOk st cs H1) (hG : ∀ H', Go st cs H1 H' → G H') (R : Nat → V → Hp → Prop) (mono : ∀ i v H H', TK H H' → R i v H → R i v H')
    (step : ∀ i x H H' (Kt : V → Hp → Prop), i < n → Go st cs H1 H → Y i H x H' → (∀ y H4, Go st cs H H4 → R i y H4 → Kt y H4) → g x (wipe σ vs) H' fun σ2 H2 => wipe σ2 vs = wipe σ vs ∧ te σ2 H2 Kt)
    (k : ∀ p H' ys, H1 p = none → Go st cs H1 H' → H' p = some (.lst ys) → ys.length = n → (∀ (i : Nat) v, ys[i]? = some v → R i v H') → Q (.ref p) H') : kLc J g tYes te vs σ Q H1 := by
  intro D hD
  have nD := ok.ne hD
  refine lc_it wk (fun i H => Go st cs H1 H ∧ ∃ ys, H D = some (.lst ys) ∧ ys.length = i ∧ ∀ (m : Nat) v, ys[m]? = some v → R m v H) ⟨.of ok (Adv.new hD), [], upd_same, rfl, fun m v e => by simp at e⟩ (fun i H _ p => hG H p.1)
    (fun i x H H' hi p y => ?_) fun H p => ?_
  · obtain ⟨g1, ys, e1, hl, hr⟩ := p
    refine step i x H H' _ hi g1 y fun v H4 g4 r4 => ?_
    have e4 : H4 D = some (.lst ys) := g4.keep nD.1 e1
    have t5 : TK H4 (upd H4 D (.lst (ys ++ [v]))) := (Adv.lst e4).tup
    refine ⟨ys, e4, Nat.lt_of_lt_of_le (show ys.length < 100001 by omega) (by decide), (g1.trans g4).mutL ok hD e4, ys ++ [v], upd_same, by rw [List.length_append, hl]; rfl, fun m w e => ?_⟩
    by_cases hm : m < ys.length
    · rw [List.getElem?_append_left hm] at e
      exact mono _ _ _ _ (g4.tk.trans t5) (hr m w e)
    · have hm2 : m = ys.length := by
        have := (List.getElem?_eq_some_iff.mp e).1
        rw [List.length_append] at this
        simp at this
        omega
      subst hm2
      rw [List.getElem?_append_right (Nat.le_refl _), Nat.sub_self] at e
      simp at e
      subst e
      rw [hl]
      exact mono _ _ _ _ t5 r4
  · obtain ⟨g1, ys, e1, hl, hr⟩ := p
    exact k D H ys hD g1 e1 hl hr
/-- a comprehension with a test: ks the places that are taken, in order; F tells of the others -/
theorem kLc_some (wk : Walk J n G Y) (hn : n ≤ 100000) (ok : StOk st cs H1) (hG : ∀ H', Go st cs H1 H' → G H') (R : Nat → V → Hp → Prop) (F : Nat → Prop) (mono : ∀ i v H H', TK H H' → R i v H → R i v H')
    (step : ∀ i x H H' (Kt : V → Hp → Prop) (Kf : Hp → Prop), i < n → Go st cs H1 H → Y i H x H' → (∀ y H4, Go st cs H H4 → R i y H4 → Kt y H4) → (∀ H3, Go st cs H H3 → F i → Kf H3) →
      g x (wipe σ vs) H' fun σ2 H2 => wipe σ2 vs = wipe σ vs ∧ tt σ2 H2 fun b H3 => if b = true then te σ2 H3 Kt else Kf H3)
    (k : ∀ p H' (ks : List Nat) ys, H1 p = none → Go st cs H1 H' → H' p = some (.lst ys) → ks.length = ys.length → ks.Pairwise (· < ·) → (∀ k ∈ ks, k < n) → (∀ k, k < n → k ∉ ks → F k) → (∀ (m k : Nat) v, ks[m]? = some k → ys[m]? = some v → R k v H') → Q (.ref p) H') :
    kLc J g tt te vs σ Q H1 := by
  intro D hD
  have nD := ok.ne hD
  refine lc_it wk (fun i H => Go st cs H1 H ∧ ∃ (ks : List Nat) (ys : List V), H D = some (.lst ys) ∧ ks.length = ys.length ∧ ks.Pairwise (· < ·) ∧ (∀ k ∈ ks, k < i) ∧ (∀ k, k < i → k ∉ ks → F k) ∧ ks.length ≤ i ∧ ∀ (m : Nat) k v, ks[m]? = some k → ys[m]? = some v → R k v H)
    ⟨.of ok (Adv.new hD), [], [], upd_same, rfl, .nil, fun k h => (nomatch h), fun k h => absurd h (Nat.not_lt_zero _), Nat.le_refl _, fun m k v e => by simp at e⟩ (fun i H _ p => hG H p.1) (fun i x H H' hi p y => ?_) fun H p => ?_
  · obtain ⟨g1, ks, ys, e1, hl, hp, hk, hf, hle, hr⟩ := p
    refine step i x H H' _ _ hi g1 y (fun v H4 g4 r4 => ?_) fun H3 g3 f3 => ?_
    · have e4 : H4 D = some (.lst ys) := g4.keep nD.1 e1
      have t5 : TK H4 (upd H4 D (.lst (ys ++ [v]))) := (Adv.lst e4).tup
      refine ⟨ys, e4, Nat.lt_of_lt_of_le (show ys.length < 100001 by omega) (by decide), (g1.trans g4).mutL ok hD e4, ks ++ [i], ys ++ [v], upd_same, by rw [List.length_append, List.length_append, hl]; rfl, ?_, fun k h => ?_, fun k h1 h2 => ?_, by rw [List.length_append]; simp; omega, fun m k w e1 e2 => ?_⟩
      · rw [List.pairwise_append]
        exact ⟨hp, List.pairwise_singleton .., fun a ha b hb => by rw [List.mem_singleton.mp hb]; exact hk a ha⟩
      · rcases List.mem_append.mp h with h | h
        · exact Nat.lt_succ_of_lt (hk k h)
        · rw [List.mem_singleton.mp h]
          exact Nat.lt_succ_self _
      · have h3 : k ≠ i := fun z => h2 (List.mem_append_right _ (by rw [z]; exact List.mem_singleton.mpr rfl))
        exact hf k (by omega) fun z => h2 (List.mem_append_left _ z)
      · by_cases hm : m < ys.length
        · rw [List.getElem?_append_left hm] at e2
          rw [List.getElem?_append_left (by omega)] at e1
          exact mono _ _ _ _ (g4.tk.trans t5) (hr m k w e1 e2)
        · have hm2 : m = ys.length := by
            have := (List.getElem?_eq_some_iff.mp e2).1
            rw [List.length_append] at this
            simp at this
            omega
          subst hm2
          rw [List.getElem?_append_right (Nat.le_refl _), Nat.sub_self] at e2
          rw [← hl, List.getElem?_append_right (Nat.le_refl _), Nat.sub_self] at e1
          simp at e1 e2
          subst e1 e2
          exact mono _ _ _ _ t5 r4
    · refine ⟨g1.trans g3, ks, ys, g3.keep nD.1 e1, hl, hp, fun k h => Nat.lt_succ_of_lt (hk k h), fun k h1 h2 => ?_, by omega, fun m k w e1 e2 => mono _ _ _ _ g3.tk (hr m k w e1 e2)⟩
      by_cases hki : k = i
      · subst hki
        exact f3
      · exact hf k (by omega) h2
  · obtain ⟨g1, ks, ys, e1, hl, hp, hk, hf, hle, hr⟩ := p
    exact k D H ks ys hD g1 e1 hl hp hk hf hr
theorem kLcR_all {n : Nat} (hn : n ≤ 100000) (ok : StOk st cs H1) (R : Nat → V → Hp → Prop) (mono : ∀ i v H H', TK H H' → R i v H → R i v H')
    (step : ∀ i H (Kt : V → Hp → Prop), i < n → Go st cs H1 H → (∀ y H4, Go st cs H H4 → R i y H4 → Kt y H4) → g (.int (i : Nat)) (wipe σ vs) H fun σ2 H2 => wipe σ2 vs = wipe σ vs ∧ te σ2 H2 Kt)
    (k : ∀ p H' ys, H1 p = none → Go st cs H1 H' → H' p = some (.lst ys) → ys.length = n → (∀ (i : Nat) v, ys[i]? = some v → R i v H') → Q (.ref p) H') : kLcR g tYes te vs σ Q [.int (n : Nat)] H1 := by
  refine ⟨n, rfl, by omega, by omega, ?_⟩
  have e : ((n : Nat) : Int).toNat = n := by omega
  rw [e]
  refine kLc_all walk_range hn ok (fun _ _ => trivial) R mono (fun i x H H' Kt hi g1 y kt => ?_) k
  obtain ⟨rfl, rfl⟩ := y
  show g (.int ((0 : Int) + (i : Nat))) _ _ _
  rw [Int.zero_add]
  exact step i H' Kt hi g1 kt
theorem kLcR_some {n : Nat} (hn : n ≤ 100000) (ok : StOk st cs H1) (R : Nat → V → Hp → Prop) (F : Nat → Prop) (mono : ∀ i v H H', TK H H' → R i v H → R i v H')
    (step : ∀ i H (Kt : V → Hp → Prop) (Kf : Hp → Prop), i < n → Go st cs H1 H → (∀ y H4, Go st cs H H4 → R i y H4 → Kt y H4) → (∀ H3, Go st cs H H3 → F i → Kf H3) →
      g (.int (i : Nat)) (wipe σ vs) H fun σ2 H2 => wipe σ2 vs = wipe σ vs ∧ tt σ2 H2 fun b H3 => if b = true then te σ2 H3 Kt else Kf H3)
    (k : ∀ p H' (ks : List Nat) ys, H1 p = none → Go st cs H1 H' → H' p = some (.lst ys) → ks.length = ys.length → ks.Pairwise (· < ·) → (∀ k ∈ ks, k < n) → (∀ k, k < n → k ∉ ks → F k) → (∀ (m k : Nat) v, ks[m]? = some k → ys[m]? = some v → R k v H') → Q (.ref p) H') :
    kLcR g tt te vs σ Q [.int (n : Nat)] H1 := by
  refine ⟨n, rfl, by omega, by omega, ?_⟩
  have e : ((n : Nat) : Int).toNat = n := by omega
  rw [e]
  refine kLc_some walk_range hn ok (fun _ _ => trivial) R F mono (fun i x H H' Kt Kf hi g1 y kt kf => ?_) k
  obtain ⟨rfl, rfl⟩ := y
  show g (.int ((0 : Int) + (i : Nat))) _ _ _
  rw [Int.zero_add]
  exact step i H' Kt Kf hi g1 kt kf
theorem kLcL_all {p : Addr} {xs : List V} (hp : SqL K H1 p xs) (np : Off p st cs) (hn : xs.length ≤ 100000) (ok : StOk st cs H1) (R : Nat → V → Hp → Prop) (mono : ∀ i v H H', TK H H' → R i v H → R i v H')
    (step : ∀ i x H (Kt : V → Hp → Prop), xs[i]? = some x → Go st cs H1 H → (∀ y H4, Go st cs H H4 → R i y H4 → Kt y H4) → g x (wipe σ vs) H fun σ2 H2 => wipe σ2 vs = wipe σ vs ∧ te σ2 H2 Kt)
    (k : ∀ p H' ys, H1 p = none → Go st cs H1 H' → H' p = some (.lst ys) → ys.length = xs.length → (∀ (i : Nat) v, ys[i]? = some v → R i v H') → Q (.ref p) H') : kLcL K g tYes te vs σ Q (.ref p) H1 :=
  ⟨p, rfl, ⟨xs, hp⟩, kLc_all walk_list hn ok (fun _ g => g.sql np hp) R mono (fun i x H H' Kt hi g1 y kt => by
    obtain ⟨rfl, e⟩ := y
    exact step i x H' Kt e g1 kt) k⟩
theorem kLcL_some {p : Addr} {xs : List V} (hp : SqL K H1 p xs) (np : Off p st cs) (hn : xs.length ≤ 100000) (ok : StOk st cs H1) (R : Nat → V → Hp → Prop) (F : Nat → Prop) (mono : ∀ i v H H', TK H H' → R i v H → R i v H')
    (step : ∀ i x H (Kt : V → Hp → Prop) (Kf : Hp → Prop), xs[i]? = some x → Go st cs H1 H → (∀ y H4, Go st cs H H4 → R i y H4 → Kt y H4) → (∀ H3, Go st cs H H3 → F i → Kf H3) →
      g x (wipe σ vs) H fun σ2 H2 => wipe σ2 vs = wipe σ vs ∧ tt σ2 H2 fun b H3 => if b = true then te σ2 H3 Kt else Kf H3)
    (k : ∀ p H' (ks : List Nat) ys, H1 p = none → Go st cs H1 H' → H' p = some (.lst ys) → ks.length = ys.length → ks.Pairwise (· < ·) → (∀ k ∈ ks, k < xs.length) → (∀ k, k < xs.length → k ∉ ks → F k) → (∀ (m k : Nat) v, ks[m]? = some k → ys[m]? = some v → R k v H') → Q (.ref p) H') :
    kLcL K g tt te vs σ Q (.ref p) H1 :=
  ⟨p, rfl, ⟨xs, hp⟩, kLc_some walk_list hn ok (fun _ g => g.sql np hp) R F mono (fun i x H H' Kt Kf hi g1 y kt kf => by
    obtain ⟨rfl, e⟩ := y
    exact step i x H' Kt Kf e g1 kt kf) k⟩
theorem kLcT_all {p : Addr} {xs : List V} (hp : H1 p = some (.tup xs)) (hn : xs.length ≤ 100000) (ok : StOk st cs H1) (R : Nat → V → Hp → Prop) (mono : ∀ i v H H', TK H H' → R i v H → R i v H')
    (step : ∀ i x H (Kt : V → Hp → Prop), xs[i]? = some x → Go st cs H1 H → (∀ y H4, Go st cs H H4 → R i y H4 → Kt y H4) → g x (wipe σ vs) H fun σ2 H2 => wipe σ2 vs = wipe σ vs ∧ te σ2 H2 Kt)
    (k : ∀ p H' ys, H1 p = none → Go st cs H1 H' → H' p = some (.lst ys) → ys.length = xs.length → (∀ (i : Nat) v, ys[i]? = some v → R i v H') → Q (.ref p) H') : kLcT K g tYes te vs σ Q (.ref p) H1 :=
  ⟨p, rfl, ⟨xs, SqT.of hp⟩, kLc_all walk_tup hn ok (fun _ g => SqT.of (g.tk _ _ hp)) R mono (fun i x H H' Kt hi g1 y kt => by
    obtain ⟨rfl, e⟩ := y
    exact step i x H' Kt e g1 kt) k⟩
theorem kLcT_some {p : Addr} {xs : List V} (hp : H1 p = some (.tup xs)) (hn : xs.length ≤ 100000) (ok : StOk st cs H1) (R : Nat → V → Hp → Prop) (F : Nat → Prop) (mono : ∀ i v H H', TK H H' → R i v H → R i v H')
    (step : ∀ i x H (Kt : V → Hp → Prop) (Kf : Hp → Prop), xs[i]? = some x → Go st cs H1 H → (∀ y H4, Go st cs H H4 → R i y H4 → Kt y H4) → (∀ H3, Go st cs H H3 → F i → Kf H3) →
      g x (wipe σ vs) H fun σ2 H2 => wipe σ2 vs = wipe σ vs ∧ tt σ2 H2 fun b H3 => if b = true then te σ2 H3 Kt else Kf H3)
    (k : ∀ p H' (ks : List Nat) ys, H1 p = none → Go st cs H1 H' → H' p = some (.lst ys) → ks.length = ys.length → ks.Pairwise (· < ·) → (∀ k ∈ ks, k < xs.length) → (∀ k, k < xs.length → k ∉ ks → F k) → (∀ (m k : Nat) v, ks[m]? = some k → ys[m]? = some v → R k v H') → Q (.ref p) H') :
    kLcT K g tt te vs σ Q (.ref p) H1 :=
  ⟨p, rfl, ⟨xs, SqT.of hp⟩, kLc_some walk_tup hn ok (fun _ g => SqT.of (g.tk _ _ hp)) R F mono (fun i x H H' Kt Kf hi g1 y kt kf => by
    obtain ⟨rfl, e⟩ := y
    exact step i x H' Kt Kf e g1 kt kf) k⟩
end
theorem at_nat {xs : List V} {n : Int} {v : V} (h0 : 0 ≤ n) (h : xs[n.toNat]? = some v) : atI xs n = some v := at_of (j := n.toNat) (by omega) h
theorem get_some {α : Type} {xs : List α} {i : Nat} (h : i < xs.length) : ∃ v, xs[i]? = some v := ⟨xs[i], List.getElem?_eq_getElem h⟩
theorem cut_to (xs : List V) {n : Int} (h0 : 0 ≤ n) : cutV xs none (some n) = xs.take n.toNat := by
  obtain ⟨m, rfl⟩ : ∃ m : Nat, n = m := ⟨n.toNat, by omega⟩
  unfold cutV
  rw [HT.sIx_none, HT.sIx_nat]
  simp only [List.drop_zero, Nat.sub_zero, Int.toNat_natCast]
  by_cases h : m ≤ xs.length
  · rw [Nat.min_eq_left h]
  · rw [Nat.min_eq_right (by omega), List.take_of_length_le (Nat.le_refl _), List.take_of_length_le (by omega)]
theorem cut_from (xs : List V) {n : Int} (h0 : 0 ≤ n) : cutV xs (some n) none = xs.drop n.toNat := by
  obtain ⟨m, rfl⟩ : ∃ m : Nat, n = m := ⟨n.toNat, by omega⟩
  unfold cutV
  rw [HT.sIx_none, HT.sIx_nat]
  simp only [Int.toNat_natCast]
  by_cases h : m ≤ xs.length
  · rw [Nat.min_eq_left h, List.take_of_length_le (by rw [List.length_drop]; exact Nat.le_refl _)]
  · rw [Nat.min_eq_right (by omega), List.drop_of_length_le (Nat.le_refl _), List.drop_of_length_le (by omega)]
    simp
theorem SqL.upd {K : PySem.W.Frag} {H : Hp} {a : Addr} {xs : List V} : SqL K (upd H a (.lst xs)) a xs := SqL.of upd_same
theorem getD_of {α : Type} {xs : List α} {i : Nat} {d v : α} (h : xs[i]? = some v) : xs.getD i d = v := by rw [List.getD_eq_getElem?_getD, h]; rfl
end AW
/-! zip of three tuples of one length; zip of two tuples as a walk; dicts made by comprehensions -/
namespace AW
open PySem PySem.Spec PyProof.Rows L2 RZ

/-- three tuples beside one another, of one length -/
def Itz3 (K : PySem.W.Frag) (a b c : Addr) : It where
  go i H := ∃ xs ys zs : List V, SqT K H a xs ∧ SqT K H b ys ∧ SqT K H c zs ∧ i < xs.length ∧ i < ys.length ∧ i < zs.length
  yld i H v H' := ∃ (T : Addr) (x y u : V), v = .ref T ∧ H T = none ∧ H' = upd H T (.tup [x, y, u]) ∧ (∀ xs, SqT K H a xs → xs[i]? = some x) ∧ (∀ ys, SqT K H b ys → ys[i]? = some y) ∧ ∀ zs, SqT K H c zs → zs[i]? = some u
  stop i H := ∃ xs ys zs : List V, SqT K H a xs ∧ SqT K H b ys ∧ SqT K H c zs ∧ i = xs.length ∧ i = ys.length ∧ i = zs.length

theorem six {z TI TO i1 i2 i3 d : Addr} (h : d ∈ [z, TI, TO, i1, i2, i3]) : d = z ∨ d = TI ∨ d = TO ∨ d = i1 ∨ d = i2 ∨ d = i3 := by simpa using h
theorem turn_zip3 {P : Program} {w : World} {K : PySem.W.Frag} {elts : List Expr} {kk : Nat} {tpos : Pos} {a b c z TI TO i1 i2 i3 : Addr} (D : ZipSep3 z TI TO i1 i2 i3 [i1, a] [i2, b] [i3, c]) :
    Turn P w K (.Tuple elts kk tpos) (Itz3 K a b c) [z, TI, TO, i1, i2, i3] z (fun i h => IsZip h z TI TO .none ∧ IsTupOf3 h TI (.ref i1) (.ref i2) (.ref i3) ∧ (∃ x y u, IsTupOf3 h TO x y u) ∧ h.IsTupleIter i1 a i ∧ h.IsTupleIter i2 b i ∧ h.IsTupleIter i3 c i) := by
  have na : a ≠ i1 ∧ b ≠ i2 ∧ c ≠ i3 ∨ True := .inr trivial
  refine ⟨by simp, ?obj, ?keep, ?item, ?done, ?self⟩
  case obj =>
    rintro i h ⟨s1, s2, ⟨x, y, u, s3⟩, ⟨p1, q1, _, r1⟩, ⟨p2, q2, _, r2⟩, ⟨p3, q3, _, r3⟩⟩ d hd
    rcases six hd with rfl | rfl | rfl | rfl | rfl | rfl
    · exact ⟨_, s1, fun v e => nomatch e⟩
    · exact ⟨_, s2, fun v e => nomatch e⟩
    · exact ⟨_, s3, fun v e => nomatch e⟩
    · exact ⟨p1, q1, fun v e => by rw [r1] at e; cases e⟩
    · exact ⟨p2, q2, fun v e => by rw [r2] at e; cases e⟩
    · exact ⟨p3, q3, fun v e => by rw [r3] at e; cases e⟩
  case keep =>
    rintro i h h' ⟨s1, s2, ⟨x, y, u, s3⟩, t1, t2, t3⟩ k
    exact ⟨k _ (by simp) _ s1, k _ (by simp) _ s2, ⟨x, y, u, k _ (by simp) _ s3⟩, t1.at fun o e => k _ (by simp) o e, t2.at fun o e => k _ (by simp) o e, t3.at fun o e => k _ (by simp) o e⟩
  case self =>
    exact fun A i s Q E st h => wpAny_pyIter_zip st.1 h
  case item =>
    intro X hP hw hK hc i pins s σ H E I hf st hg
    subst hP hw hK
    obtain ⟨s1, s2, ⟨x0, y0, u0, s3⟩, t1, t2, t3⟩ := st
    obtain ⟨xs, ys, zs, qa, qb, qc, la, lb, lc⟩ := hg
    obtain ⟨ia, ra, pa, _⟩ := I.tuple qa
    obtain ⟨ib, rb, pb, _⟩ := I.tuple qb
    obtain ⟨ic, rc, pc, _⟩ := I.tuple qc
    have ea : ∀ {p : Addr} {its : Array Value}, IsTup s.heap p its → p ∉ [z, TI, TO, i1, i2, i3] → p ≠ z := fun _ n e => n (by simp [e])
    have d1 : a ≠ i1 := by
      intro e
      obtain ⟨o, ho, hcl, _⟩ := pa
      obtain ⟨o2, ho2, hcl2, _⟩ := t1
      rw [e, ho2] at ho
      cases ho
      rw [hcl2] at hcl
      exact absurd (Value.type.inj hcl) (by decide)
    have d2 : b ≠ i2 := by
      intro e
      obtain ⟨o, ho, hcl, _⟩ := pb
      obtain ⟨o2, ho2, hcl2, _⟩ := t2
      rw [e, ho2] at ho
      cases ho
      rw [hcl2] at hcl
      exact absurd (Value.type.inj hcl) (by decide)
    have d3 : c ≠ i3 := by
      intro e
      obtain ⟨o, ho, hcl, _⟩ := pc
      obtain ⟨o2, ho2, hcl2, _⟩ := t3
      rw [e, ho2] at ho
      cases ho
      rw [hcl2] at hcl
      exact absurd (Value.type.inj hcl) (by decide)
    have hh : X.A.in1.handled = none := I.ok.hd hc
    have zl : z < s.heap.objs.size := Heap.lt_size s1
    refine wpAny_pyNext_zipD3_item (i := i) D (Draws.tuple hh i1 a d1 ia.toArray) (Draws.tuple hh i2 b d2 ib.toArray) (Draws.tuple hh i3 c d3 ic.toArray) s1 s2 s3 ⟨t1, pa⟩ ⟨t2, pb⟩ ⟨t3, pc⟩
      (by rw [List.size_toArray, ← ra.length]; exact la) (by rw [List.size_toArray, ← rb.length]; exact lb) (by rw [List.size_toArray, ← rc.length]; exact lc) fun x1 x2 x3 h' tk g1 g2 g3 z' TO' v1 v2 v3 hT hsz hk => ?_
    obtain ⟨y1, hy1⟩ := get_some (xs := xs) la
    obtain ⟨y2, hy2⟩ := get_some (xs := ys) lb
    obtain ⟨y3, hy3⟩ := get_some (xs := zs) lc
    have rel : ∀ {l : List V} {us : List Value} {y : V} {x : Value}, Vals l us → l[i]? = some y → us.toArray[i]? = some x → RelV y x := fun r e e2 => by
      obtain ⟨u, eu, ru⟩ := r.get e
      have e3 : some u = some _ := eu.symm.trans (by simpa using e2)
      cases e3
      exact ru
    refine ⟨_, rfl, wpAny_letOwnedTupleGo_zip (s := { s with heap := h', toks := tk }) z' fun h'' z'' sb => ?_⟩
    have hT2 : h''.get? s.heap.objs.size = some { cls := .type "tuple", data := .seq #[x1, x2, x3] } := (sb.2 _ (Nat.ne_of_gt zl)).trans hT
    have new : ObjOk X.prog X.w (upd H s.heap.objs.size (.tup [y1, y2, y3])) h'' s.heap.objs.size (.tup [y1, y2, y3]) :=
      ⟨by show 3 ≤ sizeLine; decide, [x1, x2, x3], .cons (rel ra hy1 g1) (.cons (rel rb hy2 g2) (.cons (rel rc hy3 g3) .nil)), ⟨_, hT2, rfl, _, rfl⟩⟩
    have I1 : Inv X pins σ (upd H s.heap.objs.size (.tup [y1, y2, y3])) { s with heap := h'', toks := tk } :=
      I.turnedNew (ch := [z, TI, TO, i1, i2, i3]) (fun d o hd q => (sb.2 d (fun e => hd (by simp [e]))).trans (hk d o (fun e => hd (by simp [e])) (fun e => hd (by simp [e])) (fun e => hd (by simp [e])) (fun e => hd (by simp [e])) (fun e => hd (by simp [e])) q)) hf (Nat.le_refl _) new
    refine ⟨.ref s.heap.objs.size, _, I1, rfl, ⟨_, y1, y2, y3, rfl, I.hok.fresh (Nat.le_refl _), rfl, fun l hl => by rw [I.tuple_inj hl qa]; exact hy1, fun l hl => by rw [I.tuple_inj hl qb]; exact hy2, fun l hl => by rw [I.tuple_inj hl qc]; exact hy3⟩,
      ⟨z'', ?_, ⟨x1, x2, x3, ?_⟩, ?_, ?_, ?_⟩, fun d hd => ?_⟩
    · exact (sb.2 _ D.TIz).trans (hk _ _ D.TIz D.TITO D.TIi1 D.TIi2 D.TIi3 s2)
    · exact (sb.2 _ D.TOz).trans TO'
    · exact v1.1.at fun o e => (sb.2 _ (fun q => D.zi1 q.symm)).trans e
    · exact v2.1.at fun o e => (sb.2 _ (fun q => D.zi2 q.symm)).trans e
    · exact v3.1.at fun o e => (sb.2 _ (fun q => D.zi3 q.symm)).trans e
    · have hlt : d < s.heap.objs.size := by
        rcases six hd with rfl | rfl | rfl | rfl | rfl | rfl
        · exact zl
        · exact Heap.lt_size s2
        · exact Heap.lt_size s3
        · obtain ⟨_, e, _⟩ := t1; exact Heap.lt_size e
        · obtain ⟨_, e, _⟩ := t2; exact Heap.lt_size e
        · obtain ⟨_, e, _⟩ := t3; exact Heap.lt_size e
      rw [upd_ne (Nat.ne_of_lt hlt)]
      exact (hf d hd).1
  case done =>
    intro X hP hw hK hc i pins s σ H E I hf st hg
    subst hP hw hK
    obtain ⟨s1, s2, ⟨x0, y0, u0, s3⟩, t1, t2, t3⟩ := st
    obtain ⟨xs, ys, zs, qa, qb, qc, la, lb, lc⟩ := hg
    obtain ⟨ia, ra, pa, _⟩ := I.tuple qa
    obtain ⟨ib, rb, pb, _⟩ := I.tuple qb
    obtain ⟨ic, rc, pc, _⟩ := I.tuple qc
    have dd : ∀ {p q : Addr} {its : Array Value} {j : Nat}, IsTup s.heap p its → s.heap.IsTupleIter q p j → p ≠ q := fun {p q its j} hp hq e => by
      obtain ⟨o, ho, hcl, _⟩ := hp
      obtain ⟨o2, ho2, hcl2, _⟩ := hq
      rw [e, ho2] at ho
      cases ho
      rw [hcl2] at hcl
      exact absurd (Value.type.inj hcl) (by decide)
    have hh : X.A.in1.handled = none := I.ok.hd hc
    have sa : i = ia.toArray.size := by rw [List.size_toArray, ← ra.length]; exact la
    have sb : i = ib.toArray.size := by rw [List.size_toArray, ← rb.length]; exact lb
    have sc : i = ic.toArray.size := by rw [List.size_toArray, ← rc.length]; exact lc
    exact wpAny_pyNext_zipD3_end (i := i) D (Draws.tuple hh i1 a (dd pa t1) ia.toArray) (Draws.tuple hh i2 b (dd pb t2) ib.toArray) (Draws.tuple hh i3 c (dd pc t3) ic.toArray) s1 s2 s3 ⟨t1, pa⟩ ⟨t2, pb⟩ ⟨t3, pc⟩
      (Nat.le_of_eq sa) (Nat.le_of_eq sb) (Nat.le_of_eq sc) (.inl sa) fun h' tk hk => ⟨rfl, I.turnedL (ch := [z, TI, TO, i1, i2, i3]) (fun d o hd q => hk d o (fun e => hd (by simp [e])) (fun e => hd (by simp [e])) (fun e => hd (by simp [e])) (fun e => hd (by simp [e])) (fun e => hd (by simp [e])) q) hf⟩
/-- what stands within zip(a, b, c) -/
def iZip3 (K : PySem.W.Frag) (ta : TA) : TI := fun σ H R => ta σ H fun vs H1 => ∃ (a b c : Addr) (xs ys zs : List V), vs = [.ref a, .ref b, .ref c] ∧ SqT K H1 a xs ∧ SqT K H1 b ys ∧ SqT K H1 c zs ∧ R (Itz3 K a b c) H1
theorem no2 {x y z : Nat} (h1 : x ≠ y) (h2 : x ≠ z) : x ∉ [y, z] := fun h => by
  rcases List.mem_cons.mp h with e | e
  · exact h1 e
  · exact h2 (List.mem_singleton.mp e)
theorem sep_new (n a b c : Nat) (la : a < n) (lb : b < n) (lc : c < n) : ZipSep3 (n + 5) (n + 3) (n + 4) n (n + 1) (n + 2) [n, a] [n + 1, b] [n + 2, c] :=
  ⟨(show (n + 3 : Nat) ≠ n + 5 by omega),
    (show (n + 4 : Nat) ≠ n + 5 by omega),
    (show (n + 3 : Nat) ≠ n + 4 by omega),
    (show (n + 3 : Nat) ≠ n by omega),
    (List.mem_cons_self ..),
    (no2 (show (n + 5 : Nat) ≠ n by omega) (show (n + 5 : Nat) ≠ a by omega)),
    (no2 (show (n + 4 : Nat) ≠ n by omega) (show (n + 4 : Nat) ≠ a by omega)),
    (show (n + 3 : Nat) ≠ n + 1 by omega),
    (List.mem_cons_self ..),
    (no2 (show (n + 5 : Nat) ≠ n + 1 by omega) (show (n + 5 : Nat) ≠ b by omega)),
    (no2 (show (n + 4 : Nat) ≠ n + 1 by omega) (show (n + 4 : Nat) ≠ b by omega)),
    (show (n + 3 : Nat) ≠ n + 2 by omega),
    (List.mem_cons_self ..),
    (no2 (show (n + 5 : Nat) ≠ n + 2 by omega) (show (n + 5 : Nat) ≠ c by omega)),
    (no2 (show (n + 4 : Nat) ≠ n + 2 by omega) (show (n + 4 : Nat) ≠ c by omega)),
    (no2 (show (n : Nat) ≠ n + 1 by omega) (show (n : Nat) ≠ b by omega)),
    (no2 (show (n : Nat) ≠ n + 2 by omega) (show (n : Nat) ≠ c by omega)),
    (no2 (show (n + 1 : Nat) ≠ n by omega) (show (n + 1 : Nat) ≠ a by omega)),
    (no2 (show (n + 1 : Nat) ≠ n + 2 by omega) (show (n + 1 : Nat) ≠ c by omega)),
    (no2 (show (n + 2 : Nat) ≠ n by omega) (show (n + 2 : Nat) ≠ a by omega)),
    (no2 (show (n + 2 : Nat) ≠ n + 1 by omega) (show (n + 2 : Nat) ≠ b by omega))⟩
theorem pi_zip3 {X : Cx} {e e2 e3 : Expr} {ta : TA} {p pos tpos : Pos} {elts : List Expr} {kk : Nat} (hg : Gl X "zip") (hm : X.mg "zip" = none) (ha : PA X [e, e2, e3] ta)
    (hs : starEach [e, e2, e3] X.env = (false, eval e X.env) :: starEach [e2, e3] X.env := by rfl) (hpl : (backTo pos (starEach [e2, e3] X.env)).any (·.1) = false := by rfl) :
    PI X (.Tuple elts kk tpos) (.Call (.Name "zip" p) [e, e2, e3] [] pos) (iZip3 X.K ta) := by
  refine ⟨fun pins s σ H R I h => ?_⟩
  refine Call_ (ld_blt I hg hm PyProof.Rows.boot_zip (PyProof.Rows.callWith_type1 (thn (ha.run pos pins s σ H _ I h) fun us s1 ⟨vs, H1, I1, r1, q1⟩ => ?_) hs hpl))
  obtain ⟨a, b, c, xs, ys, zs, rfl, qa, qb, qc, q⟩ := q1
  obtain ⟨ua, us', rfl, r1', rr⟩ : ∃ ua us', us = ua :: us' ∧ RelV (.ref a) ua ∧ Vals [.ref b, .ref c] us' := by
    cases r1 with
    | cons r rr => exact ⟨_, _, rfl, r, rr⟩
  obtain ⟨ub, uc, rfl, r2', r3'⟩ := vals2 rr
  cases r1'
  cases r2'
  cases r3'
  obtain ⟨ia, ra, pa, _⟩ := I1.tuple qa
  obtain ⟨ib, rb, pb, _⟩ := I1.tuple qb
  obtain ⟨ic, rc, pc, _⟩ := I1.tuple qc
  have la : a < s1.heap.objs.size := by obtain ⟨_, e, _⟩ := pa; exact Heap.lt_size e
  have lb : b < s1.heap.objs.size := by obtain ⟨_, e, _⟩ := pb; exact Heap.lt_size e
  have lc : c < s1.heap.objs.size := by obtain ⟨_, e, _⟩ := pc; exact Heap.lt_size e
  refine zip_begins3 (begins_tuple a ia.toArray) (begins_tuple b ib.toArray) (begins_tuple c ic.toArray) pa pb pc fun h' hz hTI hTO g1 g2 g3 _ hk => wpAny_pyIter_zip hz ?_
  have I2 : Inv X pins σ H1 { s1 with heap := h' } := I1.kept (t' := s1.toks) hk
  have sep := sep_new s1.heap.objs.size a b c la lb lc
  refine ⟨s1.heap.objs.size + 5, [s1.heap.objs.size + 5, s1.heap.objs.size + 3, s1.heap.objs.size + 4, s1.heap.objs.size, s1.heap.objs.size + 1, s1.heap.objs.size + 2], _, _, H1, rfl, I2, turn_zip3 sep, ⟨hz, hTI, ⟨_, _, _, hTO⟩, ⟨_, g1, rfl, rfl⟩, ⟨_, g2, rfl, rfl⟩, ⟨_, g3, rfl, rfl⟩⟩, fun d hd => ?_, q⟩
  have hle : s1.heap.objs.size ≤ d := by
    rcases six hd with e | e | e | e | e | e <;> rw [e] <;> first | exact Nat.le_add_right _ _ | exact Nat.le_refl _
  exact I1.fpOk hle (I1.hok.fresh hle)
/-- a new triple of the i-th ones -/
def YTri (xs ys zs : List V) : Nat → Hp → V → Hp → Prop := fun i H v H' => ∃ T x y u, v = .ref T ∧ H T = none ∧ H' = upd H T (.tup [x, y, u]) ∧ xs[i]? = some x ∧ ys[i]? = some y ∧ zs[i]? = some u
section
variable {K : PySem.W.Frag} {a b c : Addr} {xs ys zs : List V}
theorem walk_zip3 (h1 : ys.length = xs.length) (h2 : zs.length = xs.length) : Walk (Itz3 K a b c) xs.length (fun H => H a = some (.tup xs) ∧ H b = some (.tup ys) ∧ H c = some (.tup zs)) (YTri xs ys zs) :=
  ⟨fun i H hi q => ⟨xs, ys, zs, SqT.of q.1, SqT.of q.2.1, SqT.of q.2.2, hi, by omega, by omega⟩, fun H q => ⟨xs, ys, zs, SqT.of q.1, SqT.of q.2.1, SqT.of q.2.2, rfl, h1.symm, h2.symm⟩,
    fun i H v H' _ q ⟨T, x, y, u, e1, e2, e3, e4, e5, e6⟩ => ⟨T, x, y, u, e1, e2, e3, e4 _ (SqT.of q.1), e5 _ (SqT.of q.2.1), e6 _ (SqT.of q.2.2)⟩⟩
theorem walk_zipT (h1 : ys.length = xs.length) : Walk (ItzT K a b) xs.length (fun H => H a = some (.tup xs) ∧ H b = some (.tup ys)) (YPair (fun i => xs[i]?) (fun i => ys[i]?)) :=
  ⟨fun i H hi q => ⟨xs, ys, xs[i], ys[i], SqT.of q.1, SqT.of q.2, List.getElem?_eq_getElem hi, List.getElem?_eq_getElem (by omega)⟩, fun H q => ⟨xs, ys, SqT.of q.1, SqT.of q.2, .inl (Nat.le_refl _)⟩,
    fun i H v H' _ q ⟨T, x, y, e1, e2, e3, e4, e5⟩ => ⟨T, x, y, e1, e2, e3, e4 _ (SqT.of q.1), e5 _ (SqT.of q.2)⟩⟩
end

/-! ### comprehensions that leave the state alone: a pure one; a dict -/
section
variable {J : It} {n : Nat} {G : Hp → Prop} {Y : Nat → Hp → V → Hp → Prop} {g : TG} {tt : TT} {te tk tv : TE} {vs : List Nat} {σ : L2.St} {Q : VK} {H1 : Hp} {K : PySem.W.Frag} {ta : TA}
/-- a comprehension with a test, nothing changed but new objects; B tells the test's word at each turn, v the item's value -/
theorem kLc_pure (wk : Walk J n G Y) (hn : n ≤ 100000) (hG : ∀ H', Adv [] H1 H' → G H') (B : Nat → Bool) (v : Nat → V)
    (step : ∀ i x H H' (Kt : V → Hp → Prop) (Kf : Hp → Prop), i < n → Adv [] H1 H → Y i H x H' → (B i = true → ∀ H4, Adv [] H H4 → Kt (v i) H4) → (B i = false → ∀ H3, Adv [] H H3 → Kf H3) →
      g x (wipe σ vs) H' fun σ2 H2 => wipe σ2 vs = wipe σ vs ∧ tt σ2 H2 fun b H3 => if b = true then te σ2 H3 Kt else Kf H3)
    (k : ∀ p H', H1 p = none → Adv [] H1 H' → H' p = some (.lst (((List.range n).filter B).map v)) → Q (.ref p) H') : kLc J g tt te vs σ Q H1 := by
  intro D hD
  refine lc_it wk (fun i H => i ≤ n ∧ Adv [] H1 H ∧ H D = some (.lst (((List.range i).filter B).map v))) ⟨Nat.zero_le _, Adv.new hD, upd_same⟩ (fun i H _ p => hG H p.2.1) (fun i x H H' hi p y => ?_) fun H p => k D H hD p.2.1 p.2.2
  obtain ⟨_, g1, e1⟩ := p
  have hlen : (((List.range i).filter B).map v).length ≤ 100000 := by
    rw [List.length_map]
    refine Nat.le_trans (List.length_filter_le ..) ?_
    rw [List.length_range]
    omega
  refine step i x H H' _ _ hi g1 y (fun hb H4 g4 => ?_) fun hb H3 g3 => ?_
  · have e4 := g4.keep _ _ (fun z => nomatch z) e1
    refine ⟨_, e4, Nat.lt_of_lt_of_le (Nat.lt_succ_of_le hlen) (by decide), hi, (g1.trans g4).mut hD e4 (fun _ z => by cases z), ?_⟩
    rw [upd_same, List.range_succ, List.filter_append, List.map_append]
    simp [hb]
  · refine ⟨hi, g1.trans g3, ?_⟩
    rw [g3.keep _ _ (fun z => nomatch z) e1, List.range_succ, List.filter_append, List.map_append]
    simp [hb]
theorem kLcR_pure {n : Nat} (hn : n ≤ 100000) (B : Nat → Bool) (v : Nat → V)
    (step : ∀ i H (Kt : V → Hp → Prop) (Kf : Hp → Prop), i < n → Adv [] H1 H → (B i = true → ∀ H4, Adv [] H H4 → Kt (v i) H4) → (B i = false → ∀ H3, Adv [] H H3 → Kf H3) →
      g (.int (i : Nat)) (wipe σ vs) H fun σ2 H2 => wipe σ2 vs = wipe σ vs ∧ tt σ2 H2 fun b H3 => if b = true then te σ2 H3 Kt else Kf H3)
    (k : ∀ p H', H1 p = none → Adv [] H1 H' → H' p = some (.lst (((List.range n).filter B).map v)) → Q (.ref p) H') : kLcR g tt te vs σ Q [.int (n : Nat)] H1 := by
  refine ⟨(n : Nat), rfl, by omega, by omega, ?_⟩
  rw [show ((n : Nat) : Int).toNat = n by omega]
  refine kLc_pure walk_range hn (fun _ _ => trivial) B v (fun i x H H' Kt Kf hi g1 y kt kf => ?_) k
  obtain ⟨rfl, rfl⟩ := y
  show g (.int ((0 : Int) + (i : Nat))) _ _ _
  rw [Int.zero_add]
  exact step i H' Kt Kf hi g1 kt kf
/-- over three tuples of one length -/
def kLc3 (K : PySem.W.Frag) (g : TG) (tt : TT) (te : TE) (vs : List Nat) (σ : L2.St) (Q : VK) (ws : List V) (H1 : Hp) : Prop := ∃ (a b c : Addr) (xs ys zs : List V), ws = [.ref a, .ref b, .ref c] ∧ SqT K H1 a xs ∧ SqT K H1 b ys ∧ SqT K H1 c zs ∧ kLc (Itz3 K a b c) g tt te vs σ Q H1
theorem w_lc3 (h : ta σ H1 (kLc3 K g tt te vs σ Q)) : tLc (iZip3 K ta) g tt te vs σ H1 Q := h
/-- a dict is made, turn by turn -/
def kDc (J : It) (g : TG) (tt : TT) (tk tv : TE) (vs : List Nat) (σ : L2.St) (Q : VK) (H1 : Hp) : Prop := ∀ D, H1 D = none → ∃ W : Nat → Nat → Hp → Prop, (∃ m, W 0 m (upd H1 D (.dK []))) ∧ ∀ i m H, W i m H →
  (J.stop i H ∧ Q (.ref D) H) ∨ (J.go i H ∧ ∃ Nx : Hp → Prop, (∀ H', Nx H' → ∃ m', m' < m ∧ W (i + 1) m' H') ∧ ∀ x H', J.yld i H x H' → g x (wipe σ vs) H' fun σ2 H2 => wipe σ2 vs = wipe σ vs ∧ tt σ2 H2 fun b H3 =>
    if b = true then tk σ2 H3 fun y H4 => tv σ2 H4 fun z H5 => ∃ kvs k, y = kV k ∧ H5 D = some (.dK kvs) ∧ kvs.length < sizeLine ∧ Nx (upd H5 D (.dK (putK kvs k z))) else Nx H3)
/-- all turns give: the dict holds the last of each key -/
def dictOf (key : Nat → Key) (val : Nat → V) : Nat → List (Key × V)
  | 0 => []
  | i + 1 => putK (dictOf key val i) (key i) (val i)
theorem dictOf_len (key : Nat → Key) (val : Nat → V) : ∀ n, (dictOf key val n).length ≤ n
  | 0 => Nat.le_refl _
  | i + 1 => Nat.le_trans (length_putK ..) (Nat.succ_le_succ (dictOf_len key val i))
theorem dictOf_val {key : Nat → Key} {val : Nat → V} : ∀ {n j : Nat}, (∀ a b, a < n → b < n → key a = key b → a = b) → j < n → valV (dictOf key val n) (key j) = some (val j)
  | i + 1, j, hk, hj => by
    show valV (putK (dictOf key val i) (key i) (val i)) (key j) = _
    rw [valV_put]
    by_cases e : key j = key i
    · have ej := hk j i hj (Nat.lt_succ_self i) e
      subst ej
      rw [if_pos rfl]
    · rw [if_neg e]
      refine dictOf_val (fun a b ha hb => hk a b (Nat.lt_succ_of_lt ha) (Nat.lt_succ_of_lt hb)) ?_
      have : j ≠ i := fun z => e (by rw [z])
      omega
theorem kDc_pure (wk : Walk J n G Y) (hn : n ≤ 100000) (hG : ∀ H', Adv [] H1 H' → G H') (key : Nat → Key) (val : Nat → V)
    (step : ∀ i x H H' (Kt : V → V → Hp → Prop), i < n → Adv [] H1 H → Y i H x H' → (∀ H4, Adv [] H H4 → Kt (kV (key i)) (val i) H4) → g x (wipe σ vs) H' fun σ2 H2 => wipe σ2 vs = wipe σ vs ∧ tk σ2 H2 fun y H4 => tv σ2 H4 (Kt y))
    (k : ∀ p H', H1 p = none → Adv [] H1 H' → H' p = some (.dK (dictOf key val n)) → Q (.ref p) H') : kDc J g tYes tk tv vs σ Q H1 := by
  intro D hD
  refine ⟨fun i m H => m = n - i ∧ i ≤ n ∧ Adv [] H1 H ∧ H D = some (.dK (dictOf key val i)), ⟨n, by simp, Nat.zero_le _, Adv.new hD, upd_same⟩, ?_⟩
  rintro i m H ⟨rfl, hi, g1, e1⟩
  have q := hG H g1
  by_cases hlt : i < n
  · refine .inr ⟨wk.goes i H hlt q, fun H' => i + 1 ≤ n ∧ Adv [] H1 H' ∧ H' D = some (.dK (dictOf key val (i + 1))), fun H' p' => ⟨n - (i + 1), by omega, rfl, p'⟩, fun x H' y => ?_⟩
    refine step i x H H' (fun y z H5 => ∃ kvs k, y = kV k ∧ H5 D = some (.dK kvs) ∧ kvs.length < sizeLine ∧ (fun H' => i + 1 ≤ n ∧ Adv [] H1 H' ∧ H' D = some (.dK (dictOf key val (i + 1)))) (upd H5 D (.dK (putK kvs k z)))) hlt g1 (wk.yields i H x H' hlt q y) fun H4 g4 => ?_
    have e4 := g4.keep _ _ (fun z => nomatch z) e1
    exact ⟨_, key i, rfl, e4, Nat.lt_of_le_of_lt (dictOf_len key val i) (Nat.lt_of_lt_of_le (show i < 100001 by omega) (by decide)), hlt, (g1.trans g4).mut hD e4 (fun _ z => by cases z), upd_same⟩
  · have e : i = n := by omega
    subst e
    exact .inl ⟨wk.stops H q, k D H hD g1 e1⟩
/-- a dict over zip(a, b) of tuples; over a tuple -/
def kDcZ (K : PySem.W.Frag) (g : TG) (tt : TT) (tk tv : TE) (vs : List Nat) (σ : L2.St) (Q : VK) (ws : List V) (H1 : Hp) : Prop := ∃ a b xs ys, ws = [.ref a, .ref b] ∧ ((SqL K H1 a xs ∧ SqL K H1 b ys ∧ kDc (Itz K a b) g tt tk tv vs σ Q H1) ∨ (SqT K H1 a xs ∧ SqT K H1 b ys ∧ kDc (ItzT K a b) g tt tk tv vs σ Q H1))
theorem w_dcZ (h : ta σ H1 (kDcZ K g tt tk tv vs σ Q)) : tDc (iZipA K ta) g tt tk tv vs σ H1 Q := h
def kDcT (K : PySem.W.Frag) (g : TG) (tt : TT) (tk tv : TE) (vs : List Nat) (σ : L2.St) (Q : VK) (x : V) (H1 : Hp) : Prop := ∃ a, x = .ref a ∧ (∃ xs, SqT K H1 a xs) ∧ kDc (Itt K a) g tt tk tv vs σ Q H1
theorem w_dcT {tl : TE} (h : tl σ H1 (kDcT K g tt tk tv vs σ Q)) : tDc (iTup K tl) g tt tk tv vs σ H1 Q := h
theorem w_dnew {σ : L2.St} {H : Hp} (q : ∀ r H', H r = none → Adv [] H H' → H' r = some (.dK []) → Q (.ref r) H') : tDNewK σ H Q := w_new q
/-! pairs and triples taken apart -/
theorem w_gtup {n : Nat} {t : TGs} {a : Addr} {xs : List V} {σ : L2.St} {H : Hp} {Q : L2.St → Hp → Prop} (h : SqT K H a xs) (hl : xs.length = n) (q : t xs σ H Q) : gTup K n t (.ref a) σ H Q := ⟨a, xs, rfl, h, hl, q⟩
theorem w_gcons {t : TG} {u : TGs} {v : V} {r : List V} {σ : L2.St} {H : Hp} {Q : L2.St → Hp → Prop} (q : t v σ H fun σ' H' => u r σ' H' Q) : gCons t u (v :: r) σ H Q := ⟨v, r, rfl, q⟩
theorem w_gnil {σ : L2.St} {H : Hp} {Q : L2.St → Hp → Prop} (q : Q σ H) : gNil [] σ H Q := ⟨rfl, q⟩
end
end AW
/-! dicts asked, tuple(..), slices of tuples; what the law speaks of: sayings, worlds, models -/
namespace AW
open PySem PySem.Spec PyProof.Rows L2 RZ
section
variable {σ : L2.St} {H : Hp} {Q : VK} {ta tb te td ty : TE} {K : PySem.W.Frag}
/-- keywords alone, in the parameters' order -/
def gK {α : Type} : List α → List α → List α
  | [], zs => zs
  | _ :: _, _ => []
theorem w_callK {sp : Sp} {E : XK} {tk : TA} (h : tk σ H fun zs H2 => sp zs H2 Q E) : tCallK sp gK E tNil tk σ H Q := h
def kDGet (x y : V) (H : Hp) (Q : VK) : Prop := ∃ a v, x = .ref a ∧ DGet H a y (some v) ∧ Q v H
theorem w_dg (h : td σ H fun x H1 => ty σ H1 fun y H2 => kDGet x y H2 Q) : tDGet td ty σ H Q := h
theorem kDGet_i {d : Addr} {kvs : List (Key × V)} {k : Key} {v : V} (h : H d = some (.dK kvs)) (e : valV kvs k = some v) (q : Q v H) : kDGet (.ref d) (kV k) H Q := ⟨d, v, rfl, e ▸ DGet.k h, q⟩
def kDPut (x y v : V) (H : Hp) (N : Hp → Prop) : Prop := ∃ a H4, x = .ref a ∧ DPut H a y v H4 ∧ N H4
theorem w_dput {D : Ends} {tv : TE} (h : tv σ H fun v H1 => td σ H1 fun x H2 => ty σ H2 fun y H3 => kDPut x y v H3 (D.nx σ)) : sDPut td ty tv D σ H := h
theorem kDPut_i {d : Addr} {kvs : List (Key × V)} {k : Key} {v : V} {N : Hp → Prop} (h : H d = some (.dK kvs)) (hl : kvs.length < 100000) (q : N (upd H d (.dK (putK kvs k v)))) : kDPut (.ref d) (kV k) v H N :=
  ⟨d, _, rfl, DPut.k h (Nat.lt_of_lt_of_le hl (by decide)), q⟩
theorem w_nT {A B : Prop} (h : A) : if (!true) = true then B else A := h
theorem w_nF {A B : Prop} (h : B) : if (!false) = true then B else A := h
/-- tuple(x) -/
theorem w_tup1 (h : ta σ H fun x H1 => kTup K x H1 Q) : tThen ta (kTup K) σ H Q := h
theorem w_tupL {p : Addr} {xs : List V} (h : SqL K H p xs) (q : ∀ r H', H r = none → Adv [] H H' → H' r = some (.tup xs) → Q (.ref r) H') : kTup K (.ref p) H Q := .inl ⟨p, xs, rfl, h, w_new q⟩
/-- a part of a tuple that is not the whole -/
theorem w_slT {p : Addr} {xs : List V} {lo hi : Option Int} (h : H p = some (.tup xs)) (hn : ¬ (HT.sIx xs.length 0 lo = 0 ∧ HT.sIx xs.length xs.length hi = xs.length)) (q : ∀ r H', H r = none → Adv [] H H' → H' r = some (.tup (cutV xs lo hi)) → Q (.ref r) H') : rSlA K (.ref p) lo hi H Q :=
  ⟨p, xs, rfl, SqT.of h, fun z => absurd z hn, fun _ => w_new q⟩
/-- tuples joined, none of them empty -/
theorem w_catT {a b : Addr} {xs ys : List V} (h1 : H a = some (.tup xs)) (h2 : H b = some (.tup ys)) (hz : xs.length + ys.length ≤ 100000) (q0 : xs = [] → Q (.ref b) H) (q1 : xs ≠ [] → ys = [] → Q (.ref a) H)
    (q : ∀ r H', H r = none → Adv [] H H' → H' r = some (.tup (xs ++ ys)) → Q (.ref r) H') : rCatA K (.ref a) (.ref b) H Q :=
  ⟨a, b, xs, ys, rfl, rfl, SqT.of h1, SqT.of h2, Nat.le_trans hz (by decide), q0, q1, fun _ _ => w_new q⟩
/-- joined, whatever they are: a tuple that holds both -/
theorem w_catT' {a b : Addr} {xs ys : List V} (h1 : H a = some (.tup xs)) (h2 : H b = some (.tup ys)) (hz : xs.length + ys.length ≤ 100000) (q : ∀ r H', Adv [] H H' → H' r = some (.tup (xs ++ ys)) → Q (.ref r) H') : rCatA K (.ref a) (.ref b) H Q :=
  w_catT h1 h2 hz (fun e => q _ _ (.refl _ _) (by rw [e]; exact h2)) (fun _ e => q _ _ (.refl _ _) (by rw [e, List.append_nil]; exact h1)) fun r H' _ a e => q r H' a e
end
/-- the dict at d tells the value of each of these names -/
def WD (H : Hp) (d : Addr) (names : List Str) (w : Str → Int) : Prop := ∃ kvs, H d = some (.dK kvs) ∧ ∀ x ∈ names, valV kvs (Sum.inr x) = some (.int (w x))
theorem WD.up {H H' : Hp} {d : Addr} {names : List Str} {w : Str → Int} (h : WD H d names w) (e : Adv [] H H') : WD H' d names w := by
  obtain ⟨kvs, h1, h2⟩ := h
  exact ⟨kvs, e.keep _ _ (fun z => nomatch z) h1, h2⟩
theorem WD.go {st : Addr} {cs : Addr × Addr} {H H' : Hp} {d : Addr} {names : List Str} {w : Str → Int} (h : WD H d names w) (hs : StOk st cs H) (e : Go st cs H H') : WD H' d names w := by
  obtain ⟨kvs, h1, h2⟩ := h
  exact ⟨kvs, e.keep (hs.notD h1 fun _ z => by cases z) h1, h2⟩
theorem WD.get {H : Hp} {Q : VK} {d : Addr} {names : List Str} {w : Str → Int} {x : Str} (h : WD H d names w) (hx : x ∈ names) (q : Q (.int (w x)) H) : kDGet (.ref d) (.str x) H Q := by
  obtain ⟨kvs, h1, h2⟩ := h
  exact kDGet_i (k := Sum.inr x) h1 (h2 x hx) q

/-! ### sayings -/
def okS (x : Str) : Prop := x.cps.all (· < 0x110000) = true
abbrev nix : Str := Str.ofString ""
abbrev Wd := Str → Int
def atW (b : Bool) : Str := if b = true then "from" else "is"
def manyW (b : Bool) : Str := if b = true then "and" else "or"
/-- a claim, as data: of so many levels, what it tells of a world, and its names as they stand -/
inductive ClD : Nat → PyData → (Wd → Bool) → List Str → Prop
  | one {m : Nat} {x : Str} {v : Int} (b : Bool) : ClD (m + 1) (.tuple [.str (atW b), .str x, .int v]) (fun w => if b = true then decide (v ≤ w x) else decide (w x = v)) [x]
  | neg {m : Nat} {d : PyData} {f : Wd → Bool} {ns : List Str} (h : ClD m d f ns) : ClD (m + 1) (.tuple [.str "not", d]) (fun w => !f w) ns
  | many {m : Nat} (b : Bool) (ds : List PyData) (fs : List (Wd → Bool)) (nss : List (List Str)) (hl : ds.length = fs.length) (hl2 : ds.length = nss.length) (h1 : ds.length ≤ 100)
      (h : ∀ (i : Nat) d f ns, ds[i]? = some d → fs[i]? = some f → nss[i]? = some ns → ClD m d f ns) :
      ClD (m + 1) (.tuple [.str (manyW b), .tuple ds]) (fun w => if b = true then fs.all (· w) else fs.any (· w)) nss.flatten
theorem ClD.le {m : Nat} {d : PyData} {f : Wd → Bool} {ns : List Str} (h : ClD m d f ns) : ∀ {n : Nat}, m ≤ n → ClD n d f ns := by
  induction h with
  | one b =>
    intro n hn
    obtain ⟨k, rfl⟩ : ∃ k, n = k + 1 := ⟨n - 1, by omega⟩
    exact .one b
  | neg h ih =>
    intro n hn
    obtain ⟨k, rfl⟩ : ∃ k, n = k + 1 := ⟨n - 1, by omega⟩
    exact .neg (ih (by omega))
  | many b ds fs nss hl hl2 h1 h ih =>
    intro n hn
    obtain ⟨k, rfl⟩ : ∃ k, n = k + 1 := ⟨n - 1, by omega⟩
    exact .many b ds fs nss hl hl2 h1 fun i d f ns e1 e2 e3 => ih i d f ns e1 e2 e3 (by omega)
inductive Say where
  | sums (least : Bool) (ts : List (Str × Int)) (n : Int)
  | unlike (xs : List Str)
  | counts (xs : List Str) (ts : List (Int × Int × Int))
  | tab (b : Bool) (xs : List Str) (rows : List (List Int))
  | pick (i : Str) (xs : List Str) (r : Str)
  | top (xs : List Str) (r : Str)
  | prod (x y z : Str)
  | ahead (xs ys : List Str)
  | mach (xs : List Str) (s : Int) (mv : List (Int × Int × Int)) (en : List Int)
  | works (xs : List Str) (ls ns : List Int) (room : Int)
  | round (xs : List Str)
  | claim (d : PyData) (f : Wd → Bool) (ns : List Str)
  | when (d : PyData) (f : Wd → Bool) (ns : List Str) (s : Say)
def trD (t : Str × Int) : PyData := .tuple [.str t.1, .int t.2]
def ctD (t : Int × Int × Int) : PyData := .tuple [.int t.1, .int t.2.1, .int t.2.2]
def rowD (r : List Int) : PyData := .tuple (r.map .int)
def sumW (b : Bool) : Str := if b = true then "least" else "same"
def tabW (b : Bool) : Str := if b = true then "table" else "bar"
def sayD : Say → PyData
  | .sums b ts n => .tuple [.str (sumW b), .tuple (ts.map trD), .int n]
  | .unlike xs => .tuple [.str "unlike", .tuple (xs.map .str)]
  | .counts xs ts => .tuple [.str "counts", .tuple (xs.map .str), .tuple (ts.map ctD)]
  | .tab b xs rows => .tuple [.str (tabW b), .tuple (xs.map .str), .tuple (rows.map rowD)]
  | .pick i xs r => .tuple [.str "pick", .str i, .tuple (xs.map .str), .str r]
  | .top xs r => .tuple [.str "top", .tuple (xs.map .str), .str r]
  | .prod x y z => .tuple [.str "product", .str x, .str y, .str z]
  | .ahead xs ys => .tuple [.str "ahead", .tuple (xs.map .str), .tuple (ys.map .str)]
  | .mach xs s mv en => .tuple [.str "machine", .tuple (xs.map .str), .int s, .tuple (mv.map ctD), .tuple (en.map .int)]
  | .works xs ls ns room => .tuple [.str "works", .tuple (xs.map .str), .tuple (ls.map .int), .tuple (ns.map .int), .int room]
  | .round xs => .tuple [.str "round", .tuple (xs.map .str)]
  | .claim d _ _ => .tuple [.str "claim", d]
  | .when d _ _ s => .tuple [.str "when", d, sayD s]
/-- the names of a saying as they stand -/
def Say.names : Say → List Str
  | .sums _ ts _ => ts.map (·.1)
  | .unlike xs => xs
  | .counts xs _ => xs
  | .tab _ xs _ => xs
  | .pick i xs r => i :: (xs ++ [r])
  | .top xs r => xs ++ [r]
  | .prod x y z => [x, y, z]
  | .ahead xs ys => xs ++ ys
  | .mach xs _ _ _ => xs
  | .works xs _ _ _ => xs
  | .round xs => xs
  | .claim _ _ ns => ns
  | .when _ _ ns s => ns ++ s.names
def wt (n : Int) : Prop := -(2 ^ 64) < n ∧ n < 2 ^ 64
def Say.isWhen : Say → Bool
  | .when .. => true
  | _ => false
def Say.isClaim : Say → Bool
  | .claim .. => true
  | _ => false
def Say.ok : Say → Prop
  | .sums _ ts _ => ts.length ≤ 100 ∧ ∀ t ∈ ts, wt t.2
  | .unlike xs => xs.length ≤ 100
  | .counts xs ts => xs.length ≤ 100 ∧ ts.length ≤ 100
  | .tab _ xs rows => xs.length ≤ 100 ∧ rows.length ≤ 1000
  | .pick _ xs _ => xs.length ≤ 100
  | .top xs _ => 0 < xs.length ∧ xs.length ≤ 100 ∧ ∀ x ∈ xs, okS x
  | .prod _ _ _ => True
  | .ahead xs ys => xs.length = ys.length ∧ xs.length ≤ 100
  | .mach xs _ mv en => xs.length ≤ 100 ∧ mv.length ≤ 1000 ∧ (mv.map fun m => (m.1, m.2.1)).Nodup ∧ en.length ≤ 100
  | .works xs ls ns room => ls.length = xs.length ∧ ns.length = xs.length ∧ 0 ≤ room ∧ xs.length ≤ 100
  | .round xs => 0 < xs.length ∧ xs.length ≤ 100
  | .claim d f ns => ClD 8 d f ns ∧ ns.length ≤ 1000
  | .when d f ns s => ClD 8 d f ns ∧ ns.length ≤ 1000 ∧ s.isWhen = false ∧ s.ok
/-- outside of claims no name comes twice -/
def Say.nd : Say → Prop
  | .claim _ _ _ => True
  | .when _ _ _ s => s.nd
  | s => s.names.Nodup
def weigh (w : Str → Int) (ts : List (Str × Int)) : Int := (ts.map fun t => t.2 * w t.1).sum
def numb (w : Str → Int) (xs : List Str) (v : Int) : Nat := (xs.map w).count v
def cntOk (w : Str → Int) (xs : List Str) (t : Int × Int × Int) : Bool := decide (t.2.1 ≤ (numb w xs t.1 : Nat)) && decide (((numb w xs t.1 : Nat) : Int) ≤ t.2.2)
def isAt (a v : Int) (m : Int × Int × Int) : Bool := decide (m.1 = a) && decide (m.2.1 = v)
/-- the stand behind these values -/
def walkM (mv : List (Int × Int × Int)) : Int → List Int → Option Int
  | here, [] => some here
  | here, v :: vs => match mv.find? (isAt here v) with
    | none => none
    | some m => walkM mv m.2.2 vs
def leL : List Int → List Int → Bool
  | a :: as, b :: bs => if a = b then leL as bs else decide (a < b)
  | [], _ => true
  | _ :: _, [] => false
/-- what stands at t -/
def load (w : Str → Int) (xs : List Str) (ls ns : List Int) (t : Int) : Int :=
  (((List.range xs.length).filter fun i => decide (w (xs.getD i "") ≤ t) && decide (t < w (xs.getD i "") + ls.getD i 0)).map fun i => ns.getD i 0).sum
/-- the walk of the program: m turns are left, from the place p -/
def walkP (w : Str → Int) (xs : List Str) : Nat → Nat → Bool
  | 0, _ => false
  | m + 1, p =>
    let q := w (xs.getD p "")
    if q = 0 then decide (m = 0) else if 0 < q ∧ q < xs.length then walkP w xs m q.toNat else false
/-- the places that are met: m turns are left, from the place p -/
def goP (w : Str → Int) (xs : List Str) : Nat → Nat → List Int
  | 0, _ => []
  | m + 1, p => if 0 ≤ w (xs.getD p "") ∧ w (xs.getD p "") < xs.length then w (xs.getD p "") :: goP w xs m (w (xs.getD p "")).toNat else []
theorem goP_succ {w : Str → Int} {xs : List Str} {m p : Nat} : goP w xs (m + 1) p = if 0 ≤ w (xs.getD p "") ∧ w (xs.getD p "") < xs.length then w (xs.getD p "") :: goP w xs m (w (xs.getD p "")).toNat else [] := rfl
def holdP (w : Str → Int) : Say → Bool
  | .sums b ts n => if b = true then decide (n ≤ weigh w ts) else decide (weigh w ts = n)
  | .unlike xs => decide ((xs.map w).Nodup)
  | .counts xs ts => ts.all (cntOk w xs)
  | .tab b xs rows => rows.any (fun row => decide (row = xs.map w)) == b
  | .pick i xs r => decide (0 ≤ w i) && (decide (w i < (xs.length : Nat)) && decide (w (xs.getD (w i).toNat nix) = w r))
  | .top xs r => xs.all (fun x => !decide (w r < w x)) && xs.any (fun x => decide (w x = w r))
  | .prod x y z => decide (w x * w y = w z)
  | .ahead xs ys => leL (xs.map w) (ys.map w)
  | .mach xs s mv en => match walkM mv s (xs.map w) with
    | none => false
    | some q => en.any fun e => decide (e = q)
  | .works xs ls ns room => xs.all fun x => decide (load w xs ls ns (w x) ≤ room)
  | .round xs => walkP w xs xs.length 0
  | .claim _ f _ => f w
  | .when _ f _ s => !f w || holdP w s
theorem is_pair {H : Hp} {v : V} {t : Str × Int} (h : Is H (trD t) v) : ∃ a, v = .ref a ∧ H a = some (.tup [.str t.1, .int t.2]) := by
  obtain ⟨a, vs, rfl, e, h⟩ := h.tup_inv
  cases h with
  | cons h1 h =>
    cases h with
    | cons h2 h =>
      cases h
      cases h1
      cases h2
      exact ⟨a, rfl, e⟩
theorem is_tri {H : Hp} {v : V} {t : Int × Int × Int} (h : Is H (ctD t) v) : ∃ a, v = .ref a ∧ H a = some (.tup [.int t.1, .int t.2.1, .int t.2.2]) := by
  obtain ⟨a, vs, rfl, e, h⟩ := h.tup_inv
  cases h with
  | cons h1 h =>
    cases h with
    | cons h2 h =>
      cases h with
      | cons h3 h =>
        cases h
        cases h1
        cases h2
        cases h3
        exact ⟨a, rfl, e⟩
theorem is_sums {H : Hp} {v : V} {b : Bool} {ts : List (Str × Int)} {n : Int} (h : Is H (sayD (.sums b ts n)) v) : ∃ a c, v = .ref a ∧ H a = some (.tup [.str (sumW b), .ref c, .int n]) ∧ Is H (.tuple (ts.map trD)) (.ref c) := by
  obtain ⟨a, vs, rfl, e, h⟩ := h.tup_inv
  cases h with
  | cons h1 h =>
    cases h with
    | cons h2 h =>
      cases h with
      | cons h3 h =>
        cases h
        cases h1
        cases h3
        have h2' := h2
        obtain ⟨c, _, rfl, _, _⟩ := h2.tup_inv
        exact ⟨a, c, rfl, e, h2'⟩
theorem is_unlike {H : Hp} {v : V} {xs : List Str} (h : Is H (sayD (.unlike xs)) v) : ∃ a b, v = .ref a ∧ H a = some (.tup [.str "unlike", .ref b]) ∧ H b = some (.tup (xs.map V.str)) := by
  obtain ⟨a, vs, rfl, e, h⟩ := h.tup_inv
  cases h with
  | cons h1 h =>
    cases h with
    | cons h2 h =>
      cases h
      cases h1
      obtain ⟨b, v2, rfl, e2, t2⟩ := h2.tup_inv
      rw [t2.strs_inv] at e2
      exact ⟨a, b, rfl, e, e2⟩
theorem is_counts {H : Hp} {v : V} {xs : List Str} {ts : List (Int × Int × Int)} (h : Is H (sayD (.counts xs ts)) v) : ∃ a b c vs, v = .ref a ∧ H a = some (.tup [.str "counts", .ref b, .ref c]) ∧ H b = some (.tup (xs.map V.str)) ∧ H c = some (.tup vs) ∧ IsAll H (ts.map ctD) vs := by
  obtain ⟨a, vs, rfl, e, h⟩ := h.tup_inv
  cases h with
  | cons h1 h =>
    cases h with
    | cons h2 h =>
      cases h with
      | cons h3 h =>
        cases h
        cases h1
        obtain ⟨b, v2, rfl, e2, t2⟩ := h2.tup_inv
        obtain ⟨c, v3, rfl, e3, t3⟩ := h3.tup_inv
        rw [t2.strs_inv] at e2
        exact ⟨a, b, c, v3, rfl, e, e2, e3, t3⟩
theorem is_row {H : Hp} {v : V} {t : List Int} (h : Is H (rowD t) v) : ∃ a, v = .ref a ∧ H a = some (.tup (t.map V.int)) := by
  obtain ⟨a, vs, rfl, e, h⟩ := h.tup_inv
  rw [h.ints_inv] at e
  exact ⟨a, rfl, e⟩
theorem is_tab {H : Hp} {v : V} {b : Bool} {xs : List Str} {rows : List (List Int)} (h : Is H (sayD (.tab b xs rows)) v) : ∃ a p c vs, v = .ref a ∧ H a = some (.tup [.str (tabW b), .ref p, .ref c]) ∧ H p = some (.tup (xs.map V.str)) ∧ H c = some (.tup vs) ∧ IsAll H (rows.map rowD) vs := by
  obtain ⟨a, vs, rfl, e, h⟩ := h.tup_inv
  cases h with
  | cons h1 h =>
    cases h with
    | cons h2 h =>
      cases h with
      | cons h3 h =>
        cases h
        cases h1
        obtain ⟨b, v2, rfl, e2, t2⟩ := h2.tup_inv
        obtain ⟨c, v3, rfl, e3, t3⟩ := h3.tup_inv
        rw [t2.strs_inv] at e2
        exact ⟨a, b, c, v3, rfl, e, e2, e3, t3⟩
theorem is_top {H : Hp} {v : V} {xs : List Str} {r : Str} (h : Is H (sayD (.top xs r)) v) : ∃ a p, v = .ref a ∧ H a = some (.tup [.str "top", .ref p, .str r]) ∧ H p = some (.tup (xs.map V.str)) := by
  obtain ⟨a, vs, rfl, e, h⟩ := h.tup_inv
  cases h with
  | cons h1 h =>
    cases h with
    | cons h2 h =>
      cases h with
      | cons h3 h =>
        cases h
        cases h1
        cases h3
        obtain ⟨b, v2, rfl, e2, t2⟩ := h2.tup_inv
        rw [t2.strs_inv] at e2
        exact ⟨a, b, rfl, e, e2⟩
theorem is_pick {H : Hp} {v : V} {i : Str} {xs : List Str} {r : Str} (h : Is H (sayD (.pick i xs r)) v) : ∃ a p, v = .ref a ∧ H a = some (.tup [.str "pick", .str i, .ref p, .str r]) ∧ H p = some (.tup (xs.map V.str)) := by
  obtain ⟨a, vs, rfl, e, h⟩ := h.tup_inv
  cases h with
  | cons h0 h =>
    cases h with
    | cons h1 h =>
      cases h with
      | cons h2 h =>
        cases h with
        | cons h3 h =>
          cases h
          cases h0
          cases h1
          cases h3
          obtain ⟨b, v2, rfl, e2, t2⟩ := h2.tup_inv
          rw [t2.strs_inv] at e2
          exact ⟨a, b, rfl, e, e2⟩
theorem is_prod {H : Hp} {v : V} {x y z : Str} (h : Is H (sayD (.prod x y z)) v) : ∃ a, v = .ref a ∧ H a = some (.tup [.str "product", .str x, .str y, .str z]) := by
  obtain ⟨a, vs, rfl, e, h⟩ := h.tup_inv
  cases h with
  | cons h1 h =>
    cases h with
    | cons h2 h =>
      cases h with
      | cons h3 h =>
        cases h with
        | cons h4 h =>
          cases h
          cases h1
          cases h2
          cases h3
          cases h4
          exact ⟨a, rfl, e⟩
theorem is_ahead {H : Hp} {v : V} {xs ys : List Str} (h : Is H (sayD (.ahead xs ys)) v) : ∃ a p q, v = .ref a ∧ H a = some (.tup [.str "ahead", .ref p, .ref q]) ∧ H p = some (.tup (xs.map V.str)) ∧ H q = some (.tup (ys.map V.str)) := by
  obtain ⟨a, vs, rfl, e, h⟩ := h.tup_inv
  cases h with
  | cons h1 h =>
    cases h with
    | cons h2 h =>
      cases h with
      | cons h3 h =>
        cases h
        cases h1
        obtain ⟨b, v2, rfl, e2, t2⟩ := h2.tup_inv
        obtain ⟨c, v3, rfl, e3, t3⟩ := h3.tup_inv
        rw [t2.strs_inv] at e2
        rw [t3.strs_inv] at e3
        exact ⟨a, b, c, rfl, e, e2, e3⟩
theorem is_mach {H : Hp} {v : V} {xs : List Str} {s : Int} {mv : List (Int × Int × Int)} {en : List Int} (h : Is H (sayD (.mach xs s mv en)) v) : ∃ a p q r vs, v = .ref a ∧ H a = some (.tup [.str "machine", .ref p, .int s, .ref q, .ref r]) ∧ H p = some (.tup (xs.map V.str)) ∧ H q = some (.tup vs) ∧ IsAll H (mv.map ctD) vs ∧ H r = some (.tup (en.map V.int)) := by
  obtain ⟨a, vs, rfl, e, h⟩ := h.tup_inv
  cases h with
  | cons h1 h =>
    cases h with
    | cons h2 h =>
      cases h with
      | cons h3 h =>
        cases h with
        | cons h4 h =>
          cases h with
          | cons h5 h =>
            cases h
            cases h1
            cases h3
            obtain ⟨b, v2, rfl, e2, t2⟩ := h2.tup_inv
            obtain ⟨c, v3, rfl, e3, t3⟩ := h4.tup_inv
            obtain ⟨d, v4, rfl, e4, t4⟩ := h5.tup_inv
            rw [t2.strs_inv] at e2
            rw [t4.ints_inv] at e4
            exact ⟨a, b, c, d, v3, rfl, e, e2, e3, t3, e4⟩
theorem is_works {H : Hp} {v : V} {xs : List Str} {ls ns : List Int} {room : Int} (h : Is H (sayD (.works xs ls ns room)) v) :
    ∃ a b c d, v = .ref a ∧ H a = some (.tup [.str "works", .ref b, .ref c, .ref d, .int room]) ∧ H b = some (.tup (xs.map V.str)) ∧ H c = some (.tup (ls.map V.int)) ∧ H d = some (.tup (ns.map V.int)) := by
  obtain ⟨a, vs, rfl, e, h⟩ := h.tup_inv
  cases h with
  | cons h1 h =>
    cases h with
    | cons h2 h =>
      cases h with
      | cons h3 h =>
        cases h with
        | cons h4 h =>
          cases h with
          | cons h5 h =>
            cases h
            cases h1
            cases h5
            obtain ⟨b, v2, rfl, e2, t2⟩ := h2.tup_inv
            obtain ⟨c, v3, rfl, e3, t3⟩ := h3.tup_inv
            obtain ⟨d, v4, rfl, e4, t4⟩ := h4.tup_inv
            rw [t2.strs_inv] at e2
            rw [t3.ints_inv] at e3
            rw [t4.ints_inv] at e4
            exact ⟨a, b, c, d, rfl, e, e2, e3, e4⟩
theorem is_round {H : Hp} {v : V} {xs : List Str} (h : Is H (sayD (.round xs)) v) : ∃ a b, v = .ref a ∧ H a = some (.tup [.str "round", .ref b]) ∧ H b = some (.tup (xs.map V.str)) := by
  obtain ⟨a, vs, rfl, e, h⟩ := h.tup_inv
  cases h with
  | cons h1 h =>
    cases h with
    | cons h2 h =>
      cases h
      cases h1
      obtain ⟨b, v2, rfl, e2, t2⟩ := h2.tup_inv
      rw [t2.strs_inv] at e2
      exact ⟨a, b, rfl, e, e2⟩
theorem is_one {H : Hp} {v : V} {x : Str} {n : Int} {b : Bool} (h : Is H (.tuple [.str (atW b), .str x, .int n]) v) : ∃ a, v = .ref a ∧ H a = some (.tup [.str (atW b), .str x, .int n]) := by
  obtain ⟨a, vs, rfl, e, h⟩ := h.tup_inv
  cases h with
  | cons h1 h =>
    cases h with
    | cons h2 h =>
      cases h with
      | cons h3 h =>
        cases h
        cases h1
        cases h2
        cases h3
        exact ⟨a, rfl, e⟩
theorem is_two {H : Hp} {v : V} {x : Str} {d : PyData} (h : Is H (.tuple [.str x, d]) v) : ∃ a u, v = .ref a ∧ H a = some (.tup [.str x, u]) ∧ Is H d u := by
  obtain ⟨a, vs, rfl, e, h⟩ := h.tup_inv
  cases h with
  | cons h1 h =>
    cases h with
    | cons h2 h =>
      cases h
      cases h1
      exact ⟨a, _, rfl, e, h2⟩
theorem is_three {H : Hp} {v : V} {x : Str} {d d' : PyData} (h : Is H (.tuple [.str x, d, d']) v) : ∃ a u u', v = .ref a ∧ H a = some (.tup [.str x, u, u']) ∧ Is H d u ∧ Is H d' u' := by
  obtain ⟨a, vs, rfl, e, h⟩ := h.tup_inv
  cases h with
  | cons h1 h =>
    cases h with
    | cons h2 h =>
      cases h with
      | cons h3 h =>
        cases h
        cases h1
        exact ⟨a, _, _, rfl, e, h2, h3⟩
theorem lay_ints : ∀ ns : List Int, PyData.canLayAll0 (ns.map .int) = true
  | [] => by simp [PyData.canLayAll0]
  | n :: ns => by simp [PyData.canLayAll0, PyData.canLay0, lay_ints ns]
theorem lay_strs : ∀ ns : List Str, (∀ x ∈ ns, okS x) → PyData.canLayAll0 (ns.map .str) = true
  | [], _ => by simp [PyData.canLayAll0]
  | n :: ns, h => by
    have h1 : PyData.canLay0 (.str n) = true := h n (List.mem_cons_self ..)
    simp [PyData.canLayAll0, h1, lay_strs ns fun x hx => h x (List.mem_cons_of_mem _ hx)]
theorem deep_ints : ∀ ns : List Int, PyData.depthAll (ns.map .int) ≤ 1
  | [] => by simp [PyData.depthAll]
  | n :: ns => by
    have := deep_ints ns
    simp only [List.map_cons, PyData.depthAll, PyData.depth]
    omega
theorem deep_strs : ∀ ns : List Str, PyData.depthAll (ns.map .str) ≤ 1
  | [] => by simp [PyData.depthAll]
  | n :: ns => by
    have := deep_strs ns
    simp only [List.map_cons, PyData.depthAll, PyData.depth]
    omega
theorem lay_rows : ∀ ts : List (List Int), PyData.canLayAll0 (ts.map rowD) = true
  | [] => by simp [PyData.canLayAll0]
  | t :: ts => by simp [rowD, PyData.canLayAll0, PyData.canLay0, lay_ints t, lay_rows ts]
theorem deep_rows : ∀ ts : List (List Int), PyData.depthAll (ts.map rowD) ≤ 3
  | [] => by simp [PyData.depthAll]
  | t :: ts => by
    have h3 := deep_rows ts
    have h4 := deep_ints t
    simp only [List.map_cons, rowD, PyData.depthAll, PyData.depth]
    omega
theorem lay_tris : ∀ ts : List (Int × Int × Int), PyData.canLayAll0 (ts.map ctD) = true
  | [] => by simp [PyData.canLayAll0]
  | t :: ts => by simp [ctD, PyData.canLayAll0, PyData.canLay0, lay_tris ts]
theorem deep_tris : ∀ ts : List (Int × Int × Int), PyData.depthAll (ts.map ctD) ≤ 3
  | [] => by simp [PyData.depthAll]
  | t :: ts => by
    have h3 := deep_tris ts
    simp only [List.map_cons, ctD, PyData.depthAll, PyData.depth]
    omega
theorem row_shaped (t : List Int) : SeqAt.shaped (rowD t) = true := by
  have h4 := deep_ints t
  have h : (rowD t).depth ≤ 64 := by
    simp only [rowD, PyData.depth]
    omega
  show ((rowD t).canLay0 && decide ((rowD t).depth ≤ 64)) = true
  rw [decide_eq_true h, Bool.and_true]
  simp only [rowD, PyData.canLay0, lay_ints t]
theorem rows_shaped (ts : List (List Int)) : SeqAt.shaped (.tuple (ts.map rowD)) = true := by
  have h4 := deep_rows ts
  have h : (PyData.tuple (ts.map rowD)).depth ≤ 64 := by
    simp only [PyData.depth]
    omega
  show ((PyData.tuple (ts.map rowD)).canLay0 && decide ((PyData.tuple (ts.map rowD)).depth ≤ 64)) = true
  rw [decide_eq_true h, Bool.and_true]
  simp only [PyData.canLay0, lay_rows ts]
/-! ### x in t, t a tuple of data -/
def rInT (K : PySem.W.Frag) : R2 := fun x y H Q => ∃ d ds, Dp K H x d ∧ Dp K H y (.tuple ds) ∧ SeqAt.shaped d = true ∧ SeqAt.shaped (.tuple ds) = true ∧ Q (.bl (ds.any fun z => PyData.eqv z d)) H
theorem op_inT {X : Cx} (hu : X.A.units + 65 < cLine) : OpR X (compareOp .In) (rInT X.K) := by
  intro pins s σ H x y v u Q I rx ry h
  obtain ⟨d, ds, hd, he, sd, se, q⟩ := h
  obtain ⟨as, r1⟩ := Dp.reads I d x v hd rx
  obtain ⟨bs, r2⟩ := Dp.reads I (.tuple ds) y u he ry
  exact SeqAt.in_tuple_reads r2 r1 (SeqAt.canLay_of_shaped se) (SeqAt.canLay_of_shaped sd) (room_in_shaped sd hu) ⟨.bl _, H, I, rfl, q⟩
theorem rows_eqv (a b : List Int) : PyData.eqv (rowD a) (rowD b) = decide (a = b) := by
  unfold rowD
  rw [PyData.eqv]
  exact PySem.W.ked_eqvAll a b
end AW
/-! a dict comprehension that is given to a name -/
namespace AW
open PySem PySem.Spec PyProof.Rows L2 RZ
section
variable {X : Cx}
theorem ps_setDc {i : Nat} {y : Str} {py : Pos} {kx vx tg iter : Expr} {ifs : List Expr} {scope : Scope} {own : List (Str × Nat)} {pos spos : Pos} {wi : TI} {g : TG} {tt : TT} {tk tv : TE}
    (hc : X.calm = true) (hN : X.N.Nodup) (hy : X.N[i]? = some y) (hyl : X.env.scope.names.lookup y = some .local)
    (hsw : swapsWith (.DictComp kx vx [⟨tg, iter, ifs, 0⟩] scope pos) (some (.Name y py)) spos.line X.env = pure true)
    (hi : PI X tg iter wi) (ok : BlkOk X.N X.env.scope scope own)
    (hg : ∀ s H C cl fp, PG (X.blk s H scope (compEnvC scope cl C X.env) fp) tg g)
    (ht : ∀ s H C cl fp, PTs (X.blk s H scope (compEnvC scope cl C X.env) fp) ifs tt)
    (hk : ∀ s H C cl fp, PE (X.blk s H scope (compEnvC scope cl C X.env) fp) kx tk)
    (hv : ∀ s H C cl fp, PE (X.blk s H scope (compEnvC scope cl C X.env) fp) vx tv)
    (hs : ∀ x, foldedSetIterable iter X.env x = pure x := by intro _; rfl) :
    PS X (.Assign [.Name y py] (.DictComp kx vx [⟨tg, iter, ifs, 0⟩] scope pos) spos) (tAsg (tDc wi g tt tk tv (own.map (·.2))) (gName i)) := by
  constructor
  intro pins s σ H D I h
  have h2 : tDc wi g tt tk tv (own.map (·.2)) σ H (fun x H1 => D.nx (σ.set i (some x)) H1) := h
  have core := dc_core (use := some (assign (.Name y py) X.env)) (pos' := firstIterPos [⟨tg, iter, ifs, 0⟩] pos) (pos := pos) (Qf := fun _ s' => SP X pins D .next s') hc hN I hi ok hg ht hk hv hs h2 fun L C s' m H' I' q hn f => ?_
  · rw [exec_Assign_Name_used _ _ _ _ hsw]
    apply wpAny_bind
    apply wpAny_standAt
    apply wpAny_bind
    show wpAny _ X.A (do let _ ← comprehension (.DictComp kx vx [⟨tg, iter, ifs, 0⟩] scope pos) scope X.env (firstIterPos [⟨tg, iter, ifs, 0⟩] pos) newDict false (eval iter X.env) (some (assign (.Name y py) X.env))) _ _ s
    apply wpAny_bind
    exact thn core fun _ s' hq => wpAny_pure (wpAny_pure hq)
  · show wpAny _ _ (assign (.Name y py) X.env (.ref L)) _ _ _
    apply wpAny_assign_Name
    refine store_ok2 (v := V.ref L) I' hN hy (.inl hyl) rfl (fun s2 I2 z => ?_) (.inr hyl)
    obtain ⟨a, sb, ha⟩ := z
    obtain ⟨f0, f1, f2, f3, f4, f5⟩ := f
    have hCa : C ≠ a := by
      rcases ha with z | z
      · rw [z]
        exact f1
      · exact fun e => f4 y a z e.symm
    refine ⟨m, hn.sameBut sb hCa, fun h3 sb3 => ?_⟩
    exact ⟨σ.set i (some (.ref L)), H', I2.turned (t' := s2.toks) (fun b o hb e => (sb3.2 b hb).trans e) f0 f1 f3 f4 f5, q⟩
theorem sw_trueD {kx vx : Expr} {gs : List Comprehension} {scope : Scope} {pos py : Pos} {y : Str} {l : Nat} {env : Env} (hk : env.scope.kind = .function) (hy : env.scope.names.lookup y = some .local) (hl : (py.line == pos.line) = true)
    (ha : (scope.names.any fun (n, k) => n == y && (k == .local || k == .cell)) = false) : swapsWith (.DictComp kx vx gs scope pos) (some (.Name y py)) l env = pure true := by
  have e1 : env.kindOf y = some .local := hy
  have e2 : env.blockKind = .function := by
    unfold Env.blockKind
    rw [hk]
    rfl
  unfold swapsWith
  simp only [e2, e1, ha, Expr.pos, hl]
  rfl
end
/-! ### models -/
def itD (p : Str × Say) : PyData := .tuple [.str p.1, sayD p.2]
def sfD (p : Str × Say × Int) : PyData := .tuple [.str p.1, sayD p.2.1, .int p.2.2]
def domD (p : Str × List Int) : PyData := .tuple [.str p.1, .tuple (p.2.map .int)]
def modD (doms : List (Str × List Int)) (firm : List (Str × Say)) (soft : List (Str × Say × Int)) : PyData := .tuple [.tuple (doms.map domD), .tuple (firm.map itD), .tuple (soft.map sfD)]
/-- the world of a filling -/
def wOf (names : List Str) (f : List Int) (x : Str) : Int := f.getD (names.idxOf x) 0
theorem is_mod {H : Hp} {v : V} {doms : List (Str × List Int)} {firm : List (Str × Say)} {soft : List (Str × Say × Int)} (h : Is H (modD doms firm soft) v) :
    ∃ a b c d xs ys zs, v = .ref a ∧ H a = some (.tup [.ref b, .ref c, .ref d]) ∧ H b = some (.tup xs) ∧ IsAll H (doms.map domD) xs ∧ H c = some (.tup ys) ∧ IsAll H (firm.map itD) ys ∧ H d = some (.tup zs) ∧ IsAll H (soft.map sfD) zs := by
  obtain ⟨a, vs, rfl, e, h⟩ := h.tup_inv
  cases h with
  | cons h1 h =>
    cases h with
    | cons h2 h =>
      cases h with
      | cons h3 h =>
        cases h
        obtain ⟨b, xs, rfl, e1, t1⟩ := h1.tup_inv
        obtain ⟨c, ys, rfl, e2, t2⟩ := h2.tup_inv
        obtain ⟨d, zs, rfl, e3, t3⟩ := h3.tup_inv
        exact ⟨a, b, c, d, xs, ys, zs, rfl, e, e1, t1, e2, t2, e3, t3⟩
theorem is_dom {H : Hp} {v : V} {p : Str × List Int} (h : Is H (domD p) v) : ∃ a b, v = .ref a ∧ H a = some (.tup [.str p.1, .ref b]) ∧ H b = some (.tup (p.2.map V.int)) := by
  obtain ⟨a, vs, rfl, e, h⟩ := h.tup_inv
  cases h with
  | cons h1 h =>
    cases h with
    | cons h2 h =>
      cases h
      cases h1
      obtain ⟨b, v2, rfl, e2, t2⟩ := h2.tup_inv
      rw [t2.ints_inv] at e2
      exact ⟨a, b, rfl, e, e2⟩
/-- an item of a model's lists: its name, its saying -/
def ItAt (H : Hp) (n : Str) (s : Say) (sv : V) (v : V) : Prop := ∃ a rest, v = .ref a ∧ H a = some (.tup (.str n :: sv :: rest)) ∧ Is H (sayD s) sv
theorem is_it {H : Hp} {v : V} {p : Str × Say} (h : Is H (itD p) v) : ∃ sv, ItAt H p.1 p.2 sv v := by
  obtain ⟨a, vs, rfl, e, h⟩ := h.tup_inv
  cases h with
  | cons h1 h =>
    cases h with
    | cons h2 h =>
      cases h
      cases h1
      exact ⟨_, a, _, rfl, e, h2⟩
theorem is_sf {H : Hp} {v : V} {p : Str × Say × Int} (h : Is H (sfD p) v) : ∃ sv, ItAt H p.1 p.2.1 sv v := by
  obtain ⟨a, vs, rfl, e, h⟩ := h.tup_inv
  cases h with
  | cons h1 h =>
    cases h with
    | cons h2 h =>
      cases h1
      exact ⟨_, a, _, rfl, e, h2⟩
/-- the items one after the other, their sayings' values beside -/
theorem items_of {H : Hp} : ∀ {all : List (Str × Say)} {xs : List V}, xs.length = all.length → (∀ (i : Nat) p x, all[i]? = some p → xs[i]? = some x → ∃ sv, ItAt H p.1 p.2 sv x) →
    ∃ svs : List V, svs.length = all.length ∧ ∀ (i : Nat) p x sv, all[i]? = some p → xs[i]? = some x → svs[i]? = some sv → ItAt H p.1 p.2 sv x
  | [], [], _, _ => ⟨[], rfl, fun i p x sv e => by simp at e⟩
  | p :: all, x :: xs, hl, h => by
    obtain ⟨sv, h0⟩ := h 0 p x rfl rfl
    obtain ⟨svs, h1, h2⟩ := items_of (all := all) (xs := xs) (Nat.succ.inj hl) fun i q y e1 e2 => h (i + 1) q y (by simpa using e1) (by simpa using e2)
    refine ⟨sv :: svs, by simp [h1], fun i q y tv e1 e2 e3 => ?_⟩
    cases i with
    | zero =>
      simp at e1 e2 e3
      subst e1 e2 e3
      exact h0
    | succ i => exact h2 i q y tv (by simpa using e1) (by simpa using e2) (by simpa using e3)
  | [], _ :: _, hl, _ => by simp at hl
  | _ :: _, [], hl, _ => by simp at hl
theorem nodup_inj {α : Type} {l : List α} (h : l.Nodup) {i j : Nat} {x : α} (a : l[i]? = some x) (b : l[j]? = some x) : i = j := L2.nd_ix h a b
end AW
/-! steps that were not there: isinstance, pop, tuple(d), sorted, a comprehension with two fors -/
namespace AW
open PySem PySem.Spec PyProof.Rows L2 RZ StX
def rDictP (K : PySem.W.Frag) : List V → Hp → VK → Prop := fun xs H Q => ∃ (a : Addr) (ps : List Addr) (kvs : List (Key × V)), xs = [.ref a] ∧ SqL K H a (ps.map V.ref) ∧ Paired (fun p kv => SqT K H p [kV kv.1, kv.2]) ps kvs ∧ ∀ p, H p = none → Q (.ref p) (upd H p (.dK (mergeK [] kvs)))
theorem call_dictP1 {X : Cx} (hc : X.calm = true) : CallR X (.type "dict") (rDictP X.K) := call_dictP hc
def rSortDS : List V → Hp → VK → Prop := fun xs H Q => ∃ (a : Addr) (kvs : List (Key × V)) (ks : List Str), xs = [.ref a] ∧ Rd H a (.dK kvs) ∧ kvs.map (·.1) = ks.map Sum.inr ∧ ks.length < 64 ∧
  ∀ (ys : List Str) (p : Addr), ys.Perm ks → sortedS ys = true → H p = none → Q (.ref p) (upd H p (.lst (ys.map V.str)))
theorem call_sortDS1 {X : Cx} (hc : X.calm = true) : CallR X (.builtin "sorted") rSortDS := call_sortedD hc
section
variable {σ : L2.St} {H : Hp} {Q : VK} {ta tb te td ty : TE} {K : PySem.W.Frag}
theorem w_listOfS {x : Str} (hz : x.cps.size ≤ 100000) (q : ∀ r H', H r = none → Adv [] H H' → H' r = some (.lst ((signsOf x).map V.str)) → Q (.ref r) H') : rListOfA K [.str x] H Q :=
  .inr ⟨x, rfl, Nat.le_trans hz (by decide), fun l hl => q l _ hl (Adv.new hl) upd_same⟩
theorem w_listOfL {p : Addr} {xs : List V} (h : SqL K H p xs ∨ SqT K H p xs) (q : ∀ r H', H r = none → Adv [] H H' → H' r = some (.lst xs) → Q (.ref r) H') : rListOfA K [.ref p] H Q := .inl (w_listOf h q)
theorem w_isi {x : V} {a b : String} {r : Bool} (ty : TyX K H x (.type a)) (e : kitB a b = some r) (q : Q (.bl r) H) : rIsi K [x, .ty b] H Q := ⟨x, .ty b, _, _, r, rfl, .ty b, ty, kit_ty e, q⟩
theorem w_notN {x : V} (q : Q (.bl (!decide (x = .non))) H) : rNotN x .non H Q := ⟨rfl, q⟩
theorem w_popAt {i : Nat} {l : Addr} {xs : List V} {a : TA} (hσ : σ[i]? = some (some (.ref l))) (h0 : H l = some (.lst xs)) (h : a σ H fun vs H2 => rPopAt (.ref l) vs H2 Q) : tBM K "list" rPopAt (tVar i) a σ H Q :=
  ⟨.ref l, hσ, .inl ⟨rfl, xs, SqL.of h0⟩, h⟩
theorem w_listD {p : Addr} {kvs : List (Key × V)} (h : H p = some (.dK kvs)) (q : ∀ r H', H r = none → Adv [] H H' → H' r = some (.lst (kvs.map fun kv => kV kv.1)) → Q (.ref r) H') : rListD [.ref p] H Q := ⟨p, kvs, rfl, h, w_new q⟩
theorem w_tupD2 {p : Addr} {kvs : List (Key × V)} (h : H p = some (.dK kvs)) (q : ∀ r H', H r = none → Adv [] H H' → H' r = some (.tup (kvs.map fun kv => kV kv.1)) → Q (.ref r) H') : rTupD [.ref p] H Q := ⟨p, kvs, rfl, h, w_new q⟩
theorem w_tupOfT {p : Addr} {xs : List V} (h : H p = some (.tup xs)) (q : Q (.ref p) H) : kTup K (.ref p) H Q := .inr ⟨p, xs, rfl, SqT.of h, q⟩
theorem w_sortTS {a : Addr} {xs : List Str} (h : H a = some (.tup (xs.map V.str))) (hl : xs.length < 64) (q : ∀ (ys : List Str) r H', ys.Perm xs → sortedS ys = true → H r = none → Adv [] H H' → H' r = some (.lst (ys.map V.str)) → Q (.ref r) H') : rSortTS K [.ref a] H Q :=
  ⟨a, xs, rfl, SqT.of h, hl, fun ys p h1 h2 h3 => q ys p _ h1 h2 h3 (Adv.new h3) upd_same⟩
theorem w_sortDS {a : Addr} {kvs : List (Key × V)} {ks : List Str} (h : H a = some (.dK kvs)) (hk : kvs.map (·.1) = ks.map Sum.inr) (hl : ks.length < 64) (q : ∀ (ys : List Str) r H', ys.Perm ks → sortedS ys = true → H r = none → Adv [] H H' → H' r = some (.lst (ys.map V.str)) → Q (.ref r) H') : rSortDS [.ref a] H Q :=
  ⟨a, kvs, ks, rfl, .inl h, hk, hl, fun ys p h1 h2 h3 => q ys p _ h1 h2 h3 (Adv.new h3) upd_same⟩
theorem w_starX {t : TA} {Q : List V → Hp → Prop} (h : te σ H fun x H1 => ∃ p xs, x = V.ref p ∧ (SqT K H1 p xs ∨ SqL K H1 p xs) ∧ t σ H1 fun ys H2 => Q (xs ++ ys) H2) : tStar K te t σ H Q := h
theorem w_revL (h : te σ H fun x H1 => ∃ a xs, x = .ref a ∧ SqL K H1 a xs ∧ ∀ p, H1 p = none → Q (.ref p) (upd H1 p (.lst xs.reverse))) : tRevL K te σ H Q := h
theorem w_break {D : Ends} (q : D.bk σ H) : tBreak D σ H := q
/-- two fors, the inner one over a list that is made in each turn -/
def kLc2 (K : PySem.W.Frag) (i j : Nat) (tc : TE) (vs vs1 : List Nat) (σ : L2.St) (Q : VK) (x : V) (H1 : Hp) : Prop := ∃ a, x = .ref a ∧ (∃ xs, SqT K H1 a xs) ∧ ∀ D, H1 D = none → ∃ W : Nat → Nat → Hp → Prop, (∃ m, W 0 m (upd H1 D (.lst []))) ∧ ∀ k m H, W k m H →
  ((Itt K a).stop k H ∧ Q (.ref D) H) ∨ ((Itt K a).go k H ∧ ∃ Nx : Hp → Prop, (∀ H', Nx H' → ∃ m', m' < m ∧ W (k + 1) m' H') ∧ ∀ x H', (Itt K a).yld k H x H' → gName i x (wipe σ vs) H' fun σ2 H2 => wipe σ2 vs = wipe σ vs ∧ tYes σ2 H2 fun b H3 =>
    if b = true then iList K tc σ2 H3 fun J1 H4 => ∃ W1 : Nat → Nat → Hp → Prop, (∃ m, W1 0 m H4) ∧ ∀ l k H, W1 l k H →
      (J1.stop l H ∧ Nx H) ∨ (J1.go l H ∧ ∃ Nx1 : Hp → Prop, (∀ H', Nx1 H' → ∃ k', k' < k ∧ W1 (l + 1) k' H') ∧ ∀ x H', J1.yld l H x H' → gName j x (wipe σ2 vs1) H' fun σ3 H5 => wipe σ3 vs1 = wipe σ2 vs1 ∧ tYes σ3 H5 fun b H6 =>
        if b = true then tVar j σ3 H6 fun y H7 => ∃ acc, H7 D = some (.lst acc) ∧ acc.length < sizeLine ∧ Nx1 (upd H7 D (.lst (acc ++ [y]))) else Nx1 H6)
    else Nx H3)
theorem w_lc2 {tl tc : TE} {i j : Nat} {vs vs1 : List Nat} (h : tl σ H (kLc2 K i j tc vs vs1 σ Q)) : tLc2 (iTup K tl) (gName i) tYes (iList K tc) (gName j) tYes (tVar j) vs vs1 σ H Q := h
theorem kLc2_flat {i j : Nat} {tc : TE} {vs vs1 : List Nat} {p : Addr} {xs : List V} (f : Nat → List V) (hp : H p = some (.tup xs)) (hn : xs.length ≤ 1000) (hf : ∀ k, k < xs.length → ((List.range (k + 1)).flatMap f).length ≤ 100000)
    (w1 : ∀ x, wipe ((wipe σ vs).set i (some x)) vs = wipe σ vs) (w2 : ∀ x y, wipe ((wipe ((wipe σ vs).set i (some x)) vs1).set j (some y)) vs1 = wipe ((wipe σ vs).set i (some x)) vs1)
    (w3 : ∀ x y, ((wipe ((wipe σ vs).set i (some x)) vs1).set j (some y))[j]? = some (some y))
    (step : ∀ k x H2 (Kt : V → Hp → Prop), xs[k]? = some x → Adv [] H H2 → (∀ q H4, Adv [] H2 H4 → H2 q = none → H4 q = some (.lst (f k)) → Kt (.ref q) H4) → tc ((wipe σ vs).set i (some x)) H2 Kt)
    (k : ∀ r H', H r = none → Adv [] H H' → H' r = some (.lst ((List.range xs.length).flatMap f)) → Q (.ref r) H') : kLc2 K i j tc vs vs1 σ Q (.ref p) H := by
  refine ⟨p, rfl, ⟨xs, SqT.of hp⟩, fun D hD => ?_⟩
  refine ⟨fun n m H' => m = xs.length - n ∧ n ≤ xs.length ∧ Adv [] H H' ∧ H' D = some (.lst ((List.range n).flatMap f)), ⟨xs.length, by simp, Nat.zero_le _, Adv.new hD, upd_same⟩, ?_⟩
  rintro n m H' ⟨rfl, hi, a1, e1⟩
  have wk := walk_tup (K := K) (a := p) (xs := xs)
  have st : SqT K H' p xs := SqT.of (a1.tup _ _ hp)
  by_cases hlt : n < xs.length
  · refine .inr ⟨wk.goes n H' hlt st, fun H2 => n + 1 ≤ xs.length ∧ Adv [] H H2 ∧ H2 D = some (.lst ((List.range (n + 1)).flatMap f)), fun H2 p2 => ⟨xs.length - (n + 1), by omega, rfl, p2⟩, fun x H2 y => ?_⟩
    obtain ⟨rfl, hx⟩ := wk.yields n H' x H2 hlt st y
    refine ⟨w1 x, ?_⟩
    show tc ((wipe σ vs).set i (some x)) H2 _
    refine step n x H2 _ hx a1 fun q H4 a4 nq eq => ⟨q, rfl, ⟨_, SqL.of eq⟩, ?_⟩
    have e4 := a4.keep _ _ (fun z => nomatch z) e1
    have hDq : D ≠ q := ne_of_none e1 nq
    have hsum := hf n hlt
    rw [List.range_succ, List.flatMap_append, List.length_append] at hsum
    have efn : ([n].flatMap f) = f n := by simp
    rw [efn] at hsum
    refine ⟨fun l m H5 => m = (f n).length - l ∧ l ≤ (f n).length ∧ Adv [] H H5 ∧ H5 q = some (.lst (f n)) ∧ H5 D = some (.lst ((List.range n).flatMap f ++ (f n).take l)), ⟨(f n).length, by simp, Nat.zero_le _, a1.trans a4, eq, by rw [List.take_zero, List.append_nil]; exact e4⟩, ?_⟩
    rintro l m H5 ⟨rfl, hl, a5, eq5, eD5⟩
    have wl := walk_list (K := K) (a := q) (xs := f n)
    by_cases hl2 : l < (f n).length
    · refine .inr ⟨wl.goes l H5 hl2 (SqL.of eq5), fun H6 => l + 1 ≤ (f n).length ∧ Adv [] H H6 ∧ H6 q = some (.lst (f n)) ∧ H6 D = some (.lst ((List.range n).flatMap f ++ (f n).take (l + 1))), fun H6 p6 => ⟨(f n).length - (l + 1), by omega, rfl, p6⟩, fun y H6 hy => ?_⟩
      obtain ⟨rfl, hy2⟩ := wl.yields l H5 y H6 hl2 (SqL.of eq5) hy
      refine ⟨w2 x y, y, w3 x y, _, eD5, ?_, hl2, a5.mut hD eD5 (fun _ z => by cases z), by rw [upd_ne hDq.symm]; exact eq5, ?_⟩
      · rw [List.length_append, List.length_take]
        exact Nat.lt_of_lt_of_le (show _ < 100001 by omega) (by decide)
      · rw [upd_same, List.take_add_one, hy2]
        simp
    · refine .inl ⟨?_, ?_⟩
      · have e : l = (f n).length := by omega
        rw [e]
        exact wl.stops H5 (SqL.of eq5)
      · have e : l = (f n).length := by omega
        refine ⟨hlt, a5, ?_⟩
        rw [eD5, e, List.take_length, List.range_succ, List.flatMap_append, efn]
  · have e : n = xs.length := by omega
    subst e
    exact .inl ⟨wk.stops H' st, k D H' hD a1 e1⟩
end
end AW
/-! keys of dicts, sorted texts -/
namespace AW
open PySem PySem.Spec PyProof.Rows L2 RZ
def insS (ms : List Str) (x : Str) : List Str := if x ∈ ms then ms else ms ++ [x]
theorem insS_mem {ms : List Str} {x y : Str} : y ∈ insS ms x ↔ y ∈ ms ∨ y = x := by
  unfold insS
  split
  · rename_i h
    exact ⟨.inl, fun z => z.elim id fun e => e ▸ h⟩
  · rw [List.mem_append, List.mem_singleton]
theorem insS_nd {ms : List Str} {x : Str} (h : ms.Nodup) : (insS ms x).Nodup := by
  unfold insS
  split
  · exact h
  · rename_i hn
    rw [List.nodup_append]
    refine ⟨h, by simp, fun a ha b hb e => ?_⟩
    rw [List.mem_singleton.mp hb] at e
    exact hn (e ▸ ha)
theorem put_str {kvs : List (Key × V)} {ms : List Str} {x : Str} {v : V} (h : kvs.map (·.1) = ms.map Sum.inr) : (putK kvs (Sum.inr x) v).map (·.1) = (insS ms x).map Sum.inr := by
  have e : (kvs.any fun kv => decide (kv.1 = Sum.inr x)) = decide (x ∈ ms) := by
    have e1 : (kvs.any fun kv => decide (kv.1 = (Sum.inr x : Key))) = (kvs.map (·.1)).any fun k => decide (k = Sum.inr x) := by rw [List.any_map]; rfl
    rw [e1, h, List.any_map, Bool.eq_iff_iff, List.any_eq_true, decide_eq_true_iff]
    exact ⟨fun ⟨y, hy, z⟩ => Sum.inr.inj (of_decide_eq_true z) ▸ hy, fun hy => ⟨x, hy, decide_eq_true rfl⟩⟩
  unfold putK insS
  by_cases hm : x ∈ ms
  · rw [e, if_pos (decide_eq_true hm), if_pos hm, List.map_map, ← h]
    refine List.map_congr_left fun kv _ => ?_
    show (if kv.1 = Sum.inr x then (kv.1, v) else kv).1 = kv.1
    split <;> rfl
  · rw [e, if_neg (fun z => hm (of_decide_eq_true z)), if_neg hm, List.map_append, List.map_append, h]
    rfl
/-- the different ones of a list, in the order of their first places -/
def nubS (xs : List Str) : Nat → List Str
  | 0 => []
  | i + 1 => insS (nubS xs i) (xs.getD i nix)
theorem nubS_nd (xs : List Str) : ∀ n, (nubS xs n).Nodup
  | 0 => List.nodup_nil
  | i + 1 => insS_nd (nubS_nd xs i)
theorem nubS_mem (xs : List Str) {y : Str} : ∀ n, n ≤ xs.length → (y ∈ nubS xs n ↔ y ∈ xs.take n)
  | 0, _ => by simp [nubS]
  | i + 1, h => by
    have hi : i < xs.length := h
    have e : xs.getD i nix = xs[i] := getD_of (List.getElem?_eq_getElem hi)
    rw [nubS, insS_mem, nubS_mem xs i (by omega), List.take_add_one, List.getElem?_eq_getElem hi, List.mem_append, e]
    simp
theorem dict_strs (xs : List Str) (val : Nat → V) : ∀ n, (dictOf (fun i => (Sum.inr (xs.getD i nix) : Key)) val n).map (·.1) = (nubS xs n).map Sum.inr
  | 0 => rfl
  | i + 1 => put_str (dict_strs xs val i)
theorem keys_strs {kvs : List (Key × V)} {ms : List Str} (h : kvs.map (·.1) = ms.map Sum.inr) : (kvs.map fun kv => kV kv.1) = ms.map V.str := by
  rw [show (kvs.map fun kv => kV kv.1) = (kvs.map (·.1)).map kV by rw [List.map_map]; rfl, h, List.map_map]
  rfl
theorem nub_len {ms U : List Str} (h : ms.Nodup) (s : ∀ x ∈ ms, x ∈ U) : ms.length ≤ U.length := h.length_le_of_subset s
theorem lt_trans_cps {a b c : List Nat} (h1 : ¬ b < a) (h2 : ¬ c < b) : ¬ c < a := fun h => by
  have h1' : a ≤ b := List.not_lt.mp h1
  have h2' : b ≤ c := List.not_lt.mp h2
  exact List.not_lt.mpr (List.le_trans h1' h2') h
theorem cps_inj {a b : Str} (h : a.cps.toList = b.cps.toList) : a = b := by
  cases a
  cases b
  simp only [Str.mk.injEq]
  exact Array.toList_inj.mp h
theorem rising_pw : ∀ (xs : List Str) (p : Str), risingS p xs = true → (p :: xs).Pairwise fun a b => ¬ b.cps.toList < a.cps.toList
  | [], p, _ => by simp
  | x :: xs, p, h => by
    rw [risingS, Bool.and_eq_true, ltCps_eq, Bool.not_eq_true', decide_eq_false_iff_not] at h
    have ih := rising_pw xs x h.2
    refine List.pairwise_cons.mpr ⟨fun y hy => ?_, ih⟩
    rcases List.mem_cons.mp hy with rfl | hy
    · exact h.1
    · exact lt_trans_cps h.1 ((List.pairwise_cons.mp ih).1 y hy)
theorem sorted_pw {xs : List Str} (h : sortedS xs = true) : xs.Pairwise fun a b => ¬ b.cps.toList < a.cps.toList := by
  cases xs with
  | nil => exact List.Pairwise.nil
  | cons x xs => exact rising_pw xs x h
theorem sorted_eq {xs ys : List Str} (hp : xs.Perm ys) (h1 : sortedS xs = true) (h2 : sortedS ys = true) : xs = ys :=
  hp.eq_of_pairwise (le := fun a b => ¬ b.cps.toList < a.cps.toList) (fun a b _ _ h1 h2 => cps_inj (by
    exact List.le_antisymm (List.not_lt.mp h1) (List.not_lt.mp h2))) (sorted_pw h1) (sorted_pw h2)
theorem perm_of_mem {xs ys : List Str} (h1 : xs.Nodup) (h2 : ys.Nodup) (h : ∀ x, x ∈ xs ↔ x ∈ ys) : xs.Perm ys := (List.perm_ext_iff_of_nodup h1 h2).mpr fun a => h a
/-- the same members, both ascending, none twice -/
theorem ascending_eq {xs ys : List Str} (h1 : xs.Nodup) (h2 : ys.Nodup) (h : ∀ x, x ∈ xs ↔ x ∈ ys) (s1 : sortedS xs = true) (s2 : sortedS ys = true) : xs = ys := sorted_eq (perm_of_mem h1 h2 h) s1 s2
theorem prod_perm {xs ys : List Nat} (h : xs.Perm ys) : xs.prod = ys.prod := h.prod_nat
theorem map_range {α β : Type} (xs : List α) (d : α) (f : α → β) : (List.range xs.length).map (fun i => f (xs.getD i d)) = xs.map f := by
  refine List.ext_getElem? fun i => ?_
  rw [List.getElem?_map, List.getElem?_map]
  by_cases h : i < xs.length
  · rw [List.getElem?_range h, List.getElem?_eq_getElem h]
    show some (f (xs.getD i d)) = some (f xs[i])
    rw [getD_of (List.getElem?_eq_getElem h)]
  · rw [List.getElem?_eq_none (by rw [List.length_range]; omega), List.getElem?_eq_none (by omega)]
    rfl
theorem filter_true {α : Type} (l : List α) : l.filter (fun _ => true) = l := List.filter_eq_self.mpr fun _ _ => rfl
def rSortDIS : List V → Hp → VK → Prop := fun xs H Q => rSortDI xs H Q ∨ rSortDS xs H Q
theorem call_sortDIS {X : Cx} (hc : X.calm = true) : CallR X (.builtin "sorted") rSortDIS := (call_sortedDI hc).or (call_sortDS1 hc)
theorem put_int {kvs : List (Key × V)} {ks : List Int} {x : Int} {v : V} (h : kvs.map (·.1) = ks.map Sum.inl) : ∃ js : List Int, (putK kvs (Sum.inl x) v).map (·.1) = js.map Sum.inl ∧ js.length ≤ ks.length + 1 ∧ ∀ y ∈ js, y ∈ ks ∨ y = x := by
  unfold putK
  by_cases hm : (kvs.any fun kv => decide (kv.1 = (Sum.inl x : Key))) = true
  · refine ⟨ks, ?_, by omega, fun y hy => .inl hy⟩
    rw [if_pos hm, List.map_map, ← h]
    refine List.map_congr_left fun kv _ => ?_
    show (if kv.1 = Sum.inl x then (kv.1, v) else kv).1 = kv.1
    split <;> rfl
  · refine ⟨ks ++ [x], ?_, by simp, fun y hy => ?_⟩
    · rw [if_neg hm, List.map_append, List.map_append, h]
      rfl
    · rcases List.mem_append.mp hy with z | z
      · exact .inl z
      · exact .inr (List.mem_singleton.mp z)
section
variable {σ : L2.St} {H1 : Hp} {Q : VK} {K : PySem.W.Frag} {g : TG} {tt : TT} {tk tv : TE} {vs : List Nat}
/-- a dict over a list -/
def kDcL (K : PySem.W.Frag) (g : TG) (tt : TT) (tk tv : TE) (vs : List Nat) (σ : L2.St) (Q : VK) (x : V) (H1 : Hp) : Prop := ∃ a, x = .ref a ∧ (∃ xs, SqL K H1 a xs) ∧ kDc (Itl K a) g tt tk tv vs σ Q H1
theorem w_dcL {tl : TE} (h : tl σ H1 (kDcL K g tt tk tv vs σ Q)) : tDc (iList K tl) g tt tk tv vs σ H1 Q := h
theorem w_inT {x : V} {p : Addr} {xs : List V} {H : Hp} (h : H p = some (.tup xs)) (hx : flatV x = true) (ha : xs.all flatV = true) (q : Q (.bl (inV x xs)) H) : rIn K false x (.ref p) H Q := ⟨p, xs, rfl, .inr (SqT.of h), hx, ha, q⟩
theorem w_inL {x : V} {p : Addr} {xs : List V} {H : Hp} (h : H p = some (.lst xs)) (hx : flatV x = true) (ha : xs.all flatV = true) (q : Q (.bl (inV x xs)) H) : rIn K false x (.ref p) H Q := ⟨p, xs, rfl, .inl (SqL.of h), hx, ha, q⟩
theorem w_lc2' {tl tc : TE} {i j : Nat} {vs vs1 : List Nat} {H : Hp} (h : tl σ H (kLc2 K i j tc vs vs1 σ Q)) : tLc2 (iTup K tl) (gName i) tYes (iList K tc) (gName j) tYes (tVar j) vs vs1 σ H Q := h
end
/-- a call without arguments -/
theorem pe_cal0 {X : Cx} {x : Str} {k : Nat} {ps : List Str} {sp : Sp} {p pos : Pos} (C : Cal X.prog X.w X.K X.mg X.base x k ps sp) (hr : Room k X.A) (hg : Gl X x) (hdb : (x == ("__debug__" : Str)) = false := by decide) : PE X (.Call (.Name x p) [] [] pos) (tCall sp [] E0 tNil) := by
  refine ⟨fun pins s σ H Q I h => ?_⟩
  obtain ⟨f, fd, F, hk, hb, hm⟩ := C.ex
  exact (pe_call0 F hr hg hm hk hb .nil pass0 hdb).run pins s σ H Q I h
end AW
/-! sorted(d) of a dict whose keys are tuples of ints -/
namespace AW
open PySem PySem.Spec PyProof.Rows L2 RZ PySem.W
/-- what a key's object stands for -/
def RowIs (H : Hp) (p : Addr × List Int) : Prop := H p.1 = some (.tup (p.2.map V.int)) ∧ p.2 ≠ []
theorem rows_reads {h : Heap} : ∀ {us : List Value} {ns : List Int}, Vals (ns.map V.int) us → ReadsAll h us (ns.map .int) []
  | _, [], r => by
    cases r
    exact .nil
  | _, n :: ns, r => by
    cases r with
    | cons h1 h2 =>
      obtain ⟨t, rfl⟩ := h1
      exact .cons (as := []) (bs := []) (.int n t) (rows_reads h2)
def encR (p : Addr × List Int) : PyData := .tuple (p.2.map .int)
theorem row_reads {P : Program} {w : World} {H : Hp} {h : Heap} (ok : HOk P w H h) {p : Addr × List Int} (r : RowIs H p) : Reads h (.ref p.1) (encR p) [] := by
  obtain ⟨_, its, rv, o, ho, hc, n, hd⟩ := ok _ _ r.1
  exact .tuple ho hc hd (rows_reads rv)
theorem each_refs {R : Value → (Addr × List Int) → Prop} : ∀ {bs : List (Addr × List Int)}, (∀ b ∈ bs, R (.ref b.1) b) → EachIs R (bs.map fun b => Value.ref b.1) bs
  | [], _ => .nil
  | b :: bs, h => .cons (h b (List.mem_cons_self ..)) (each_refs fun x hx => h x (List.mem_cons_of_mem _ hx))
theorem refs_each : ∀ {out : List Value} {bs : List (Addr × List Int)}, EachIs (fun v b => v = Value.ref b.1) out bs → out = (bs.map (·.1)).map Value.ref
  | _, _, .nil => rfl
  | _, _, .cons h t => by rw [h, refs_each t]; rfl
theorem rowsKey : ∀ {kvs : List (List L2.Key × V)} {bs : List Addr} {H : Hp}, IsKeys H kvs bs → (∀ p ∈ kvs, ∃ ns : List Int, ns ≠ [] ∧ p.1 = ns.map Sum.inl) → ∃ ps : List (Addr × List Int), ps.map (·.1) = bs ∧ (∀ p ∈ ps, RowIs H p) ∧ kvs.map (·.1) = ps.map fun p => p.2.map Sum.inl
  | _, _, H, .nil, _ => ⟨[], rfl, fun p h => (List.not_mem_nil h).elim, rfl⟩
  | kv :: kvs, b :: bs, H, .cons h t, g => by
    obtain ⟨ps, h1, h2, h3⟩ := rowsKey t fun p hp => g p (List.mem_cons_of_mem _ hp)
    obtain ⟨ns, n0, e⟩ := g kv (List.mem_cons_self ..)
    refine ⟨(b, ns) :: ps, by rw [← h1]; rfl, fun p hp => ?_, by rw [List.map_cons, List.map_cons, h3, e]⟩
    rcases List.mem_cons.mp hp with z | z
    · rw [z]
      refine ⟨?_, n0⟩
      have h' : H b = some (.tup (kv.1.map kV)) := h
      rw [e, List.map_map] at h'
      exact h'
    · exact h2 p z
def rSortDT : List V → Hp → VK → Prop := fun xs H Q => ∃ (d : Addr) (kvs : List (List L2.Key × V)), xs = [V.ref d] ∧ Rd H d (.dT kvs) ∧ (∀ p ∈ kvs, ∃ ns : List Int, ns ≠ [] ∧ p.1 = ns.map Sum.inl) ∧ kvs.length ≤ 100000 ∧
  ∀ (p : Addr) (ps : List (Addr × List Int)), H p = none → (∀ q ∈ ps, RowIs H q) → (ps.map fun q => q.2.map Sum.inl).Perm (kvs.map (·.1)) → Q (.ref p) (upd H p (.lst (ps.map fun q => V.ref q.1)))
theorem call_sortedDT {X : Cx} (hc : X.calm = true) (hu : X.A.units + 64 < cLine) : CallR X (.builtin "sorted") rSortDT := by
  intro pins s σ H xs us Q I r h
  obtain ⟨d, kvs, rfl, hd, hkey, hlen, q⟩ := h
  obtain ⟨u, rfl, rx⟩ := r.one
  cases rx
  obtain ⟨z, hs, ks, pr, o, es, ep, ho, hx, hdt, he, hn⟩ := (show ObjOk X.prog X.w H s.heap d (.dT kvs) from hd.ok I.hok)
  have l1 : es.size = ks.length := size_of_entries he
  have l2 : kvs.length = ks.length := Paired.length pr
  have h16 : es.size ≤ sizeLine := by rw [l1, ← l2, sizeLine_eq]; omega
  obtain ⟨ps, e1, e2, e3⟩ := rowsKey (isKeys_of pr) hkey
  refine Calls.call_function_entry PyProof.Rows.kind_sorted PyProof.Rows.plain_sorted PyProof.Rows.entry_sorted (PyProof.Rows.args_sorted1 _) ?_
  unfold Builtin.«sorted»
  refine wpAny_bind (m := checkCount "sorted" 1 1 _) (wpAny_pure ?_)
  refine wpAny_bind (PySem.W.kdu_collect (A := X.A.in1) (kdl_raw hs hx hdt) (I.ok.hd hc) ho h16 fun h' tk acc' hk it => ?_)
  have ea : acc'.toList = ks.map fun x => Value.ref x.2.1 := by
    have hl : acc'.toList.length = ks.length := by rw [Array.length_toList, it.1]; exact l1
    apply List.ext_getElem?
    intro j
    rw [List.getElem?_map]
    cases hj : acc'.toList[j]? with
    | none =>
      have h1 := List.getElem?_eq_none_iff.mp hj
      rw [List.getElem?_eq_none (by omega)]
      all_goals rfl
    | some v =>
      obtain ⟨en, hen, hv⟩ := it.2 j v (by rw [← Array.getElem?_toList]; exact hj)
      have qe := entry_at he j
      rw [hen] at qe
      cases hb : ks[j]? with
      | none =>
        rw [hb] at qe
        exact nomatch (show some en = none from qe)
      | some b =>
        rw [hb] at qe
        have e2 : en = entryOfKey (tupleKind (mixKind X.prog X.w)) b := Option.some.inj qe
        rw [hv, e2]
        all_goals rfl
  have eb : acc'.toList = ps.map fun b => Value.ref b.1 := by
    rw [ea]
    have : ks.map (fun x => Value.ref x.2.1) = (ks.map fun x => x.2.1).map Value.ref := by rw [List.map_map]; rfl
    rw [this, ← e1, List.map_map]
    rfl
  have hal : acc'.toList.length = ps.length := by rw [eb, List.length_map]
  have hpl : ps.length = kvs.length := by
    have := congrArg List.length e3
    rw [List.length_map, List.length_map] at this
    omega
  have hz : ps.length ≤ sizeLine := by rw [sizeLine_eq]; omega
  have I1 : Inv X pins σ H { s with heap := h', toks := tk } := I.kept hk
  refine wpAny_bind (wpAny_newList ?_ (by rw [hal]; exact hz))
  have hoL : (h'.push (seqObj "list" acc'.toList.toArray 0)).get? h'.objs.size = some (seqObj "list" acc'.toList.toArray 0) := Heap.get?_push_size _ rfl
  show wpAny _ _ _ _ _ { s with heap := h'.push (seqObj "list" acc'.toList.toArray 0), toks := tk }
  have hrd : ∀ b ∈ ps, Reads (h'.push (seqObj "list" acc'.toList.toArray 0)) (.ref b.1) (encR b) [] := fun b hb => PyProof.Rows.Reads.keeps (fun _ _ e => Heap.get?_push_of_some _ e) (row_reads I1.hok (e2 b hb))
  have eo : EachIs (fun v (b : Addr × List Int) => v = Value.ref b.1) acc'.toList ps := by rw [eb]; exact each_refs fun _ _ => rfl
  have er : EachIs (fun v (b : Addr × List Int) => ∃ as, Reads (h'.push (seqObj "list" acc'.toList.toArray 0)) v (encR b) as ∧ h'.objs.size ∉ as) acc'.toList ps := by
    have q := each_refs (R := fun v (b : Addr × List Int) => ∃ as, Reads (h'.push (seqObj "list" acc'.toList.toArray 0)) v (encR b) as ∧ h'.objs.size ∉ as) (bs := ps) fun b hb => ⟨[], hrd b hb, List.not_mem_nil⟩
    rw [← eb] at q
    exact q
  refine wpAny_bind (wpAny_holding (list_sort_data (s := { s with heap := h'.push (seqObj "list" acc'.toList.toArray 0), toks := tk }) (enc := encR) hoL eo er (AllAlike.of fun b b' => ?_) (.inl fun d hd => ?_) hz (fun b _ => ?_) fun out hol hout => ?_))
  · show alike (.tuple (b.2.map .int)) (.tuple (b'.2.map .int)) = true
    rw [alike]
    exact alike_ints _ _
  · obtain ⟨b, hb, rfl⟩ := List.mem_map.mp hd
    cases hb2 : b.2 with
    | nil => exact absurd hb2 (e2 b hb).2
    | cons x r => exact ⟨.int x, r.map .int, by unfold encR; rw [hb2]; rfl⟩
  · show X.A.units + 1 + 1 + (PyData.tuple (b.2.map .int)).depth < cLine
    rw [PyData.depth, depth_ints]
    omega
  · have eout := refs_each hout
    have hperm := List.mergeSort_perm ps (dataLe false encR)
    generalize ps.mergeSort (dataLe false encR) = qs at eout hperm hout
    obtain ⟨e', he'⟩ := PyProof.Rows.sortedHeap_at (vs := acc'.toList) (out := out.toArray) hoL
    have hlen' : (qs.map fun q => V.ref q.1).length ≤ sizeLine := by rw [List.length_map, hperm.length_eq]; exact hz
    have rv : Vals (qs.map fun q => V.ref q.1) out := by
      rw [eout, show (qs.map fun q => V.ref q.1) = (qs.map (·.1)).map V.ref by rw [List.map_map]; rfl]
      exact vals_refs _
    refine wpAny_pure ⟨_, rfl, .ref h'.objs.size, upd H h'.objs.size (.lst (qs.map fun q => V.ref q.1)), I1.laid (t' := tk) (fun b u e => ?_) (Nat.le_refl _)
      (show ObjOk X.prog X.w _ _ _ (.lst (qs.map fun q => V.ref q.1)) from ⟨hlen', out, e', rv, he'⟩), rfl, q _ qs (I1.hok.fresh (Nat.le_refl _)) (fun p hp => e2 p (hperm.mem_iff.mp hp)) ?_⟩
    · have hb : b < h'.objs.size := Heap.lt_size e
      rw [PyProof.Rows.sortedHeap_old (Nat.ne_of_lt hb) (by rw [size_push']; exact Nat.lt_succ_of_lt hb)]
      exact Heap.get?_push_of_some _ e
    · rw [e3]
      exact hperm.map _
end AW
/-! max(t), sum(t), t a tuple of ints -/
namespace AW
open PySem PySem.Spec PyProof.Rows L2 RZ PySem.W
def rMaxT (K : PySem.W.Frag) : List V → Hp → VK → Prop := fun vs H Q => ∃ (a : Addr) (ns : List Int), vs = [V.ref a] ∧ SqT K H a (ns.map V.int) ∧ 0 < ns.length ∧ ∀ m, m ∈ ns → Q (.int m) H
theorem alike_ints (ns : List Int) : AlikeAll (ns.map PyData.int) :=
  ⟨fun x hx y hy => by
    obtain ⟨a, _, rfl⟩ := List.mem_map.mp hx
    obtain ⟨b, _, rfl⟩ := List.mem_map.mp hy
    rfl, fun x hx => by
    obtain ⟨a, _, rfl⟩ := List.mem_map.mp hx
    exact fun z => by cases z⟩
theorem call_maxT {X : Cx} (hc : X.calm = true) (hu : X.A.units + 64 < cLine) : CallR X (.builtin "max") (rMaxT X.K) := by
  rintro pins s σ H _ us Q I r ⟨a, ns, rfl, hs, h0, q⟩
  obtain ⟨its, rv, pl, hz⟩ := I.tuple hs
  rw [Vals.ref1 r]
  cases ns with
  | nil => exact absurd h0 (Nat.lt_irrefl 0)
  | cons n ns =>
    have hd := deep_ints (n :: ns)
    refine max_tuple_data (I.ok.hd hc) pl (x := .int n) (xs := ns.map .int) (as := []) (by simpa using rows_reads (h := s.heap) (ns := n :: ns) (by simpa using rv)) (alike_ints (n :: ns)) (by have e : PyData.depthAll (.int n :: ns.map .int) ≤ 1 := hd; omega) fun i v h' tk bs hv _ hk => ?_
    have hv2 : its[i]? = some v := by simpa using hv
    have hi : i < its.length := (List.getElem?_eq_some_iff.mp hv2).1
    have hl : (n :: ns).length = its.length := by have := rv.length; rw [List.length_map] at this; exact this
    obtain ⟨m, hm⟩ := get_some (xs := n :: ns) (i := i) (by omega)
    have hx : ((n :: ns).map V.int)[i]? = some (.int m) := by rw [List.getElem?_map, hm]; rfl
    obtain ⟨u, hu1, hu2⟩ := rv.get hx
    rw [hv2] at hu1
    cases hu1
    exact ⟨.int m, H, I.kept hk, hu2, q m (List.mem_of_getElem? hm)⟩
def rSumT (K : PySem.W.Frag) : List V → Hp → VK → Prop := fun vs H Q => ∃ (a : Addr) (ns : List Int), vs = [V.ref a] ∧ SqT K H a (ns.map V.int) ∧ Q (.int ns.sum) H
theorem call_sumT {X : Cx} (hc : X.calm = true) : CallR X (.builtin "sum") (rSumT X.K) := by
  rintro pins s σ H _ us Q I r ⟨a, ns, rfl, hs, q⟩
  obtain ⟨its, rv, pl, hz⟩ := I.tuple hs
  rw [Vals.ref1 r]
  have hi := rv.ints
  obtain ⟨xs, e⟩ := hi.allInts.items
  have hn : numsOf (intItems xs).toList = ns := by rw [← e]; exact hi.numsOf
  rw [nums_intItems] at hn
  rw [e] at pl
  refine ktm_sumG (I.ok.hd hc) pl fun h' tk t' hk => ?_
  rw [preSum_eq, List.take_of_length_le (by simp), hn]
  exact ⟨.int _, H, I.kept hk, ⟨_, rfl⟩, q⟩
end AW
namespace AW
open PySem PySem.Spec PyProof.Rows L2 RZ
local macro_rules | `(tactic| walk_at "aw1") => `(tactic| first
  | (with_reducible refine w_seq ?_) | (with_reducible refine w_asg ?_) | (with_reducible refine w_gname ?_) | (with_reducible refine w_op ?_) | (with_reducible refine w_un ?_)
  | ((with_reducible refine' w_var ?h ?_); (case h => rfl)) | (with_reducible refine w_c ?_)
  | (with_reducible refine w_I0 ?_) | (with_reducible refine w_U ?_) | (with_reducible refine w_cb ?_) | (with_reducible refine w_nil ?_) | (with_reducible refine w_cons ?_) | (with_reducible refine w_call ?_)
  | (with_reducible refine w_test ?_) | (with_reducible refine w_B ?_) | (with_reducible refine w_bl ?_) | (with_reducible refine w_not ?_) | (with_reducible refine w_yes ?_) | (with_reducible refine iteT ?_) | (with_reducible refine iteF ?_) | (with_reducible refine w_and ?_) | (with_reducible refine w_or ?_)
  | (with_reducible refine w_andV ?_) | (with_reducible refine w_orV ?_) | (with_reducible refine w_notV ?_) | (with_reducible refine w_if ?_)
  | (with_reducible refine w_int1 ?_) | (with_reducible refine w_int1b ?_) | (with_reducible refine w_abs ?_) | (with_reducible refine w_max2 ?_) | (with_reducible refine w_min2 ?_)
  | ((with_reducible refine w_eq ?h ?_); (case h => rfl)) | ((with_reducible refine w_ne ?h ?_); (case h => rfl)) | (with_reducible refine w_isN ?_) | (with_reducible refine w_isB ?_) | (with_reducible refine w_chain ?_)
  | (with_reducible refine w_ret ?_) | (with_reducible refine w_drop ?_) | (with_reducible refine w_ifS ?_) | (with_reducible refine w_gsub ?_) | (with_reducible refine w_augS ?_) | (with_reducible refine w_ipI ?_) | (with_reducible refine w_next ?_)
  | (with_reducible refine w_forR ?_) | (with_reducible refine w_forR2 ?_) | (with_reducible refine w_forL ?_) | (with_reducible refine w_forT ?_) | (with_reducible refine w_lcR ?_) | (with_reducible refine w_lcL ?_) | (with_reducible refine w_lcT ?_) | (with_reducible refine w_sl ?_) | (with_reducible refine w_part ?_) | (with_reducible refine w_noPart ?_) | (with_reducible refine w_in ?_)
  | (with_reducible refine w_gcons ?_) | (with_reducible refine w_gnil ?_) | (with_reducible refine w_lc3 ?_) | (with_reducible refine w_dcZ ?_) | (with_reducible refine w_dcT ?_) | (with_reducible refine w_dg ?_) | (with_reducible refine w_callK ?_) | (with_reducible refine w_dput ?_) | (with_reducible refine w_tup1 ?_)
  | (with_reducible refine w_tup ?_) | (with_reducible refine w_lst ?_)
  | ((with_reducible refine w_I ?h ?_); (case h => first | (exact Or.inr ⟨by decide, by decide⟩) | (exact Or.inl ⟨by decide, by decide⟩) | (show (0 : Int) < _; decide) | (exact ⟨by decide, by decide, by decide⟩) | assumption)))
local macro_rules | `(tactic| walk_at "aw") => `(tactic| repeat (walk_at "aw1"))
/-! ### the draws: what each promises -/
def sp__law_bag (K : PySem.W.Frag) : Sp := fun vs H Q _ => ∃ (a : Addr) (ns : List Int), vs = [.ref a] ∧ SqL K H a (ns.map V.int) ∧ ns.length ≤ 63 ∧ ∀ st cs H', StOk st cs H' → Adv [] H H' → H st = none → Q (.ref st) H'
def sp__law_draw (_ : PySem.W.Frag) : Sp := fun vs H Q _ => ∃ (st : Addr) (lim : Int), vs = [.ref st, .int lim] ∧ ∃ cs, StOk st cs H ∧ 0 < lim ∧ lim < 1073741824 ∧ ∀ n H', 0 ≤ n → n < lim → Go st cs H H' → Q (.int n) H'
def sp__law_pick (K : PySem.W.Frag) : Sp := fun vs H Q _ => ∃ (st p : Addr), vs = [.ref st, .ref p] ∧ ∃ cs xs, StOk st cs H ∧ ((SqL K H p xs ∧ Off p st cs) ∨ H p = some (.tup xs)) ∧ 0 < xs.length ∧ xs.length < 1000000 ∧ ∀ (i : Nat) v H', xs[i]? = some v → Go st cs H H' → Q v H'
/-- what is drawn from: a list, a tuple, a text -/
def Src (K : PySem.W.Frag) (H : Hp) (v : V) (xs : List V) : Prop := (∃ p, v = .ref p ∧ (SqL K H p xs ∨ SqT K H p xs)) ∨ ∃ x : Str, v = .str x ∧ x.cps.size ≤ 1000 ∧ xs = (signsOf x).map V.str
def sp__law_some (K : PySem.W.Frag) : Sp := fun vs H Q _ => ∃ (st : Addr) (t : V) (m : Nat), vs = [.ref st, t, .int (m : Nat)] ∧ ∃ cs xs, StOk st cs H ∧ Src K H t xs ∧ m ≤ xs.length ∧ xs.length ≤ 1000 ∧ ∀ q made left H', (made ++ left).Perm xs → made.length = m → H q = none → Go st cs H H' → H' q = some (.lst made) → Q (.ref q) H'
def t__law_bag (K : PySem.W.Frag) : TS := (tSeq (tAsg (tOp rCat (tLc (iList K (tVar 0)) (gName 2) tYes (tCB rAbs (tCons (tCB rInt1 (tCons (tVar 2) tNil)) tNil)) [2]) (tLst (tCons (tC (.int 7)) tNil))) (gName 1))
  (tSeq (tAsg (tLst tNil) (gName 3))
  (tSeq (tIfS (tTest (tOp rEq (tOp rModI (tCB rInt1 (tCons (tOp (rIxL K) (tVar 1) (tC (.int 0))) tNil)) (tC (.int 2))) (tC (.int 0)))) (tSeq (tAsg (tLc (iList K (tVar 1)) (gName 2) (tTest (tOp rGeI (tVar 2) (tOp rPowI (tC (.int 10)) (tC (.int 18))))) (tOp rDivI (tVar 2) (tC (.int 2))) [2]) (gName 3))
  (tDrop (tBM0 K "list" rReverse (tVar 3)))) tNext)
  (tRet (tLst (tCons (tC (.int 0)) (tCons (tC (.int 0)) (tCons (tVar 3) (tCons (tLc (iList K (tVar 1)) (gName 2) tYes (tOp rModI (tCB rInt1 (tCons (tVar 2) tNil)) (tC (.int 2147483647))) [2]) tNil)))))))))
def t__law_draw (K : PySem.W.Frag) : TS := (tSeq (tAsg (tOp rAddI (tOp (rIxL K) (tVar 0) (tC (.int 1))) (tC (.int 1))) (gSub (tVar 0) (tC (.int 1)) rSetL))
  (tSeq (tIfS (tAnd (tTest (tOp rEq (tOp (rIxL K) (tVar 0) (tC (.int 0))) (tC (.int 0)))) (tTest (tOp rGtI (tCB (rLen1 K) (tCons (tOp (rIxL K) (tVar 0) (tC (.int 2))) tNil)) (tC (.int 0))))) (tAsg (tBM0 K "list" rPop (tOp (rIxL K) (tVar 0) (tC (.int 2)))) (gSub (tVar 0) (tC (.int 0)) rSetL)) tNext)
  (tSeq (tIfS (tTest (tOp rGtI (tOp (rIxL K) (tVar 0) (tC (.int 0))) (tC (.int 0)))) (tSeq (tAsg (tOp rModI (tCB rInt1 (tCons (tOp (rIxL K) (tVar 0) (tC (.int 0))) tNil)) (tVar 1)) (gName 2))
  (tSeq (tAsg (tOp rDivI (tOp (rIxL K) (tVar 0) (tC (.int 0))) (tVar 1)) (gSub (tVar 0) (tC (.int 0)) rSetL))
  (tRet (tVar 2)))) tNext)
  (tSeq (tAsg (tOp (rIxL K) (tOp (rIxL K) (tVar 0) (tC (.int 3))) (tOp rModI (tCB rInt1 (tCons (tOp (rIxL K) (tVar 0) (tC (.int 1))) tNil)) (tCB (rLen1 K) (tCons (tOp (rIxL K) (tVar 0) (tC (.int 3))) tNil)))) (gName 3))
  (tSeq (tAsg (tOp rModI (tCB rInt1 (tCons (tOp rAddI (tOp rAddI (tOp rMulI (tVar 3) (tC (.int 48271))) (tOp rMulI (tOp (rIxL K) (tVar 0) (tC (.int 1))) (tC (.int 69621)))) (tC (.int 1))) tNil)) (tC (.int 2147483647))) (gName 4))
  (tRet (tOp rModI (tOp rDivI (tOp rModI (tCB rInt1 (tCons (tOp rAddI (tOp rAddI (tOp rMulI (tVar 4) (tVar 4)) (tOp rMulI (tVar 4) (tC (.int 16807)))) (tOp rMulI (tOp (rIxL K) (tVar 0) (tC (.int 1))) (tC (.int 40014)))) tNil)) (tC (.int 2147483629))) (tC (.int 32))) (tVar 1))))))))
def t__law_pick (K : PySem.W.Frag) : TS := (tRet (tOp (rIxA K) (tVar 1) (tCall (sp__law_draw K) [] E0 (tCons (tVar 0) (tCons (tCB (rLen1 K) (tCons (tVar 1) tNil)) tNil)))))
def t__law_some (K : PySem.W.Frag) : TS := (tSeq (tAsg (tCB (rListOfA K) (tCons (tVar 1) tNil)) (gName 3))
  (tSeq (tAsg (tLst tNil) (gName 4))
  (tSeq (tFor (iRng1 (tCons (tVar 2) tNil)) (gName 5)
  (tDrop (tBM K "list" rAppend (tVar 4) (tCons (tBM K "list" rPopAt (tVar 3) (tCons (tCall (sp__law_draw K) [] E0 (tCons (tVar 0) (tCons (tCB (rLen1 K) (tCons (tVar 3) tNil)) tNil))) tNil)) tNil))))
  (tRet (tVar 4)))))
theorem len__law_bag {K : PySem.W.Frag} : ∀ (vs : List V) (H : Hp) (Q : VK) (E : XK), sp__law_bag K vs H Q E → vs.length = 1 := fun vs H Q E h => by
  obtain ⟨_, _, rfl, _⟩ := h
  rfl
theorem pure__law_bag {K : PySem.W.Frag} (vs : List V) (H : Hp) (Q : VK) (E : XK) (h : sp__law_bag K vs H Q E) : t__law_bag K { nx := fun _ H' => Q .non H', rt := Q } (start ["script", "cells", "cell", "great"] vs) H := by
  obtain ⟨a, ns, rfl, hs, hl, q⟩ := h
  show t__law_bag K _ [some (.ref a), none, none, none] H
  unfold t__law_bag
  walk_at "aw"
  refine ⟨a, rfl, ⟨_, hs⟩, kLc_pure walk_list (by rw [List.length_map]; omega) (fun H' a' => a'.sql (fun z => nomatch z) hs) (fun _ => true) (fun i => .int (if ns.getD i 0 < 0 then -(ns.getD i 0) else ns.getD i 0)) (fun i x H2 H' Kt Kf hi g1 y kt kf => ?_) fun p H2 np a2 e2 => ?_⟩
  · obtain ⟨rfl, e⟩ := y
    rw [List.getElem?_map] at e
    obtain ⟨n, hn, rfl⟩ := Option.map_eq_some_iff.mp e
    walk_at "aw"
    refine ⟨rfl, ?_⟩
    walk_at "aw"
    have := kt rfl _ (.refl _ _)
    rw [getD_of hn] at this
    exact this
  have he : ((List.range (ns.map V.int).length).filter fun _ => true).map (fun i => V.int (if ns.getD i 0 < 0 then -(ns.getD i 0) else ns.getD i 0)) = ((List.range ns.length).map fun i => if ns.getD i 0 < 0 then -(ns.getD i 0) else ns.getD i 0).map V.int := by
    rw [List.length_map, List.filter_eq_self.mpr (by simp), List.map_map]
    rfl
  rw [he] at e2
  generalize hms : (List.range ns.length).map (fun i => if ns.getD i 0 < 0 then -(ns.getD i 0) else ns.getD i 0) = ms at e2
  have hml : ms.length = ns.length := by rw [← hms, List.length_map, List.length_range]
  have hm0 : ∀ x ∈ ms, 0 ≤ x := by
    intro x hx
    rw [← hms] at hx
    obtain ⟨i, _, rfl⟩ := List.mem_map.mp hx
    split <;> omega
  clear hms he
  walk_at "aw"
  refine w_lstD (by simp) fun c H3 nc a3 e3 => ?_
  walk_at "aw"
  refine w_cat (a3.keep _ _ (fun z => nomatch z) e2) e3 (by simp; omega) fun g H4 ng a4 e4 => ?_
  have e4' : H4 g = some (.lst ((ms ++ [7]).map V.int)) := by rw [e4, List.map_append]; rfl
  clear e4
  generalize hcs : ms ++ [7] = zs at e4'
  have hzl : zs.length = ns.length + 1 := by rw [← hcs, List.length_append, hml]; rfl
  have hz0 : ∀ x ∈ zs, 0 ≤ x := by
    intro x hx
    rw [← hcs] at hx
    rcases List.mem_append.mp hx with hx | hx
    · exact hm0 x hx
    · rw [List.mem_singleton.mp hx]; decide
  have A4 : Adv [] H H4 := (a2.trans a3).trans a4
  clear hcs hm0 hml e2 e3
  walk_at "aw"
  refine w_lstD (by simp) fun r H5 nr a5 e5 => ?_
  walk_at "aw"
  have e45 : H5 g = some (.lst (zs.map V.int)) := a5.keep _ _ (fun z => nomatch z) e4'
  have fin : ∀ (H6 : Hp) (r : Addr) (y : Option V) (gs : List Int), Adv [] H H6 → H6 g = some (.lst (zs.map V.int)) → H6 r = some (.lst (gs.map V.int)) → gs.length ≤ 100 → r ≠ g → (tRet (tLst (tCons (tC (.int 0)) (tCons (tC (.int 0)) (tCons (tVar 3) (tCons (tLc (iList K (tVar 1)) (gName 2) tYes (tOp rModI (tCB rInt1 (tCons (tVar 2) tNil)) (tC (.int 2147483647))) [2]) tNil)))))) { nx := fun _ H' => Q .non H', rt := Q } [some (.ref a), some (.ref g), y, some (.ref r)] H6 := by
    intro H6 r y gs a6 eg er hgs hrg
    walk_at "aw"
    refine ⟨g, rfl, ⟨_, SqL.of eg⟩, kLc_pure walk_list (by rw [List.length_map]; omega) (fun H' a' => SqL.of (a'.keep _ _ (fun z => nomatch z) eg)) (fun _ => true) (fun i => .int (zs.getD i 0 % 2147483647)) (fun i x H2 H' Kt Kf hi g1 y kt kf => ?_) fun p H7 np a7 e7 => ?_⟩
    · obtain ⟨rfl, e⟩ := y
      rw [List.getElem?_map] at e
      obtain ⟨n, hn, rfl⟩ := Option.map_eq_some_iff.mp e
      walk_at "aw"
      refine ⟨rfl, ?_⟩
      walk_at "aw"
      have := kt rfl _ (.refl _ _)
      rw [getD_of hn] at this
      exact this
    have he : ((List.range (zs.map V.int).length).filter fun _ => true).map (fun i => V.int (zs.getD i 0 % 2147483647)) = ((List.range zs.length).map fun i => zs.getD i 0 % 2147483647).map V.int := by
      rw [List.length_map, List.filter_eq_self.mpr (by simp), List.map_map]
      rfl
    rw [he] at e7
    have er7 := a7.keep _ _ (fun z => nomatch z) er
    walk_at "aw"
    refine w_lstD (by simp) fun st H8 n8 a8 e8 => ?_
    refine q st (r, p) H8 ⟨0, 0, gs, _, e8, a8.keep _ _ (fun z => nomatch z) er7, a8.keep _ _ (fun z => nomatch z) e7, by rw [List.length_map, List.length_range]; omega, by rw [List.length_map, List.length_range]; omega, hgs, ne_of_none er7 n8, ne_of_none e7 n8, (ne_of_none er np).symm, fun x hx => ?_⟩ ((a6.trans a7).trans a8) ?_
    · obtain ⟨i, _, rfl⟩ := List.mem_map.mp hx
      omega
    · exact a6.free (fun z => nomatch z) (a7.free (fun z => nomatch z) n8)
  have hrg : r ≠ g := (ne_of_none e4' nr).symm
  obtain ⟨c0, zt, hzs⟩ : ∃ c0 zt, zs = c0 :: zt := by
    cases zs with
    | nil => simp at hzl
    | cons c0 zt => exact ⟨c0, zt, rfl⟩
  refine w_ixL (SqL.of e45) (v := .int c0) (at_nat (n := 0) (by decide) (by rw [hzs]; rfl)) ?_
  walk_at "aw"
  refine w_iteB (fun _ => ?_) fun _ => ?_
  · walk_at "aw"
    refine ⟨g, rfl, ⟨_, SqL.of e45⟩, kLc_pure walk_list (by rw [List.length_map]; omega) (fun H' a' => SqL.of (a'.keep _ _ (fun z => nomatch z) e45)) (fun i => decide ((10 : Int) ^ (18 : Int).toNat ≤ zs.getD i 0)) (fun i => .int (zs.getD i 0 / 2)) (fun i x H2 H' Kt Kf hi g1 y kt kf => ?_) fun p H7 np a7 e7 => ?_⟩
    · obtain ⟨rfl, e⟩ := y
      rw [List.getElem?_map] at e
      obtain ⟨n, hn, rfl⟩ := Option.map_eq_some_iff.mp e
      rw [getD_of hn] at kt kf
      walk_at "aw"
      refine ⟨rfl, ?_⟩
      walk_at "aw"
      refine w_iteB (fun hc => ?_) fun hc => ?_
      · walk_at "aw"
        exact w_I ⟨by decide, by decide⟩ (kt (decide_eq_true hc) _ (.refl _ _))
      · exact kf (decide_eq_false hc) _ (.refl _ _)
    walk_at "aw"
    refine ⟨.ref p, rfl, .inl ⟨rfl, _, SqL.of e7⟩, ?_⟩
    walk_at "aw"
    refine ⟨p, _, rfl, rfl, e7, ?_⟩
    show (tRet (tLst (tCons (tC (.int 0)) (tCons (tC (.int 0)) (tCons (tVar 3) (tCons (tLc (iList K (tVar 1)) (gName 2) tYes (tOp rModI (tCB rInt1 (tCons (tVar 2) tNil)) (tC (.int 2147483647))) [2]) tNil)))))) { nx := fun _ H' => Q .non H', rt := Q } [some (.ref a), some (.ref g), _, some (.ref p)] _
    have npg : p ≠ g := (ne_of_none e45 np).symm
    have he : ((((List.range (zs.map V.int).length).filter fun i => decide ((10 : Int) ^ (18 : Int).toNat ≤ zs.getD i 0)).map fun i => V.int (zs.getD i 0 / 2)).reverse) = ((((List.range zs.length).filter fun i => decide ((10 : Int) ^ (18 : Int).toNat ≤ zs.getD i 0)).map fun i => zs.getD i 0 / 2).reverse).map V.int := by
      rw [List.length_map, List.map_reverse, List.map_map]
      rfl
    rw [he]
    refine fin _ p _ _ ?_ ?_ upd_same ?_ npg
    · exact (A4.trans a5).trans (Adv.mut a7 np e7 (fun _ z => by cases z))
    · rw [upd_ne npg.symm]
      exact a7.keep _ _ (fun z => nomatch z) e45
    · rw [List.length_reverse, List.length_map]
      refine Nat.le_trans (List.length_filter_le _ _) ?_
      rw [List.length_range]
      omega
  · walk_at "aw1"
    exact fin H5 r _ [] (A4.trans a5) e45 e5 (by simp) hrg
theorem len__law_draw {K : PySem.W.Frag} : ∀ (vs : List V) (H : Hp) (Q : VK) (E : XK), sp__law_draw K vs H Q E → vs.length = 2 := fun vs H Q E h => by
  obtain ⟨_, _, rfl, _⟩ := h
  rfl
theorem last_some {xs : List Int} (h : 0 < xs.length) : (xs.map V.int)[(xs.map V.int).length - 1]? = some (.int (xs.getD (xs.length - 1) 0)) := by
  rw [List.length_map, List.getElem?_map, List.getElem?_eq_getElem (by omega), List.getD_eq_getElem?_getD, List.getElem?_eq_getElem (by omega)]
  rfl
theorem pure__law_draw {K : PySem.W.Frag} (vs : List V) (H : Hp) (Q : VK) (E : XK) (h : sp__law_draw K vs H Q E) : t__law_draw K { nx := fun _ H' => Q .non H', rt := Q } (start ["bag", "many", "digit", "cell", "mixed"] vs) H := by
  obtain ⟨st, lim, rfl, ⟨gr, cc⟩, ok, hl, hl2, q⟩ := h
  show t__law_draw K _ [some (.ref st), some (.int lim), none, none, none] H
  have ok0 := ok
  obtain ⟨r, n, gs, ns, hst, hgr, hcc, h0, hn1, hg1, ne1, ne2, ne3, hns⟩ := ok
  dsimp only at hst hgr hcc ne1 ne2 ne3
  unfold t__law_draw
  walk_at "aw"
  refine w_ixL (SqL.of hst) rfl ?_
  walk_at "aw"
  refine w_setL hst rfl ?_
  generalize hH1 : upd H st _ = H1
  have e1 : H1 st = some (.lst [.int r, .int (n + 1), .ref gr, .ref cc]) := by rw [← hH1, upd_same]; rfl
  have g1 : Go st (gr, cc) H H1 := by
    rw [← hH1]
    exact ⟨(Adv.lst hst).mono (fun b hb => by rw [List.mem_singleton.mp hb]; exact List.mem_cons_self ..), ⟨r, n + 1, gs, ns, upd_same, by rw [upd_ne ne1]; exact hgr, by rw [upd_ne ne2]; exact hcc, h0, hn1, hg1, ne1, ne2, ne3, hns⟩⟩
  have gr1 : H1 gr = some (.lst (gs.map V.int)) := by rw [← hH1, upd_ne ne1]; exact hgr
  have cc1 : H1 cc = some (.lst (ns.map V.int)) := by rw [← hH1, upd_ne ne2]; exact hcc
  clear hH1
  generalize n + 1 = n at e1
  have rest : ∀ (H2 : Hp) (r : Int) (gs : List Int), H2 st = some (.lst [.int r, .int n, .ref gr, .ref cc]) → H2 gr = some (.lst (gs.map V.int)) → H2 cc = some (.lst (ns.map V.int)) → gs.length ≤ 100 → Go st (gr, cc) H H2 →
      (tSeq (tIfS (tTest (tOp rGtI (tOp (rIxL K) (tVar 0) (tC (.int 0))) (tC (.int 0)))) (tSeq (tAsg (tOp rModI (tCB rInt1 (tCons (tOp (rIxL K) (tVar 0) (tC (.int 0))) tNil)) (tVar 1)) (gName 2))
  (tSeq (tAsg (tOp rDivI (tOp (rIxL K) (tVar 0) (tC (.int 0))) (tVar 1)) (gSub (tVar 0) (tC (.int 0)) rSetL))
  (tRet (tVar 2)))) tNext)
  (tSeq (tAsg (tOp (rIxL K) (tOp (rIxL K) (tVar 0) (tC (.int 3))) (tOp rModI (tCB rInt1 (tCons (tOp (rIxL K) (tVar 0) (tC (.int 1))) tNil)) (tCB (rLen1 K) (tCons (tOp (rIxL K) (tVar 0) (tC (.int 3))) tNil)))) (gName 3))
  (tSeq (tAsg (tOp rModI (tCB rInt1 (tCons (tOp rAddI (tOp rAddI (tOp rMulI (tVar 3) (tC (.int 48271))) (tOp rMulI (tOp (rIxL K) (tVar 0) (tC (.int 1))) (tC (.int 69621)))) (tC (.int 1))) tNil)) (tC (.int 2147483647))) (gName 4))
  (tRet (tOp rModI (tOp rDivI (tOp rModI (tCB rInt1 (tCons (tOp rAddI (tOp rAddI (tOp rMulI (tVar 4) (tVar 4)) (tOp rMulI (tVar 4) (tC (.int 16807)))) (tOp rMulI (tOp (rIxL K) (tVar 0) (tC (.int 1))) (tC (.int 40014)))) tNil)) (tC (.int 2147483629))) (tC (.int 32))) (tVar 1)))))) { nx := fun _ H' => Q .non H', rt := Q } [some (.ref st), some (.int lim), none, none, none] H2 := by
    intro H2 r gs e2 gr2 cc2 hg2 g2
    walk_at "aw"
    refine w_ixL (SqL.of e2) rfl ?_
    walk_at "aw"
    refine w_iteB (fun _ => ?_) fun _ => ?_
    · walk_at "aw"
      refine w_ixL (SqL.of e2) rfl ?_
      walk_at "aw"
      refine w_ixL (SqL.of e2) rfl ?_
      walk_at "aw"
      refine w_I ⟨hl, hl2⟩ ?_
      walk_at "aw"
      refine w_setL e2 rfl ?_
      walk_at "aw"
      refine q _ _ (Int.emod_nonneg _ (by omega)) (Int.emod_lt_of_pos _ hl) (g2.trans ?_)
      exact ⟨(Adv.lst e2).mono (fun b hb => by rw [List.mem_singleton.mp hb]; exact List.mem_cons_self ..), ⟨_, n, gs, ns, upd_same, by rw [upd_ne ne1]; exact gr2, by rw [upd_ne ne2]; exact cc2, h0, hn1, hg2, ne1, ne2, ne3, hns⟩⟩
    · walk_at "aw"
      refine w_ixL (SqL.of e2) rfl ?_
      walk_at "aw"
      refine w_ixL (SqL.of e2) rfl ?_
      walk_at "aw"
      refine w_ixL (SqL.of e2) rfl ?_
      walk_at "aw"
      refine w_lenL (SqL.of cc2) ?_
      rw [List.length_map]
      refine w_I (show (0 : Int) < (ns.length : Nat) by omega) ?_
      have hj := Int.emod_nonneg n (b := (ns.length : Int)) (by omega)
      have hj2 := Int.emod_lt_of_pos n (b := (ns.length : Int)) (by omega)
      generalize n % (ns.length : Int) = j at hj hj2
      have hj3 : j.toNat < ns.length := by omega
      have hat : atI (ns.map V.int) j = some (.int (ns.getD j.toNat 0)) := by
        refine at_of (j := j.toNat) (by omega) ?_
        rw [List.getElem?_map, List.getElem?_eq_getElem hj3, List.getD_eq_getElem?_getD, List.getElem?_eq_getElem hj3]
        rfl
      have hc := hns (ns.getD j.toNat 0) (by rw [List.getD_eq_getElem?_getD, List.getElem?_eq_getElem hj3]; exact List.getElem_mem hj3)
      generalize ns.getD j.toNat 0 = cell at hat hc
      refine w_ixL (SqL.of cc2) hat ?_
      walk_at "aw"
      refine w_ixL (SqL.of e2) rfl ?_
      walk_at "aw"
      generalize hm : (cell * 48271 + n * 69621 + 1) % 2147483647 = mx
      have hm1 : 0 ≤ mx ∧ mx < 2147483647 := by omega
      refine w_I (.inl ⟨by omega, by omega⟩) ?_
      walk_at "aw"
      refine w_ixL (SqL.of e2) rfl ?_
      walk_at "aw"
      refine w_I ⟨by decide, by decide⟩ ?_
      walk_at "aw"
      exact q _ _ (Int.emod_nonneg _ (by omega)) (Int.emod_lt_of_pos _ hl) g2
  walk_at "aw"
  refine w_ixL (SqL.of e1) rfl ?_
  walk_at "aw"
  refine w_iteB (fun hz => ?_) fun hz => ?_
  · walk_at "aw"
    refine w_ixL (SqL.of e1) rfl ?_
    walk_at "aw"
    refine w_lenL (SqL.of gr1) ?_
    walk_at "aw"
    refine w_iteB (fun hlt => ?_) fun hlt => ?_
    · rw [List.length_map] at hlt
      walk_at "aw"
      refine ⟨.ref st, rfl, ?_⟩
      walk_at "aw"
      refine w_ixL (v := .ref gr) (SqL.of e1) rfl ?_
      refine ⟨.inl ⟨rfl, _, SqL.of gr1⟩, ?_⟩
      walk_at "aw"
      refine ⟨gr, _, _, rfl, rfl, gr1, last_some (by omega), ?_⟩
      walk_at "aw"
      have ed : (gs.map V.int).dropLast = gs.dropLast.map V.int := by rw [List.map_dropLast]
      rw [ed]
      have e2 : (upd H1 gr (.lst (gs.dropLast.map V.int))) st = some (.lst [.int r, .int n, .ref gr, .ref cc]) := by rw [upd_ne ne1.symm]; exact e1
      refine w_setL e2 rfl ?_
      have hg3 : gs.dropLast.length ≤ 100 := by rw [List.length_dropLast]; omega
      have gr3 : (upd (upd H1 gr (.lst (gs.dropLast.map V.int))) st (.lst [.int (gs.getD (gs.length - 1) 0), .int n, .ref gr, .ref cc])) gr = some (.lst (gs.dropLast.map V.int)) := by rw [upd_ne ne1, upd_same]
      have cc3 : (upd (upd H1 gr (.lst (gs.dropLast.map V.int))) st (.lst [.int (gs.getD (gs.length - 1) 0), .int n, .ref gr, .ref cc])) cc = some (.lst (ns.map V.int)) := by rw [upd_ne ne2, upd_ne ne3]; exact cc1
      refine rest _ _ gs.dropLast upd_same gr3 cc3 hg3 (g1.trans ⟨?_, ⟨_, n, gs.dropLast, ns, upd_same, gr3, cc3, h0, hn1, hg3, ne1, ne2, ne3, hns⟩⟩)
      exact ((Adv.lst gr1).mono (fun b hb => by rw [List.mem_singleton.mp hb]; exact List.mem_cons_of_mem _ (List.mem_cons_self ..))).trans ((Adv.lst e2).mono (fun b hb => by rw [List.mem_singleton.mp hb]; exact List.mem_cons_self ..))
    · walk_at "aw1"
      exact rest _ _ _ e1 gr1 cc1 hg1 g1
  · walk_at "aw1"
    exact rest _ _ _ e1 gr1 cc1 hg1 g1
theorem len__law_pick {K : PySem.W.Frag} : ∀ (vs : List V) (H : Hp) (Q : VK) (E : XK), sp__law_pick K vs H Q E → vs.length = 2 := fun vs H Q E h => by
  obtain ⟨_, _, rfl, _⟩ := h
  rfl
theorem pure__law_pick {K : PySem.W.Frag} (vs : List V) (H : Hp) (Q : VK) (E : XK) (h : sp__law_pick K vs H Q E) : t__law_pick K { nx := fun _ H' => Q .non H', rt := Q } (start ["bag", "some"] vs) H := by
  obtain ⟨st, p, rfl, cs, xs, ok, hp, h0, hl, q⟩ := h
  show t__law_pick K _ [some (.ref st), some (.ref p)] H
  unfold t__law_pick
  walk_at "aw"
  rcases hp with ⟨hp, np⟩ | hp
  · refine w_lenL hp ?_
    walk_at "aw"
    refine ⟨st, _, rfl, cs, ok, by omega, by omega, fun n H' h1 h2 g => ?_⟩
    obtain ⟨v, hv⟩ := get_some (xs := xs) (i := n.toNat) (by omega)
    exact .inl (w_ixL (g.sql np hp) (at_nat h1 hv) (q _ _ _ hv g))
  · refine w_lenT (SqT.of hp) ?_
    walk_at "aw"
    refine ⟨st, _, rfl, cs, ok, by omega, by omega, fun n H' h1 h2 g => ?_⟩
    obtain ⟨v, hv⟩ := get_some (xs := xs) (i := n.toNat) (by omega)
    exact .inr (w_ixT (SqT.of (g.tk _ _ hp)) (at_nat h1 hv) (q _ _ _ hv g))
theorem len__law_some {K : PySem.W.Frag} : ∀ (vs : List V) (H : Hp) (Q : VK) (E : XK), sp__law_some K vs H Q E → vs.length = 3 := fun vs H Q E h => by
  obtain ⟨_, _, _, rfl, _⟩ := h
  rfl
theorem ixN_at {n j : Nat} (hj : j < n) : ixN n (j : Int) = some j := by
  unfold ixN
  rw [if_pos (by omega), if_pos (by omega)]
  simp
theorem perm_erase {α : Type} {xs : List α} {k : Nat} {v : α} (h : xs[k]? = some v) : (v :: xs.eraseIdx k).Perm xs := by
  have hlt : k < xs.length := (List.getElem?_eq_some_iff.mp h).1
  have hd : xs = xs.take k ++ (v :: xs.drop (k + 1)) := by
    have e := List.take_append_drop k xs
    rw [List.drop_eq_getElem_cons hlt, (List.getElem?_eq_some_iff.mp h).2] at e
    exact e.symm
  rw [List.eraseIdx_eq_take_drop_succ]
  have hm := List.perm_middle (a := v) (l₁ := xs.take k) (l₂ := xs.drop (k + 1))
  rw [← hd] at hm
  exact hm.symm
theorem src_list {K : PySem.W.Frag} {H : Hp} {Q : VK} {t : V} {xs : List V} (h : Src K H t xs) (q : ∀ r H', H r = none → Adv [] H H' → H' r = some (.lst xs) → Q (.ref r) H') : rListOfA K [t] H Q := by
  rcases h with ⟨p, rfl, hp⟩ | ⟨x, rfl, hx, rfl⟩
  · exact w_listOfL hp q
  · exact w_listOfS (by omega) q
theorem pure__law_some {K : PySem.W.Frag} (vs : List V) (H : Hp) (Q : VK) (E : XK) (h : sp__law_some K vs H Q E) : t__law_some K { nx := fun _ H' => Q .non H', rt := Q } (start ["bag", "things", "many", "left", "made", "k"] vs) H := by
  obtain ⟨st, t, m, rfl, cs, xs, ok, hp, hm, hl, q⟩ := h
  show t__law_some K _ [some (.ref st), some t, some (.int (m : Nat)), none, none, none] H
  unfold t__law_some
  walk_at "aw"
  refine src_list hp fun l H1 nl a1 e1 => ?_
  walk_at "aw"
  refine w_lstD (by simp) fun f H2 nf a2 e2 => ?_
  have g2 : Go st cs H H2 := (Go.of ok a1).new a2
  have nf0 : H f = none := a1.free (fun z => nomatch z) nf
  have hlf : l ≠ f := ne_of_none e1 nf
  have nlst : Off l st cs := (ok.ne nl).1
  have nfst : Off f st cs := (ok.ne nf0).1
  walk_at "aw"
  refine kForR_i (n := m) (by omega) (fun i σ H' => ∃ y1 found left, σ = [some (.ref st), some t, some (.int (m : Nat)), some (.ref l), some (.ref f), y1] ∧ Go st cs H H' ∧ H' f = some (.lst found) ∧ H' l = some (.lst left) ∧ found.length = i ∧ (found ++ left).Perm xs)
    ⟨none, [], xs, rfl, g2, e2, a2.keep _ _ (fun z => nomatch z) e1, rfl, .refl _⟩ (fun i σ H' hi p => ?_) fun σ H' p => ?_
  · obtain ⟨y1, found, left, rfl, g, ef, el, hlen, hperm⟩ := p
    have hll : left.length = xs.length - i := by
      have := hperm.length_eq
      rw [List.length_append] at this
      omega
    walk_at "aw"
    refine w_app rfl ef ?_
    walk_at "aw"
    refine w_popAt rfl el ?_
    walk_at "aw"
    refine w_lenL (SqL.of el) ?_
    walk_at "aw"
    refine ⟨st, _, rfl, cs, g.ok, by omega, by omega, fun n H3 h1 h2 g3 => ?_⟩
    walk_at "aw"
    obtain ⟨v, hv⟩ := get_some (xs := left) (i := n.toNat) (by omega)
    have ef3 := g3.keep nfst ef
    have el3 := g3.keep nlst el
    have hsx : seqIndex? n left.length = some n.toNat := (ixN_seq (by
      have := ixN_at (n := left.length) (j := n.toNat) (by omega)
      rw [show ((n.toNat : Nat) : Int) = n by omega] at this
      exact this)).1
    refine ⟨l, left, n, n.toNat, v, rfl, rfl, el3, by omega, by omega, hsx, hv, ?_⟩
    walk_at "aw"
    have ef4 : (upd H3 l (.lst (left.eraseIdx n.toNat))) f = some (.lst found) := by rw [upd_ne hlf.symm]; exact ef3
    refine w_append ef4 (by omega) ?_
    have g4 := (g.trans g3).mutL (o := .lst (left.eraseIdx n.toNat)) ok nl el3
    walk_at "aw"
    refine ⟨_, _, _, rfl, g4.mutL ok nf0 ef4, upd_same, by rw [upd_ne hlf, upd_same], by rw [List.length_append, hlen]; rfl, ?_⟩
    refine List.Perm.trans ?_ hperm
    rw [List.append_assoc]
    exact List.Perm.append_left found (perm_erase hv)
  · obtain ⟨y1, found, left, rfl, g, ef, el, hlen, hperm⟩ := p
    walk_at "aw"
    exact q f found left H' hperm hlen nf0 g ef
end AW
namespace AW
open PySem PySem.Spec PyProof.Rows L2 RZ
open StX
local macro_rules | `(tactic| walk_at "aw1") => `(tactic| first
  | (with_reducible refine w_seq ?_) | (with_reducible refine w_asg ?_) | (with_reducible refine w_gname ?_) | (with_reducible refine w_op ?_) | (with_reducible refine w_un ?_)
  | ((with_reducible refine' w_var ?h ?_); (case h => rfl)) | (with_reducible refine w_c ?_)
  | (with_reducible refine w_I0 ?_) | (with_reducible refine w_U ?_) | (with_reducible refine w_cb ?_) | (with_reducible refine w_nil ?_) | (with_reducible refine w_cons ?_) | (with_reducible refine w_call ?_)
  | (with_reducible refine w_test ?_) | (with_reducible refine w_B ?_) | (with_reducible refine w_bl ?_) | (with_reducible refine w_not ?_) | (with_reducible refine w_yes ?_) | (with_reducible refine iteT ?_) | (with_reducible refine iteF ?_) | (with_reducible refine w_and ?_) | (with_reducible refine w_or ?_)
  | (with_reducible refine w_andV ?_) | (with_reducible refine w_orV ?_) | (with_reducible refine w_notV ?_) | (with_reducible refine w_if ?_)
  | (with_reducible refine w_int1 ?_) | (with_reducible refine w_int1b ?_) | (with_reducible refine w_abs ?_) | (with_reducible refine w_max2 ?_) | (with_reducible refine w_min2 ?_)
  | ((with_reducible refine w_eq ?h ?_); (case h => rfl)) | ((with_reducible refine w_ne ?h ?_); (case h => rfl)) | (with_reducible refine w_isN ?_) | (with_reducible refine w_isB ?_) | (with_reducible refine w_chain ?_)
  | (with_reducible refine w_ret ?_) | (with_reducible refine w_drop ?_) | (with_reducible refine w_ifS ?_) | (with_reducible refine w_gsub ?_) | (with_reducible refine w_augS ?_) | (with_reducible refine w_ipI ?_) | (with_reducible refine w_next ?_)
  | (with_reducible refine w_forR ?_) | (with_reducible refine w_forR2 ?_) | (with_reducible refine w_forL ?_) | (with_reducible refine w_forT ?_) | (with_reducible refine w_lcR ?_) | (with_reducible refine w_lcL ?_) | (with_reducible refine w_lcT ?_) | (with_reducible refine w_sl ?_) | (with_reducible refine w_part ?_) | (with_reducible refine w_noPart ?_) | (with_reducible refine w_in ?_)
  | (with_reducible refine w_gcons ?_) | (with_reducible refine w_gnil ?_) | (with_reducible refine w_lc3 ?_) | (with_reducible refine w_dcZ ?_) | (with_reducible refine w_dcT ?_) | (with_reducible refine w_dg ?_) | (with_reducible refine w_callK ?_) | (with_reducible refine w_dput ?_) | (with_reducible refine w_tup1 ?_)
  | (with_reducible refine w_tup ?_) | (with_reducible refine w_lst ?_)
  | ((with_reducible refine w_I ?h ?_); (case h => first | (exact Or.inr ⟨by decide, by decide⟩) | (exact Or.inl ⟨by decide, by decide⟩) | (show (0 : Int) < _; decide) | (exact ⟨by decide, by decide, by decide⟩) | assumption)))
local macro_rules | `(tactic| walk_at "aw") => `(tactic| repeat (walk_at "aw1"))
abbrev v_SMALL_BOUND : V := .int 256
/-! ### the program's functions: what each promises -/
/-- a tuple of texts, none twice, the members of ns -/
def NamesAt (H : Hp) (t : Addr) (ns : List Str) : Prop := ∃ ms : List Str, H t = some (.tup (ms.map V.str)) ∧ ms.Nodup ∧ ∀ x, x ∈ ms ↔ x ∈ ns
def sp__standing_names (_ : PySem.W.Frag) (m : Nat) : Sp := fun vs H Q _ => ∃ v, vs = [v] ∧ ∃ D f ns, Is H D v ∧ ClD m D f ns ∧ ns.length ≤ 100000 ∧ ∀ r H', H r = none → Adv [] H H' → H' r = some (.lst (ns.map V.str)) → Q (.ref r) H'
def sp_claim_names (_ : PySem.W.Frag) : Sp := fun vs H Q _ => ∃ v, vs = [v] ∧ ∃ D f ns, Is H D v ∧ ClD 8 D f ns ∧ ns.length ≤ 1000 ∧ ∀ t H', Adv [] H H' → NamesAt H' t ns → Q (.ref t) H'
def sp_inner_claims (_ : PySem.W.Frag) : Sp := fun vs H Q _ => ∃ a, vs = [.ref a] ∧
  ((∃ u, H a = some (.tup [.str "not", u]) ∧ ∀ t H', Adv [] H H' → H' t = some (.tup [u]) → Q (.ref t) H') ∨ ∃ b u, H a = some (.tup [.str (manyW b), u]) ∧ Q u H)
def sp__outer_names (_ : PySem.W.Frag) : Sp := fun vs H Q _ => ∃ v, vs = [v] ∧ ∃ s, Is H (sayD s) v ∧ s.ok ∧ s.isWhen = false ∧ s.isClaim = false ∧ s.names.length ≤ 1000 ∧ ∀ t H', Adv [] H H' → H' t = some (.tup (s.names.map V.str)) → Q (.ref t) H'
def sp_own_names (_ : PySem.W.Frag) (m : Nat) : Sp := fun vs H Q _ => ∃ v, vs = [v] ∧ ∃ s, Is H (sayD s) v ∧ s.ok ∧ s.nd ∧ s.names.length ≤ 1000 ∧ 0 < m ∧ (s.isWhen = true → 1 < m) ∧ ∀ t H', Adv [] H H' → NamesAt H' t s.names → Q (.ref t) H'
/-- the dict at d tells the domain of each of these names, of so many values -/
def DomAt (H : Hp) (d : Addr) (names : List Str) (sz : Str → Nat) : Prop := ∃ kvs, H d = some (.dK kvs) ∧ ∀ x ∈ names, ∃ b xs, valV kvs (Sum.inr x) = some (.ref b) ∧ H b = some (.tup xs) ∧ xs.length = sz x
def sp_are_small (_ : PySem.W.Frag) : Sp := fun vs H Q _ => ∃ d t : Addr, vs = [.ref d, .ref t] ∧ ∃ (ms names : List Str) (sz : Str → Nat), DomAt H d names sz ∧ H t = some (.tup (ms.map V.str)) ∧ (∀ x ∈ ms, x ∈ names) ∧ (∀ x ∈ ms, sz x ≤ 100000) ∧ Q (.bl (decide ((ms.map sz).prod ≤ 256))) H
def sp_domains_of (_ : PySem.W.Frag) : Sp := fun vs H Q _ => ∃ m, vs = [m] ∧ ∃ (doms : List (Str × List Int)) (firm : List (Str × Say)) (soft : List (Str × Say × Int)) (sz : Str → Nat), Is H (modD doms firm soft) m ∧ (doms.map (·.1)).Nodup ∧ doms.length ≤ 100 ∧ (∀ p ∈ doms, sz p.1 = p.2.length) ∧
  ∀ d H', Adv [] H H' → DomAt H' d (doms.map (·.1)) sz → Q (.ref d) H'
def sp_saying_of (_ : PySem.W.Frag) : Sp := fun vs H Q _ => ∃ (m : V) (n : Str), vs = [m, .str n] ∧ ∃ doms firm soft s, Is H (modD doms firm soft) m ∧ (firm.map (·.1) ++ soft.map (·.1)).Nodup ∧ firm.length ≤ 100 ∧ soft.length ≤ 100 ∧ (n, s) ∈ firm ++ soft.map (fun q => (q.1, q.2.1)) ∧
  ∀ v H', Adv [] H H' → Is H' (sayD s) v → Q v H'
/-- a model that is right enough for its unknowns to be looked at -/
structure ModOk (doms : List (Str × List Int)) (firm : List (Str × Say)) (soft : List (Str × Say × Int)) : Prop where
  dn : (doms.map (·.1)).Nodup
  dl : doms.length ≤ 40
  sn : (firm.map (·.1) ++ soft.map (·.1)).Nodup
  fl : firm.length ≤ 100
  sl : soft.length ≤ 100
  dz : ∀ p ∈ doms, 0 < p.2.length ∧ p.2.length ≤ 100
def SayOk (doms : List (Str × List Int)) (s : Say) : Prop := s.ok ∧ s.nd ∧ s.names.length ≤ 1000 ∧ ∀ x ∈ s.names, x ∈ doms.map (·.1)
def sp_unknowns_of (_ : PySem.W.Frag) : Sp := fun vs H Q _ => ∃ (m : V) (n : Str), vs = [m, .str n] ∧ ∃ doms firm soft s, Is H (modD doms firm soft) m ∧ ModOk doms firm soft ∧ SayOk doms s ∧ (n, s) ∈ firm ++ soft.map (fun q => (q.1, q.2.1)) ∧
  ∀ t ms H', Adv [] H H' → H' t = some (.tup (ms.map V.str)) → ms.Nodup → sortedS ms = true → (∀ x, x ∈ ms ↔ x ∈ s.names) → Q (.ref t) H'
def sp_is_small (_ : PySem.W.Frag) : Sp := fun vs H Q _ => ∃ (m : V) (n : Str), vs = [m, .str n] ∧ ∃ (doms : List (Str × List Int)) (firm : List (Str × Say)) (soft : List (Str × Say × Int)) (s : Say) (sz : Str → Nat) (ms : List Str), Is H (modD doms firm soft) m ∧ ModOk doms firm soft ∧ SayOk doms s ∧ (n, s) ∈ firm ++ soft.map (fun q => (q.1, q.2.1)) ∧ (∀ p ∈ doms, sz p.1 = p.2.length) ∧ ms.Nodup ∧ (∀ x, x ∈ ms ↔ x ∈ s.names) ∧
  ∀ H', Adv [] H H' → Q (.bl (decide ((ms.map sz).prod ≤ 256))) H'
def t_inner_claims (K : PySem.W.Frag) : TS := (tRet (tIf (tTest (tOp rEq (tOp (rIxT K) (tVar 0) (tC (.int 0))) (tC (.str "not")))) (tSl (rSlA K) (tVar 0) (tPart (tC (.int 1))) tNoPart) (tOp (rIxT K) (tVar 0) (tC (.int 1)))))
def t__standing_names (K : PySem.W.Frag) (m : Nat) : TS := (tSeq (tIfS (tTest (tOp (rIn K false) (tOp (rIxT K) (tVar 0) (tC (.int 0))) (tTup (tCons (tC (.str "from")) (tCons (tC (.str "is")) tNil))))) (tRet (tLst (tCons (tOp (rIxT K) (tVar 0) (tC (.int 1))) tNil))) tNext)
  (tRet (tLc2 (iTup K (tCall (sp_inner_claims K) [] E0 (tCons (tVar 0) tNil))) (gName 1) tYes (iList K (tCall (sp__standing_names K m) [] E0 (tCons (tVar 1) tNil))) (gName 2) tYes (tVar 2) [1, 2] [2])))
def t_claim_names (K : PySem.W.Frag) : TS := (tRet (tCB rTupD (tCons (tDc (iList K (tCall (sp__standing_names K 8) [] E0 (tCons (tVar 0) tNil))) (gName 1) tYes (tVar 1) (tC (.bl true)) [1]) tNil)))
def t__outer_names (K : PySem.W.Frag) : TS := (tSeq (tAsg (tOp (rIxT K) (tVar 0) (tC (.int 0))) (gName 1))
  (tSeq (tIfS (tTest (tOp (rIn K false) (tVar 1) (tTup (tCons (tC (.str "least")) (tCons (tC (.str "same")) tNil))))) (tRet (tThen (tLc (iTup K (tOp (rIxT K) (tVar 0) (tC (.int 1)))) (gTup K 2 (gCons (gName 2) (gCons (gName 3) gNil))) tYes (tVar 2) [2, 3]) (kTup K))) tNext)
  (tSeq (tIfS (tTest (tOp rEq (tVar 1) (tC (.str "pick")))) (tRet (tTup (tCons (tOp (rIxT K) (tVar 0) (tC (.int 1))) (tStar K (tOp (rIxT K) (tVar 0) (tC (.int 2))) (tCons (tOp (rIxT K) (tVar 0) (tC (.int 3))) tNil))))) tNext)
  (tSeq (tIfS (tTest (tOp rEq (tVar 1) (tC (.str "top")))) (tRet (tTup (tStar K (tOp (rIxT K) (tVar 0) (tC (.int 1))) (tCons (tOp (rIxT K) (tVar 0) (tC (.int 2))) tNil)))) tNext)
  (tSeq (tIfS (tTest (tOp rEq (tVar 1) (tC (.str "product")))) (tRet (tSl (rSlA K) (tVar 0) (tPart (tC (.int 1))) tNoPart)) tNext)
  (tSeq (tIfS (tTest (tOp rEq (tVar 1) (tC (.str "ahead")))) (tRet (tOp (rCatA K) (tOp (rIxT K) (tVar 0) (tC (.int 1))) (tOp (rIxT K) (tVar 0) (tC (.int 2))))) tNext)
  (tRet (tOp (rIxT K) (tVar 0) (tC (.int 1))))))))))
def t_own_names (K : PySem.W.Frag) (m : Nat) : TS := (tSeq (tAsg (tOp (rIxT K) (tVar 0) (tC (.int 0))) (gName 1))
  (tSeq (tIfS (tTest (tOp rEq (tVar 1) (tC (.str "claim")))) (tRet (tCall (sp_claim_names K) [] E0 (tCons (tOp (rIxT K) (tVar 0) (tC (.int 1))) tNil))) tNext)
  (tSeq (tIfS (tTest (tOp rEq (tVar 1) (tC (.str "when")))) (tSeq (tAsg (tOp (rCatA K) (tCall (sp_claim_names K) [] E0 (tCons (tOp (rIxT K) (tVar 0) (tC (.int 1))) tNil)) (tCall (sp_own_names K m) [] E0 (tCons (tOp (rIxT K) (tVar 0) (tC (.int 2))) tNil))) (gName 2))
  (tRet (tCB rTupD (tCons (tDc (iTup K (tVar 2)) (gName 3) tYes (tVar 3) (tC (.bl true)) [3]) tNil)))) tNext)
  (tRet (tCall (sp__outer_names K) [] E0 (tCons (tVar 0) tNil))))))
def t_are_small (K : PySem.W.Frag) : TS := (tSeq (tAsg (tC (.int 1)) (gName 2))
  (tSeq (tFor (iTup K (tVar 1)) (gName 3)
  (tAsg (tOp rMulI (tVar 2) (tCB (rLen1 K) (tCons (tDGet (tVar 0) (tVar 3)) tNil))) (gName 2)))
  (tRet (tOp rLeI (tVar 2) (tC v_SMALL_BOUND)))))
def t_domains_of (K : PySem.W.Frag) : TS := (tRet (tDc (iTup K (tOp (rIxT K) (tVar 0) (tC (.int 0)))) (gTup K 2 (gCons (gName 1) (gCons (gName 2) gNil))) tYes (tVar 1) (tVar 2) [1, 2]))
def t_saying_of (K : PySem.W.Frag) : TS := (tSeq (tAsg (tDc (iTup K (tOp (rCatA K) (tOp (rIxT K) (tVar 0) (tC (.int 1))) (tOp (rIxT K) (tVar 0) (tC (.int 2))))) (gName 3) tYes (tOp (rIxT K) (tVar 3) (tC (.int 0))) (tOp (rIxT K) (tVar 3) (tC (.int 1))) [3]) (gName 2))
  (tRet (tDGet (tVar 2) (tVar 1))))
def t_unknowns_of (K : PySem.W.Frag) : TS := (tRet (tThen (tCB (rSortTS K) (tCons (tCall (sp_own_names K 2) [] E0 (tCons (tCall (sp_saying_of K) [] E0 (tCons (tVar 0) (tCons (tVar 1) tNil))) tNil)) tNil)) (kTup K)))
def t_is_small (K : PySem.W.Frag) : TS := (tRet (tCall (sp_are_small K) [] E0 (tCons (tCall (sp_domains_of K) [] E0 (tCons (tVar 0) tNil)) (tCons (tCall (sp_own_names K 2) [] E0 (tCons (tCall (sp_saying_of K) [] E0 (tCons (tVar 0) (tCons (tVar 1) tNil))) tNil)) tNil))))
theorem len_inner_claims {K : PySem.W.Frag} : ∀ (vs : List V) (H : Hp) (Q : VK) (E : XK), sp_inner_claims K vs H Q E → vs.length = 1 := fun vs H Q E h => by
  obtain ⟨_, rfl, _⟩ := h
  rfl
theorem pure_inner_claims {K : PySem.W.Frag} (vs : List V) (H : Hp) (Q : VK) (E : XK) (h : sp_inner_claims K vs H Q E) : t_inner_claims K { nx := fun _ H' => Q .non H', rt := Q } (start ["claim"] vs) H := by
  obtain ⟨a, rfl, h⟩ := h
  show t_inner_claims K _ [some (.ref a)] H
  unfold t_inner_claims
  walk_at "aw"
  rcases h with ⟨u, ea, q⟩ | ⟨b, u, ea, q⟩
  · refine w_ixT (SqT.of ea) rfl ?_
    walk_at "aw"
    refine w_iteB (fun _ => ?_) fun h => absurd rfl h
    walk_at "aw"
    exact w_slT ea (fun z => absurd z.1 (by show ¬ HT.sIx 2 0 (some 1) = 0; decide)) fun r H' _ a1 e1 => q r H' a1 e1
  · refine w_ixT (SqT.of ea) rfl ?_
    walk_at "aw"
    refine w_iteB (fun h => absurd h (by cases b <;> decide)) fun _ => ?_
    walk_at "aw"
    exact w_ixT (SqT.of ea) rfl q
theorem len__standing_names {K : PySem.W.Frag} {m : Nat} : ∀ (vs : List V) (H : Hp) (Q : VK) (E : XK), sp__standing_names K m vs H Q E → vs.length = 1 := fun vs H Q E h => by
  obtain ⟨_, rfl, _⟩ := h
  rfl
theorem no__standing_names {K : PySem.W.Frag} {vs : List V} {H : Hp} {Q : VK} {E : XK} (h : sp__standing_names K 0 vs H Q E) : False := by
  obtain ⟨_, _, _, _, _, _, h, _⟩ := h
  cases h
theorem flat_take {α : Type} (xss : List (List α)) : (List.range xss.length).flatMap (fun i => xss.getD i []) = xss.flatten := by
  have : (List.range xss.length).map (fun i => xss.getD i []) = xss := by
    refine List.ext_getElem? fun i => ?_
    rw [List.getElem?_map]
    by_cases h : i < xss.length
    · rw [List.getElem?_range h, List.getElem?_eq_getElem h]
      exact congrArg some (getD_of (List.getElem?_eq_getElem h))
    · rw [List.getElem?_eq_none (by rw [List.length_range]; omega), List.getElem?_eq_none (by omega)]
      rfl
  rw [List.flatMap_def, this]
theorem flat_part {α : Type} (xss : List (List α)) (k : Nat) : ((List.range k).flatMap fun i => xss.getD i []).length ≤ xss.flatten.length := by
  induction xss generalizing k with
  | nil =>
    induction k with
    | zero => simp
    | succ k ih => rw [List.range_succ, List.flatMap_append, List.length_append]; simpa using ih
  | cons x xss ih =>
    cases k with
    | zero => simp
    | succ k =>
      rw [List.range_succ_eq_map, List.flatMap_cons, List.length_append, List.flatMap_map, List.flatten_cons, List.length_append]
      exact Nat.add_le_add (Nat.le_refl _) (ih k)
theorem map_flat_get (nss : List (List Str)) (i : Nat) : (nss.map (·.map V.str)).getD i [] = (nss.getD i []).map V.str := by
  rw [List.getD_eq_getElem?_getD, List.getD_eq_getElem?_getD, List.getElem?_map]
  cases nss[i]? <;> rfl
theorem get_flat {nss : List (List Str)} {i : Nat} {ns : List Str} (h : nss[i]? = some ns) : ns.length ≤ nss.flatten.length := by
  induction nss generalizing i with
  | nil => simp at h
  | cons x xss ih =>
    rw [List.flatten_cons, List.length_append]
    cases i with
    | zero => simp at h; subst h; omega
    | succ i => have := ih (by simpa using h); omega
theorem pure__standing_names {K : PySem.W.Frag} {m : Nat} (vs : List V) (H : Hp) (Q : VK) (E : XK) (h : sp__standing_names K (m + 1) vs H Q E) : t__standing_names K m { nx := fun _ H' => Q .non H', rt := Q } (start ["claim", "part", "name"] vs) H := by
  obtain ⟨v, rfl, D, f, ns, hv, hc, hl, q⟩ := h
  show t__standing_names K m _ [some v, none, none] H
  unfold t__standing_names
  cases hc with
  | one b =>
    rename_i x n
    obtain ⟨a, rfl, ea⟩ := is_one hv
    walk_at "aw"
    refine w_ixT (SqT.of ea) rfl ?_
    walk_at "aw"
    refine w_tupD (by decide) fun t H1 nt a1 et => ?_
    refine w_inT et rfl rfl ?_
    have e : inV (V.str (atW b)) [V.str "from", V.str "is"] = true := by cases b <;> decide
    rw [e]
    walk_at "aw"
    refine w_ixT (SqT.of (a1.tup _ _ ea)) rfl ?_
    walk_at "aw"
    exact w_lstD (by show 1 ≤ 100000; decide) fun r H2 nr a2 er => q r H2 (a1.free (fun z => nomatch z) nr) (a1.trans a2) er
  | neg h =>
    rename_i d' f'
    obtain ⟨a, u, rfl, ea, hu⟩ := is_two hv
    walk_at "aw"
    refine w_ixT (SqT.of ea) rfl ?_
    walk_at "aw"
    refine w_tupD (by decide) fun t H1 nt a1 et => ?_
    refine w_inT et rfl rfl ?_
    rw [show inV (V.str "not") [V.str "from", V.str "is"] = false by decide]
    walk_at "aw"
    refine w_lc2 ?_
    walk_at "aw"
    refine ⟨a, rfl, .inl ⟨u, a1.tup _ _ ea, fun t2 H2 a2 et2 => ?_⟩⟩
    refine kLc2_flat (fun _ => ns.map V.str) et2 (by show 1 ≤ 1000; decide) (fun k hk => ?_) (fun _ => rfl) (fun _ _ => rfl) (fun _ _ => rfl) (fun k x H3 Kt e3 a3 kt => ?_) fun r H' nr a4 er => ?_
    · have hk : k = 0 := by simp at hk; omega
      subst hk
      simpa using hl
    · have hk : k = 0 := by
        rcases Nat.eq_zero_or_pos k with z | z
        · exact z
        · rw [List.getElem?_eq_none (by show 1 ≤ k; omega)] at e3
          cases e3
      subst hk
      cases e3
      walk_at "aw"
      exact ⟨u, rfl, d', f', ns, hu.up ((a1.trans a2).trans a3).tup, h, hl, fun r H' nr a4 er => kt r H' a4 nr er⟩
    · refine q r H' (a1.free (fun z => nomatch z) (a2.free (fun z => nomatch z) nr)) ((a1.trans a2).trans a4) ?_
      rw [er]
      simp
  | many b ds fs nss hl1 hl2 h1 h =>
    obtain ⟨a, u, rfl, ea, hu⟩ := is_two hv
    obtain ⟨c, xs, rfl, ec, tc⟩ := hu.tup_inv
    have hxl : xs.length = ds.length := tc.length
    walk_at "aw"
    refine w_ixT (SqT.of ea) rfl ?_
    walk_at "aw"
    refine w_tupD (by decide) fun t H1 nt a1 et => ?_
    refine w_inT et rfl rfl ?_
    rw [show inV (V.str (manyW b)) [V.str "from", V.str "is"] = false by cases b <;> decide]
    walk_at "aw"
    refine w_lc2 ?_
    walk_at "aw"
    refine ⟨a, rfl, .inr ⟨b, _, a1.tup _ _ ea, ?_⟩⟩
    have hfl : (nss.map (·.map V.str)).flatten = nss.flatten.map V.str := by rw [List.map_flatten]
    refine kLc2_flat (fun i => (nss.map (·.map V.str)).getD i []) (a1.tup _ _ ec) (by omega) (fun k hk => ?_) (fun _ => rfl) (fun _ _ => rfl) (fun _ _ => rfl) (fun k x H3 Kt e3 a3 kt => ?_) fun r H' nr a4 er => ?_
    · refine Nat.le_trans (flat_part _ _) ?_
      rw [hfl, List.length_map]
      exact hl
    · obtain ⟨dt, z1, hdt⟩ := tc.get e3
      have hk : k < xs.length := (List.getElem?_eq_some_iff.mp e3).1
      obtain ⟨fn, z2⟩ := get_some (xs := fs) (i := k) (by omega)
      obtain ⟨nn, z3⟩ := get_some (xs := nss) (i := k) (by omega)
      have e5 : (nss.map (·.map V.str)).getD k [] = nn.map V.str := by rw [map_flat_get, getD_of z3]
      rw [e5] at kt
      have := get_flat z3
      walk_at "aw"
      exact ⟨x, rfl, dt, fn, nn, hdt.up (a1.trans a3).tup, h k dt fn nn z1 z2 z3, by omega, fun r H' nr a4 er => kt r H' a4 nr er⟩
    · refine q r H' (a1.free (fun z => nomatch z) nr) (a1.trans a4) ?_
      have e6 : xs.length = (nss.map (·.map V.str)).length := by rw [List.length_map]; omega
      rw [er, e6, flat_take, hfl]
theorem len_claim_names {K : PySem.W.Frag} : ∀ (vs : List V) (H : Hp) (Q : VK) (E : XK), sp_claim_names K vs H Q E → vs.length = 1 := fun vs H Q E h => by
  obtain ⟨_, rfl, _⟩ := h
  rfl
theorem pure_claim_names {K : PySem.W.Frag} (vs : List V) (H : Hp) (Q : VK) (E : XK) (h : sp_claim_names K vs H Q E) : t_claim_names K { nx := fun _ H' => Q .non H', rt := Q } (start ["claim", "name"] vs) H := by
  obtain ⟨v, rfl, D, f, ns, hv, hc, hl, q⟩ := h
  show t_claim_names K _ [some v, none] H
  unfold t_claim_names
  walk_at "aw"
  refine w_dcL ?_
  walk_at "aw"
  refine ⟨v, rfl, D, f, ns, hv, hc, by omega, fun r H1 nr a1 er => ?_⟩
  refine ⟨r, rfl, ⟨_, SqL.of er⟩, kDc_pure walk_list (by rw [List.length_map]; omega) (fun H' g => SqL.of (g.keep _ _ (fun z => nomatch z) er)) (fun i => (Sum.inr (ns.getD i nix) : Key)) (fun _ => .bl true) (fun i x H2 H3 Kt hi g2 y kt => ?_) fun p H' np g' ep => ?_⟩
  · obtain ⟨rfl, y1⟩ := y
    rw [List.getElem?_map] at y1
    obtain ⟨n, hn, rfl⟩ := Option.map_eq_some_iff.mp y1
    rw [getD_of hn] at kt
    walk_at "aw"
    refine ⟨rfl, ?_⟩
    walk_at "aw"
    exact kt _ (.refl _ _)
  · walk_at "aw"
    refine w_tupD2 ep fun t H4 nt a4 et => ?_
    rw [List.length_map, keys_strs (dict_strs ns _ _)] at et
    exact q t H4 ((a1.trans g').trans a4) ⟨_, et, nubS_nd _ _, fun x => by rw [nubS_mem ns _ (Nat.le_refl _), List.take_length]⟩
theorem len__outer_names {K : PySem.W.Frag} : ∀ (vs : List V) (H : Hp) (Q : VK) (E : XK), sp__outer_names K vs H Q E → vs.length = 1 := fun vs H Q E h => by
  obtain ⟨_, rfl, _⟩ := h
  rfl
theorem pure__outer_names {K : PySem.W.Frag} (vs : List V) (H : Hp) (Q : VK) (E : XK) (h : sp__outer_names K vs H Q E) : t__outer_names K { nx := fun _ H' => Q .non H', rt := Q } (start ["saying", "word", "x", "weight"] vs) H := by
  obtain ⟨v, rfl, s, hv, ok, hw, hcl, hn, q⟩ := h
  show t__outer_names K _ [some v, none, none, none] H
  -- behind the first test: any word but least and same
  have rest : ∀ (a : Addr) (wd : Str) (xs : List V), H a = some (.tup (.str wd :: xs)) → inV (V.str wd) [V.str "least", V.str "same"] = false →
      (∀ H1, Adv [] H H1 → (tSeq (tIfS (tTest (tOp rEq (tVar 1) (tC (.str "pick")))) (tRet (tTup (tCons (tOp (rIxT K) (tVar 0) (tC (.int 1))) (tStar K (tOp (rIxT K) (tVar 0) (tC (.int 2))) (tCons (tOp (rIxT K) (tVar 0) (tC (.int 3))) tNil))))) tNext)
  (tSeq (tIfS (tTest (tOp rEq (tVar 1) (tC (.str "top")))) (tRet (tTup (tStar K (tOp (rIxT K) (tVar 0) (tC (.int 1))) (tCons (tOp (rIxT K) (tVar 0) (tC (.int 2))) tNil)))) tNext)
  (tSeq (tIfS (tTest (tOp rEq (tVar 1) (tC (.str "product")))) (tRet (tSl (rSlA K) (tVar 0) (tPart (tC (.int 1))) tNoPart)) tNext)
  (tSeq (tIfS (tTest (tOp rEq (tVar 1) (tC (.str "ahead")))) (tRet (tOp (rCatA K) (tOp (rIxT K) (tVar 0) (tC (.int 1))) (tOp (rIxT K) (tVar 0) (tC (.int 2))))) tNext)
  (tRet (tOp (rIxT K) (tVar 0) (tC (.int 1)))))))) { nx := fun _ H' => Q .non H', rt := Q } [some (.ref a), some (.str wd), none, none] H1) → t__outer_names K { nx := fun _ H' => Q .non H', rt := Q } [some (.ref a), none, none, none] H := by
    intro a wd xs ea hin h
    unfold t__outer_names
    walk_at "aw"
    refine w_ixT (SqT.of ea) (v := .str wd) (at_of (j := 0) rfl rfl) ?_
    walk_at "aw"
    refine w_tupD (by show 2 ≤ 100000; decide) fun t H1 nt a1 et => ?_
    refine w_inT et rfl rfl ?_
    rw [hin]
    walk_at "aw1"
    walk_at "aw1"
    walk_at "aw1"
    exact h H1 a1
  have plain : ∀ (a p : Addr) (wd : Str) (xs : List V), H a = some (.tup (.str wd :: .ref p :: xs)) → inV (V.str wd) [V.str "least", V.str "same"] = false → wd ≠ "pick" → wd ≠ "top" → wd ≠ "product" → wd ≠ "ahead" →
      H p = some (.tup (s.names.map V.str)) → t__outer_names K { nx := fun _ H' => Q .non H', rt := Q } [some (.ref a), none, none, none] H := by
    intro a p wd xs ea hin n1 n2 n3 n4 ep
    refine rest a wd _ ea hin fun H1 a1 => ?_
    walk_at "aw"
    refine w_iteB (fun h => absurd (V.str.inj h) n1) fun _ => ?_
    walk_at "aw"
    refine w_iteB (fun h => absurd (V.str.inj h) n2) fun _ => ?_
    walk_at "aw"
    refine w_iteB (fun h => absurd (V.str.inj h) n3) fun _ => ?_
    walk_at "aw"
    refine w_iteB (fun h => absurd (V.str.inj h) n4) fun _ => ?_
    walk_at "aw"
    refine w_ixT (SqT.of (a1.tup _ _ ea)) (v := .ref p) (at_of (j := 1) rfl rfl) ?_
    exact q p H1 a1 (a1.tup _ _ ep)
  cases s with
  | sums b ts n =>
    obtain ⟨a, c, rfl, ea, hts⟩ := is_sums hv
    obtain ⟨c', xs, e0, ec, tc⟩ := hts.tup_inv
    cases e0
    have hxl : xs.length = ts.length := by rw [tc.length, List.length_map]
    unfold t__outer_names
    walk_at "aw"
    refine w_ixT (SqT.of ea) (v := .str (sumW b)) (at_of (j := 0) rfl rfl) ?_
    walk_at "aw"
    refine w_tupD (by show 2 ≤ 100000; decide) fun t H1 nt a1 et => ?_
    refine w_inT et rfl rfl ?_
    rw [show inV (V.str (sumW b)) [V.str "least", V.str "same"] = true by cases b <;> decide]
    walk_at "aw"
    refine w_ixT (SqT.of (a1.tup _ _ ea)) (v := .ref c) (at_of (j := 1) rfl rfl) ?_
    refine ⟨c, rfl, ⟨_, SqT.of (a1.tup _ _ ec)⟩, ?_⟩
    have hl : ts.length ≤ 1000 := by simpa [Say.names] using hn
    refine kLc_pure walk_tup (by omega) (fun H' g => SqT.of (g.tup _ _ (a1.tup _ _ ec))) (fun _ => true) (fun i => .str ((ts.map (·.1)).getD i nix)) (fun i x H2 H3 Kt Kf hi g2 y kt kf => ?_) fun l H3 np g1 el => ?_
    · obtain ⟨rfl, y1⟩ := y
      obtain ⟨dt, z1, hdt⟩ := tc.get y1
      rw [List.getElem?_map] at z1
      obtain ⟨tr, z2, rfl⟩ := Option.map_eq_some_iff.mp z1
      obtain ⟨pa, rfl, ep⟩ := is_pair hdt
      rw [getD_of (show (ts.map (·.1))[i]? = some tr.1 by rw [List.getElem?_map, z2]; rfl)] at kt
      walk_at "aw"
      refine w_gtup (SqT.of (g2.tup _ _ (a1.tup _ _ ep))) rfl ?_
      walk_at "aw"
      refine ⟨rfl, ?_⟩
      walk_at "aw"
      exact kt rfl _ (.refl _ _)
    · walk_at "aw"
      refine w_tupL (SqL.of el) fun r H4 nr a4 er => ?_
      refine q r H4 ((a1.trans g1).trans a4) ?_
      rw [er, filter_true, hxl, ← List.length_map (f := (·.1)), map_range (ts.map (·.1)) nix V.str]
      rfl
  | unlike xs =>
    obtain ⟨a, b, rfl, ea, eb⟩ := is_unlike hv
    exact plain a b "unlike" _ ea (by decide) (by decide) (by decide) (by decide) (by decide) eb
  | counts xs ts =>
    obtain ⟨a, b, c, vs, rfl, ea, eb, _⟩ := is_counts hv
    exact plain a b "counts" _ ea (by decide) (by decide) (by decide) (by decide) (by decide) eb
  | tab t xs rows =>
    obtain ⟨a, b, c, vs, rfl, ea, eb, _⟩ := is_tab hv
    exact plain a b (tabW t) _ ea (by cases t <;> decide) (by cases t <;> decide) (by cases t <;> decide) (by cases t <;> decide) (by cases t <;> decide) eb
  | pick i xs r =>
    obtain ⟨a, b, rfl, ea, eb⟩ := is_pick hv
    refine rest a "pick" _ ea (by decide) fun H1 a1 => ?_
    have ea1 := a1.tup _ _ ea
    walk_at "aw"
    refine w_iteB (fun _ => ?_) fun h => absurd rfl h
    walk_at "aw"
    refine w_ixT (SqT.of ea1) rfl ?_
    refine w_starX ?_
    walk_at "aw"
    refine w_ixT (SqT.of ea1) rfl ?_
    refine ⟨b, _, rfl, .inl (SqT.of (a1.tup _ _ eb)), ?_⟩
    walk_at "aw"
    refine w_ixT (SqT.of ea1) rfl ?_
    walk_at "aw"
    refine w_tupD (by simp [Say.names] at hn ⊢; omega) fun t H2 nt a2 et => ?_
    refine q t H2 (a1.trans a2) ?_
    rw [et]
    simp [Say.names]
  | top xs r =>
    obtain ⟨a, b, rfl, ea, eb⟩ := is_top hv
    refine rest a "top" _ ea (by decide) fun H1 a1 => ?_
    have ea1 := a1.tup _ _ ea
    walk_at "aw"
    refine w_iteB (fun h => absurd (V.str.inj h) (by decide)) fun _ => ?_
    walk_at "aw"
    refine w_iteB (fun _ => ?_) fun h => absurd rfl h
    walk_at "aw"
    refine w_starX ?_
    walk_at "aw"
    refine w_ixT (SqT.of ea1) rfl ?_
    refine ⟨b, _, rfl, .inl (SqT.of (a1.tup _ _ eb)), ?_⟩
    walk_at "aw"
    refine w_ixT (SqT.of ea1) rfl ?_
    walk_at "aw"
    refine w_tupD (by simp [Say.names] at hn ⊢; omega) fun t H2 nt a2 et => ?_
    refine q t H2 (a1.trans a2) ?_
    rw [et]
    simp [Say.names]
  | prod x y z =>
    obtain ⟨a, rfl, ea⟩ := is_prod hv
    refine rest a "product" _ ea (by decide) fun H1 a1 => ?_
    have ea1 := a1.tup _ _ ea
    walk_at "aw"
    refine w_iteB (fun h => absurd (V.str.inj h) (by decide)) fun _ => ?_
    walk_at "aw"
    refine w_iteB (fun h => absurd (V.str.inj h) (by decide)) fun _ => ?_
    walk_at "aw"
    refine w_iteB (fun _ => ?_) fun h => absurd rfl h
    walk_at "aw"
    exact w_slT ea1 (fun z => absurd z.1 (by show ¬ HT.sIx 4 0 (some 1) = 0; decide)) fun r H2 _ a2 e2 => q r H2 (a1.trans a2) e2
  | ahead xs ys =>
    obtain ⟨a, b, c, rfl, ea, eb, ec⟩ := is_ahead hv
    refine rest a "ahead" _ ea (by decide) fun H1 a1 => ?_
    have ea1 := a1.tup _ _ ea
    walk_at "aw"
    refine w_iteB (fun h => absurd (V.str.inj h) (by decide)) fun _ => ?_
    walk_at "aw"
    refine w_iteB (fun h => absurd (V.str.inj h) (by decide)) fun _ => ?_
    walk_at "aw"
    refine w_iteB (fun h => absurd (V.str.inj h) (by decide)) fun _ => ?_
    walk_at "aw"
    refine w_iteB (fun _ => ?_) fun h => absurd rfl h
    walk_at "aw"
    refine w_ixT (SqT.of ea1) rfl ?_
    walk_at "aw"
    refine w_ixT (SqT.of ea1) rfl ?_
    refine w_catT' (a1.tup _ _ eb) (a1.tup _ _ ec) (by simp [Say.names] at hn ⊢; omega) fun r H2 a2 e2 => q r H2 (a1.trans a2) ?_
    rw [e2]
    simp [Say.names]
  | mach xs s mv en =>
    obtain ⟨a, p, c, r, vs, rfl, ea, ep, _⟩ := is_mach hv
    exact plain a p "machine" _ ea (by decide) (by decide) (by decide) (by decide) (by decide) ep
  | works xs ls ns room =>
    obtain ⟨a, p, c, r, rfl, ea, ep, _⟩ := is_works hv
    exact plain a p "works" _ ea (by decide) (by decide) (by decide) (by decide) (by decide) ep
  | round xs =>
    obtain ⟨a, p, rfl, ea, ep⟩ := is_round hv
    exact plain a p "round" _ ea (by decide) (by decide) (by decide) (by decide) (by decide) ep
  | claim d f ns => cases hcl
  | when d f ns s => cases hw
theorem len_own_names {K : PySem.W.Frag} {m : Nat} : ∀ (vs : List V) (H : Hp) (Q : VK) (E : XK), sp_own_names K m vs H Q E → vs.length = 1 := fun vs H Q E h => by
  obtain ⟨_, rfl, _⟩ := h
  rfl
theorem no_own_names {K : PySem.W.Frag} {vs : List V} {H : Hp} {Q : VK} {E : XK} (h : sp_own_names K 0 vs H Q E) : False := by
  obtain ⟨_, _, _, _, _, _, _, h, _⟩ := h
  exact Nat.lt_irrefl _ h
/-- a saying's first part is its word -/
theorem word_of {H : Hp} {v : V} {s : Say} (h : Is H (sayD s) v) : ∃ a wd xs, v = .ref a ∧ H a = some (.tup (.str wd :: xs)) ∧ (s.isWhen = false → wd ≠ "when") ∧ (s.isClaim = false → wd ≠ "claim") := by
  cases s with
  | sums b ts n =>
    obtain ⟨a, c, rfl, ea, hts⟩ := is_sums h
    exact ⟨a, sumW b, _, rfl, ea, fun _ => by cases b <;> decide, fun _ => by cases b <;> decide⟩
  | unlike xs =>
    obtain ⟨a, b, rfl, ea, eb⟩ := is_unlike h
    exact ⟨a, _, _, rfl, ea, fun _ => by decide, fun _ => by decide⟩
  | counts xs ts =>
    obtain ⟨a, b, c, vs, rfl, ea, eb, _⟩ := is_counts h
    exact ⟨a, _, _, rfl, ea, fun _ => by decide, fun _ => by decide⟩
  | tab t xs rows =>
    obtain ⟨a, b, c, vs, rfl, ea, eb, _⟩ := is_tab h
    exact ⟨a, tabW t, _, rfl, ea, fun _ => by cases t <;> decide, fun _ => by cases t <;> decide⟩
  | pick i xs r =>
    obtain ⟨a, b, rfl, ea, eb⟩ := is_pick h
    exact ⟨a, _, _, rfl, ea, fun _ => by decide, fun _ => by decide⟩
  | top xs r =>
    obtain ⟨a, b, rfl, ea, eb⟩ := is_top h
    exact ⟨a, _, _, rfl, ea, fun _ => by decide, fun _ => by decide⟩
  | prod x y z =>
    obtain ⟨a, rfl, ea⟩ := is_prod h
    exact ⟨a, _, _, rfl, ea, fun _ => by decide, fun _ => by decide⟩
  | ahead xs ys =>
    obtain ⟨a, b, c, rfl, ea, eb, ec⟩ := is_ahead h
    exact ⟨a, _, _, rfl, ea, fun _ => by decide, fun _ => by decide⟩
  | mach xs s mv en =>
    obtain ⟨a, p, c, r, vs, rfl, ea, ep, _⟩ := is_mach h
    exact ⟨a, _, _, rfl, ea, fun _ => by decide, fun _ => by decide⟩
  | works xs ls ns room =>
    obtain ⟨a, p, c, r, rfl, ea, ep, _⟩ := is_works h
    exact ⟨a, _, _, rfl, ea, fun _ => by decide, fun _ => by decide⟩
  | round xs =>
    obtain ⟨a, p, rfl, ea, ep⟩ := is_round h
    exact ⟨a, _, _, rfl, ea, fun _ => by decide, fun _ => by decide⟩
  | claim d f ns =>
    obtain ⟨a, u, rfl, ea, _⟩ := is_two h
    exact ⟨a, _, _, rfl, ea, fun _ => by decide, fun z => by cases z⟩
  | when d f ns s =>
    obtain ⟨a, u, u', rfl, ea, _⟩ := is_three h
    exact ⟨a, _, _, rfl, ea, (fun z => by cases z), fun _ => by decide⟩
theorem nd_of {s : Say} (h : s.nd) (h1 : s.isWhen = false) (h2 : s.isClaim = false) : s.names.Nodup := by
  cases s <;> first | exact h | (cases h1; done) | (cases h2; done)
theorem pure_own_names {K : PySem.W.Frag} {m : Nat} (vs : List V) (H : Hp) (Q : VK) (E : XK) (h : sp_own_names K (m + 1) vs H Q E) : t_own_names K m { nx := fun _ H' => Q .non H', rt := Q } (start ["saying", "word", "names", "name"] vs) H := by
  obtain ⟨v, rfl, s, hv, ok, nd, hl, _, hm, q⟩ := h
  show t_own_names K m _ [some v, none, none, none] H
  unfold t_own_names
  by_cases hc : s.isClaim = true
  · obtain ⟨D, f, ns, rfl⟩ : ∃ D f ns, s = .claim D f ns := by cases s <;> first | exact ⟨_, _, _, rfl⟩ | cases hc
    obtain ⟨a, u, rfl, ea, hu⟩ := is_two hv
    walk_at "aw"
    refine w_ixT (SqT.of ea) rfl ?_
    walk_at "aw"
    refine w_iteB (fun _ => ?_) fun h => absurd rfl h
    walk_at "aw"
    refine w_ixT (SqT.of ea) rfl ?_
    exact ⟨u, rfl, D, f, ns, hu, ok.1, ok.2, fun t H' a1 h => q t H' a1 h⟩
  · have hc : s.isClaim = false := by simpa using hc
    by_cases hw : s.isWhen = true
    · obtain ⟨D, f, ns, s', rfl⟩ : ∃ D f ns s', s = .when D f ns s' := by cases s <;> first | exact ⟨_, _, _, _, rfl⟩ | cases hw
      obtain ⟨a, u, u', rfl, ea, hu, hu'⟩ := is_three hv
      have hl' : ns.length + s'.names.length ≤ 1000 := by simpa [Say.names] using hl
      walk_at "aw"
      refine w_ixT (SqT.of ea) rfl ?_
      walk_at "aw"
      refine w_iteB (fun h => absurd (V.str.inj h) (by decide)) fun _ => ?_
      walk_at "aw"
      refine w_iteB (fun _ => ?_) fun h => absurd rfl h
      walk_at "aw"
      refine w_ixT (SqT.of ea) rfl ?_
      refine ⟨u, rfl, D, f, ns, hu, ok.1, ok.2.1, fun t H1 a1 ht => ?_⟩
      walk_at "aw"
      refine w_ixT (SqT.of (a1.tup _ _ ea)) rfl ?_
      refine ⟨u', rfl, s', hu'.up a1.tup, ok.2.2.2, nd, by omega, by have := hm rfl; omega, (fun z => by rw [ok.2.2.1] at z; cases z), fun t2 H2 a2 ht2 => ?_⟩
      obtain ⟨m1, e1, n1, b1⟩ := ht
      obtain ⟨m2, e2, n2, b2⟩ := ht2
      have l1 : m1.length ≤ ns.length := n1.length_le_of_subset fun x hx => (b1 x).mp hx
      have l2 : m2.length ≤ s'.names.length := n2.length_le_of_subset fun x hx => (b2 x).mp hx
      refine w_catT' (a2.tup _ _ e1) e2 (by rw [List.length_map, List.length_map]; omega) fun r H3 a3 e3 => ?_
      rw [← List.map_append] at e3
      walk_at "aw"
      refine ⟨r, rfl, ⟨_, SqT.of e3⟩, kDc_pure walk_tup (by rw [List.length_map, List.length_append]; omega) (fun H' g => SqT.of (g.tup _ _ e3)) (fun i => (Sum.inr ((m1 ++ m2).getD i nix) : Key)) (fun _ => .bl true) (fun i x H2 H3 Kt hi g2 y kt => ?_) fun p H' np g' ep => ?_⟩
      · obtain ⟨rfl, y1⟩ := y
        rw [List.getElem?_map] at y1
        obtain ⟨n, hn, rfl⟩ := Option.map_eq_some_iff.mp y1
        rw [getD_of hn] at kt
        walk_at "aw"
        refine ⟨rfl, ?_⟩
        walk_at "aw"
        exact kt _ (.refl _ _)
      · walk_at "aw"
        refine w_tupD2 ep fun t H4 nt a4 et => ?_
        rw [List.length_map, keys_strs (dict_strs (m1 ++ m2) _ _)] at et
        refine q t H4 ((((a1.trans a2).trans a3).trans g').trans a4) ⟨_, et, nubS_nd _ _, fun x => ?_⟩
        rw [nubS_mem _ _ (Nat.le_refl _), List.take_length, List.mem_append, b1, b2]
        exact List.mem_append.symm
    · have hw : s.isWhen = false := by simpa using hw
      obtain ⟨a, wd, xs, rfl, ea, n1, n2⟩ := word_of hv
      walk_at "aw"
      refine w_ixT (SqT.of ea) (v := .str wd) (at_of (j := 0) rfl rfl) ?_
      walk_at "aw"
      refine w_iteB (fun h => absurd (V.str.inj h) (n2 hc)) fun _ => ?_
      walk_at "aw"
      refine w_iteB (fun h => absurd (V.str.inj h) (n1 hw)) fun _ => ?_
      walk_at "aw"
      exact ⟨_, rfl, s, hv, ok, hw, hc, hl, fun t H' a1 e => q t H' a1 ⟨_, e, nd_of nd hw hc, fun _ => Iff.rfl⟩⟩
theorem len_are_small {K : PySem.W.Frag} : ∀ (vs : List V) (H : Hp) (Q : VK) (E : XK), sp_are_small K vs H Q E → vs.length = 2 := fun vs H Q E h => by
  obtain ⟨_, _, rfl, _⟩ := h
  rfl
theorem pure_are_small {K : PySem.W.Frag} (vs : List V) (H : Hp) (Q : VK) (E : XK) (h : sp_are_small K vs H Q E) : t_are_small K { nx := fun _ H' => Q .non H', rt := Q } (start ["domains", "names", "size", "name"] vs) H := by
  obtain ⟨d, t, rfl, ms, names, sz, hd, et, hsub, hz, q⟩ := h
  show t_are_small K _ [some (.ref d), some (.ref t), none, none] H
  unfold t_are_small
  walk_at "aw"
  refine kForT_i (fun i σ H' => ∃ y, H' = H ∧ σ = [some (.ref d), some (.ref t), some (.int (((ms.take i).map sz).prod : Nat)), y]) (SqT.of et) ⟨none, rfl, rfl⟩ (fun i σ H' _ p => by obtain ⟨_, rfl, _⟩ := p; exact SqT.of et) (fun i v σ H' e p => ?_) fun σ H' p => ?_
  · obtain ⟨y, rfl, rfl⟩ := p
    rw [List.getElem?_map] at e
    obtain ⟨x, hx, rfl⟩ := Option.map_eq_some_iff.mp e
    have hmem : x ∈ ms := List.mem_of_getElem? hx
    obtain ⟨kvs, ed, hk⟩ := hd
    obtain ⟨b, xs, h1, h2, h3⟩ := hk x (hsub x hmem)
    have h4 := hz x hmem
    walk_at "aw"
    refine kDGet_i (k := Sum.inr x) ed h1 ?_
    walk_at "aw"
    refine w_lenT (SqT.of h2) ?_
    walk_at "aw"
    refine w_I (.inr ⟨by omega, by omega⟩) ?_
    walk_at "aw"
    refine ⟨some (.str x), rfl, ?_⟩
    have ep : (((ms.take (i + 1)).map sz).prod : Int) = ((ms.take i).map sz).prod * (sz x : Nat) := by
      rw [List.take_add_one, hx]
      simp
    rw [h3, ← ep]
    rfl
  · obtain ⟨y, rfl, rfl⟩ := p
    walk_at "aw"
    rw [List.length_map, List.take_length]
    rw [show (decide (((ms.map sz).prod : Nat) ≤ (256 : Int))) = decide ((ms.map sz).prod ≤ 256) by rw [Bool.eq_iff_iff, decide_eq_true_iff, decide_eq_true_iff]; omega]
    exact q
theorem len_domains_of {K : PySem.W.Frag} : ∀ (vs : List V) (H : Hp) (Q : VK) (E : XK), sp_domains_of K vs H Q E → vs.length = 1 := fun vs H Q E h => by
  obtain ⟨_, rfl, _⟩ := h
  rfl
theorem pure_domains_of {K : PySem.W.Frag} (vs : List V) (H : Hp) (Q : VK) (E : XK) (h : sp_domains_of K vs H Q E) : t_domains_of K { nx := fun _ H' => Q .non H', rt := Q } (start ["model", "name", "domain"] vs) H := by
  obtain ⟨m, rfl, doms, firm, soft, sz, hm, hnd, hl, hsz, q⟩ := h
  obtain ⟨a, b, c, d, xs, ys, zs, rfl, ea, eb, tb, ec, tc, ed, td⟩ := is_mod hm
  show t_domains_of K _ [some (.ref a), none, none] H
  have hxl : xs.length = doms.length := by rw [tb.length, List.length_map]
  -- the parts of each unknown
  have hall : ∀ (i : Nat) (x : V), xs[i]? = some x → ∃ (p : Str × List Int) (ia ib : Addr), doms[i]? = some p ∧ x = .ref ia ∧ H ia = some (.tup [.str p.1, .ref ib]) ∧ H ib = some (.tup (p.2.map V.int)) := fun i x e => by
    obtain ⟨dd, z1, h1⟩ := tb.get e
    rw [List.getElem?_map] at z1
    obtain ⟨p, z2, rfl⟩ := Option.map_eq_some_iff.mp z1
    obtain ⟨ia, ib, h2, h3, h4⟩ := is_dom h1
    exact ⟨p, ia, ib, z2, h2, h3, h4⟩
  obtain ⟨bs, hbl, hbs⟩ : ∃ bs : List Addr, bs.length = xs.length ∧ ∀ (i : Nat) x ib, xs[i]? = some x → bs[i]? = some ib → ∃ p ia, doms[i]? = some p ∧ x = .ref ia ∧ H ia = some (.tup [.str p.1, .ref ib]) ∧ H ib = some (.tup (p.2.map V.int)) := by
    clear tb hxl eb ea hm q hnd hl hsz
    induction xs generalizing doms with
    | nil => exact ⟨[], rfl, fun i x ib e => by simp at e⟩
    | cons x xs ih =>
      obtain ⟨p, ia, ib, z, h1, h2, h3⟩ := hall 0 x rfl
      obtain ⟨bs, g1, g2⟩ := ih (doms := doms.tail) fun i y e => by
        obtain ⟨p', ia', ib', z', h'⟩ := hall (i + 1) y (by simpa using e)
        exact ⟨p', ia', ib', by rw [List.getElem?_tail]; exact z', h'⟩
      refine ⟨ib :: bs, by simp [g1], fun i y ib' e1 e2 => ?_⟩
      cases i with
      | zero =>
        simp at e1 e2
        subst e1 e2
        exact ⟨p, ia, z, h1, h2, h3⟩
      | succ i =>
        obtain ⟨p', ia', z', h'⟩ := g2 i y ib' (by simpa using e1) (by simpa using e2)
        exact ⟨p', ia', by rw [List.getElem?_tail] at z'; exact z', h'⟩
  unfold t_domains_of
  walk_at "aw"
  refine w_ixT (SqT.of ea) rfl ?_
  refine ⟨b, rfl, ⟨_, SqT.of eb⟩, kDc_pure walk_tup (by omega) (fun H' g => SqT.of (g.tup _ _ eb)) (fun i => (Sum.inr ((doms.map (·.1)).getD i nix) : Key)) (fun i => .ref (bs.getD i 0)) (fun i x H2 H3 Kt hi g2 y kt => ?_) fun p H' np g' ep => ?_⟩
  · obtain ⟨rfl, y1⟩ := y
    obtain ⟨ib, z2⟩ := get_some (xs := bs) (i := i) (by omega)
    obtain ⟨p, ia, z1, rfl, h2, h3⟩ := hbs i x ib y1 z2
    rw [getD_of z2, getD_of (show (doms.map (·.1))[i]? = some p.1 by rw [List.getElem?_map, z1]; rfl)] at kt
    walk_at "aw"
    refine w_gtup (SqT.of (g2.tup _ _ h2)) rfl ?_
    walk_at "aw"
    refine ⟨rfl, ?_⟩
    walk_at "aw"
    exact kt _ (.refl _ _)
  · refine q p H' g' ⟨_, ep, fun x hx => ?_⟩
    obtain ⟨j, hj, ej⟩ := List.mem_iff_getElem.mp hx
    rw [List.length_map] at hj
    obtain ⟨y, y1⟩ := get_some (xs := xs) (i := j) (by omega)
    obtain ⟨ib, z2⟩ := get_some (xs := bs) (i := j) (by omega)
    obtain ⟨p', ia, z1, rfl, h2, h3⟩ := hbs j y ib y1 z2
    have ex : x = p'.1 := by
      rw [← ej, List.getElem_map]
      rw [List.getElem?_eq_getElem hj] at z1
      cases z1
      rfl
    have zn : ∀ {k : Nat} (hk : k < doms.length), (doms.map (·.1)).getD k nix = (doms.map (·.1))[k]'(by simpa using hk) := fun hk => getD_of (List.getElem?_eq_getElem (by simpa using hk))
    have hinj : ∀ a b, a < xs.length → b < xs.length → (Sum.inr ((doms.map (·.1)).getD a nix) : Key) = Sum.inr ((doms.map (·.1)).getD b nix) → a = b := fun a b ha hb e => by
      have e := Sum.inr.inj e
      rw [zn (by omega), zn (by omega)] at e
      exact nodup_inj hnd (List.getElem?_eq_getElem (by rw [List.length_map]; omega)) (by rw [e]; exact List.getElem?_eq_getElem (by rw [List.length_map]; omega))
    have hv := dictOf_val (key := fun i => (Sum.inr ((doms.map (·.1)).getD i nix) : Key)) (val := fun i => V.ref (bs.getD i 0)) hinj (show j < xs.length by omega)
    rw [getD_of z2, getD_of (show (doms.map (·.1))[j]? = some x by rw [List.getElem?_eq_getElem (by rw [List.length_map]; exact hj), ej])] at hv
    refine ⟨ib, _, hv, g'.tup _ _ h3, ?_⟩
    rw [List.length_map, ex, hsz p' (List.mem_of_getElem? z1)]
theorem len_saying_of {K : PySem.W.Frag} : ∀ (vs : List V) (H : Hp) (Q : VK) (E : XK), sp_saying_of K vs H Q E → vs.length = 2 := fun vs H Q E h => by
  obtain ⟨_, _, rfl, _⟩ := h
  rfl
theorem pure_saying_of {K : PySem.W.Frag} (vs : List V) (H : Hp) (Q : VK) (E : XK) (h : sp_saying_of K vs H Q E) : t_saying_of K { nx := fun _ H' => Q .non H', rt := Q } (start ["model", "name", "sayings", "item"] vs) H := by
  obtain ⟨m, n, rfl, doms, firm, soft, s, hm, hnd, hl1, hl2, hmem, q⟩ := h
  obtain ⟨a, b, c, d, xs, ys, zs, rfl, ea, eb, tb, ec, tc, ed, td⟩ := is_mod hm
  show t_saying_of K _ [some (.ref a), some (.str n), none, none] H
  have hly : ys.length = firm.length := by rw [tc.length, List.length_map]
  have hlz : zs.length = soft.length := by rw [td.length, List.length_map]
  have hall : ∀ (i : Nat) p x, (firm ++ soft.map fun q => (q.1, q.2.1))[i]? = some p → (ys ++ zs)[i]? = some x → ∃ sv, ItAt H p.1 p.2 sv x := fun i p x e1 e2 => by
    by_cases hi : i < firm.length
    · rw [List.getElem?_append_left hi] at e1
      rw [List.getElem?_append_left (by omega)] at e2
      obtain ⟨dd, z1, h1⟩ := tc.get e2
      rw [List.getElem?_map, e1] at z1
      cases z1
      exact is_it h1
    · rw [List.getElem?_append_right (by omega)] at e1 e2
      rw [List.getElem?_map] at e1
      obtain ⟨pr, z, rfl⟩ := Option.map_eq_some_iff.mp e1
      obtain ⟨dd, z1, h1⟩ := td.get e2
      rw [hly, List.getElem?_map, z] at z1
      cases z1
      exact is_sf h1
  obtain ⟨svs, hsl, hsv⟩ := items_of (by simp; omega) hall
  generalize hA : (firm ++ soft.map fun q => (q.1, q.2.1)) = all at hall hsl hsv hmem
  have hAl : all.length = ys.length + zs.length := by rw [← hA]; simp; omega
  have hAn : (all.map (·.1)).Nodup := by
    rw [← hA, List.map_append, List.map_map]
    exact hnd
  unfold t_saying_of
  walk_at "aw"
  refine w_ixT (SqT.of ea) rfl ?_
  walk_at "aw"
  refine w_ixT (SqT.of ea) rfl ?_
  refine w_catT' ec ed (by omega) fun r H1 a1 e1 => ?_
  refine ⟨r, rfl, ⟨_, SqT.of e1⟩, ?_⟩
  refine kDc_pure (walk_tup (K := K) (a := r) (xs := ys ++ zs)) (by simp; omega) (fun H' g => SqT.of (g.tup _ _ e1)) (fun i => Sum.inr ((all.map (·.1)).getD i nix)) (fun i => svs.getD i .non) (fun i x H2 H3 Kt hi g2 y kt => ?_) fun p H' np g' ep => ?_
  · obtain ⟨rfl, y1⟩ := y
    rw [List.length_append] at hi
    obtain ⟨pr, z1⟩ := get_some (xs := all) (i := i) (by omega)
    obtain ⟨sv, z2⟩ := get_some (xs := svs) (i := i) (by omega)
    obtain ⟨ia, rest, rfl, ei, hi2⟩ := hsv i pr x sv z1 y1 z2
    have zn : (all.map (·.1))[i]? = some pr.1 := by rw [List.getElem?_map, z1]; rfl
    rw [getD_of zn, getD_of z2] at kt
    have ei2 := g2.tup _ _ (a1.tup _ _ ei)
    walk_at "aw"
    refine ⟨rfl, ?_⟩
    walk_at "aw"
    refine w_ixT (SqT.of ei2) (at_of (j := 0) rfl rfl) ?_
    walk_at "aw"
    refine w_ixT (SqT.of ei2) (at_of (j := 1) rfl rfl) ?_
    exact kt _ (.refl _ _)
  · obtain ⟨j, hj, ej⟩ := List.mem_iff_getElem.mp hmem
    have hjy : j < (ys ++ zs).length := by simp; omega
    obtain ⟨sv, z2⟩ := get_some (xs := svs) (i := j) (by omega)
    obtain ⟨x, z3⟩ := get_some (xs := ys ++ zs) (i := j) hjy
    have z1 : all[j]? = some (n, s) := by rw [List.getElem?_eq_getElem hj, ej]
    obtain ⟨ia, rest, rfl, ei, hi2⟩ := hsv j _ x sv z1 z3 z2
    have zn : ∀ {k : Nat} (hk : k < all.length), (all.map (·.1)).getD k nix = (all.map (·.1))[k]'(by simpa using hk) := fun hk => getD_of (List.getElem?_eq_getElem (by simpa using hk))
    have hinj : ∀ a b, a < (ys ++ zs).length → b < (ys ++ zs).length → (Sum.inr ((all.map (·.1)).getD a nix) : Key) = Sum.inr ((all.map (·.1)).getD b nix) → a = b := fun a b ha hb e => by
      have ha' : a < all.length := by rw [List.length_append] at ha; omega
      have hb' : b < all.length := by rw [List.length_append] at hb; omega
      have e := Sum.inr.inj e
      rw [zn ha', zn hb'] at e
      exact nodup_inj hAn (List.getElem?_eq_getElem (by simpa using ha')) (by rw [e]; exact List.getElem?_eq_getElem (by simpa using hb'))
    have hv := dictOf_val (key := fun i => (Sum.inr ((all.map (·.1)).getD i nix) : Key)) (val := fun i => svs.getD i .non) hinj hjy
    have hn : (all.map (·.1)).getD j nix = n := getD_of (by rw [List.getElem?_map, z1]; rfl)
    rw [hn, getD_of z2] at hv
    walk_at "aw"
    refine kDGet_i (k := Sum.inr n) ep hv ?_
    exact q sv H' (a1.trans g') (hi2.up (a1.trans g').tup)
theorem len_unknowns_of {K : PySem.W.Frag} : ∀ (vs : List V) (H : Hp) (Q : VK) (E : XK), sp_unknowns_of K vs H Q E → vs.length = 2 := fun vs H Q E h => by
  obtain ⟨_, _, rfl, _⟩ := h
  rfl
theorem when_in {s : Say} (h : s.ok) : s.isWhen = true → 1 < 2 := fun _ => by decide
theorem pure_unknowns_of {K : PySem.W.Frag} (vs : List V) (H : Hp) (Q : VK) (E : XK) (h : sp_unknowns_of K vs H Q E) : t_unknowns_of K { nx := fun _ H' => Q .non H', rt := Q } (start ["model", "name"] vs) H := by
  obtain ⟨m, n, rfl, doms, firm, soft, s, hm, mok, sok, hmem, q⟩ := h
  show t_unknowns_of K _ [some m, some (.str n)] H
  unfold t_unknowns_of
  walk_at "aw"
  refine ⟨m, n, rfl, doms, firm, soft, s, hm, mok.sn, mok.fl, mok.sl, hmem, fun v H1 a1 hv => ?_⟩
  walk_at "aw"
  refine ⟨v, rfl, s, hv, sok.1, sok.2.1, sok.2.2.1, by decide, fun _ => by decide, fun t H2 a2 ht => ?_⟩
  obtain ⟨ms, et, nm, bm⟩ := ht
  have hlen : ms.length ≤ 40 := by
    have := nm.length_le_of_subset (l₂ := doms.map (·.1)) fun x hx => sok.2.2.2 x ((bm x).mp hx)
    rw [List.length_map] at this
    exact Nat.le_trans this mok.dl
  walk_at "aw"
  refine w_sortTS et (by omega) fun ys r H3 pm so nr a3 er => ?_
  refine w_tupL (SqL.of er) fun u H4 nu a4 eu => ?_
  refine q u ys H4 (((a1.trans a2).trans a3).trans a4) eu (pm.symm.nodup nm) so fun x => by rw [pm.mem_iff, bm]
theorem len_is_small {K : PySem.W.Frag} : ∀ (vs : List V) (H : Hp) (Q : VK) (E : XK), sp_is_small K vs H Q E → vs.length = 2 := fun vs H Q E h => by
  obtain ⟨_, _, rfl, _⟩ := h
  rfl
theorem pure_is_small {K : PySem.W.Frag} (vs : List V) (H : Hp) (Q : VK) (E : XK) (h : sp_is_small K vs H Q E) : t_is_small K { nx := fun _ H' => Q .non H', rt := Q } (start ["model", "name"] vs) H := by
  obtain ⟨m, n, rfl, doms, firm, soft, s, sz, ms0, hm, mok, sok, hmem, hsz, nd0, b0, q⟩ := h
  show t_is_small K _ [some m, some (.str n)] H
  unfold t_is_small
  walk_at "aw"
  refine ⟨m, rfl, doms, firm, soft, sz, hm, mok.dn, Nat.le_trans mok.dl (by decide), hsz, fun d H1 a1 hd => ?_⟩
  walk_at "aw"
  refine ⟨m, n, rfl, doms, firm, soft, s, hm.up a1.tup, mok.sn, mok.fl, mok.sl, hmem, fun v H2 a2 hv => ?_⟩
  walk_at "aw"
  refine ⟨v, rfl, s, hv, sok.1, sok.2.1, sok.2.2.1, by decide, fun _ => by decide, fun t H3 a3 ht => ?_⟩
  obtain ⟨ms, et, nm, bm⟩ := ht
  have hmd : ∀ x ∈ ms, x ∈ doms.map (·.1) := fun x hx => sok.2.2.2 x ((bm x).mp hx)
  walk_at "aw"
  refine ⟨d, t, rfl, ms, doms.map (·.1), sz, ?_, et, hmd, fun x hx => ?_, ?_⟩
  · obtain ⟨kvs, ed, hk⟩ := hd
    refine ⟨kvs, (a2.trans a3).keep _ _ (fun z => nomatch z) ed, fun x hx => ?_⟩
    obtain ⟨b, xs, h1, h2, h3⟩ := hk x hx
    exact ⟨b, xs, h1, (a2.trans a3).tup _ _ h2, h3⟩
  · obtain ⟨p, hp, rfl⟩ := List.mem_map.mp (hmd x hx)
    rw [hsz p hp]
    have := (mok.dz p hp).2
    omega
  · have e : (ms.map sz).prod = (ms0.map sz).prod := prod_perm ((perm_of_mem nm nd0 fun x => by rw [bm, b0]).map sz)
    rw [e]
    exact q H3 ((a1.trans a2).trans a3)
end AW
namespace AW
open PySem PySem.Spec PyProof.Rows L2 RZ
open StX
local macro_rules | `(tactic| walk_at "aw1") => `(tactic| first
  | (with_reducible refine w_seq ?_) | (with_reducible refine w_asg ?_) | (with_reducible refine w_gname ?_) | (with_reducible refine w_op ?_) | (with_reducible refine w_un ?_)
  | ((with_reducible refine' w_var ?h ?_); (case h => rfl)) | (with_reducible refine w_c ?_)
  | (with_reducible refine w_I0 ?_) | (with_reducible refine w_U ?_) | (with_reducible refine w_cb ?_) | (with_reducible refine w_nil ?_) | (with_reducible refine w_cons ?_) | (with_reducible refine w_call ?_)
  | (with_reducible refine w_test ?_) | (with_reducible refine w_B ?_) | (with_reducible refine w_bl ?_) | (with_reducible refine w_not ?_) | (with_reducible refine w_yes ?_) | (with_reducible refine iteT ?_) | (with_reducible refine iteF ?_) | (with_reducible refine w_and ?_) | (with_reducible refine w_or ?_)
  | (with_reducible refine w_andV ?_) | (with_reducible refine w_orV ?_) | (with_reducible refine w_notV ?_) | (with_reducible refine w_if ?_)
  | (with_reducible refine w_int1 ?_) | (with_reducible refine w_int1b ?_) | (with_reducible refine w_abs ?_) | (with_reducible refine w_max2 ?_) | (with_reducible refine w_min2 ?_)
  | ((with_reducible refine w_eq ?h ?_); (case h => rfl)) | ((with_reducible refine w_ne ?h ?_); (case h => rfl)) | (with_reducible refine w_isN ?_) | (with_reducible refine w_isB ?_) | (with_reducible refine w_chain ?_)
  | (with_reducible refine w_ret ?_) | (with_reducible refine w_drop ?_) | (with_reducible refine w_ifS ?_) | (with_reducible refine w_gsub ?_) | (with_reducible refine w_augS ?_) | (with_reducible refine w_ipI ?_) | (with_reducible refine w_next ?_)
  | (with_reducible refine w_forR ?_) | (with_reducible refine w_forR2 ?_) | (with_reducible refine w_forL ?_) | (with_reducible refine w_forT ?_) | (with_reducible refine w_lcR ?_) | (with_reducible refine w_lcL ?_) | (with_reducible refine w_lcT ?_) | (with_reducible refine w_sl ?_) | (with_reducible refine w_part ?_) | (with_reducible refine w_noPart ?_) | (with_reducible refine w_in ?_)
  | (with_reducible refine w_gcons ?_) | (with_reducible refine w_gnil ?_) | (with_reducible refine w_lc3 ?_) | (with_reducible refine w_dcZ ?_) | (with_reducible refine w_dcT ?_) | (with_reducible refine w_dg ?_) | (with_reducible refine w_callK ?_) | (with_reducible refine w_dput ?_) | (with_reducible refine w_tup1 ?_)
  | (with_reducible refine w_tup ?_) | (with_reducible refine w_lst ?_)
  | ((with_reducible refine w_I ?h ?_); (case h => first | (exact Or.inr ⟨by decide, by decide⟩) | (exact Or.inl ⟨by decide, by decide⟩) | (show (0 : Int) < _; decide) | (exact ⟨by decide, by decide, by decide⟩) | assumption)))
local macro_rules | `(tactic| walk_at "aw") => `(tactic| repeat (walk_at "aw1"))
/-! ### the law's own reading of names -/
def sp__law_claim_names (_ : PySem.W.Frag) (m : Nat) : Sp := fun vs H Q _ => ∃ v, vs = [v] ∧ ∃ D f ns, Is H D v ∧ ClD m D f ns ∧ ns.length ≤ 100000 ∧ ∀ r H', H r = none → Adv [] H H' → H' r = some (.lst (ns.map V.str)) → Q (.ref r) H'
def sp__law_own (_ : PySem.W.Frag) (m : Nat) : Sp := fun vs H Q _ => ∃ v, vs = [v] ∧ ∃ s, Is H (sayD s) v ∧ s.ok ∧ s.names.length ≤ 1000 ∧ 0 < m ∧ (s.isWhen = true → 1 < m) ∧ ∀ r H', H r = none → Adv [] H H' → H' r = some (.lst (s.names.map V.str)) → Q (.ref r) H'
def sp__law_ascending (_ : PySem.W.Frag) : Sp := fun vs H Q _ => ∃ p, vs = [.ref p] ∧
  ((∃ xs U : List Str, H p = some (.lst (xs.map V.str)) ∧ xs.length ≤ 1000 ∧ (∀ x ∈ xs, x ∈ U) ∧ U.length < 64 ∧ ∀ t ys H', Adv [] H H' → H' t = some (.tup (ys.map V.str)) → ys.Nodup → sortedS ys = true → (∀ x, x ∈ ys ↔ x ∈ xs) → Q (.ref t) H') ∨
   (∃ xs : List Int, H p = some (.lst (xs.map V.int)) ∧ xs.length < 64 ∧ ∀ t (ys : List Int) H', Adv [] H H' → H' t = some (.tup (ys.map V.int)) → ys.length ≤ xs.length → Q (.ref t) H'))
/-- truth values, numbers, texts, and tuples of such -/
inductive SmD : Nat → PyData → Prop
  | bl {m : Nat} (b : Bool) : SmD (m + 1) (.bool b)
  | int {m : Nat} (n : Int) : SmD (m + 1) (.int n)
  | str {m : Nat} (x : Str) : SmD (m + 1) (.str x)
  | tup {m : Nat} (ds : List PyData) (hl : ds.length ≤ 1000) (h : ∀ d ∈ ds, SmD m d) : SmD (m + 1) (.tuple ds)
def sp__law_same (_ : PySem.W.Frag) (m : Nat) : Sp := fun vs H Q _ => ∃ v u, vs = [v, u] ∧ ∃ d, Is H d v ∧ Is H d u ∧ SmD m d ∧ Q (.bl true) H
/-- a row of items: a name, a saying, more -/
def RowAt (K : PySem.W.Frag) (H : Hp) (r : Addr) (row : List (Str × Say)) : Prop := ∃ xs, SqL K H r xs ∧ xs.length = row.length ∧ ∀ (i : Nat) p x, row[i]? = some p → xs[i]? = some x → ∃ sv, ItAt H p.1 p.2 sv x
def sp__law_told (K : PySem.W.Frag) : Sp := fun vs H Q _ => ∃ m r b, vs = [m, .ref r, .bl b] ∧ ∃ (doms : List (Str × List Int)) (firm : List (Str × Say)) (soft : List (Str × Say × Int)) (row : List (Str × Say)), Is H (modD doms firm soft) m ∧ ModOk doms firm soft ∧ RowAt K H r row ∧ row.length ≤ 1000 ∧
  (∀ p ∈ row, p ∈ firm ++ soft.map (fun q => (q.1, q.2.1)) ∧ SayOk doms p.2) ∧ ∀ H', Adv [] H H' → Q (.bl true) H'
def t__law_claim_names (K : PySem.W.Frag) (m : Nat) : TS := (tSeq (tIfS (tTest (tOp (rIn K false) (tOp (rIxT K) (tVar 0) (tC (.int 0))) (tLst (tCons (tC (.str "from")) (tCons (tC (.str "is")) tNil))))) (tRet (tLst (tCons (tOp (rIxT K) (tVar 0) (tC (.int 1))) tNil))) tNext)
  (tSeq (tIfS (tTest (tOp rEq (tOp (rIxT K) (tVar 0) (tC (.int 0))) (tC (.str "not")))) (tRet (tCall (sp__law_claim_names K m) [] E0 (tCons (tOp (rIxT K) (tVar 0) (tC (.int 1))) tNil))) tNext)
  (tSeq (tAsg (tLst tNil) (gName 1))
  (tSeq (tFor (iTup K (tOp (rIxT K) (tVar 0) (tC (.int 1)))) (gName 2)
  (tAsg (tOp rCat (tVar 1) (tCall (sp__law_claim_names K m) [] E0 (tCons (tVar 2) tNil))) (gName 1)))
  (tRet (tVar 1))))))
def t__law_own (K : PySem.W.Frag) (m : Nat) : TS := (tSeq (tAsg (tOp (rIxT K) (tVar 0) (tC (.int 0))) (gName 1))
  (tSeq (tIfS (tTest (tOp (rIn K false) (tVar 1) (tLst (tCons (tC (.str "least")) (tCons (tC (.str "same")) tNil))))) (tRet (tLc (iTup K (tOp (rIxT K) (tVar 0) (tC (.int 1)))) (gName 2) tYes (tOp (rIxT K) (tVar 2) (tC (.int 0))) [2])) tNext)
  (tSeq (tIfS (tTest (tOp rEq (tVar 1) (tC (.str "pick")))) (tRet (tOp rCat (tOp rCat (tLst (tCons (tOp (rIxT K) (tVar 0) (tC (.int 1))) tNil)) (tCB (rListOfA K) (tCons (tOp (rIxT K) (tVar 0) (tC (.int 2))) tNil))) (tLst (tCons (tOp (rIxT K) (tVar 0) (tC (.int 3))) tNil)))) tNext)
  (tSeq (tIfS (tTest (tOp rEq (tVar 1) (tC (.str "top")))) (tRet (tOp rCat (tCB (rListOf K) (tCons (tOp (rIxT K) (tVar 0) (tC (.int 1))) tNil)) (tLst (tCons (tOp (rIxT K) (tVar 0) (tC (.int 2))) tNil)))) tNext)
  (tSeq (tIfS (tTest (tOp rEq (tVar 1) (tC (.str "product")))) (tRet (tCB (rListOf K) (tCons (tSl (rSlA K) (tVar 0) (tPart (tC (.int 1))) tNoPart) tNil))) tNext)
  (tSeq (tIfS (tTest (tOp rEq (tVar 1) (tC (.str "ahead")))) (tRet (tOp rCat (tCB (rListOf K) (tCons (tOp (rIxT K) (tVar 0) (tC (.int 1))) tNil)) (tCB (rListOfA K) (tCons (tOp (rIxT K) (tVar 0) (tC (.int 2))) tNil)))) tNext)
  (tSeq (tIfS (tTest (tOp rEq (tVar 1) (tC (.str "claim")))) (tRet (tCall (sp__law_claim_names K 8) [] E0 (tCons (tOp (rIxT K) (tVar 0) (tC (.int 1))) tNil))) tNext)
  (tSeq (tIfS (tTest (tOp rEq (tVar 1) (tC (.str "when")))) (tRet (tOp rCat (tCall (sp__law_claim_names K 8) [] E0 (tCons (tOp (rIxT K) (tVar 0) (tC (.int 1))) tNil)) (tCall (sp__law_own K m) [] E0 (tCons (tOp (rIxT K) (tVar 0) (tC (.int 2))) tNil)))) tNext)
  (tRet (tCB (rListOf K) (tCons (tOp (rIxT K) (tVar 0) (tC (.int 1))) tNil)))))))))))
def t__law_ascending (K : PySem.W.Frag) : TS := (tSeq (tAsg tDNewK (gName 1))
  (tSeq (tFor (iList K (tVar 0)) (gName 2)
  (sDPut (tVar 1) (tVar 2) (tC (.bl true))))
  (tRet (tThen (tCB rSortDIS (tCons (tVar 1) tNil)) (kTup K)))))
def t__law_same (K : PySem.W.Frag) (m : Nat) : TS := (tSeq (tIfS (tTest (tOp rIsN (tVar 1) (tC .non))) (tRet (tOp rIsN (tVar 0) (tC .non))) tNext)
  (tSeq (tIfS (tOr (tB (tCB (rIsi K) (tCons (tVar 1) (tCons (tC (.ty "bool")) tNil)))) (tB (tCB (rIsi K) (tCons (tVar 0) (tCons (tC (.ty "bool")) tNil))))) (tRet (tAndV (tCB (rIsi K) (tCons (tVar 1) (tCons (tC (.ty "bool")) tNil))) (tAndV (tCB (rIsi K) (tCons (tVar 0) (tCons (tC (.ty "bool")) tNil))) (tOp rEq (tVar 0) (tVar 1))))) tNext)
  (tSeq (tIfS (tB (tCB (rIsi K) (tCons (tVar 1) (tCons (tC (.ty "int")) tNil)))) (tRet (tAndV (tCB (rIsi K) (tCons (tVar 0) (tCons (tC (.ty "int")) tNil))) (tOp rEq (tVar 0) (tVar 1)))) tNext)
  (tSeq (tIfS (tB (tCB (rIsi K) (tCons (tVar 1) (tCons (tC (.ty "str")) tNil)))) (tRet (tAndV (tCB (rIsi K) (tCons (tVar 0) (tCons (tC (.ty "str")) tNil))) (tOp rEq (tVar 0) (tVar 1)))) tNext)
  (tSeq (tIfS (tOr (tNot (tB (tCB (rIsi K) (tCons (tVar 1) (tCons (tC (.ty "tuple")) tNil))))) (tOr (tNot (tB (tCB (rIsi K) (tCons (tVar 0) (tCons (tC (.ty "tuple")) tNil))))) (tTest (tOp rNe (tCB (rLen1 K) (tCons (tVar 0) tNil)) (tCB (rLen1 K) (tCons (tVar 1) tNil)))))) (tRet (tC (.bl false))) tNext)
  (tSeq (tFor (iRng1 (tCons (tCB (rLen1 K) (tCons (tVar 1) tNil)) tNil)) (gName 2)
  (tIfS (tNot (tB (tCall (sp__law_same K m) [] E0 (tCons (tOp (rIxA K) (tVar 0) (tVar 2)) (tCons (tOp (rIxA K) (tVar 1) (tVar 2)) tNil))))) (tRet (tC (.bl false))) tNext))
  (tRet (tC (.bl true)))))))))
def t__law_told (K : PySem.W.Frag) : TS := (tSeq (tAsg tDNewK (gName 3))
  (tSeq (tFor (iTup K (tOp (rIxT K) (tVar 0) (tC (.int 0)))) (gName 4)
  (sDPut (tVar 3) (tOp (rIxT K) (tVar 4) (tC (.int 0))) (tCB (rLen1 K) (tCons (tOp (rIxT K) (tVar 4) (tC (.int 1))) tNil))))
  (tSeq (tFor (iList K (tVar 1)) (gName 5)
  (tSeq (tAsg (tCall (sp__law_ascending K) [] E0 (tCons (tCall (sp__law_own K 2) [] E0 (tCons (tOp (rIxT K) (tVar 5) (tC (.int 1))) tNil)) tNil)) (gName 6))
  (tSeq (tAsg (tC (.int 1)) (gName 7))
  (tSeq (tFor (iTup K (tVar 6)) (gName 8)
  (tAsg (tOp rMulI (tVar 7) (tDGet (tVar 3) (tVar 8))) (gName 7)))
  (tSeq (tIfS (tB (tVar 2)) (tAsg (tTup (tCons (tCallK (sp_unknowns_of K) gK E0 tNil (tCons (tVar 0) (tCons (tOp (rIxT K) (tVar 5) (tC (.int 0))) tNil))) (tCons (tCallK (sp_is_small K) gK E0 tNil (tCons (tVar 0) (tCons (tOp (rIxT K) (tVar 5) (tC (.int 0))) tNil))) tNil))) (gName 9)) (tAsg (tTup (tCons (tCall (sp_unknowns_of K) [] E0 (tCons (tVar 0) (tCons (tOp (rIxT K) (tVar 5) (tC (.int 0))) tNil))) (tCons (tCall (sp_is_small K) [] E0 (tCons (tVar 0) (tCons (tOp (rIxT K) (tVar 5) (tC (.int 0))) tNil))) tNil))) (gName 9)))
  (tIfS (tNot (tB (tCall (sp__law_same K 4) [] E0 (tCons (tVar 9) (tCons (tTup (tCons (tVar 6) (tCons (tOp rLeI (tVar 7) (tC (.int 256))) tNil))) tNil))))) (tRet (tC (.bl false))) tNext))))))
  (tRet (tC (.bl true))))))
theorem len__law_claim_names {K : PySem.W.Frag} {m : Nat} : ∀ (vs : List V) (H : Hp) (Q : VK) (E : XK), sp__law_claim_names K m vs H Q E → vs.length = 1 := fun vs H Q E h => by
  obtain ⟨_, rfl, _⟩ := h
  rfl
theorem no__law_claim_names {K : PySem.W.Frag} {vs : List V} {H : Hp} {Q : VK} {E : XK} (h : sp__law_claim_names K 0 vs H Q E) : False := by
  obtain ⟨_, _, _, _, _, _, h, _⟩ := h
  cases h
theorem take_flat (nss : List (List Str)) (i : Nat) : (nss.take i).flatten.length ≤ nss.flatten.length := by
  induction nss generalizing i with
  | nil => simp
  | cons x xss ih =>
    cases i with
    | zero => simp
    | succ i =>
      rw [List.take_succ_cons, List.flatten_cons, List.flatten_cons, List.length_append, List.length_append]
      exact Nat.add_le_add_left (ih i) _
theorem pure__law_claim_names {K : PySem.W.Frag} {m : Nat} (vs : List V) (H : Hp) (Q : VK) (E : XK) (h : sp__law_claim_names K (m + 1) vs H Q E) : t__law_claim_names K m { nx := fun _ H' => Q .non H', rt := Q } (start ["claim", "made", "one"] vs) H := by
  obtain ⟨v, rfl, D, f, ns, hv, hc, hl, q⟩ := h
  show t__law_claim_names K m _ [some v, none, none] H
  unfold t__law_claim_names
  cases hc with
  | one b =>
    rename_i x n
    obtain ⟨a, rfl, ea⟩ := is_one hv
    walk_at "aw"
    refine w_ixT (SqT.of ea) rfl ?_
    walk_at "aw"
    refine w_lstD (by show 2 ≤ 100000; decide) fun t H1 nt a1 et => ?_
    refine w_inL et rfl rfl ?_
    have e : inV (V.str (atW b)) [V.str "from", V.str "is"] = true := by cases b <;> decide
    rw [e]
    walk_at "aw"
    refine w_ixT (SqT.of (a1.tup _ _ ea)) rfl ?_
    walk_at "aw"
    exact w_lstD (by show 1 ≤ 100000; decide) fun r H2 nr a2 er => q r H2 (a1.free (fun z => nomatch z) nr) (a1.trans a2) er
  | neg h =>
    rename_i d' f'
    obtain ⟨a, u, rfl, ea, hu⟩ := is_two hv
    walk_at "aw"
    refine w_ixT (SqT.of ea) rfl ?_
    walk_at "aw"
    refine w_lstD (by show 2 ≤ 100000; decide) fun t H1 nt a1 et => ?_
    refine w_inL et rfl rfl ?_
    rw [show inV (V.str "not") [V.str "from", V.str "is"] = false by decide]
    walk_at "aw"
    refine w_ixT (SqT.of (a1.tup _ _ ea)) rfl ?_
    walk_at "aw"
    refine w_iteB (fun _ => ?_) fun h => absurd rfl h
    walk_at "aw"
    refine w_ixT (SqT.of (a1.tup _ _ ea)) rfl ?_
    exact ⟨u, rfl, d', f', ns, hu.up a1.tup, h, hl, fun r H' nr a4 er => q r H' (a1.free (fun z => nomatch z) nr) (a1.trans a4) er⟩
  | many b ds fs nss hl1 hl2 h1 h =>
    obtain ⟨a, u, rfl, ea, hu⟩ := is_two hv
    obtain ⟨c, xs, rfl, ec, tc⟩ := hu.tup_inv
    have hxl : xs.length = ds.length := tc.length
    walk_at "aw"
    refine w_ixT (SqT.of ea) rfl ?_
    walk_at "aw"
    refine w_lstD (by show 2 ≤ 100000; decide) fun t H1 nt a1 et => ?_
    refine w_inL et rfl rfl ?_
    rw [show inV (V.str (manyW b)) [V.str "from", V.str "is"] = false by cases b <;> decide]
    walk_at "aw"
    refine w_ixT (SqT.of (a1.tup _ _ ea)) rfl ?_
    walk_at "aw"
    refine w_iteB (fun h => absurd h (by cases b <;> decide)) fun _ => ?_
    walk_at "aw"
    refine w_lstD (by simp) fun md H2 nm a2 em => ?_
    walk_at "aw"
    have a12 := a1.trans a2
    refine w_ixT (SqT.of (a12.tup _ _ ea)) rfl ?_
    refine kForT_i (xs := xs) (fun i σ H' => ∃ r y, σ = [some (.ref a), some (.ref r), y] ∧ H r = none ∧ Adv [] H H' ∧ H' r = some (.lst ((nss.take i).flatten.map V.str))) (SqT.of (a12.tup _ _ ec))
      ⟨md, none, rfl, a1.free (fun z => nomatch z) nm, a12, em⟩ (fun i σ H' _ p => by obtain ⟨_, _, _, _, ad, _⟩ := p; exact SqT.of (ad.tup _ _ ec)) (fun i x σ H' e p => ?_) fun σ H' p => ?_
    · obtain ⟨r, y, rfl, nr, ad, er⟩ := p
      obtain ⟨dt, z1, hdt⟩ := tc.get e
      have hk : i < xs.length := (List.getElem?_eq_some_iff.mp e).1
      obtain ⟨fn, z2⟩ := get_some (xs := fs) (i := i) (by omega)
      obtain ⟨nn, z3⟩ := get_some (xs := nss) (i := i) (by omega)
      have hn := get_flat z3
      walk_at "aw"
      refine ⟨x, rfl, dt, fn, nn, hdt.up ad.tup, h i dt fn nn z1 z2 z3, by omega, fun r2 H3 nr2 a3 er2 => ?_⟩
      have l1 := take_flat nss (i + 1)
      have et : (nss.take (i + 1)).flatten = (nss.take i).flatten ++ nn := by rw [List.take_add_one, z3]; simp
      rw [et, List.length_append] at l1
      refine w_cat (a3.keep _ _ (fun z => nomatch z) er) er2 (by rw [List.length_map, List.length_map]; omega) fun r3 H4 n3 a4 e4 => ?_
      walk_at "aw"
      refine ⟨r3, some x, rfl, ad.free (fun z => nomatch z) (a3.free (fun z => nomatch z) n3), (ad.trans a3).trans a4, ?_⟩
      rw [e4, et, List.map_append]
    · obtain ⟨r, y, rfl, nr, ad, er⟩ := p
      walk_at "aw"
      refine q r H' nr ad ?_
      rw [er, List.take_of_length_le (by omega)]
theorem len__law_own {K : PySem.W.Frag} {m : Nat} : ∀ (vs : List V) (H : Hp) (Q : VK) (E : XK), sp__law_own K m vs H Q E → vs.length = 1 := fun vs H Q E h => by
  obtain ⟨_, rfl, _⟩ := h
  rfl
theorem no__law_own {K : PySem.W.Frag} {vs : List V} {H : Hp} {Q : VK} {E : XK} (h : sp__law_own K 0 vs H Q E) : False := by
  obtain ⟨_, _, _, _, _, _, h, _⟩ := h
  exact Nat.lt_irrefl _ h
theorem pure__law_own {K : PySem.W.Frag} {m : Nat} (vs : List V) (H : Hp) (Q : VK) (E : XK) (h : sp__law_own K (m + 1) vs H Q E) : t__law_own K m { nx := fun _ H' => Q .non H', rt := Q } (start ["saying", "kind", "pair"] vs) H := by
  obtain ⟨v, rfl, s, hv, ok, hn, _, hm, q⟩ := h
  show t__law_own K m _ [some v, none, none] H
  have rest : ∀ (a : Addr) (wd : Str) (xs : List V), H a = some (.tup (.str wd :: xs)) → inV (V.str wd) [V.str "least", V.str "same"] = false →
      (∀ H1, Adv [] H H1 → (tSeq (tIfS (tTest (tOp rEq (tVar 1) (tC (.str "pick")))) (tRet (tOp rCat (tOp rCat (tLst (tCons (tOp (rIxT K) (tVar 0) (tC (.int 1))) tNil)) (tCB (rListOfA K) (tCons (tOp (rIxT K) (tVar 0) (tC (.int 2))) tNil))) (tLst (tCons (tOp (rIxT K) (tVar 0) (tC (.int 3))) tNil)))) tNext)
  (tSeq (tIfS (tTest (tOp rEq (tVar 1) (tC (.str "top")))) (tRet (tOp rCat (tCB (rListOf K) (tCons (tOp (rIxT K) (tVar 0) (tC (.int 1))) tNil)) (tLst (tCons (tOp (rIxT K) (tVar 0) (tC (.int 2))) tNil)))) tNext)
  (tSeq (tIfS (tTest (tOp rEq (tVar 1) (tC (.str "product")))) (tRet (tCB (rListOf K) (tCons (tSl (rSlA K) (tVar 0) (tPart (tC (.int 1))) tNoPart) tNil))) tNext)
  (tSeq (tIfS (tTest (tOp rEq (tVar 1) (tC (.str "ahead")))) (tRet (tOp rCat (tCB (rListOf K) (tCons (tOp (rIxT K) (tVar 0) (tC (.int 1))) tNil)) (tCB (rListOfA K) (tCons (tOp (rIxT K) (tVar 0) (tC (.int 2))) tNil)))) tNext)
  (tSeq (tIfS (tTest (tOp rEq (tVar 1) (tC (.str "claim")))) (tRet (tCall (sp__law_claim_names K 8) [] E0 (tCons (tOp (rIxT K) (tVar 0) (tC (.int 1))) tNil))) tNext)
  (tSeq (tIfS (tTest (tOp rEq (tVar 1) (tC (.str "when")))) (tRet (tOp rCat (tCall (sp__law_claim_names K 8) [] E0 (tCons (tOp (rIxT K) (tVar 0) (tC (.int 1))) tNil)) (tCall (sp__law_own K m) [] E0 (tCons (tOp (rIxT K) (tVar 0) (tC (.int 2))) tNil)))) tNext)
  (tRet (tCB (rListOf K) (tCons (tOp (rIxT K) (tVar 0) (tC (.int 1))) tNil))))))))) { nx := fun _ H' => Q .non H', rt := Q } [some (.ref a), some (.str wd), none] H1) → t__law_own K m { nx := fun _ H' => Q .non H', rt := Q } [some (.ref a), none, none] H := by
    intro a wd xs ea hin h
    unfold t__law_own
    walk_at "aw"
    refine w_ixT (SqT.of ea) (v := .str wd) (at_of (j := 0) rfl rfl) ?_
    walk_at "aw"
    refine w_lstD (by show 2 ≤ 100000; decide) fun t H1 nt a1 et => ?_
    refine w_inL et rfl rfl ?_
    rw [hin]
    walk_at "aw1"
    walk_at "aw1"
    walk_at "aw1"
    exact h H1 a1
  have plain : ∀ (a p : Addr) (wd : Str) (xs : List V), H a = some (.tup (.str wd :: .ref p :: xs)) → inV (V.str wd) [V.str "least", V.str "same"] = false → wd ≠ "pick" → wd ≠ "top" → wd ≠ "product" → wd ≠ "ahead" → wd ≠ "claim" → wd ≠ "when" →
      H p = some (.tup (s.names.map V.str)) → t__law_own K m { nx := fun _ H' => Q .non H', rt := Q } [some (.ref a), none, none] H := by
    intro a p wd xs ea hin n1 n2 n3 n4 n5 n6 ep
    refine rest a wd _ ea hin fun H1 a1 => ?_
    walk_at "aw"
    refine w_iteB (fun h => absurd (V.str.inj h) n1) fun _ => ?_
    walk_at "aw"
    refine w_iteB (fun h => absurd (V.str.inj h) n2) fun _ => ?_
    walk_at "aw"
    refine w_iteB (fun h => absurd (V.str.inj h) n3) fun _ => ?_
    walk_at "aw"
    refine w_iteB (fun h => absurd (V.str.inj h) n4) fun _ => ?_
    walk_at "aw"
    refine w_iteB (fun h => absurd (V.str.inj h) n5) fun _ => ?_
    walk_at "aw"
    refine w_iteB (fun h => absurd (V.str.inj h) n6) fun _ => ?_
    walk_at "aw"
    refine w_ixT (SqT.of (a1.tup _ _ ea)) (v := .ref p) (at_of (j := 1) rfl rfl) ?_
    walk_at "aw"
    exact w_listOf (.inr (SqT.of (a1.tup _ _ ep))) fun r H2 nr a2 er => q r H2 (a1.free (fun z => nomatch z) nr) (a1.trans a2) er
  cases s with
  | sums b ts n =>
    obtain ⟨a, c, rfl, ea, hts⟩ := is_sums hv
    obtain ⟨c', xs, e0, ec, tc⟩ := hts.tup_inv
    cases e0
    have hxl : xs.length = ts.length := by rw [tc.length, List.length_map]
    unfold t__law_own
    walk_at "aw"
    refine w_ixT (SqT.of ea) (v := .str (sumW b)) (at_of (j := 0) rfl rfl) ?_
    walk_at "aw"
    refine w_lstD (by show 2 ≤ 100000; decide) fun t H1 nt a1 et => ?_
    refine w_inL et rfl rfl ?_
    rw [show inV (V.str (sumW b)) [V.str "least", V.str "same"] = true by cases b <;> decide]
    walk_at "aw"
    refine w_ixT (SqT.of (a1.tup _ _ ea)) (v := .ref c) (at_of (j := 1) rfl rfl) ?_
    refine ⟨c, rfl, ⟨_, SqT.of (a1.tup _ _ ec)⟩, ?_⟩
    have hl : ts.length ≤ 1000 := by simpa [Say.names] using hn
    refine kLc_pure walk_tup (by omega) (fun H' g => SqT.of (g.tup _ _ (a1.tup _ _ ec))) (fun _ => true) (fun i => .str ((ts.map (·.1)).getD i nix)) (fun i x H2 H3 Kt Kf hi g2 y kt kf => ?_) fun l H3 np g1 el => ?_
    · obtain ⟨rfl, y1⟩ := y
      obtain ⟨dt, z1, hdt⟩ := tc.get y1
      rw [List.getElem?_map] at z1
      obtain ⟨tr, z2, rfl⟩ := Option.map_eq_some_iff.mp z1
      obtain ⟨pa, rfl, ep⟩ := is_pair hdt
      rw [getD_of (show (ts.map (·.1))[i]? = some tr.1 by rw [List.getElem?_map, z2]; rfl)] at kt
      walk_at "aw"
      refine ⟨rfl, ?_⟩
      walk_at "aw"
      refine w_ixT (SqT.of (g2.tup _ _ (a1.tup _ _ ep))) rfl ?_
      exact kt rfl _ (.refl _ _)
    · refine q l H3 (a1.free (fun z => nomatch z) np) (a1.trans g1) ?_
      rw [el, filter_true, hxl, ← List.length_map (f := (·.1)), map_range (ts.map (·.1)) nix V.str]
      rfl
  | unlike xs =>
    obtain ⟨a, b, rfl, ea, eb⟩ := is_unlike hv
    exact plain a b "unlike" _ ea (by decide) (by decide) (by decide) (by decide) (by decide) (by decide) (by decide) eb
  | counts xs ts =>
    obtain ⟨a, b, c, vs, rfl, ea, eb, _⟩ := is_counts hv
    exact plain a b "counts" _ ea (by decide) (by decide) (by decide) (by decide) (by decide) (by decide) (by decide) eb
  | tab t xs rows =>
    obtain ⟨a, b, c, vs, rfl, ea, eb, _⟩ := is_tab hv
    exact plain a b (tabW t) _ ea (by cases t <;> decide) (by cases t <;> decide) (by cases t <;> decide) (by cases t <;> decide) (by cases t <;> decide) (by cases t <;> decide) (by cases t <;> decide) eb
  | mach xs s mv en =>
    obtain ⟨a, p, c, r, vs, rfl, ea, ep, _⟩ := is_mach hv
    exact plain a p "machine" _ ea (by decide) (by decide) (by decide) (by decide) (by decide) (by decide) (by decide) ep
  | works xs ls ns room =>
    obtain ⟨a, p, c, r, rfl, ea, ep, _⟩ := is_works hv
    exact plain a p "works" _ ea (by decide) (by decide) (by decide) (by decide) (by decide) (by decide) (by decide) ep
  | round xs =>
    obtain ⟨a, p, rfl, ea, ep⟩ := is_round hv
    exact plain a p "round" _ ea (by decide) (by decide) (by decide) (by decide) (by decide) (by decide) (by decide) ep
  | pick i xs r =>
    obtain ⟨a, b, rfl, ea, eb⟩ := is_pick hv
    refine rest a "pick" _ ea (by decide) fun H1 a1 => ?_
    have ea1 := a1.tup _ _ ea
    have hl : xs.length ≤ 998 := by simp [Say.names] at hn; omega
    walk_at "aw"
    refine w_iteB (fun _ => ?_) fun h => absurd rfl h
    walk_at "aw"
    refine w_ixT (SqT.of ea1) rfl ?_
    walk_at "aw"
    refine w_lstD (by show 1 ≤ 100000; decide) fun r1 H2 n2 a2 e2 => ?_
    walk_at "aw"
    refine w_ixT (SqT.of (a2.tup _ _ ea1)) rfl ?_
    walk_at "aw"
    refine w_listOfL (.inr (SqT.of ((a1.trans a2).tup _ _ eb))) fun r2 H3 n3 a3 e3 => ?_
    refine w_cat (a3.keep _ _ (fun z => nomatch z) e2) e3 (by simp; omega) fun r3 H4 n4 a4 e4 => ?_
    walk_at "aw"
    refine w_ixT (SqT.of ((a2.trans (a3.trans a4)).tup _ _ ea1)) rfl ?_
    walk_at "aw"
    refine w_lstD (by show 1 ≤ 100000; decide) fun r5 H5 n5 a5 e5 => ?_
    refine w_cat (a5.keep _ _ (fun z => nomatch z) e4) e5 (by simp; omega) fun r6 H6 n6 a6 e6 => ?_
    have A5 := (((a1.trans a2).trans a3).trans a4).trans a5
    refine q r6 H6 (A5.free (fun z => nomatch z) n6) (A5.trans a6) ?_
    rw [e6]
    simp [Say.names]
  | top xs r =>
    obtain ⟨a, b, rfl, ea, eb⟩ := is_top hv
    refine rest a "top" _ ea (by decide) fun H1 a1 => ?_
    have ea1 := a1.tup _ _ ea
    have hl : xs.length ≤ 999 := by simp [Say.names] at hn; omega
    walk_at "aw"
    refine w_iteB (fun h => absurd (V.str.inj h) (by decide)) fun _ => ?_
    walk_at "aw"
    refine w_iteB (fun _ => ?_) fun h => absurd rfl h
    walk_at "aw"
    refine w_ixT (SqT.of ea1) rfl ?_
    walk_at "aw"
    refine w_listOf (.inr (SqT.of (a1.tup _ _ eb))) fun r2 H3 n3 a3 e3 => ?_
    walk_at "aw"
    refine w_ixT (SqT.of (a3.tup _ _ ea1)) rfl ?_
    walk_at "aw"
    refine w_lstD (by show 1 ≤ 100000; decide) fun r5 H5 n5 a5 e5 => ?_
    refine w_cat (a5.keep _ _ (fun z => nomatch z) e3) e5 (by simp; omega) fun r6 H6 n6 a6 e6 => ?_
    have A5 := (a1.trans a3).trans a5
    refine q r6 H6 (A5.free (fun z => nomatch z) n6) (A5.trans a6) ?_
    rw [e6]
    simp [Say.names]
  | prod x y z =>
    obtain ⟨a, rfl, ea⟩ := is_prod hv
    refine rest a "product" _ ea (by decide) fun H1 a1 => ?_
    have ea1 := a1.tup _ _ ea
    walk_at "aw"
    refine w_iteB (fun h => absurd (V.str.inj h) (by decide)) fun _ => ?_
    walk_at "aw"
    refine w_iteB (fun h => absurd (V.str.inj h) (by decide)) fun _ => ?_
    walk_at "aw"
    refine w_iteB (fun _ => ?_) fun h => absurd rfl h
    walk_at "aw"
    refine w_slT ea1 (fun z => absurd z.1 (by show ¬ HT.sIx 4 0 (some 1) = 0; decide)) fun r H2 _ a2 e2 => ?_
    walk_at "aw"
    exact w_listOf (.inr (SqT.of e2)) fun r2 H3 n3 a3 e3 => q r2 H3 (a1.free (fun z => nomatch z) (a2.free (fun z => nomatch z) n3)) ((a1.trans a2).trans a3) e3
  | ahead xs ys =>
    obtain ⟨a, b, c, rfl, ea, eb, ec⟩ := is_ahead hv
    refine rest a "ahead" _ ea (by decide) fun H1 a1 => ?_
    have ea1 := a1.tup _ _ ea
    have hl : xs.length + ys.length ≤ 1000 := by simpa [Say.names] using hn
    walk_at "aw"
    refine w_iteB (fun h => absurd (V.str.inj h) (by decide)) fun _ => ?_
    walk_at "aw"
    refine w_iteB (fun h => absurd (V.str.inj h) (by decide)) fun _ => ?_
    walk_at "aw"
    refine w_iteB (fun h => absurd (V.str.inj h) (by decide)) fun _ => ?_
    walk_at "aw"
    refine w_iteB (fun _ => ?_) fun h => absurd rfl h
    walk_at "aw"
    refine w_ixT (SqT.of ea1) rfl ?_
    walk_at "aw"
    refine w_listOf (.inr (SqT.of (a1.tup _ _ eb))) fun r2 H3 n3 a3 e3 => ?_
    walk_at "aw"
    refine w_ixT (SqT.of (a3.tup _ _ ea1)) rfl ?_
    walk_at "aw"
    refine w_listOfL (.inr (SqT.of ((a1.trans a3).tup _ _ ec))) fun r5 H5 n5 a5 e5 => ?_
    refine w_cat (a5.keep _ _ (fun z => nomatch z) e3) e5 (by simp; omega) fun r6 H6 n6 a6 e6 => ?_
    have A5 := (a1.trans a3).trans a5
    refine q r6 H6 (A5.free (fun z => nomatch z) n6) (A5.trans a6) ?_
    rw [e6]
    simp [Say.names]
  | claim D f ns =>
    obtain ⟨a, u, rfl, ea, hu⟩ := is_two hv
    refine rest a "claim" _ ea (by decide) fun H1 a1 => ?_
    have ea1 := a1.tup _ _ ea
    walk_at "aw"
    refine w_iteB (fun h => absurd (V.str.inj h) (by decide)) fun _ => ?_
    walk_at "aw"
    refine w_iteB (fun h => absurd (V.str.inj h) (by decide)) fun _ => ?_
    walk_at "aw"
    refine w_iteB (fun h => absurd (V.str.inj h) (by decide)) fun _ => ?_
    walk_at "aw"
    refine w_iteB (fun h => absurd (V.str.inj h) (by decide)) fun _ => ?_
    walk_at "aw"
    refine w_iteB (fun _ => ?_) fun h => absurd rfl h
    walk_at "aw"
    refine w_ixT (SqT.of ea1) rfl ?_
    exact ⟨u, rfl, D, f, ns, hu.up a1.tup, ok.1, Nat.le_trans ok.2 (by decide), fun r H' nr a4 er => q r H' (a1.free (fun z => nomatch z) nr) (a1.trans a4) er⟩
  | when D f ns s' =>
    obtain ⟨a, u, u', rfl, ea, hu, hu'⟩ := is_three hv
    refine rest a "when" _ ea (by decide) fun H1 a1 => ?_
    have ea1 := a1.tup _ _ ea
    have hl : ns.length + s'.names.length ≤ 1000 := by simpa [Say.names] using hn
    walk_at "aw"
    refine w_iteB (fun h => absurd (V.str.inj h) (by decide)) fun _ => ?_
    walk_at "aw"
    refine w_iteB (fun h => absurd (V.str.inj h) (by decide)) fun _ => ?_
    walk_at "aw"
    refine w_iteB (fun h => absurd (V.str.inj h) (by decide)) fun _ => ?_
    walk_at "aw"
    refine w_iteB (fun h => absurd (V.str.inj h) (by decide)) fun _ => ?_
    walk_at "aw"
    refine w_iteB (fun h => absurd (V.str.inj h) (by decide)) fun _ => ?_
    walk_at "aw"
    refine w_iteB (fun _ => ?_) fun h => absurd rfl h
    walk_at "aw"
    refine w_ixT (SqT.of ea1) rfl ?_
    refine ⟨u, rfl, D, f, ns, hu.up a1.tup, ok.1, Nat.le_trans ok.2.1 (by decide), fun r2 H3 n3 a3 e3 => ?_⟩
    walk_at "aw"
    refine w_ixT (SqT.of (a3.tup _ _ ea1)) rfl ?_
    refine ⟨u', rfl, s', hu'.up (a1.trans a3).tup, ok.2.2.2, by omega, by have := hm rfl; omega, (fun z => by rw [ok.2.2.1] at z; cases z), fun r5 H5 n5 a5 e5 => ?_⟩
    refine w_cat (a5.keep _ _ (fun z => nomatch z) e3) e5 (by simp; omega) fun r6 H6 n6 a6 e6 => ?_
    have A5 := (a1.trans a3).trans a5
    refine q r6 H6 (A5.free (fun z => nomatch z) n6) (A5.trans a6) ?_
    rw [e6]
    simp [Say.names]
theorem len__law_ascending {K : PySem.W.Frag} : ∀ (vs : List V) (H : Hp) (Q : VK) (E : XK), sp__law_ascending K vs H Q E → vs.length = 1 := fun vs H Q E h => by
  obtain ⟨_, rfl, _⟩ := h
  rfl
theorem pure__law_ascending {K : PySem.W.Frag} (vs : List V) (H : Hp) (Q : VK) (E : XK) (h : sp__law_ascending K vs H Q E) : t__law_ascending K { nx := fun _ H' => Q .non H', rt := Q } (start ["things", "made", "one"] vs) H := by
  obtain ⟨p, rfl, h⟩ := h
  show t__law_ascending K _ [some (.ref p), none, none] H
  unfold t__law_ascending
  walk_at "aw"
  refine w_dnew fun d H1 nd a1 ed => ?_
  walk_at "aw"
  rcases h with ⟨xs, U, ep, hl, hU, hUl, q⟩ | ⟨xs, ep, hl, q⟩
  · have ep1 := a1.keep _ _ (fun z => nomatch z) ep
    have hpd : p ≠ d := ne_of_none ep nd
    refine kForL_i (fun i σ H' => ∃ y kvs, σ = [some (.ref p), some (.ref d), y] ∧ Adv [] H H' ∧ H' p = some (.lst (xs.map V.str)) ∧ H' d = some (.dK kvs) ∧ kvs.length ≤ i ∧ kvs.map (·.1) = (nubS xs i).map Sum.inr) (SqL.of ep1) ⟨none, [], rfl, a1, ep1, ed, Nat.le_refl _, rfl⟩ (fun i σ H' _ z => by obtain ⟨_, _, _, _, z, _⟩ := z; exact SqL.of z) (fun i v σ H' e z => ?_) fun σ H' z => ?_
    · obtain ⟨y, kvs, rfl, ad, e1, e2, hk, hkk⟩ := z
      rw [List.getElem?_map] at e
      obtain ⟨x, hx, rfl⟩ := Option.map_eq_some_iff.mp e
      have hi : i < xs.length := (List.getElem?_eq_some_iff.mp hx).1
      walk_at "aw"
      refine kDPut_i (k := Sum.inr x) e2 (by omega) ?_
      refine ⟨some (.str x), _, rfl, ad.mut nd e2 (fun _ z => by cases z), by rw [upd_ne hpd]; exact e1, upd_same, Nat.le_trans (length_putK ..) (by omega), ?_⟩
      rw [nubS, getD_of hx]
      exact put_str hkk
    · obtain ⟨y, kvs, rfl, ad, e1, e2, hk, hkk⟩ := z
      rw [List.length_map] at hkk
      have hnd := nubS_nd xs xs.length
      have hmem : ∀ x, x ∈ nubS xs xs.length ↔ x ∈ xs := fun x => by rw [nubS_mem xs _ (Nat.le_refl _), List.take_length]
      have hlen : (nubS xs xs.length).length ≤ U.length := hnd.length_le_of_subset fun x hx => hU x ((hmem x).mp hx)
      walk_at "aw"
      refine .inr (w_sortDS e2 hkk (by omega) fun ys r H3 pm so nr a3 er => ?_)
      walk_at "aw"
      refine w_tupL (SqL.of er) fun u H4 nu a4 eu => ?_
      exact q u ys H4 ((ad.trans a3).trans a4) eu (pm.symm.nodup hnd) so fun x => by rw [pm.mem_iff, hmem]
  · have ep1 := a1.keep _ _ (fun z => nomatch z) ep
    have hpd : p ≠ d := ne_of_none ep nd
    refine kForL_i (fun i σ H' => ∃ y kvs, σ = [some (.ref p), some (.ref d), y] ∧ Adv [] H H' ∧ H' p = some (.lst (xs.map V.int)) ∧ H' d = some (.dK kvs) ∧ kvs.length ≤ i ∧ ∃ ks : List Int, kvs.map (·.1) = ks.map Sum.inl ∧ ks.length ≤ i) (SqL.of ep1) ⟨none, [], rfl, a1, ep1, ed, Nat.le_refl _, [], rfl, Nat.le_refl _⟩ (fun i σ H' _ z => by obtain ⟨_, _, _, _, z, _⟩ := z; exact SqL.of z) (fun i v σ H' e z => ?_) fun σ H' z => ?_
    · obtain ⟨y, kvs, rfl, ad, e1, e2, hk, ks, hkk, hks⟩ := z
      rw [List.getElem?_map] at e
      obtain ⟨x, hx, rfl⟩ := Option.map_eq_some_iff.mp e
      have hi : i < xs.length := (List.getElem?_eq_some_iff.mp hx).1
      obtain ⟨js, j1, j2, _⟩ := put_int (x := x) (v := .bl true) hkk
      walk_at "aw"
      refine kDPut_i (k := Sum.inl x) e2 (by omega) ?_
      exact ⟨some (.int x), _, rfl, ad.mut nd e2 (fun _ z => by cases z), by rw [upd_ne hpd]; exact e1, upd_same, Nat.le_trans (length_putK ..) (by omega), js, j1, by omega⟩
    · obtain ⟨y, kvs, rfl, ad, e1, e2, hk, ks, hkk, hks⟩ := z
      rw [List.length_map] at hks
      walk_at "aw"
      refine .inl ⟨d, kvs, ks, rfl, .inl e2, hkk, by omega, fun ys r pm so nr => ?_⟩
      walk_at "aw"
      refine w_tupL (SqL.of upd_same) fun u H4 nu a4 eu => ?_
      exact q u ys H4 ((ad.trans (Adv.new nr)).trans a4) eu (by rw [pm.length_eq]; omega)
theorem len__law_same {K : PySem.W.Frag} {m : Nat} : ∀ (vs : List V) (H : Hp) (Q : VK) (E : XK), sp__law_same K m vs H Q E → vs.length = 2 := fun vs H Q E h => by
  obtain ⟨_, _, rfl, _⟩ := h
  rfl
theorem no__law_same {K : PySem.W.Frag} {vs : List V} {H : Hp} {Q : VK} {E : XK} (h : sp__law_same K 0 vs H Q E) : False := by
  obtain ⟨_, _, _, _, _, _, h, _⟩ := h
  cases h
theorem pure__law_same {K : PySem.W.Frag} {m : Nat} (vs : List V) (H : Hp) (Q : VK) (E : XK) (h : sp__law_same K (m + 1) vs H Q E) : t__law_same K m { nx := fun _ H' => Q .non H', rt := Q } (start ["found", "due", "k"] vs) H := by
  obtain ⟨v, u, rfl, d, hv, hu, hd, q⟩ := h
  show t__law_same K m _ [some v, some u, none] H
  unfold t__law_same
  cases hd with
  | bl b =>
    cases hv
    cases hu
    walk_at "aw"
    refine w_iteB (fun h => by cases h) fun _ => ?_
    walk_at "aw"
    refine w_isi (.base (.bl _)) rfl ?_
    walk_at "aw"
    refine w_isi (.base (.bl _)) rfl ?_
    walk_at "aw"
    refine w_isi (.base (.bl _)) rfl ?_
    walk_at "aw"
    have e : decide (V.bl b = V.bl b) = true := decide_eq_true rfl
    rw [e]
    exact q
  | int n =>
    cases hv
    cases hu
    walk_at "aw"
    refine w_iteB (fun h => by cases h) fun _ => ?_
    walk_at "aw"
    refine w_isi (r := false) (.base (.int _)) rfl ?_
    walk_at "aw"
    refine w_isi (r := false) (.base (.int _)) rfl ?_
    walk_at "aw"
    refine w_isi (r := true) (.base (.int _)) rfl ?_
    walk_at "aw"
    refine w_isi (r := true) (.base (.int _)) rfl ?_
    walk_at "aw"
    have e : decide (V.int n = V.int n) = true := decide_eq_true rfl
    rw [e]
    exact q
  | str x =>
    cases hv
    cases hu
    walk_at "aw"
    refine w_iteB (fun h => by cases h) fun _ => ?_
    walk_at "aw"
    refine w_isi (r := false) (.base (.str _)) rfl ?_
    walk_at "aw"
    refine w_isi (r := false) (.base (.str _)) rfl ?_
    walk_at "aw"
    refine w_isi (r := false) (.base (.str _)) rfl ?_
    walk_at "aw"
    refine w_isi (r := true) (.base (.str _)) rfl ?_
    walk_at "aw"
    refine w_isi (r := true) (.base (.str _)) rfl ?_
    walk_at "aw"
    have e : decide (V.str x = V.str x) = true := decide_eq_true rfl
    rw [e]
    exact q
  | tup ds hl h =>
    obtain ⟨a, xs, rfl, ea, tx⟩ := hv.tup_inv
    obtain ⟨b, ys, rfl, eb, ty⟩ := hu.tup_inv
    have lx := tx.length
    have ly := ty.length
    walk_at "aw"
    refine w_iteB (fun h => by cases h) fun _ => ?_
    walk_at "aw"
    refine w_isi (r := false) (.base (.tup eb)) rfl ?_
    walk_at "aw"
    refine w_isi (r := false) (.base (.tup ea)) rfl ?_
    walk_at "aw"
    refine w_isi (r := false) (.base (.tup eb)) rfl ?_
    walk_at "aw"
    refine w_isi (r := false) (.base (.tup eb)) rfl ?_
    walk_at "aw"
    refine w_isi (r := true) (.base (.tup eb)) rfl ?_
    walk_at "aw"
    refine w_nT ?_
    walk_at "aw"
    refine w_isi (r := true) (.base (.tup ea)) rfl ?_
    walk_at "aw"
    refine w_nT ?_
    walk_at "aw"
    refine w_lenT (SqT.of ea) ?_
    walk_at "aw"
    refine w_lenT (SqT.of eb) ?_
    walk_at "aw"
    refine w_iteNB (fun h => absurd (by rw [lx, ly]) h) fun _ => ?_
    walk_at "aw"
    refine w_lenT (SqT.of eb) ?_
    refine kForR_i (n := ys.length) (by omega) (fun i σ H' => H' = H ∧ ∃ y, σ = [some (.ref a), some (.ref b), y]) ⟨rfl, none, rfl⟩ (fun i σ H' hi p => ?_) fun σ H' p => ?_
    · obtain ⟨rfl, y, rfl⟩ := p
      obtain ⟨x, hx⟩ := get_some (xs := xs) (i := i) (by omega)
      obtain ⟨z, hz⟩ := get_some (xs := ys) (i := i) (by omega)
      obtain ⟨d, hd, hdx⟩ := tx.get hx
      obtain ⟨d', hd', hdz⟩ := ty.get hz
      rw [hd] at hd'
      cases hd'
      walk_at "aw"
      refine .inr (w_ixT (SqT.of ea) (at_of (j := i) (by omega) hx) ?_)
      walk_at "aw"
      refine .inr (w_ixT (SqT.of eb) (at_of (j := i) (by omega) hz) ?_)
      walk_at "aw"
      refine ⟨_, _, rfl, d, hdx, hdz, h d (List.mem_of_getElem? hd), ?_⟩
      walk_at "aw"
      exact ⟨rfl, _, rfl⟩
    · obtain ⟨rfl, y, rfl⟩ := p
      walk_at "aw"
      exact q
def szOf (doms : List (Str × List Int)) (x : Str) : Nat := ((doms.find? fun p => decide (p.1 = x)).map (·.2.length)).getD 0
theorem szOf_eq {doms : List (Str × List Int)} (hn : (doms.map (·.1)).Nodup) : ∀ p ∈ doms, szOf doms p.1 = p.2.length := by
  intro p hp
  induction doms with
  | nil => cases hp
  | cons d ds ih =>
    rw [List.map_cons, List.nodup_cons] at hn
    unfold szOf
    by_cases e : d.1 = p.1
    · rw [List.find?_cons, decide_eq_true e]
      rcases List.mem_cons.mp hp with rfl | z
      · rfl
      · exact absurd (List.mem_map.mpr ⟨p, z, e.symm⟩) hn.1
    · rw [List.find?_cons, decide_eq_false e]
      rcases List.mem_cons.mp hp with rfl | z
      · exact absurd rfl e
      · exact ih hn.2 z
theorem len__law_told {K : PySem.W.Frag} : ∀ (vs : List V) (H : Hp) (Q : VK) (E : XK), sp__law_told K vs H Q E → vs.length = 3 := fun vs H Q E h => by
  obtain ⟨_, _, _, rfl, _⟩ := h
  rfl
theorem pure__law_told {K : PySem.W.Frag} (vs : List V) (H : Hp) (Q : VK) (E : XK) (h : sp__law_told K vs H Q E) : t__law_told K { nx := fun _ H' => Q .non H', rt := Q } (start ["model", "row", "by_name", "sizes", "pair", "one", "own", "size", "name", "told"] vs) H := by
  obtain ⟨m, r, b, rfl, doms, firm, soft, row, hm, mok, ⟨rx, hrx, hrl0, hri⟩, hrl, hall, q⟩ := h
  have hm0 := hm
  obtain ⟨a, ab, c, d0, xs, ys, zs, rfl, ea, eb, tb, ec, tc, ed0, td⟩ := is_mod hm
  show t__law_told K _ [some (.ref a), some (.ref r), some (.bl b), none, none, none, none, none, none, none] H
  have hsz := szOf_eq mok.dn
  generalize szOf doms = sz at hsz
  have hsl : ∀ x ∈ doms.map (·.1), sz x ≤ 100 := fun x hx => by
    obtain ⟨p, hp, rfl⟩ := List.mem_map.mp hx
    rw [hsz p hp]
    exact (mok.dz p hp).2
  have hxl : xs.length = doms.length := by rw [tb.length, List.length_map]
  have hdl := mok.dl
  unfold t__law_told
  walk_at "aw"
  refine w_dnew fun d H1 nd a1 ed => ?_
  walk_at "aw"
  refine w_ixT (SqT.of (a1.tup _ _ ea)) rfl ?_
  refine kForT_i (fun i σ H' => ∃ y kvs, σ = [some (.ref a), some (.ref r), some (.bl b), some (.ref d), y, none, none, none, none, none] ∧ Adv [] H H' ∧ H' d = some (.dK kvs) ∧ kvs.length ≤ i ∧ ∀ (j : Nat) p, j < i → doms[j]? = some p → valV kvs (Sum.inr p.1) = some (.int (sz p.1 : Nat)))
    (SqT.of (a1.tup _ _ eb)) ⟨none, [], rfl, a1, ed, Nat.le_refl _, fun j p hj => absurd hj (Nat.not_lt_zero j)⟩ (fun i σ H' _ z => by obtain ⟨_, _, _, z, _⟩ := z; exact SqT.of (z.tup _ _ eb)) (fun i x σ H' e z => ?_) fun σ H' z => ?_
  · obtain ⟨y, kvs, rfl, ad, e2, hk, hkk⟩ := z
    obtain ⟨dd, z1, h1⟩ := tb.get e
    rw [List.getElem?_map] at z1
    obtain ⟨p, z2, rfl⟩ := Option.map_eq_some_iff.mp z1
    obtain ⟨ia, ib, rfl, h3, h4⟩ := is_dom h1
    have hi : i < xs.length := (List.getElem?_eq_some_iff.mp e).1
    walk_at "aw"
    refine w_ixT (SqT.of (ad.tup _ _ h3)) (at_of (j := 1) rfl rfl) ?_
    walk_at "aw"
    refine w_lenT (SqT.of (ad.tup _ _ h4)) ?_
    walk_at "aw"
    refine w_ixT (SqT.of (ad.tup _ _ h3)) (at_of (j := 0) rfl rfl) ?_
    refine kDPut_i (k := Sum.inr p.1) e2 (by omega) ?_
    refine ⟨some (.ref ia), _, rfl, ad.mut nd e2 (fun _ z => by cases z), upd_same, Nat.le_trans (length_putK ..) (by omega), fun j p' hj e' => ?_⟩
    have hsp := hsz p (List.mem_of_getElem? z2)
    rw [valV_put, List.length_map, ← hsp]
    by_cases en : (Sum.inr p'.1 : Key) = Sum.inr p.1
    · rw [if_pos en, Sum.inr.inj en]
    · rw [if_neg en]
      refine hkk j p' ?_ e'
      rcases Nat.lt_or_ge j i with z | z
      · exact z
      · have : j = i := by omega
        subst this
        rw [z2] at e'
        cases e'
        exact absurd rfl en
  · obtain ⟨y, kvs, rfl, ad, e2, hk, hkk⟩ := z
    have hval : ∀ x ∈ doms.map (·.1), valV kvs (Sum.inr x) = some (.int (sz x : Nat)) := fun x hx => by
      obtain ⟨p, hp, rfl⟩ := List.mem_map.mp hx
      obtain ⟨j, hj, ej⟩ := List.mem_iff_getElem.mp hp
      exact hkk j p (by omega) (by rw [List.getElem?_eq_getElem hj, ej])
    clear hkk hk
    walk_at "aw"
    have hrx' := ad.sql (fun z => nomatch z) hrx
    refine kForL_i (fun i σ H' => ∃ y4 y5 y6 y7 y8 y9, σ = [some (.ref a), some (.ref r), some (.bl b), some (.ref d), y4, y5, y6, y7, y8, y9] ∧ Adv [] H H' ∧ H' d = some (.dK kvs)) hrx' ⟨y, none, none, none, none, none, rfl, ad, e2⟩ (fun i σ H' _ z => by obtain ⟨_, _, _, _, _, _, _, z, _⟩ := z; exact z.sql (fun z => nomatch z) hrx) (fun i x σ H' e z => ?_) fun σ H' z => ?_
    · obtain ⟨y4, y5, y6, y7, y8, y9, rfl, ad, e2⟩ := z
      have hi : i < rx.length := (List.getElem?_eq_some_iff.mp e).1
      obtain ⟨⟨n, s⟩, hp⟩ := get_some (xs := row) (i := i) (by omega)
      obtain ⟨sv, ia, rest, rfl, ei, hs⟩ := hri i _ x hp e
      obtain ⟨hmem, sok⟩ := hall _ (List.mem_of_getElem? hp)
      dsimp only at ei hs hmem sok
      have ei1 := ad.tup _ _ ei
      walk_at "aw"
      refine w_ixT (SqT.of ei1) (at_of (j := 1) rfl rfl) ?_
      walk_at "aw"
      refine ⟨sv, rfl, s, hs.up ad.tup, sok.1, sok.2.2.1, by decide, fun _ => by decide, fun r1 H3 n3 a3 e3 => ?_⟩
      walk_at "aw"
      refine ⟨r1, rfl, .inl ⟨s.names, doms.map (·.1), e3, sok.2.2.1, sok.2.2.2, by rw [List.length_map]; omega, fun t ms H4 a4 et mnd mso mem => ?_⟩⟩
      have hms : ∀ x ∈ ms, x ∈ doms.map (·.1) := fun x hx => sok.2.2.2 x ((mem x).mp hx)
      have hml : ms.length ≤ 40 := by
        have := mnd.length_le_of_subset (l₂ := doms.map (·.1)) fun x hx => hms x hx
        rw [List.length_map] at this
        omega
      have A4 := (ad.trans a3).trans a4
      have ed4 := (a3.trans a4).keep _ _ (fun z => nomatch z) e2
      walk_at "aw"
      refine kForT_i (fun j σ H' => ∃ y, H' = H4 ∧ σ = [some (.ref a), some (.ref r), some (.bl b), some (.ref d), y4, some (.ref ia), some (.ref t), some (.int (((ms.take j).map sz).prod : Nat)), y, y9]) (SqT.of et) ⟨y8, rfl, rfl⟩ (fun j σ H' _ p => by obtain ⟨_, rfl, _⟩ := p; exact SqT.of et) (fun j v σ H' e p => ?_) fun σ H' p => ?_
      · obtain ⟨y, rfl, rfl⟩ := p
        rw [List.getElem?_map] at e
        obtain ⟨x, hx, rfl⟩ := Option.map_eq_some_iff.mp e
        have hxm := hms x (List.mem_of_getElem? hx)
        have h4 := hsl x hxm
        walk_at "aw"
        refine kDGet_i (k := Sum.inr x) ed4 (hval x hxm) ?_
        refine w_I (.inr ⟨by omega, by omega⟩) ?_
        walk_at "aw"
        refine ⟨some (.str x), rfl, ?_⟩
        have ep : (((ms.take (j + 1)).map sz).prod : Int) = ((ms.take j).map sz).prod * (sz x : Nat) := by
          rw [List.take_add_one, hx]
          simp
        rw [← ep]
        rfl
      · obtain ⟨y, rfl, rfl⟩ := p
        rw [List.length_map, List.take_length]
        have ei4 := (a3.trans a4).tup _ _ ei1
        have hm4 := hm0.up A4.tup
        walk_at "aw"
        cases b
        case true =>
          walk_at "aw"
          refine w_ixT (SqT.of ei4) (at_of (j := 0) rfl rfl) ?_
          walk_at "aw"
          refine ⟨_, n, rfl, doms, firm, soft, s, hm4, mok, sok, hmem, fun t2 ms2 H5 a5 et2 nd2 so2 mem2 => ?_⟩
          have e12 : ms2 = ms := ascending_eq nd2 mnd (fun x => by rw [mem2, mem]) so2 mso
          subst e12
          walk_at "aw"
          refine w_ixT (SqT.of (a5.tup _ _ ei4)) (at_of (j := 0) rfl rfl) ?_
          walk_at "aw"
          refine ⟨_, n, rfl, doms, firm, soft, s, sz, ms2, hm4.up a5.tup, mok, sok, hmem, hsz, mnd, mem, fun H6 a6 => ?_⟩
          walk_at "aw"
          refine w_tupD (by show 2 ≤ 100000; decide) fun t7 H7 n7 a7 e7 => ?_
          walk_at "aw"
          refine w_tupD (by show 2 ≤ 100000; decide) fun t8 H8 n8 a8 e8 => ?_
          have eb8 : decide ((((ms2.map sz).prod : Nat) : Int) ≤ 256) = decide ((ms2.map sz).prod ≤ 256) := by rw [Bool.eq_iff_iff, decide_eq_true_iff, decide_eq_true_iff]; omega
          rw [eb8] at e8
          have A58 := ((a5.trans a6).trans a7).trans a8
          refine ⟨_, _, rfl, .tuple [.tuple (ms2.map .str), .bool (decide ((ms2.map sz).prod ≤ 256))], .tup (a8.tup _ _ e7) (.cons (.tup ((a6.trans (a7.trans a8)).tup _ _ et2) (.strs _)) (.cons (.bl _) .nil)), .tup e8 (.cons (.tup (A58.tup _ _ et) (.strs _)) (.cons (.bl _) .nil)),
            .tup _ (by show 2 ≤ 1000; decide) (fun d hd => ?_), ?_⟩
          · rcases List.mem_cons.mp hd with rfl | hd
            · refine .tup _ (by rw [List.length_map]; omega) fun d hd => ?_
              obtain ⟨x, _, rfl⟩ := List.mem_map.mp hd
              exact .str x
            · rw [List.mem_singleton.mp hd]
              exact .bl _
          walk_at "aw"
          exact ⟨_, _, _, _, _, _, rfl, A4.trans A58, A58.keep _ _ (fun z => nomatch z) ed4⟩
        case false =>
          walk_at "aw"
          refine w_ixT (SqT.of ei4) (at_of (j := 0) rfl rfl) ?_
          walk_at "aw"
          refine ⟨_, n, rfl, doms, firm, soft, s, hm4, mok, sok, hmem, fun t2 ms2 H5 a5 et2 nd2 so2 mem2 => ?_⟩
          have e12 : ms2 = ms := ascending_eq nd2 mnd (fun x => by rw [mem2, mem]) so2 mso
          subst e12
          walk_at "aw"
          refine w_ixT (SqT.of (a5.tup _ _ ei4)) (at_of (j := 0) rfl rfl) ?_
          walk_at "aw"
          refine ⟨_, n, rfl, doms, firm, soft, s, sz, ms2, hm4.up a5.tup, mok, sok, hmem, hsz, mnd, mem, fun H6 a6 => ?_⟩
          walk_at "aw"
          refine w_tupD (by show 2 ≤ 100000; decide) fun t7 H7 n7 a7 e7 => ?_
          walk_at "aw"
          refine w_tupD (by show 2 ≤ 100000; decide) fun t8 H8 n8 a8 e8 => ?_
          have eb8 : decide ((((ms2.map sz).prod : Nat) : Int) ≤ 256) = decide ((ms2.map sz).prod ≤ 256) := by rw [Bool.eq_iff_iff, decide_eq_true_iff, decide_eq_true_iff]; omega
          rw [eb8] at e8
          have A58 := ((a5.trans a6).trans a7).trans a8
          refine ⟨_, _, rfl, .tuple [.tuple (ms2.map .str), .bool (decide ((ms2.map sz).prod ≤ 256))], .tup (a8.tup _ _ e7) (.cons (.tup ((a6.trans (a7.trans a8)).tup _ _ et2) (.strs _)) (.cons (.bl _) .nil)), .tup e8 (.cons (.tup (A58.tup _ _ et) (.strs _)) (.cons (.bl _) .nil)),
            .tup _ (by show 2 ≤ 1000; decide) (fun d hd => ?_), ?_⟩
          · rcases List.mem_cons.mp hd with rfl | hd
            · refine .tup _ (by rw [List.length_map]; omega) fun d hd => ?_
              obtain ⟨x, _, rfl⟩ := List.mem_map.mp hd
              exact .str x
            · rw [List.mem_singleton.mp hd]
              exact .bl _
          walk_at "aw"
          exact ⟨_, _, _, _, _, _, rfl, A4.trans A58, A58.keep _ _ (fun z => nomatch z) ed4⟩
    · obtain ⟨y4, y5, y6, y7, y8, y9, rfl, ad, e2⟩ := z
      walk_at "aw"
      exact q _ ad
end AW
namespace AW
open PySem PySem.Spec PyProof.Rows L2 RZ
open StX
local macro_rules | `(tactic| walk_at "aw1") => `(tactic| first
  | (with_reducible refine w_seq ?_) | (with_reducible refine w_asg ?_) | (with_reducible refine w_gname ?_) | (with_reducible refine w_op ?_) | (with_reducible refine w_un ?_)
  | ((with_reducible refine' w_var ?h ?_); (case h => rfl)) | (with_reducible refine w_c ?_)
  | (with_reducible refine w_I0 ?_) | (with_reducible refine w_U ?_) | (with_reducible refine w_cb ?_) | (with_reducible refine w_nil ?_) | (with_reducible refine w_cons ?_) | (with_reducible refine w_call ?_)
  | (with_reducible refine w_test ?_) | (with_reducible refine w_B ?_) | (with_reducible refine w_bl ?_) | (with_reducible refine w_not ?_) | (with_reducible refine w_yes ?_) | (with_reducible refine iteT ?_) | (with_reducible refine iteF ?_) | (with_reducible refine w_and ?_) | (with_reducible refine w_or ?_)
  | (with_reducible refine w_andV ?_) | (with_reducible refine w_orV ?_) | (with_reducible refine w_notV ?_) | (with_reducible refine w_if ?_)
  | (with_reducible refine w_int1 ?_) | (with_reducible refine w_int1b ?_) | (with_reducible refine w_abs ?_) | (with_reducible refine w_max2 ?_) | (with_reducible refine w_min2 ?_)
  | ((with_reducible refine w_eq ?h ?_); (case h => rfl)) | ((with_reducible refine w_ne ?h ?_); (case h => rfl)) | (with_reducible refine w_isN ?_) | (with_reducible refine w_isB ?_) | (with_reducible refine w_chain ?_)
  | (with_reducible refine w_ret ?_) | (with_reducible refine w_drop ?_) | (with_reducible refine w_ifS ?_) | (with_reducible refine w_gsub ?_) | (with_reducible refine w_augS ?_) | (with_reducible refine w_ipI ?_) | (with_reducible refine w_next ?_)
  | (with_reducible refine w_forR ?_) | (with_reducible refine w_forR2 ?_) | (with_reducible refine w_forL ?_) | (with_reducible refine w_forT ?_) | (with_reducible refine w_lcR ?_) | (with_reducible refine w_lcL ?_) | (with_reducible refine w_lcT ?_) | (with_reducible refine w_sl ?_) | (with_reducible refine w_part ?_) | (with_reducible refine w_noPart ?_) | (with_reducible refine w_in ?_)
  | (with_reducible refine w_gcons ?_) | (with_reducible refine w_gnil ?_) | (with_reducible refine w_lc3 ?_) | (with_reducible refine w_dcZ ?_) | (with_reducible refine w_dcT ?_) | (with_reducible refine w_dg ?_) | (with_reducible refine w_callK ?_) | (with_reducible refine w_dput ?_) | (with_reducible refine w_tup1 ?_)
  | (with_reducible refine w_tup ?_) | (with_reducible refine w_lst ?_)
  | ((with_reducible refine w_I ?h ?_); (case h => first | (exact Or.inr ⟨by decide, by decide⟩) | (exact Or.inl ⟨by decide, by decide⟩) | (show (0 : Int) < _; decide) | (exact ⟨by decide, by decide, by decide⟩) | assumption)))
local macro_rules | `(tactic| walk_at "aw") => `(tactic| repeat (walk_at "aw1"))
/-! ### makers: what each promises -/
theorem w_draw {K : PySem.W.Frag} {st : Addr} {cs : Addr × Addr} {lim : Int} {H : Hp} {Q : VK} {E : XK} (ok : StOk st cs H) (h1 : 0 < lim) (h2 : lim < 1073741824) (q : ∀ n H', 0 ≤ n → n < lim → Go st cs H H' → Q (.int n) H') : sp__law_draw K [.ref st, .int lim] H Q E := ⟨st, lim, rfl, cs, ok, h1, h2, q⟩
/-- one of some numbers, the list is made for it -/
theorem w_pickL {K : PySem.W.Frag} {st : Addr} {cs : Addr × Addr} {ns : List Int} {H : Hp} {Q : VK} (ok : StOk st cs H) (h0 : 0 < ns.length) (h1 : ns.length < 100000) (q : ∀ n, n ∈ ns → ∀ H', Go st cs H H' → Q (.int n) H') : kLstD (ns.map V.int) H fun x H2 => sp__law_pick K [.ref st, x] H2 Q E0 :=
  w_lstD (by rw [List.length_map]; omega) fun p H2 np a2 e2 => ⟨st, p, rfl, cs, _, ok.keep a2 (fun z => nomatch z) (fun z => nomatch z) (fun z => nomatch z), .inl ⟨SqL.of e2, (ok.ne np).1⟩, by rw [List.length_map]; exact h0, by rw [List.length_map]; omega, fun i v H' e g => by
    rw [List.getElem?_map] at e
    obtain ⟨n, hn, rfl⟩ := Option.map_eq_some_iff.mp e
    exact q n (List.mem_of_getElem? hn) H' ((Go.of ok a2).trans g)⟩
/-- one of some texts -/
theorem w_pickS {K : PySem.W.Frag} {st : Addr} {cs : Addr × Addr} {ns : List Str} {H : Hp} {Q : VK} (ok : StOk st cs H) (h0 : 0 < ns.length) (h1 : ns.length < 100000) (q : ∀ n, n ∈ ns → ∀ H', Go st cs H H' → Q (.str n) H') : kLstD (ns.map V.str) H fun x H2 => sp__law_pick K [.ref st, x] H2 Q E0 :=
  w_lstD (by rw [List.length_map]; omega) fun p H2 np a2 e2 => ⟨st, p, rfl, cs, _, ok.keep a2 (fun z => nomatch z) (fun z => nomatch z) (fun z => nomatch z), .inl ⟨SqL.of e2, (ok.ne np).1⟩, by rw [List.length_map]; exact h0, by rw [List.length_map]; omega, fun i v H' e g => by
    rw [List.getElem?_map] at e
    obtain ⟨n, hn, rfl⟩ := Option.map_eq_some_iff.mp e
    exact q n (List.mem_of_getElem? hn) H' ((Go.of ok a2).trans g)⟩
def kRgT (x y : V) (H : Hp) (Q : VK) : Prop := ∃ i j, x = .int i ∧ y = .int j ∧ RgOk i j ∧ ∀ q, H q = none → Q (.ref q) (upd H q (.tup (rgV i j)))
theorem w_tupRg2 {ta tb : TE} {σ : L2.St} {H : Hp} {Q : VK} (h : ta σ H fun x H1 => tb σ H1 fun y H2 => kRgT x y H2 Q) : tTupRg (tRg2 ta tb) σ H Q := h
theorem w_rgT {a b : Int} {H : Hp} {Q : VK} (ha : -1000000 ≤ a ∧ a ≤ 1000000) (hb : -1000000 ≤ b ∧ b ≤ 1000000) (hz : b - a ≤ 100000) (q : ∀ r H', H r = none → Adv [] H H' → H' r = some (.tup ((List.range (b - a).toNat).map fun k => V.int (a + (k : Nat)))) → Q (.ref r) H') : kRgT (.int a) (.int b) H Q :=
  ⟨a, b, rfl, rfl, ⟨by omega, by omega, by omega, by omega, by omega⟩, fun p hp => w_new q p hp⟩
def sp__law_near (_ : PySem.W.Frag) : Sp := fun vs H Q _ => ∃ st b, vs = [.ref st, .ref b] ∧ ∃ (cs : Addr × Addr) (fl : List Int), StOk st cs H ∧ H b = some (.tup (fl.map V.int)) ∧ 0 < fl.length ∧ fl.length ≤ 1000 ∧ ∀ n H', Go st cs H H' → Q (.int n) H'
def sp__law_weight (_ : PySem.W.Frag) : Sp := fun vs H Q _ => ∃ st, vs = [.ref st] ∧ ∃ cs, StOk st cs H ∧ ∀ n H', Go st cs H H' → -1000 ≤ n → n ≤ 1000 → Q (.int n) H'
def sp__law_domain (_ : PySem.W.Frag) : Sp := fun vs H Q _ => ∃ st c, vs = [.ref st, .int c] ∧ ∃ cs, StOk st cs H ∧ 1 ≤ c ∧ c ≤ 100 ∧ ∀ v (fl : List Int) H', Go st cs H H' → Is H' (rowD fl) v → (fl.length : Int) = c → Q v H'
def t__law_near (K : PySem.W.Frag) : TS := (tSeq (tAsg (tCall (sp__law_pick K) [] E0 (tCons (tVar 0) (tCons (tVar 1) tNil))) (gName 2))
  (tSeq (tAsg (tCall (sp__law_draw K) [] E0 (tCons (tVar 0) (tCons (tC (.int 8)) tNil))) (gName 3))
  (tSeq (tIfS (tTest (tOp rEq (tVar 3) (tC (.int 6)))) (tAsg (tOp rAddI (tVar 2) (tCall (sp__law_pick K) [] E0 (tCons (tVar 0) (tCons (tLst (tCons (tUn rNeg (tC (.int 1))) (tCons (tC (.int 1)) tNil))) tNil)))) (gName 2)) tNext)
  (tSeq (tIfS (tTest (tOp rEq (tVar 3) (tC (.int 7)))) (tAsg (tOp rSubI (tCall (sp__law_draw K) [] E0 (tCons (tVar 0) (tCons (tC (.int 401)) tNil))) (tC (.int 200))) (gName 2)) tNext)
  (tRet (tCB rMax2 (tCons (tUn rNeg (tC (.int 200))) (tCons (tCB rMin2 (tCons (tC (.int 200)) (tCons (tVar 2) tNil))) tNil))))))))
def t__law_weight (K : PySem.W.Frag) : TS := (tSeq (tAsg (tCall (sp__law_pick K) [] E0 (tCons (tVar 0) (tCons (tLst (tCons (tC (.int 1)) (tCons (tC (.int 1)) (tCons (tC (.int 1)) (tCons (tC (.int 2)) (tCons (tC (.int 3)) (tCons (tOp rAddI (tC (.int 1)) (tCall (sp__law_draw K) [] E0 (tCons (tVar 0) (tCons (tC (.int 100)) tNil)))) tNil))))))) tNil))) (gName 1))
  (tRet (tOp rMulI (tVar 1) (tCall (sp__law_pick K) [] E0 (tCons (tVar 0) (tCons (tLst (tCons (tC (.int 1)) (tCons (tUn rNeg (tC (.int 1))) tNil))) tNil))))))
def t__law_domain (K : PySem.W.Frag) : TS := (tSeq (tAsg (tCall (sp__law_draw K) [] E0 (tCons (tVar 0) (tCons (tC (.int 6)) tNil))) (gName 2))
  (tSeq (tIfS (tTest (tOp rLtI (tVar 2) (tC (.int 4)))) (tSeq (tAsg (tCall (sp__law_pick K) [] E0 (tCons (tVar 0) (tCons (tLst (tCons (tC (.int 0)) (tCons (tC (.int 0)) (tCons (tC (.int 0)) (tCons (tC (.int 1)) (tCons (tUn rNeg (tC (.int 1))) (tCons (tUn rNeg (tC (.int 2))) tNil))))))) tNil))) (gName 3))
  (tRet (tTupRg (tRg2 (tVar 3) (tOp rAddI (tVar 3) (tVar 1)))))) tNext)
  (tSeq (tAsg (tOp (rIxL K) (tLst (tCons (tOp rSubI (tCall (sp__law_draw K) [] E0 (tCons (tVar 0) (tCons (tC (.int 7)) tNil))) (tC (.int 3))) (tCons (tOp rSubI (tCall (sp__law_draw K) [] E0 (tCons (tVar 0) (tCons (tC (.int 269)) tNil))) (tC (.int 200))) tNil))) (tOp rSubI (tVar 2) (tC (.int 4)))) (gName 4))
  (tSeq (tAsg (tLst (tCons (tVar 4) tNil)) (gName 5))
  (tSeq (tFor (iRng1 (tCons (tOp rSubI (tVar 1) (tC (.int 1))) tNil)) (gName 6)
  (tDrop (tBM K "list" rAppend (tVar 5) (tCons (tOp rAddI (tOp rAddI (tOp (rIxL K) (tVar 5) (tVar 6)) (tC (.int 1))) (tCall (sp__law_draw K) [] E0 (tCons (tVar 0) (tCons (tOp (rIxL K) (tLst (tCons (tC (.int 2)) (tCons (tC (.int 12)) tNil))) (tOp rSubI (tVar 2) (tC (.int 4)))) tNil)))) tNil))))
  (tRet (tThen (tVar 5) (kTup K))))))))
theorem len__law_near {K : PySem.W.Frag} : ∀ (vs : List V) (H : Hp) (Q : VK) (E : XK), sp__law_near K vs H Q E → vs.length = 2 := fun vs H Q E h => by
  obtain ⟨_, _, rfl, _⟩ := h
  rfl
theorem pure__law_near {K : PySem.W.Frag} (vs : List V) (H : Hp) (Q : VK) (E : XK) (h : sp__law_near K vs H Q E) : t__law_near K { nx := fun _ H' => Q .non H', rt := Q } (start ["bag", "domain", "value", "way"] vs) H := by
  obtain ⟨st, b, rfl, cs, fl, ok, eb, h0, hl, q⟩ := h
  show t__law_near K _ [some (.ref st), some (.ref b), none, none] H
  unfold t__law_near
  walk_at "aw"
  refine ⟨st, b, rfl, cs, _, ok, .inr eb, by rw [List.length_map]; exact h0, by rw [List.length_map]; omega, fun i v H1 e g1 => ?_⟩
  rw [List.getElem?_map] at e
  obtain ⟨n, hn, rfl⟩ := Option.map_eq_some_iff.mp e
  walk_at "aw"
  refine w_draw g1.ok (by decide) (by decide) fun way H2 w0 w1 g2 => ?_
  have fin : ∀ (H3 : Hp) (n : Int), Go st cs H H3 → (tRet (tCB rMax2 (tCons (tUn rNeg (tC (.int 200))) (tCons (tCB rMin2 (tCons (tC (.int 200)) (tCons (tVar 2) tNil))) tNil)))) { nx := fun _ H' => Q .non H', rt := Q } [some (.ref st), some (.ref b), some (.int n), some (.int way)] H3 := by
    intro H3 n g
    walk_at "aw"
    exact q _ _ g
  have rest : ∀ (H3 : Hp) (n : Int), Go st cs H H3 → (tSeq (tIfS (tTest (tOp rEq (tVar 3) (tC (.int 7)))) (tAsg (tOp rSubI (tCall (sp__law_draw K) [] E0 (tCons (tVar 0) (tCons (tC (.int 401)) tNil))) (tC (.int 200))) (gName 2)) tNext)
  (tRet (tCB rMax2 (tCons (tUn rNeg (tC (.int 200))) (tCons (tCB rMin2 (tCons (tC (.int 200)) (tCons (tVar 2) tNil))) tNil))))) { nx := fun _ H' => Q .non H', rt := Q } [some (.ref st), some (.ref b), some (.int n), some (.int way)] H3 := by
    intro H3 n g
    walk_at "aw"
    refine w_iteB (fun _ => ?_) fun _ => ?_
    · walk_at "aw"
      refine w_draw g.ok (by decide) (by decide) fun k H4 _ _ g4 => ?_
      walk_at "aw"
      exact q _ _ (g.trans g4)
    · walk_at "aw1"
      exact fin H3 n g
  walk_at "aw"
  refine w_iteB (fun _ => ?_) fun _ => ?_
  · walk_at "aw"
    refine w_pickL (ns := [-1, 1]) g2.ok (by decide) (by decide) fun k _ H3 g3 => ?_
    have := rest H3 (n + k) ((g1.trans g2).trans g3)
    walk_at "aw1"
    walk_at "aw1"
    exact this
  · walk_at "aw1"
    exact rest H2 n (g1.trans g2)
theorem len__law_weight {K : PySem.W.Frag} : ∀ (vs : List V) (H : Hp) (Q : VK) (E : XK), sp__law_weight K vs H Q E → vs.length = 1 := fun vs H Q E h => by
  obtain ⟨_, rfl, _⟩ := h
  rfl
theorem pure__law_weight {K : PySem.W.Frag} (vs : List V) (H : Hp) (Q : VK) (E : XK) (h : sp__law_weight K vs H Q E) : t__law_weight K { nx := fun _ H' => Q .non H', rt := Q } (start ["bag", "size"] vs) H := by
  obtain ⟨st, rfl, cs, ok, q⟩ := h
  show t__law_weight K _ [some (.ref st), none] H
  unfold t__law_weight
  walk_at "aw"
  refine w_draw ok (by decide) (by decide) fun k H1 k0 k1 g1 => ?_
  walk_at "aw"
  refine w_pickL (ns := [1, 1, 1, 2, 3, 1 + k]) g1.ok (by show 0 < 6; decide) (by show 6 < 100000; decide) fun n hn H2 g2 => ?_
  have hn2 : 1 ≤ n ∧ n ≤ 100 := by
    simp only [List.mem_cons, List.not_mem_nil, or_false] at hn
    omega
  walk_at "aw"
  refine w_pickL (ns := [1, -1]) g2.ok (by decide) (by decide) fun z hz H3 g3 => ?_
  refine w_I (.inl ⟨by omega, by omega⟩) ?_
  simp only [List.mem_cons, List.not_mem_nil, or_false] at hz
  refine q _ _ ((g1.trans g2).trans g3) ?_ ?_ <;> rcases hz with rfl | rfl <;> omega
theorem len__law_domain {K : PySem.W.Frag} : ∀ (vs : List V) (H : Hp) (Q : VK) (E : XK), sp__law_domain K vs H Q E → vs.length = 2 := fun vs H Q E h => by
  obtain ⟨_, _, rfl, _⟩ := h
  rfl
theorem pure__law_domain {K : PySem.W.Frag} (vs : List V) (H : Hp) (Q : VK) (E : XK) (h : sp__law_domain K vs H Q E) : t__law_domain K { nx := fun _ H' => Q .non H', rt := Q } (start ["bag", "size", "way", "start", "first", "made", "k"] vs) H := by
  obtain ⟨st, c, rfl, cs, ok, c1, c2, q⟩ := h
  show t__law_domain K _ [some (.ref st), some (.int c), none, none, none, none, none] H
  unfold t__law_domain
  walk_at "aw"
  refine w_draw ok (by decide) (by decide) fun way H1 w0 w1 g1 => ?_
  walk_at "aw"
  refine w_iteB (fun _ => ?_) fun hw => ?_
  · walk_at "aw"
    refine w_pickL (ns := [0, 0, 0, 1, -1, -2]) g1.ok (by decide) (by decide) fun s hs H2 g2 => ?_
    simp only [List.mem_cons, List.not_mem_nil, or_false] at hs
    walk_at "aw"
    refine w_tupRg2 ?_
    walk_at "aw"
    refine w_rgT (by omega) (by omega) (by omega) fun r H3 n3 a3 e3 => ?_
    rw [show (s + c - s).toNat = c.toNat by omega] at e3
    refine q _ ((List.range c.toNat).map fun k => s + ((k : Nat) : Int)) _ ((g1.trans g2).new a3) (.tup (xs := ((List.range c.toNat).map fun k => V.int (s + ((k : Nat) : Int)))) e3 ?_) ?_
    · have := IsAll.ints (H := H3) ((List.range c.toNat).map fun k => s + ((k : Nat) : Int))
      rw [List.map_map (f := fun k : Nat => s + (k : Int)) (g := V.int)] at this
      exact this
    · rw [List.length_map, List.length_range]
      omega
  · have hw4 : way = 4 ∨ way = 5 := by omega
    walk_at "aw"
    refine w_draw g1.ok (by decide) (by decide) fun k1 H2 k10 k11 g2 => ?_
    walk_at "aw"
    refine w_draw g2.ok (by decide) (by decide) fun k2 H3 k20 k21 g3 => ?_
    walk_at "aw"
    refine w_lstD (by show 2 ≤ 100000; decide) fun p H4 np a4 e4 => ?_
    walk_at "aw"
    have hat : ∃ f, atI [V.int (k1 - 3), V.int (k2 - 200)] (way - 4) = some (.int f) := by
      rcases hw4 with rfl | rfl
      · exact ⟨_, at_of (j := 0) rfl rfl⟩
      · exact ⟨_, at_of (j := 1) rfl rfl⟩
    obtain ⟨f, hf⟩ := hat
    refine w_ixL (SqL.of e4) hf ?_
    walk_at "aw"
    refine w_lstD (by show 1 ≤ 100000; decide) fun md H5 nm a5 e5 => ?_
    have g5 := (((g1.trans g2).trans g3).new a4).new a5
    have g4 := ((g1.trans g2).trans g3).new a4
    have nm0 : H md = none := g4.free ok nm
    have nmo := (ok.ne nm0).1
    walk_at "aw"
    obtain ⟨m, hm⟩ : ∃ m : Nat, c = (m : Int) + 1 := ⟨(c - 1).toNat, by omega⟩
    rw [show c - 1 = ((m : Nat) : Int) by omega]
    refine kForR_i (n := m) (by omega) (fun i σ H' => ∃ (y : Option V) (fl : List Int), σ = [some (.ref st), some (.int c), some (.int way), none, some (.int f), some (.ref md), y] ∧ Go st cs H H' ∧ H' md = some (.lst (fl.map V.int)) ∧ fl.length = i + 1)
      ⟨none, [f], rfl, g5, e5, rfl⟩ (fun i σ H' hi p => ?_) fun σ H' p => ?_
    · obtain ⟨y, fl, rfl, g, ef, hl⟩ := p
      obtain ⟨z, hz⟩ := get_some (xs := fl) (i := i) (by omega)
      walk_at "aw"
      refine w_app rfl ef ?_
      walk_at "aw"
      refine w_ixL (SqL.of ef) (v := .int z) (at_of (j := i) rfl (by rw [List.getElem?_map, hz]; rfl)) ?_
      walk_at "aw"
      refine w_lstD (by show 2 ≤ 100000; decide) fun p H6 np6 a6 e6 => ?_
      walk_at "aw"
      have hat : ∃ u : Int, atI [V.int 2, V.int 12] (way - 4) = some (.int u) ∧ 0 < u ∧ u < 20 := by
        rcases hw4 with rfl | rfl
        · exact ⟨2, at_of (j := 0) rfl rfl, by decide, by decide⟩
        · exact ⟨12, at_of (j := 1) rfl rfl, by decide, by decide⟩
      obtain ⟨u, hu, u0, u1⟩ := hat
      refine w_ixL (SqL.of e6) hu ?_
      have g6 := g.new a6
      walk_at "aw"
      refine w_draw g6.ok u0 (by omega) fun k3 H7 _ _ g7 => ?_
      walk_at "aw"
      have ef7 := g7.keep nmo (a6.keep _ _ (fun z => nomatch z) ef)
      refine w_append ef7 (by rw [List.length_map]; omega) ?_
      walk_at "aw"
      refine ⟨some (.int (i : Nat)), fl ++ [z + 1 + k3], rfl, (g6.trans g7).mutL ok nm0 ef7, ?_, by rw [List.length_append, hl]; rfl⟩
      rw [upd_same, List.map_append]
      rfl
    · obtain ⟨y, fl, rfl, g, ef, hl⟩ := p
      walk_at "aw"
      refine w_tupL (SqL.of ef) fun r H6 nr a6 e6 => ?_
      exact q _ fl _ (g.new a6) (.tup e6 (.ints fl)) (by omega)
end AW
namespace AW
open PySem PySem.Spec PyProof.Rows L2 RZ
open StX
local macro_rules | `(tactic| walk_at "aw1") => `(tactic| first
  | (with_reducible refine w_seq ?_) | (with_reducible refine w_asg ?_) | (with_reducible refine w_gname ?_) | (with_reducible refine w_op ?_) | (with_reducible refine w_un ?_)
  | ((with_reducible refine' w_var ?h ?_); (case h => rfl)) | (with_reducible refine w_c ?_)
  | (with_reducible refine w_I0 ?_) | (with_reducible refine w_U ?_) | (with_reducible refine w_cb ?_) | (with_reducible refine w_nil ?_) | (with_reducible refine w_cons ?_) | (with_reducible refine w_call ?_)
  | (with_reducible refine w_test ?_) | (with_reducible refine w_B ?_) | (with_reducible refine w_bl ?_) | (with_reducible refine w_not ?_) | (with_reducible refine w_yes ?_) | (with_reducible refine iteT ?_) | (with_reducible refine iteF ?_) | (with_reducible refine w_and ?_) | (with_reducible refine w_or ?_)
  | (with_reducible refine w_andV ?_) | (with_reducible refine w_orV ?_) | (with_reducible refine w_notV ?_) | (with_reducible refine w_if ?_)
  | (with_reducible refine w_int1 ?_) | (with_reducible refine w_int1b ?_) | (with_reducible refine w_abs ?_) | (with_reducible refine w_max2 ?_) | (with_reducible refine w_min2 ?_)
  | ((with_reducible refine w_eq ?h ?_); (case h => rfl)) | ((with_reducible refine w_ne ?h ?_); (case h => rfl)) | (with_reducible refine w_isN ?_) | (with_reducible refine w_isB ?_) | (with_reducible refine w_chain ?_)
  | (with_reducible refine w_ret ?_) | (with_reducible refine w_drop ?_) | (with_reducible refine w_ifS ?_) | (with_reducible refine w_gsub ?_) | (with_reducible refine w_augS ?_) | (with_reducible refine w_ipI ?_) | (with_reducible refine w_next ?_)
  | (with_reducible refine w_forR ?_) | (with_reducible refine w_forR2 ?_) | (with_reducible refine w_forL ?_) | (with_reducible refine w_forT ?_) | (with_reducible refine w_lcR ?_) | (with_reducible refine w_lcL ?_) | (with_reducible refine w_lcT ?_) | (with_reducible refine w_sl ?_) | (with_reducible refine w_part ?_) | (with_reducible refine w_noPart ?_) | (with_reducible refine w_in ?_)
  | (with_reducible refine w_gcons ?_) | (with_reducible refine w_gnil ?_) | (with_reducible refine w_lc3 ?_) | (with_reducible refine w_dcZ ?_) | (with_reducible refine w_dcT ?_) | (with_reducible refine w_dg ?_) | (with_reducible refine w_callK ?_) | (with_reducible refine w_dput ?_) | (with_reducible refine w_tup1 ?_)
  | (with_reducible refine w_tup ?_) | (with_reducible refine w_lst ?_)
  | ((with_reducible refine w_I ?h ?_); (case h => first | (exact Or.inr ⟨by decide, by decide⟩) | (exact Or.inl ⟨by decide, by decide⟩) | (show (0 : Int) < _; decide) | (exact ⟨by decide, by decide, by decide⟩) | assumption)))
local macro_rules | `(tactic| walk_at "aw") => `(tactic| repeat (walk_at "aw1"))
theorem strs_of : ∀ {ys : List V}, (∀ (i : Nat) v, ys[i]? = some v → ∃ n : Str, v = .str n) → ∃ ps : List Str, ys = ps.map V.str
  | [], _ => ⟨[], rfl⟩
  | y :: ys, h => by
    obtain ⟨n, rfl⟩ := h 0 y rfl
    obtain ⟨ps, rfl⟩ := strs_of (ys := ys) fun i v e => h (i + 1) v (by simpa using e)
    exact ⟨n :: ps, rfl⟩
def SG : Str := "abcdefghijklmnopqrstuvwxyz0123456789."
def SGl : List Nat := SG.cps.toList
theorem SG_len : SGl.length = 37 := by decide +kernel
theorem SG_nd : SGl.Nodup := by decide +kernel
theorem SG_ok : ∀ c ∈ SGl, c < 0x110000 := by decide +kernel
theorem SG_size : SG.length ≤ sizeLine := by decide +kernel
theorem w_sign {i : Int} {H : Hp} {Q : VK} (h0 : 0 ≤ i) (h1 : i < 37) (q : ∀ c, SGl[i.toNat]? = some c → Q (.str ⟨#[c]⟩) H) : rIxS (.str SG) (.int i) H Q := by
  obtain ⟨c, hc⟩ := get_some (xs := SGl) (i := i.toNat) (by rw [SG_len]; omega)
  refine ⟨SG, i, c, rfl, rfl, SG_size, ?_, q c hc⟩
  have e : SG.cps.toList.length = 37 := SG_len
  unfold atI ixN
  rw [e, if_pos h0, if_pos (show i < ((37 : Nat) : Int) from h1), Option.bind_some]
  exact hc
theorem w_addS {x y : Str} {H : Hp} {Q : VK} (h : x.length + y.length ≤ 100000) (q : Q (.str (x ++ y)) H) : rAddS (.str x) (.str y) H Q := ⟨x, y, rfl, rfl, Nat.le_trans h (by decide), q⟩
theorem w_slS {x : Str} {lo hi : Option Int} {H : Hp} {Q : VK} (h : x.length ≤ 100000) (q : Q (.str (cutS x lo hi)) H) : rSlS (.str x) lo hi H Q := ⟨x, rfl, Nat.le_trans h (by decide), q⟩
theorem w_str {i : Int} {H : Hp} {Q : VK} (h : i.natAbs < 1000) (q : Q (.str (Str.ofString (toString i))) H) : rStr1 [.int i] H Q := ⟨i, rfl, by have := Nat.log2_le_self i.natAbs; omega, q⟩
theorem okS_app {x y : Str} (h1 : okS x) (h2 : okS y) : okS (x ++ y) := by
  unfold okS at *
  show ((x.cps ++ y.cps).all _) = true
  rw [Array.all_append, h1, h2]
  rfl
theorem okS_iff {x : Str} : okS x ↔ ∀ c ∈ x.cps.toList, c < 0x110000 := by
  unfold okS
  rw [← Array.all_toList, List.all_eq_true]
  simp
theorem okS_cut {x : Str} {lo hi : Option Int} (h : okS x) : okS (cutS x lo hi) := by
  rw [okS_iff] at h ⊢
  intro c hc
  exact h c (List.mem_of_mem_drop (List.mem_of_mem_take hc))
theorem okS_one {c : Nat} (h : c < 0x110000) : okS ⟨#[c]⟩ := by
  rw [okS_iff]
  intro d hd
  rw [List.mem_singleton.mp hd]
  exact h
theorem len_app {x y : Str} : (x ++ y).length = x.length + y.length := Array.size_append
theorem len_one {c : Nat} : (⟨#[c]⟩ : Str).length = 1 := rfl
theorem lst_app {x y : Str} : (x ++ y).cps.toList = x.cps.toList ++ y.cps.toList := Array.toList_append
theorem lst_one {c : Nat} : (⟨#[c]⟩ : Str).cps.toList = [c] := rfl
theorem join_ok : ∀ ws : List Str, (∀ x ∈ ws, okS x ∧ x.length = 1) → okS (Str.join "" ws) ∧ (Str.join "" ws).length ≤ ws.length
  | [], _ => ⟨by unfold okS; decide +kernel, Nat.le_refl _⟩
  | [x], h => ⟨(h x (List.mem_singleton.mpr rfl)).1, by rw [show Str.join "" [x] = x from rfl, (h x (List.mem_singleton.mpr rfl)).2]; exact Nat.le_refl _⟩
  | x :: y :: ws, h => by
    obtain ⟨h1, h2⟩ := join_ok (y :: ws) fun z hz => h z (List.mem_cons_of_mem _ hz)
    have hx := h x (List.mem_cons_self ..)
    have e : Str.join "" (x :: y :: ws) = x ++ "" ++ Str.join "" (y :: ws) := rfl
    rw [e]
    refine ⟨okS_app (okS_app hx.1 (by unfold okS; decide +kernel)) h1, ?_⟩
    rw [len_app, len_app, hx.2, show (Str.ofString "").length = 0 from by decide +kernel, List.length_cons]
    omega
def SK (k : Int) : Str := Str.ofString (toString k)
def NK (k : Nat) : Str := Str.ofString "n" ++ SK (k : Nat)
theorem NK_nd : ((List.range 98).map NK).Nodup := by decide +kernel
theorem NK_ok : ∀ k < 99, okS (NK k) ∧ (NK k).length ≤ 100 := by unfold okS; decide +kernel
theorem SK_len : ∀ k < 99, (SK (k : Nat)).length ≤ 2 := by decide +kernel
theorem inV_strs {x : Str} {xs : List Str} : inV (.str x) (xs.map V.str) = decide (x ∈ xs) := by
  unfold inV
  rw [List.any_map, Bool.eq_iff_iff, List.any_eq_true, decide_eq_true_iff]
  exact ⟨fun ⟨y, hy, z⟩ => by
    have : y = x := by simpa [eqV] using z
    exact this ▸ hy, fun hx => ⟨x, hx, by simp [eqV]⟩⟩
theorem flat_strs (xs : List Str) : (xs.map V.str).all flatV = true := by rw [List.all_map, List.all_eq_true]; exact fun _ _ => rfl
theorem w_notIn {x : Str} {p : Addr} {xs : List Str} {K : PySem.W.Frag} {H : Hp} {Q : VK} (h : H p = some (.lst (xs.map V.str))) (q : Q (.bl (!decide (x ∈ xs))) H) : rIn K true (.str x) (.ref p) H Q := ⟨p, _, rfl, .inl (SqL.of h), rfl, flat_strs xs, by rw [if_pos rfl, inV_strs]; exact q⟩
theorem w_m1 {r : V → List V → Hp → VK → Prop} {to te : TE} {σ : L2.St} {H : Hp} {Q : VK} (h : to σ H fun x H1 => (∃ a, x = .str a) ∧ te σ H1 fun y H2 => r x [y] H2 Q) : tM1 r to te σ H Q := h
theorem w_ifJ {c : TT} {A B : TS} {D : Ends} {σ : L2.St} {H : Hp} (R : L2.St → Hp → Prop) (h1 : ∀ D' : Ends, (∀ σ' H', R σ' H' → D'.nx σ' H') → tIfS c A B D' σ H) (h2 : ∀ σ' H', R σ' H' → D.nx σ' H') : tIfS c A B D σ H := h1 D h2
theorem w_ifEJ {c : TT} {a b : TE} {σ : L2.St} {H : Hp} {Q : VK} (R : V → Hp → Prop) (h1 : ∀ Q' : VK, (∀ v H', R v H' → Q' v H') → tIf c a b σ H Q') (h2 : ∀ v H', R v H' → Q v H') : tIf c a b σ H Q := h1 Q h2
theorem w_forJ {g : TG} {tb : TS} {D : Ends} {σ : L2.St} {ws : List V} {H : Hp} (R : L2.St → Hp → Prop) (h1 : ∀ D' : Ends, (∀ σ' H', R σ' H' → D'.nx σ' H') → kForR g tb D' σ ws H) (h2 : ∀ σ' H', R σ' H' → D.nx σ' H') : kForR g tb D σ ws H := h1 D h2
theorem join1 {K : PySem.W.Frag} {p : Addr} {ws : List Str} {H : Hp} {Q : VK} (h : H p = some (.lst (ws.map V.str))) (hw : ∀ x ∈ ws, okS x ∧ x.length = 1) (hl : ws.length ≤ 1000) (q : ∀ nm : Str, okS nm → nm.length ≤ ws.length → Q (.str nm) H) : rJoin K (.str "") [.ref p] H Q := by
  obtain ⟨h1, h2⟩ := join_ok ws hw
  rw [← TL.join_eq] at h1 h2
  have hsum : ∀ l : List Str, (∀ x ∈ l, okS x ∧ x.length = 1) → (l.map (·.length)).sum = l.length := fun l => by
    induction l with
    | nil => exact fun _ => rfl
    | cons a l ih =>
      intro h
      rw [List.map_cons, List.sum_cons, ih fun x hx => h x (List.mem_cons_of_mem _ hx), (h a (List.mem_cons_self ..)).2, List.length_cons]
      omega
  exact ⟨Str.ofString "", p, ws, rfl, rfl, .inl (SqL.of h), by rw [hsum ws hw, show (Str.ofString "").length = 0 from by decide +kernel]; omega, q _ h1 h2⟩
theorem signs_of : ∀ x ∈ signsOf SG, okS x ∧ x.length = 1 := fun x hx => by
  obtain ⟨c, hc, rfl⟩ := List.mem_map.mp hx
  exact ⟨okS_one (SG_ok c hc), rfl⟩
def sp__law_names (_ : PySem.W.Frag) : Sp := fun vs H Q _ => ∃ (st : Addr) (n : Nat), vs = [.ref st, .int (n : Nat)] ∧ ∃ cs, StOk st cs H ∧ n ≤ 90 ∧ ∀ r (names : List Str) H', Go st cs H H' → H r = none → H' r = some (.lst (names.map V.str)) → names.length = n → names.Nodup → (∀ x ∈ names, okS x) → Q (.ref r) H'
def t__law_names (K : PySem.W.Frag) : TS := (tSeq (tAsg (tC (.str "abcdefghijklmnopqrstuvwxyz0123456789.")) (gName 2))
  (tSeq (tAsg (tCall (sp__law_pick K) [] E0 (tCons (tVar 0) (tCons (tLst (tCons (tC (.int 1)) (tCons (tC (.int 1)) (tCons (tC (.int 2)) (tCons (tC (.int 3)) (tCons (tC (.int 5)) (tCons (tC (.int 24)) tNil))))))) tNil))) (gName 3))
  (tSeq (tAsg (tCall (sp__law_draw K) [] E0 (tCons (tVar 0) (tCons (tVar 3) tNil))) (gName 4))
  (tSeq (tAsg (tLc (iRng1 (tCons (tVar 3) tNil)) (gName 6) tYes (tOp rIxS (tVar 2) (tCall (sp__law_draw K) [] E0 (tCons (tVar 0) (tCons (tC (.int 37)) tNil)))) [6]) (gName 5))
  (tSeq (tAsg (tCall (sp__law_some K) [] E0 (tCons (tVar 0) (tCons (tVar 2) (tCons (tC (.int 37)) tNil)))) (gName 7))
  (tSeq (tAsg (tOp rEq (tCall (sp__law_draw K) [] E0 (tCons (tVar 0) (tCons (tC (.int 2)) tNil))) (tC (.int 0))) (gName 8))
  (tSeq (tAsg (tLst tNil) (gName 9))
  (tSeq (tFor (iRng1 (tCons (tVar 1) tNil)) (gName 6)
  (tSeq (tAsg (tCB (rListOf K) (tCons (tVar 5) tNil)) (gName 10))
  (tSeq (tAsg (tOp (rIxL K) (tVar 7) (tOp rModI (tCB rInt1 (tCons (tVar 6) tNil)) (tC (.int 37)))) (gSub (tVar 10) (tVar 4) rSetL))
  (tSeq (tAsg (tM1 (rJoin K) (tC (.str "")) (tVar 10)) (gName 11))
  (tSeq (tIfS (tOr (tTest (tOp rGtI (tVar 6) (tC (.int 36)))) (tNot (tB (tVar 8)))) (tAsg (tSl rSlS (tOp rAddS (tM1 (rJoin K) (tC (.str "")) (tLc (iRng1 (tCons (tCall (sp__law_draw K) [] E0 (tCons (tVar 0) (tCons (tC (.int 4)) tNil))) tNil)) (gName 12) tYes (tOp rIxS (tVar 2) (tCall (sp__law_draw K) [] E0 (tCons (tVar 0) (tCons (tC (.int 37)) tNil)))) [12])) (tVar 11)) (tPart (tUn rNeg (tC (.int 24)))) tNoPart) (gName 11)) tNext)
  (tSeq (tFor (iRng1 (tCons (tC (.int 99)) tNil)) (gName 12)
  (tSeq (tIfS (tTest (tOp (rIn K true) (tVar 11) (tVar 9))) tBreak tNext)
  (tAsg (tOp rAddS (tC (.str "n")) (tCB rStr1 (tCons (tVar 12) tNil))) (gName 11))))
  (tDrop (tBM K "list" rAppend (tVar 9) (tCons (tVar 11) tNil)))))))))
  (tRet (tVar 9))))))))))
theorem len__law_names {K : PySem.W.Frag} : ∀ (vs : List V) (H : Hp) (Q : VK) (E : XK), sp__law_names K vs H Q E → vs.length = 2 := fun vs H Q E h => by
  obtain ⟨_, _, rfl, _⟩ := h
  rfl
theorem signs_list {ys : List V} (h : ∀ (i : Nat) v, ys[i]? = some v → ∃ x : Str, v = .str x ∧ okS x ∧ x.length = 1) : ∃ ws : List Str, ys = ws.map V.str ∧ ∀ x ∈ ws, okS x ∧ x.length = 1 := by
  obtain ⟨ws, rfl⟩ := strs_of (ys := ys) fun i v e => by
    obtain ⟨x, rfl, _⟩ := h i v e
    exact ⟨x, rfl⟩
  refine ⟨ws, rfl, fun x hx => ?_⟩
  obtain ⟨i, hi, rfl⟩ := List.mem_iff_getElem.mp hx
  obtain ⟨y, e, h⟩ := h i (.str ws[i]) (by rw [List.getElem?_map, List.getElem?_eq_getElem hi]; rfl)
  rw [V.str.inj e]
  exact h
theorem pure__law_names {K : PySem.W.Frag} (vs : List V) (H : Hp) (Q : VK) (E : XK) (h : sp__law_names K vs H Q E) : t__law_names K { nx := fun _ H' => Q .non H', rt := Q } (start ["bag", "many", "signs", "size", "at", "first", "k", "row", "alike", "made", "one", "name", "j"] vs) H := by
  obtain ⟨st, n, rfl, cs, ok, hn, q⟩ := h
  show t__law_names K _ [some (.ref st), some (.int (n : Nat)), none, none, none, none, none, none, none, none, none, none, none] H
  unfold t__law_names
  walk_at "aw"
  refine w_pickL (ns := [1, 1, 2, 3, 5, 24]) ok (by decide) (by decide) fun size hs H1 g1 => ?_
  obtain ⟨z, rfl, hz0, hz1⟩ : ∃ z : Nat, size = (z : Int) ∧ 0 < z ∧ z ≤ 24 := by
    simp only [List.mem_cons, List.not_mem_nil, or_false] at hs
    exact ⟨size.toNat, by omega, by omega, by omega⟩
  walk_at "aw"
  refine w_draw g1.ok (by omega) (by omega) fun aa H2 ha0 ha1 g2 => ?_
  have g12 := g1.trans g2
  walk_at "aw"
  refine kLcR_all (n := z) (by omega) g12.ok (fun _ v _ => ∃ x : Str, v = .str x ∧ okS x ∧ x.length = 1) (fun _ _ _ _ _ h => h) (fun k H4 Kt hk g4 kt => ?_) fun fa H3 ys nfa g3 efa hyl hyr => ?_
  · walk_at "aw"
    refine ⟨rfl, ?_⟩
    walk_at "aw"
    refine w_draw g4.ok (by decide) (by decide) fun m H5 hm0 hm1 g5 => ?_
    refine w_sign hm0 hm1 fun c hc => ?_
    exact kt _ _ g5 ⟨_, rfl, okS_one (SG_ok c (List.mem_of_getElem? hc)), rfl⟩
  obtain ⟨ws, rfl, hws⟩ := signs_list hyr
  rw [List.length_map] at hyl
  have g13 := g12.trans g3
  have ofa := (g12.ok.ne nfa).1
  walk_at "aw"
  refine ⟨st, _, 37, rfl, cs, (signsOf SG).map V.str, g13.ok, .inr ⟨SG, rfl, by decide +kernel, rfl⟩, by decide +kernel, by decide +kernel, fun rw made left H4 hperm hml nrw g4 erw => ?_⟩
  have g14 := g13.trans g4
  have orw := (g13.ok.ne nrw).1
  have hmade : ∀ v ∈ made, ∃ x : Str, v = .str x ∧ okS x ∧ x.length = 1 := fun v hv => by
    have : v ∈ (signsOf SG).map V.str := hperm.mem_iff.mp (List.mem_append_left _ hv)
    obtain ⟨x, hx, rfl⟩ := List.mem_map.mp this
    exact ⟨x, rfl, signs_of x hx⟩
  have efa4 := g4.keep ofa efa
  clear hperm hyr
  walk_at "aw"
  refine w_draw g14.ok (by decide) (by decide) fun al H5 _ _ g5 => ?_
  have g15 := g14.trans g5
  walk_at "aw"
  generalize decide (V.int al = V.int 0) = alike
  refine w_lstD (by simp) fun f H6 nf a6 e6 => ?_
  have g16 := g15.new a6
  have nf0 : H f = none := g15.free ok nf
  have nof := (ok.ne nf0).1
  have hfaf : fa ≠ f := ne_of_none (g5.keep ofa efa4) nf
  have hrwf : rw ≠ f := ne_of_none (g5.keep orw erw) nf
  have efa6 := a6.keep _ _ (fun z => nomatch z) (g5.keep ofa efa4)
  have erw6 := a6.keep _ _ (fun z => nomatch z) (g5.keep orw erw)
  walk_at "aw"
  refine kForR_i (n := n) (by omega) (fun i σ H' => ∃ (y6 y10 y11 y12 : Option V) (nms : List Str), σ = [some (.ref st), some (.int (n : Nat)), some (.str SG), some (.int (z : Nat)), some (.int aa), some (.ref fa), y6, some (.ref rw), some (.bl alike), some (.ref f), y10, y11, y12] ∧
      Go st cs H H' ∧ H' f = some (.lst (nms.map V.str)) ∧ H' fa = some (.lst (ws.map V.str)) ∧ H' rw = some (.lst made) ∧ nms.length = i ∧ nms.Nodup ∧ ∀ x ∈ nms, okS x)
    ⟨_, _, _, _, [], rfl, g16, e6, efa6, erw6, rfl, List.nodup_nil, fun x hx => nomatch hx⟩ (fun i σ H' hi pp => ?_) fun σ H' pp => ?_
  · obtain ⟨y6, y10, y11, y12, nms, rfl, g, ef, efa, erw, hnl, hnd, hnok⟩ := pp
    walk_at "aw"
    refine w_listOf (.inl (SqL.of efa)) fun o H7 no a7 eo => ?_
    have g7 := g.new a7
    walk_at "aw"
    obtain ⟨v, hv⟩ := get_some (xs := made) (i := i % 37) (by have := Nat.mod_lt i (show 0 < 37 by decide); omega)
    obtain ⟨x, rfl, hx⟩ := hmade v (List.mem_of_getElem? hv)
    refine w_ixL (SqL.of (a7.keep _ _ (fun z => nomatch z) erw)) (v := .str x) (at_of (j := i % 37) (by omega) hv) ?_
    walk_at "aw"
    obtain ⟨j, rfl⟩ : ∃ j : Nat, aa = (j : Int) := ⟨aa.toNat, by omega⟩
    refine w_setL eo (ixN_at (j := j) (by rw [List.length_map, hyl]; omega)) ?_
    rw [show (ws.map V.str).set j (.str x) = (ws.set j x).map V.str by rw [List.map_set]]
    have no0 : H o = none := g.free ok no
    have g8 := g7.mutL (o := .lst ((ws.set j x).map V.str)) ok no0 eo
    have hof : f ≠ o := ne_of_none ef no
    have hofa : fa ≠ o := ne_of_none efa no
    have horw : rw ≠ o := ne_of_none erw no
    have ef8 : (upd H7 o (.lst ((ws.set j x).map V.str))) f = some (.lst (nms.map V.str)) := by rw [upd_ne hof]; exact a7.keep _ _ (fun z => nomatch z) ef
    have efa8 : (upd H7 o (.lst ((ws.set j x).map V.str))) fa = some (.lst (ws.map V.str)) := by rw [upd_ne hofa]; exact a7.keep _ _ (fun z => nomatch z) efa
    have erw8 : (upd H7 o (.lst ((ws.set j x).map V.str))) rw = some (.lst made) := by rw [upd_ne horw]; exact a7.keep _ _ (fun z => nomatch z) erw
    have eo8 : (upd H7 o (.lst ((ws.set j x).map V.str))) o = some (.lst ((ws.set j x).map V.str)) := upd_same
    generalize upd H7 o (.lst ((ws.set j x).map V.str)) = H8 at g8 ef8 efa8 erw8 eo8
    walk_at "aw"
    refine w_m1 ?_
    walk_at "aw"
    refine ⟨⟨_, rfl⟩, ?_⟩
    walk_at "aw"
    refine join1 eo8 (fun y hy => ?_) (by rw [List.length_set]; omega) fun nm hnm hnml => ?_
    · rcases List.mem_or_eq_of_mem_set hy with hy | rfl
      · exact hws y hy
      · exact hx
    rw [List.length_set] at hnml
    walk_at "aw1"
    walk_at "aw1"
    refine w_ifJ (fun σ' H' => ∃ (nm : Str) (y12 : Option V), σ' = [some (.ref st), some (.int (n : Nat)), some (.str SG), some (.int (z : Nat)), some (.int (j : Nat)), some (.ref fa), some (.int (i : Nat)), some (.ref rw), some (.bl alike), some (.ref f), some (.ref o), some (.str nm), y12] ∧
      Go st cs H H' ∧ H' f = some (.lst (nms.map V.str)) ∧ H' fa = some (.lst (ws.map V.str)) ∧ H' rw = some (.lst made) ∧ okS nm ∧ nm.length ≤ 100) (fun D' hD => ?_) fun σ' H9 hR => ?_
    · have same := hD _ H8 ⟨nm, y12, rfl, g8, ef8, efa8, erw8, hnm, by omega⟩
      have other : ∀ (Kx : Ends), Kx = D' → (tAsg (tSl rSlS (tOp rAddS (tM1 (rJoin K) (tC (.str "")) (tLc (iRng1 (tCons (tCall (sp__law_draw K) [] E0 (tCons (tVar 0) (tCons (tC (.int 4)) tNil))) tNil)) (gName 12) tYes (tOp rIxS (tVar 2) (tCall (sp__law_draw K) [] E0 (tCons (tVar 0) (tCons (tC (.int 37)) tNil)))) [12])) (tVar 11)) (tPart (tUn rNeg (tC (.int 24)))) tNoPart) (gName 11)) D' [some (.ref st), some (.int (n : Nat)), some (.str SG), some (.int (z : Nat)), some (.int (j : Nat)), some (.ref fa), some (.int (i : Nat)), some (.ref rw), some (.bl alike), some (.ref f), some (.ref o), some (.str nm), y12] H8 := by
        intro _ _
        walk_at "aw"
        refine w_m1 ?_
        walk_at "aw"
        refine ⟨⟨_, rfl⟩, ?_⟩
        walk_at "aw"
        refine w_draw g8.ok (by decide) (by decide) fun u H9 u0 u1 g9 => ?_
        obtain ⟨uu, rfl⟩ : ∃ uu : Nat, u = (uu : Int) := ⟨u.toNat, by omega⟩
        walk_at "aw"
        refine kLcR_all (n := uu) (by omega) g9.ok (fun _ v _ => ∃ x : Str, v = .str x ∧ okS x ∧ x.length = 1) (fun _ _ _ _ _ h => h) (fun k H4 Kt hk g4 kt => ?_) fun pa H10 ys npa g10 epa hyl2 hyr => ?_
        · walk_at "aw"
          refine ⟨rfl, ?_⟩
          walk_at "aw"
          refine w_draw g4.ok (by decide) (by decide) fun m H5 hm0 hm1 g5 => ?_
          refine w_sign hm0 hm1 fun c hc => ?_
          exact kt _ _ g5 ⟨_, rfl, okS_one (SG_ok c (List.mem_of_getElem? hc)), rfl⟩
        obtain ⟨us, rfl, hus⟩ := signs_list hyr
        rw [List.length_map] at hyl2
        refine join1 epa hus (by omega) fun nm2 hnm2 hnml2 => ?_
        walk_at "aw"
        refine w_addS (by omega) ?_
        walk_at "aw"
        have hcl := cutS_length (nm2 ++ nm) (some (-24)) none
        rw [len_app] at hcl
        refine w_slS (by rw [len_app]; omega) ?_
        have g910 := g9.trans g10
        walk_at "aw"
        exact hD _ H10 ⟨_, y12, rfl, g8.trans g910, g910.keep nof ef8, g910.keep ofa efa8, g910.keep orw erw8, okS_cut (okS_app hnm2 hnm), by omega⟩
      walk_at "aw"
      refine w_iteB (fun _ => other _ rfl) fun _ => ?_
      walk_at "aw"
      cases alike with
      | true =>
        walk_at "aw"
        exact same
      | false =>
        walk_at "aw"
        exact other _ rfl
    · obtain ⟨nm, y12, rfl, g9, ef9, efa9, erw9, hnm, hnml⟩ := hR
      walk_at "aw"
      refine w_forJ (fun σ' H' => H' = H9 ∧ ∃ (nm : Str) (y12 : Option V), σ' = [some (.ref st), some (.int (n : Nat)), some (.str SG), some (.int (z : Nat)), some (.int (j : Nat)), some (.ref fa), some (.int (i : Nat)), some (.ref rw), some (.bl alike), some (.ref f), some (.ref o), some (.str nm), y12] ∧ okS nm ∧ nm ∉ nms) (fun D' hD => ?_) fun σ' H' hR => ?_
      · refine kForR_i (n := 99) (by omega) (fun l σ' H' => H' = H9 ∧ ∃ (nm : Str) (y12 : Option V), σ' = [some (.ref st), some (.int (n : Nat)), some (.str SG), some (.int (z : Nat)), some (.int (j : Nat)), some (.ref fa), some (.int (i : Nat)), some (.ref rw), some (.bl alike), some (.ref f), some (.ref o), some (.str nm), y12] ∧ okS nm ∧ (∀ k, k + 1 = l → nm = NK k) ∧ ∀ k, k + 1 < l → NK k ∈ nms)
          ⟨rfl, nm, y12, rfl, hnm, fun k hk => by omega, fun k hk => by omega⟩ (fun l σ' H' hl pp => ?_) fun σ' H' pp => ?_
        · obtain ⟨rfl, nm, y12, rfl, hnm, h1, h2⟩ := pp
          walk_at "aw"
          refine w_notIn ef9 ?_
          walk_at "aw"
          refine w_iteNB (fun h => ?_) fun h => ?_
          · exact hD _ _ ⟨rfl, nm, _, rfl, hnm, h⟩
          · walk_at "aw"
            refine w_str (by omega) ?_
            have := SK_len l hl
            refine w_addS (show (Str.ofString "n").length + (SK (l : Nat)).length ≤ 100000 from by rw [show (Str.ofString "n").length = 1 from by decide +kernel]; omega) ?_
            walk_at "aw"
            refine ⟨rfl, NK l, _, rfl, (NK_ok l hl).1, fun k hk => by rw [show k = l by omega], fun k hk => ?_⟩
            by_cases e : k + 1 = l
            · rw [← h1 k e]
              exact h
            · exact h2 k (by omega)
        · obtain ⟨rfl, nm, y12, rfl, hnm, h1, h2⟩ := pp
          have := NK_nd.length_le_of_subset (l₂ := nms) fun y hy => by
            obtain ⟨k, hk, rfl⟩ := List.mem_map.mp hy
            exact h2 k (by have := List.mem_range.mp hk; omega)
          rw [List.length_map, List.length_range] at this
          omega
      · obtain ⟨rfl, nm, y12, rfl, hnm, hnn⟩ := hR
        walk_at "aw"
        refine w_app rfl ef9 ?_
        walk_at "aw"
        refine w_append ef9 (by rw [List.length_map]; omega) ?_
        walk_at "aw"
        refine ⟨_, _, _, _, nms ++ [nm], rfl, g9.mutL ok nf0 ef9, ?_, ?_, ?_, by rw [List.length_append, hnl]; rfl, ?_, fun y hy => ?_⟩
        · rw [upd_same, List.map_append]
          rfl
        · rw [upd_ne hfaf]
          exact efa9
        · rw [upd_ne hrwf]
          exact erw9
        · rw [List.nodup_append]
          refine ⟨hnd, by simp, fun a ha b hb e => ?_⟩
          rw [List.mem_singleton.mp hb] at e
          exact hnn (e ▸ ha)
        · rcases List.mem_append.mp hy with hy | hy
          · exact hnok y hy
          · rw [List.mem_singleton.mp hy]
            exact hnm
  · obtain ⟨y6, y10, y11, y12, nms, rfl, g, ef, efa, erw, hnl, hnd, hnok⟩ := pp
    walk_at "aw"
    exact q f nms H' g nf0 ef hnl hnd hnok
end AW
namespace AW
open PySem PySem.Spec PyProof.Rows L2 RZ
open StX
local macro_rules | `(tactic| walk_at "aw1") => `(tactic| first
  | (with_reducible refine w_seq ?_) | (with_reducible refine w_asg ?_) | (with_reducible refine w_gname ?_) | (with_reducible refine w_op ?_) | (with_reducible refine w_un ?_)
  | ((with_reducible refine' w_var ?h ?_); (case h => rfl)) | (with_reducible refine w_c ?_)
  | (with_reducible refine w_I0 ?_) | (with_reducible refine w_U ?_) | (with_reducible refine w_cb ?_) | (with_reducible refine w_nil ?_) | (with_reducible refine w_cons ?_) | (with_reducible refine w_call ?_)
  | (with_reducible refine w_test ?_) | (with_reducible refine w_B ?_) | (with_reducible refine w_bl ?_) | (with_reducible refine w_not ?_) | (with_reducible refine w_yes ?_) | (with_reducible refine iteT ?_) | (with_reducible refine iteF ?_) | (with_reducible refine w_and ?_) | (with_reducible refine w_or ?_)
  | (with_reducible refine w_andV ?_) | (with_reducible refine w_orV ?_) | (with_reducible refine w_notV ?_) | (with_reducible refine w_if ?_)
  | (with_reducible refine w_int1 ?_) | (with_reducible refine w_int1b ?_) | (with_reducible refine w_abs ?_) | (with_reducible refine w_max2 ?_) | (with_reducible refine w_min2 ?_)
  | ((with_reducible refine w_eq ?h ?_); (case h => rfl)) | ((with_reducible refine w_ne ?h ?_); (case h => rfl)) | (with_reducible refine w_isN ?_) | (with_reducible refine w_isB ?_) | (with_reducible refine w_chain ?_)
  | (with_reducible refine w_ret ?_) | (with_reducible refine w_drop ?_) | (with_reducible refine w_ifS ?_) | (with_reducible refine w_gsub ?_) | (with_reducible refine w_augS ?_) | (with_reducible refine w_ipI ?_) | (with_reducible refine w_next ?_)
  | (with_reducible refine w_forR ?_) | (with_reducible refine w_forR2 ?_) | (with_reducible refine w_forL ?_) | (with_reducible refine w_forT ?_) | (with_reducible refine w_lcR ?_) | (with_reducible refine w_lcL ?_) | (with_reducible refine w_lcT ?_) | (with_reducible refine w_sl ?_) | (with_reducible refine w_part ?_) | (with_reducible refine w_noPart ?_) | (with_reducible refine w_in ?_)
  | (with_reducible refine w_gcons ?_) | (with_reducible refine w_gnil ?_) | (with_reducible refine w_lc3 ?_) | (with_reducible refine w_dcZ ?_) | (with_reducible refine w_dcT ?_) | (with_reducible refine w_dg ?_) | (with_reducible refine w_callK ?_) | (with_reducible refine w_dput ?_) | (with_reducible refine w_tup1 ?_)
  | (with_reducible refine w_tup ?_) | (with_reducible refine w_lst ?_)
  | ((with_reducible refine w_I ?h ?_); (case h => first | (exact Or.inr ⟨by decide, by decide⟩) | (exact Or.inl ⟨by decide, by decide⟩) | (show (0 : Int) < _; decide) | (exact ⟨by decide, by decide, by decide⟩) | assumption)))
local macro_rules | `(tactic| walk_at "aw") => `(tactic| repeat (walk_at "aw1"))
def LsAt (H : Hp) (p : Addr) (ds : List PyData) : Prop := ∃ xs, H p = some (.lst xs) ∧ IsAll H ds xs
/-- a list of unknowns, each with its domain, while the bag is drawn from -/
structure Bx (st : Addr) (cs : Addr × Addr) (p : Addr) (doms : List (Str × List Int)) (H : Hp) : Prop where
  ok : StOk st cs H
  off : Off p st cs
  at_ : LsAt H p (doms.map domD)
  pos : 0 < doms.length
  len : doms.length ≤ 40
  dz : ∀ q ∈ doms, 0 < q.2.length ∧ q.2.length ≤ 100
  nd : (doms.map (·.1)).Nodup
  oks : ∀ q ∈ doms, okS q.1
theorem Bx.go {st : Addr} {cs : Addr × Addr} {p : Addr} {doms : List (Str × List Int)} {H H' : Hp} (b : Bx st cs p doms H) (g : Go st cs H H') : Bx st cs p doms H' := by
  obtain ⟨xs, h1, h2⟩ := b.at_
  exact ⟨g.ok, b.off, ⟨xs, g.keep b.off h1, h2.up g.tk⟩, b.pos, b.len, b.dz, b.nd, b.oks⟩
/-- the unknown at a place of the list -/
theorem Bx.get {st : Addr} {cs : Addr × Addr} {p : Addr} {doms : List (Str × List Int)} {H : Hp} (b : Bx st cs p doms H) : ∃ xs, H p = some (.lst xs) ∧ IsAll H (doms.map domD) xs ∧ xs.length = doms.length ∧ ∀ (i : Nat) x, xs[i]? = some x → ∃ (d : Str × List Int) (a c : Addr), doms[i]? = some d ∧ d ∈ doms ∧ x = .ref a ∧ H a = some (.tup [.str d.1, .ref c]) ∧ H c = some (.tup (d.2.map V.int)) := by
  obtain ⟨xs, h1, h2⟩ := b.at_
  refine ⟨xs, h1, h2, by rw [h2.length, List.length_map], fun i x e => ?_⟩
  obtain ⟨dd, z1, h3⟩ := h2.get e
  rw [List.getElem?_map] at z1
  obtain ⟨d, z2, rfl⟩ := Option.map_eq_some_iff.mp z1
  obtain ⟨a, c, rfl, h4, h5⟩ := is_dom h3
  exact ⟨d, a, c, z2, List.mem_of_getElem? z2, rfl, h4, h5⟩
theorem permD {α : Type} {H : Hp} {f : α → PyData} {vs ws : List V} (p : ws.Perm vs) : ∀ {ds : List α}, IsAll H (ds.map f) vs → ∃ es : List α, es.Perm ds ∧ IsAll H (es.map f) ws := by
  induction p with
  | nil =>
    intro ds h
    cases ds with
    | nil => exact ⟨[], .refl _, .nil⟩
    | cons d ds => cases h
  | cons x p ih =>
    intro ds h
    cases ds with
    | nil => cases h
    | cons d ds =>
      cases h with
      | cons a t =>
        obtain ⟨es, h1, h2⟩ := ih t
        exact ⟨d :: es, h1.cons d, .cons a h2⟩
  | swap x y l =>
    intro ds h
    cases ds with
    | nil => cases h
    | cons d ds =>
      cases h with
      | cons a t =>
        cases ds with
        | nil => cases t
        | cons e ds =>
          cases t with
          | cons b t => exact ⟨e :: d :: ds, List.Perm.swap d e ds, .cons b (.cons a t)⟩
  | trans p1 p2 ih1 ih2 =>
    intro ds h
    obtain ⟨es, h1, h2⟩ := ih2 h
    obtain ⟨fs, h3, h4⟩ := ih1 h2
    exact ⟨fs, h3.trans h1, h4⟩
theorem isall_take {α : Type} {H : Hp} {f : α → PyData} : ∀ {made left : List V} {es : List α}, IsAll H (es.map f) (made ++ left) → ∃ few rest, es = few ++ rest ∧ few.length = made.length ∧ IsAll H (few.map f) made ∧ IsAll H (rest.map f) left
  | [], left, es, h => ⟨[], es, rfl, rfl, .nil, h⟩
  | x :: made, left, [], h => by cases h
  | x :: made, left, e :: es, h => by
    cases h with
    | cons a t =>
      obtain ⟨few, rest, h1, h2, h3, h4⟩ := isall_take (made := made) t
      exact ⟨e :: few, rest, by rw [h1]; rfl, by rw [List.length_cons, List.length_cons, h2], .cons a h3, h4⟩
theorem Bx.sub {st : Addr} {cs : Addr × Addr} {p q : Addr} {doms few rest : List (Str × List Int)} {H H' : Hp} (b : Bx st cs p doms H) (g : Go st cs H H') (hp : (few ++ rest).Perm doms) (h0 : 0 < few.length) (hq : Off q st cs) (h : LsAt H' q (few.map domD)) : Bx st cs q few H' := by
  have hm : ∀ d ∈ few, d ∈ doms := fun d hd => hp.mem_iff.mp (List.mem_append_left _ hd)
  have hl := hp.length_eq
  rw [List.length_append] at hl
  have hlen := b.len
  refine ⟨g.ok, hq, h, h0, by omega, fun d hd => b.dz d (hm d hd), ?_, fun d hd => b.oks d (hm d hd)⟩
  have := (hp.map (·.1)).symm.nodup b.nd
  rw [List.map_append] at this
  exact (List.nodup_append.mp this).1
/-- some of the list, in any order -/
theorem w_some {K : PySem.W.Frag} {E : XK} {st : Addr} {cs : Addr × Addr} {p : Addr} {m : Nat} {doms : List (Str × List Int)} {H : Hp} {Q : VK} (b : Bx st cs p doms H) (h0 : 0 < m) (h1 : m ≤ doms.length)
    (q : ∀ r few rest H', (few ++ rest).Perm doms → few.length = m → Go st cs H H' → H r = none → Bx st cs r few H' → Q (.ref r) H') : sp__law_some K [.ref st, .ref p, .int (m : Nat)] H Q E := by
  obtain ⟨xs, e1, e2, hl, _⟩ := b.get
  have hlen := b.len
  refine ⟨st, _, m, rfl, cs, xs, b.ok, .inl ⟨p, rfl, .inl (SqL.of e1)⟩, by omega, by omega, fun r made left H' hp hm nr g er => ?_⟩
  obtain ⟨es, p1, p2⟩ := permD hp (e2.up g.tk)
  obtain ⟨few, rest, rfl, h3, h4, h5⟩ := isall_take p2
  exact q r few rest H' p1 (by omega) g nr (b.sub g p1 (by omega) (b.ok.ne nr).1 ⟨made, er, h4⟩)
def Few (few doms : List (Str × List Int)) : Prop := ∃ rest, (few ++ rest).Perm doms
theorem Few.mem {few doms : List (Str × List Int)} (h : Few few doms) : ∀ d ∈ few, d ∈ doms := fun d hd => by
  obtain ⟨rest, hp⟩ := h
  exact hp.mem_iff.mp (List.mem_append_left _ hd)
theorem Few.names {few doms : List (Str × List Int)} (h : Few few doms) : ∀ x ∈ few.map (·.1), x ∈ doms.map (·.1) := fun x hx => by
  obtain ⟨d, hd, rfl⟩ := List.mem_map.mp hx
  exact List.mem_map.mpr ⟨d, h.mem d hd, rfl⟩
theorem Few.len {few doms : List (Str × List Int)} (h : Few few doms) : few.length ≤ doms.length := by
  obtain ⟨rest, hp⟩ := h
  have := hp.length_eq
  rw [List.length_append] at this
  omega
def sp__law_lot (_ : PySem.W.Frag) : Sp := fun vs H Q _ => ∃ (st p : Addr) (m : Nat), vs = [.ref st, .ref p, .int (m : Nat)] ∧ ∃ cs doms, Bx st cs p doms H ∧ 1 ≤ m ∧ ∀ r few H', Few few doms → few.length ≤ m → Go st cs H H' → H r = none → Bx st cs r few H' → Q (.ref r) H'
def sp__law_claim (_ : PySem.W.Frag) (m : Nat) : Sp := fun vs H Q _ => ∃ (st p : Addr) (deep : Nat), vs = [.ref st, .ref p, .int (deep : Nat)] ∧ ∃ cs doms, Bx st cs p doms H ∧ deep < m ∧ m ≤ 8 ∧
  ∀ v D f ns H', Go st cs H H' → Is H' D v → ClD m D f ns → ns.length ≤ 2 ^ m → (∀ x ∈ ns, x ∈ doms.map (·.1)) → Q v H'
def sp__law_right_claim (_ : PySem.W.Frag) : Sp := fun vs H Q _ => ∃ (st p : Addr), vs = [.ref st, .ref p] ∧ ∃ cs doms, Bx st cs p doms H ∧
  ∀ v D f ns H', Go st cs H H' → Is H' D v → ClD 8 D f ns → ns.length ≤ 40 → (∀ x ∈ ns, x ∈ doms.map (·.1)) → Q v H'
def sp__law_sum (_ : PySem.W.Frag) : Sp := fun vs H Q _ => ∃ (st p : Addr), vs = [.ref st, .ref p] ∧ ∃ cs doms, Bx st cs p doms H ∧
  ∀ v t (ts : List (Str × Int)) n H', Go st cs H H' → v = .ref t → (∃ u, H' t = some (.tup [u, .int n]) ∧ Is H' (.tuple (ts.map trD)) u) → ts.map (·.1) = doms.map (·.1) → (∀ t ∈ ts, wt t.2) → Q v H'
/-- the values and the claims behind a list of values -/
theorem claims_of {P : PyData → (Wd → Bool) → List Str → Prop} {H : Hp} : ∀ {ys : List V}, (∀ (i : Nat) v, ys[i]? = some v → ∃ D f ns, Is H D v ∧ P D f ns) →
    ∃ (ds : List PyData) (fs : List (Wd → Bool)) (nss : List (List Str)), IsAll H ds ys ∧ ds.length = ys.length ∧ fs.length = ys.length ∧ nss.length = ys.length ∧ ∀ (i : Nat) D f ns, ds[i]? = some D → fs[i]? = some f → nss[i]? = some ns → P D f ns
  | [], _ => ⟨[], [], [], .nil, rfl, rfl, rfl, fun i D f ns e => by simp at e⟩
  | y :: ys, h => by
    obtain ⟨D, f, ns, h1, h2⟩ := h 0 y rfl
    obtain ⟨ds, fs, nss, a, b, c, d, e⟩ := claims_of (ys := ys) fun i v z => h (i + 1) v (by simpa using z)
    refine ⟨D :: ds, f :: fs, ns :: nss, .cons h1 a, by simp [b], by simp [c], by simp [d], fun i D' f' ns' e1 e2 e3 => ?_⟩
    cases i with
    | zero =>
      simp at e1 e2 e3
      subst e1 e2 e3
      exact h2
    | succ i => exact e i D' f' ns' (by simpa using e1) (by simpa using e2) (by simpa using e3)
/-- the list of items behind a list of values -/
theorem build {α : Type} {D : α → PyData} {H : Hp} : ∀ {ys : List V} {P : Nat → α → Prop}, (∀ (i : Nat) v, ys[i]? = some v → ∃ a, P i a ∧ Is H (D a) v) → ∃ as : List α, as.length = ys.length ∧ IsAll H (as.map D) ys ∧ ∀ (i : Nat) a, as[i]? = some a → P i a
  | [], _, _ => ⟨[], rfl, .nil, fun i a e => by simp at e⟩
  | y :: ys, P, h => by
    obtain ⟨a, h1, h2⟩ := h 0 y rfl
    obtain ⟨as, l, t, r⟩ := build (D := D) (ys := ys) (P := fun i a => P (i + 1) a) fun i v e => h (i + 1) v (by simpa using e)
    refine ⟨a :: as, by rw [List.length_cons, List.length_cons, l], .cons h2 t, fun i b e => ?_⟩
    cases i with
    | zero => simp at e; subst e; exact h1
    | succ i => exact r i b (by simpa using e)
theorem w_pickB {K : PySem.W.Frag} {E : XK} {st : Addr} {cs : Addr × Addr} {p : Addr} {doms : List (Str × List Int)} {H : Hp} {Q : VK} (b : Bx st cs p doms H) (q : ∀ (d : Str × List Int) a c H', d ∈ doms → Go st cs H H' → H' a = some (.tup [.str d.1, .ref c]) → H' c = some (.tup (d.2.map V.int)) → Q (.ref a) H') : sp__law_pick K [.ref st, .ref p] H Q E := by
  obtain ⟨xs, e1, e2, hl, hget⟩ := b.get
  have h0 := b.pos
  have h1 := b.len
  refine ⟨st, p, rfl, cs, xs, b.ok, .inl ⟨SqL.of e1, b.off⟩, by omega, by omega, fun i v H' e g => ?_⟩
  obtain ⟨d, a, c, _, hd, rfl, h4, h5⟩ := hget i v e
  exact q d a c H' hd g (g.tk _ _ h4) (g.tk _ _ h5)
theorem w_near {K : PySem.W.Frag} {E : XK} {st : Addr} {cs : Addr × Addr} {c : Addr} {fl : List Int} {H : Hp} {Q : VK} (ok : StOk st cs H) (hc : H c = some (.tup (fl.map V.int))) (hf : 0 < fl.length ∧ fl.length ≤ 100) (q : ∀ n H', Go st cs H H' → Q (.int n) H') : sp__law_near K [.ref st, .ref c] H Q E := ⟨st, c, rfl, cs, fl, ok, hc, hf.1, by omega, q⟩
def t__law_lot (K : PySem.W.Frag) : TS := (tSeq (tAsg (tLst tNil) (gName 3))
  (tSeq (tAsg (tC (.int 1)) (gName 4))
  (tSeq (tFor (iList K (tCall (sp__law_some K) [] E0 (tCons (tVar 0) (tCons (tVar 1) (tCons (tCB (rLen1 K) (tCons (tVar 1) tNil)) tNil))))) (gName 5)
  (tIfS (tAnd (tTest (tOp rLtI (tCB (rLen1 K) (tCons (tVar 3) tNil)) (tVar 2))) (tTest (tOp rLeI (tOp rMulI (tVar 4) (tCB (rLen1 K) (tCons (tOp (rIxT K) (tVar 5) (tC (.int 1))) tNil))) (tC (.int 256))))) (tSeq (tDrop (tBM K "list" rAppend (tVar 3) (tCons (tVar 5) tNil)))
  (tAsg (tOp rMulI (tVar 4) (tCB (rLen1 K) (tCons (tOp (rIxT K) (tVar 5) (tC (.int 1))) tNil))) (gName 4))) tNext))
  (tRet (tVar 3)))))
def t__law_claim (K : PySem.W.Frag) (m : Nat) : TS := (tSeq (tAsg (tIf (tTest (tOp rGtI (tVar 2) (tC (.int 0)))) (tCall (sp__law_draw K) [] E0 (tCons (tVar 0) (tCons (tC (.int 7)) tNil))) (tC (.int 0))) (gName 3))
  (tSeq (tIfS (tTest (tOp rLtI (tVar 3) (tC (.int 3)))) (tSeq (tAsg (tCall (sp__law_pick K) [] E0 (tCons (tVar 0) (tCons (tVar 1) tNil))) (gTup K 2 (gCons (gName 4) (gCons (gName 5) gNil))))
  (tRet (tTup (tCons (tCall (sp__law_pick K) [] E0 (tCons (tVar 0) (tCons (tLst (tCons (tC (.str "from")) (tCons (tC (.str "is")) tNil))) tNil))) (tCons (tVar 4) (tCons (tCall (sp__law_near K) [] E0 (tCons (tVar 0) (tCons (tVar 5) tNil))) tNil)))))) tNext)
  (tSeq (tIfS (tTest (tOp rEq (tVar 3) (tC (.int 3)))) (tRet (tTup (tCons (tC (.str "not")) (tCons (tCall (sp__law_claim K m) [] E0 (tCons (tVar 0) (tCons (tVar 1) (tCons (tOp rSubI (tVar 2) (tC (.int 1))) tNil)))) tNil)))) tNext)
  (tRet (tTup (tCons (tCall (sp__law_pick K) [] E0 (tCons (tVar 0) (tCons (tLst (tCons (tC (.str "and")) (tCons (tC (.str "or")) tNil))) tNil))) (tCons (tThen (tLc (iRng1 (tCons (tCall (sp__law_draw K) [] E0 (tCons (tVar 0) (tCons (tC (.int 3)) tNil))) tNil)) (gName 6) tYes (tCall (sp__law_claim K m) [] E0 (tCons (tVar 0) (tCons (tVar 1) (tCons (tOp rSubI (tVar 2) (tC (.int 1))) tNil)))) [6]) (kTup K)) tNil)))))))
def t__law_right_claim (K : PySem.W.Frag) : TS := (tSeq (tAsg (tCall (sp__law_claim K 4) [] E0 (tCons (tVar 0) (tCons (tVar 1) (tCons (tCall (sp__law_draw K) [] E0 (tCons (tVar 0) (tCons (tC (.int 4)) tNil))) tNil)))) (gName 2))
  (tSeq (tIfS (tTest (tOp rEq (tCB (rLen1 K) (tCons (tCall (sp__law_claim_names K 8) [] E0 (tCons (tVar 2) tNil)) tNil)) (tC (.int 0)))) (tSeq (tAsg (tCall (sp__law_pick K) [] E0 (tCons (tVar 0) (tCons (tVar 1) tNil))) (gTup K 2 (gCons (gName 3) (gCons (gName 4) gNil))))
  (tRet (tTup (tCons (tCall (sp__law_pick K) [] E0 (tCons (tVar 0) (tCons (tLst (tCons (tC (.str "and")) (tCons (tC (.str "or")) tNil))) tNil))) (tCons (tTup (tCons (tVar 2) (tCons (tTup (tCons (tC (.str "is")) (tCons (tVar 3) (tCons (tCall (sp__law_near K) [] E0 (tCons (tVar 0) (tCons (tVar 4) tNil))) tNil)))) tNil))) tNil))))) tNext)
  (tRet (tVar 2))))
def t__law_sum (K : PySem.W.Frag) : TS := (tSeq (tAsg (tThen (tLc (iList K (tVar 1)) (gName 3) tYes (tTup (tCons (tOp (rIxT K) (tVar 3) (tC (.int 0))) (tCons (tCall (sp__law_weight K) [] E0 (tCons (tVar 0) tNil)) tNil))) [3]) (kTup K)) (gName 2))
  (tSeq (tAsg (tC (.int 0)) (gName 4))
  (tSeq (tFor (iRng1 (tCons (tCB (rLen1 K) (tCons (tVar 1) tNil)) tNil)) (gName 5)
  (tAsg (tOp rAddI (tVar 4) (tOp rMulI (tOp (rIxT K) (tOp (rIxT K) (tVar 2) (tVar 5)) (tC (.int 1))) (tCall (sp__law_pick K) [] E0 (tCons (tVar 0) (tCons (tOp (rIxT K) (tOp (rIxL K) (tVar 1) (tVar 5)) (tC (.int 1))) tNil))))) (gName 4)))
  (tRet (tTup (tCons (tVar 2) (tCons (tOp rAddI (tVar 4) (tCall (sp__law_pick K) [] E0 (tCons (tVar 0) (tCons (tLst (tCons (tC (.int 0)) (tCons (tC (.int 0)) (tCons (tC (.int 1)) (tCons (tUn rNeg (tC (.int 1))) (tCons (tOp rSubI (tCall (sp__law_draw K) [] E0 (tCons (tVar 0) (tCons (tC (.int 9)) tNil))) (tC (.int 4))) tNil)))))) tNil)))) tNil)))))))
theorem len__law_lot {K : PySem.W.Frag} : ∀ (vs : List V) (H : Hp) (Q : VK) (E : XK), sp__law_lot K vs H Q E → vs.length = 3 := fun vs H Q E h => by
  obtain ⟨_, _, _, rfl, _⟩ := h
  rfl
theorem pure__law_lot {K : PySem.W.Frag} (vs : List V) (H : Hp) (Q : VK) (E : XK) (h : sp__law_lot K vs H Q E) : t__law_lot K { nx := fun _ H' => Q .non H', rt := Q } (start ["bag", "xs", "most", "made", "size", "x"] vs) H := by
  obtain ⟨st, p, m, rfl, cs, doms, b, hm, q⟩ := h
  show t__law_lot K _ [some (.ref st), some (.ref p), some (.int (m : Nat)), none, none, none] H
  have ok := b.ok
  unfold t__law_lot
  walk_at "aw"
  refine w_lstD (by simp) fun md H1 nm a1 em => ?_
  have g1 := Go.of ok a1
  have b1 := b.go g1
  have nmo := (ok.ne nm).1
  walk_at "aw"
  obtain ⟨xs, e1, e2, hxl, _⟩ := b1.get
  refine w_lenL (SqL.of e1) ?_
  walk_at "aw"
  rw [hxl]
  refine w_some b1 b.pos (Nat.le_refl _) fun r all rest H2 hp hl g2 nr b2 => ?_
  have g12 := g1.trans g2
  have em2 := g2.keep nmo em
  obtain ⟨ys, e3, e4, hyl, hget⟩ := b2.get
  refine kForL_i (fun i σ H' => ∃ (y5 : Option V) (few left : List (Str × List Int)) (zs : List V) (size : Nat), σ = [some (.ref st), some (.ref p), some (.int (m : Nat)), some (.ref md), some (.int (size : Nat)), y5] ∧ Go st cs H H' ∧ H' r = some (.lst ys) ∧ IsAll H' (all.map domD) ys ∧ H' md = some (.lst zs) ∧ IsAll H' (few.map domD) zs ∧
      (few ++ left).Perm (all.take i) ∧ few.length ≤ m ∧ few.length ≤ i ∧ (0 < i → 0 < few.length) ∧ (i = 0 → size = 1)) (SqL.of e3)
    ⟨none, [], [], [], 1, rfl, g12, e3, e4, em2, .nil, .refl _, Nat.zero_le _, Nat.zero_le _, fun h => absurd h (by decide), fun _ => rfl⟩ (fun i σ H' _ z => by obtain ⟨_, _, _, _, _, _, _, z, _⟩ := z; exact SqL.of z) (fun i x σ H' e z => ?_) fun σ H' z => ?_
  · obtain ⟨y5, few, left, zs, size, rfl, g, er, eall, emd, ez, hperm, hfm, hfi, hpos, hs1⟩ := z
    have hi : i < ys.length := (List.getElem?_eq_some_iff.mp e).1
    obtain ⟨dd, z1, h3⟩ := eall.get e
    rw [List.getElem?_map] at z1
    obtain ⟨d, z2, rfl⟩ := Option.map_eq_some_iff.mp z1
    obtain ⟨a, c, rfl, h4, h5⟩ := is_dom h3
    have hdz := b2.dz d (List.mem_of_getElem? z2)
    have hzl : zs.length = few.length := by rw [ez.length, List.length_map]
    have hal : all.length ≤ 40 := b2.len
    have htake : all.take (i + 1) = all.take i ++ [d] := by rw [List.take_add_one, z2]; rfl
    walk_at "aw"
    refine w_lenL (SqL.of emd) ?_
    walk_at "aw"
    have no : few.length ≠ 0 → ∃ (y5 : Option V) (few left : List (Str × List Int)) (zs : List V) (size' : Nat), [some (V.ref st), some (.ref p), some (.int (m : Nat)), some (.ref md), some (.int (size : Nat)), some (.ref a)] = [some (.ref st), some (.ref p), some (.int (m : Nat)), some (.ref md), some (.int (size' : Nat)), y5] ∧ Go st cs H H' ∧ H' r = some (.lst ys) ∧ IsAll H' (all.map domD) ys ∧ H' md = some (.lst zs) ∧ IsAll H' (few.map domD) zs ∧
      (few ++ left).Perm (all.take (i + 1)) ∧ few.length ≤ m ∧ few.length ≤ i + 1 ∧ (0 < i + 1 → 0 < few.length) ∧ (i + 1 = 0 → size' = 1) := fun hne => by
      refine ⟨_, few, left ++ [d], zs, size, rfl, g, er, eall, emd, ez, ?_, hfm, by omega, fun _ => by omega, fun h => by omega⟩
      rw [← List.append_assoc, htake]
      exact hperm.append_right [d]
    refine w_iteB (fun h1 => ?_) fun h1 => ?_
    · walk_at "aw"
      refine w_ixT (SqT.of h4) (at_of (j := 1) rfl rfl) ?_
      walk_at "aw"
      refine w_lenT (SqT.of h5) ?_
      rw [List.length_map]
      refine w_I (.inr ⟨by omega, by omega⟩) ?_
      walk_at "aw"
      refine w_iteB (fun h2 => ?_) fun h2 => ?_
      · walk_at "aw"
        refine w_app rfl emd ?_
        walk_at "aw"
        refine w_append emd (by omega) ?_
        walk_at "aw"
        have a6 : TK H' (upd H' md (.lst (zs ++ [V.ref a]))) := (Adv.lst emd).tup
        refine w_ixT (SqT.of (a6 _ _ h4)) (at_of (j := 1) rfl rfl) ?_
        walk_at "aw"
        refine w_lenT (SqT.of (a6 _ _ h5)) ?_
        rw [List.length_map]
        refine w_I (.inr ⟨by omega, by omega⟩) ?_
        walk_at "aw"
        have hrm : r ≠ md := (ne_of_none em nr).symm
        refine ⟨_, few ++ [d], left, _, size * d.2.length, by rw [Int.natCast_mul]; rfl, g.mutL ok nm emd, by rw [upd_ne hrm]; exact er, eall.up a6, upd_same, ?_, ?_, by rw [List.length_append, List.length_singleton]; omega, by rw [List.length_append, List.length_singleton]; omega, fun _ => by rw [List.length_append, List.length_singleton]; omega, fun h => by omega⟩
        · rw [List.map_append]
          exact (ez.up a6).append (.cons (h3.up a6) .nil)
        · rw [htake, List.append_assoc]
          refine List.Perm.trans ?_ (hperm.append_right [d])
          rw [List.append_assoc]
          exact List.Perm.append_left few List.perm_append_comm
      · walk_at "aw"
        refine no fun h => ?_
        have hi0 : i = 0 := by
          rcases Nat.eq_zero_or_pos i with z | z
          · exact z
          · have := hpos z; omega
        have := hs1 hi0
        subst this
        omega
    · walk_at "aw"
      refine no fun h => ?_
      rw [hzl, h] at h1
      omega
  · obtain ⟨y5, few, left, zs, size, rfl, g, er, eall, emd, ez, hperm, hfm, hfi, hpos, hs1⟩ := z
    rw [hyl, List.take_length] at hperm
    have h0 := b2.pos
    walk_at "aw"
    have hperm2 : (few ++ (left ++ rest)).Perm doms := by
      rw [← List.append_assoc]
      exact (hperm.append_right rest).trans hp
    exact q md few H' ⟨_, hperm2⟩ hfm g nm (b.sub g hperm2 (hpos (by omega)) nmo ⟨zs, emd, ez⟩)
theorem len__law_claim {K : PySem.W.Frag} {m : Nat} : ∀ (vs : List V) (H : Hp) (Q : VK) (E : XK), sp__law_claim K m vs H Q E → vs.length = 3 := fun vs H Q E h => by
  obtain ⟨_, _, _, rfl, _⟩ := h
  rfl
theorem no__law_claim {K : PySem.W.Frag} {vs : List V} {H : Hp} {Q : VK} {E : XK} (h : sp__law_claim K 0 vs H Q E) : False := by
  obtain ⟨_, _, _, _, _, _, _, h, _⟩ := h
  omega
theorem len_flat {nss : List (List Str)} {k : Nat} (h : ∀ ns ∈ nss, ns.length ≤ k) : nss.flatten.length ≤ nss.length * k := by
  induction nss with
  | nil => simp
  | cons n nss ih =>
    have h1 := h n (List.mem_cons_self ..)
    have h2 := ih fun x hx => h x (List.mem_cons_of_mem _ hx)
    rw [List.flatten_cons, List.length_append, List.length_cons, Nat.succ_mul]
    omega
theorem pow_pos2 (m : Nat) : 1 ≤ 2 ^ m := Nat.one_le_two_pow
theorem pure__law_claim {K : PySem.W.Frag} {m : Nat} (vs : List V) (H : Hp) (Q : VK) (E : XK) (h : sp__law_claim K (m + 1) vs H Q E) : t__law_claim K m { nx := fun _ H' => Q .non H', rt := Q } (start ["bag", "xs", "deep", "way", "x", "domain", "k"] vs) H := by
  obtain ⟨st, p, deep, rfl, cs, doms, b, hd, hm, q⟩ := h
  show t__law_claim K m _ [some (.ref st), some (.ref p), some (.int (deep : Nat)), none, none, none, none] H
  have ok := b.ok
  unfold t__law_claim
  walk_at "aw1"
  walk_at "aw1"
  refine w_ifEJ (fun v H1 => ∃ way : Int, v = .int way ∧ 0 ≤ way ∧ way < 7 ∧ (deep = 0 → way = 0) ∧ Go st cs H H1) (fun Q' hQ => ?_) fun v H1 hR => ?_
  · walk_at "aw"
    refine w_iteB (fun h => ?_) fun h => ?_
    · walk_at "aw"
      exact w_draw ok (by decide) (by decide) fun n H1 n0 n1 g1 => hQ _ _ ⟨n, rfl, n0, n1, fun z => by omega, g1⟩
    · walk_at "aw"
      exact hQ _ _ ⟨0, rfl, by decide, by decide, fun _ => rfl, .refl ok⟩
  obtain ⟨way, rfl, w0, w1, w2, g1⟩ := hR
  have b1 := b.go g1
  walk_at "aw"
  refine w_iteB (fun h3 => ?_) fun h3 => ?_
  · walk_at "aw"
    refine w_pickB b1 fun d a c H2 hdm g2 ha hc => ?_
    walk_at "aw"
    refine w_gtup (SqT.of ha) rfl ?_
    walk_at "aw"
    refine w_pickS (ns := ["from", "is"]) g2.ok (by decide) (by decide) fun wd hwd H3 g3 => ?_
    walk_at "aw"
    refine w_near g3.ok (g3.tk _ _ hc) (b.dz d hdm) fun n H4 g4 => ?_
    walk_at "aw"
    refine w_tupD (by show 3 ≤ 100000; decide) fun t H5 nt a5 et => ?_
    have hb : ∃ b, wd = atW b := by
      simp only [List.mem_cons, List.not_mem_nil, or_false] at hwd
      rcases hwd with rfl | rfl
      · exact ⟨true, rfl⟩
      · exact ⟨false, rfl⟩
    obtain ⟨bb, rfl⟩ := hb
    refine q (.ref t) _ _ [d.1] _ ((((g1.trans g2).trans g3).trans g4).new a5) (.tup et (.cons (.str _) (.cons (.str _) (.cons (.int _) .nil)))) (.one bb) ?_ fun x hx => ?_
    · exact pow_pos2 _
    · rw [List.mem_singleton.mp hx]
      exact List.mem_map.mpr ⟨d, hdm, rfl⟩
  · have hdeep : deep ≠ 0 := fun z => by have := w2 z; omega
    obtain ⟨dp, rfl⟩ : ∃ dp, deep = dp + 1 := ⟨deep - 1, by omega⟩
    have edp : (((dp + 1 : Nat) : Int) - 1) = ((dp : Nat) : Int) := by omega
    walk_at "aw"
    refine w_iteB (fun h4 => ?_) fun h4 => ?_
    · walk_at "aw"
      rw [edp]
      refine ⟨st, p, dp, rfl, cs, doms, b1, by omega, by omega, fun v D f ns H2 g2 hv hc hl hs => ?_⟩
      walk_at "aw"
      refine w_tupD (by show 2 ≤ 100000; decide) fun t H5 nt a5 et => ?_
      refine q (.ref t) _ _ ns _ ((g1.trans g2).new a5) (.tup et (.cons (.str _) (.cons (hv.up a5.tup) .nil))) (.neg hc) ?_ hs
      rw [Nat.pow_succ]
      omega
    · walk_at "aw"
      refine w_pickS (ns := ["and", "or"]) g1.ok (by decide) (by decide) fun wd hwd H2 g2 => ?_
      have hb : ∃ b, wd = manyW b := by
        simp only [List.mem_cons, List.not_mem_nil, or_false] at hwd
        rcases hwd with rfl | rfl
        · exact ⟨true, rfl⟩
        · exact ⟨false, rfl⟩
      obtain ⟨bb, rfl⟩ := hb
      walk_at "aw"
      refine w_draw g2.ok (by decide) (by decide) fun n H3 n0 n1 g3 => ?_
      obtain ⟨k, rfl⟩ : ∃ k : Nat, n = (k : Int) := ⟨n.toNat, by omega⟩
      have b3 := (b1.go g2).go g3
      walk_at "aw"
      refine kLcR_all (n := k) (by omega) b3.ok (fun _ v H => ∃ D f ns, Is H D v ∧ ClD m D f ns ∧ ns.length ≤ 2 ^ m ∧ ∀ x ∈ ns, x ∈ doms.map (·.1)) (fun _ v H H' tk h => by obtain ⟨D, f, ns, h1, h2⟩ := h; exact ⟨D, f, ns, h1.up tk, h2⟩) (fun i H4 Kt hk g4 kt => ?_) fun l H4 ys nl g4 el hyl hyr => ?_
      · walk_at "aw"
        refine ⟨rfl, ?_⟩
        walk_at "aw"
        rw [edp]
        exact ⟨st, p, dp, rfl, cs, doms, b3.go g4, by omega, by omega, fun v D f ns H2 g2 hv hc hl hs => kt _ _ g2 ⟨D, f, ns, hv, hc, hl, hs⟩⟩
      obtain ⟨ds, fs, nss, i1, i2, i3, i4, i5⟩ := claims_of hyr
      walk_at "aw"
      refine w_tupL (SqL.of el) fun u H5 nu a5 eu => ?_
      walk_at "aw"
      refine w_tupD (by show 2 ≤ 100000; decide) fun t H6 nt a6 et => ?_
      have hns : ∀ ns ∈ nss, ns.length ≤ 2 ^ m ∧ ∀ x ∈ ns, x ∈ doms.map (·.1) := fun ns h => by
        obtain ⟨i, hi, rfl⟩ := List.mem_iff_getElem.mp h
        obtain ⟨_, h1⟩ := i5 i (ds[i]'(by omega)) (fs[i]'(by omega)) nss[i] (List.getElem?_eq_getElem (by omega)) (List.getElem?_eq_getElem (by omega)) (List.getElem?_eq_getElem hi)
        exact h1
      refine q (.ref t) _ _ nss.flatten _ (((((g1.trans g2).trans g3).trans g4).new a5).new a6) (.tup et (.cons (.str _) (.cons (.tup (a6.tup _ _ eu) ((i1.up a5.tup).up a6.tup)) .nil))) (.many bb ds fs nss (by omega) (by omega) (by omega) fun i D f ns e1 e2 e3 => (i5 i D f ns e1 e2 e3).1) ?_ fun x hx => ?_
      · have h6 := len_flat fun ns h => (hns ns h).1
        have h7 : nss.length * 2 ^ m ≤ 2 * 2 ^ m := Nat.mul_le_mul_right _ (by omega)
        rw [Nat.pow_succ]
        omega
      · obtain ⟨ns, h1, h2⟩ := List.mem_flatten.mp hx
        exact (hns ns h1).2 x h2
theorem len__law_right_claim {K : PySem.W.Frag} : ∀ (vs : List V) (H : Hp) (Q : VK) (E : XK), sp__law_right_claim K vs H Q E → vs.length = 2 := fun vs H Q E h => by
  obtain ⟨_, _, rfl, _⟩ := h
  rfl
theorem pure__law_right_claim {K : PySem.W.Frag} (vs : List V) (H : Hp) (Q : VK) (E : XK) (h : sp__law_right_claim K vs H Q E) : t__law_right_claim K { nx := fun _ H' => Q .non H', rt := Q } (start ["bag", "xs", "claim", "x", "domain"] vs) H := by
  obtain ⟨st, p, rfl, cs, doms, b, q⟩ := h
  show t__law_right_claim K _ [some (.ref st), some (.ref p), none, none, none] H
  have ok := b.ok
  unfold t__law_right_claim
  walk_at "aw"
  refine w_draw ok (by decide) (by decide) fun n H1 n0 n1 g1 => ?_
  obtain ⟨deep, rfl⟩ : ∃ k : Nat, n = (k : Int) := ⟨n.toNat, by omega⟩
  walk_at "aw"
  refine ⟨st, p, deep, rfl, cs, doms, b.go g1, by omega, by decide, fun v D f ns H2 g2 hv hc hl hs => ?_⟩
  have hl : ns.length ≤ 16 := hl
  have g12 := g1.trans g2
  walk_at "aw"
  refine ⟨v, rfl, D, f, ns, hv, hc.le (by decide), by omega, fun r H3 nr a3 er => ?_⟩
  walk_at "aw"
  refine w_lenL (SqL.of er) ?_
  walk_at "aw"
  have g3 := g12.new a3
  refine w_iteB (fun _ => ?_) fun _ => ?_
  · walk_at "aw"
    refine w_pickB (b.go g3) fun d a c H4 hdm g4 ha hc2 => ?_
    walk_at "aw"
    refine w_gtup (SqT.of ha) rfl ?_
    walk_at "aw"
    refine w_pickS (ns := ["and", "or"]) g4.ok (by decide) (by decide) fun wd hwd H5 g5 => ?_
    have hb : ∃ b, wd = manyW b := by
      simp only [List.mem_cons, List.not_mem_nil, or_false] at hwd
      rcases hwd with rfl | rfl
      · exact ⟨true, rfl⟩
      · exact ⟨false, rfl⟩
    obtain ⟨bb, rfl⟩ := hb
    walk_at "aw"
    refine w_near g5.ok (g5.tk _ _ hc2) (b.dz d hdm) fun n H6 g6 => ?_
    walk_at "aw"
    refine w_tupD (by show 3 ≤ 100000; decide) fun t1 H7 n7 a7 e7 => ?_
    walk_at "aw"
    refine w_tupD (by show 2 ≤ 100000; decide) fun t2 H8 n8 a8 e8 => ?_
    walk_at "aw"
    refine w_tupD (by show 2 ≤ 100000; decide) fun t3 H9 n9 a9 e9 => ?_
    have g69 := (((((g3.trans g4).trans g5).trans g6).new a7).new a8).new a9
    have hv9 : Is H9 D v := hv.up (((a3.any.trans ((g4.trans g5).trans g6).adv).trans (a7.trans (a8.trans a9)).any).tup)
    obtain ⟨gf, hgf⟩ : ∃ gf, ClD 7 (.tuple [.str (atW false), .str d.1, .int n]) gf [d.1] := ⟨_, .one false⟩
    refine q (.ref t3) _ _ [ns, [d.1]].flatten _ g69 (.tup e9 (.cons (.str _) (.cons (.tup (a9.tup _ _ e8) (.cons hv9 (.cons (.tup ((a8.trans a9).tup _ _ e7) (.cons (.str "is") (.cons (.str _) (.cons (.int _) .nil)))) .nil))) .nil)))
      (.many bb [D, .tuple [.str (atW false), .str d.1, .int n]] [f, gf] [ns, [d.1]] rfl rfl (by show 2 ≤ 100; decide) fun i D' f' ns' e1 e2 e3 => ?_) ?_ fun x hx => ?_
    · match i, e1, e2, e3 with
      | 0, e1, e2, e3 =>
        cases e1
        cases e2
        cases e3
        exact hc.le (by decide)
      | 1, e1, e2, e3 =>
        cases e1
        cases e2
        cases e3
        exact hgf
      | i + 2, e1, _, _ => simp at e1
    · simp
      omega
    · rw [List.flatten_cons, List.flatten_cons, List.flatten_nil, List.append_nil] at hx
      rcases List.mem_append.mp hx with hx | hx
      · exact hs x hx
      · rw [List.mem_singleton.mp hx]
        exact List.mem_map.mpr ⟨d, hdm, rfl⟩
  · walk_at "aw"
    exact q v D f ns H3 g3 (hv.up a3.tup) (hc.le (by decide)) (by omega) hs
theorem len__law_sum {K : PySem.W.Frag} : ∀ (vs : List V) (H : Hp) (Q : VK) (E : XK), sp__law_sum K vs H Q E → vs.length = 2 := fun vs H Q E h => by
  obtain ⟨_, _, rfl, _⟩ := h
  rfl
theorem pure__law_sum {K : PySem.W.Frag} (vs : List V) (H : Hp) (Q : VK) (E : XK) (h : sp__law_sum K vs H Q E) : t__law_sum K { nx := fun _ H' => Q .non H', rt := Q } (start ["bag", "xs", "terms", "x", "total", "k"] vs) H := by
  obtain ⟨st, p, rfl, cs, doms, b, q⟩ := h
  show t__law_sum K _ [some (.ref st), some (.ref p), none, none, none, none] H
  have ok := b.ok
  have hlen := b.len
  obtain ⟨xs, e1, e2, hl, hget⟩ := b.get
  unfold t__law_sum
  walk_at "aw"
  refine kLcL_all (xs := xs) (SqL.of e1) b.off (by omega) ok (fun i v H => ∃ t : Str × Int, (doms.map (·.1))[i]? = some t.1 ∧ wt t.2 ∧ Is H (trD t) v) (fun i v H H' tk h => by obtain ⟨t, h1, h2, h3⟩ := h; exact ⟨t, h1, h2, h3.up tk⟩) (fun i x H1 Kt e g kt => ?_) fun l H1 ys nl g1 el hyl hyr => ?_
  · obtain ⟨d, a, c, z, hdm, rfl, h4, h5⟩ := hget i x e
    walk_at "aw"
    refine ⟨rfl, ?_⟩
    walk_at "aw"
    refine w_ixT (SqT.of (g.tk _ _ h4)) (at_of (j := 0) rfl rfl) ?_
    walk_at "aw"
    refine ⟨st, rfl, cs, g.ok, fun n H2 g2 n0 n1 => ?_⟩
    walk_at "aw"
    refine w_tupD (by show 2 ≤ 100000; decide) fun t H3 nt a3 et => ?_
    exact kt _ _ (g2.new a3) ⟨(d.1, n), by rw [List.getElem?_map, z]; rfl, ⟨by omega, by omega⟩, .tup et (.cons (.str _) (.cons (.int _) .nil))⟩
  obtain ⟨ts, t1, t2, t3⟩ := build (D := trD) (P := fun i t => (doms.map (·.1))[i]? = some t.1 ∧ wt t.2) fun i v e => by
    obtain ⟨t, h1, h2, h3⟩ := hyr i v e
    exact ⟨t, ⟨h1, h2⟩, h3⟩
  have hts : ts.map (·.1) = doms.map (·.1) := by
    refine List.ext_getElem? fun i => ?_
    by_cases hi : i < ts.length
    · obtain ⟨t, ht⟩ := get_some hi
      rw [(t3 i t ht).1, List.getElem?_map, ht]
      rfl
    · rw [List.getElem?_eq_none (by rw [List.length_map]; omega), List.getElem?_eq_none (by rw [List.length_map]; omega)]
  have hwt : ∀ t ∈ ts, wt t.2 := fun t ht => by
    obtain ⟨i, hi, rfl⟩ := List.mem_iff_getElem.mp ht
    exact (t3 i _ (List.getElem?_eq_getElem hi)).2
  walk_at "aw"
  refine w_tupL (SqL.of el) fun u H2 nu a2 eu => ?_
  have g2 := g1.new a2
  have t2' := t2.up a2.tup
  walk_at "aw"
  refine w_lenL (SqL.of (g2.keep b.off e1)) ?_
  refine kForR_i (n := xs.length) (by omega) (fun i σ H' => ∃ (y3 y5 : Option V) (n : Int), σ = [some (.ref st), some (.ref p), some (.ref u), y3, some (.int n), y5] ∧ Go st cs H H' ∧ Go st cs H2 H') ⟨_, _, 0, rfl, g2, .refl g2.ok⟩ (fun i σ H' hi p => ?_) fun σ H' p => ?_
  · obtain ⟨y3, y5, n, rfl, g, gg⟩ := p
    obtain ⟨x, hx⟩ := get_some (xs := xs) (i := i) hi
    obtain ⟨d, a, c, z, hdm, rfl, h4, h5⟩ := hget i x hx
    obtain ⟨v, hv⟩ := get_some (xs := ys) (i := i) (by omega)
    obtain ⟨t, ht1, ht2, ht3⟩ := hyr i v hv
    obtain ⟨pa, rfl, ep⟩ := is_pair (ht3.up (a2.tup))
    have hdz := b.dz d hdm
    walk_at "aw"
    refine w_ixT (SqT.of (gg.tk _ _ eu)) (at_of (j := i) rfl hv) ?_
    walk_at "aw"
    refine w_ixT (SqT.of (gg.tk _ _ ep)) (at_of (j := 1) rfl rfl) ?_
    walk_at "aw"
    refine w_ixL (SqL.of (g.keep b.off e1)) (at_of (j := i) rfl hx) ?_
    walk_at "aw"
    refine w_ixT (SqT.of (g.tk _ _ h4)) (at_of (j := 1) rfl rfl) ?_
    walk_at "aw"
    refine ⟨st, c, rfl, cs, _, g.ok, .inr (g.tk _ _ h5), by rw [List.length_map]; exact hdz.1, by rw [List.length_map]; omega, fun j w H4 ew g4 => ?_⟩
    rw [List.getElem?_map] at ew
    obtain ⟨nn, _, rfl⟩ := Option.map_eq_some_iff.mp ew
    refine w_I (.inl ht2) ?_
    walk_at "aw"
    exact ⟨_, _, _, rfl, g.trans g4, gg.trans g4⟩
  · obtain ⟨y3, y5, n, rfl, g, gg⟩ := p
    walk_at "aw"
    refine w_draw g.ok (by decide) (by decide) fun k H4 _ _ g4 => ?_
    walk_at "aw"
    refine w_pickL (ns := [0, 0, 1, -1, k - 4]) g4.ok (by show 0 < 5; decide) (by show 5 < 100000; decide) fun z _ H5 g5 => ?_
    walk_at "aw"
    refine w_tupD (by show 2 ≤ 100000; decide) fun t H6 nt a6 et => ?_
    have gg6 := ((gg.trans g4).trans g5).new a6
    exact q _ t ts _ H6 (((g.trans g4).trans g5).new a6) rfl ⟨.ref u, et, .tup (gg6.tk _ _ eu) (t2'.up gg6.tk)⟩ hts hwt
end AW
namespace AW
open PySem PySem.Spec PyProof.Rows L2 RZ
open StX
local macro_rules | `(tactic| walk_at "aw1") => `(tactic| first
  | (with_reducible refine w_seq ?_) | (with_reducible refine w_asg ?_) | (with_reducible refine w_gname ?_) | (with_reducible refine w_op ?_) | (with_reducible refine w_un ?_)
  | ((with_reducible refine' w_var ?h ?_); (case h => rfl)) | (with_reducible refine w_c ?_)
  | (with_reducible refine w_I0 ?_) | (with_reducible refine w_U ?_) | (with_reducible refine w_cb ?_) | (with_reducible refine w_nil ?_) | (with_reducible refine w_cons ?_) | (with_reducible refine w_call ?_)
  | (with_reducible refine w_test ?_) | (with_reducible refine w_B ?_) | (with_reducible refine w_bl ?_) | (with_reducible refine w_not ?_) | (with_reducible refine w_yes ?_) | (with_reducible refine iteT ?_) | (with_reducible refine iteF ?_) | (with_reducible refine w_and ?_) | (with_reducible refine w_or ?_)
  | (with_reducible refine w_andV ?_) | (with_reducible refine w_orV ?_) | (with_reducible refine w_notV ?_) | (with_reducible refine w_if ?_)
  | (with_reducible refine w_int1 ?_) | (with_reducible refine w_int1b ?_) | (with_reducible refine w_abs ?_) | (with_reducible refine w_max2 ?_) | (with_reducible refine w_min2 ?_)
  | ((with_reducible refine w_eq ?h ?_); (case h => rfl)) | ((with_reducible refine w_ne ?h ?_); (case h => rfl)) | (with_reducible refine w_isN ?_) | (with_reducible refine w_isB ?_) | (with_reducible refine w_chain ?_)
  | (with_reducible refine w_ret ?_) | (with_reducible refine w_drop ?_) | (with_reducible refine w_ifS ?_) | (with_reducible refine w_gsub ?_) | (with_reducible refine w_augS ?_) | (with_reducible refine w_ipI ?_) | (with_reducible refine w_next ?_)
  | (with_reducible refine w_forR ?_) | (with_reducible refine w_forR2 ?_) | (with_reducible refine w_forL ?_) | (with_reducible refine w_forT ?_) | (with_reducible refine w_lcR ?_) | (with_reducible refine w_lcL ?_) | (with_reducible refine w_lcT ?_) | (with_reducible refine w_sl ?_) | (with_reducible refine w_part ?_) | (with_reducible refine w_noPart ?_) | (with_reducible refine w_in ?_)
  | (with_reducible refine w_gcons ?_) | (with_reducible refine w_gnil ?_) | (with_reducible refine w_lc3 ?_) | (with_reducible refine w_dcZ ?_) | (with_reducible refine w_dcT ?_) | (with_reducible refine w_dg ?_) | (with_reducible refine w_callK ?_) | (with_reducible refine w_dput ?_) | (with_reducible refine w_tup1 ?_)
  | (with_reducible refine w_tup ?_) | (with_reducible refine w_lst ?_)
  | ((with_reducible refine w_I ?h ?_); (case h => first | (exact Or.inr ⟨by decide, by decide⟩) | (exact Or.inl ⟨by decide, by decide⟩) | (show (0 : Int) < _; decide) | (exact ⟨by decide, by decide, by decide⟩) | assumption)))
local macro_rules | `(tactic| walk_at "aw") => `(tactic| repeat (walk_at "aw1"))
theorem w_dnewT {σ : L2.St} {H : Hp} {Q : VK} (q : ∀ r H', H r = none → Adv [] H H' → H' r = some (.dT []) → Q (.ref r) H') : tDNewT σ H Q := w_new q
theorem kDPutT_i {d b : Addr} {kvs : List (List L2.Key × V)} {k : List L2.Key} {v : V} {H : Hp} {N : Hp → Prop} (h : H d = some (.dT kvs)) (hb : H b = some (.tup (k.map kV))) (hl : kvs.length < 100000) (q : N (upd H d (.dT (putK kvs k v)))) : kDPut (.ref d) (.ref b) v H N :=
  ⟨d, _, rfl, DPut.t h hb (Nat.lt_of_lt_of_le hl (by decide)), q⟩
theorem kDGet_t {d b : Addr} {kvs : List (List L2.Key × V)} {k : List L2.Key} {v : V} {H : Hp} {Q : VK} (h : H d = some (.dT kvs)) (hb : H b = some (.tup (k.map kV))) (e : valV kvs k = some v) (q : Q v H) : kDGet (.ref d) (.ref b) H Q := ⟨d, v, rfl, e ▸ DGet.t h hb, q⟩
/-- the keys of a dict of rows -/
def Rows (kvs : List (List L2.Key × V)) : Prop := ∀ p ∈ kvs, ∃ ns : List Int, ns ≠ [] ∧ p.1 = ns.map Sum.inl
theorem Rows.put {kvs : List (List L2.Key × V)} (h : Rows kvs) {ns : List Int} (hn : ns ≠ []) {v : V} : Rows (putK kvs (ns.map Sum.inl) v) := by
  unfold putK
  split
  · intro p hp
    obtain ⟨p0, h1, rfl⟩ := List.mem_map.mp hp
    obtain ⟨ms, h2, h3⟩ := h p0 h1
    refine ⟨ms, h2, ?_⟩
    split <;> exact h3
  · intro p hp
    rcases List.mem_append.mp hp with h1 | h1
    · exact h p h1
    · rw [List.mem_singleton.mp h1]
      exact ⟨ns, hn, rfl⟩
theorem rows_isall {H : Hp} : ∀ {ps : List (Addr × List Int)}, (∀ p ∈ ps, RowIs H p) → IsAll H ((ps.map (·.2)).map rowD) (ps.map fun q => V.ref q.1)
  | [], _ => .nil
  | p :: ps, h => .cons (.tup (h p (List.mem_cons_self ..)).1 (IsAll.ints _)) (rows_isall fun q hq => h q (List.mem_cons_of_mem _ hq))
theorem ints_of : ∀ {ys : List V}, (∀ (i : Nat) v, ys[i]? = some v → ∃ n : Int, v = .int n) → ∃ ps : List Int, ys = ps.map V.int
  | [], _ => ⟨[], rfl⟩
  | y :: ys, h => by
    obtain ⟨n, rfl⟩ := h 0 y rfl
    obtain ⟨ps, rfl⟩ := ints_of (ys := ys) fun i v e => h (i + 1) v (by simpa using e)
    exact ⟨n :: ps, rfl⟩
theorem keyInts (ns : List Int) : (ns.map Sum.inl : List L2.Key).map kV = ns.map V.int := by
  rw [List.map_map]
  rfl
/-- every stand and value leads to a stand -/
def Mvs (kvs : List (List L2.Key × V)) : Prop := ∀ p ∈ kvs, ∃ a b c : Int, p = ([Sum.inl a, Sum.inl b], .int c)
theorem Mvs.put {kvs : List (List L2.Key × V)} (h : Mvs kvs) {a b c : Int} : Mvs (putK kvs [Sum.inl a, Sum.inl b] (.int c)) := by
  unfold putK
  split
  · intro p hp
    obtain ⟨p0, h1, rfl⟩ := List.mem_map.mp hp
    obtain ⟨a', b', c', rfl⟩ := h p0 h1
    dsimp only
    split
    · exact ⟨a', b', c, rfl⟩
    · exact ⟨a', b', c', rfl⟩
  · intro p hp
    rcases List.mem_append.mp hp with h1 | h1
    · exact h p h1
    · rw [List.mem_singleton.mp h1]
      exact ⟨a, b, c, rfl⟩
theorem put_nd {κ : Type} [DecidableEq κ] {kvs : List (κ × V)} (h : (kvs.map (·.1)).Nodup) {k : κ} {v : V} : ((putK kvs k v).map (·.1)).Nodup := by
  cases e : valV kvs k with
  | none => exact nd_putK v h e
  | some u =>
    unfold putK
    rw [valV_any, e]
    rw [if_pos (show (some u).isSome = true from rfl), List.map_map]
    have : ((fun x : κ × V => x.1) ∘ fun kv => if kv.1 = k then (kv.1, v) else kv) = fun kv : κ × V => kv.1 := by
      funext kv
      show (if kv.1 = k then (kv.1, v) else kv).1 = kv.1
      split <;> rfl
    rw [this]
    exact h
theorem valV_of {κ : Type} [DecidableEq κ] {kvs : List (κ × V)} {k : κ} (h : k ∈ kvs.map (·.1)) : ∃ v, valV kvs k = some v ∧ ∃ p ∈ kvs, p.1 = k ∧ p.2 = v := by
  obtain ⟨p, hp, e⟩ := List.mem_map.mp h
  cases f : kvs.find? fun kv => decide (kv.1 = k) with
  | none =>
    rw [List.find?_eq_none] at f
    exact absurd (decide_eq_true e) (f p hp)
  | some q =>
    refine ⟨q.2, by unfold valV; rw [f]; rfl, q, List.mem_of_find?_eq_some f, ?_, rfl⟩
    exact of_decide_eq_true (List.find?_some (p := fun kv : κ × V => decide (kv.1 = k)) f)
theorem put_mem {kvs : List (Key × V)} {k : Key} {v : V} {p : Key × V} (h : p ∈ putK kvs k v) : p.2 = v ∨ p ∈ kvs := by
  unfold putK at h
  split at h
  · obtain ⟨p0, h1, rfl⟩ := List.mem_map.mp h
    split
    · exact .inl rfl
    · exact .inr h1
  · rcases List.mem_append.mp h with h1 | h1
    · exact .inr h1
    · rw [List.mem_singleton.mp h1]
      exact .inl rfl
/-- tuple([x[0] for x in xs]) -/
theorem w_namesL {K : PySem.W.Frag} {i : Nat} {σ : L2.St} {st : Addr} {cs : Addr × Addr} {p : Addr} {doms : List (Str × List Int)} {H : Hp} {Q : VK} (b : Bx st cs p doms H) (w1 : ∀ x, wipe ((wipe σ [i]).set i (some x)) [i] = wipe σ [i]) (w3 : ∀ x, ((wipe σ [i]).set i (some x))[i]? = some (some x))
    (q : ∀ l H', H l = none → Adv [] H H' → H' l = some (.lst ((doms.map (·.1)).map V.str)) → Q (.ref l) H') : kLcL K (gName i) tYes (tOp (rIxT K) (tVar i) (tC (.int 0))) [i] σ Q (.ref p) H := by
  obtain ⟨xs, e1, e2, hl, hget⟩ := b.get
  have hlen := b.len
  refine ⟨p, rfl, ⟨_, SqL.of e1⟩, kLc_pure walk_list (by omega) (fun H' g => SqL.of (g.keep _ _ (fun z => nomatch z) e1)) (fun _ => true) (fun i => .str ((doms.map (·.1)).getD i nix)) (fun j x H2 H3 Kt Kf hi g2 y kt kf => ?_) fun l H3 np g1 el => ?_⟩
  · obtain ⟨rfl, y1⟩ := y
    obtain ⟨d, a, c, z, _, rfl, h4, h5⟩ := hget j x y1
    rw [getD_of (show (doms.map (·.1))[j]? = some d.1 by rw [List.getElem?_map, z]; rfl)] at kt
    exact ⟨w1 _, _, w3 _, w_ixT (SqT.of (g2.tup _ _ h4)) (at_of (j := 0) rfl rfl) (kt rfl _ (.refl _ _))⟩
  · rw [filter_true, hl, ← List.length_map (f := (·.1)), map_range (doms.map (·.1)) nix V.str] at el
    exact q l H3 np g1 el
theorem w_namesT {K : PySem.W.Frag} {i : Nat} {σ : L2.St} {st : Addr} {cs : Addr × Addr} {p : Addr} {doms : List (Str × List Int)} {H : Hp} {Q : VK} (b : Bx st cs p doms H) (w1 : ∀ x, wipe ((wipe σ [i]).set i (some x)) [i] = wipe σ [i]) (w3 : ∀ x, ((wipe σ [i]).set i (some x))[i]? = some (some x))
    (q : ∀ t H', Adv [] H H' → H' t = some (.tup ((doms.map (·.1)).map V.str)) → Q (.ref t) H') : kLcL K (gName i) tYes (tOp (rIxT K) (tVar i) (tC (.int 0))) [i] σ (fun x H1 => kTup K x H1 Q) (.ref p) H :=
  w_namesL b w1 w3 fun l H1 nl a1 el => w_tupL (SqL.of el) fun r H2 _ a2 e2 => q r H2 (a1.trans a2) e2
def sp__law_rows (_ : PySem.W.Frag) : Sp := fun vs H Q _ => ∃ (st p : Addr), vs = [.ref st, .ref p] ∧ ∃ cs doms, Bx st cs p doms H ∧ ∀ v (rows : List (List Int)) H', Go st cs H H' → Is H' (.tuple (rows.map rowD)) v → rows.length ≤ 64 → Q v H'
def sp__law_machine (_ : PySem.W.Frag) : Sp := fun vs H Q _ => ∃ (st p : Addr), vs = [.ref st, .ref p] ∧ ∃ cs doms, Bx st cs p doms H ∧ ∀ v s H', Go st cs H H' → Is H' (sayD s) v → SayOk doms s → (s.isWhen || s.isClaim) = false → Q v H'
def sp__law_counted (_ : PySem.W.Frag) : Sp := fun vs H Q _ => ∃ (st p : Addr), vs = [.ref st, .ref p] ∧ ∃ cs doms, Bx st cs p doms H ∧ ∀ v s H', Go st cs H H' → Is H' (sayD s) v → SayOk doms s → (s.isWhen || s.isClaim) = false → Q v H'
def sp__law_works (_ : PySem.W.Frag) : Sp := fun vs H Q _ => ∃ (st p : Addr), vs = [.ref st, .ref p] ∧ ∃ cs doms, Bx st cs p doms H ∧ ∀ v s H', Go st cs H H' → Is H' (sayD s) v → SayOk doms s → (s.isWhen || s.isClaim) = false → Q v H'
def t__law_rows (K : PySem.W.Frag) : TS := (tSeq (tAsg tDNewT (gName 2))
  (tSeq (tFor (iRng1 (tCons (tCall (sp__law_draw K) [] E0 (tCons (tVar 0) (tCons (tCall (sp__law_pick K) [] E0 (tCons (tVar 0) (tCons (tLst (tCons (tC (.int 4)) (tCons (tC (.int 9)) (tCons (tC (.int 61)) tNil)))) tNil))) tNil))) tNil)) (gName 3)
  (sDPut (tVar 2) (tThen (tLc (iList K (tVar 1)) (gName 4) tYes (tCall (sp__law_near K) [] E0 (tCons (tVar 0) (tCons (tOp (rIxT K) (tVar 4) (tC (.int 1))) tNil))) [4]) (kTup K)) (tC (.bl true))))
  (tRet (tThen (tCB rSortDT (tCons (tVar 2) tNil)) (kTup K)))))
def t__law_machine (K : PySem.W.Frag) : TS := (tSeq (tAsg (tOp rCat (tLst (tCons (tCall (sp__law_draw K) [] E0 (tCons (tVar 0) (tCons (tC (.int 4)) tNil))) (tCons (tOp rAddI (tC (.int 4)) (tCall (sp__law_draw K) [] E0 (tCons (tVar 0) (tCons (tC (.int 8)) tNil)))) tNil))) (tLc (iRng1 (tCons (tCall (sp__law_draw K) [] E0 (tCons (tVar 0) (tCons (tC (.int 2)) tNil))) tNil)) (gName 3) tYes (tCall (sp__law_draw K) [] E0 (tCons (tVar 0) (tCons (tC (.int 12)) tNil))) [3])) (gName 2))
  (tSeq (tAsg tDNewT (gName 4))
  (tSeq (tFor (iRng1 (tCons (tCall (sp__law_draw K) [] E0 (tCons (tVar 0) (tCons (tCall (sp__law_pick K) [] E0 (tCons (tVar 0) (tCons (tLst (tCons (tC (.int 6)) (tCons (tC (.int 14)) (tCons (tC (.int 41)) tNil)))) tNil))) tNil))) tNil)) (gName 3)
  (sDPut (tVar 4) (tTup (tCons (tCall (sp__law_pick K) [] E0 (tCons (tVar 0) (tCons (tVar 2) tNil))) (tCons (tCall (sp__law_near K) [] E0 (tCons (tVar 0) (tCons (tOp (rIxT K) (tCall (sp__law_pick K) [] E0 (tCons (tVar 0) (tCons (tVar 1) tNil))) (tC (.int 1))) tNil))) tNil))) (tCall (sp__law_pick K) [] E0 (tCons (tVar 0) (tCons (tVar 2) tNil)))))
  (tSeq (tAsg (tCall (sp__law_ascending K) [] E0 (tCons (tOp rCat (tCall (sp__law_some K) [] E0 (tCons (tVar 0) (tCons (tVar 2) (tCons (tOp rAddI (tC (.int 1)) (tCall (sp__law_draw K) [] E0 (tCons (tVar 0) (tCons (tCB (rLen1 K) (tCons (tVar 2) tNil)) tNil)))) tNil)))) (tLst (tCons (tCall (sp__law_draw K) [] E0 (tCons (tVar 0) (tCons (tC (.int 12)) tNil))) tNil))) tNil)) (gName 5))
  (tSeq (tAsg (tThen (tLc (iList K (tCB rSortDT (tCons (tVar 4) tNil))) (gName 6) tYes (tTup (tCons (tOp (rIxT K) (tVar 6) (tC (.int 0))) (tCons (tOp (rIxT K) (tVar 6) (tC (.int 1))) (tCons (tDGet (tVar 4) (tVar 6)) tNil)))) [6]) (kTup K)) (gName 4))
  (tRet (tTup (tCons (tC (.str "machine")) (tCons (tThen (tLc (iList K (tVar 1)) (gName 7) tYes (tOp (rIxT K) (tVar 7) (tC (.int 0))) [7]) (kTup K)) (tCons (tCall (sp__law_pick K) [] E0 (tCons (tVar 0) (tCons (tVar 2) tNil))) (tCons (tVar 4) (tCons (tIf (tTest (tOp rGtI (tCall (sp__law_draw K) [] E0 (tCons (tVar 0) (tCons (tC (.int 9)) tNil))) (tC (.int 0)))) (tVar 5) (tTup tNil)) tNil))))))))))))
def t__law_counted (K : PySem.W.Frag) : TS := (tSeq (tAsg tDNewK (gName 2))
  (tSeq (tFor (iRng1 (tCons (tOp rAddI (tC (.int 1)) (tCall (sp__law_draw K) [] E0 (tCons (tVar 0) (tCons (tCall (sp__law_pick K) [] E0 (tCons (tVar 0) (tCons (tLst (tCons (tC (.int 2)) (tCons (tC (.int 3)) (tCons (tC (.int 12)) tNil)))) tNil))) tNil)))) tNil)) (gName 3)
  (tSeq (tAsg (tCall (sp__law_draw K) [] E0 (tCons (tVar 0) (tCons (tC (.int 3)) tNil))) (gName 4))
  (sDPut (tVar 2) (tCall (sp__law_near K) [] E0 (tCons (tVar 0) (tCons (tOp (rIxT K) (tCall (sp__law_pick K) [] E0 (tCons (tVar 0) (tCons (tVar 1) tNil))) (tC (.int 1))) tNil))) (tTup (tCons (tVar 4) (tCons (tCB rMin2 (tCons (tC (.int 12)) (tCons (tOp rAddI (tVar 4) (tCall (sp__law_pick K) [] E0 (tCons (tVar 0) (tCons (tLst (tCons (tC (.int 0)) (tCons (tC (.int 1)) (tCons (tC (.int 2)) (tCons (tC (.int 12)) tNil))))) tNil)))) tNil))) tNil))))))
  (tRet (tTup (tCons (tC (.str "counts")) (tCons (tThen (tLc (iList K (tVar 1)) (gName 5) tYes (tOp (rIxT K) (tVar 5) (tC (.int 0))) [5]) (kTup K)) (tCons (tThen (tLc (iList K (tCB rSortDI (tCons (tVar 2) tNil))) (gName 6) tYes (tOp (rCatA K) (tTup (tCons (tVar 6) tNil)) (tDGet (tVar 2) (tVar 6))) [6]) (kTup K)) tNil)))))))
def t__law_works (K : PySem.W.Frag) : TS := (tSeq (tAsg (tThen (tLc (iList K (tVar 1)) (gName 3) tYes (tCall (sp__law_pick K) [] E0 (tCons (tVar 0) (tCons (tLst (tCons (tC (.int 1)) (tCons (tC (.int 2)) (tCons (tC (.int 3)) (tCons (tOp rAddI (tC (.int 1)) (tCall (sp__law_draw K) [] E0 (tCons (tVar 0) (tCons (tC (.int 50)) tNil)))) tNil))))) tNil))) [3]) (kTup K)) (gName 2))
  (tSeq (tAsg (tThen (tLc (iList K (tVar 1)) (gName 3) tYes (tCall (sp__law_pick K) [] E0 (tCons (tVar 0) (tCons (tLst (tCons (tC (.int 0)) (tCons (tC (.int 1)) (tCons (tC (.int 1)) (tCons (tC (.int 2)) (tCons (tCall (sp__law_draw K) [] E0 (tCons (tVar 0) (tCons (tC (.int 101)) tNil))) tNil)))))) tNil))) [3]) (kTup K)) (gName 4))
  (tSeq (tAsg (tCall (sp__law_pick K) [] E0 (tCons (tVar 0) (tCons (tLst (tCons (tCB (rMaxT K) (tCons (tVar 4) tNil)) (tCons (tCB (rSumT K) (tCons (tVar 4) tNil)) (tCons (tCB rMax2 (tCons (tC (.int 0)) (tCons (tOp rSubI (tCB (rSumT K) (tCons (tVar 4) tNil)) (tC (.int 1))) tNil))) (tCons (tCall (sp__law_draw K) [] E0 (tCons (tVar 0) (tCons (tC (.int 4)) tNil))) (tCons (tCall (sp__law_draw K) [] E0 (tCons (tVar 0) (tCons (tC (.int 1201)) tNil))) tNil)))))) tNil))) (gName 5))
  (tRet (tTup (tCons (tC (.str "works")) (tCons (tThen (tLc (iList K (tVar 1)) (gName 3) tYes (tOp (rIxT K) (tVar 3) (tC (.int 0))) [3]) (kTup K)) (tCons (tVar 2) (tCons (tVar 4) (tCons (tVar 5) tNil))))))))))
theorem len__law_rows {K : PySem.W.Frag} : ∀ (vs : List V) (H : Hp) (Q : VK) (E : XK), sp__law_rows K vs H Q E → vs.length = 2 := fun vs H Q E h => by
  obtain ⟨_, _, rfl, _⟩ := h
  rfl
theorem pure__law_rows {K : PySem.W.Frag} (vs : List V) (H : Hp) (Q : VK) (E : XK) (h : sp__law_rows K vs H Q E) : t__law_rows K { nx := fun _ H' => Q .non H', rt := Q } (start ["bag", "xs", "made", "k", "x"] vs) H := by
  obtain ⟨st, p, rfl, cs, doms, b, q⟩ := h
  show t__law_rows K _ [some (.ref st), some (.ref p), none, none, none] H
  have ok := b.ok
  have hlen := b.len
  unfold t__law_rows
  walk_at "aw"
  refine w_dnewT fun d H1 nd a1 ed => ?_
  have g1 := Go.of ok a1
  walk_at "aw"
  refine w_pickL (ns := [4, 9, 61]) g1.ok (by decide) (by decide) fun z hz H2 g2 => ?_
  simp only [List.mem_cons, List.not_mem_nil, or_false] at hz
  walk_at "aw"
  refine w_draw g2.ok (by omega) (by omega) fun nn H3 n0 n1 g3 => ?_
  obtain ⟨n, rfl⟩ : ∃ k : Nat, nn = (k : Int) := ⟨nn.toNat, by omega⟩
  have g13 := (g1.trans g2).trans g3
  have odf := (ok.ne nd).1
  walk_at "aw"
  refine kForR_i (n := n) (by omega) (fun i σ H' => ∃ (y3 y4 : Option V) (kvs : List (List L2.Key × V)), σ = [some (.ref st), some (.ref p), some (.ref d), y3, y4] ∧ Go st cs H H' ∧ H' d = some (.dT kvs) ∧ kvs.length ≤ i ∧ Rows kvs)
    ⟨_, _, [], rfl, g13, (g2.trans g3).keep odf ed, Nat.le_refl _, fun p hp => nomatch hp⟩ (fun i σ H' hi pp => ?_) fun σ H' pp => ?_
  · obtain ⟨y3, y4, kvs, rfl, g, ed', hl, hr⟩ := pp
    have bg := b.go g
    obtain ⟨xs, e1, e2, hxl, hget⟩ := bg.get
    walk_at "aw"
    refine kLcL_all (xs := xs) (SqL.of e1) b.off (by omega) g.ok (fun _ v _ => ∃ n : Int, v = .int n) (fun _ _ _ _ _ h => h) (fun j x H4 Kt e g4 kt => ?_) fun l H4 ys nl g4 el hyl hyr => ?_
    · obtain ⟨dm, a, c, _, hdm, rfl, h4, h5⟩ := hget j x e
      walk_at "aw"
      refine ⟨rfl, ?_⟩
      walk_at "aw"
      refine w_ixT (SqT.of (g4.tk _ _ h4)) (at_of (j := 1) rfl rfl) ?_
      walk_at "aw"
      exact w_near g4.ok (g4.tk _ _ h5) (b.dz dm hdm) fun n H5 g5 => kt _ _ g5 ⟨n, rfl⟩
    obtain ⟨ns, rfl⟩ := ints_of hyr
    rw [List.length_map] at hyl
    refine w_tupL (SqL.of el) fun t H5 nt a5 et => ?_
    have g5 := (g.trans g4).new a5
    have ed5 := a5.keep _ _ (fun z => nomatch z) (g4.keep odf ed')
    have hpos := b.pos
    have hne : ns ≠ [] := fun z => by rw [z] at hyl; simp at hyl; omega
    refine kDPutT_i (k := ns.map Sum.inl) ed5 (by rw [keyInts]; exact et) (by omega) ?_
    exact ⟨_, _, _, rfl, g5.mutT ok nd ed5, upd_same, Nat.le_trans (length_putK ..) (by omega), hr.put hne⟩
  · obtain ⟨y3, y4, kvs, rfl, g, ed', hl, hr⟩ := pp
    walk_at "aw"
    refine ⟨d, kvs, rfl, .inl ed', hr, by omega, fun r ps nr hps hperm => ?_⟩
    have hpl : ps.length = kvs.length := by
      have := hperm.length_eq
      rwa [List.length_map, List.length_map] at this
    walk_at "aw"
    have a4 : Adv [] H' (upd H' r (.lst (ps.map fun q => V.ref q.1))) := Adv.new nr
    refine w_tupL (SqL.of upd_same) fun u H5 nu a5 eu => ?_
    refine q _ (ps.map (·.2)) H5 ((g.new a4).new a5) (.tup eu (rows_isall fun p hp => ⟨(a4.trans a5).tup _ _ (hps p hp).1, (hps p hp).2⟩)) (by rw [List.length_map]; omega)
theorem len__law_machine {K : PySem.W.Frag} : ∀ (vs : List V) (H : Hp) (Q : VK) (E : XK), sp__law_machine K vs H Q E → vs.length = 2 := fun vs H Q E h => by
  obtain ⟨_, _, rfl, _⟩ := h
  rfl
/-- one of the numbers of a list that is there -/
theorem w_pickI {K : PySem.W.Frag} {E : XK} {st : Addr} {cs : Addr × Addr} {p : Addr} {ns : List Int} {H : Hp} {Q : VK} (ok : StOk st cs H) (e : H p = some (.lst (ns.map V.int))) (off : Off p st cs) (h0 : 0 < ns.length) (h1 : ns.length < 100000) (q : ∀ n, n ∈ ns → ∀ H', Go st cs H H' → Q (.int n) H') : sp__law_pick K [.ref st, .ref p] H Q E :=
  ⟨st, p, rfl, cs, _, ok, .inl ⟨SqL.of e, off⟩, by rw [List.length_map]; exact h0, by rw [List.length_map]; omega, fun i v H' e g => by
    rw [List.getElem?_map] at e
    obtain ⟨n, hn, rfl⟩ := Option.map_eq_some_iff.mp e
    exact q n (List.mem_of_getElem? hn) H' g⟩
theorem pure__law_machine {K : PySem.W.Frag} (vs : List V) (H : Hp) (Q : VK) (E : XK) (h : sp__law_machine K vs H Q E) : t__law_machine K { nx := fun _ H' => Q .non H', rt := Q } (start ["bag", "xs", "stands", "k", "moves", "ends", "pair", "x"] vs) H := by
  obtain ⟨st, p, rfl, cs, doms, b, q⟩ := h
  show t__law_machine K _ [some (.ref st), some (.ref p), none, none, none, none, none, none] H
  have ok := b.ok
  have hlen := b.len
  unfold t__law_machine
  walk_at "aw"
  refine w_draw ok (by decide) (by decide) fun s1 H1 _ _ g1 => ?_
  walk_at "aw"
  refine w_draw g1.ok (by decide) (by decide) fun s2 H2 _ _ g2 => ?_
  have g12 := g1.trans g2
  walk_at "aw"
  refine w_lstD (by show 2 ≤ 100000; decide) fun l0 H3 nl0 a3 e3 => ?_
  have g3 := g12.new a3
  have ol0 := (g12.ok.ne nl0).1
  walk_at "aw"
  refine w_draw g3.ok (by decide) (by decide) fun nn H4 n0 n1 g4 => ?_
  obtain ⟨n, rfl⟩ : ∃ k : Nat, nn = (k : Int) := ⟨nn.toNat, by omega⟩
  have g34 := g3.trans g4
  walk_at "aw"
  refine kLcR_all (n := n) (by omega) g34.ok (fun _ v _ => ∃ n : Int, v = .int n) (fun _ _ _ _ _ h => h) (fun j H5 Kt _ g5 kt => ?_) fun l1 H5 ys nl1 g5 el1 hyl hyr => ?_
  · walk_at "aw"
    refine ⟨rfl, ?_⟩
    walk_at "aw"
    exact w_draw g5.ok (by decide) (by decide) fun u H6 _ _ g6 => kt _ _ g6 ⟨u, rfl⟩
  obtain ⟨us, rfl⟩ := ints_of hyr
  rw [List.length_map] at hyl
  have g35 := g34.trans g5
  refine w_cat (g5.keep ol0 (g4.keep ol0 e3)) el1 (by rw [List.length_map]; show 2 + us.length ≤ 100000; omega) fun sl H6 nsl a6 esl => ?_
  have osl := (g35.ok.ne nsl).1
  have g6 := g35.new a6
  have nsl0 : H sl = none := g35.free ok nsl
  obtain ⟨ss, hss, esl, hs0, hs1⟩ : ∃ ss : List Int, ss = [s1, 4 + s2] ++ us ∧ H6 sl = some (.lst (ss.map V.int)) ∧ 0 < ss.length ∧ ss.length ≤ 3 := ⟨_, rfl, by rw [esl, List.map_append]; rfl, by simp, by simp; omega⟩
  clear hss e3 el1
  walk_at "aw"
  refine w_dnewT fun d H7 nd a7 ed => ?_
  have g7 := g6.new a7
  have nd0 : H d = none := g6.free ok nd
  have odf := (ok.ne nd0).1
  have esl7 := a7.keep _ _ (fun z => nomatch z) esl
  walk_at "aw"
  refine w_pickL (ns := [6, 14, 41]) g7.ok (by decide) (by decide) fun z hz H8 g8 => ?_
  simp only [List.mem_cons, List.not_mem_nil, or_false] at hz
  walk_at "aw"
  refine w_draw g8.ok (by omega) (by omega) fun nn H9 n0 n1 g9 => ?_
  obtain ⟨m, rfl⟩ : ∃ k : Nat, nn = (k : Int) := ⟨nn.toNat, by omega⟩
  have g79 := g8.trans g9
  walk_at "aw"
  refine kForR_i (n := m) (by omega) (fun i σ H' => ∃ (y3 : Option V) (kvs : List (List L2.Key × V)), σ = [some (.ref st), some (.ref p), some (.ref sl), y3, some (.ref d), none, none, none] ∧ Go st cs H H' ∧ H' sl = some (.lst (ss.map V.int)) ∧ H' d = some (.dT kvs) ∧ kvs.length ≤ i ∧ Mvs kvs ∧ (kvs.map (·.1)).Nodup)
    ⟨_, [], rfl, g7.trans g79, g79.keep osl esl7, g79.keep odf ed, Nat.le_refl _, (fun p hp => nomatch hp), List.nodup_nil⟩ (fun i σ H' hi pp => ?_) fun σ H' pp => ?_
  · obtain ⟨y3, kvs, rfl, g, es, ed', hl, hmv, hnd⟩ := pp
    walk_at "aw"
    refine w_pickI g.ok es osl hs0 (by omega) fun c _ H10 g10 => ?_
    walk_at "aw"
    refine w_pickI g10.ok (g10.keep osl es) osl hs0 (by omega) fun a _ H11 g11 => ?_
    walk_at "aw"
    have g111 := (g.trans g10).trans g11
    refine w_pickB (b.go g111) fun dm ia ic H12 hdm g12 ha hc => ?_
    walk_at "aw"
    refine w_ixT (SqT.of ha) (at_of (j := 1) rfl rfl) ?_
    walk_at "aw"
    refine w_near g12.ok hc (b.dz dm hdm) fun v H13 g13 => ?_
    walk_at "aw"
    have gx := (g10.trans g11).trans (g12.trans g13)
    refine w_tupD (by show 2 ≤ 100000; decide) fun t H14 nt a14 et => ?_
    have ed14 := a14.keep _ _ (fun z => nomatch z) (gx.keep odf ed')
    have es14 := a14.keep _ _ (fun z => nomatch z) (gx.keep osl es)
    have hsd : sl ≠ d := fun z => by
      rw [z] at es14
      rw [es14] at ed14
      cases ed14
    refine kDPutT_i (k := [Sum.inl a, Sum.inl v]) ed14 et (by omega) ?_
    exact ⟨_, _, rfl, ((g.trans gx).new a14).mutT ok nd0 ed14, by rw [upd_ne hsd]; exact es14, upd_same, Nat.le_trans (length_putK ..) (by omega), hmv.put, put_nd hnd⟩
  · obtain ⟨y3, kvs, rfl, g, es, ed', hl, hmv, hnd⟩ := pp
    walk_at "aw"
    refine w_lenL (SqL.of es) ?_
    rw [List.length_map]
    walk_at "aw"
    refine w_draw g.ok (by omega) (by omega) fun nn H10 n0 n1 g10 => ?_
    obtain ⟨k, rfl⟩ : ∃ k : Nat, nn = (k : Int) := ⟨nn.toNat, by omega⟩
    walk_at "aw"
    have es10 := g10.keep osl es
    refine ⟨st, _, 1 + k, by rw [Int.natCast_add]; rfl, cs, ss.map V.int, g10.ok, .inl ⟨sl, rfl, .inl (SqL.of es10)⟩, by rw [List.length_map]; omega, by rw [List.length_map]; omega, fun r made left H11 hperm hml nr g11 er => ?_⟩
    have hmade : ∃ ms : List Int, made = ms.map V.int := ints_of fun i v e => by
      have : v ∈ ss.map V.int := hperm.mem_iff.mp (List.mem_append_left _ (List.mem_of_getElem? e))
      obtain ⟨x, _, rfl⟩ := List.mem_map.mp this
      exact ⟨x, rfl⟩
    obtain ⟨ms, rfl⟩ := hmade
    rw [List.length_map] at hml
    have or_ := (g10.ok.ne nr).1
    walk_at "aw"
    refine w_draw g11.ok (by decide) (by decide) fun e0 H12 _ _ g12 => ?_
    walk_at "aw"
    refine w_lstD (by show 1 ≤ 100000; decide) fun r2 H13 nr2 a13 er2 => ?_
    refine w_cat (a13.keep _ _ (fun z => nomatch z) (g12.keep or_ er)) er2 (by rw [List.length_map]; show ms.length + 1 ≤ 100000; omega) fun r3 H14 nr3 a14 er3 => ?_
    walk_at "aw"
    refine ⟨r3, rfl, .inr ⟨ms ++ [e0], by rw [er3, List.map_append]; rfl, by rw [List.length_append, List.length_singleton]; omega, fun et en H15 a15 eet hen => ?_⟩⟩
    rw [List.length_append, List.length_singleton] at hen
    have gx := (((g10.trans g11).trans g12).new a13).new (a14.trans a15)
    have ed15 := gx.keep odf ed'
    have es15 := gx.keep osl es
    have g15 := g.trans gx
    walk_at "aw"
    have hrows : ∀ p ∈ kvs, ∃ ns : List Int, ns ≠ [] ∧ p.1 = ns.map Sum.inl := fun p hp => by
      obtain ⟨a, b, c, rfl⟩ := hmv p hp
      exact ⟨[a, b], by simp, rfl⟩
    refine ⟨d, kvs, rfl, .inl ed15, hrows, by omega, fun r ps nr hps hperm => ?_⟩
    have hpl : ps.length = kvs.length := by
      have := hperm.length_eq
      rwa [List.length_map, List.length_map] at this
    have a16 : Adv [] H15 (upd H15 r (.lst (ps.map fun q => V.ref q.1))) := Adv.new nr
    have er16 : (upd H15 r (.lst (ps.map fun q => V.ref q.1))) r = some (.lst (ps.map fun q => V.ref q.1)) := upd_same
    generalize upd H15 r (.lst (ps.map fun q => V.ref q.1)) = H16 at a16 er16
    have g16 := g15.new a16
    have or16 := (g15.ok.ne nr).1
    have ed16 := a16.keep _ _ (fun z => nomatch z) ed15
    have hget : ∀ q ∈ ps, ∃ a b c : Int, q.2 = [a, b] ∧ valV kvs (q.2.map Sum.inl) = some (.int c) ∧ H16 q.1 = some (.tup [.int a, .int b]) := fun q hq => by
      have hm : q.2.map Sum.inl ∈ kvs.map (·.1) := hperm.mem_iff.mp (List.mem_map.mpr ⟨q, hq, rfl⟩)
      obtain ⟨v, hv, p0, hp0, e1, e2⟩ := valV_of hm
      obtain ⟨a, b, c, rfl⟩ := hmv p0 hp0
      dsimp only at e1 e2
      have e3 : q.2 = [a, b] := by
        have e4 : ([a, b].map Sum.inl : List L2.Key) = q.2.map Sum.inl := e1
        exact ((List.map_inj_right (f := (Sum.inl : Int → L2.Key)) fun x y z => Sum.inl.inj z).mp e4).symm
      refine ⟨a, b, c, e3, by rw [hv, e2], ?_⟩
      have := a16.tup _ _ (hps q hq).1
      rw [e3] at this
      exact this
    refine kLcL_all (xs := ps.map fun q => V.ref q.1) (SqL.of er16) or16 (by rw [List.length_map]; omega) g16.ok (fun i v H => ∃ mvx : Int × Int × Int, (ps.map (·.2))[i]? = some [mvx.1, mvx.2.1] ∧ Is H (ctD mvx) v) (fun _ v H H' tk h => by obtain ⟨x, h1, h2⟩ := h; exact ⟨x, h1, h2.up tk⟩) (fun j x H17 Kt e g17 kt => ?_) fun l H17 ys nl g17 el hyl hyr => ?_
    · rw [List.getElem?_map] at e
      obtain ⟨q0, hq0, rfl⟩ := Option.map_eq_some_iff.mp e
      obtain ⟨a, b', c, e1, e2, e3⟩ := hget q0 (List.mem_of_getElem? hq0)
      have e3' := g17.tk _ _ e3
      walk_at "aw"
      refine ⟨rfl, ?_⟩
      walk_at "aw"
      refine w_ixT (SqT.of e3') (at_of (j := 0) rfl rfl) ?_
      walk_at "aw"
      refine w_ixT (SqT.of e3') (at_of (j := 1) rfl rfl) ?_
      walk_at "aw"
      refine kDGet_t (k := [Sum.inl a, Sum.inl b']) (g17.keep odf ed16) e3' (by rw [e1] at e2; exact e2) ?_
      walk_at "aw"
      refine w_tupD (by show 3 ≤ 100000; decide) fun t H18 nt a18 et => ?_
      exact kt _ _ (.of g17.ok a18) ⟨(a, b', c), by rw [List.getElem?_map, hq0, ← e1]; rfl, .tup et (.cons (.int _) (.cons (.int _) (.cons (.int _) .nil)))⟩
    obtain ⟨mv, m1, m2, m3⟩ := build (D := ctD) (P := fun i (mvx : Int × Int × Int) => (ps.map (·.2))[i]? = some [mvx.1, mvx.2.1]) hyr
    rw [List.length_map] at hyl
    have hmvl : mv.length ≤ 64 := by omega
    have hmnd : (mv.map fun m => (m.1, m.2.1)).Nodup := by
      have e1 : (mv.map fun m => (m.1, m.2.1)).map (fun ab => ([Sum.inl ab.1, Sum.inl ab.2] : List L2.Key)) = ps.map fun q => q.2.map Sum.inl := by
        refine List.ext_getElem? fun i => ?_
        rw [List.getElem?_map, List.getElem?_map, List.getElem?_map]
        by_cases hi : i < mv.length
        · obtain ⟨x, hx⟩ := get_some hi
          have h3 := m3 i x hx
          rw [List.getElem?_map] at h3
          obtain ⟨q0, hq0, e0⟩ := Option.map_eq_some_iff.mp h3
          rw [hx, hq0, Option.map_some, Option.map_some, Option.map_some, e0]
          rfl
        · rw [List.getElem?_eq_none (by omega), List.getElem?_eq_none (by omega)]
          rfl
      have e2 := hperm.symm.nodup hnd
      rw [← e1] at e2
      exact List.Pairwise.of_map _ (fun a b h z => h (by rw [z])) e2
    walk_at "aw"
    refine w_tupL (SqL.of el) fun mt H18 nmt a18 emt => ?_
    have g18 := (g16.trans g17).new a18
    walk_at "aw"
    refine w_namesT (b.go g18) (fun _ => rfl) (fun _ => rfl) fun nt H19 a19 ent => ?_
    have g19 := g18.new a19
    have tail1 := (((Go.of g15.ok a16).trans g17).new a18).new a19
    walk_at "aw"
    refine w_pickI g19.ok (tail1.keep osl es15) osl hs0 (by omega) fun s0 _ H20 g20 => ?_
    walk_at "aw1"
    walk_at "aw1"
    walk_at "aw1"
    refine w_ifEJ (fun v H21 => ∃ (t : Addr) (en : List Int), v = .ref t ∧ H21 t = some (.tup (en.map V.int)) ∧ en.length ≤ 100 ∧ Go st cs H20 H21) (fun Q' hQ => ?_) fun v H21 hR => ?_
    · walk_at "aw"
      refine w_draw g20.ok (by decide) (by decide) fun w H21 _ _ g21 => ?_
      walk_at "aw"
      refine w_iteB (fun _ => ?_) fun _ => ?_
      · walk_at "aw"
        exact hQ _ _ ⟨et, en, rfl, (tail1.trans (g20.trans g21)).tk _ _ eet, by omega, g21⟩
      · walk_at "aw"
        exact w_tupD (by show 0 ≤ 100000; decide) fun t H22 nt a22 et22 => hQ _ _ ⟨t, [], rfl, et22, by show 0 ≤ 100; decide, g21.new a22⟩
    obtain ⟨t, en', rfl, et21, hen', g21⟩ := hR
    walk_at "aw"
    refine w_tupD (by show 5 ≤ 100000; decide) fun rt H22 nrt a22 ert => ?_
    have gl := (g20.trans g21).new a22
    have tl := gl.tk
    have hnl : (doms.map (·.1)).length ≤ 100 := by rw [List.length_map]; omega
    refine q (.ref rt) (.mach (doms.map (·.1)) s0 mv en') H22 (g19.trans gl) (.tup ert (.cons (.str _) (.cons (.tup (tl _ _ ent) (.strs _)) (.cons (.int _) (.cons (.tup (((Go.of (g18.ok) a19).trans gl).tk _ _ emt) (m2.up (((Go.of (g17.ok) a18).new a19).trans gl).tk)) (.cons (.tup (a22.tup _ _ et21) (.ints _)) .nil)))))) ?_ rfl
    exact ⟨⟨hnl, by omega, hmnd, hen'⟩, b.nd, Nat.le_trans hnl (by decide), fun x hx => hx⟩
theorem len__law_counted {K : PySem.W.Frag} : ∀ (vs : List V) (H : Hp) (Q : VK) (E : XK), sp__law_counted K vs H Q E → vs.length = 2 := fun vs H Q E h => by
  obtain ⟨_, _, rfl, _⟩ := h
  rfl
/-- the values of a dict are pairs of numbers -/
def Prs (H : Hp) (kvs : List (Key × V)) : Prop := ∀ p ∈ kvs, ∃ (lo hi : Int) (a : Addr), p.2 = .ref a ∧ H a = some (.tup [.int lo, .int hi])
theorem Prs.up {H H' : Hp} {kvs : List (Key × V)} (h : Prs H kvs) (k : TK H H') : Prs H' kvs := fun p hp => by
  obtain ⟨lo, hi, a, h1, h2⟩ := h p hp
  exact ⟨lo, hi, a, h1, k _ _ h2⟩
theorem pure__law_counted {K : PySem.W.Frag} (vs : List V) (H : Hp) (Q : VK) (E : XK) (h : sp__law_counted K vs H Q E) : t__law_counted K { nx := fun _ H' => Q .non H', rt := Q } (start ["bag", "xs", "triples", "k", "low", "x", "v"] vs) H := by
  obtain ⟨st, p, rfl, cs, doms, b, q⟩ := h
  show t__law_counted K _ [some (.ref st), some (.ref p), none, none, none, none, none] H
  have ok := b.ok
  have hlen := b.len
  unfold t__law_counted
  walk_at "aw"
  refine w_dnew fun d H1 nd a1 ed => ?_
  have g1 := Go.of ok a1
  have odf := (ok.ne nd).1
  walk_at "aw"
  refine w_pickL (ns := [2, 3, 12]) g1.ok (by decide) (by decide) fun z hz H2 g2 => ?_
  simp only [List.mem_cons, List.not_mem_nil, or_false] at hz
  walk_at "aw"
  refine w_draw g2.ok (by omega) (by omega) fun nn H3 n0 n1 g3 => ?_
  obtain ⟨n, rfl⟩ : ∃ k : Nat, nn = (k : Int) := ⟨nn.toNat, by omega⟩
  have g13 := (g1.trans g2).trans g3
  walk_at "aw"
  rw [show (1 : Int) + (n : Nat) = ((n + 1 : Nat) : Int) by omega]
  refine kForR_i (n := n + 1) (by omega) (fun i σ H' => ∃ (y3 y4 : Option V) (kvs : List (Key × V)) (ks : List Int), σ = [some (.ref st), some (.ref p), some (.ref d), y3, y4, none, none] ∧ Go st cs H H' ∧ H' d = some (.dK kvs) ∧ kvs.length ≤ i ∧ Prs H' kvs ∧ kvs.map (·.1) = ks.map Sum.inl ∧ ks.length ≤ i)
    ⟨_, _, [], [], rfl, g13, (g2.trans g3).keep odf ed, Nat.le_refl _, (fun p hp => nomatch hp), rfl, Nat.le_refl _⟩ (fun i σ H' hi pp => ?_) fun σ H' pp => ?_
  · obtain ⟨y3, y4, kvs, ks, rfl, g, ed', hl, hpr, hks, hkl⟩ := pp
    walk_at "aw"
    refine w_draw g.ok (by decide) (by decide) fun lo H4 _ _ g4 => ?_
    walk_at "aw"
    refine w_pickL (ns := [0, 1, 2, 12]) g4.ok (by decide) (by decide) fun u _ H5 g5 => ?_
    walk_at "aw"
    refine w_tupD (by show 2 ≤ 100000; decide) fun t H6 nt a6 et => ?_
    have g6 := ((g.trans g4).trans g5).new a6
    walk_at "aw"
    refine w_pickB (b.go g6) fun dm ia ic H7 hdm g7 ha hc => ?_
    walk_at "aw"
    refine w_ixT (SqT.of ha) (at_of (j := 1) rfl rfl) ?_
    walk_at "aw"
    refine w_near g7.ok hc (b.dz dm hdm) fun v H8 g8 => ?_
    have gx := (((g4.trans g5).new a6).trans g7).trans g8
    have ed8 := gx.keep odf ed'
    obtain ⟨js, j1, j2, _⟩ := put_int (x := v) (v := .ref t) hks
    refine kDPut_i (k := Sum.inl v) ed8 (by omega) ?_
    refine ⟨_, _, _, js, rfl, (g.trans gx).mutD ok nd ed8, upd_same, Nat.le_trans (length_putK ..) (by omega), fun pr hp => ?_, j1, by omega⟩
    have tku : TK H8 (upd H8 d (.dK (putK kvs (Sum.inl v) (.ref t)))) := (Adv.dct ed8).tup
    rcases put_mem hp with e | e
    · exact ⟨_, _, t, e, tku _ _ ((g7.trans g8).tk _ _ et)⟩
    · obtain ⟨l', h', a', e1, e2⟩ := hpr pr e
      exact ⟨l', h', a', e1, tku _ _ (gx.tk _ _ e2)⟩
  · obtain ⟨y3, y4, kvs, ks, rfl, g, ed', hl, hpr, hks, hkl⟩ := pp
    walk_at "aw"
    refine w_namesT (b.go g) (fun _ => rfl) (fun _ => rfl) fun nt H4 a4 ent => ?_
    have ed4 := a4.keep _ _ (fun z => nomatch z) ed'
    have hpr4 := hpr.up a4.tup
    walk_at "aw"
    refine ⟨d, kvs, ks, rfl, .inl ed4, hks, by omega, fun ys r pm so nr => ?_⟩
    have a5 : Adv [] H4 (upd H4 r (.lst (ys.map V.int))) := Adv.new nr
    have e5 : (upd H4 r (.lst (ys.map V.int))) r = some (.lst (ys.map V.int)) := upd_same
    generalize upd H4 r (.lst (ys.map V.int)) = H5 at a5 e5
    have g5 := (g.new a4).new a5
    have ed5 := a5.keep _ _ (fun z => nomatch z) ed4
    have hpr5 := hpr4.up a5.tup
    have or_ := ((g.new a4).ok.ne nr).1
    have hyl2 := pm.length_eq
    walk_at "aw"
    refine kLcL_all (xs := ys.map V.int) (SqL.of e5) or_ (by rw [List.length_map]; omega) g5.ok (fun i v H => ∃ t : Int × Int × Int, True ∧ Is H (ctD t) v) (fun _ v H H' tk h => by obtain ⟨x, h1, h2⟩ := h; exact ⟨x, h1, h2.up tk⟩) (fun j x H6 Kt e g6 kt => ?_) fun l H6 zs nl g6 el hzl hzr => ?_
    · rw [List.getElem?_map] at e
      obtain ⟨v, hv, rfl⟩ := Option.map_eq_some_iff.mp e
      have hm : (Sum.inl v : Key) ∈ kvs.map (·.1) := by
        rw [hks]
        exact List.mem_map.mpr ⟨v, pm.mem_iff.mp (List.mem_of_getElem? hv), rfl⟩
      obtain ⟨y, hy, p0, hp0, e1, e2⟩ := valV_of hm
      obtain ⟨lo, hi2, a, e3, e4⟩ := hpr5 p0 hp0
      rw [e2] at e3
      subst e3
      walk_at "aw"
      refine ⟨rfl, ?_⟩
      walk_at "aw"
      refine w_tupD (by show 1 ≤ 100000; decide) fun t H7 nt a7 et => ?_
      have gg7 := (g6.new a7)
      walk_at "aw"
      refine kDGet_i (k := Sum.inl v) (gg7.keep odf ed5) hy ?_
      refine w_catT' et (gg7.tk _ _ e4) (by show 1 + 2 ≤ 100000; decide) fun r8 H8 a8 e8 => ?_
      exact kt _ _ (Go.of g6.ok (a7.trans a8)) ⟨(v, lo, hi2), trivial, .tup e8 (.cons (.int _) (.cons (.int _) (.cons (.int _) .nil)))⟩
    obtain ⟨ts, t1, t2, _⟩ := build (D := ctD) (P := fun _ _ => True) hzr
    rw [List.length_map] at hzl
    walk_at "aw"
    refine w_tupL (SqL.of el) fun tt H7 ntt a7 ett => ?_
    walk_at "aw"
    refine w_tupD (by show 3 ≤ 100000; decide) fun rt H8 nrt a8 ert => ?_
    have hnl : (doms.map (·.1)).length ≤ 100 := by rw [List.length_map]; omega
    refine q (.ref rt) (.counts (doms.map (·.1)) ts) H8 (((g5.trans g6).new a7).new a8) (.tup ert (.cons (.str _) (.cons (.tup ((((((Go.of (g.new a4).ok a5).trans g6).new a7).new a8)).tk _ _ ent) (.strs _)) (.cons (.tup (a8.tup _ _ ett) (t2.up (a7.trans a8).tup)) .nil)))) ?_ rfl
    exact ⟨⟨hnl, by omega⟩, b.nd, Nat.le_trans hnl (by decide), fun x hx => hx⟩
theorem len__law_works {K : PySem.W.Frag} : ∀ (vs : List V) (H : Hp) (Q : VK) (E : XK), sp__law_works K vs H Q E → vs.length = 2 := fun vs H Q E h => by
  obtain ⟨_, _, rfl, _⟩ := h
  rfl
theorem sum_nonneg {ns : List Int} (h : ∀ n ∈ ns, 0 ≤ n) : 0 ≤ ns.sum := by
  induction ns with
  | nil => decide
  | cons n ns ih =>
    rw [List.sum_cons]
    have h1 := h n (List.mem_cons_self ..)
    have h2 := ih fun x hx => h x (List.mem_cons_of_mem _ hx)
    omega
theorem pos_ints {ys : List V} (h : ∀ (i : Nat) v, ys[i]? = some v → ∃ n : Int, v = .int n ∧ 0 ≤ n) : ∃ ns : List Int, ys = ns.map V.int ∧ ∀ n ∈ ns, 0 ≤ n := by
  obtain ⟨ns, rfl⟩ := ints_of (ys := ys) fun i v e => by
    obtain ⟨n, h1, _⟩ := h i v e
    exact ⟨n, h1⟩
  refine ⟨ns, rfl, fun n hn => ?_⟩
  obtain ⟨i, hi, rfl⟩ := List.mem_iff_getElem.mp hn
  obtain ⟨m, e, h1⟩ := h i (.int ns[i]) (by rw [List.getElem?_map, List.getElem?_eq_getElem hi]; rfl)
  cases e
  exact h1
theorem pure__law_works {K : PySem.W.Frag} (vs : List V) (H : Hp) (Q : VK) (E : XK) (h : sp__law_works K vs H Q E) : t__law_works K { nx := fun _ H' => Q .non H', rt := Q } (start ["bag", "xs", "lengths", "x", "needs", "room"] vs) H := by
  obtain ⟨st, p, rfl, cs, doms, b, q⟩ := h
  show t__law_works K _ [some (.ref st), some (.ref p), none, none, none, none] H
  have ok := b.ok
  have hlen := b.len
  have hpos := b.pos
  obtain ⟨xs, e1, e2, hxl, _⟩ := b.get
  unfold t__law_works
  walk_at "aw"
  refine kLcL_all (xs := xs) (SqL.of e1) b.off (by omega) ok (fun _ v _ => ∃ n : Int, v = .int n ∧ 0 ≤ n) (fun _ _ _ _ _ h => h) (fun j x H4 Kt e g4 kt => ?_) fun l1 H1 ys nl1 g1 el1 hyl hyr => ?_
  · walk_at "aw"
    refine ⟨rfl, ?_⟩
    walk_at "aw"
    refine w_draw g4.ok (by decide) (by decide) fun k H5 k0 _ g5 => ?_
    walk_at "aw"
    refine w_pickL (ns := [1, 2, 3, 1 + k]) g5.ok (by show 0 < 4; decide) (by show 4 < 100000; decide) fun z hz H6 g6 => ?_
    simp only [List.mem_cons, List.not_mem_nil, or_false] at hz
    exact kt _ _ (g5.trans g6) ⟨z, rfl, by omega⟩
  obtain ⟨ls, rfl, _⟩ := pos_ints hyr
  rw [List.length_map] at hyl
  walk_at "aw"
  refine w_tupL (SqL.of el1) fun lt H2 nlt a2 elt => ?_
  have g2 := g1.new a2
  walk_at "aw"
  refine kLcL_all (xs := xs) (SqL.of (g2.keep b.off e1)) b.off (by omega) g2.ok (fun _ v _ => ∃ n : Int, v = .int n ∧ 0 ≤ n) (fun _ _ _ _ _ h => h) (fun j x H4 Kt e g4 kt => ?_) fun l3 H3 zs nl3 g3 el3 hzl hzr => ?_
  · walk_at "aw"
    refine ⟨rfl, ?_⟩
    walk_at "aw"
    refine w_draw g4.ok (by decide) (by decide) fun k H5 k0 _ g5 => ?_
    walk_at "aw"
    refine w_pickL (ns := [0, 1, 1, 2, k]) g5.ok (by show 0 < 5; decide) (by show 5 < 100000; decide) fun z hz H6 g6 => ?_
    simp only [List.mem_cons, List.not_mem_nil, or_false] at hz
    exact kt _ _ (g5.trans g6) ⟨z, rfl, by omega⟩
  obtain ⟨ns, rfl, hns⟩ := pos_ints hzr
  rw [List.length_map] at hzl
  walk_at "aw"
  refine w_tupL (SqL.of el3) fun nt H4 nnt a4 ent => ?_
  have g34 := g3.new a4
  have g4 := g2.trans g34
  walk_at "aw"
  refine ⟨nt, ns, rfl, SqT.of ent, by omega, fun mx hmx => ?_⟩
  have hmx0 := hns mx hmx
  have hs0 := sum_nonneg hns
  walk_at "aw"
  refine ⟨nt, ns, rfl, SqT.of ent, ?_⟩
  walk_at "aw"
  refine ⟨nt, ns, rfl, SqT.of ent, ?_⟩
  generalize ns.sum = sm at hs0
  walk_at "aw"
  generalize hc : (if sm - 1 > 0 then sm - 1 else 0) = c3
  have hc0 : 0 ≤ c3 := by
    rw [← hc]
    split <;> omega
  refine w_draw g4.ok (by decide) (by decide) fun k1 H5 k10 _ g5 => ?_
  walk_at "aw"
  refine w_draw g5.ok (by decide) (by decide) fun k2 H6 k20 _ g6 => ?_
  walk_at "aw"
  refine w_pickL (ns := [mx, sm, c3, k1, k2]) g6.ok (by show 0 < 5; decide) (by show 5 < 100000; decide) fun room hroom H7 g7 => ?_
  simp only [List.mem_cons, List.not_mem_nil, or_false] at hroom
  have hr0 : 0 ≤ room := by omega
  have g57 := (g5.trans g6).trans g7
  walk_at "aw"
  refine w_namesT (b.go (g4.trans g57)) (fun _ => rfl) (fun _ => rfl) fun mt H8 a8 emt => ?_
  walk_at "aw"
  refine w_tupD (by show 5 ≤ 100000; decide) fun rt H9 nrt a9 ert => ?_
  have hnl : (doms.map (·.1)).length ≤ 100 := by rw [List.length_map]; omega
  have ge := (g57.new a8).new a9
  refine q (.ref rt) (.works (doms.map (·.1)) ls ns room) H9 (g4.trans ge) (.tup ert (.cons (.str _) (.cons (.tup (a9.tup _ _ emt) (.strs _)) (.cons (.tup ((g34.trans ge).tk _ _ elt) (.ints _)) (.cons (.tup (ge.tk _ _ ent) (.ints _)) (.cons (.int _) .nil)))))) ?_ rfl
  exact ⟨⟨by rw [List.length_map]; omega, by rw [List.length_map]; omega, hr0, hnl⟩, b.nd, Nat.le_trans hnl (by decide), fun x hx => hx⟩
end AW
namespace AW
open PySem PySem.Spec PyProof.Rows L2 RZ
open StX
local macro_rules | `(tactic| walk_at "aw1") => `(tactic| first
  | (with_reducible refine w_seq ?_) | (with_reducible refine w_asg ?_) | (with_reducible refine w_gname ?_) | (with_reducible refine w_op ?_) | (with_reducible refine w_un ?_)
  | ((with_reducible refine' w_var ?h ?_); (case h => rfl)) | (with_reducible refine w_c ?_)
  | (with_reducible refine w_I0 ?_) | (with_reducible refine w_U ?_) | (with_reducible refine w_cb ?_) | (with_reducible refine w_nil ?_) | (with_reducible refine w_cons ?_) | (with_reducible refine w_call ?_)
  | (with_reducible refine w_test ?_) | (with_reducible refine w_B ?_) | (with_reducible refine w_bl ?_) | (with_reducible refine w_not ?_) | (with_reducible refine w_yes ?_) | (with_reducible refine iteT ?_) | (with_reducible refine iteF ?_) | (with_reducible refine w_and ?_) | (with_reducible refine w_or ?_)
  | (with_reducible refine w_andV ?_) | (with_reducible refine w_orV ?_) | (with_reducible refine w_notV ?_) | (with_reducible refine w_if ?_)
  | (with_reducible refine w_int1 ?_) | (with_reducible refine w_int1b ?_) | (with_reducible refine w_abs ?_) | (with_reducible refine w_max2 ?_) | (with_reducible refine w_min2 ?_)
  | ((with_reducible refine w_eq ?h ?_); (case h => rfl)) | ((with_reducible refine w_ne ?h ?_); (case h => rfl)) | (with_reducible refine w_isN ?_) | (with_reducible refine w_isB ?_) | (with_reducible refine w_chain ?_)
  | (with_reducible refine w_ret ?_) | (with_reducible refine w_drop ?_) | (with_reducible refine w_ifS ?_) | (with_reducible refine w_gsub ?_) | (with_reducible refine w_augS ?_) | (with_reducible refine w_ipI ?_) | (with_reducible refine w_next ?_)
  | (with_reducible refine w_forR ?_) | (with_reducible refine w_forR2 ?_) | (with_reducible refine w_forL ?_) | (with_reducible refine w_forT ?_) | (with_reducible refine w_lcR ?_) | (with_reducible refine w_lcL ?_) | (with_reducible refine w_lcT ?_) | (with_reducible refine w_sl ?_) | (with_reducible refine w_part ?_) | (with_reducible refine w_noPart ?_) | (with_reducible refine w_in ?_)
  | (with_reducible refine w_gcons ?_) | (with_reducible refine w_gnil ?_) | (with_reducible refine w_lc3 ?_) | (with_reducible refine w_dcZ ?_) | (with_reducible refine w_dcT ?_) | (with_reducible refine w_dg ?_) | (with_reducible refine w_callK ?_) | (with_reducible refine w_dput ?_) | (with_reducible refine w_tup1 ?_)
  | (with_reducible refine w_tup ?_) | (with_reducible refine w_lst ?_)
  | ((with_reducible refine w_I ?h ?_); (case h => first | (exact Or.inr ⟨by decide, by decide⟩) | (exact Or.inl ⟨by decide, by decide⟩) | (show (0 : Int) < _; decide) | (exact ⟨by decide, by decide, by decide⟩) | assumption)))
local macro_rules | `(tactic| walk_at "aw") => `(tactic| repeat (walk_at "aw1"))
theorem w_slA {K : PySem.W.Frag} {p : Addr} {xs : List V} {lo hi : Option Int} {H : Hp} {Q : VK} (h : H p = some (.tup xs)) (q : ∀ t H', Adv [] H H' → H' t = some (.tup (cutV xs lo hi)) → Q (.ref t) H') : rSlA K (.ref p) lo hi H Q := by
  refine ⟨p, xs, rfl, SqT.of h, fun z => q p H (.refl _ _) ?_, fun _ => w_new fun r H' _ a e => q r H' a e⟩
  rw [h]
  unfold cutV
  rw [z.1, z.2]
  simp
theorem permS {H : Hp} {xs : List Str} {made left : List V} (h : (made ++ left).Perm (xs.map V.str)) : ∃ ms ls : List Str, made = ms.map V.str ∧ (ms ++ ls).Perm xs := by
  obtain ⟨es, h1, h2⟩ := permD (f := PyData.str) (H := H) h (IsAll.strs xs)
  obtain ⟨few, rest, rfl, _, h3, _⟩ := isall_take h2
  exact ⟨few, rest, h3.strs_inv, h1⟩
theorem SayOk.few {few doms : List (Str × List Int)} {s : Say} (h : SayOk few s) (f : Few few doms) : SayOk doms s := ⟨h.1, h.2.1, h.2.2.1, fun x hx => f.names x (h.2.2.2 x hx)⟩
theorem LsAt.take {H : Hp} {p : Addr} {doms : List (Str × List Int)} {k : Nat} (h : LsAt H p (doms.map domD)) : ∃ xs, H p = some (.lst xs) ∧ IsAll H ((doms.take k).map domD) (xs.take k) ∧ IsAll H ((doms.drop k).map domD) (xs.drop k) := by
  obtain ⟨xs, h1, h2⟩ := h
  have e : ∀ {k : Nat} {ds : List PyData} {vs : List V}, IsAll H ds vs → IsAll H (ds.take k) (vs.take k) ∧ IsAll H (ds.drop k) (vs.drop k) := by
    intro k
    induction k with
    | zero => exact fun h => ⟨.nil, h⟩
    | succ k ih =>
      intro ds vs h
      cases h with
      | nil => exact ⟨.nil, .nil⟩
      | cons a t => exact ⟨.cons a (ih t).1, (ih t).2⟩
  refine ⟨xs, h1, ?_, ?_⟩
  · rw [List.map_take]
    exact (e h2).1
  · rw [List.map_drop]
    exact (e h2).2
/-- the first k of the list, as a list of its own -/
theorem w_slB {K : PySem.W.Frag} {st : Addr} {cs : Addr × Addr} {p : Addr} {doms : List (Str × List Int)} {k : Nat} {H : Hp} {Q : VK} (b : Bx st cs p doms H) (hk : 0 < k) (q : ∀ r H', Adv [] H H' → Bx st cs r (doms.take k) H' → Q (.ref r) H') : rSlL K (.ref p) none (some (k : Nat)) H Q := by
  obtain ⟨xs, h1, h2, _⟩ := b.at_.take (k := k)
  refine w_slL (SqL.of h1) fun r H' nr a e => q r H' a ?_
  rw [cut_to _ (by omega), Int.toNat_natCast] at e
  have hp := b.pos
  exact b.sub (rest := doms.drop k) (Go.of b.ok a) (by rw [List.take_append_drop]) (by rw [List.length_take]; omega) (b.ok.ne nr).1 ⟨_, e, h2.up a.tup⟩
theorem w_slBd {K : PySem.W.Frag} {st : Addr} {cs : Addr × Addr} {p : Addr} {doms : List (Str × List Int)} {k : Nat} {H : Hp} {Q : VK} (b : Bx st cs p doms H) (hk : k < doms.length) (q : ∀ r H', Adv [] H H' → Bx st cs r (doms.drop k) H' → Q (.ref r) H') : rSlL K (.ref p) (some (k : Nat)) none H Q := by
  obtain ⟨xs, h1, _, h2⟩ := b.at_.take (k := k)
  refine w_slL (SqL.of h1) fun r H' nr a e => q r H' a ?_
  rw [cut_from _ (by omega), Int.toNat_natCast] at e
  exact b.sub (rest := doms.take k) (Go.of b.ok a) (List.perm_append_comm.trans (by rw [List.take_append_drop])) (by rw [List.length_drop]; omega) (b.ok.ne nr).1 ⟨_, e, h2.up a.tup⟩
theorem Few.take {doms : List (Str × List Int)} (k : Nat) : Few (doms.take k) doms := ⟨doms.drop k, by rw [List.take_append_drop]⟩
theorem Few.drop {doms : List (Str × List Int)} (k : Nat) : Few (doms.drop k) doms := ⟨doms.take k, List.perm_append_comm.trans (by rw [List.take_append_drop])⟩
theorem Few.trans {a b c : List (Str × List Int)} (h1 : Few a b) (h2 : Few b c) : Few a c := by
  obtain ⟨r1, p1⟩ := h1
  obtain ⟨r2, p2⟩ := h2
  refine ⟨r1 ++ r2, ?_⟩
  rw [← List.append_assoc]
  exact (p1.append_right r2).trans p2
theorem w_inS {x : Str} {p : Addr} {xs : List Str} {K : PySem.W.Frag} {H : Hp} {Q : VK} (h : H p = some (.lst (xs.map V.str))) (q : Q (.bl (decide (x ∈ xs))) H) : rIn K false (.str x) (.ref p) H Q := ⟨p, _, rfl, .inl (SqL.of h), rfl, flat_strs xs, by rw [inV_strs]; exact q⟩
def sp__law_inner (_ : PySem.W.Frag) : Sp := fun vs H Q _ => ∃ (st p : Addr) (kd : Str), vs = [.ref st, .ref p, .str kd] ∧ ∃ cs doms, Bx st cs p doms H ∧ ∀ v s H', Go st cs H H' → Is H' (sayD s) v → SayOk doms s → (s.isWhen || s.isClaim) = false → Q v H'
def KINDS : List Str := ["least", "same", "unlike", "counts", "table", "bar", "pick", "top", "product", "ahead", "machine", "works", "round", "claim", "when"]
def sp__law_kinds (_ : PySem.W.Frag) : Sp := fun vs H Q _ => vs = [] ∧ ∀ r H', H r = none → Adv [] H H' → H' r = some (.lst (KINDS.map V.str)) → Q (.ref r) H'
def t__law_kinds  : TS := (tSeq (tAsg (tLst (tCons (tC (.str "least")) (tCons (tC (.str "same")) (tCons (tC (.str "unlike")) (tCons (tC (.str "counts")) (tCons (tC (.str "table")) (tCons (tC (.str "bar")) (tCons (tC (.str "pick")) (tCons (tC (.str "top")) (tCons (tC (.str "product")) (tCons (tC (.str "ahead")) (tCons (tC (.str "machine")) (tCons (tC (.str "works")) (tCons (tC (.str "round")) tNil)))))))))))))) (gName 0))
  (tRet (tOp rCat (tVar 0) (tLst (tCons (tC (.str "claim")) (tCons (tC (.str "when")) tNil))))))
def t__law_inner (K : PySem.W.Frag) : TS := (tSeq (tAsg (tCB (rLen1 K) (tCons (tVar 1) tNil)) (gName 3))
  (tSeq (tAsg (tCall (sp__law_some K) [] E0 (tCons (tVar 0) (tCons (tVar 1) (tCons (tOp rAddI (tC (.int 1)) (tCall (sp__law_draw K) [] E0 (tCons (tVar 0) (tCons (tVar 3) tNil)))) tNil)))) (gName 4))
  (tSeq (tAsg (tThen (tLc (iList K (tVar 4)) (gName 6) tYes (tOp (rIxT K) (tVar 6) (tC (.int 0))) [6]) (kTup K)) (gName 5))
  (tSeq (tIfS (tOr (tTest (tOp rEq (tVar 2) (tC (.str "unlike")))) (tTest (tOp rEq (tVar 2) (tC (.str "round"))))) (tRet (tTup (tCons (tVar 2) (tCons (tVar 5) tNil)))) tNext)
  (tSeq (tIfS (tTest (tOp rEq (tVar 2) (tC (.str "counts")))) (tRet (tCall (sp__law_counted K) [] E0 (tCons (tVar 0) (tCons (tVar 4) tNil)))) tNext)
  (tSeq (tIfS (tTest (tOp rEq (tVar 2) (tC (.str "machine")))) (tRet (tCall (sp__law_machine K) [] E0 (tCons (tVar 0) (tCons (tVar 4) tNil)))) tNext)
  (tSeq (tIfS (tTest (tOp rEq (tVar 2) (tC (.str "works")))) (tRet (tCall (sp__law_works K) [] E0 (tCons (tVar 0) (tCons (tVar 4) tNil)))) tNext)
  (tSeq (tIfS (tTest (tOp (rIn K false) (tVar 2) (tLst (tCons (tC (.str "bar")) (tCons (tC (.str "product")) tNil))))) (tSeq (tAsg (tCall (sp__law_lot K) [] E0 (tCons (tVar 0) (tCons (tVar 1) (tCons (tIf (tTest (tOp rEq (tVar 2) (tC (.str "bar")))) (tC (.int 6)) (tC (.int 3))) tNil)))) (gName 4))
  (tAsg (tThen (tLc (iList K (tVar 4)) (gName 6) tYes (tOp (rIxT K) (tVar 6) (tC (.int 0))) [6]) (kTup K)) (gName 5))) tNext)
  (tSeq (tIfS (tTest (tOp (rIn K false) (tVar 2) (tLst (tCons (tC (.str "table")) (tCons (tC (.str "bar")) tNil))))) (tRet (tTup (tCons (tVar 2) (tCons (tSl (rSlA K) (tVar 5) tNoPart (tPart (tC (.int 6)))) (tCons (tCall (sp__law_rows K) [] E0 (tCons (tVar 0) (tCons (tSl (rSlL K) (tVar 4) tNoPart (tPart (tC (.int 6)))) tNil))) tNil))))) tNext)
  (tSeq (tIfS (tAnd (tTest (tOp rEq (tVar 2) (tC (.str "product")))) (tTest (tOp rEq (tCB (rLen1 K) (tCons (tVar 5) tNil)) (tC (.int 3))))) (tRet (tTup (tCons (tVar 2) (tCons (tOp (rIxT K) (tVar 5) (tC (.int 0))) (tCons (tOp (rIxT K) (tVar 5) (tC (.int 1))) (tCons (tOp (rIxT K) (tVar 5) (tC (.int 2))) tNil)))))) tNext)
  (tSeq (tIfS (tAnd (tTest (tOp rEq (tVar 2) (tC (.str "top")))) (tTest (tOp rGtI (tVar 3) (tC (.int 1))))) (tSeq (tAsg (tCall (sp__law_some K) [] E0 (tCons (tVar 0) (tCons (tLc (iList K (tVar 1)) (gName 6) tYes (tOp (rIxT K) (tVar 6) (tC (.int 0))) [6]) (tCons (tOp rAddI (tC (.int 2)) (tCall (sp__law_draw K) [] E0 (tCons (tVar 0) (tCons (tOp rSubI (tVar 3) (tC (.int 1))) tNil)))) tNil)))) (gName 4))
  (tRet (tTup (tCons (tVar 2) (tCons (tThen (tSl (rSlL K) (tVar 4) (tPart (tC (.int 1))) tNoPart) (kTup K)) (tCons (tOp (rIxL K) (tVar 4) (tC (.int 0))) tNil)))))) tNext)
  (tSeq (tIfS (tAnd (tTest (tOp rEq (tVar 2) (tC (.str "pick")))) (tTest (tOp rGtI (tVar 3) (tC (.int 2))))) (tSeq (tAsg (tCall (sp__law_some K) [] E0 (tCons (tVar 0) (tCons (tLc (iList K (tVar 1)) (gName 6) tYes (tOp (rIxT K) (tVar 6) (tC (.int 0))) [6]) (tCons (tOp rAddI (tC (.int 3)) (tCall (sp__law_draw K) [] E0 (tCons (tVar 0) (tCons (tOp rSubI (tVar 3) (tC (.int 2))) tNil)))) tNil)))) (gName 4))
  (tRet (tTup (tCons (tVar 2) (tCons (tOp (rIxL K) (tVar 4) (tC (.int 0))) (tCons (tThen (tSl (rSlL K) (tVar 4) (tPart (tC (.int 2))) tNoPart) (kTup K)) (tCons (tOp (rIxL K) (tVar 4) (tC (.int 1))) tNil))))))) tNext)
  (tSeq (tIfS (tAnd (tTest (tOp rEq (tVar 2) (tC (.str "ahead")))) (tTest (tOp rGtI (tVar 3) (tC (.int 1))))) (tSeq (tAsg (tOp rAddI (tC (.int 1)) (tCall (sp__law_draw K) [] E0 (tCons (tVar 0) (tCons (tCB rMin2 (tCons (tC (.int 6)) (tCons (tOp rDivI (tVar 3) (tC (.int 2))) tNil))) tNil)))) (gName 7))
  (tSeq (tAsg (tLc (iList K (tCall (sp__law_some K) [] E0 (tCons (tVar 0) (tCons (tVar 1) (tCons (tOp rMulI (tC (.int 2)) (tVar 7)) tNil))))) (gName 6) tYes (tOp (rIxT K) (tVar 6) (tC (.int 0))) [6]) (gName 4))
  (tRet (tTup (tCons (tVar 2) (tCons (tThen (tSl (rSlL K) (tVar 4) tNoPart (tPart (tVar 7))) (kTup K)) (tCons (tThen (tSl (rSlL K) (tVar 4) (tPart (tVar 7)) tNoPart) (kTup K)) tNil))))))) tNext)
  (tSeq (tAsg (tCall (sp__law_sum K) [] E0 (tCons (tVar 0) (tCons (tVar 4) tNil))) (gTup K 2 (gCons (gName 8) (gCons (gName 9) gNil))))
  (tRet (tTup (tCons (tIf (tTest (tOp rEq (tVar 2) (tC (.str "same")))) (tC (.str "same")) (tC (.str "least"))) (tCons (tVar 8) (tCons (tVar 9) tNil)))))))))))))))))))
theorem len__law_kinds {K : PySem.W.Frag} : ∀ (vs : List V) (H : Hp) (Q : VK) (E : XK), sp__law_kinds K vs H Q E → vs.length = 0 := fun vs H Q E h => by
  obtain ⟨rfl, _⟩ := h
  rfl
theorem pure__law_kinds {K : PySem.W.Frag} (vs : List V) (H : Hp) (Q : VK) (E : XK) (h : sp__law_kinds K vs H Q E) : t__law_kinds { nx := fun _ H' => Q .non H', rt := Q } (start ["kinds"] vs) H := by
  obtain ⟨rfl, q⟩ := h
  show t__law_kinds _ [none] H
  unfold t__law_kinds
  walk_at "aw"
  refine w_lstD (by show 13 ≤ 100000; decide) fun r1 H1 n1 a1 e1 => ?_
  walk_at "aw"
  refine w_lstD (by show 2 ≤ 100000; decide) fun r2 H2 n2 a2 e2 => ?_
  exact w_cat (a2.keep _ _ (fun z => nomatch z) e1) e2 (by show 15 ≤ 100000; decide) fun r3 H3 n3 a3 e3 => q r3 H3 (a1.free (fun z => nomatch z) (a2.free (fun z => nomatch z) n3)) ((a1.trans a2).trans a3) e3
theorem len__law_inner {K : PySem.W.Frag} : ∀ (vs : List V) (H : Hp) (Q : VK) (E : XK), sp__law_inner K vs H Q E → vs.length = 3 := fun vs H Q E h => by
  obtain ⟨_, _, _, rfl, _⟩ := h
  rfl
theorem pure__law_inner {K : PySem.W.Frag} (vs : List V) (H : Hp) (Q : VK) (E : XK) (h : sp__law_inner K vs H Q E) : t__law_inner K { nx := fun _ H' => Q .non H', rt := Q } (start ["bag", "xs", "kind", "many", "some", "names", "x", "half", "terms", "total"] vs) H := by
  obtain ⟨st, p, kd, rfl, cs, doms, b, q⟩ := h
  show t__law_inner K _ [some (.ref st), some (.ref p), some (.str kd), none, none, none, none, none, none, none] H
  have ok := b.ok
  have hlen := b.len
  have hpos := b.pos
  obtain ⟨xs, e1, e2, hxl, _⟩ := b.get
  -- the last way
  have fin : ∀ (H1 : Hp) (s4 : Addr) (few : List (Str × List Int)) (y5 y6 : Option V), Few few doms → Go st cs H H1 → Bx st cs s4 few H1 → (tSeq (tAsg (tCall (sp__law_sum K) [] E0 (tCons (tVar 0) (tCons (tVar 4) tNil))) (gTup K 2 (gCons (gName 8) (gCons (gName 9) gNil))))
  (tRet (tTup (tCons (tIf (tTest (tOp rEq (tVar 2) (tC (.str "same")))) (tC (.str "same")) (tC (.str "least"))) (tCons (tVar 8) (tCons (tVar 9) tNil)))))) { nx := fun _ H' => Q .non H', rt := Q } [some (.ref st), some (.ref p), some (.str kd), some (.int (doms.length : Nat)), some (.ref s4), y5, y6, none, none, none] H1 := by
    intro H1 s4 few y5 y6 hf g bf
    walk_at "aw"
    refine ⟨st, s4, rfl, cs, few, bf, fun v t ts n H2 g2 hv ht hts hwt => ?_⟩
    subst hv
    obtain ⟨u, et, hu⟩ := ht
    walk_at "aw"
    refine w_gtup (SqT.of et) rfl ?_
    have lst : ∀ (bb : Bool) (r : Addr) (H3 : Hp), Adv [] H2 H3 → H3 r = some (.tup [.str (sumW bb), u, .int n]) → Q (.ref r) H3 := fun bb r H3 a3 e3 => by
      have hfl := hf.len
      have hl : ts.length = few.length := by rw [← List.length_map (f := (·.1)), hts, List.length_map]
      refine q (.ref r) (.sums bb ts n) H3 ((g.trans g2).new a3) (.tup e3 (.cons (.str _) (.cons (hu.up a3.tup) (.cons (.int _) .nil)))) ⟨⟨by omega, hwt⟩, ?_, ?_, ?_⟩ rfl
      · show (ts.map (·.1)).Nodup
        rw [hts]
        exact bf.nd
      · show (ts.map (·.1)).length ≤ 1000
        rw [List.length_map]
        omega
      · intro x hx
        have hx : x ∈ ts.map (·.1) := hx
        rw [hts] at hx
        exact hf.names x hx
    walk_at "aw"
    refine w_iteB (fun h => ?_) fun h => ?_
    · walk_at "aw"
      exact w_tupD (by show 3 ≤ 100000; decide) fun r H3 nr a3 e3 => lst false r H3 a3 e3
    · walk_at "aw"
      exact w_tupD (by show 3 ≤ 100000; decide) fun r H3 nr a3 e3 => lst true r H3 a3 e3
  -- behind the lots: tables, products, tops, picks, aheads
  have B2 : ∀ (H1 : Hp) (s4 nt : Addr) (few : List (Str × List Int)) (y6 : Option V), Few few doms → Go st cs H H1 → Bx st cs s4 few H1 → H1 nt = some (.tup ((few.map (·.1)).map V.str)) →
      (tSeq (tIfS (tTest (tOp (rIn K false) (tVar 2) (tLst (tCons (tC (.str "table")) (tCons (tC (.str "bar")) tNil))))) (tRet (tTup (tCons (tVar 2) (tCons (tSl (rSlA K) (tVar 5) tNoPart (tPart (tC (.int 6)))) (tCons (tCall (sp__law_rows K) [] E0 (tCons (tVar 0) (tCons (tSl (rSlL K) (tVar 4) tNoPart (tPart (tC (.int 6)))) tNil))) tNil))))) tNext)
  (tSeq (tIfS (tAnd (tTest (tOp rEq (tVar 2) (tC (.str "product")))) (tTest (tOp rEq (tCB (rLen1 K) (tCons (tVar 5) tNil)) (tC (.int 3))))) (tRet (tTup (tCons (tVar 2) (tCons (tOp (rIxT K) (tVar 5) (tC (.int 0))) (tCons (tOp (rIxT K) (tVar 5) (tC (.int 1))) (tCons (tOp (rIxT K) (tVar 5) (tC (.int 2))) tNil)))))) tNext)
  (tSeq (tIfS (tAnd (tTest (tOp rEq (tVar 2) (tC (.str "top")))) (tTest (tOp rGtI (tVar 3) (tC (.int 1))))) (tSeq (tAsg (tCall (sp__law_some K) [] E0 (tCons (tVar 0) (tCons (tLc (iList K (tVar 1)) (gName 6) tYes (tOp (rIxT K) (tVar 6) (tC (.int 0))) [6]) (tCons (tOp rAddI (tC (.int 2)) (tCall (sp__law_draw K) [] E0 (tCons (tVar 0) (tCons (tOp rSubI (tVar 3) (tC (.int 1))) tNil)))) tNil)))) (gName 4))
  (tRet (tTup (tCons (tVar 2) (tCons (tThen (tSl (rSlL K) (tVar 4) (tPart (tC (.int 1))) tNoPart) (kTup K)) (tCons (tOp (rIxL K) (tVar 4) (tC (.int 0))) tNil)))))) tNext)
  (tSeq (tIfS (tAnd (tTest (tOp rEq (tVar 2) (tC (.str "pick")))) (tTest (tOp rGtI (tVar 3) (tC (.int 2))))) (tSeq (tAsg (tCall (sp__law_some K) [] E0 (tCons (tVar 0) (tCons (tLc (iList K (tVar 1)) (gName 6) tYes (tOp (rIxT K) (tVar 6) (tC (.int 0))) [6]) (tCons (tOp rAddI (tC (.int 3)) (tCall (sp__law_draw K) [] E0 (tCons (tVar 0) (tCons (tOp rSubI (tVar 3) (tC (.int 2))) tNil)))) tNil)))) (gName 4))
  (tRet (tTup (tCons (tVar 2) (tCons (tOp (rIxL K) (tVar 4) (tC (.int 0))) (tCons (tThen (tSl (rSlL K) (tVar 4) (tPart (tC (.int 2))) tNoPart) (kTup K)) (tCons (tOp (rIxL K) (tVar 4) (tC (.int 1))) tNil))))))) tNext)
  (tSeq (tIfS (tAnd (tTest (tOp rEq (tVar 2) (tC (.str "ahead")))) (tTest (tOp rGtI (tVar 3) (tC (.int 1))))) (tSeq (tAsg (tOp rAddI (tC (.int 1)) (tCall (sp__law_draw K) [] E0 (tCons (tVar 0) (tCons (tCB rMin2 (tCons (tC (.int 6)) (tCons (tOp rDivI (tVar 3) (tC (.int 2))) tNil))) tNil)))) (gName 7))
  (tSeq (tAsg (tLc (iList K (tCall (sp__law_some K) [] E0 (tCons (tVar 0) (tCons (tVar 1) (tCons (tOp rMulI (tC (.int 2)) (tVar 7)) tNil))))) (gName 6) tYes (tOp (rIxT K) (tVar 6) (tC (.int 0))) [6]) (gName 4))
  (tRet (tTup (tCons (tVar 2) (tCons (tThen (tSl (rSlL K) (tVar 4) tNoPart (tPart (tVar 7))) (kTup K)) (tCons (tThen (tSl (rSlL K) (tVar 4) (tPart (tVar 7)) tNoPart) (kTup K)) tNil))))))) tNext)
  (tSeq (tAsg (tCall (sp__law_sum K) [] E0 (tCons (tVar 0) (tCons (tVar 4) tNil))) (gTup K 2 (gCons (gName 8) (gCons (gName 9) gNil))))
  (tRet (tTup (tCons (tIf (tTest (tOp rEq (tVar 2) (tC (.str "same")))) (tC (.str "same")) (tC (.str "least"))) (tCons (tVar 8) (tCons (tVar 9) tNil))))))))))) { nx := fun _ H' => Q .non H', rt := Q } [some (.ref st), some (.ref p), some (.str kd), some (.int (doms.length : Nat)), some (.ref s4), some (.ref nt), y6, none, none, none] H1 := by
    intro H1 s4 nt few y6 hf g bf ent
    have hfl := hf.len
    have hfp := bf.pos
    walk_at "aw"
    refine w_lstD (by show 2 ≤ 100000; decide) fun r2 H2 nr2 a2 er2 => ?_
    refine w_inS (xs := ["table", "bar"]) er2 ?_
    have g2 := g.new a2
    have ent2 := a2.tup _ _ ent
    have bf2 := bf.go (Go.of g.ok a2)
    walk_at "aw"
    refine w_iteB (fun hk => ?_) fun hk1 => ?_
    · obtain ⟨bb, rfl⟩ : ∃ bb, kd = tabW bb := by
        simp only [List.mem_cons, List.not_mem_nil, or_false] at hk
        rcases hk with rfl | rfl
        · exact ⟨true, rfl⟩
        · exact ⟨false, rfl⟩
      walk_at "aw"
      refine w_slA ent2 fun t3 H3 a3 e3 => ?_
      rw [cut_to _ (by decide), ← List.map_take, ← List.map_take] at e3
      walk_at "aw"
      refine w_slB (k := 6) (bf2.go (Go.of g2.ok a3)) (by decide) fun r4 H4 a4 b4 => ?_
      walk_at "aw"
      refine ⟨st, r4, rfl, cs, _, b4, fun v rows H5 g5 hv hrl => ?_⟩
      walk_at "aw"
      refine w_tupD (by show 3 ≤ 100000; decide) fun r6 H6 n6 a6 e6 => ?_
      have gx := (((g2.new a3).new a4).trans g5).new a6
      have hl6 : ((few.take 6).map (·.1)).length ≤ 100 := by rw [List.length_map, List.length_take]; omega
      refine q (.ref r6) (.tab bb ((few.take 6).map (·.1)) rows) H6 gx (.tup e6 (.cons (.str _) (.cons (.tup (((Go.of (g2.new a3).ok a4).trans g5).new a6 |>.tk _ _ e3) (.strs _)) (.cons (hv.up a6.tup) .nil)))) ?_ rfl
      exact SayOk.few (few := few.take 6) ⟨⟨hl6, by omega⟩, b4.nd, Nat.le_trans hl6 (by decide), fun x hx => hx⟩ ((Few.take 6).trans hf)
    -- products
    have P3 : (tSeq (tIfS (tAnd (tTest (tOp rEq (tVar 2) (tC (.str "product")))) (tTest (tOp rEq (tCB (rLen1 K) (tCons (tVar 5) tNil)) (tC (.int 3))))) (tRet (tTup (tCons (tVar 2) (tCons (tOp (rIxT K) (tVar 5) (tC (.int 0))) (tCons (tOp (rIxT K) (tVar 5) (tC (.int 1))) (tCons (tOp (rIxT K) (tVar 5) (tC (.int 2))) tNil)))))) tNext)
  (tSeq (tIfS (tAnd (tTest (tOp rEq (tVar 2) (tC (.str "top")))) (tTest (tOp rGtI (tVar 3) (tC (.int 1))))) (tSeq (tAsg (tCall (sp__law_some K) [] E0 (tCons (tVar 0) (tCons (tLc (iList K (tVar 1)) (gName 6) tYes (tOp (rIxT K) (tVar 6) (tC (.int 0))) [6]) (tCons (tOp rAddI (tC (.int 2)) (tCall (sp__law_draw K) [] E0 (tCons (tVar 0) (tCons (tOp rSubI (tVar 3) (tC (.int 1))) tNil)))) tNil)))) (gName 4))
  (tRet (tTup (tCons (tVar 2) (tCons (tThen (tSl (rSlL K) (tVar 4) (tPart (tC (.int 1))) tNoPart) (kTup K)) (tCons (tOp (rIxL K) (tVar 4) (tC (.int 0))) tNil)))))) tNext)
  (tSeq (tIfS (tAnd (tTest (tOp rEq (tVar 2) (tC (.str "pick")))) (tTest (tOp rGtI (tVar 3) (tC (.int 2))))) (tSeq (tAsg (tCall (sp__law_some K) [] E0 (tCons (tVar 0) (tCons (tLc (iList K (tVar 1)) (gName 6) tYes (tOp (rIxT K) (tVar 6) (tC (.int 0))) [6]) (tCons (tOp rAddI (tC (.int 3)) (tCall (sp__law_draw K) [] E0 (tCons (tVar 0) (tCons (tOp rSubI (tVar 3) (tC (.int 2))) tNil)))) tNil)))) (gName 4))
  (tRet (tTup (tCons (tVar 2) (tCons (tOp (rIxL K) (tVar 4) (tC (.int 0))) (tCons (tThen (tSl (rSlL K) (tVar 4) (tPart (tC (.int 2))) tNoPart) (kTup K)) (tCons (tOp (rIxL K) (tVar 4) (tC (.int 1))) tNil))))))) tNext)
  (tSeq (tIfS (tAnd (tTest (tOp rEq (tVar 2) (tC (.str "ahead")))) (tTest (tOp rGtI (tVar 3) (tC (.int 1))))) (tSeq (tAsg (tOp rAddI (tC (.int 1)) (tCall (sp__law_draw K) [] E0 (tCons (tVar 0) (tCons (tCB rMin2 (tCons (tC (.int 6)) (tCons (tOp rDivI (tVar 3) (tC (.int 2))) tNil))) tNil)))) (gName 7))
  (tSeq (tAsg (tLc (iList K (tCall (sp__law_some K) [] E0 (tCons (tVar 0) (tCons (tVar 1) (tCons (tOp rMulI (tC (.int 2)) (tVar 7)) tNil))))) (gName 6) tYes (tOp (rIxT K) (tVar 6) (tC (.int 0))) [6]) (gName 4))
  (tRet (tTup (tCons (tVar 2) (tCons (tThen (tSl (rSlL K) (tVar 4) tNoPart (tPart (tVar 7))) (kTup K)) (tCons (tThen (tSl (rSlL K) (tVar 4) (tPart (tVar 7)) tNoPart) (kTup K)) tNil))))))) tNext)
  (tSeq (tAsg (tCall (sp__law_sum K) [] E0 (tCons (tVar 0) (tCons (tVar 4) tNil))) (gTup K 2 (gCons (gName 8) (gCons (gName 9) gNil))))
  (tRet (tTup (tCons (tIf (tTest (tOp rEq (tVar 2) (tC (.str "same")))) (tC (.str "same")) (tC (.str "least"))) (tCons (tVar 8) (tCons (tVar 9) tNil)))))))))) { nx := fun _ H' => Q .non H', rt := Q } [some (.ref st), some (.ref p), some (.str kd), some (.int (doms.length : Nat)), some (.ref s4), some (.ref nt), y6, none, none, none] H2 := by
      have T1 : (tSeq (tIfS (tAnd (tTest (tOp rEq (tVar 2) (tC (.str "top")))) (tTest (tOp rGtI (tVar 3) (tC (.int 1))))) (tSeq (tAsg (tCall (sp__law_some K) [] E0 (tCons (tVar 0) (tCons (tLc (iList K (tVar 1)) (gName 6) tYes (tOp (rIxT K) (tVar 6) (tC (.int 0))) [6]) (tCons (tOp rAddI (tC (.int 2)) (tCall (sp__law_draw K) [] E0 (tCons (tVar 0) (tCons (tOp rSubI (tVar 3) (tC (.int 1))) tNil)))) tNil)))) (gName 4))
  (tRet (tTup (tCons (tVar 2) (tCons (tThen (tSl (rSlL K) (tVar 4) (tPart (tC (.int 1))) tNoPart) (kTup K)) (tCons (tOp (rIxL K) (tVar 4) (tC (.int 0))) tNil)))))) tNext)
  (tSeq (tIfS (tAnd (tTest (tOp rEq (tVar 2) (tC (.str "pick")))) (tTest (tOp rGtI (tVar 3) (tC (.int 2))))) (tSeq (tAsg (tCall (sp__law_some K) [] E0 (tCons (tVar 0) (tCons (tLc (iList K (tVar 1)) (gName 6) tYes (tOp (rIxT K) (tVar 6) (tC (.int 0))) [6]) (tCons (tOp rAddI (tC (.int 3)) (tCall (sp__law_draw K) [] E0 (tCons (tVar 0) (tCons (tOp rSubI (tVar 3) (tC (.int 2))) tNil)))) tNil)))) (gName 4))
  (tRet (tTup (tCons (tVar 2) (tCons (tOp (rIxL K) (tVar 4) (tC (.int 0))) (tCons (tThen (tSl (rSlL K) (tVar 4) (tPart (tC (.int 2))) tNoPart) (kTup K)) (tCons (tOp (rIxL K) (tVar 4) (tC (.int 1))) tNil))))))) tNext)
  (tSeq (tIfS (tAnd (tTest (tOp rEq (tVar 2) (tC (.str "ahead")))) (tTest (tOp rGtI (tVar 3) (tC (.int 1))))) (tSeq (tAsg (tOp rAddI (tC (.int 1)) (tCall (sp__law_draw K) [] E0 (tCons (tVar 0) (tCons (tCB rMin2 (tCons (tC (.int 6)) (tCons (tOp rDivI (tVar 3) (tC (.int 2))) tNil))) tNil)))) (gName 7))
  (tSeq (tAsg (tLc (iList K (tCall (sp__law_some K) [] E0 (tCons (tVar 0) (tCons (tVar 1) (tCons (tOp rMulI (tC (.int 2)) (tVar 7)) tNil))))) (gName 6) tYes (tOp (rIxT K) (tVar 6) (tC (.int 0))) [6]) (gName 4))
  (tRet (tTup (tCons (tVar 2) (tCons (tThen (tSl (rSlL K) (tVar 4) tNoPart (tPart (tVar 7))) (kTup K)) (tCons (tThen (tSl (rSlL K) (tVar 4) (tPart (tVar 7)) tNoPart) (kTup K)) tNil))))))) tNext)
  (tSeq (tAsg (tCall (sp__law_sum K) [] E0 (tCons (tVar 0) (tCons (tVar 4) tNil))) (gTup K 2 (gCons (gName 8) (gCons (gName 9) gNil))))
  (tRet (tTup (tCons (tIf (tTest (tOp rEq (tVar 2) (tC (.str "same")))) (tC (.str "same")) (tC (.str "least"))) (tCons (tVar 8) (tCons (tVar 9) tNil))))))))) { nx := fun _ H' => Q .non H', rt := Q } [some (.ref st), some (.ref p), some (.str kd), some (.int (doms.length : Nat)), some (.ref s4), some (.ref nt), y6, none, none, none] H2 := by
        have T2 : (tSeq (tIfS (tAnd (tTest (tOp rEq (tVar 2) (tC (.str "pick")))) (tTest (tOp rGtI (tVar 3) (tC (.int 2))))) (tSeq (tAsg (tCall (sp__law_some K) [] E0 (tCons (tVar 0) (tCons (tLc (iList K (tVar 1)) (gName 6) tYes (tOp (rIxT K) (tVar 6) (tC (.int 0))) [6]) (tCons (tOp rAddI (tC (.int 3)) (tCall (sp__law_draw K) [] E0 (tCons (tVar 0) (tCons (tOp rSubI (tVar 3) (tC (.int 2))) tNil)))) tNil)))) (gName 4))
  (tRet (tTup (tCons (tVar 2) (tCons (tOp (rIxL K) (tVar 4) (tC (.int 0))) (tCons (tThen (tSl (rSlL K) (tVar 4) (tPart (tC (.int 2))) tNoPart) (kTup K)) (tCons (tOp (rIxL K) (tVar 4) (tC (.int 1))) tNil))))))) tNext)
  (tSeq (tIfS (tAnd (tTest (tOp rEq (tVar 2) (tC (.str "ahead")))) (tTest (tOp rGtI (tVar 3) (tC (.int 1))))) (tSeq (tAsg (tOp rAddI (tC (.int 1)) (tCall (sp__law_draw K) [] E0 (tCons (tVar 0) (tCons (tCB rMin2 (tCons (tC (.int 6)) (tCons (tOp rDivI (tVar 3) (tC (.int 2))) tNil))) tNil)))) (gName 7))
  (tSeq (tAsg (tLc (iList K (tCall (sp__law_some K) [] E0 (tCons (tVar 0) (tCons (tVar 1) (tCons (tOp rMulI (tC (.int 2)) (tVar 7)) tNil))))) (gName 6) tYes (tOp (rIxT K) (tVar 6) (tC (.int 0))) [6]) (gName 4))
  (tRet (tTup (tCons (tVar 2) (tCons (tThen (tSl (rSlL K) (tVar 4) tNoPart (tPart (tVar 7))) (kTup K)) (tCons (tThen (tSl (rSlL K) (tVar 4) (tPart (tVar 7)) tNoPart) (kTup K)) tNil))))))) tNext)
  (tSeq (tAsg (tCall (sp__law_sum K) [] E0 (tCons (tVar 0) (tCons (tVar 4) tNil))) (gTup K 2 (gCons (gName 8) (gCons (gName 9) gNil))))
  (tRet (tTup (tCons (tIf (tTest (tOp rEq (tVar 2) (tC (.str "same")))) (tC (.str "same")) (tC (.str "least"))) (tCons (tVar 8) (tCons (tVar 9) tNil)))))))) { nx := fun _ H' => Q .non H', rt := Q } [some (.ref st), some (.ref p), some (.str kd), some (.int (doms.length : Nat)), some (.ref s4), some (.ref nt), y6, none, none, none] H2 := by
          have T3 : (tSeq (tIfS (tAnd (tTest (tOp rEq (tVar 2) (tC (.str "ahead")))) (tTest (tOp rGtI (tVar 3) (tC (.int 1))))) (tSeq (tAsg (tOp rAddI (tC (.int 1)) (tCall (sp__law_draw K) [] E0 (tCons (tVar 0) (tCons (tCB rMin2 (tCons (tC (.int 6)) (tCons (tOp rDivI (tVar 3) (tC (.int 2))) tNil))) tNil)))) (gName 7))
  (tSeq (tAsg (tLc (iList K (tCall (sp__law_some K) [] E0 (tCons (tVar 0) (tCons (tVar 1) (tCons (tOp rMulI (tC (.int 2)) (tVar 7)) tNil))))) (gName 6) tYes (tOp (rIxT K) (tVar 6) (tC (.int 0))) [6]) (gName 4))
  (tRet (tTup (tCons (tVar 2) (tCons (tThen (tSl (rSlL K) (tVar 4) tNoPart (tPart (tVar 7))) (kTup K)) (tCons (tThen (tSl (rSlL K) (tVar 4) (tPart (tVar 7)) tNoPart) (kTup K)) tNil))))))) tNext)
  (tSeq (tAsg (tCall (sp__law_sum K) [] E0 (tCons (tVar 0) (tCons (tVar 4) tNil))) (gTup K 2 (gCons (gName 8) (gCons (gName 9) gNil))))
  (tRet (tTup (tCons (tIf (tTest (tOp rEq (tVar 2) (tC (.str "same")))) (tC (.str "same")) (tC (.str "least"))) (tCons (tVar 8) (tCons (tVar 9) tNil))))))) { nx := fun _ H' => Q .non H', rt := Q } [some (.ref st), some (.ref p), some (.str kd), some (.int (doms.length : Nat)), some (.ref s4), some (.ref nt), y6, none, none, none] H2 := by
            have f2 := fin H2 s4 few (some (.ref nt)) y6 hf g2 bf2
            walk_at "aw"
            refine w_iteB (fun hk => ?_) fun _ => ?_
            · cases V.str.inj hk
              walk_at "aw"
              refine w_iteB (fun hm => ?_) fun _ => ?_
              · walk_at "aw"
                refine w_I ⟨by decide, by decide⟩ ?_
                walk_at "aw"
                generalize hh : (if ((doms.length : Nat) : Int) / 2 < 6 then ((doms.length : Nat) : Int) / 2 else 6) = mm
                have hmm : 0 < mm ∧ mm ≤ ((doms.length : Nat) : Int) / 2 := by
                  rw [← hh]
                  split <;> omega
                refine w_draw g2.ok hmm.1 (by omega) fun hf0 H3 h0 h1 g3 => ?_
                obtain ⟨half, ehalf, hh0, hh1⟩ : ∃ half : Nat, 1 + hf0 = (half : Int) ∧ 0 < half ∧ 2 * half ≤ doms.length := ⟨(1 + hf0).toNat, by omega, by omega, by omega⟩
                walk_at "aw"
                rw [ehalf]
                rw [show (2 : Int) * (half : Nat) = ((2 * half : Nat) : Int) by omega]
                have g23 := g2.trans g3
                refine w_some (b.go g23) (by omega) hh1 fun r4 few4 rest4 H4 hp4 hl4 g4 nr4 b4 => ?_
                refine w_namesL b4 (fun _ => rfl) (fun _ => rfl) fun l5 H5 nl5 a5 el5 => ?_
                walk_at "aw"
                have eh : ((few4.map (·.1)).map V.str).length = 2 * half := by rw [List.length_map, List.length_map, hl4]
                refine w_slL (SqL.of el5) fun r6 H6 nr6 a6 e6 => ?_
                rw [cut_to _ (by omega), Int.toNat_natCast, ← List.map_take] at e6
                refine w_tupL (SqL.of e6) fun t7 H7 n7 a7 e7 => ?_
                walk_at "aw"
                refine w_slL (SqL.of ((a6.trans a7).keep _ _ (fun z => nomatch z) el5)) fun r8 H8 nr8 a8 e8 => ?_
                rw [cut_from _ (by omega), Int.toNat_natCast, ← List.map_drop] at e8
                refine w_tupL (SqL.of e8) fun t9 H9 n9 a9 e9 => ?_
                walk_at "aw"
                refine w_tupD (by show 3 ≤ 100000; decide) fun rt H10 nrt a10 ert => ?_
                have gx := (((((((g23.trans g4).new a5).new a6).new a7).new a8).new a9).new a10)
                have hnl : (few4.map (·.1)).length = 2 * half := by rw [List.length_map, hl4]
                refine q (.ref rt) (.ahead ((few4.map (·.1)).take half) ((few4.map (·.1)).drop half)) H10 gx (.tup ert (.cons (.str _) (.cons (.tup ((a8.trans (a9.trans a10)).tup _ _ e7) (.strs _)) (.cons (.tup (a10.tup _ _ e9) (.strs _)) .nil)))) ?_ rfl
                have en : (Say.ahead ((few4.map (·.1)).take half) ((few4.map (·.1)).drop half)).names = few4.map (·.1) := List.take_append_drop _ _
                refine SayOk.few (few := few4) ⟨⟨by rw [List.length_take, List.length_drop]; omega, by rw [List.length_take]; omega⟩, ?_, by rw [en]; omega, fun x hx => by rw [en] at hx; exact hx⟩ ⟨_, hp4⟩
                show ((few4.map (·.1)).take half ++ (few4.map (·.1)).drop half).Nodup
                rw [List.take_append_drop]
                exact b4.nd
              · walk_at "aw1"
                exact f2
            · walk_at "aw1"
              exact f2
          walk_at "aw"
          refine w_iteB (fun hk => ?_) fun _ => ?_
          · cases V.str.inj hk
            walk_at "aw"
            refine w_iteB (fun hm => ?_) fun _ => ?_
            · walk_at "aw"
              refine w_namesL (b.go g2) (fun _ => rfl) (fun _ => rfl) fun l3 H3 nl3 a3 el3 => ?_
              have g3 := g2.new a3
              walk_at "aw"
              refine w_draw g3.ok (by omega) (by omega) fun n H4 n0 n1 g4 => ?_
              obtain ⟨k, rfl⟩ : ∃ k : Nat, n = (k : Int) := ⟨n.toNat, by omega⟩
              walk_at "aw"
              refine ⟨st, _, 3 + k, by rw [Int.natCast_add]; rfl, cs, _, g4.ok, .inl ⟨l3, rfl, .inl (SqL.of (g4.keep (g2.ok.ne nl3).1 el3))⟩, by rw [List.length_map, List.length_map]; omega, by rw [List.length_map, List.length_map]; omega, fun r made left H5 hperm hml nr g5 er => ?_⟩
              obtain ⟨ms, ls, rfl, hms⟩ := permS (H := H5) hperm
              rw [List.length_map] at hml
              obtain ⟨i0, r0, rs, rfl⟩ : ∃ i0 r0 rs, ms = i0 :: r0 :: rs := by
                match ms, hml with
                | i0 :: r0 :: rs, _ => exact ⟨i0, r0, rs, rfl⟩
                | [_], h => simp at h; omega
                | [], h => simp at h; omega
              have hnd := (List.nodup_append.mp (hms.symm.nodup b.nd)).1
              have hsub : ∀ x ∈ i0 :: r0 :: rs, x ∈ doms.map (·.1) := fun x hx => hms.mem_iff.mp (List.mem_append_left _ hx)
              walk_at "aw"
              refine w_ixL (SqL.of er) (at_of (j := 0) rfl rfl) ?_
              walk_at "aw"
              refine w_slL (SqL.of er) fun r6 H6 nr6 a6 e6 => ?_
              rw [cut_from _ (by decide)] at e6
              refine w_tupL (SqL.of e6) fun t7 H7 n7 a7 e7 => ?_
              walk_at "aw"
              refine w_ixL (SqL.of ((a6.trans a7).keep _ _ (fun z => nomatch z) er)) (at_of (j := 1) rfl rfl) ?_
              walk_at "aw"
              refine w_tupD (by show 4 ≤ 100000; decide) fun rt H8 nrt a8 ert => ?_
              have gx := ((((g3.trans g4).trans g5).new a6).new a7).new a8
              refine q (.ref rt) (.pick i0 rs r0) H8 gx (.tup ert (.cons (.str _) (.cons (.str _) (.cons (.tup (a8.tup _ _ e7) (.strs rs)) (.cons (.str _) .nil))))) ⟨?_, ?_, ?_, fun x hx => ?_⟩ rfl
              · show rs.length ≤ 100
                simp at hml
                omega
              · show (i0 :: (rs ++ [r0])).Nodup
                exact (List.Perm.cons i0 (List.perm_append_comm (l₁ := [r0]) (l₂ := rs))).nodup hnd
              · show (i0 :: (rs ++ [r0])).length ≤ 1000
                simp at hml ⊢
                omega
              · refine hsub x ((List.Perm.cons i0 (List.perm_append_comm (l₁ := [r0]) (l₂ := rs))).mem_iff.mpr hx)
            · walk_at "aw1"
              exact T3
          · walk_at "aw1"
            exact T3
        walk_at "aw"
        refine w_iteB (fun hk => ?_) fun _ => ?_
        · cases V.str.inj hk
          walk_at "aw"
          refine w_iteB (fun hm => ?_) fun _ => ?_
          · walk_at "aw"
            refine w_namesL (b.go g2) (fun _ => rfl) (fun _ => rfl) fun l3 H3 nl3 a3 el3 => ?_
            have g3 := g2.new a3
            walk_at "aw"
            refine w_draw g3.ok (by omega) (by omega) fun n H4 n0 n1 g4 => ?_
            obtain ⟨k, rfl⟩ : ∃ k : Nat, n = (k : Int) := ⟨n.toNat, by omega⟩
            walk_at "aw"
            refine ⟨st, _, 2 + k, by rw [Int.natCast_add]; rfl, cs, _, g4.ok, .inl ⟨l3, rfl, .inl (SqL.of (g4.keep (g2.ok.ne nl3).1 el3))⟩, by rw [List.length_map, List.length_map]; omega, by rw [List.length_map, List.length_map]; omega, fun r made left H5 hperm hml nr g5 er => ?_⟩
            obtain ⟨ms, ls, rfl, hms⟩ := permS (H := H5) hperm
            rw [List.length_map] at hml
            obtain ⟨r0, i0, rs, rfl⟩ : ∃ r0 i0 rs, ms = r0 :: i0 :: rs := by
              match ms, hml with
              | i0 :: r0 :: rs, _ => exact ⟨i0, r0, rs, rfl⟩
              | [_], h => simp at h; omega
              | [], h => simp at h; omega
            have hnd := (List.nodup_append.mp (hms.symm.nodup b.nd)).1
            have hsub : ∀ x ∈ r0 :: i0 :: rs, x ∈ doms.map (·.1) := fun x hx => hms.mem_iff.mp (List.mem_append_left _ hx)
            walk_at "aw"
            refine w_slL (SqL.of er) fun r6 H6 nr6 a6 e6 => ?_
            rw [cut_from _ (by decide)] at e6
            refine w_tupL (SqL.of e6) fun t7 H7 n7 a7 e7 => ?_
            walk_at "aw"
            refine w_ixL (SqL.of ((a6.trans a7).keep _ _ (fun z => nomatch z) er)) (at_of (j := 0) rfl rfl) ?_
            walk_at "aw"
            refine w_tupD (by show 3 ≤ 100000; decide) fun rt H8 nrt a8 ert => ?_
            have gx := ((((g3.trans g4).trans g5).new a6).new a7).new a8
            have hpr : (r0 :: i0 :: rs).Perm (i0 :: rs ++ [r0]) := List.perm_append_comm (l₁ := [r0]) (l₂ := i0 :: rs)
            refine q (.ref rt) (.top (i0 :: rs) r0) H8 gx (.tup ert (.cons (.str _) (.cons (.tup (a8.tup _ _ e7) (.strs (i0 :: rs))) (.cons (.str _) .nil)))) ⟨⟨?_, ?_, fun x hx => ?_⟩, ?_, ?_, fun x hx => ?_⟩ rfl
            · simp
            · simp at hml ⊢
              omega
            · obtain ⟨d, hd, rfl⟩ := List.mem_map.mp (hsub x (List.mem_cons_of_mem _ hx))
              exact b.oks d hd
            · show (i0 :: rs ++ [r0]).Nodup
              exact hpr.nodup hnd
            · show (i0 :: rs ++ [r0]).length ≤ 1000
              simp at hml ⊢
              omega
            · exact hsub x (hpr.mem_iff.mpr hx)
          · walk_at "aw1"
            exact T2
        · walk_at "aw1"
          exact T2
      walk_at "aw"
      refine w_iteB (fun hk => ?_) fun _ => ?_
      · cases V.str.inj hk
        walk_at "aw"
        refine w_lenT (SqT.of ent2) ?_
        walk_at "aw"
        refine w_iteB (fun hm => ?_) fun _ => ?_
        · have hm3 : few.length = 3 := by
            have := V.int.inj hm
            rw [List.length_map, List.length_map] at this
            omega
          obtain ⟨d1, d2, d3, rfl⟩ : ∃ d1 d2 d3, few = [d1, d2, d3] := by
            match few, hm3 with
            | [d1, d2, d3], _ => exact ⟨d1, d2, d3, rfl⟩
          walk_at "aw"
          refine w_ixT (SqT.of ent2) (at_of (j := 0) rfl rfl) ?_
          walk_at "aw"
          refine w_ixT (SqT.of ent2) (at_of (j := 1) rfl rfl) ?_
          walk_at "aw"
          refine w_ixT (SqT.of ent2) (at_of (j := 2) rfl rfl) ?_
          walk_at "aw"
          refine w_tupD (by show 4 ≤ 100000; decide) fun rt H8 nrt a8 ert => ?_
          refine q (.ref rt) (.prod d1.1 d2.1 d3.1) H8 (g2.new a8) (.tup ert (.cons (.str _) (.cons (.str _) (.cons (.str _) (.cons (.str _) .nil))))) ?_ rfl
          exact SayOk.few (few := [d1, d2, d3]) ⟨trivial, bf.nd, by show 3 ≤ 1000; decide, fun x hx => hx⟩ hf
        · walk_at "aw1"
          exact T1
      · walk_at "aw1"
        exact T1
    walk_at "aw1"
    exact P3
  unfold t__law_inner
  walk_at "aw"
  refine w_lenL (SqL.of e1) ?_
  walk_at "aw"
  rw [hxl]
  refine w_draw ok (by omega) (by omega) fun n H1 n0 n1 g1 => ?_
  obtain ⟨k, rfl⟩ : ∃ k : Nat, n = (k : Int) := ⟨n.toNat, by omega⟩
  walk_at "aw"
  rw [show (1 : Int) + (k : Nat) = ((1 + k : Nat) : Int) by omega]
  refine w_some (b.go g1) (by omega) (by omega) fun s4 few rest H2 hp4 hl4 g2 nr4 b4 => ?_
  have hf : Few few doms := ⟨_, hp4⟩
  have hfl := hf.len
  walk_at "aw"
  refine w_namesT b4 (fun _ => rfl) (fun _ => rfl) fun nt H3 a3 ent => ?_
  have g3 := (g1.trans g2).new a3
  have b3 := b4.go (Go.of b4.ok a3)
  have hnl : (few.map (·.1)).length ≤ 100 := by rw [List.length_map]; omega
  walk_at "aw"
  refine w_iteB (fun hk => ?_) fun _ => ?_
  · cases V.str.inj hk
    walk_at "aw"
    refine w_tupD (by show 2 ≤ 100000; decide) fun rt H8 nrt a8 ert => ?_
    refine q (.ref rt) (.unlike (few.map (·.1))) H8 (g3.new a8) (.tup ert (.cons (.str _) (.cons (.tup (a8.tup _ _ ent) (.strs _)) .nil))) ?_ rfl
    exact SayOk.few (few := few) ⟨hnl, b4.nd, Nat.le_trans hnl (by decide), fun x hx => hx⟩ hf
  walk_at "aw"
  refine w_iteB (fun hk => ?_) fun _ => ?_
  · cases V.str.inj hk
    walk_at "aw"
    refine w_tupD (by show 2 ≤ 100000; decide) fun rt H8 nrt a8 ert => ?_
    refine q (.ref rt) (.round (few.map (·.1))) H8 (g3.new a8) (.tup ert (.cons (.str _) (.cons (.tup (a8.tup _ _ ent) (.strs _)) .nil))) ?_ rfl
    exact SayOk.few (few := few) ⟨⟨by rw [List.length_map]; omega, hnl⟩, b4.nd, Nat.le_trans hnl (by decide), fun x hx => hx⟩ hf
  walk_at "aw"
  refine w_iteB (fun _ => ?_) fun _ => ?_
  · walk_at "aw"
    exact ⟨st, s4, rfl, cs, few, b3, fun v s H5 g5 hv so hw => q v s H5 (g3.trans g5) hv (so.few hf) hw⟩
  walk_at "aw"
  refine w_iteB (fun _ => ?_) fun _ => ?_
  · walk_at "aw"
    exact ⟨st, s4, rfl, cs, few, b3, fun v s H5 g5 hv so hw => q v s H5 (g3.trans g5) hv (so.few hf) hw⟩
  walk_at "aw"
  refine w_iteB (fun _ => ?_) fun _ => ?_
  · walk_at "aw"
    exact ⟨st, s4, rfl, cs, few, b3, fun v s H5 g5 hv so hw => q v s H5 (g3.trans g5) hv (so.few hf) hw⟩
  walk_at "aw"
  refine w_lstD (by show 2 ≤ 100000; decide) fun r4 H4 nr4 a4 er4 => ?_
  refine w_inS (xs := ["bar", "product"]) er4 ?_
  have g4 := g3.new a4
  walk_at "aw"
  refine w_iteB (fun hk => ?_) fun _ => ?_
  · simp only [List.mem_cons, List.not_mem_nil, or_false] at hk
    rcases hk with rfl | rfl
    · walk_at "aw"
      refine w_iteB (fun h => ?_) fun h => absurd rfl h
      walk_at "aw"
      refine ⟨st, p, 6, rfl, cs, doms, b.go g4, by decide, fun r5 few5 H5 hf5 hl5 g5 nr5 b5 => ?_⟩
      walk_at "aw"
      refine w_namesT b5 (fun _ => rfl) (fun _ => rfl) fun nt6 H6 a6 ent6 => ?_
      walk_at "aw1"
      exact B2 H6 r5 nt6 few5 _ hf5 ((g4.trans g5).new a6) (b5.go (Go.of b5.ok a6)) ent6
    · walk_at "aw"
      refine w_iteB (fun h => absurd (V.str.inj h) (by decide)) fun h => ?_
      walk_at "aw"
      refine ⟨st, p, 3, rfl, cs, doms, b.go g4, by decide, fun r5 few5 H5 hf5 hl5 g5 nr5 b5 => ?_⟩
      walk_at "aw"
      refine w_namesT b5 (fun _ => rfl) (fun _ => rfl) fun nt6 H6 a6 ent6 => ?_
      walk_at "aw1"
      exact B2 H6 r5 nt6 few5 _ hf5 ((g4.trans g5).new a6) (b5.go (Go.of b5.ok a6)) ent6
  · walk_at "aw1"
    exact B2 H4 s4 nt few _ hf g4 (b3.go (Go.of g3.ok a4)) (a4.tup _ _ ent)
end AW
namespace AW
open PySem PySem.Spec PyProof.Rows L2 RZ
open StX
local macro_rules | `(tactic| walk_at "aw1") => `(tactic| first
  | (with_reducible refine w_seq ?_) | (with_reducible refine w_asg ?_) | (with_reducible refine w_gname ?_) | (with_reducible refine w_op ?_) | (with_reducible refine w_un ?_)
  | ((with_reducible refine' w_var ?h ?_); (case h => rfl)) | (with_reducible refine w_c ?_)
  | (with_reducible refine w_I0 ?_) | (with_reducible refine w_U ?_) | (with_reducible refine w_cb ?_) | (with_reducible refine w_nil ?_) | (with_reducible refine w_cons ?_) | (with_reducible refine w_call ?_)
  | (with_reducible refine w_test ?_) | (with_reducible refine w_B ?_) | (with_reducible refine w_bl ?_) | (with_reducible refine w_not ?_) | (with_reducible refine w_yes ?_) | (with_reducible refine iteT ?_) | (with_reducible refine iteF ?_) | (with_reducible refine w_and ?_) | (with_reducible refine w_or ?_)
  | (with_reducible refine w_andV ?_) | (with_reducible refine w_orV ?_) | (with_reducible refine w_notV ?_) | (with_reducible refine w_if ?_)
  | (with_reducible refine w_int1 ?_) | (with_reducible refine w_int1b ?_) | (with_reducible refine w_abs ?_) | (with_reducible refine w_max2 ?_) | (with_reducible refine w_min2 ?_)
  | ((with_reducible refine w_eq ?h ?_); (case h => rfl)) | ((with_reducible refine w_ne ?h ?_); (case h => rfl)) | (with_reducible refine w_isN ?_) | (with_reducible refine w_isB ?_) | (with_reducible refine w_chain ?_)
  | (with_reducible refine w_ret ?_) | (with_reducible refine w_drop ?_) | (with_reducible refine w_ifS ?_) | (with_reducible refine w_gsub ?_) | (with_reducible refine w_augS ?_) | (with_reducible refine w_ipI ?_) | (with_reducible refine w_next ?_)
  | (with_reducible refine w_forR ?_) | (with_reducible refine w_forR2 ?_) | (with_reducible refine w_forL ?_) | (with_reducible refine w_forT ?_) | (with_reducible refine w_lcR ?_) | (with_reducible refine w_lcL ?_) | (with_reducible refine w_lcT ?_) | (with_reducible refine w_sl ?_) | (with_reducible refine w_part ?_) | (with_reducible refine w_noPart ?_) | (with_reducible refine w_in ?_)
  | (with_reducible refine w_gcons ?_) | (with_reducible refine w_gnil ?_) | (with_reducible refine w_lc3 ?_) | (with_reducible refine w_dcZ ?_) | (with_reducible refine w_dcT ?_) | (with_reducible refine w_dg ?_) | (with_reducible refine w_callK ?_) | (with_reducible refine w_dput ?_) | (with_reducible refine w_tup1 ?_)
  | (with_reducible refine w_tup ?_) | (with_reducible refine w_lst ?_)
  | ((with_reducible refine w_I ?h ?_); (case h => first | (exact Or.inr ⟨by decide, by decide⟩) | (exact Or.inl ⟨by decide, by decide⟩) | (show (0 : Int) < _; decide) | (exact ⟨by decide, by decide, by decide⟩) | assumption)))
local macro_rules | `(tactic| walk_at "aw") => `(tactic| repeat (walk_at "aw1"))
/-- right unknowns -/
structure Dm (doms : List (Str × List Int)) : Prop where
  pos : 0 < doms.length
  len : doms.length ≤ 40
  dz : ∀ q ∈ doms, 0 < q.2.length ∧ q.2.length ≤ 100
  nd : (doms.map (·.1)).Nodup
  oks : ∀ q ∈ doms, okS q.1
theorem Dm.sub {doms few rest : List (Str × List Int)} (b : Dm doms) (hp : (few ++ rest).Perm doms) (h0 : 0 < few.length) : Dm few := by
  have hm : ∀ d ∈ few, d ∈ doms := fun d hd => hp.mem_iff.mp (List.mem_append_left _ hd)
  have hl := hp.length_eq
  rw [List.length_append] at hl
  have hlen := b.len
  refine ⟨h0, by omega, fun d hd => b.dz d (hm d hd), ?_, fun d hd => b.oks d (hm d hd)⟩
  have := (hp.map (·.1)).symm.nodup b.nd
  rw [List.map_append] at this
  exact (List.nodup_append.mp this).1
theorem Dm.bx {st : Addr} {cs : Addr × Addr} {p : Addr} {doms : List (Str × List Int)} {H : Hp} (d : Dm doms) (ok : StOk st cs H) (off : Off p st cs) (h : LsAt H p (doms.map domD)) : Bx st cs p doms H := ⟨ok, off, h, d.pos, d.len, d.dz, d.nd, d.oks⟩
/-- some of them, out of any lot -/
theorem w_someX {K : PySem.W.Frag} {E : XK} {st : Addr} {cs : Addr × Addr} {t : V} {m : Nat} {xs : List V} {doms : List (Str × List Int)} {H : Hp} {Q : VK} (d : Dm doms) (ok : StOk st cs H) (hs : Src K H t xs) (ha : IsAll H (doms.map domD) xs) (h0 : 0 < m) (h1 : m ≤ doms.length)
    (q : ∀ r few rest H', (few ++ rest).Perm doms → few.length = m → Go st cs H H' → H r = none → Bx st cs r few H' → Q (.ref r) H') : sp__law_some K [.ref st, t, .int (m : Nat)] H Q E := by
  have hl : xs.length = doms.length := by rw [ha.length, List.length_map]
  have hlen := d.len
  refine ⟨st, t, m, rfl, cs, xs, ok, hs, by omega, by omega, fun r made left H' hp hm nr g er => ?_⟩
  obtain ⟨es, p1, p2⟩ := permD hp (ha.up g.tk)
  obtain ⟨few, rest, rfl, h3, h4, h5⟩ := isall_take p2
  exact q r few rest H' p1 (by omega) g nr ((d.sub p1 (by omega)).bx g.ok (ok.ne nr).1 ⟨made, er, h4⟩)
theorem w_pickK {K : PySem.W.Frag} {E : XK} {st : Addr} {cs : Addr × Addr} {p : Addr} {ns : List Str} {H : Hp} {Q : VK} (ok : StOk st cs H) (e : H p = some (.lst (ns.map V.str))) (off : Off p st cs) (h0 : 0 < ns.length) (h1 : ns.length < 100000) (q : ∀ n, n ∈ ns → ∀ H', Go st cs H H' → Q (.str n) H') : sp__law_pick K [.ref st, .ref p] H Q E :=
  ⟨st, p, rfl, cs, _, ok, .inl ⟨SqL.of e, off⟩, by rw [List.length_map]; exact h0, by rw [List.length_map]; omega, fun i v H' e g => by
    rw [List.getElem?_map] at e
    obtain ⟨n, hn, rfl⟩ := Option.map_eq_some_iff.mp e
    exact q n (List.mem_of_getElem? hn) H' g⟩
def sp__law_apart (K : PySem.W.Frag) : Sp := fun vs H Q _ => ∃ (st : Addr) (v : V), vs = [.ref st, v] ∧ ∃ (cs : Addr × Addr) (doms : List (Str × List Int)) (xs : List V), StOk st cs H ∧ Src K H v xs ∧ IsAll H (doms.map domD) xs ∧ Dm doms ∧ 2 ≤ doms.length ∧
  ∀ v s H', Go st cs H H' → Is H' (sayD s) v → SayOk doms s → Q v H'
def sp__law_saying (_ : PySem.W.Frag) (m : Nat) : Sp := fun vs H Q _ => ∃ (st p : Addr) (kd : Str), vs = [.ref st, .ref p, .str kd] ∧ ∃ cs doms, Bx st cs p doms H ∧ 0 < m ∧ (kd = "when" → 1 < m) ∧ ∀ v s H', Go st cs H H' → Is H' (sayD s) v → SayOk doms s → (kd ≠ "when" → s.isWhen = false ∧ s.names.length ≤ 900) → Q v H'
def t__law_apart (K : PySem.W.Frag) : TS := (tSeq (tAsg (tCall (sp__law_some K) [] E0 (tCons (tVar 0) (tCons (tVar 1) (tCons (tC (.int 2)) tNil)))) (gName 2))
  (tRet (tTup (tCons (tC (.str "when")) (tCons (tCall (sp__law_right_claim K) [] E0 (tCons (tVar 0) (tCons (tSl (rSlL K) (tVar 2) tNoPart (tPart (tC (.int 1)))) tNil))) (tCons (tTup (tCons (tC (.str "claim")) (tCons (tCall (sp__law_right_claim K) [] E0 (tCons (tVar 0) (tCons (tSl (rSlL K) (tVar 2) (tPart (tC (.int 1))) tNoPart) tNil))) tNil))) tNil))))))
def t__law_saying (K : PySem.W.Frag) (m : Nat) : TS := (tSeq (tIfS (tTest (tOp rEq (tVar 2) (tC (.str "claim")))) (tRet (tTup (tCons (tVar 2) (tCons (tCall (sp__law_right_claim K) [] E0 (tCons (tVar 0) (tCons (tCall (sp__law_lot K) [] E0 (tCons (tVar 0) (tCons (tVar 1) (tCons (tC (.int 3)) tNil)))) tNil))) tNil)))) tNext)
  (tSeq (tIfS (tAnd (tTest (tOp rEq (tVar 2) (tC (.str "when")))) (tAnd (tTest (tOp rGtI (tCB (rLen1 K) (tCons (tVar 1) tNil)) (tC (.int 1)))) (tTest (tOp rEq (tCall (sp__law_draw K) [] E0 (tCons (tVar 0) (tCons (tC (.int 4)) tNil))) (tC (.int 0)))))) (tRet (tCall (sp__law_apart K) [] E0 (tCons (tVar 0) (tCons (tVar 1) tNil)))) tNext)
  (tSeq (tIfS (tTest (tOp rEq (tVar 2) (tC (.str "when")))) (tSeq (tAsg (tCall (sp__law_pick K) [] E0 (tCons (tVar 0) (tCons (tSl (rSlL K) (tCall (sp__law_kinds K) [] E0 tNil) tNoPart (tPart (tC (.int 14)))) tNil))) (gName 3))
  (tRet (tTup (tCons (tVar 2) (tCons (tCall (sp__law_right_claim K) [] E0 (tCons (tVar 0) (tCons (tCall (sp__law_lot K) [] E0 (tCons (tVar 0) (tCons (tVar 1) (tCons (tC (.int 3)) tNil)))) tNil))) (tCons (tCall (sp__law_saying K m) [] E0 (tCons (tVar 0) (tCons (tVar 1) (tCons (tVar 3) tNil)))) tNil)))))) tNext)
  (tRet (tCall (sp__law_inner K) [] E0 (tCons (tVar 0) (tCons (tVar 1) (tCons (tVar 2) tNil))))))))
theorem len__law_apart {K : PySem.W.Frag} : ∀ (vs : List V) (H : Hp) (Q : VK) (E : XK), sp__law_apart K vs H Q E → vs.length = 2 := fun vs H Q E h => by
  obtain ⟨_, _, rfl, _⟩ := h
  rfl
theorem pure__law_apart {K : PySem.W.Frag} (vs : List V) (H : Hp) (Q : VK) (E : XK) (h : sp__law_apart K vs H Q E) : t__law_apart K { nx := fun _ H' => Q .non H', rt := Q } (start ["bag", "xs", "some"] vs) H := by
  obtain ⟨st, t, rfl, cs, doms, xs, ok, hs, ha, dm, h2, q⟩ := h
  show t__law_apart K _ [some (.ref st), some t, none] H
  unfold t__law_apart
  walk_at "aw"
  refine w_someX (m := 2) dm ok hs ha (by decide) h2 fun r few rest H1 hp hl g1 nr b1 => ?_
  have hf : Few few doms := ⟨_, hp⟩
  walk_at "aw"
  refine w_slB (k := 1) b1 (by decide) fun r2 H2 a2 b2 => ?_
  walk_at "aw"
  refine ⟨st, r2, rfl, cs, _, b2, fun v D f ns H3 g3 hv hc hl3 hs3 => ?_⟩
  walk_at "aw"
  have b3 := (b1.go (Go.of b1.ok a2)).go g3
  refine w_slBd (k := 1) b3 (by omega) fun r4 H4 a4 b4 => ?_
  walk_at "aw"
  refine ⟨st, r4, rfl, cs, _, b4, fun v' D' f' ns' H5 g5 hv' hc' hl5 hs5 => ?_⟩
  walk_at "aw"
  refine w_tupD (by show 2 ≤ 100000; decide) fun t6 H6 n6 a6 e6 => ?_
  walk_at "aw"
  refine w_tupD (by show 3 ≤ 100000; decide) fun t7 H7 n7 a7 e7 => ?_
  have gx := ((((g1.new a2).trans g3).new a4).trans g5).new (a6.trans a7)
  have tk : TK H3 H7 := ((a4.any.trans g5.adv).trans (a6.trans a7).any).tup
  refine q (.ref t7) (.when D f ns (.claim D' f' ns')) H7 gx (.tup e7 (.cons (.str _) (.cons (hv.up tk) (.cons (.tup (a7.tup _ _ e6) (.cons (.str _) (.cons (hv'.up (a6.trans a7).tup) .nil))) .nil)))) ⟨⟨hc, by omega, rfl, hc', by omega⟩, trivial, ?_, fun x hx => ?_⟩
  · show (ns ++ ns').length ≤ 1000
    rw [List.length_append]
    omega
  · have hx : x ∈ ns ++ ns' := hx
    rcases List.mem_append.mp hx with hx | hx
    · exact ((Few.take 1).trans hf).names x (hs3 x hx)
    · exact ((Few.drop 1).trans hf).names x (hs5 x hx)
theorem len__law_saying {K : PySem.W.Frag} {m : Nat} : ∀ (vs : List V) (H : Hp) (Q : VK) (E : XK), sp__law_saying K m vs H Q E → vs.length = 3 := fun vs H Q E h => by
  obtain ⟨_, _, _, rfl, _⟩ := h
  rfl
theorem no__law_saying {K : PySem.W.Frag} {vs : List V} {H : Hp} {Q : VK} {E : XK} (h : sp__law_saying K 0 vs H Q E) : False := by
  obtain ⟨_, _, _, _, _, _, _, h, _⟩ := h
  exact Nat.lt_irrefl _ h
theorem KINDS14 : ∀ k ∈ KINDS.take 14, k ≠ Str.ofString "when" := by decide +kernel
theorem pure__law_saying {K : PySem.W.Frag} {m : Nat} (vs : List V) (H : Hp) (Q : VK) (E : XK) (h : sp__law_saying K (m + 1) vs H Q E) : t__law_saying K m { nx := fun _ H' => Q .non H', rt := Q } (start ["bag", "xs", "kind", "inner"] vs) H := by
  obtain ⟨st, p, kd, rfl, cs, doms, b, _, hm, q⟩ := h
  show t__law_saying K m _ [some (.ref st), some (.ref p), some (.str kd), none] H
  have ok := b.ok
  have hlen := b.len
  obtain ⟨xs, e1, e2, hxl, _⟩ := b.get
  have dm : Dm doms := ⟨b.pos, b.len, b.dz, b.nd, b.oks⟩
  have SAY : ∀ (H1 : Hp), Go st cs H H1 → (tSeq (tIfS (tTest (tOp rEq (tVar 2) (tC (.str "when")))) (tSeq (tAsg (tCall (sp__law_pick K) [] E0 (tCons (tVar 0) (tCons (tSl (rSlL K) (tCall (sp__law_kinds K) [] E0 tNil) tNoPart (tPart (tC (.int 14)))) tNil))) (gName 3))
  (tRet (tTup (tCons (tVar 2) (tCons (tCall (sp__law_right_claim K) [] E0 (tCons (tVar 0) (tCons (tCall (sp__law_lot K) [] E0 (tCons (tVar 0) (tCons (tVar 1) (tCons (tC (.int 3)) tNil)))) tNil))) (tCons (tCall (sp__law_saying K m) [] E0 (tCons (tVar 0) (tCons (tVar 1) (tCons (tVar 3) tNil)))) tNil)))))) tNext)
  (tRet (tCall (sp__law_inner K) [] E0 (tCons (tVar 0) (tCons (tVar 1) (tCons (tVar 2) tNil)))))) { nx := fun _ H' => Q .non H', rt := Q } [some (.ref st), some (.ref p), some (.str kd), none] H1 := by
    intro H1 g1
    have b1 := b.go g1
    walk_at "aw"
    refine w_iteB (fun hk => ?_) fun hk => ?_
    · cases V.str.inj hk
      walk_at "aw"
      refine ⟨rfl, fun r H2 nr a2 er => ?_⟩
      have g2 := g1.new a2
      walk_at "aw"
      refine w_slL (SqL.of er) fun r3 H3 nr3 a3 e3 => ?_
      rw [cut_to _ (by decide), ← List.map_take] at e3
      have g3 := g2.new a3
      walk_at "aw"
      refine w_pickK g3.ok e3 (g2.ok.ne nr3).1 (by decide +kernel) (by decide +kernel) fun kd' hk' H4 g4 => ?_
      have g14 := g3.trans g4
      walk_at "aw"
      refine ⟨st, p, 3, rfl, cs, doms, b.go g14, by decide, fun r5 few5 H5 hf5 hl5 g5 nr5 b5 => ?_⟩
      walk_at "aw"
      refine ⟨st, r5, rfl, cs, few5, b5, fun v D f ns H6 g6 hv hc hl6 hs6 => ?_⟩
      walk_at "aw"
      have g16 := (g14.trans g5).trans g6
      refine ⟨st, p, kd', rfl, cs, doms, b.go g16, by have := hm rfl; omega, fun z => absurd z (KINDS14 kd' hk'), fun v' s H7 g7 hv' so hw => ?_⟩
      walk_at "aw"
      refine w_tupD (by show 3 ≤ 100000; decide) fun t8 H8 n8 a8 e8 => ?_
      obtain ⟨hw', hn9⟩ := hw (KINDS14 kd' hk')
      refine q (.ref t8) (.when D f ns s) H8 ((g16.trans g7).new a8) (.tup e8 (.cons (.str _) (.cons (hv.up (g7.new a8).tk) (.cons (hv'.up a8.tup) .nil)))) ⟨⟨hc, by omega, hw', so.1⟩, so.2.1, ?_, fun x hx => ?_⟩ (fun z => absurd rfl z)
      · show (ns ++ s.names).length ≤ 1000
        rw [List.length_append]
        omega
      · have hx : x ∈ ns ++ s.names := hx
        rcases List.mem_append.mp hx with hx | hx
        · exact hf5.names x (hs6 x hx)
        · exact so.2.2.2 x hx
    · walk_at "aw"
      exact ⟨st, p, kd, rfl, cs, doms, b1, fun v s H2 g2 hv so hw => q v s H2 (g1.trans g2) hv so fun _ => by
        rw [Bool.or_eq_false_iff] at hw
        refine ⟨hw.1, ?_⟩
        have := (nd_of so.2.1 hw.1 hw.2).length_le_of_subset (l₂ := doms.map (·.1)) fun x hx => so.2.2.2 x hx
        rw [List.length_map] at this
        omega⟩
  unfold t__law_saying
  walk_at "aw"
  refine w_iteB (fun hk => ?_) fun hk0 => ?_
  · cases V.str.inj hk
    walk_at "aw"
    refine ⟨st, p, 3, rfl, cs, doms, b, by decide, fun r5 few5 H5 hf5 hl5 g5 nr5 b5 => ?_⟩
    walk_at "aw"
    refine ⟨st, r5, rfl, cs, few5, b5, fun v D f ns H6 g6 hv hc hl6 hs6 => ?_⟩
    walk_at "aw"
    refine w_tupD (by show 2 ≤ 100000; decide) fun t8 H8 n8 a8 e8 => ?_
    exact q (.ref t8) (.claim D f ns) H8 ((g5.trans g6).new a8) (.tup e8 (.cons (.str _) (.cons (hv.up a8.tup) .nil))) ⟨⟨hc, by omega⟩, trivial, by show ns.length ≤ 1000; omega, fun x hx => hf5.names x (hs6 x hx)⟩ fun _ => ⟨rfl, by show ns.length ≤ 900; omega⟩
  walk_at "aw"
  refine w_iteB (fun hk => ?_) fun hk1 => ?_
  · cases V.str.inj hk
    walk_at "aw"
    refine w_lenL (SqL.of e1) ?_
    walk_at "aw"
    refine w_iteB (fun h1 => ?_) fun h1 => ?_
    · walk_at "aw"
      refine w_draw ok (by decide) (by decide) fun n H1 _ _ g1 => ?_
      walk_at "aw"
      refine w_iteB (fun h2 => ?_) fun h2 => ?_
      · walk_at "aw"
        exact ⟨st, .ref p, rfl, cs, doms, xs, g1.ok, .inl ⟨p, rfl, .inl (SqL.of (g1.keep b.off e1))⟩, e2.up g1.tk, dm, by omega, fun v s H2 g2 hv so => q v s H2 (g1.trans g2) hv so fun z => absurd rfl z⟩
      · walk_at "aw1"
        exact SAY H1 g1
    · walk_at "aw1"
      exact SAY H (.refl ok)
  · walk_at "aw1"
    exact SAY H (.refl ok)
end AW
namespace AW
open PySem PySem.Spec PyProof.Rows L2 RZ
open StX
local macro_rules | `(tactic| walk_at "aw1") => `(tactic| first
  | (with_reducible refine w_seq ?_) | (with_reducible refine w_asg ?_) | (with_reducible refine w_gname ?_) | (with_reducible refine w_op ?_) | (with_reducible refine w_un ?_)
  | ((with_reducible refine' w_var ?h ?_); (case h => rfl)) | (with_reducible refine w_c ?_)
  | (with_reducible refine w_I0 ?_) | (with_reducible refine w_U ?_) | (with_reducible refine w_cb ?_) | (with_reducible refine w_nil ?_) | (with_reducible refine w_cons ?_) | (with_reducible refine w_call ?_)
  | (with_reducible refine w_test ?_) | (with_reducible refine w_B ?_) | (with_reducible refine w_bl ?_) | (with_reducible refine w_not ?_) | (with_reducible refine w_yes ?_) | (with_reducible refine iteT ?_) | (with_reducible refine iteF ?_) | (with_reducible refine w_and ?_) | (with_reducible refine w_or ?_)
  | (with_reducible refine w_andV ?_) | (with_reducible refine w_orV ?_) | (with_reducible refine w_notV ?_) | (with_reducible refine w_if ?_)
  | (with_reducible refine w_int1 ?_) | (with_reducible refine w_int1b ?_) | (with_reducible refine w_abs ?_) | (with_reducible refine w_max2 ?_) | (with_reducible refine w_min2 ?_)
  | ((with_reducible refine w_eq ?h ?_); (case h => rfl)) | ((with_reducible refine w_ne ?h ?_); (case h => rfl)) | (with_reducible refine w_isN ?_) | (with_reducible refine w_isB ?_) | (with_reducible refine w_chain ?_)
  | (with_reducible refine w_ret ?_) | (with_reducible refine w_drop ?_) | (with_reducible refine w_ifS ?_) | (with_reducible refine w_gsub ?_) | (with_reducible refine w_augS ?_) | (with_reducible refine w_ipI ?_) | (with_reducible refine w_next ?_)
  | (with_reducible refine w_forR ?_) | (with_reducible refine w_forR2 ?_) | (with_reducible refine w_forL ?_) | (with_reducible refine w_forT ?_) | (with_reducible refine w_lcR ?_) | (with_reducible refine w_lcL ?_) | (with_reducible refine w_lcT ?_) | (with_reducible refine w_sl ?_) | (with_reducible refine w_part ?_) | (with_reducible refine w_noPart ?_) | (with_reducible refine w_in ?_)
  | (with_reducible refine w_gcons ?_) | (with_reducible refine w_gnil ?_) | (with_reducible refine w_lc3 ?_) | (with_reducible refine w_dcZ ?_) | (with_reducible refine w_dcT ?_) | (with_reducible refine w_dg ?_) | (with_reducible refine w_callK ?_) | (with_reducible refine w_dput ?_) | (with_reducible refine w_tup1 ?_)
  | (with_reducible refine w_tup ?_) | (with_reducible refine w_lst ?_)
  | ((with_reducible refine w_I ?h ?_); (case h => first | (exact Or.inr ⟨by decide, by decide⟩) | (exact Or.inl ⟨by decide, by decide⟩) | (show (0 : Int) < _; decide) | (exact ⟨by decide, by decide, by decide⟩) | assumption)))
local macro_rules | `(tactic| walk_at "aw") => `(tactic| repeat (walk_at "aw1"))
def sp__law_sizes (_ : PySem.W.Frag) : Sp := fun vs H Q _ => ∃ (st : Addr) (b : Bool), vs = [.ref st, .bl b] ∧ ∃ cs, StOk st cs H ∧ ∀ r (zs : List Int) H', Go st cs H H' → H r = none → H' r = some (.lst (zs.map V.int)) → 3 ≤ zs.length → zs.length ≤ 12 → (∀ z ∈ zs, 1 ≤ z ∧ z ≤ 12) → Q (.ref r) H'
def SzR (r : List Int) : Prop := 3 ≤ r.length ∧ r.length ≤ 12 ∧ ∀ z ∈ r, 1 ≤ z ∧ z ≤ 12
instance (r : List Int) : Decidable (SzR r) := by unfold SzR; infer_instance
/-- a list of rows of sizes -/
def SzAt (H : Hp) (l : Addr) : Prop := ∃ (xs : List V) (rows : List (List Int)), H l = some (.lst xs) ∧ IsAll H (rows.map rowD) xs ∧ 0 < xs.length ∧ xs.length ≤ 100 ∧ ∀ r ∈ rows, SzR r
/-- one of the forms of a saying -/
def Frm (doms : List (Str × List Int)) (H : Hp) (v : V) : Prop := ∃ s, Is H (sayD s) v ∧ SayOk doms s ∧ s.isWhen = false ∧ s.names.length ≤ 900
theorem Frm.up {doms : List (Str × List Int)} {H H' : Hp} {v : V} (h : Frm doms H v) (k : TK H H') : Frm doms H' v := by
  obtain ⟨s, h1, h2⟩ := h
  exact ⟨s, h1.up k, h2⟩
def FrmsAt (doms : List (Str × List Int)) (H : Hp) (l : Addr) (n : Nat) : Prop := ∃ xs, H l = some (.lst xs) ∧ 0 < xs.length ∧ xs.length ≤ n ∧ ∀ x ∈ xs, Frm doms H x
theorem FrmsAt.cat {doms : List (Str × List Int)} {H : Hp} {a b : Addr} {n m : Nat} {Q : VK} (h1 : FrmsAt doms H a n) (h2 : FrmsAt doms H b m) (hn : n + m ≤ 1000) (q : ∀ r H', H r = none → Adv [] H H' → FrmsAt doms H' r (n + m) → Q (.ref r) H') : rCat (.ref a) (.ref b) H Q := by
  obtain ⟨xs, e1, p1, l1, f1⟩ := h1
  obtain ⟨ys, e2, p2, l2, f2⟩ := h2
  refine w_cat e1 e2 (by omega) fun r H' nr a' e => q r H' nr a' ⟨xs ++ ys, e, by rw [List.length_append]; omega, by rw [List.length_append]; omega, fun x hx => ?_⟩
  rcases List.mem_append.mp hx with hx | hx
  · exact (f1 x hx).up a'.tup
  · exact (f2 x hx).up a'.tup
theorem FrmsAt.up {doms : List (Str × List Int)} {H H' : Hp} {a : Addr} {n : Nat} (h : FrmsAt doms H a n) (e : Adv [] H H') : FrmsAt doms H' a n := by
  obtain ⟨xs, e1, p1, l1, f1⟩ := h
  exact ⟨xs, e.keep _ _ (fun z => nomatch z) e1, p1, l1, fun x hx => (f1 x hx).up e.tup⟩
theorem FrmsAt.mono {doms : List (Str × List Int)} {H : Hp} {a : Addr} {n m : Nat} (h : FrmsAt doms H a n) (e : n ≤ m) : FrmsAt doms H a m := by
  obtain ⟨xs, e1, p1, l1, f1⟩ := h
  exact ⟨xs, e1, p1, Nat.le_trans l1 e, f1⟩
def sp__law_over_all (_ : PySem.W.Frag) : Sp := fun vs H Q _ => ∃ (st u : Addr), vs = [.ref st, .ref u] ∧ ∃ (cs : Addr × Addr) (doms : List (Str × List Int)) (xs : List V), StOk st cs H ∧ H u = some (.tup xs) ∧ IsAll H (doms.map domD) xs ∧ Dm doms ∧ 3 ≤ doms.length ∧ doms.length ≤ 12 ∧ ∀ v s H', Go st cs H H' → Is H' (sayD s) v → SayOk doms s → Q v H'
/-- a number again and again -/
theorem w_sameT {K : PySem.W.Frag} {i : Nat} {σ : L2.St} {n : Addr} {names : List Str} {c : Int} {H : Hp} {Q : VK} (hn : H n = some (.tup (names.map V.str))) (hl : names.length ≤ 1000) (w1 : ∀ x, wipe ((wipe σ [i]).set i (some x)) [i] = wipe σ [i])
    (q : ∀ t H', Adv [] H H' → H' t = some (.tup ((names.map fun _ => c).map V.int)) → Q (.ref t) H') : kLcT K (gName i) tYes (tC (.int c)) [i] σ (fun x H1 => kTup K x H1 Q) (.ref n) H := by
  refine ⟨n, rfl, ⟨_, SqT.of hn⟩, kLc_pure walk_tup (by rw [List.length_map]; omega) (fun H' g => SqT.of (g.tup _ _ hn)) (fun _ => true) (fun _ => .int c) (fun j x H2 H3 Kt Kf hi g2 y kt kf => ?_) fun l H3 np g1 el => ?_⟩
  · exact ⟨w1 _, kt rfl _ (by obtain ⟨rfl, _⟩ := y; exact .refl _ _)⟩
  · rw [filter_true, List.length_map] at el
    refine w_tupL (SqL.of el) fun r H2 _ a2 e2 => q r H2 (g1.trans a2) ?_
    rw [e2, List.map_map]
    congr 2
    refine List.ext_getElem? fun i => ?_
    rw [List.getElem?_map, List.getElem?_map]
    by_cases h : i < names.length
    · rw [List.getElem?_range h, List.getElem?_eq_getElem h]
      rfl
    · rw [List.getElem?_eq_none (by rw [List.length_range]; omega), List.getElem?_eq_none (by omega)]
      rfl
/-- tuple([(name, c) for name in names]) -/
theorem w_termsT {K : PySem.W.Frag} {i : Nat} {te : TE} {σ : L2.St} {st : Addr} {cs : Addr × Addr} {n : Addr} {names : List Str} {c : Int} {H : Hp} {Q : VK} (ok : StOk st cs H) (hn : H n = some (.tup (names.map V.str))) (hl : names.length ≤ 1000) (hc : wt c) (w1 : ∀ x, wipe ((wipe σ [i]).set i (some x)) [i] = wipe σ [i]) (w3 : ∀ x, ((wipe σ [i]).set i (some x))[i]? = some (some x))
    (ht : ∀ (σ' : L2.St) (H1 : Hp) (Q' : VK), Q' (.int c) H1 → te σ' H1 Q')
    (q : ∀ t (ts : List (Str × Int)) H', Go st cs H H' → Is H' (.tuple (ts.map trD)) (.ref t) → ts.map (·.1) = names → (∀ t ∈ ts, wt t.2) → Q (.ref t) H') : kLcT K (gName i) tYes (tTup (tCons (tVar i) (tCons te tNil))) [i] σ (fun x H1 => kTup K x H1 Q) (.ref n) H := by
  refine kLcT_all (xs := names.map V.str) hn (by rw [List.length_map]; omega) ok (fun j v H => ∃ t : Str × Int, names[j]? = some t.1 ∧ wt t.2 ∧ Is H (trD t) v) (fun j v H H' tk h => by obtain ⟨t, h1, h2, h3⟩ := h; exact ⟨t, h1, h2, h3.up tk⟩) (fun j x H1 Kt e g kt => ?_) fun l H1 ys nl g1 el hyl hyr => ?_
  · rw [List.getElem?_map] at e
    obtain ⟨nm, hnm, rfl⟩ := Option.map_eq_some_iff.mp e
    refine ⟨w1 _, ?_⟩
    refine w_tup (w_cons ⟨_, w3 _, w_cons (ht _ _ _ ?_)⟩)
    exact w_nil (w_tupD (by show 2 ≤ 100000; decide) fun t H3 nt a3 et => kt _ _ (.of g.ok a3) ⟨(nm, c), hnm, hc, .tup et (.cons (.str _) (.cons (.int _) .nil))⟩)
  · obtain ⟨ts, t1, t2, t3⟩ := build (D := trD) (P := fun j t => names[j]? = some t.1 ∧ wt t.2) fun j v e => by
      obtain ⟨t, h1, h2, h3⟩ := hyr j v e
      exact ⟨t, ⟨h1, h2⟩, h3⟩
    rw [List.length_map] at hyl
    have hts : ts.map (·.1) = names := by
      refine List.ext_getElem? fun j => ?_
      by_cases hj : j < ts.length
      · obtain ⟨t, ht⟩ := get_some hj
        rw [(t3 j t ht).1, List.getElem?_map, ht]
        rfl
      · rw [List.getElem?_eq_none (by rw [List.length_map]; omega), List.getElem?_eq_none (by omega)]
    refine w_tupL (SqL.of el) fun r H2 _ a2 e2 => q r ts H2 (g1.new a2) (.tup e2 (t2.up a2.tup)) hts fun t ht => ?_
    obtain ⟨j, hj, rfl⟩ := List.mem_iff_getElem.mp ht
    exact (t3 j _ (List.getElem?_eq_getElem hj)).2
/-- [x[0] for x in xs], xs a tuple -/
theorem w_namesTT {K : PySem.W.Frag} {i : Nat} {σ : L2.St} {u : Addr} {xs : List V} {doms : List (Str × List Int)} {H : Hp} {Q : VK} (hu : H u = some (.tup xs)) (ha : IsAll H (doms.map domD) xs) (hlen : doms.length ≤ 1000) (w1 : ∀ x, wipe ((wipe σ [i]).set i (some x)) [i] = wipe σ [i]) (w3 : ∀ x, ((wipe σ [i]).set i (some x))[i]? = some (some x))
    (q : ∀ t H', Adv [] H H' → H' t = some (.tup ((doms.map (·.1)).map V.str)) → Q (.ref t) H') : kLcT K (gName i) tYes (tOp (rIxT K) (tVar i) (tC (.int 0))) [i] σ (fun x H1 => kTup K x H1 Q) (.ref u) H := by
  have hl : xs.length = doms.length := by rw [ha.length, List.length_map]
  refine ⟨u, rfl, ⟨_, SqT.of hu⟩, kLc_pure walk_tup (by omega) (fun H' g => SqT.of (g.tup _ _ hu)) (fun _ => true) (fun i => .str ((doms.map (·.1)).getD i nix)) (fun j x H2 H3 Kt Kf hi g2 y kt kf => ?_) fun l H3 np g1 el => ?_⟩
  · obtain ⟨rfl, y1⟩ := y
    obtain ⟨dd, z1, h3⟩ := ha.get y1
    rw [List.getElem?_map] at z1
    obtain ⟨d, z2, rfl⟩ := Option.map_eq_some_iff.mp z1
    obtain ⟨a, c, rfl, h4, h5⟩ := is_dom h3
    rw [getD_of (show (doms.map (·.1))[j]? = some d.1 by rw [List.getElem?_map, z2]; rfl)] at kt
    exact ⟨w1 _, _, w3 _, w_ixT (SqT.of (g2.tup _ _ h4)) (at_of (j := 0) rfl rfl) (kt rfl _ (.refl _ _))⟩
  · rw [filter_true, hl, ← List.length_map (f := (·.1)), map_range (doms.map (·.1)) nix V.str] at el
    exact w_tupL (SqL.of el) fun r H2 _ a2 e2 => q r H2 (g1.trans a2) e2
theorem w_join {c : Bool} {ta tb : TE} {σ : L2.St} {H : Hp} {Q : VK} (R : V → Hp → Prop) (h1 : ∀ Q' : VK, c = true → (∀ v H', R v H' → Q' v H') → ta σ H Q') (h2 : ∀ Q' : VK, c = false → (∀ v H', R v H' → Q' v H') → tb σ H Q') (hq : ∀ v H', R v H' → Q v H') : if c = true then ta σ H Q else tb σ H Q := by
  cases c with
  | true => exact iteT (h1 Q rfl hq)
  | false => exact iteF (h2 Q rfl hq)
def t__law_sizes (K : PySem.W.Frag) : TS := (tSeq (tAsg (tLst (tCons (tTup (tCons (tC (.int 4)) (tCons (tC (.int 8)) (tCons (tC (.int 8)) tNil)))) (tCons (tTup (tCons (tC (.int 2)) (tCons (tC (.int 2)) (tCons (tC (.int 2)) (tCons (tC (.int 2)) (tCons (tC (.int 2)) (tCons (tC (.int 2)) (tCons (tC (.int 2)) (tCons (tC (.int 2)) tNil))))))))) (tCons (tTup (tCons (tC (.int 4)) (tCons (tC (.int 4)) (tCons (tC (.int 4)) (tCons (tC (.int 4)) tNil))))) (tCons (tTup (tCons (tC (.int 2)) (tCons (tC (.int 4)) (tCons (tC (.int 4)) (tCons (tC (.int 8)) tNil))))) (tCons (tTup (tCons (tC (.int 7)) (tCons (tC (.int 6)) (tCons (tC (.int 6)) tNil)))) (tCons (tTup (tCons (tC (.int 3)) (tCons (tC (.int 3)) (tCons (tC (.int 3)) (tCons (tC (.int 3)) (tCons (tC (.int 3)) tNil)))))) (tCons (tTup (tCons (tC (.int 5)) (tCons (tC (.int 5)) (tCons (tC (.int 10)) tNil)))) (tCons (tTup (tCons (tC (.int 12)) (tCons (tC (.int 7)) (tCons (tC (.int 3)) tNil)))) (tCons (tTup (tCons (tC (.int 2)) (tCons (tC (.int 1)) (tCons (tC (.int 8)) (tCons (tC (.int 8)) (tCons (tC (.int 2)) tNil)))))) tNil)))))))))) (gName 2))
  (tSeq (tAsg (tLst (tCons (tTup (tCons (tC (.int 2)) (tCons (tC (.int 11)) (tCons (tC (.int 12)) tNil)))) (tCons (tTup (tCons (tC (.int 4)) (tCons (tC (.int 6)) (tCons (tC (.int 11)) tNil)))) (tCons (tTup (tCons (tC (.int 3)) (tCons (tC (.int 9)) (tCons (tC (.int 10)) tNil)))) (tCons (tTup (tCons (tC (.int 5)) (tCons (tC (.int 5)) (tCons (tC (.int 11)) tNil)))) (tCons (tTup (tCons (tC (.int 4)) (tCons (tC (.int 7)) (tCons (tC (.int 10)) tNil)))) (tCons (tTup (tCons (tC (.int 2)) (tCons (tC (.int 12)) (tCons (tC (.int 12)) tNil)))) (tCons (tTup (tCons (tC (.int 3)) (tCons (tC (.int 8)) (tCons (tC (.int 11)) tNil)))) (tCons (tTup (tCons (tC (.int 2)) (tCons (tC (.int 2)) (tCons (tC (.int 2)) (tCons (tC (.int 2)) (tCons (tC (.int 2)) (tCons (tC (.int 3)) (tCons (tC (.int 3)) tNil)))))))) (tCons (tTup (tCons (tC (.int 1)) (tCons (tC (.int 3)) (tCons (tC (.int 9)) (tCons (tC (.int 10)) tNil))))) tNil)))))))))) (gName 3))
  (tSeq (tAsg (tLst (tCons (tTup (tCons (tC (.int 12)) (tCons (tC (.int 12)) (tCons (tC (.int 12)) (tCons (tC (.int 12)) (tCons (tC (.int 12)) (tCons (tC (.int 12)) (tCons (tC (.int 12)) (tCons (tC (.int 12)) (tCons (tC (.int 12)) (tCons (tC (.int 12)) (tCons (tC (.int 12)) (tCons (tC (.int 12)) tNil))))))))))))) (tCons (tTup (tCons (tC (.int 9)) (tCons (tC (.int 9)) (tCons (tC (.int 9)) (tCons (tC (.int 9)) tNil))))) (tCons (tTup (tCons (tC (.int 2)) (tCons (tC (.int 2)) (tCons (tC (.int 2)) (tCons (tC (.int 2)) (tCons (tC (.int 2)) (tCons (tC (.int 2)) (tCons (tC (.int 2)) (tCons (tC (.int 2)) (tCons (tC (.int 2)) tNil)))))))))) tNil)))) (gName 4))
  (tSeq (tAsg (tCall (sp__law_pick K) [] E0 (tCons (tVar 0) (tCons (tIf (tB (tVar 1)) (tVar 2) (tCall (sp__law_pick K) [] E0 (tCons (tVar 0) (tCons (tLst (tCons (tVar 3) (tCons (tVar 3) (tCons (tVar 4) tNil)))) tNil)))) tNil))) (gName 5))
  (tRet (tCall (sp__law_some K) [] E0 (tCons (tVar 0) (tCons (tVar 5) (tCons (tCB (rLen1 K) (tCons (tVar 5) tNil)) tNil)))))))))
def t__law_over_all (K : PySem.W.Frag) : TS := (tSeq (tAsg (tThen (tLc (iTup K (tVar 1)) (gName 3) tYes (tOp (rIxT K) (tVar 3) (tC (.int 0))) [3]) (kTup K)) (gName 2))
  (tSeq (tAsg (tThen (tLc (iTup K (tVar 2)) (gName 5) tYes (tC (.int 0)) [5]) (kTup K)) (gName 4))
  (tSeq (tAsg (tThen (tLc (iTup K (tVar 2)) (gName 5) tYes (tC (.int 1)) [5]) (kTup K)) (gName 6))
  (tSeq (tAsg (tLst (tCons (tTup (tCons (tC (.str "least")) (tCons (tThen (tLc (iTup K (tVar 2)) (gName 5) tYes (tTup (tCons (tVar 5) (tCons (tC (.int 1)) tNil))) [5]) (kTup K)) (tCons (tC (.int 0)) tNil)))) (tCons (tTup (tCons (tC (.str "unlike")) (tCons (tVar 2) tNil))) (tCons (tTup (tCons (tC (.str "round")) (tCons (tVar 2) tNil))) tNil)))) (gName 7))
  (tSeq (tAsg (tOp rCat (tVar 7) (tLst (tCons (tTup (tCons (tC (.str "counts")) (tCons (tVar 2) (tCons (tTup (tCons (tTup (tCons (tC (.int 0)) (tCons (tC (.int 0)) (tCons (tC (.int 12)) tNil)))) tNil)) tNil)))) (tCons (tTup (tCons (tC (.str "machine")) (tCons (tVar 2) (tCons (tC (.int 0)) (tCons (tTup tNil) (tCons (tTup (tCons (tC (.int 0)) tNil)) tNil)))))) (tCons (tTup (tCons (tC (.str "works")) (tCons (tVar 2) (tCons (tVar 6) (tCons (tVar 4) (tCons (tC (.int 0)) tNil)))))) tNil))))) (gName 7))
  (tSeq (tAsg (tOp rCat (tVar 7) (tLst (tCons (tTup (tCons (tC (.str "same")) (tCons (tThen (tLc (iTup K (tVar 2)) (gName 5) tYes (tTup (tCons (tVar 5) (tCons (tUn rNeg (tC (.int 100))) tNil))) [5]) (kTup K)) (tCons (tC (.int 7)) tNil)))) (tCons (tTup (tCons (tC (.str "top")) (tCons (tSl (rSlA K) (tVar 2) (tPart (tC (.int 1))) tNoPart) (tCons (tOp (rIxT K) (tVar 2) (tC (.int 0))) tNil)))) tNil)))) (gName 7))
  (tSeq (tIfS (tTest (tOp rLtI (tCB (rLen1 K) (tCons (tVar 2) tNil)) (tC (.int 7)))) (tAsg (tOp rCat (tVar 7) (tLst (tCons (tTup (tCons (tC (.str "table")) (tCons (tVar 2) (tCons (tTup tNil) tNil)))) (tCons (tTup (tCons (tC (.str "table")) (tCons (tVar 2) (tCons (tTup (tCons (tVar 4) (tCons (tVar 6) tNil))) tNil)))) tNil)))) (gName 7)) tNext)
  (tSeq (tIfS (tTest (tOp rGtI (tCB (rLen1 K) (tCons (tVar 2) tNil)) (tC (.int 2)))) (tDrop (tBM K "list" rAppend (tVar 7) (tCons (tTup (tCons (tC (.str "pick")) (tCons (tOp (rIxT K) (tVar 2) (tC (.int 0))) (tCons (tSl (rSlA K) (tVar 2) (tPart (tC (.int 2))) tNoPart) (tCons (tOp (rIxT K) (tVar 2) (tC (.int 1))) tNil))))) tNil))) tNext)
  (tSeq (tIfS (tTest (tOp rEq (tOp rModI (tCB rInt1 (tCons (tCB (rLen1 K) (tCons (tVar 2) tNil)) tNil)) (tC (.int 2))) (tC (.int 0)))) (tSeq (tAsg (tOp rDivI (tCB (rLen1 K) (tCons (tVar 2) tNil)) (tC (.int 2))) (gName 8))
  (tIfS (tTest (tOp rLtI (tVar 8) (tC (.int 7)))) (tDrop (tBM K "list" rAppend (tVar 7) (tCons (tTup (tCons (tC (.str "ahead")) (tCons (tSl (rSlA K) (tVar 2) tNoPart (tPart (tVar 8))) (tCons (tSl (rSlA K) (tVar 2) (tPart (tVar 8)) tNoPart) tNil)))) tNil))) tNext)) tNext)
  (tSeq (tAsg (tCall (sp__law_pick K) [] E0 (tCons (tVar 0) (tCons (tVar 7) tNil))) (gName 9))
  (tSeq (tIfS (tTest (tOp rGtI (tCall (sp__law_draw K) [] E0 (tCons (tVar 0) (tCons (tC (.int 3)) tNil))) (tC (.int 0)))) (tRet (tVar 9)) tNext)
  (tSeq (tAsg (tCall (sp__law_draw K) [] E0 (tCons (tVar 0) (tCons (tC (.int 3)) tNil))) (gName 10))
  (tSeq (tIfS (tTest (tOp rEq (tVar 10) (tC (.int 0)))) (tRet (tTup (tCons (tC (.str "when")) (tCons (tTup (tCons (tC (.str "is")) (tCons (tOp (rIxT K) (tVar 2) (tCall (sp__law_draw K) [] E0 (tCons (tVar 0) (tCons (tCB (rLen1 K) (tCons (tVar 2) tNil)) tNil)))) (tCons (tC (.int 0)) tNil)))) (tCons (tVar 9) tNil))))) tNext)
  (tSeq (tIfS (tTest (tOp rEq (tVar 10) (tC (.int 1)))) (tRet (tTup (tCons (tC (.str "when")) (tCons (tTup (tCons (tC (.str "or")) (tCons (tTup (tCons (tTup (tCons (tC (.str "not")) (tCons (tTup (tCons (tC (.str "from")) (tCons (tOp (rIxT K) (tVar 2) (tC (.int 0))) (tCons (tC (.int 1)) tNil)))) tNil))) (tCons (tTup (tCons (tC (.str "is")) (tCons (tOp (rIxT K) (tVar 2) (tC (.int 1))) (tCons (tC (.int 0)) tNil)))) (tCons (tTup (tCons (tC (.str "and")) (tCons (tTup tNil) tNil))) tNil)))) tNil))) (tCons (tVar 9) tNil))))) tNext)
  (tRet (tTup (tCons (tC (.str "when")) (tCons (tTup (tCons (tC (.str "and")) (tCons (tTup (tCons (tTup (tCons (tC (.str "from")) (tCons (tOp (rIxT K) (tVar 2) (tC (.int 0))) (tCons (tC (.int 1)) tNil)))) (tCons (tTup (tCons (tC (.str "is")) (tCons (tOp (rIxT K) (tVar 2) (tC (.int 0))) (tCons (tC (.int 200)) tNil)))) tNil))) tNil))) (tCons (tTup (tCons (tC (.str "unlike")) (tCons (tSl (rSlA K) (tVar 2) (tPart (tC (.int 1))) tNoPart) tNil))) tNil)))))))))))))))))))
theorem len__law_sizes {K : PySem.W.Frag} : ∀ (vs : List V) (H : Hp) (Q : VK) (E : XK), sp__law_sizes K vs H Q E → vs.length = 2 := fun vs H Q E h => by
  obtain ⟨_, _, rfl, _⟩ := h
  rfl
theorem SzAt.up {H H' : Hp} {l : Addr} (h : SzAt H l) (e : Adv [] H H') : SzAt H' l := by
  obtain ⟨xs, rows, h1, h2, h3⟩ := h
  exact ⟨xs, rows, e.keep _ _ (fun z => nomatch z) h1, h2.up e.tup, h3⟩
theorem is_rowI {H : Hp} {a : Addr} (r : List Int) (h : H a = some (.tup (r.map V.int))) : Is H (rowD r) (.ref a) := .tup h (.ints r)
theorem pure__law_sizes {K : PySem.W.Frag} (vs : List V) (H : Hp) (Q : VK) (E : XK) (h : sp__law_sizes K vs H Q E) : t__law_sizes K { nx := fun _ H' => Q .non H', rt := Q } (start ["bag", "small", "below", "above", "far", "row"] vs) H := by
  obtain ⟨st, b, rfl, cs, ok, q⟩ := h
  show t__law_sizes K _ [some (.ref st), some (.bl b), none, none, none, none] H
  unfold t__law_sizes
  have g0 := Go.refl ok
  have z0 : Adv [] H H := .refl _ _
  walk_at "aw"
  refine w_tupD (by show 3 ≤ 100000; decide) fun p1 X1 _ a1 e1 => ?_
  walk_at "aw"
  refine w_tupD (by show 8 ≤ 100000; decide) fun p2 X2 _ a2 e2 => ?_
  walk_at "aw"
  refine w_tupD (by show 4 ≤ 100000; decide) fun p3 X3 _ a3 e3 => ?_
  walk_at "aw"
  refine w_tupD (by show 4 ≤ 100000; decide) fun p4 X4 _ a4 e4 => ?_
  walk_at "aw"
  refine w_tupD (by show 3 ≤ 100000; decide) fun p5 X5 _ a5 e5 => ?_
  walk_at "aw"
  refine w_tupD (by show 5 ≤ 100000; decide) fun p6 X6 _ a6 e6 => ?_
  walk_at "aw"
  refine w_tupD (by show 3 ≤ 100000; decide) fun p7 X7 _ a7 e7 => ?_
  walk_at "aw"
  refine w_tupD (by show 3 ≤ 100000; decide) fun p8 X8 _ a8 e8 => ?_
  walk_at "aw"
  refine w_tupD (by show 5 ≤ 100000; decide) fun p9 X9 _ a9 e9 => ?_
  walk_at "aw"
  refine w_lstD (by show 9 ≤ 100000; decide) fun l_below X10 nl_below a10 el_below => ?_
  walk_at "aw"
  have o_below := (ok.ne ((((((((((z0.trans a1).trans a2).trans a3).trans a4).trans a5).trans a6).trans a7).trans a8).trans a9).free (fun z => nomatch z) nl_below)).1
  have s_below : SzAt X10 l_below := ⟨_, [[4, 8, 8], [2, 2, 2, 2, 2, 2, 2, 2], [4, 4, 4, 4], [2, 4, 4, 8], [7, 6, 6], [3, 3, 3, 3, 3], [5, 5, 10], [12, 7, 3], [2, 1, 8, 8, 2]], el_below, (.cons (is_rowI [4, 8, 8] ((a2.trans (a3.trans (a4.trans (a5.trans (a6.trans (a7.trans (a8.trans (a9.trans a10)))))))).tup _ _ e1)) (.cons (is_rowI [2, 2, 2, 2, 2, 2, 2, 2] ((a3.trans (a4.trans (a5.trans (a6.trans (a7.trans (a8.trans (a9.trans a10))))))).tup _ _ e2)) (.cons (is_rowI [4, 4, 4, 4] ((a4.trans (a5.trans (a6.trans (a7.trans (a8.trans (a9.trans a10)))))).tup _ _ e3)) (.cons (is_rowI [2, 4, 4, 8] ((a5.trans (a6.trans (a7.trans (a8.trans (a9.trans a10))))).tup _ _ e4)) (.cons (is_rowI [7, 6, 6] ((a6.trans (a7.trans (a8.trans (a9.trans a10)))).tup _ _ e5)) (.cons (is_rowI [3, 3, 3, 3, 3] ((a7.trans (a8.trans (a9.trans a10))).tup _ _ e6)) (.cons (is_rowI [5, 5, 10] ((a8.trans (a9.trans a10)).tup _ _ e7)) (.cons (is_rowI [12, 7, 3] ((a9.trans a10).tup _ _ e8)) (.cons (is_rowI [2, 1, 8, 8, 2] (a10.tup _ _ e9)) .nil))))))))), by show 0 < 9; decide, by show 9 ≤ 100; decide, by decide⟩
  have A_below := z0.trans (a1.trans (a2.trans (a3.trans (a4.trans (a5.trans (a6.trans (a7.trans (a8.trans (a9.trans a10)))))))))
  refine w_tupD (by show 3 ≤ 100000; decide) fun p11 X11 _ a11 e11 => ?_
  walk_at "aw"
  refine w_tupD (by show 3 ≤ 100000; decide) fun p12 X12 _ a12 e12 => ?_
  walk_at "aw"
  refine w_tupD (by show 3 ≤ 100000; decide) fun p13 X13 _ a13 e13 => ?_
  walk_at "aw"
  refine w_tupD (by show 3 ≤ 100000; decide) fun p14 X14 _ a14 e14 => ?_
  walk_at "aw"
  refine w_tupD (by show 3 ≤ 100000; decide) fun p15 X15 _ a15 e15 => ?_
  walk_at "aw"
  refine w_tupD (by show 3 ≤ 100000; decide) fun p16 X16 _ a16 e16 => ?_
  walk_at "aw"
  refine w_tupD (by show 3 ≤ 100000; decide) fun p17 X17 _ a17 e17 => ?_
  walk_at "aw"
  refine w_tupD (by show 7 ≤ 100000; decide) fun p18 X18 _ a18 e18 => ?_
  walk_at "aw"
  refine w_tupD (by show 4 ≤ 100000; decide) fun p19 X19 _ a19 e19 => ?_
  walk_at "aw"
  refine w_lstD (by show 9 ≤ 100000; decide) fun l_above X20 nl_above a20 el_above => ?_
  walk_at "aw"
  have o_above := (ok.ne ((((((((((((((((((((z0.trans a1).trans a2).trans a3).trans a4).trans a5).trans a6).trans a7).trans a8).trans a9).trans a10).trans a11).trans a12).trans a13).trans a14).trans a15).trans a16).trans a17).trans a18).trans a19).free (fun z => nomatch z) nl_above)).1
  have s_above : SzAt X20 l_above := ⟨_, [[2, 11, 12], [4, 6, 11], [3, 9, 10], [5, 5, 11], [4, 7, 10], [2, 12, 12], [3, 8, 11], [2, 2, 2, 2, 2, 3, 3], [1, 3, 9, 10]], el_above, (.cons (is_rowI [2, 11, 12] ((a12.trans (a13.trans (a14.trans (a15.trans (a16.trans (a17.trans (a18.trans (a19.trans a20)))))))).tup _ _ e11)) (.cons (is_rowI [4, 6, 11] ((a13.trans (a14.trans (a15.trans (a16.trans (a17.trans (a18.trans (a19.trans a20))))))).tup _ _ e12)) (.cons (is_rowI [3, 9, 10] ((a14.trans (a15.trans (a16.trans (a17.trans (a18.trans (a19.trans a20)))))).tup _ _ e13)) (.cons (is_rowI [5, 5, 11] ((a15.trans (a16.trans (a17.trans (a18.trans (a19.trans a20))))).tup _ _ e14)) (.cons (is_rowI [4, 7, 10] ((a16.trans (a17.trans (a18.trans (a19.trans a20)))).tup _ _ e15)) (.cons (is_rowI [2, 12, 12] ((a17.trans (a18.trans (a19.trans a20))).tup _ _ e16)) (.cons (is_rowI [3, 8, 11] ((a18.trans (a19.trans a20)).tup _ _ e17)) (.cons (is_rowI [2, 2, 2, 2, 2, 3, 3] ((a19.trans a20).tup _ _ e18)) (.cons (is_rowI [1, 3, 9, 10] (a20.tup _ _ e19)) .nil))))))))), by show 0 < 9; decide, by show 9 ≤ 100; decide, by decide⟩
  have A_above := A_below.trans (a11.trans (a12.trans (a13.trans (a14.trans (a15.trans (a16.trans (a17.trans (a18.trans (a19.trans a20)))))))))
  have s_below := s_below.up ((a11.trans (a12.trans (a13.trans (a14.trans (a15.trans (a16.trans (a17.trans (a18.trans (a19.trans a20))))))))))
  refine w_tupD (by show 12 ≤ 100000; decide) fun p21 X21 _ a21 e21 => ?_
  walk_at "aw"
  refine w_tupD (by show 4 ≤ 100000; decide) fun p22 X22 _ a22 e22 => ?_
  walk_at "aw"
  refine w_tupD (by show 9 ≤ 100000; decide) fun p23 X23 _ a23 e23 => ?_
  walk_at "aw"
  refine w_lstD (by show 3 ≤ 100000; decide) fun l_far X24 nl_far a24 el_far => ?_
  walk_at "aw"
  have o_far := (ok.ne ((((((((((((((((((((((((z0.trans a1).trans a2).trans a3).trans a4).trans a5).trans a6).trans a7).trans a8).trans a9).trans a10).trans a11).trans a12).trans a13).trans a14).trans a15).trans a16).trans a17).trans a18).trans a19).trans a20).trans a21).trans a22).trans a23).free (fun z => nomatch z) nl_far)).1
  have s_far : SzAt X24 l_far := ⟨_, [[12, 12, 12, 12, 12, 12, 12, 12, 12, 12, 12, 12], [9, 9, 9, 9], [2, 2, 2, 2, 2, 2, 2, 2, 2]], el_far, (.cons (is_rowI [12, 12, 12, 12, 12, 12, 12, 12, 12, 12, 12, 12] ((a22.trans (a23.trans a24)).tup _ _ e21)) (.cons (is_rowI [9, 9, 9, 9] ((a23.trans a24).tup _ _ e22)) (.cons (is_rowI [2, 2, 2, 2, 2, 2, 2, 2, 2] (a24.tup _ _ e23)) .nil))), by show 0 < 3; decide, by show 3 ≤ 100; decide, by decide⟩
  have A_far := A_above.trans (a21.trans (a22.trans (a23.trans a24)))
  have s_below := s_below.up ((a21.trans (a22.trans (a23.trans a24))))
  have s_above := s_above.up ((a21.trans (a22.trans (a23.trans a24))))
  have g1 := g0.new A_far
  -- one of the lists
  refine w_join (fun v H1 => ∃ l, v = .ref l ∧ Go st cs H H1 ∧ SzAt H1 l ∧ Off l st cs) (fun Q' _ hQ => ?_) (fun Q' _ hQ => ?_) fun v H1 hR => ?_
  · walk_at "aw"
    exact hQ _ _ ⟨l_below, rfl, g1, s_below, o_below⟩
  · walk_at "aw"
    refine w_lstD (by show 3 ≤ 100000; decide) fun l4 H4 nl4 a4 el4 => ?_
    walk_at "aw"
    have g4 := g1.new a4
    refine ⟨st, l4, rfl, cs, _, g4.ok, .inl ⟨SqL.of el4, (g1.ok.ne nl4).1⟩, by show 0 < 3; decide, by show 3 < 1000000; decide, fun i v H5 e g5 => ?_⟩
    have key : v = .ref l_above ∨ v = .ref l_far := by
      have := List.mem_of_getElem? e
      simp only [List.mem_cons, List.not_mem_nil, or_false] at this
      rcases this with h | h | h
      · exact .inl h
      · exact .inl h
      · exact .inr h
    have up : ∀ l, SzAt X24 l → Off l st cs → SzAt H5 l := fun l h o => by
      obtain ⟨xs, rows, h1, h2, h3⟩ := h.up a4
      exact ⟨xs, rows, g5.keep o h1, h2.up g5.tk, h3⟩
    rcases key with rfl | rfl
    · exact hQ _ _ ⟨l_above, rfl, g4.trans g5, up _ s_above o_above, o_above⟩
    · exact hQ _ _ ⟨l_far, rfl, g4.trans g5, up _ s_far o_far, o_far⟩
  obtain ⟨l, rfl, g2, ⟨xs, rows, h1, h2, h3, h4, h5⟩, ol⟩ := hR
  walk_at "aw"
  refine ⟨st, l, rfl, cs, xs, g2.ok, .inl ⟨SqL.of h1, ol⟩, h3, by omega, fun i v H3 e g3 => ?_⟩
  obtain ⟨dd, z1, hv⟩ := h2.get e
  rw [List.getElem?_map] at z1
  obtain ⟨r, z2, rfl⟩ := Option.map_eq_some_iff.mp z1
  have hr := h5 r (List.mem_of_getElem? z2)
  obtain ⟨ra, rfl, era⟩ := is_row (hv.up g3.tk)
  walk_at "aw"
  refine w_lenT (SqT.of era) ?_
  walk_at "aw"
  refine ⟨st, .ref ra, _, rfl, cs, r.map V.int, g3.ok, .inl ⟨ra, rfl, .inr (SqT.of era)⟩, Nat.le_refl _, by rw [List.length_map]; have := hr.2.1; omega, fun w made left H4 hp hml nw g4 ew => ?_⟩
  have hle : left = [] := by
    have := hp.length_eq
    rw [List.length_append] at this
    exact List.length_eq_zero_iff.mp (by omega)
  subst hle
  rw [List.append_nil] at hp
  have hmi : ∃ zs : List Int, made = zs.map V.int := ints_of fun i v e => by
    have : v ∈ r.map V.int := hp.mem_iff.mp (List.mem_of_getElem? e)
    obtain ⟨z, _, rfl⟩ := List.mem_map.mp this
    exact ⟨z, rfl⟩
  obtain ⟨zs, rfl⟩ := hmi
  rw [List.length_map, List.length_map] at hml
  have gx := (g2.trans g3).trans g4
  have nw0 : H w = none := (g2.trans g3).free ok nw
  refine q w zs H4 gx nw0 ew (by rw [hml]; exact hr.1) (by rw [hml]; exact hr.2.1) fun z hz => ?_
  have : V.int z ∈ r.map V.int := hp.mem_iff.mp (List.mem_map.mpr ⟨z, hz, rfl⟩)
  obtain ⟨z', hz', e'⟩ := List.mem_map.mp this
  cases e'
  exact hr.2.2 z hz'
theorem len__law_over_all {K : PySem.W.Frag} : ∀ (vs : List V) (H : Hp) (Q : VK) (E : XK), sp__law_over_all K vs H Q E → vs.length = 2 := fun vs H Q E h => by
  obtain ⟨_, _, rfl, _⟩ := h
  rfl
theorem FrmsAt.app {doms : List (Str × List Int)} {st : Addr} {cs : Addr × Addr} {B H : Hp} {l : Addr} {n : Nat} {v : V} (h : FrmsAt doms H l n) (hv : Frm doms H v) (ok : StOk st cs B) (g : Go st cs B H) (nl : B l = none) : ∃ xs, H l = some (.lst xs) ∧ xs.length ≤ n ∧ Go st cs B (upd H l (.lst (xs ++ [v]))) ∧ TK H (upd H l (.lst (xs ++ [v]))) ∧ FrmsAt doms (upd H l (.lst (xs ++ [v]))) l (n + 1) := by
  obtain ⟨xs, e1, p1, l1, f1⟩ := h
  have tk : TK H (upd H l (.lst (xs ++ [v]))) := (Adv.lst e1).tup
  refine ⟨xs, e1, l1, g.mutL ok nl e1, tk, xs ++ [v], upd_same, by rw [List.length_append]; omega, by rw [List.length_append, List.length_singleton]; omega, fun x hx => ?_⟩
  rcases List.mem_append.mp hx with hx | hx
  · exact (f1 x hx).up tk
  · rw [List.mem_singleton.mp hx]
    exact hv.up tk
theorem FrmsAt.go {doms : List (Str × List Int)} {st : Addr} {cs : Addr × Addr} {H H' : Hp} {a : Addr} {n : Nat} (h : FrmsAt doms H a n) (o : Off a st cs) (e : Go st cs H H') : FrmsAt doms H' a n := by
  obtain ⟨xs, e1, p1, l1, f1⟩ := h
  exact ⟨xs, e.keep o e1, p1, l1, fun x hx => (f1 x hx).up e.tk⟩
theorem claim3 {n0 n1 : Str} : ∃ f, ClD 8 (.tuple [.str "or", .tuple [.tuple [.str "not", .tuple [.str "from", .str n0, .int 1]], .tuple [.str "is", .str n1, .int 0], .tuple [.str "and", .tuple []]]]) f [n0, n1] := by
  obtain ⟨f1, c1⟩ : ∃ f, ClD 7 (.tuple [.str "not", .tuple [.str "from", .str n0, .int 1]]) f [n0] := ⟨_, .neg (.one true)⟩
  obtain ⟨f2, c2⟩ : ∃ f, ClD 7 (.tuple [.str "is", .str n1, .int 0]) f [n1] := ⟨_, .one false⟩
  obtain ⟨f3, c3⟩ : ∃ f, ClD 7 (.tuple [.str "and", .tuple []]) f [] := ⟨_, .many true [] [] [] rfl rfl (by decide) fun i d f ns e => by simp at e⟩
  refine ⟨_, .many false [_, _, _] [f1, f2, f3] [[n0], [n1], []] rfl rfl (by show 3 ≤ 100; decide) fun i d f ns e1 e2 e3 => ?_⟩
  match i, e1, e2, e3 with
  | 0, e1, e2, e3 =>
    cases e1
    cases e2
    cases e3
    exact c1
  | 1, e1, e2, e3 =>
    cases e1
    cases e2
    cases e3
    exact c2
  | 2, e1, e2, e3 =>
    cases e1
    cases e2
    cases e3
    exact c3
  | i + 3, e1, _, _ => simp at e1
theorem claim2 {n0 : Str} : ∃ f, ClD 8 (.tuple [.str "and", .tuple [.tuple [.str "from", .str n0, .int 1], .tuple [.str "is", .str n0, .int 200]]]) f [n0, n0] := by
  obtain ⟨f1, c1⟩ : ∃ f, ClD 7 (.tuple [.str "from", .str n0, .int 1]) f [n0] := ⟨_, .one true⟩
  obtain ⟨f2, c2⟩ : ∃ f, ClD 7 (.tuple [.str "is", .str n0, .int 200]) f [n0] := ⟨_, .one false⟩
  refine ⟨_, .many true [_, _] [f1, f2] [[n0], [n0]] rfl rfl (by show 2 ≤ 100; decide) fun i d f ns e1 e2 e3 => ?_⟩
  match i, e1, e2, e3 with
  | 0, e1, e2, e3 =>
    cases e1
    cases e2
    cases e3
    exact c1
  | 1, e1, e2, e3 =>
    cases e1
    cases e2
    cases e3
    exact c2
  | i + 2, e1, _, _ => simp at e1
theorem claim1 {x : Str} : ∃ f, ClD 8 (.tuple [.str "is", .str x, .int 0]) f [x] := ⟨_, .one false⟩
theorem pure__law_over_all {K : PySem.W.Frag} (vs : List V) (H : Hp) (Q : VK) (E : XK) (h : sp__law_over_all K vs H Q E) : t__law_over_all K { nx := fun _ H' => Q .non H', rt := Q } (start ["bag", "xs", "names", "x", "zeros", "name", "ones", "forms", "half", "saying", "way"] vs) H := by
  obtain ⟨st, u, rfl, cs, doms, xs, ok, hu, ha, dm, hd3, hd12, q⟩ := h
  show t__law_over_all K _ [some (.ref st), some (.ref u), none, none, none, none, none, none, none, none, none] H
  obtain ⟨n0, n1, ns, hNS, hns⟩ : ∃ n0 n1 ns, doms.map (·.1) = n0 :: n1 :: ns ∧ 0 < ns.length := by
    match doms, hd3 with
    | a :: b :: c :: r, _ => exact ⟨a.1, b.1, (c :: r).map (·.1), rfl, by simp⟩
  have hnd := dm.nd
  have hoks : ∀ x ∈ doms.map (·.1), okS x := fun x hx => by
    obtain ⟨d, hd, rfl⟩ := List.mem_map.mp hx
    exact dm.oks d hd
  have hNl : (doms.map (·.1)).length = doms.length := List.length_map ..
  have hsub0 : ∀ x ∈ doms.map (·.1), x ∈ doms.map (·.1) := fun x h => h
  generalize hN : doms.map (·.1) = NS at hNS hnd hoks hNl
  have hsub : ∀ x ∈ NS, x ∈ doms.map (·.1) := fun x h => by rw [hN]; exact h
  have hNl12 : NS.length ≤ 12 := by omega
  unfold t__law_over_all
  walk_at "aw"
  refine w_namesTT hu ha (by omega) (fun _ => rfl) (fun _ => rfl) fun nt H1 a1 ent => ?_
  rw [hN] at ent
  walk_at "aw"
  refine w_sameT ent (by omega) (fun _ => rfl) fun zt H2 a2 ezt => ?_
  walk_at "aw"
  refine w_sameT (a2.tup _ _ ent) (by omega) (fun _ => rfl) fun ot H3 a3 eot => ?_
  have A3 := (a1.trans a2).trans a3
  have ent3 := (a2.trans a3).tup _ _ ent
  have ezt3 := a3.tup _ _ ezt
  have okB : StOk st cs H3 := (Go.of ok A3).ok
  clear a1 a2 a3 ent ezt hu ha
  -- forms that are right
  have FS : ∀ (bb : Bool) (ts : List (Str × Int)) (n : Int), ts.map (·.1) = NS → (∀ t ∈ ts, wt t.2) → SayOk doms (.sums bb ts n) ∧ (Say.sums bb ts n).isWhen = false ∧ (Say.sums bb ts n).names.length ≤ 900 := fun bb ts n hts hwt => by
    have hl : ts.length = NS.length := by rw [← hts, List.length_map]
    have en : (Say.sums bb ts n).names = NS := hts
    refine ⟨⟨⟨by omega, hwt⟩, ?_, by rw [en]; omega, fun x hx => by rw [en] at hx; exact hsub x hx⟩, rfl, by rw [en]; omega⟩
    show (ts.map (·.1)).Nodup
    rw [hts]
    exact hnd
  -- the choice
  have C3 : ∀ (H1 : Hp) (l : Addr) (y3 y5 y8 : Option V), Go st cs H H1 → H l = none → H1 nt = some (.tup (NS.map V.str)) → FrmsAt doms H1 l 20 → (tSeq (tAsg (tCall (sp__law_pick K) [] E0 (tCons (tVar 0) (tCons (tVar 7) tNil))) (gName 9))
  (tSeq (tIfS (tTest (tOp rGtI (tCall (sp__law_draw K) [] E0 (tCons (tVar 0) (tCons (tC (.int 3)) tNil))) (tC (.int 0)))) (tRet (tVar 9)) tNext)
  (tSeq (tAsg (tCall (sp__law_draw K) [] E0 (tCons (tVar 0) (tCons (tC (.int 3)) tNil))) (gName 10))
  (tSeq (tIfS (tTest (tOp rEq (tVar 10) (tC (.int 0)))) (tRet (tTup (tCons (tC (.str "when")) (tCons (tTup (tCons (tC (.str "is")) (tCons (tOp (rIxT K) (tVar 2) (tCall (sp__law_draw K) [] E0 (tCons (tVar 0) (tCons (tCB (rLen1 K) (tCons (tVar 2) tNil)) tNil)))) (tCons (tC (.int 0)) tNil)))) (tCons (tVar 9) tNil))))) tNext)
  (tSeq (tIfS (tTest (tOp rEq (tVar 10) (tC (.int 1)))) (tRet (tTup (tCons (tC (.str "when")) (tCons (tTup (tCons (tC (.str "or")) (tCons (tTup (tCons (tTup (tCons (tC (.str "not")) (tCons (tTup (tCons (tC (.str "from")) (tCons (tOp (rIxT K) (tVar 2) (tC (.int 0))) (tCons (tC (.int 1)) tNil)))) tNil))) (tCons (tTup (tCons (tC (.str "is")) (tCons (tOp (rIxT K) (tVar 2) (tC (.int 1))) (tCons (tC (.int 0)) tNil)))) (tCons (tTup (tCons (tC (.str "and")) (tCons (tTup tNil) tNil))) tNil)))) tNil))) (tCons (tVar 9) tNil))))) tNext)
  (tRet (tTup (tCons (tC (.str "when")) (tCons (tTup (tCons (tC (.str "and")) (tCons (tTup (tCons (tTup (tCons (tC (.str "from")) (tCons (tOp (rIxT K) (tVar 2) (tC (.int 0))) (tCons (tC (.int 1)) tNil)))) (tCons (tTup (tCons (tC (.str "is")) (tCons (tOp (rIxT K) (tVar 2) (tC (.int 0))) (tCons (tC (.int 200)) tNil)))) tNil))) tNil))) (tCons (tTup (tCons (tC (.str "unlike")) (tCons (tSl (rSlA K) (tVar 2) (tPart (tC (.int 1))) tNoPart) tNil))) tNil)))))))))) { nx := fun _ H' => Q .non H', rt := Q } [some (.ref st), some (.ref u), some (.ref nt), y3, some (.ref zt), y5, some (.ref ot), some (.ref l), y8, none, none] H1 := by
    intro H1 l y3 y5 y8 gA nl ent1 ⟨fs, el, p1, l1, f1⟩
    walk_at "aw"
    refine ⟨st, l, rfl, cs, fs, gA.ok, .inl ⟨SqL.of el, (ok.ne nl).1⟩, p1, by omega, fun i v H2 e g2 => ?_⟩
    obtain ⟨s, hs, sok, sw, sl⟩ := (f1 v (List.mem_of_getElem? e)).up g2.tk
    have ent2 := g2.tk _ _ ent1
    have g12 := gA.trans g2
    walk_at "aw"
    refine w_draw g2.ok (by decide) (by decide) fun k H4 _ _ g4 => ?_
    have g14 := g12.trans g4
    walk_at "aw"
    refine w_iteB (fun _ => ?_) fun _ => ?_
    · walk_at "aw"
      exact q v s H4 g14 (hs.up g4.tk) sok
    walk_at "aw"
    refine w_draw g4.ok (by decide) (by decide) fun way H5 w0 w1 g5 => ?_
    have ent5 := (g4.trans g5).tk _ _ ent2
    have hs5 := hs.up (g4.trans g5).tk
    have g15 := g14.trans g5
    walk_at "aw"
    refine w_iteB (fun _ => ?_) fun _ => ?_
    · walk_at "aw"
      refine w_lenT (SqT.of ent5) ?_
      rw [List.length_map]
      walk_at "aw"
      refine w_draw g5.ok (by omega) (by omega) fun j H6 j0 j1 g6 => ?_
      obtain ⟨x, hx⟩ := get_some (xs := NS) (i := j.toNat) (by omega)
      refine w_ixT (SqT.of (g6.tk _ _ ent5)) (v := .str x) (at_nat j0 (by rw [List.getElem?_map, hx]; rfl)) ?_
      walk_at "aw"
      refine w_tupD (by show 3 ≤ 100000; decide) fun t7 H7 n7 a7 e7 => ?_
      walk_at "aw"
      refine w_tupD (by show 3 ≤ 100000; decide) fun t8 H8 n8 a8 e8 => ?_
      obtain ⟨f, hf⟩ := claim1 (x := x)
      refine q (.ref t8) (.when _ f [x] s) H8 (((g15.trans g6).new a7).new a8) (.tup e8 (.cons (.str _) (.cons (.tup (a8.tup _ _ e7) (.cons (.str _) (.cons (.str _) (.cons (.int _) .nil)))) (.cons (hs5.up ((g6.new a7).new a8).tk) .nil)))) ⟨⟨hf, by show 1 ≤ 1000; decide, sw, sok.1⟩, sok.2.1, ?_, fun y hy => ?_⟩
      · show ([x] ++ s.names).length ≤ 1000
        rw [List.length_append, List.length_singleton]
        omega
      · have hy : y ∈ [x] ++ s.names := hy
        rcases List.mem_append.mp hy with hy | hy
        · rw [List.mem_singleton.mp hy]
          exact hsub x (List.mem_of_getElem? hx)
        · exact sok.2.2.2 y hy
    walk_at "aw"
    have h0 : (NS.map V.str)[0]? = some (.str n0) := by rw [hNS]; rfl
    have h1 : (NS.map V.str)[1]? = some (.str n1) := by rw [hNS]; rfl
    have m0 : n0 ∈ NS := by rw [hNS]; exact List.mem_cons_self ..
    have m1 : n1 ∈ NS := by rw [hNS]; exact List.mem_cons_of_mem _ (List.mem_cons_self ..)
    refine w_iteB (fun _ => ?_) fun _ => ?_
    · walk_at "aw"
      refine w_ixT (SqT.of ent5) (at_of (j := 0) rfl h0) ?_
      walk_at "aw"
      refine w_tupD (by show 3 ≤ 100000; decide) fun t6 H6 n6 a6 e6 => ?_
      walk_at "aw"
      refine w_tupD (by show 2 ≤ 100000; decide) fun t7 H7 n7 a7 e7 => ?_
      walk_at "aw"
      refine w_ixT (SqT.of ((a6.trans a7).tup _ _ ent5)) (at_of (j := 1) rfl h1) ?_
      walk_at "aw"
      refine w_tupD (by show 3 ≤ 100000; decide) fun t8 H8 n8 a8 e8 => ?_
      walk_at "aw"
      refine w_tupD (by show 0 ≤ 100000; decide) fun t9 H9 n9 a9 e9 => ?_
      walk_at "aw"
      refine w_tupD (by show 2 ≤ 100000; decide) fun t10 H10 n10 a10 e10 => ?_
      walk_at "aw"
      refine w_tupD (by show 3 ≤ 100000; decide) fun t11 H11 n11 a11 e11 => ?_
      walk_at "aw"
      refine w_tupD (by show 2 ≤ 100000; decide) fun t12 H12 n12 a12 e12 => ?_
      walk_at "aw"
      refine w_tupD (by show 3 ≤ 100000; decide) fun t13 H13 n13 a13 e13 => ?_
      obtain ⟨f, hf⟩ := claim3 (n0 := n0) (n1 := n1)
      have k13 := a13
      have k12 := a12.trans k13
      have k11 := a11.trans k12
      have k10 := a10.trans k11
      have k9 := a9.trans k10
      have k8 := a8.trans k9
      have k7 := a7.trans k8
      have k6 := a6.trans k7
      refine q (.ref t13) (.when _ f [n0, n1] s) H13 (g15.new k6) (.tup e13 (.cons (.str _) (.cons
        (.tup (k13.tup _ _ e12) (.cons (.str _) (.cons (.tup (k12.tup _ _ e11) (.cons (.tup (k8.tup _ _ e7) (.cons (.str _) (.cons (.tup (k7.tup _ _ e6) (.cons (.str _) (.cons (.str _) (.cons (.int _) .nil)))) .nil))) (.cons (.tup (k9.tup _ _ e8) (.cons (.str _) (.cons (.str _) (.cons (.int _) .nil)))) (.cons (.tup (k11.tup _ _ e10) (.cons (.str _) (.cons (.tup (k10.tup _ _ e9) .nil) .nil))) .nil)))) .nil))) (.cons (hs5.up k6.tup) .nil)))) ⟨⟨hf, by show 2 ≤ 1000; decide, sw, sok.1⟩, sok.2.1, ?_, fun y hy => ?_⟩
      · show ([n0, n1] ++ s.names).length ≤ 1000
        rw [List.length_append]
        show 2 + _ ≤ 1000
        omega
      · have hy : y ∈ [n0, n1] ++ s.names := hy
        rcases List.mem_append.mp hy with hy | hy
        · simp only [List.mem_cons, List.not_mem_nil, or_false] at hy
          rcases hy with rfl | rfl
          · exact hsub _ m0
          · exact hsub _ m1
        · exact sok.2.2.2 y hy
    · walk_at "aw"
      refine w_ixT (SqT.of ent5) (at_of (j := 0) rfl h0) ?_
      walk_at "aw"
      refine w_tupD (by show 3 ≤ 100000; decide) fun t6 H6 n6 a6 e6 => ?_
      walk_at "aw"
      refine w_ixT (SqT.of (a6.tup _ _ ent5)) (at_of (j := 0) rfl h0) ?_
      walk_at "aw"
      refine w_tupD (by show 3 ≤ 100000; decide) fun t7 H7 n7 a7 e7 => ?_
      walk_at "aw"
      refine w_tupD (by show 2 ≤ 100000; decide) fun t8 H8 n8 a8 e8 => ?_
      walk_at "aw"
      refine w_tupD (by show 2 ≤ 100000; decide) fun t9 H9 n9 a9 e9 => ?_
      walk_at "aw"
      refine w_slA ((a6.trans (a7.trans (a8.trans a9))).tup _ _ ent5) fun t10 H10 a10 e10 => ?_
      rw [cut_from _ (by decide), ← List.map_drop, hNS] at e10
      walk_at "aw"
      refine w_tupD (by show 2 ≤ 100000; decide) fun t11 H11 n11 a11 e11 => ?_
      walk_at "aw"
      refine w_tupD (by show 3 ≤ 100000; decide) fun t12 H12 n12 a12 e12 => ?_
      obtain ⟨f, hf⟩ := claim2 (n0 := n0)
      have k12 := a12
      have k11 := a11.trans k12
      have k10 := a10.trans k11
      have k9 := a9.trans k10
      have k8 := a8.trans k9
      have k7 := a7.trans k8
      have k6 := a6.trans k7
      have hnl : (n1 :: ns).length ≤ 12 := by rw [hNS] at hNl12; simp at hNl12 ⊢; omega
      refine q (.ref t12) (.when _ f [n0, n0] (.unlike (n1 :: ns))) H12 (g15.new k6) (.tup e12 (.cons (.str _) (.cons
        (.tup (k10.tup _ _ e9) (.cons (.str _) (.cons (.tup (k9.tup _ _ e8) (.cons (.tup (k7.tup _ _ e6) (.cons (.str _) (.cons (.str _) (.cons (.int _) .nil)))) (.cons (.tup (k8.tup _ _ e7) (.cons (.str _) (.cons (.str _) (.cons (.int _) .nil)))) .nil))) .nil))) (.cons (.tup (k12.tup _ _ e11) (.cons (.str _) (.cons (.tup (k11.tup _ _ e10) (.strs (n1 :: ns))) .nil))) .nil)))) ⟨⟨hf, by show 2 ≤ 1000; decide, rfl, Nat.le_trans hnl (by decide)⟩, ?_, ?_, fun y hy => ?_⟩
      · show (n1 :: ns).Nodup
        rw [hNS] at hnd
        exact (List.nodup_cons.mp hnd).2
      · show ([n0, n0] ++ (n1 :: ns)).length ≤ 1000
        rw [List.length_append]
        show 2 + _ ≤ 1000
        omega
      · have hy : y ∈ [n0, n0] ++ (n1 :: ns) := hy
        refine hsub y ?_
        rw [hNS]
        rcases List.mem_append.mp hy with hy | hy
        · simp only [List.mem_cons, List.not_mem_nil, or_false, or_self] at hy
          rw [hy]
          exact List.mem_cons_self ..
        · exact List.mem_cons_of_mem _ hy
  have C2 : ∀ (H1 : Hp) (l : Addr) (y3 y5 : Option V), Go st cs H H1 → H l = none → H1 nt = some (.tup (NS.map V.str)) → FrmsAt doms H1 l 15 → (tSeq (tIfS (tTest (tOp rEq (tOp rModI (tCB rInt1 (tCons (tCB (rLen1 K) (tCons (tVar 2) tNil)) tNil)) (tC (.int 2))) (tC (.int 0)))) (tSeq (tAsg (tOp rDivI (tCB (rLen1 K) (tCons (tVar 2) tNil)) (tC (.int 2))) (gName 8))
  (tIfS (tTest (tOp rLtI (tVar 8) (tC (.int 7)))) (tDrop (tBM K "list" rAppend (tVar 7) (tCons (tTup (tCons (tC (.str "ahead")) (tCons (tSl (rSlA K) (tVar 2) tNoPart (tPart (tVar 8))) (tCons (tSl (rSlA K) (tVar 2) (tPart (tVar 8)) tNoPart) tNil)))) tNil))) tNext)) tNext)
  (tSeq (tAsg (tCall (sp__law_pick K) [] E0 (tCons (tVar 0) (tCons (tVar 7) tNil))) (gName 9))
  (tSeq (tIfS (tTest (tOp rGtI (tCall (sp__law_draw K) [] E0 (tCons (tVar 0) (tCons (tC (.int 3)) tNil))) (tC (.int 0)))) (tRet (tVar 9)) tNext)
  (tSeq (tAsg (tCall (sp__law_draw K) [] E0 (tCons (tVar 0) (tCons (tC (.int 3)) tNil))) (gName 10))
  (tSeq (tIfS (tTest (tOp rEq (tVar 10) (tC (.int 0)))) (tRet (tTup (tCons (tC (.str "when")) (tCons (tTup (tCons (tC (.str "is")) (tCons (tOp (rIxT K) (tVar 2) (tCall (sp__law_draw K) [] E0 (tCons (tVar 0) (tCons (tCB (rLen1 K) (tCons (tVar 2) tNil)) tNil)))) (tCons (tC (.int 0)) tNil)))) (tCons (tVar 9) tNil))))) tNext)
  (tSeq (tIfS (tTest (tOp rEq (tVar 10) (tC (.int 1)))) (tRet (tTup (tCons (tC (.str "when")) (tCons (tTup (tCons (tC (.str "or")) (tCons (tTup (tCons (tTup (tCons (tC (.str "not")) (tCons (tTup (tCons (tC (.str "from")) (tCons (tOp (rIxT K) (tVar 2) (tC (.int 0))) (tCons (tC (.int 1)) tNil)))) tNil))) (tCons (tTup (tCons (tC (.str "is")) (tCons (tOp (rIxT K) (tVar 2) (tC (.int 1))) (tCons (tC (.int 0)) tNil)))) (tCons (tTup (tCons (tC (.str "and")) (tCons (tTup tNil) tNil))) tNil)))) tNil))) (tCons (tVar 9) tNil))))) tNext)
  (tRet (tTup (tCons (tC (.str "when")) (tCons (tTup (tCons (tC (.str "and")) (tCons (tTup (tCons (tTup (tCons (tC (.str "from")) (tCons (tOp (rIxT K) (tVar 2) (tC (.int 0))) (tCons (tC (.int 1)) tNil)))) (tCons (tTup (tCons (tC (.str "is")) (tCons (tOp (rIxT K) (tVar 2) (tC (.int 0))) (tCons (tC (.int 200)) tNil)))) tNil))) tNil))) (tCons (tTup (tCons (tC (.str "unlike")) (tCons (tSl (rSlA K) (tVar 2) (tPart (tC (.int 1))) tNoPart) tNil))) tNil))))))))))) { nx := fun _ H' => Q .non H', rt := Q } [some (.ref st), some (.ref u), some (.ref nt), y3, some (.ref zt), y5, some (.ref ot), some (.ref l), none, none, none] H1 := by
    intro H1 l y3 y5 gA nl ent1 fr
    walk_at "aw"
    refine w_lenT (SqT.of ent1) ?_
    rw [List.length_map]
    walk_at "aw"
    refine w_iteB (fun hev => ?_) fun _ => ?_
    · have hev := V.int.inj hev
      walk_at "aw"
      refine w_lenT (SqT.of ent1) ?_
      rw [List.length_map]
      walk_at "aw"
      refine w_I ⟨by decide, by decide⟩ ?_
      obtain ⟨half, eh⟩ : ∃ half : Nat, NS.length = 2 * half := ⟨NS.length / 2, by omega⟩
      rw [show ((NS.length : Nat) : Int) / 2 = ((half : Nat) : Int) by omega]
      walk_at "aw"
      refine w_iteB (fun _ => ?_) fun _ => ?_
      · obtain ⟨fs, el, _⟩ := id fr
        walk_at "aw"
        refine w_app rfl el ?_
        walk_at "aw"
        refine w_slA ent1 fun t4 H4 a4 e4 => ?_
        rw [cut_to _ (by omega), Int.toNat_natCast, ← List.map_take] at e4
        walk_at "aw"
        refine w_slA (a4.tup _ _ ent1) fun t5 H5 a5 e5 => ?_
        rw [cut_from _ (by omega), Int.toNat_natCast, ← List.map_drop] at e5
        walk_at "aw"
        refine w_tupD (by show 3 ≤ 100000; decide) fun t6 H6 n6 a6 e6 => ?_
        have k5 := a5.trans a6
        have k4 := a4.trans k5
        have en : (Say.ahead (NS.take half) (NS.drop half)).names = NS := List.take_append_drop _ _
        have hv : Frm doms H6 (.ref t6) := ⟨.ahead (NS.take half) (NS.drop half), .tup e6 (.cons (.str _) (.cons (.tup (k5.tup _ _ e4) (.strs _)) (.cons (.tup (a6.tup _ _ e5) (.strs _)) .nil))), ⟨⟨by rw [List.length_take, List.length_drop]; omega, by rw [List.length_take]; omega⟩, (show (Say.ahead (NS.take half) (NS.drop half)).names.Nodup by rw [en]; exact hnd), by rw [en]; omega, fun x hx => by rw [en] at hx; exact hsub x hx⟩, rfl, by rw [en]; omega⟩
        obtain ⟨fs', el', hl', ad, tk', fr'⟩ := (fr.up k4).app hv ok (gA.new k4) nl
        walk_at "aw"
        refine w_append el' (by omega) ?_
        walk_at "aw1"
        exact C3 _ l y3 y5 _ ad nl (tk' _ _ (k4.tup _ _ ent1)) (fr'.mono (by decide))
      · walk_at "aw1"
        exact C3 H1 l y3 y5 _ gA nl ent1 (fr.mono (by decide))
    · walk_at "aw1"
      exact C3 H1 l y3 y5 _ gA nl ent1 (fr.mono (by decide))
  have C1 : ∀ (H1 : Hp) (l : Addr) (y3 y5 : Option V), Go st cs H H1 → H l = none → H1 nt = some (.tup (NS.map V.str)) → FrmsAt doms H1 l 10 → (tSeq (tIfS (tTest (tOp rGtI (tCB (rLen1 K) (tCons (tVar 2) tNil)) (tC (.int 2)))) (tDrop (tBM K "list" rAppend (tVar 7) (tCons (tTup (tCons (tC (.str "pick")) (tCons (tOp (rIxT K) (tVar 2) (tC (.int 0))) (tCons (tSl (rSlA K) (tVar 2) (tPart (tC (.int 2))) tNoPart) (tCons (tOp (rIxT K) (tVar 2) (tC (.int 1))) tNil))))) tNil))) tNext)
  (tSeq (tIfS (tTest (tOp rEq (tOp rModI (tCB rInt1 (tCons (tCB (rLen1 K) (tCons (tVar 2) tNil)) tNil)) (tC (.int 2))) (tC (.int 0)))) (tSeq (tAsg (tOp rDivI (tCB (rLen1 K) (tCons (tVar 2) tNil)) (tC (.int 2))) (gName 8))
  (tIfS (tTest (tOp rLtI (tVar 8) (tC (.int 7)))) (tDrop (tBM K "list" rAppend (tVar 7) (tCons (tTup (tCons (tC (.str "ahead")) (tCons (tSl (rSlA K) (tVar 2) tNoPart (tPart (tVar 8))) (tCons (tSl (rSlA K) (tVar 2) (tPart (tVar 8)) tNoPart) tNil)))) tNil))) tNext)) tNext)
  (tSeq (tAsg (tCall (sp__law_pick K) [] E0 (tCons (tVar 0) (tCons (tVar 7) tNil))) (gName 9))
  (tSeq (tIfS (tTest (tOp rGtI (tCall (sp__law_draw K) [] E0 (tCons (tVar 0) (tCons (tC (.int 3)) tNil))) (tC (.int 0)))) (tRet (tVar 9)) tNext)
  (tSeq (tAsg (tCall (sp__law_draw K) [] E0 (tCons (tVar 0) (tCons (tC (.int 3)) tNil))) (gName 10))
  (tSeq (tIfS (tTest (tOp rEq (tVar 10) (tC (.int 0)))) (tRet (tTup (tCons (tC (.str "when")) (tCons (tTup (tCons (tC (.str "is")) (tCons (tOp (rIxT K) (tVar 2) (tCall (sp__law_draw K) [] E0 (tCons (tVar 0) (tCons (tCB (rLen1 K) (tCons (tVar 2) tNil)) tNil)))) (tCons (tC (.int 0)) tNil)))) (tCons (tVar 9) tNil))))) tNext)
  (tSeq (tIfS (tTest (tOp rEq (tVar 10) (tC (.int 1)))) (tRet (tTup (tCons (tC (.str "when")) (tCons (tTup (tCons (tC (.str "or")) (tCons (tTup (tCons (tTup (tCons (tC (.str "not")) (tCons (tTup (tCons (tC (.str "from")) (tCons (tOp (rIxT K) (tVar 2) (tC (.int 0))) (tCons (tC (.int 1)) tNil)))) tNil))) (tCons (tTup (tCons (tC (.str "is")) (tCons (tOp (rIxT K) (tVar 2) (tC (.int 1))) (tCons (tC (.int 0)) tNil)))) (tCons (tTup (tCons (tC (.str "and")) (tCons (tTup tNil) tNil))) tNil)))) tNil))) (tCons (tVar 9) tNil))))) tNext)
  (tRet (tTup (tCons (tC (.str "when")) (tCons (tTup (tCons (tC (.str "and")) (tCons (tTup (tCons (tTup (tCons (tC (.str "from")) (tCons (tOp (rIxT K) (tVar 2) (tC (.int 0))) (tCons (tC (.int 1)) tNil)))) (tCons (tTup (tCons (tC (.str "is")) (tCons (tOp (rIxT K) (tVar 2) (tC (.int 0))) (tCons (tC (.int 200)) tNil)))) tNil))) tNil))) (tCons (tTup (tCons (tC (.str "unlike")) (tCons (tSl (rSlA K) (tVar 2) (tPart (tC (.int 1))) tNoPart) tNil))) tNil)))))))))))) { nx := fun _ H' => Q .non H', rt := Q } [some (.ref st), some (.ref u), some (.ref nt), y3, some (.ref zt), y5, some (.ref ot), some (.ref l), none, none, none] H1 := by
    intro H1 l y3 y5 gA nl ent1 fr
    walk_at "aw"
    refine w_lenT (SqT.of ent1) ?_
    rw [List.length_map]
    walk_at "aw"
    refine w_iteB (fun _ => ?_) fun _ => ?_
    · obtain ⟨fs, el, _⟩ := id fr
      have h0 : (NS.map V.str)[0]? = some (.str n0) := by rw [hNS]; rfl
      have h1 : (NS.map V.str)[1]? = some (.str n1) := by rw [hNS]; rfl
      walk_at "aw"
      refine w_app rfl el ?_
      walk_at "aw"
      refine w_ixT (SqT.of ent1) (at_of (j := 0) rfl h0) ?_
      walk_at "aw"
      refine w_slA ent1 fun t4 H4 a4 e4 => ?_
      rw [cut_from _ (by decide), ← List.map_drop, hNS] at e4
      walk_at "aw"
      refine w_ixT (SqT.of (a4.tup _ _ ent1)) (at_of (j := 1) rfl h1) ?_
      walk_at "aw"
      refine w_tupD (by show 4 ≤ 100000; decide) fun t6 H6 n6 a6 e6 => ?_
      have k4 := a4.trans a6
      have hpr : (n0 :: n1 :: ns).Perm (n0 :: (ns ++ [n1])) := List.Perm.cons n0 (List.perm_append_comm (l₁ := [n1]) (l₂ := ns))
      have hnl : (n0 :: (ns ++ [n1])).length ≤ 12 := by rw [← hpr.length_eq, ← hNS]; exact hNl12
      have hv : Frm doms H6 (.ref t6) := ⟨.pick n0 ns n1, .tup e6 (.cons (.str _) (.cons (.str _) (.cons (.tup (a6.tup _ _ e4) (.strs ns)) (.cons (.str _) .nil)))), ⟨(by show ns.length ≤ 100; simp at hnl; omega), (show (n0 :: (ns ++ [n1])).Nodup from hpr.nodup (by rw [← hNS]; exact hnd)), Nat.le_trans hnl (by decide), fun x hx => hsub x (by rw [hNS]; exact hpr.mem_iff.mpr hx)⟩, rfl, Nat.le_trans hnl (by decide)⟩
      obtain ⟨fs', el', hl', ad, tk', fr'⟩ := (fr.up k4).app hv ok (gA.new k4) nl
      walk_at "aw"
      refine w_append el' (by omega) ?_
      walk_at "aw1"
      exact C2 _ l y3 y5 ad nl (tk' _ _ (k4.tup _ _ ent1)) (fr'.mono (by decide))
    · walk_at "aw1"
      exact C2 H1 l y3 y5 gA nl ent1 (fr.mono (by decide))
  have sg : ∀ (s : Say) (H' : Hp) (v : V), Is H' (sayD s) v → SayOk doms s → s.isWhen = false → s.names.length ≤ 900 → Frm doms H' v := fun s H' v h1 h2 h3 h4 => ⟨s, h1, h2, h3, h4⟩
  have plain : ∀ (s : Say), s.names = NS → s.ok → s.isWhen = false → s.isClaim = false → (s.names.Nodup → s.nd) → SayOk doms s ∧ s.isWhen = false ∧ s.names.length ≤ 900 := fun s en h1 h2 h3 h4 => ⟨⟨h1, h4 (by rw [en]; exact hnd), by rw [en]; omega, fun x hx => by rw [en] at hx; exact hsub x hx⟩, h2, by rw [en]; omega⟩
  have NS0 : IsAll H3 (NS.map .str) (NS.map V.str) := .strs NS
  walk_at "aw"
  refine w_termsT okB ent3 (by omega) ⟨by decide, by decide⟩ (fun _ => rfl) (fun _ => rfl) (fun _ _ _ h => h) fun tt ts H4 g4 htt hts hwt => ?_
  have ent4 := g4.tk _ _ ent3
  walk_at "aw"
  refine w_tupD (by show 3 ≤ 100000; decide) fun p1 H5 _ a5 e5 => ?_
  walk_at "aw"
  refine w_tupD (by show 2 ≤ 100000; decide) fun p2 H6 _ a6 e6 => ?_
  walk_at "aw"
  refine w_tupD (by show 2 ≤ 100000; decide) fun p3 H7 _ a7 e7 => ?_
  walk_at "aw"
  refine w_lstD (by show 3 ≤ 100000; decide) fun l1 H8 nl1 a8 e8 => ?_
  have k8 := a8
  have k7 := a7.trans k8
  have k6 := a6.trans k7
  have k5 := a5.trans k6
  have g38 := g4.new k5
  have g08 := (Go.of ok A3).trans g38
  have ent8 := k5.tup _ _ ent4
  have fr1 : FrmsAt doms H8 l1 3 := ⟨_, e8, by show 0 < 3; decide, by show 3 ≤ 3; decide, fun x hx => by
    simp only [List.mem_cons, List.not_mem_nil, or_false] at hx
    rcases hx with rfl | rfl | rfl
    · exact sg (.sums true ts 0) H8 _ (.tup (k6.tup _ _ e5) (.cons (.str _) (.cons (htt.up k5.tup) (.cons (.int _) .nil)))) (FS true ts 0 hts hwt).1 rfl (FS true ts 0 hts hwt).2.2
    · have := plain (.unlike NS) rfl (by show NS.length ≤ 100; omega) rfl rfl fun h => h
      exact sg (.unlike NS) H8 _ (.tup (k7.tup _ _ e6) (.cons (.str _) (.cons (.tup ent8 (.strs NS)) .nil))) this.1 this.2.1 this.2.2
    · have := plain (.round NS) rfl ⟨by omega, by omega⟩ rfl rfl fun h => h
      exact sg (.round NS) H8 _ (.tup (k8.tup _ _ e7) (.cons (.str _) (.cons (.tup ent8 (.strs NS)) .nil))) this.1 this.2.1 this.2.2⟩
  clear e8
  walk_at "aw"
  -- counts, machine, works
  refine w_tupD (by show 3 ≤ 100000; decide) fun q1 X1 _ b1 f1 => ?_
  walk_at "aw"
  refine w_tupD (by show 1 ≤ 100000; decide) fun q2 X2 _ b2 f2 => ?_
  walk_at "aw"
  refine w_tupD (by show 3 ≤ 100000; decide) fun q3 X3 _ b3 f3 => ?_
  walk_at "aw"
  refine w_tupD (by show 0 ≤ 100000; decide) fun q4 X4 _ b4 f4 => ?_
  walk_at "aw"
  refine w_tupD (by show 1 ≤ 100000; decide) fun q5 X5 _ b5 f5 => ?_
  walk_at "aw"
  refine w_tupD (by show 5 ≤ 100000; decide) fun q6 X6 _ b6 f6 => ?_
  walk_at "aw"
  refine w_tupD (by show 5 ≤ 100000; decide) fun q7 X7 _ b7 f7 => ?_
  walk_at "aw"
  refine w_lstD (by show 3 ≤ 100000; decide) fun l2 X8 nl2 b8 f8 => ?_
  have j8 := b8
  have j7 := b7.trans j8
  have j6 := b6.trans j7
  have j5 := b5.trans j6
  have j4 := b4.trans j5
  have j3 := b3.trans j4
  have j2 := b2.trans j3
  have j1 := b1.trans j2
  have entX := j1.tup _ _ ent8
  have g3X := g38.new j1
  have eztX := g3X.tk _ _ ezt3
  have eotX := g3X.tk _ _ eot
  have fr2 : FrmsAt doms X8 l2 3 := ⟨_, f8, by show 0 < 3; decide, by show 3 ≤ 3; decide, fun x hx => by
    simp only [List.mem_cons, List.not_mem_nil, or_false] at hx
    rcases hx with rfl | rfl | rfl
    · have := plain (.counts NS [(0, 0, 12)]) rfl ⟨by omega, by decide⟩ rfl rfl fun h => h
      exact sg (.counts NS [(0, 0, 12)]) X8 _ (.tup (j4.tup _ _ f3) (.cons (.str _) (.cons (.tup entX (.strs NS)) (.cons (.tup (j3.tup _ _ f2) (.cons (.tup (j2.tup _ _ f1) (.cons (.int _) (.cons (.int _) (.cons (.int _) .nil)))) .nil)) .nil)))) this.1 this.2.1 this.2.2
    · have := plain (.mach NS 0 [] [0]) rfl ⟨by omega, by decide, by simp, by decide⟩ rfl rfl fun h => h
      exact sg (.mach NS 0 [] [0]) X8 _ (.tup (j7.tup _ _ f6) (.cons (.str _) (.cons (.tup entX (.strs NS)) (.cons (.int _) (.cons (.tup (j5.tup _ _ f4) .nil) (.cons (.tup (j6.tup _ _ f5) (.cons (.int _) .nil)) .nil)))))) this.1 this.2.1 this.2.2
    · have := plain (.works NS (NS.map fun _ => 1) (NS.map fun _ => 0) 0) rfl ⟨by rw [List.length_map], by rw [List.length_map], by decide, by omega⟩ rfl rfl fun h => h
      exact sg (.works NS (NS.map fun _ => 1) (NS.map fun _ => 0) 0) X8 _ (.tup (j8.tup _ _ f7) (.cons (.str _) (.cons (.tup entX (.strs NS)) (.cons (.tup eotX (.ints _)) (.cons (.tup eztX (.ints _)) (.cons (.int _) .nil)))))) this.1 this.2.1 this.2.2⟩
  refine (fr1.up j1).cat fr2 (by decide) fun l3 Y1 nl3 c1 fr3 => ?_
  have g0Y := (g08.new j1).new c1
  have entY := c1.tup _ _ entX
  walk_at "aw"
  refine w_termsT (c := -100) g0Y.ok entY (by omega) ⟨by decide, by decide⟩ (fun _ => rfl) (fun _ => rfl) (fun _ _ _ h => by walk_at "aw"; exact h) fun tt2 ts2 Y2 gy2 htt2 hts2 hwt2 => ?_
  walk_at "aw"
  refine w_tupD (by show 3 ≤ 100000; decide) fun r1 Y3 _ c3 h3 => ?_
  have entY3 := c3.tup _ _ (gy2.tk _ _ entY)
  have h0 : (NS.map V.str)[0]? = some (.str n0) := by rw [hNS]; rfl
  walk_at "aw"
  refine w_slA entY3 fun r2 Y4 c4 h4 => ?_
  rw [cut_from _ (by decide), ← List.map_drop, hNS] at h4
  walk_at "aw"
  refine w_ixT (SqT.of (c4.tup _ _ entY3)) (at_of (j := 0) rfl h0) ?_
  walk_at "aw"
  refine w_tupD (by show 3 ≤ 100000; decide) fun r3 Y5 _ c5 h5 => ?_
  walk_at "aw"
  refine w_lstD (by show 2 ≤ 100000; decide) fun l4 Y6 nl4 c6 h6 => ?_
  have i6 := c6
  have i5 := c5.trans i6
  have i4 := c4.trans i5
  have i3 := c3.trans i4
  have hpr : (n0 :: n1 :: ns).Perm (n1 :: ns ++ [n0]) := List.perm_append_comm (l₁ := [n0]) (l₂ := n1 :: ns)
  have hnl : (n1 :: ns ++ [n0]).length ≤ 12 := by rw [← hpr.length_eq, ← hNS]; exact hNl12
  have fr4 : FrmsAt doms Y6 l4 2 := ⟨_, h6, by show 0 < 2; decide, by show 2 ≤ 2; decide, fun x hx => by
    simp only [List.mem_cons, List.not_mem_nil, or_false] at hx
    rcases hx with rfl | rfl
    · exact sg (.sums false ts2 7) Y6 _ (.tup (i4.tup _ _ h3) (.cons (.str _) (.cons (htt2.up i3.tup) (.cons (.int _) .nil)))) (FS false ts2 7 hts2 hwt2).1 rfl (FS false ts2 7 hts2 hwt2).2.2
    · refine sg (.top (n1 :: ns) n0) Y6 _ (.tup (i6.tup _ _ h5) (.cons (.str _) (.cons (.tup (i5.tup _ _ h4) (.strs (n1 :: ns))) (.cons (.str _) .nil)))) ⟨⟨by simp, by simp at hnl ⊢; omega, fun x hx => hoks x (by rw [hNS]; exact List.mem_cons_of_mem _ hx)⟩, (show (n1 :: ns ++ [n0]).Nodup from hpr.nodup (by rw [← hNS]; exact hnd)), Nat.le_trans hnl (by decide), fun x hx => hsub x (by rw [hNS]; exact hpr.mem_iff.mpr hx)⟩ rfl (Nat.le_trans hnl (by decide))⟩
  have g06 := (g0Y.trans gy2).new i3
  have o3 := ((g08.new j1).ok.ne nl3).1
  have fr3' := (fr3.go o3 gy2).up i3
  refine fr3'.cat fr4 (by decide) fun l5 Z1 nl5 d1 fr5 => ?_
  have g0Z := g06.new d1
  have entZ := d1.tup _ _ (i4.tup _ _ entY3)
  have nl50 : H l5 = none := g06.free ok nl5
  walk_at "aw"
  refine w_lenT (SqT.of entZ) ?_
  rw [List.length_map]
  walk_at "aw"
  refine w_iteB (fun _ => ?_) fun _ => ?_
  · walk_at "aw"
    refine w_tupD (by show 0 ≤ 100000; decide) fun s1 Z2 _ d2 m2 => ?_
    walk_at "aw"
    refine w_tupD (by show 3 ≤ 100000; decide) fun s2 Z3 _ d3 m3 => ?_
    walk_at "aw"
    refine w_tupD (by show 2 ≤ 100000; decide) fun s3 Z4 _ d4 m4 => ?_
    walk_at "aw"
    refine w_tupD (by show 3 ≤ 100000; decide) fun s4 Z5 _ d5 m5 => ?_
    walk_at "aw"
    refine w_lstD (by show 2 ≤ 100000; decide) fun l6 Z6 nl6 d6 m6 => ?_
    have v6 := d6
    have v5 := d5.trans v6
    have v4 := d4.trans v5
    have v3 := d3.trans v4
    have v2 := d2.trans v3
    have entW := v2.tup _ _ entZ
    have gW : Go st cs X8 Z6 := ((((Go.of (g08.new j1).ok c1).trans gy2).new i3).new d1).new v2
    have fr6 : FrmsAt doms Z6 l6 2 := ⟨_, m6, by show 0 < 2; decide, by show 2 ≤ 2; decide, fun x hx => by
      simp only [List.mem_cons, List.not_mem_nil, or_false] at hx
      rcases hx with rfl | rfl
      · have := plain (.tab true NS []) rfl ⟨by omega, by decide⟩ rfl rfl fun h => h
        exact sg (.tab true NS []) Z6 _ (.tup (v4.tup _ _ m3) (.cons (.str _) (.cons (.tup entW (.strs NS)) (.cons (.tup (v3.tup _ _ m2) .nil) .nil)))) this.1 this.2.1 this.2.2
      · have := plain (.tab true NS [NS.map fun _ => 0, NS.map fun _ => 1]) rfl ⟨by omega, by show 2 ≤ 1000; decide⟩ rfl rfl fun h => h
        exact sg (.tab true NS [NS.map fun _ => 0, NS.map fun _ => 1]) Z6 _ (.tup (v6.tup _ _ m5) (.cons (.str _) (.cons (.tup entW (.strs NS)) (.cons (.tup (v5.tup _ _ m4) (.cons (.tup (gW.tk _ _ eztX) (.ints _)) (.cons (.tup (gW.tk _ _ eotX) (.ints _)) .nil))) .nil)))) this.1 this.2.1 this.2.2⟩
    refine (fr5.up v2).cat fr6 (by decide) fun l7 W1 nl7 u1 fr7 => ?_
    have g0W := (g0Z.new v2)
    walk_at "aw1"
    exact C1 _ l7 _ _ (g0W.new u1) (g0W.free ok nl7) (u1.tup _ _ entW) fr7
  · walk_at "aw1"
    exact C1 _ l5 _ _ g0Z nl50 entZ (fr5.mono (by decide))
end AW
namespace AW
open PySem PySem.Spec PyProof.Rows L2 RZ
open StX
local macro_rules | `(tactic| walk_at "aw1") => `(tactic| first
  | (with_reducible refine w_seq ?_) | (with_reducible refine w_asg ?_) | (with_reducible refine w_gname ?_) | (with_reducible refine w_op ?_) | (with_reducible refine w_un ?_)
  | ((with_reducible refine' w_var ?h ?_); (case h => rfl)) | (with_reducible refine w_c ?_)
  | (with_reducible refine w_I0 ?_) | (with_reducible refine w_U ?_) | (with_reducible refine w_cb ?_) | (with_reducible refine w_nil ?_) | (with_reducible refine w_cons ?_) | (with_reducible refine w_call ?_)
  | (with_reducible refine w_test ?_) | (with_reducible refine w_B ?_) | (with_reducible refine w_bl ?_) | (with_reducible refine w_not ?_) | (with_reducible refine w_yes ?_) | (with_reducible refine iteT ?_) | (with_reducible refine iteF ?_) | (with_reducible refine w_and ?_) | (with_reducible refine w_or ?_)
  | (with_reducible refine w_andV ?_) | (with_reducible refine w_orV ?_) | (with_reducible refine w_notV ?_) | (with_reducible refine w_if ?_)
  | (with_reducible refine w_int1 ?_) | (with_reducible refine w_int1b ?_) | (with_reducible refine w_abs ?_) | (with_reducible refine w_max2 ?_) | (with_reducible refine w_min2 ?_)
  | ((with_reducible refine w_eq ?h ?_); (case h => rfl)) | ((with_reducible refine w_ne ?h ?_); (case h => rfl)) | (with_reducible refine w_isN ?_) | (with_reducible refine w_isB ?_) | (with_reducible refine w_chain ?_)
  | (with_reducible refine w_ret ?_) | (with_reducible refine w_drop ?_) | (with_reducible refine w_ifS ?_) | (with_reducible refine w_gsub ?_) | (with_reducible refine w_augS ?_) | (with_reducible refine w_ipI ?_) | (with_reducible refine w_next ?_)
  | (with_reducible refine w_forR ?_) | (with_reducible refine w_forR2 ?_) | (with_reducible refine w_forL ?_) | (with_reducible refine w_forT ?_) | (with_reducible refine w_lcR ?_) | (with_reducible refine w_lcL ?_) | (with_reducible refine w_lcT ?_) | (with_reducible refine w_sl ?_) | (with_reducible refine w_part ?_) | (with_reducible refine w_noPart ?_) | (with_reducible refine w_in ?_)
  | (with_reducible refine w_gcons ?_) | (with_reducible refine w_gnil ?_) | (with_reducible refine w_lc3 ?_) | (with_reducible refine w_dcZ ?_) | (with_reducible refine w_dcT ?_) | (with_reducible refine w_dg ?_) | (with_reducible refine w_callK ?_) | (with_reducible refine w_dput ?_) | (with_reducible refine w_tup1 ?_)
  | (with_reducible refine w_tup ?_) | (with_reducible refine w_lst ?_)
  | ((with_reducible refine w_I ?h ?_); (case h => first | (exact Or.inr ⟨by decide, by decide⟩) | (exact Or.inl ⟨by decide, by decide⟩) | (show (0 : Int) < _; decide) | (exact ⟨by decide, by decide, by decide⟩) | assumption)))
local macro_rules | `(tactic| walk_at "aw") => `(tactic| repeat (walk_at "aw1"))
/-- a model as the law makes it -/
def MdAt (H : Hp) (v : V) : Prop := ∃ doms firm soft, Is H (modD doms firm soft) v ∧ ModOk doms firm soft ∧ (∀ p ∈ firm, SayOk doms p.2) ∧ ∀ p ∈ soft, SayOk doms p.2.1
theorem MdAt.up {H H' : Hp} {v : V} (h : MdAt H v) (k : TK H H') : MdAt H' v := by
  obtain ⟨doms, firm, soft, h1, h2⟩ := h
  exact ⟨doms, firm, soft, h1.up k, h2⟩
def sp__law_model (_ : PySem.W.Frag) : Sp := fun vs H Q _ => ∃ (st : Addr) (many : Nat) (most : Int) (said soft : Nat), vs = [.ref st, .int (many : Nat), .int most, .int (said : Nat), .int (soft : Nat)] ∧ ∃ cs, StOk st cs H ∧ 1 ≤ many ∧ many ≤ 24 ∧ 1 ≤ most ∧ most ≤ 12 ∧ said ≤ 40 ∧ soft ≤ 8 ∧ ∀ v H', Go st cs H H' → MdAt H' v → Q v H'
def sp__law_edge (_ : PySem.W.Frag) : Sp := fun vs H Q _ => ∃ (st : Addr) (b : Bool), vs = [.ref st, .bl b] ∧ ∃ cs, StOk st cs H ∧ ∀ v H', Go st cs H H' → MdAt H' v → Q v H'
def sp_law (K : PySem.W.Frag) : Sp := fun vs H Q _ => ∃ (a : Addr) (ns : List Int), vs = [.ref a] ∧ SqL K H a (ns.map V.int) ∧ ns.length ≤ 63 ∧ ∀ H', Q (.bl true) H'
/-- names one after the other -/
theorem names_ext {α : Type} {names : List Str} {f : α → Str} {k n : Nat} {xs : List α} (hl : xs.length = n) (hn : k + n ≤ names.length) (h : ∀ (i : Nat) x, xs[i]? = some x → names[k + i]? = some (f x)) : xs.map f = (names.drop k).take n := by
  refine List.ext_getElem? fun i => ?_
  rw [List.getElem?_map]
  by_cases hi : i < n
  · obtain ⟨x, hx⟩ := get_some (xs := xs) (i := i) (by omega)
    rw [hx, List.getElem?_take_of_lt hi, List.getElem?_drop, h i x hx]
    rfl
  · rw [List.getElem?_eq_none (by omega), List.getElem?_eq_none (by rw [List.length_take, List.length_drop]; omega)]
    rfl
theorem inner_many {vs : List V} {a : Addr} {H : Hp} {ns : List Str} {i : Int} {j : Nat} (e : H a = some (.lst (ns.map V.str))) (hi : i = (j : Nat)) (hj : j < ns.length) : ∃ x, ns[j]? = some x ∧ atI (ns.map V.str) i = some (.str x) := by
  obtain ⟨x, hx⟩ := get_some hj
  exact ⟨x, hx, at_of (j := j) hi (by rw [List.getElem?_map, hx]; rfl)⟩
def t__law_model (K : PySem.W.Frag) : TS := (tSeq (tAsg (tCall (sp__law_names K) [] E0 (tCons (tVar 0) (tCons (tOp rAddI (tOp rAddI (tVar 1) (tVar 3)) (tVar 4)) tNil))) (gName 5))
  (tSeq (tAsg (tThen (tLc (iRng1 (tCons (tVar 1) tNil)) (gName 7) tYes (tTup (tCons (tOp (rIxL K) (tVar 5) (tVar 7)) (tCons (tCall (sp__law_domain K) [] E0 (tCons (tVar 0) (tCons (tOp rAddI (tC (.int 1)) (tCall (sp__law_draw K) [] E0 (tCons (tVar 0) (tCons (tVar 2) tNil)))) tNil))) tNil))) [7]) (kTup K)) (gName 6))
  (tSeq (tAsg (tLst tNil) (gName 8))
  (tSeq (tFor (iRng1 (tCons (tVar 3) tNil)) (gName 7)
  (tSeq (tAsg (tCall (sp__law_some K) [] E0 (tCons (tVar 0) (tCons (tVar 6) (tCons (tCB rMin2 (tCons (tC (.int 12)) (tCons (tVar 1) tNil))) tNil)))) (gName 9))
  (tDrop (tBM K "list" rAppend (tVar 8) (tCons (tTup (tCons (tOp (rIxL K) (tVar 5) (tOp rAddI (tVar 1) (tVar 7))) (tCons (tCall (sp__law_saying K 2) [] E0 (tCons (tVar 0) (tCons (tVar 9) (tCons (tCall (sp__law_pick K) [] E0 (tCons (tVar 0) (tCons (tCall (sp__law_kinds K) [] E0 tNil) tNil))) tNil)))) tNil))) tNil)))))
  (tSeq (tAsg (tLst tNil) (gName 10))
  (tSeq (tFor (iRng1 (tCons (tVar 4) tNil)) (gName 7)
  (tSeq (tAsg (tCall (sp__law_some K) [] E0 (tCons (tVar 0) (tCons (tVar 6) (tCons (tCB rMin2 (tCons (tC (.int 12)) (tCons (tVar 1) tNil))) tNil)))) (gName 9))
  (tDrop (tBM K "list" rAppend (tVar 10) (tCons (tTup (tCons (tOp (rIxL K) (tVar 5) (tOp rAddI (tOp rAddI (tVar 1) (tVar 3)) (tVar 7))) (tCons (tCall (sp__law_saying K 2) [] E0 (tCons (tVar 0) (tCons (tVar 9) (tCons (tCall (sp__law_pick K) [] E0 (tCons (tVar 0) (tCons (tCall (sp__law_kinds K) [] E0 tNil) tNil))) tNil)))) (tCons (tOp rAddI (tC (.int 1)) (tCall (sp__law_draw K) [] E0 (tCons (tVar 0) (tCons (tC (.int 100)) tNil)))) tNil)))) tNil)))))
  (tRet (tTup (tCons (tVar 6) (tCons (tThen (tVar 8) (kTup K)) (tCons (tThen (tVar 10) (kTup K)) tNil)))))))))))
def t__law_edge (K : PySem.W.Frag) : TS := (tSeq (tAsg (tCall (sp__law_sizes K) [] E0 (tCons (tVar 0) (tCons (tVar 1) tNil))) (gName 2))
  (tSeq (tAsg (tCall (sp__law_names K) [] E0 (tCons (tVar 0) (tCons (tOp rAddI (tCB (rLen1 K) (tCons (tVar 2) tNil)) (tC (.int 2))) tNil))) (gName 3))
  (tSeq (tAsg (tThen (tLc (iRng1 (tCons (tCB (rLen1 K) (tCons (tVar 2) tNil)) tNil)) (gName 5) tYes (tTup (tCons (tOp (rIxL K) (tVar 3) (tVar 5)) (tCons (tCall (sp__law_domain K) [] E0 (tCons (tVar 0) (tCons (tOp (rIxL K) (tVar 2) (tVar 5)) tNil))) tNil))) [5]) (kTup K)) (gName 4))
  (tSeq (tAsg (tCall (sp__law_over_all K) [] E0 (tCons (tVar 0) (tCons (tVar 4) tNil))) (gName 6))
  (tSeq (tAsg (tTup (tCons (tOp (rIxL K) (tVar 3) (tCB (rLen1 K) (tCons (tVar 2) tNil))) (tCons (tVar 6) tNil))) (gName 7))
  (tSeq (tAsg (tTup (tCons (tOp (rIxL K) (tVar 3) (tOp rAddI (tCB (rLen1 K) (tCons (tVar 2) tNil)) (tC (.int 1)))) (tCons (tCall (sp__law_apart K) [] E0 (tCons (tVar 0) (tCons (tVar 4) tNil))) tNil))) (gName 8))
  (tSeq (tIfS (tTest (tOp rEq (tCall (sp__law_draw K) [] E0 (tCons (tVar 0) (tCons (tC (.int 2)) tNil))) (tC (.int 0)))) (tRet (tTup (tCons (tVar 4) (tCons (tTup (tCons (tVar 7) (tCons (tVar 8) tNil))) (tCons (tTup tNil) tNil))))) tNext)
  (tRet (tTup (tCons (tVar 4) (tCons (tTup (tCons (tVar 8) tNil)) (tCons (tTup (tCons (tOp (rCatA K) (tVar 7) (tTup (tCons (tC (.int 3)) tNil))) tNil)) tNil))))))))))))
def t_law (K : PySem.W.Frag) : TS := (tSeq (tAsg (tCall (sp__law_bag K) [] E0 (tCons (tVar 0) tNil)) (gName 1))
  (tSeq (tAsg (tCall (sp__law_model K) [] E0 (tCons (tVar 1) (tCons (tOp rAddI (tC (.int 3)) (tCall (sp__law_draw K) [] E0 (tCons (tVar 1) (tCons (tC (.int 3)) tNil)))) (tCons (tCall (sp__law_pick K) [] E0 (tCons (tVar 1) (tCons (tLst (tCons (tC (.int 3)) (tCons (tC (.int 5)) (tCons (tC (.int 8)) (tCons (tC (.int 12)) tNil))))) tNil))) (tCons (tOp rAddI (tC (.int 2)) (tCall (sp__law_draw K) [] E0 (tCons (tVar 1) (tCons (tC (.int 4)) tNil)))) (tCons (tCall (sp__law_draw K) [] E0 (tCons (tVar 1) (tCons (tC (.int 3)) tNil))) tNil)))))) (gName 2))
  (tSeq (tAsg (tLst (tCons (tVar 2) (tCons (tCall (sp__law_edge K) [] E0 (tCons (tVar 1) (tCons (tC (.bl true)) tNil))) (tCons (tCall (sp__law_edge K) [] E0 (tCons (tVar 1) (tCons (tC (.bl false)) tNil))) tNil)))) (gName 3))
  (tSeq (tIfS (tTest (tOp rEq (tCall (sp__law_draw K) [] E0 (tCons (tVar 1) (tCons (tC (.int 8)) tNil))) (tC (.int 0)))) (tDrop (tBM K "list" rAppend (tVar 3) (tCons (tCall (sp__law_model K) [] E0 (tCons (tVar 1) (tCons (tC (.int 24)) (tCons (tC (.int 12)) (tCons (tC (.int 40)) (tCons (tC (.int 8)) tNil)))))) tNil))) tNext)
  (tSeq (tFor (iList K (tVar 3)) (gName 4)
  (tSeq (tAsg (tOp rCat (tCB (rListOf K) (tCons (tOp (rIxT K) (tVar 4) (tC (.int 1))) tNil)) (tCB (rListOf K) (tCons (tOp (rIxT K) (tVar 4) (tC (.int 2))) tNil))) (gName 5))
  (tIfS (tOr (tNot (tB (tCall (sp__law_told K) [] E0 (tCons (tVar 4) (tCons (tVar 5) (tCons (tC (.bl false)) tNil)))))) (tNot (tB (tCall (sp__law_told K) [] E0 (tCons (tVar 4) (tCons (tRevL K (tVar 5)) (tCons (tC (.bl true)) tNil))))))) (tRet (tC (.bl false))) tNext)))
  (tRet (tC (.bl true))))))))
theorem len__law_model {K : PySem.W.Frag} : ∀ (vs : List V) (H : Hp) (Q : VK) (E : XK), sp__law_model K vs H Q E → vs.length = 5 := fun vs H Q E h => by
  obtain ⟨_, _, _, _, _, rfl, _⟩ := h
  rfl
theorem pure__law_model {K : PySem.W.Frag} (vs : List V) (H : Hp) (Q : VK) (E : XK) (h : sp__law_model K vs H Q E) : t__law_model K { nx := fun _ H' => Q .non H', rt := Q } (start ["bag", "many", "most", "said", "soft", "names", "unknowns", "k", "hard", "some", "loose"] vs) H := by
  obtain ⟨st, many, most, said, soft, rfl, cs, ok, hm1, hm2, ho1, ho2, hs1, hs2, q⟩ := h
  show t__law_model K _ [some (.ref st), some (.int (many : Nat)), some (.int most), some (.int (said : Nat)), some (.int (soft : Nat)), none, none, none, none, none, none] H
  unfold t__law_model
  walk_at "aw"
  rw [show ((many : Nat) : Int) + (said : Nat) + (soft : Nat) = ((many + said + soft : Nat) : Int) by omega]
  refine ⟨st, _, rfl, cs, ok, by omega, fun nl names H1 g1 nnl enl hnl hnd hok => ?_⟩
  have onl := (ok.ne nnl).1
  walk_at "aw"
  refine kLcR_all (n := many) (by omega) g1.ok (fun i v H => ∃ d : Str × List Int, names[0 + i]? = some d.1 ∧ (0 < d.2.length ∧ d.2.length ≤ 100) ∧ Is H (domD d) v) (fun i v H H' tk h => by obtain ⟨d, h1, h2, h3⟩ := h; exact ⟨d, h1, h2, h3.up tk⟩) (fun i H2 Kt hi g2 kt => ?_) fun l H2 ys nl2 g2 el hyl hyr => ?_
  · walk_at "aw"
    refine ⟨rfl, ?_⟩
    walk_at "aw"
    obtain ⟨x, hx, hat⟩ := inner_many (vs := []) (i := (i : Nat)) (g2.keep onl enl) rfl (show i < names.length by omega)
    refine w_ixL (SqL.of (g2.keep onl enl)) hat ?_
    walk_at "aw"
    refine w_draw g2.ok (by omega) (by omega) fun k H3 k0 k1 g3 => ?_
    walk_at "aw"
    refine ⟨st, _, rfl, cs, g3.ok, by omega, by omega, fun v fl H4 g4 hv hfl => ?_⟩
    walk_at "aw"
    refine w_tupD (by show 2 ≤ 100000; decide) fun t H5 nt a5 et => ?_
    exact kt _ _ ((g3.trans g4).new a5) ⟨(x, fl), by rw [Nat.zero_add]; exact hx, ⟨by show 0 < fl.length; omega, by show fl.length ≤ 100; omega⟩, .tup et (.cons (.str _) (.cons (hv.up a5.tup) .nil))⟩
  obtain ⟨doms, d1, d2, d3⟩ := build (D := domD) (P := fun i (d : Str × List Int) => names[0 + i]? = some d.1 ∧ (0 < d.2.length ∧ d.2.length ≤ 100)) fun i v e => by
    obtain ⟨d, h1, h2, h3⟩ := hyr i v e
    exact ⟨d, ⟨h1, h2⟩, h3⟩
  have hdl : doms.length = many := by omega
  have hdn : doms.map (·.1) = (names.drop 0).take many := names_ext hdl (by omega) fun i x e => (d3 i x e).1
  rw [List.drop_zero] at hdn
  have dm : Dm doms := by
    refine ⟨by omega, by omega, fun p hp => ?_, ?_, fun p hp => ?_⟩
    · obtain ⟨i, hi, rfl⟩ := List.mem_iff_getElem.mp hp
      exact (d3 i _ (List.getElem?_eq_getElem hi)).2
    · rw [hdn]
      exact hnd.sublist (List.take_sublist _ _)
    · obtain ⟨i, hi, rfl⟩ := List.mem_iff_getElem.mp hp
      exact hok _ (List.mem_of_getElem? (d3 i _ (List.getElem?_eq_getElem hi)).1)
  clear hyr
  walk_at "aw"
  refine w_tupL (SqL.of el) fun u H3 nu a3 eu => ?_
  have g3 := (g1.trans g2).new a3
  have d2' := d2.up a3.tup
  have enl3 := a3.keep _ _ (fun z => nomatch z) (g2.keep onl enl)
  walk_at "aw"
  refine w_lstD (by simp) fun hl H4 nhl a4 ehl => ?_
  have g4 := g3.new a4
  have nhl0 : H hl = none := g3.free ok nhl
  walk_at "aw"
  have hnh : nl ≠ hl := ne_of_none enl3 nhl
  -- one saying: some of the unknowns, a kind, what is made of them
  have SAID : ∀ (H5 : Hp), StOk st cs H5 → IsAll H5 (doms.map domD) ys → H5 u = some (.tup ys) → ∀ (Q' : VK) (E' : XK), (∀ r few H6, Few few doms → Go st cs H5 H6 → Bx st cs r few H6 → Q' (.ref r) H6) →
      sp__law_some K [.ref st, .ref u, .int (if ((many : Nat) : Int) < 12 then ((many : Nat) : Int) else 12)] H5 Q' E' := by
    intro H5 ok5 ha5 eu5 Q' E' q'
    have e : (if ((many : Nat) : Int) < 12 then ((many : Nat) : Int) else 12) = (((if many < 12 then many else 12) : Nat) : Int) := by
      split <;> split <;> omega
    rw [e]
    refine w_someX dm ok5 (.inl ⟨u, rfl, .inr (SqT.of eu5)⟩) ha5 (by split <;> omega) (by split <;> omega) fun r few rest H6 hp _ g6 _ b6 => q' r few H6 ⟨_, hp⟩ g6 b6
  refine kForR_i (n := said) (by omega) (fun i σ H' => ∃ (y7 y9 : Option V) (firm : List (Str × Say)) (hs : List V), σ = [some (.ref st), some (.int (many : Nat)), some (.int most), some (.int (said : Nat)), some (.int (soft : Nat)), some (.ref nl), some (.ref u), y7, some (.ref hl), y9, none] ∧ Go st cs H H' ∧ TK H4 H' ∧ H' nl = some (.lst (names.map V.str)) ∧ H' hl = some (.lst hs) ∧ IsAll H' (firm.map itD) hs ∧ firm.length = i ∧ ∀ (j : Nat) p, firm[j]? = some p → names[many + j]? = some p.1 ∧ SayOk doms p.2)
    ⟨_, _, [], [], rfl, g4, TK.refl _, a4.keep _ _ (fun z => nomatch z) enl3, ehl, .nil, rfl, fun j p h => by simp at h⟩ (fun i σ H' hi pp => ?_) fun σ H' pp => ?_
  · obtain ⟨y7, y9, firm, hs, rfl, g, tk, en, eh, hfi, hfl, hfo⟩ := pp
    walk_at "aw"
    refine SAID H' g.ok ((d2'.up a4.tup).up tk) (tk _ _ (a4.tup _ _ eu)) _ _ fun r few H6 hf g6 b6 => ?_
    have gg6 := g.trans g6
    have en6 := g6.keep onl en
    have eh6 := g6.keep (ok.ne nhl0).1 eh
    walk_at "aw"
    refine w_app rfl eh6 ?_
    walk_at "aw"
    obtain ⟨x, hx, hat⟩ := inner_many (vs := []) (i := ((many : Nat) : Int) + (i : Nat)) (j := many + i) en6 (by omega) (by omega)
    refine w_ixL (SqL.of en6) hat ?_
    walk_at "aw"
    refine ⟨rfl, fun r7 H7 n7 a7 e7 => ?_⟩
    walk_at "aw"
    have g7 := Go.of b6.ok a7
    refine w_pickK g7.ok e7 (b6.ok.ne n7).1 (by decide +kernel) (by decide +kernel) fun kd _ H8 g8 => ?_
    walk_at "aw"
    refine ⟨st, r, kd, rfl, cs, few, b6.go (g7.trans g8), by decide, fun _ => by decide, fun v s H9 g9 hv so _ => ?_⟩
    walk_at "aw"
    refine w_tupD (by show 2 ≤ 100000; decide) fun t H10 nt a10 et => ?_
    have g610 := ((g7.trans g8).trans g9).new a10
    have eh10 := g610.keep (ok.ne nhl0).1 eh6
    have hll : hs.length = firm.length := by rw [hfi.length, List.length_map]
    walk_at "aw"
    refine w_append eh10 (by omega) ?_
    have tku : TK H10 (upd H10 hl (.lst (hs ++ [.ref t]))) := (Adv.lst eh10).tup
    walk_at "aw"
    refine ⟨_, _, firm ++ [(x, s)], hs ++ [.ref t], rfl, (gg6.trans g610).mutL ok nhl0 eh10, ((tk.trans g6.tk).trans g610.tk).trans tku, by rw [upd_ne hnh]; exact g610.keep onl en6, upd_same, ?_, by rw [List.length_append, hfl]; rfl, fun j p hj => ?_⟩
    · rw [List.map_append]
      exact (hfi.up ((g6.trans g610).tk.trans tku)).append (.cons (.tup (tku _ _ et) (.cons (.str _) (.cons ((hv.up a10.tup).up tku) .nil))) .nil)
    · by_cases hjl : j < firm.length
      · rw [List.getElem?_append_left hjl] at hj
        exact hfo j p hj
      · rw [List.getElem?_append_right (by omega)] at hj
        have hj0 : j - firm.length = 0 := by
          have := (List.getElem?_eq_some_iff.mp hj).1
          simp at this
          omega
        rw [hj0] at hj
        cases hj
        rw [show j = i by omega]
        exact ⟨hx, so.few hf⟩
  obtain ⟨y7, y9, firm, hs, rfl, g, tk, en, eh, hfi, hfl, hfo⟩ := pp
  walk_at "aw"
  refine w_lstD (by simp) fun ll H5 nll a5 ell => ?_
  have nll0 : H ll = none := g.free ok nll
  have hnl2 : nl ≠ ll := ne_of_none en nll
  have hhl2 : hl ≠ ll := ne_of_none eh nll
  walk_at "aw"
  refine kForR_i (n := soft) (by omega) (fun i σ H' => ∃ (y7 y9 : Option V) (loose : List (Str × Say × Int)) (ls : List V), σ = [some (.ref st), some (.int (many : Nat)), some (.int most), some (.int (said : Nat)), some (.int (soft : Nat)), some (.ref nl), some (.ref u), y7, some (.ref hl), y9, some (.ref ll)] ∧ Go st cs H H' ∧ TK H5 H' ∧ H' nl = some (.lst (names.map V.str)) ∧ H' hl = some (.lst hs) ∧ H' ll = some (.lst ls) ∧ IsAll H' (loose.map sfD) ls ∧ loose.length = i ∧ ∀ (j : Nat) p, loose[j]? = some p → names[(many + said) + j]? = some p.1 ∧ SayOk doms p.2.1)
    ⟨_, _, [], [], rfl, g.new a5, TK.refl _, a5.keep _ _ (fun z => nomatch z) en, a5.keep _ _ (fun z => nomatch z) eh, ell, .nil, rfl, fun j p h => by simp at h⟩ (fun i σ H' hi pp => ?_) fun σ H' pp => ?_
  · obtain ⟨y7, y9, loose, ls, rfl, g', tk', en', eh', el', hfi', hfl', hfo'⟩ := pp
    walk_at "aw"
    refine SAID H' g'.ok ((((d2'.up a4.tup).up tk).up a5.tup).up tk') (tk' _ _ (a5.tup _ _ (tk _ _ (a4.tup _ _ eu)))) _ _ fun r few H6 hf g6 b6 => ?_
    have gg6 := g'.trans g6
    have en6 := g6.keep onl en'
    have eh6 := g6.keep (ok.ne nhl0).1 eh'
    have el6 := g6.keep (ok.ne nll0).1 el'
    walk_at "aw"
    refine w_app rfl el6 ?_
    walk_at "aw"
    obtain ⟨x, hx, hat⟩ := inner_many (vs := []) (i := ((many : Nat) : Int) + (said : Nat) + (i : Nat)) (j := many + said + i) en6 (by omega) (by omega)
    refine w_ixL (SqL.of en6) hat ?_
    walk_at "aw"
    refine ⟨rfl, fun r7 H7 n7 a7 e7 => ?_⟩
    walk_at "aw"
    have g7 := Go.of b6.ok a7
    refine w_pickK g7.ok e7 (b6.ok.ne n7).1 (by decide +kernel) (by decide +kernel) fun kd _ H8 g8 => ?_
    walk_at "aw"
    refine ⟨st, r, kd, rfl, cs, few, b6.go (g7.trans g8), by decide, fun _ => by decide, fun v s H9 g9 hv so _ => ?_⟩
    walk_at "aw"
    refine w_draw g9.ok (by decide) (by decide) fun pr H10 _ _ g10 => ?_
    walk_at "aw"
    refine w_tupD (by show 3 ≤ 100000; decide) fun t H11 nt a11 et => ?_
    have g611 := (((g7.trans g8).trans g9).trans g10).new a11
    have el11 := g611.keep (ok.ne nll0).1 el6
    have hll : ls.length = loose.length := by rw [hfi'.length, List.length_map]
    walk_at "aw"
    refine w_append el11 (by omega) ?_
    have tku : TK H11 (upd H11 ll (.lst (ls ++ [.ref t]))) := (Adv.lst el11).tup
    walk_at "aw"
    refine ⟨_, _, loose ++ [(x, s, 1 + pr)], ls ++ [.ref t], rfl, (gg6.trans g611).mutL ok nll0 el11, ((tk'.trans g6.tk).trans g611.tk).trans tku, by rw [upd_ne hnl2]; exact g611.keep onl en6, by rw [upd_ne hhl2]; exact g611.keep (ok.ne nhl0).1 eh6, upd_same, ?_, by rw [List.length_append, hfl']; rfl, fun j p hj => ?_⟩
    · rw [List.map_append]
      exact (hfi'.up ((g6.trans g611).tk.trans tku)).append (.cons (.tup (tku _ _ et) (.cons (.str _) (.cons ((hv.up (g10.new a11).tk).up tku) (.cons (.int _) .nil)))) .nil)
    · by_cases hjl : j < loose.length
      · rw [List.getElem?_append_left hjl] at hj
        exact hfo' j p hj
      · rw [List.getElem?_append_right (by omega)] at hj
        have hj0 : j - loose.length = 0 := by
          have := (List.getElem?_eq_some_iff.mp hj).1
          simp at this
          omega
        rw [hj0] at hj
        cases hj
        rw [show j = i by omega]
        exact ⟨hx, so.few hf⟩
  obtain ⟨y7, y9, loose, ls, rfl, g', tk', en', eh', el', hfi', hfl', hfo'⟩ := pp
  walk_at "aw"
  refine w_tupL (SqL.of eh') fun t6 H6 n6 a6 e6 => ?_
  walk_at "aw"
  refine w_tupL (SqL.of (a6.keep _ _ (fun z => nomatch z) el')) fun t7 H7 n7 a7 e7 => ?_
  walk_at "aw"
  refine w_tupD (by show 3 ≤ 100000; decide) fun t8 H8 n8 a8 e8 => ?_
  have k6 := a6.trans (a7.trans a8)
  have tkA : TK H3 H8 := ((TK.trans a4.tup tk).trans a5.tup).trans (tk'.trans k6.tup)
  have tkB : TK H5 H8 := tk'.trans k6.tup
  have hfn := names_ext (f := fun p : Str × Say => p.1) hfl (by omega) fun i x e => (hfo i x e).1
  have hsn := names_ext (f := fun p : Str × Say × Int => p.1) hfl' (by omega) fun i x e => (hfo' i x e).1
  refine q (.ref t8) H8 (g'.new k6) ⟨doms, firm, loose, .tup e8 (.cons (.tup (tkA _ _ eu) (d2'.up tkA)) (.cons (.tup ((a7.trans a8).tup _ _ e6) (hfi.up (TK.trans a5.tup tkB))) (.cons (.tup (a8.tup _ _ e7) (hfi'.up k6.tup)) .nil))), ⟨dm.nd, dm.len, ?_, by omega, by omega, dm.dz⟩, fun p hp => ?_, fun p hp => ?_⟩
  · rw [hfn, hsn]
    have e : (names.drop many).take said ++ (names.drop (many + said)).take soft = names.drop many := by
      rw [← List.drop_drop, List.take_of_length_le (l := (names.drop many).drop said) (by rw [List.length_drop, List.length_drop]; omega), List.take_append_drop]
    rw [e]
    exact hnd.sublist (List.drop_sublist _ _)
  · obtain ⟨i, hi, rfl⟩ := List.mem_iff_getElem.mp hp
    exact (hfo i _ (List.getElem?_eq_getElem hi)).2
  · obtain ⟨i, hi, rfl⟩ := List.mem_iff_getElem.mp hp
    exact (hfo' i _ (List.getElem?_eq_getElem hi)).2
theorem len__law_edge {K : PySem.W.Frag} : ∀ (vs : List V) (H : Hp) (Q : VK) (E : XK), sp__law_edge K vs H Q E → vs.length = 2 := fun vs H Q E h => by
  obtain ⟨_, _, rfl, _⟩ := h
  rfl
theorem pure__law_edge {K : PySem.W.Frag} (vs : List V) (H : Hp) (Q : VK) (E : XK) (h : sp__law_edge K vs H Q E) : t__law_edge K { nx := fun _ H' => Q .non H', rt := Q } (start ["bag", "small", "sizes", "names", "unknowns", "k", "saying", "first", "beside"] vs) H := by
  obtain ⟨st, b, rfl, cs, ok, q⟩ := h
  show t__law_edge K _ [some (.ref st), some (.bl b), none, none, none, none, none, none, none] H
  unfold t__law_edge
  walk_at "aw"
  refine ⟨st, b, rfl, cs, ok, fun zl zs H1 g1 nzl ezl hz3 hz12 hzs => ?_⟩
  have ozl := (ok.ne nzl).1
  walk_at "aw"
  refine w_lenL (SqL.of ezl) ?_
  rw [List.length_map]
  walk_at "aw"
  rw [show ((zs.length : Nat) : Int) + 2 = ((zs.length + 2 : Nat) : Int) by omega]
  refine ⟨st, _, rfl, cs, g1.ok, by omega, fun nl names H2 g2 nnl enl hnl hnd hok => ?_⟩
  have onl := (g1.ok.ne nnl).1
  have ezl2 := g2.keep ozl ezl
  have g12 := g1.trans g2
  walk_at "aw"
  refine w_lenL (SqL.of ezl2) ?_
  rw [List.length_map]
  walk_at "aw"
  refine kLcR_all (n := zs.length) (by omega) g12.ok (fun i v H => ∃ d : Str × List Int, names[0 + i]? = some d.1 ∧ (0 < d.2.length ∧ d.2.length ≤ 100) ∧ Is H (domD d) v) (fun i v H H' tk h => by obtain ⟨d, h1, h2, h3⟩ := h; exact ⟨d, h1, h2, h3.up tk⟩) (fun i H3 Kt hi g3 kt => ?_) fun l H3 ys nl2 g3 el hyl hyr => ?_
  · walk_at "aw"
    refine ⟨rfl, ?_⟩
    walk_at "aw"
    obtain ⟨x, hx, hat⟩ := inner_many (vs := []) (i := (i : Nat)) (g3.keep onl enl) rfl (show i < names.length by omega)
    refine w_ixL (SqL.of (g3.keep onl enl)) hat ?_
    walk_at "aw"
    obtain ⟨z, hz⟩ := get_some (xs := zs) (i := i) hi
    have hzr := hzs z (List.mem_of_getElem? hz)
    refine w_ixL (SqL.of (g3.keep ozl ezl2)) (v := .int z) (at_of (j := i) rfl (by rw [List.getElem?_map, hz]; rfl)) ?_
    walk_at "aw"
    refine ⟨st, _, rfl, cs, g3.ok, by omega, by omega, fun v fl H4 g4 hv hfl => ?_⟩
    walk_at "aw"
    refine w_tupD (by show 2 ≤ 100000; decide) fun t H5 nt a5 et => ?_
    exact kt _ _ (g4.new a5) ⟨(x, fl), by rw [Nat.zero_add]; exact hx, ⟨by show 0 < fl.length; omega, by show fl.length ≤ 100; omega⟩, .tup et (.cons (.str _) (.cons (hv.up a5.tup) .nil))⟩
  obtain ⟨doms, d1, d2, d3⟩ := build (D := domD) (P := fun i (d : Str × List Int) => names[0 + i]? = some d.1 ∧ (0 < d.2.length ∧ d.2.length ≤ 100)) fun i v e => by
    obtain ⟨d, h1, h2, h3⟩ := hyr i v e
    exact ⟨d, ⟨h1, h2⟩, h3⟩
  have hdl : doms.length = zs.length := by omega
  have hdn : doms.map (·.1) = (names.drop 0).take zs.length := names_ext hdl (by omega) fun i x e => (d3 i x e).1
  rw [List.drop_zero] at hdn
  have dm : Dm doms := by
    refine ⟨by omega, by omega, fun p hp => ?_, ?_, fun p hp => ?_⟩
    · obtain ⟨i, hi, rfl⟩ := List.mem_iff_getElem.mp hp
      exact (d3 i _ (List.getElem?_eq_getElem hi)).2
    · rw [hdn]
      exact hnd.sublist (List.take_sublist _ _)
    · obtain ⟨i, hi, rfl⟩ := List.mem_iff_getElem.mp hp
      exact hok _ (List.mem_of_getElem? (d3 i _ (List.getElem?_eq_getElem hi)).1)
  clear hyr
  walk_at "aw"
  refine w_tupL (SqL.of el) fun u H4 nu a4 eu => ?_
  have g34 := g3.new a4
  have g4 := g12.trans g34
  have d2' := d2.up a4.tup
  walk_at "aw"
  refine ⟨st, u, rfl, cs, doms, ys, g4.ok, eu, d2', dm, by omega, by omega, fun v1 s1 H5 g5 hv1 so1 => ?_⟩
  walk_at "aw"
  have ez5 := (g34.trans g5).keep ozl ezl2
  have en5 := (g34.trans g5).keep onl enl
  refine w_lenL (SqL.of ez5) ?_
  rw [List.length_map]
  obtain ⟨x1, hx1, hat1⟩ := inner_many (vs := []) (i := ((zs.length : Nat) : Int)) (j := zs.length) en5 rfl (by omega)
  refine w_ixL (SqL.of en5) hat1 ?_
  walk_at "aw"
  refine w_tupD (by show 2 ≤ 100000; decide) fun t6 H6 n6 a6 e6 => ?_
  walk_at "aw"
  refine w_lenL (SqL.of (a6.keep _ _ (fun z => nomatch z) ez5)) ?_
  rw [List.length_map]
  walk_at "aw"
  obtain ⟨x2, hx2, hat2⟩ := inner_many (vs := []) (i := ((zs.length : Nat) : Int) + 1) (j := zs.length + 1) en5 (by omega) (by omega)
  refine w_ixL (SqL.of (a6.keep _ _ (fun z => nomatch z) en5)) hat2 ?_
  walk_at "aw"
  have g56 := g5.new a6
  have eu6 := g56.tk _ _ eu
  refine ⟨st, .ref u, rfl, cs, doms, ys, g56.ok, .inl ⟨u, rfl, .inr (SqT.of eu6)⟩, d2'.up g56.tk, dm, by omega, fun v2 s2 H7 g7 hv2 so2 => ?_⟩
  walk_at "aw"
  refine w_tupD (by show 2 ≤ 100000; decide) fun t8 H8 n8 a8 e8 => ?_
  have g78 := g7.new a8
  walk_at "aw"
  refine w_draw g78.ok (by decide) (by decide) fun k H9 _ _ g9 => ?_
  have g69 := g78.trans g9
  have gA := g4.trans (g56.trans g69)
  have eu9 := (g56.trans g69).tk _ _ eu
  have du9 := d2'.up (g56.trans g69).tk
  have hv19 := hv1.up ((Go.of g5.ok a6).trans g69).tk
  have e69 := g69.tk _ _ e6
  have e89 := g9.tk _ _ e8
  have hv29 := hv2.up ((Go.of g7.ok a8).trans g9).tk
  have hx12 : x1 ≠ x2 := fun z => by
    subst z
    have := nodup_inj hnd hx1 hx2
    omega
  walk_at "aw"
  refine w_iteB (fun _ => ?_) fun _ => ?_
  · walk_at "aw"
    refine w_tupD (by show 2 ≤ 100000; decide) fun t10 H10 n10 a10 e10 => ?_
    walk_at "aw"
    refine w_tupD (by show 0 ≤ 100000; decide) fun t11 H11 n11 a11 e11 => ?_
    walk_at "aw"
    refine w_tupD (by show 3 ≤ 100000; decide) fun t12 H12 n12 a12 e12 => ?_
    have k11 := a11.trans a12
    have k10 := a10.trans k11
    refine q (.ref t12) H12 (gA.new k10) ⟨doms, [(x1, s1), (x2, s2)], [], .tup e12 (.cons (.tup (k10.tup _ _ eu9) (du9.up k10.tup)) (.cons (.tup (k11.tup _ _ e10) (.cons (.tup (k10.tup _ _ e69) (.cons (.str _) (.cons (hv19.up k10.tup) .nil))) (.cons (.tup (k10.tup _ _ e89) (.cons (.str _) (.cons (hv29.up k10.tup) .nil))) .nil))) (.cons (.tup (a12.tup _ _ e11) .nil) .nil))), ⟨dm.nd, dm.len, by simp [hx12], by show 2 ≤ 100; decide, by show 0 ≤ 100; decide, dm.dz⟩, fun p hp => ?_, fun p hp => nomatch hp⟩
    simp only [List.mem_cons, List.not_mem_nil, or_false] at hp
    rcases hp with rfl | rfl
    · exact so1
    · exact so2
  · walk_at "aw"
    refine w_tupD (by show 1 ≤ 100000; decide) fun t10 H10 n10 a10 e10 => ?_
    walk_at "aw"
    refine w_tupD (by show 1 ≤ 100000; decide) fun t11 H11 n11 a11 e11 => ?_
    walk_at "aw"
    refine w_catT' ((a10.trans a11).tup _ _ e69) e11 (by show 2 + 1 ≤ 100000; decide) fun t12 H12 a12 e12 => ?_
    walk_at "aw"
    refine w_tupD (by show 1 ≤ 100000; decide) fun t13 H13 n13 a13 e13 => ?_
    walk_at "aw"
    refine w_tupD (by show 3 ≤ 100000; decide) fun t14 H14 n14 a14 e14 => ?_
    have k13 := a13.trans a14
    have k12 := a12.trans k13
    have k11 := a11.trans k12
    have k10 := a10.trans k11
    refine q (.ref t14) H14 (gA.new k10) ⟨doms, [(x2, s2)], [(x1, s1, 3)], .tup e14 (.cons (.tup (k10.tup _ _ eu9) (du9.up k10.tup)) (.cons (.tup (k11.tup _ _ e10) (.cons (.tup (k10.tup _ _ e89) (.cons (.str _) (.cons (hv29.up k10.tup) .nil))) .nil)) (.cons (.tup (a14.tup _ _ e13) (.cons (.tup (k13.tup _ _ e12) (.cons (.str _) (.cons (hv19.up k10.tup) (.cons (.int _) .nil)))) .nil)) .nil))), ⟨dm.nd, dm.len, by simp [Ne.symm hx12], by show 1 ≤ 100; decide, by show 1 ≤ 100; decide, dm.dz⟩, fun p hp => ?_, fun p hp => ?_⟩
    · rw [List.mem_singleton.mp hp]
      exact so2
    · rw [List.mem_singleton.mp hp]
      exact so1
theorem len_law {K : PySem.W.Frag} : ∀ (vs : List V) (H : Hp) (Q : VK) (E : XK), sp_law K vs H Q E → vs.length = 1 := fun vs H Q E h => by
  obtain ⟨_, _, rfl, _⟩ := h
  rfl
theorem pure_law {K : PySem.W.Frag} (vs : List V) (H : Hp) (Q : VK) (E : XK) (h : sp_law K vs H Q E) : t_law K { nx := fun _ H' => Q .non H', rt := Q } (start ["script", "bag", "first", "models", "model", "row"] vs) H := by
  obtain ⟨a, ns, rfl, hs, hl, q⟩ := h
  show t_law K _ [some (.ref a), none, none, none, none, none] H
  unfold t_law
  walk_at "aw"
  refine ⟨a, ns, rfl, hs, hl, fun st cs H1 ok a1 nst => ?_⟩
  walk_at "aw"
  refine w_draw ok (by decide) (by decide) fun k H2 k0 k1 g2 => ?_
  walk_at "aw"
  refine w_pickL (ns := [3, 5, 8, 12]) g2.ok (by decide) (by decide) fun most hmost H3 g3 => ?_
  simp only [List.mem_cons, List.not_mem_nil, or_false] at hmost
  walk_at "aw"
  refine w_draw g3.ok (by decide) (by decide) fun sd H4 s0 s1 g4 => ?_
  walk_at "aw"
  refine w_draw g4.ok (by decide) (by decide) fun sf H5 f0 f1 g5 => ?_
  have g15 := ((g2.trans g3).trans g4).trans g5
  walk_at "aw"
  obtain ⟨many, em⟩ : ∃ many : Nat, 3 + k = (many : Int) := ⟨(3 + k).toNat, by omega⟩
  obtain ⟨said, es⟩ : ∃ said : Nat, 2 + sd = (said : Int) := ⟨(2 + sd).toNat, by omega⟩
  obtain ⟨soft, rfl⟩ : ∃ soft : Nat, sf = (soft : Int) := ⟨sf.toNat, by omega⟩
  rw [em, es]
  refine ⟨st, many, most, said, soft, rfl, cs, g15.ok, by omega, by omega, by omega, by omega, by omega, by omega, fun m1 H6 g6 h1 => ?_⟩
  walk_at "aw"
  refine ⟨st, true, rfl, cs, g6.ok, fun m2 H7 g7 h2 => ?_⟩
  walk_at "aw"
  refine ⟨st, false, rfl, cs, g7.ok, fun m3 H8 g8 h3 => ?_⟩
  walk_at "aw"
  refine w_lstD (by show 3 ≤ 100000; decide) fun ml H9 nml a9 eml => ?_
  have g9 := (((g15.trans g6).trans g7).trans g8).new a9
  have nml0 : H1 ml = none := (((g15.trans g6).trans g7).trans g8).free ok nml
  have oml := (ok.ne nml0).1
  have h19 := h1.up (((g7.trans g8).new a9).tk)
  have h29 := h2.up ((g8.new a9).tk)
  have h39 := h3.up a9.tup
  have all3 : ∀ x ∈ [m1, m2, m3], MdAt H9 x := fun x hx => by
    simp only [List.mem_cons, List.not_mem_nil, or_false] at hx
    rcases hx with rfl | rfl | rfl
    · exact h19
    · exact h29
    · exact h39
  -- the models one after the other
  have rest : ∀ (H10 : Hp) (ms : List V) (m1 : V), StOk st cs H10 → Off ml st cs → H10 ml = some (.lst ms) → (∀ x ∈ ms, MdAt H10 x) → (tSeq (tFor (iList K (tVar 3)) (gName 4)
  (tSeq (tAsg (tOp rCat (tCB (rListOf K) (tCons (tOp (rIxT K) (tVar 4) (tC (.int 1))) tNil)) (tCB (rListOf K) (tCons (tOp (rIxT K) (tVar 4) (tC (.int 2))) tNil))) (gName 5))
  (tIfS (tOr (tNot (tB (tCall (sp__law_told K) [] E0 (tCons (tVar 4) (tCons (tVar 5) (tCons (tC (.bl false)) tNil)))))) (tNot (tB (tCall (sp__law_told K) [] E0 (tCons (tVar 4) (tCons (tRevL K (tVar 5)) (tCons (tC (.bl true)) tNil))))))) (tRet (tC (.bl false))) tNext)))
  (tRet (tC (.bl true)))) { nx := fun _ H' => Q .non H', rt := Q } [some (.ref a), some (.ref st), some m1, some (.ref ml), none, none] H10 := by
    intro H10 ms m1 ok10 o10 e10 hms
    walk_at "aw"
    refine kForL_i (fun i σ H' => ∃ y4 y5, σ = [some (.ref a), some (.ref st), some m1, some (.ref ml), y4, y5] ∧ Adv [] H10 H') (SqL.of e10) ⟨none, none, rfl, .refl _ _⟩ (fun i σ H' _ z => by obtain ⟨_, _, _, z⟩ := z; exact SqL.of (z.keep _ _ (fun z => nomatch z) e10)) (fun i x σ H' e z => ?_) fun σ H' z => ?_
    · obtain ⟨y4, y5, rfl, ad⟩ := z
      obtain ⟨doms, firm, soft, hmd, mok, hfo, hso⟩ := (hms x (List.mem_of_getElem? e)).up ad.tup
      have hmd0 := hmd
      obtain ⟨ma, mb, mc, md, xs, ys, zs, rfl, ea, eb, tb, ec, tc, ed, td⟩ := is_mod hmd
      have hyl : ys.length = firm.length := by rw [tc.length, List.length_map]
      have hzl : zs.length = soft.length := by rw [td.length, List.length_map]
      have hfl := mok.fl
      have hsl := mok.sl
      walk_at "aw"
      refine w_ixT (SqT.of ea) (at_of (j := 1) rfl rfl) ?_
      walk_at "aw"
      refine w_listOf (.inr (SqT.of ec)) fun r1 H11 n1 a11 e11 => ?_
      walk_at "aw"
      refine w_ixT (SqT.of (a11.tup _ _ ea)) (at_of (j := 2) rfl rfl) ?_
      walk_at "aw"
      refine w_listOf (.inr (SqT.of (a11.tup _ _ ed))) fun r2 H12 n2 a12 e12 => ?_
      refine w_cat (a12.keep _ _ (fun z => nomatch z) e11) e12 (by omega) fun r3 H13 n3 a13 e13 => ?_
      have k := (a11.trans a12).trans a13
      have hall : ∀ (i : Nat) p x, (firm ++ soft.map fun q => (q.1, q.2.1))[i]? = some p → (ys ++ zs)[i]? = some x → ∃ sv, ItAt H13 p.1 p.2 sv x := fun i p x e1 e2 => by
        by_cases hi : i < firm.length
        · rw [List.getElem?_append_left hi] at e1
          rw [List.getElem?_append_left (by omega)] at e2
          obtain ⟨dd, z1, h1⟩ := tc.get e2
          rw [List.getElem?_map, e1] at z1
          cases z1
          exact is_it (h1.up k.tup)
        · rw [List.getElem?_append_right (by omega)] at e1 e2
          rw [List.getElem?_map] at e1
          obtain ⟨pr, z, rfl⟩ := Option.map_eq_some_iff.mp e1
          obtain ⟨dd, z1, h1⟩ := td.get e2
          rw [hyl, List.getElem?_map, z] at z1
          cases z1
          exact is_sf (h1.up k.tup)
      have hsay : ∀ p ∈ firm ++ soft.map (fun q => (q.1, q.2.1)), SayOk doms p.2 := fun p hp => by
        rcases List.mem_append.mp hp with hp | hp
        · exact hfo p hp
        · obtain ⟨pr, h1, rfl⟩ := List.mem_map.mp hp
          exact hso pr h1
      have hlen : (ys ++ zs).length = (firm ++ soft.map fun q => (q.1, q.2.1)).length := by simp; omega
      have hlen2 : (firm ++ soft.map fun q => (q.1, q.2.1)).length ≤ 1000 := by simp; omega
      generalize hR : (firm ++ soft.map fun q => (q.1, q.2.1)) = row at hall hsay hlen hlen2
      walk_at "aw"
      refine ⟨.ref ma, r3, false, rfl, doms, firm, soft, row, hmd0.up k.tup, mok, ⟨_, SqL.of e13, hlen, hall⟩, hlen2, fun p hp => ⟨by rw [hR]; exact hp, hsay p hp⟩, fun H14 a14 => ?_⟩
      walk_at "aw"
      refine w_nT ?_
      walk_at "aw"
      refine w_revL ?_
      walk_at "aw"
      refine ⟨r3, _, rfl, SqL.of (a14.keep _ _ (fun z => nomatch z) e13), fun r5 n5 => ?_⟩
      have a15 : Adv [] H14 (upd H14 r5 (.lst (ys ++ zs).reverse)) := Adv.new n5
      have e15 : (upd H14 r5 (.lst (ys ++ zs).reverse)) r5 = some (.lst (ys ++ zs).reverse) := upd_same
      generalize upd H14 r5 (.lst (ys ++ zs).reverse) = H15 at a15 e15
      walk_at "aw"
      have k15 := (k.trans a14).trans a15
      refine ⟨.ref ma, r5, true, rfl, doms, firm, soft, row.reverse, hmd0.up k15.tup, mok, ⟨_, SqL.of e15, by rw [List.length_reverse, List.length_reverse]; exact hlen, fun i p x e1 e2 => ?_⟩, by rw [List.length_reverse]; exact hlen2, fun p hp => ⟨by rw [hR]; exact List.mem_reverse.mp hp, hsay p (List.mem_reverse.mp hp)⟩, fun H16 a16 => ?_⟩
      · have hi : i < row.length := by
          have := (List.getElem?_eq_some_iff.mp e1).1
          rwa [List.length_reverse] at this
        rw [List.getElem?_reverse hi] at e1
        rw [List.getElem?_reverse (by omega), hlen] at e2
        obtain ⟨sv, ia, rst, h1, h2, h3⟩ := hall _ p x e1 e2
        exact ⟨sv, ia, rst, h1, (a14.trans a15).tup _ _ h2, h3.up (a14.trans a15).tup⟩
      · walk_at "aw"
        refine w_nT ?_
        walk_at "aw"
        exact ⟨_, _, rfl, ad.trans (k15.trans a16)⟩
    · obtain ⟨y4, y5, rfl, ad⟩ := z
      walk_at "aw"
      exact q H'
  walk_at "aw"
  refine w_draw g9.ok (by decide) (by decide) fun z H10 _ _ g10 => ?_
  have eml10 := g10.keep oml eml
  walk_at "aw"
  refine w_iteB (fun _ => ?_) fun _ => ?_
  · walk_at "aw"
    refine w_app rfl eml10 ?_
    walk_at "aw"
    refine ⟨st, 24, 12, 40, 8, rfl, cs, g10.ok, by decide, by decide, by decide, by decide, by decide, by decide, fun m4 H11 g11 h4 => ?_⟩
    walk_at "aw"
    have eml11 := g11.keep oml eml10
    refine w_append eml11 (by show 3 < 100000; decide) ?_
    have tku : TK H11 (upd H11 ml (.lst ([m1, m2, m3] ++ [m4]))) := (Adv.lst eml11).tup
    have gf := ((g9.trans g10).trans g11).mutL (o := .lst ([m1, m2, m3] ++ [m4])) ok nml0 eml11
    walk_at "aw1"
    refine rest _ _ _ gf.ok oml upd_same fun x hx => ?_
    rcases List.mem_append.mp hx with hx | hx
    · exact (all3 x hx).up ((g10.trans g11).tk.trans tku)
    · rw [List.mem_singleton.mp hx]
      exact h4.up tku
  · walk_at "aw1"
    exact rest _ _ _ g10.ok oml eml10 fun x hx => (all3 x hx).up g10.tk
end AW
namespace AW
open PySem PySem.Spec PyProof.Rows L2 RZ
open StX
def topS (i : Nat) : Stmt := PySem.Challenge.pw_aswritten_k08_own_unknowns_and_smallness.main.body.getD i (.Pass ⟨0, 0, 0, 0⟩)
abbrev s_inner_claims : Stmt := topS 6
abbrev n_inner_claims : List Str := ["claim"]
theorem sc_inner_claims : FnScope n_inner_claims ["claim"] (defScope s_inner_claims) := ⟨rfl, rfl, rfl, by decide +kernel, rfl, by decide +kernel, by decide +kernel⟩
theorem ok_inner_claims {P : Program} {w : World} {K : PySem.W.Frag} {mg : Str → Option Value} {base : Heap} {f : Addr} {fd : FuncData} (F : Fun K "inner_claims" "inner_claims" s_inner_claims f fd) (gf : mg "inner_claims" = some (.ref f))     : Cal P w K mg base "inner_claims" 1 ["claim"] (sp_inner_claims K) := by
  refine ⟨f, fd, F.ok sc_inner_claims len_inner_claims (fun cdv A outer s H vs Q E hr h => ⟨t_inner_claims K, PSs.nox ?_, pure_inner_claims vs H Q E h⟩), F.kp, F.binds (fun _ _ _ _ _ _ us hl => match us, hl with | [_], _ => rfl), gf⟩
  exact (pss_one (ps_ret (pe_ifExp (pt_cmpR op_eq (pe_ix ix_tup (pv 0) pe_int (fun _ _ => rfl)) pe_str (nomark _)) (pe_slice sl_tupA (pv 0) (po_some pe_int) po_none) (pe_ix ix_tup (pv 0) pe_int (fun _ _ => rfl)))))
abbrev s__standing_names : Stmt := topS 5
abbrev n__standing_names : List Str := ["claim", "part", "name"]
theorem sc__standing_names : FnScope n__standing_names ["claim"] (defScope s__standing_names) := ⟨rfl, rfl, rfl, by decide +kernel, rfl, by decide +kernel, by decide +kernel⟩
theorem ok__standing_names_step (m : Nat) {P : Program} {w : World} {K : PySem.W.Frag} {mg : Str → Option Value} {base : Heap} {f : Addr} {fd : FuncData} (F : Fun K "_standing_names" "_standing_names" s__standing_names f fd) (gf : mg "_standing_names" = some (.ref f)) (C_inner_claims : Cal P w K mg base "inner_claims" 1 ["claim"] (sp_inner_claims K))   (C__standing_names : Cal P w K mg base "_standing_names" (2 + m) ["claim"] (sp__standing_names K m)) : Cal P w K mg base "_standing_names" (2 + m + 1) ["claim"] (sp__standing_names K (m + 1)) := by
  refine ⟨f, fd, F.ok (k := 2 + m) sc__standing_names len__standing_names (fun cdv A outer s H vs Q E hr h => ⟨t__standing_names K m, PSs.nox ?_, pure__standing_names vs H Q E h⟩), F.kp, F.binds (fun _ _ _ _ _ _ us hl => match us, hl with | [_], _ => rfl), gf⟩
  exact (pss_cons (ps_if (pt_cmpR op_in_seq (pe_ix ix_tup (pv 0) pe_int (fun _ _ => rfl)) (pe_tup (pa_cons pe_str (pa_cons pe_str pa_nil))) (by rfl)) (pss_one (ps_ret (pe_lst (pa_cons (pe_ix ix_tup (pv 0) pe_int (fun _ _ => rfl)) pa_nil)))) pss_nil)
  (pss_one (ps_ret (pe_lc2 (own := [("part", 1), ("name", 2)]) (vs1 := [2]) rfl sc__standing_names.nd (pi_tup (pe_cal C_inner_claims (hr.mono (by omega)) rfl (pa_cons (pv 0) pa_nil))) (blkOk_by (own := [("part", 1), ("name", 2)]) (N := n__standing_names) (sc := defScope s__standing_names) (by decide +kernel)) (by decide) (fun _ _ _ _ _ => (pg_name (i := 1) sc__standing_names.nd rfl (by first | exact .inl rfl | exact .inr rfl))) (fun _ _ _ _ _ => pts_nil) (fun _ _ _ _ _ => (pi_list (pe_cal C__standing_names (hr.mono (by omega)) rfl (pa_cons (pv 1) pa_nil)))) (fun _ _ _ _ _ => (pg_name (i := 2) sc__standing_names.nd rfl (by first | exact .inl rfl | exact .inr rfl))) (fun _ _ _ _ _ => pts_nil) (fun _ _ _ _ _ => (pv 2))))))
theorem ok__standing_names_all {P : Program} {w : World} {K : PySem.W.Frag} {mg : Str → Option Value} {base : Heap} {f : Addr} {fd : FuncData} (F : Fun K "_standing_names" "_standing_names" s__standing_names f fd) (gf : mg "_standing_names" = some (.ref f)) (C_inner_claims : Cal P w K mg base "inner_claims" 1 ["claim"] (sp_inner_claims K))   : ∀ m, Cal P w K mg base "_standing_names" (2 + m) ["claim"] (sp__standing_names K m)
  | 0 => ⟨f, fd, F.ok (k := 1) sc__standing_names len__standing_names (fun cdv A outer s H vs Q E hr h => (no__standing_names h).elim), F.kp, F.binds (fun _ _ _ _ _ _ us hl => match us, hl with | [_], _ => rfl), gf⟩
  | m + 1 => ok__standing_names_step m F gf C_inner_claims (ok__standing_names_all F gf C_inner_claims m)
theorem ok__standing_names {P : Program} {w : World} {K : PySem.W.Frag} {mg : Str → Option Value} {base : Heap} {f : Addr} {fd : FuncData} (F : Fun K "_standing_names" "_standing_names" s__standing_names f fd) (gf : mg "_standing_names" = some (.ref f)) (C_inner_claims : Cal P w K mg base "inner_claims" 1 ["claim"] (sp_inner_claims K))   : Cal P w K mg base "_standing_names" 10 ["claim"] (sp__standing_names K 8) := ok__standing_names_all F gf C_inner_claims 8
abbrev s_claim_names : Stmt := topS 4
abbrev n_claim_names : List Str := ["claim", "name"]
theorem sc_claim_names : FnScope n_claim_names ["claim"] (defScope s_claim_names) := ⟨rfl, rfl, rfl, by decide +kernel, rfl, by decide +kernel, by decide +kernel⟩
theorem ok_claim_names {P : Program} {w : World} {K : PySem.W.Frag} {mg : Str → Option Value} {base : Heap} {f : Addr} {fd : FuncData} (F : Fun K "claim_names" "claim_names" s_claim_names f fd) (gf : mg "claim_names" = some (.ref f)) (C__standing_names : Cal P w K mg base "_standing_names" 10 ["claim"] (sp__standing_names K 8))  (m_tuple : mg "tuple" = none)  : Cal P w K mg base "claim_names" 11 ["claim"] (sp_claim_names K) := by
  refine ⟨f, fd, F.ok sc_claim_names len_claim_names (fun cdv A outer s H vs Q E hr h => ⟨t_claim_names K, PSs.nox ?_, pure_claim_names vs H Q E h⟩), F.kp, F.binds (fun _ _ _ _ _ _ us hl => match us, hl with | [_], _ => rfl), gf⟩
  exact (pss_one (ps_ret (pe_callTy (call_tuple_dK rfl) (by rfl) m_tuple (by decide +kernel) (pa_cons (pe_dc (own := [("name", 1)]) rfl sc_claim_names.nd (pi_list (pe_cal C__standing_names (hr.mono (by decide)) rfl (pa_cons (pv 0) pa_nil))) (blkOk_by (own := [("name", 1)]) (N := n_claim_names) (sc := defScope s_claim_names) (by decide +kernel)) (fun _ _ _ _ _ => (pg_name (i := 1) sc_claim_names.nd rfl (by first | exact .inl rfl | exact .inr rfl))) (fun _ _ _ _ _ => pts_nil) (fun _ _ _ _ _ => (pv 1)) (fun _ _ _ _ _ => pe_bl)) pa_nil))))
abbrev s__outer_names : Stmt := topS 9
abbrev n__outer_names : List Str := ["saying", "word", "x", "weight"]
theorem sc__outer_names : FnScope n__outer_names ["saying"] (defScope s__outer_names) := ⟨rfl, rfl, rfl, by decide +kernel, rfl, by decide +kernel, by decide +kernel⟩
theorem ok__outer_names {P : Program} {w : World} {K : PySem.W.Frag} {mg : Str → Option Value} {base : Heap} {f : Addr} {fd : FuncData} (F : Fun K "_outer_names" "_outer_names" s__outer_names f fd) (gf : mg "_outer_names" = some (.ref f))   (m_tuple : mg "tuple" = none)  : Cal P w K mg base "_outer_names" 1 ["saying"] (sp__outer_names K) := by
  refine ⟨f, fd, F.ok sc__outer_names len__outer_names (fun cdv A outer s H vs Q E hr h => ⟨t__outer_names K, PSs.nox ?_, pure__outer_names vs H Q E h⟩), F.kp, F.binds (fun _ _ _ _ _ _ us hl => match us, hl with | [_], _ => rfl), gf⟩
  exact (pss_cons (ps_set (i := 1) sc__outer_names.nd rfl (by first | exact .inl rfl | exact .inr rfl) (pe_ix ix_tup (pv 0) pe_int (fun _ _ => rfl)))
  (pss_cons (ps_if (pt_cmpR op_in_seq (pv 1) (pe_tup (pa_cons pe_str (pa_cons pe_str pa_nil))) (by rfl)) (pss_one (ps_ret (pe_tupleOf (by rfl) m_tuple (pe_lc (own := [("x", 2), ("weight", 3)]) rfl sc__outer_names.nd (pi_tup (pe_ix ix_tup (pv 0) pe_int (fun _ _ => rfl))) (blkOk_by (own := [("x", 2), ("weight", 3)]) (N := n__outer_names) (sc := defScope s__outer_names) (by decide +kernel)) (fun _ _ _ _ _ => (pg_tup rfl (pgs_cons (pg_name (i := 2) sc__outer_names.nd rfl (by first | exact .inl rfl | exact .inr rfl)) (pgs_cons (pg_name (i := 3) sc__outer_names.nd rfl (by first | exact .inl rfl | exact .inr rfl)) pgs_nil)))) (fun _ _ _ _ _ => pts_nil) (fun _ _ _ _ _ => (pv 2)))))) pss_nil)
  (pss_cons (ps_if (pt_cmpR op_eq (pv 1) pe_str (nomark _)) (pss_one (ps_ret (pe_tup (pa_cons (pe_ix ix_tup (pv 0) pe_int (fun _ _ => rfl)) (pa_star (pe_ix ix_tup (pv 0) pe_int (fun _ _ => rfl)) (pa_cons (pe_ix ix_tup (pv 0) pe_int (fun _ _ => rfl)) pa_nil)))))) pss_nil)
  (pss_cons (ps_if (pt_cmpR op_eq (pv 1) pe_str (nomark _)) (pss_one (ps_ret (pe_tup (pa_star (pe_ix ix_tup (pv 0) pe_int (fun _ _ => rfl)) (pa_cons (pe_ix ix_tup (pv 0) pe_int (fun _ _ => rfl)) pa_nil))))) pss_nil)
  (pss_cons (ps_if (pt_cmpR op_eq (pv 1) pe_str (nomark _)) (pss_one (ps_ret (pe_slice sl_tupA (pv 0) (po_some pe_int) po_none))) pss_nil)
  (pss_cons (ps_if (pt_cmpR op_eq (pv 1) pe_str (nomark _)) (pss_one (ps_ret (pe_op op_catA (pe_ix ix_tup (pv 0) pe_int (fun _ _ => rfl)) (pe_ix ix_tup (pv 0) pe_int (fun _ _ => rfl))))) pss_nil)
  (pss_one (ps_ret (pe_ix ix_tup (pv 0) pe_int (fun _ _ => rfl))))))))))
abbrev s_own_names : Stmt := topS 8
abbrev n_own_names : List Str := ["saying", "word", "names", "name"]
theorem sc_own_names : FnScope n_own_names ["saying"] (defScope s_own_names) := ⟨rfl, rfl, rfl, by decide +kernel, rfl, by decide +kernel, by decide +kernel⟩
theorem ok_own_names_step (m : Nat) {P : Program} {w : World} {K : PySem.W.Frag} {mg : Str → Option Value} {base : Heap} {f : Addr} {fd : FuncData} (F : Fun K "own_names" "own_names" s_own_names f fd) (gf : mg "own_names" = some (.ref f)) (C__outer_names : Cal P w K mg base "_outer_names" 1 ["saying"] (sp__outer_names K)) (C_claim_names : Cal P w K mg base "claim_names" 11 ["claim"] (sp_claim_names K)) (m_tuple : mg "tuple" = none)  (C_own_names : Cal P w K mg base "own_names" (12 + m) ["saying"] (sp_own_names K m)) : Cal P w K mg base "own_names" (12 + m + 1) ["saying"] (sp_own_names K (m + 1)) := by
  refine ⟨f, fd, F.ok (k := 12 + m) sc_own_names len_own_names (fun cdv A outer s H vs Q E hr h => ⟨t_own_names K m, PSs.nox ?_, pure_own_names vs H Q E h⟩), F.kp, F.binds (fun _ _ _ _ _ _ us hl => match us, hl with | [_], _ => rfl), gf⟩
  exact (pss_cons (ps_set (i := 1) sc_own_names.nd rfl (by first | exact .inl rfl | exact .inr rfl) (pe_ix ix_tup (pv 0) pe_int (fun _ _ => rfl)))
  (pss_cons (ps_if (pt_cmpR op_eq (pv 1) pe_str (nomark _)) (pss_one (ps_ret (pe_cal C_claim_names (hr.mono (by omega)) rfl (pa_cons (pe_ix ix_tup (pv 0) pe_int (fun _ _ => rfl)) pa_nil)))) pss_nil)
  (pss_cons (ps_if (pt_cmpR op_eq (pv 1) pe_str (nomark _)) (pss_cons (ps_set (i := 2) sc_own_names.nd rfl (by first | exact .inl rfl | exact .inr rfl) (pe_op op_catA (pe_cal C_claim_names (hr.mono (by omega)) rfl (pa_cons (pe_ix ix_tup (pv 0) pe_int (fun _ _ => rfl)) pa_nil)) (pe_cal C_own_names (hr.mono (by omega)) rfl (pa_cons (pe_ix ix_tup (pv 0) pe_int (fun _ _ => rfl)) pa_nil))))
  (pss_one (ps_ret (pe_callTy (call_tuple_dK rfl) (by rfl) m_tuple (by decide +kernel) (pa_cons (pe_dc (own := [("name", 3)]) rfl sc_own_names.nd (pi_tup (pv 2)) (blkOk_by (own := [("name", 3)]) (N := n_own_names) (sc := defScope s_own_names) (by decide +kernel)) (fun _ _ _ _ _ => (pg_name (i := 3) sc_own_names.nd rfl (by first | exact .inl rfl | exact .inr rfl))) (fun _ _ _ _ _ => pts_nil) (fun _ _ _ _ _ => (pv 3)) (fun _ _ _ _ _ => pe_bl)) pa_nil))))) pss_nil)
  (pss_one (ps_ret (pe_cal C__outer_names (hr.mono (by omega)) rfl (pa_cons (pv 0) pa_nil)))))))
theorem ok_own_names_all {P : Program} {w : World} {K : PySem.W.Frag} {mg : Str → Option Value} {base : Heap} {f : Addr} {fd : FuncData} (F : Fun K "own_names" "own_names" s_own_names f fd) (gf : mg "own_names" = some (.ref f)) (C__outer_names : Cal P w K mg base "_outer_names" 1 ["saying"] (sp__outer_names K)) (C_claim_names : Cal P w K mg base "claim_names" 11 ["claim"] (sp_claim_names K)) (m_tuple : mg "tuple" = none)  : ∀ m, Cal P w K mg base "own_names" (12 + m) ["saying"] (sp_own_names K m)
  | 0 => ⟨f, fd, F.ok (k := 11) sc_own_names len_own_names (fun cdv A outer s H vs Q E hr h => (no_own_names h).elim), F.kp, F.binds (fun _ _ _ _ _ _ us hl => match us, hl with | [_], _ => rfl), gf⟩
  | m + 1 => ok_own_names_step m F gf C__outer_names C_claim_names m_tuple (ok_own_names_all F gf C__outer_names C_claim_names m_tuple m)
theorem ok_own_names {P : Program} {w : World} {K : PySem.W.Frag} {mg : Str → Option Value} {base : Heap} {f : Addr} {fd : FuncData} (F : Fun K "own_names" "own_names" s_own_names f fd) (gf : mg "own_names" = some (.ref f)) (C__outer_names : Cal P w K mg base "_outer_names" 1 ["saying"] (sp__outer_names K)) (C_claim_names : Cal P w K mg base "claim_names" 11 ["claim"] (sp_claim_names K)) (m_tuple : mg "tuple" = none)  : Cal P w K mg base "own_names" 14 ["saying"] (sp_own_names K 2) := ok_own_names_all F gf C__outer_names C_claim_names m_tuple 2
abbrev s_are_small : Stmt := topS 2
abbrev n_are_small : List Str := ["domains", "names", "size", "name"]
theorem sc_are_small : FnScope n_are_small ["domains", "names"] (defScope s_are_small) := ⟨rfl, rfl, rfl, by decide +kernel, rfl, by decide +kernel, by decide +kernel⟩
theorem ok_are_small {P : Program} {w : World} {K : PySem.W.Frag} {mg : Str → Option Value} {base : Heap} {f : Addr} {fd : FuncData} (F : Fun K "are_small" "are_small" s_are_small f fd) (gf : mg "are_small" = some (.ref f))   (m_len : mg "len" = none) (g_SMALL_BOUND : mg "SMALL_BOUND" = some u_SMALL_BOUND) (r_SMALL_BOUND : RelV v_SMALL_BOUND u_SMALL_BOUND) : Cal P w K mg base "are_small" 1 ["domains", "names"] (sp_are_small K) := by
  refine ⟨f, fd, F.ok sc_are_small len_are_small (fun cdv A outer s H vs Q E hr h => ⟨t_are_small K, PSs.nox ?_, pure_are_small vs H Q E h⟩), F.kp, F.binds (fun _ _ _ _ _ _ us hl => match us, hl with | [_, _], _ => rfl), gf⟩
  exact (pss_cons (ps_set (i := 2) sc_are_small.nd rfl (by first | exact .inl rfl | exact .inr rfl) pe_int)
  (pss_cons (ps_for PassesOwn.never rfl (pi_tup (pv 1)) (pg_name (i := 3) sc_are_small.nd rfl (by first | exact .inl rfl | exact .inr rfl))
  (pss_one (ps_set (i := 2) sc_are_small.nd rfl (by first | exact .inl rfl | exact .inr rfl) (pe_op op_mul (pv 2) (pe_callB call_len1 (by rfl) m_len (by decide +kernel) (pa_cons (pe_dget (hu_of hr) (pv 0) (pv 3) (fun _ _ => rfl)) pa_nil))))))
  (pss_one (ps_ret (pe_cmpR op_le (pv 2) (pe_glob rfl g_SMALL_BOUND r_SMALL_BOUND) (nomark _))))))
abbrev s_domains_of : Stmt := topS 11
abbrev n_domains_of : List Str := ["model", "name", "domain"]
theorem sc_domains_of : FnScope n_domains_of ["model"] (defScope s_domains_of) := ⟨rfl, rfl, rfl, by decide +kernel, rfl, by decide +kernel, by decide +kernel⟩
theorem ok_domains_of {P : Program} {w : World} {K : PySem.W.Frag} {mg : Str → Option Value} {base : Heap} {f : Addr} {fd : FuncData} (F : Fun K "domains_of" "domains_of" s_domains_of f fd) (gf : mg "domains_of" = some (.ref f))     : Cal P w K mg base "domains_of" 1 ["model"] (sp_domains_of K) := by
  refine ⟨f, fd, F.ok sc_domains_of len_domains_of (fun cdv A outer s H vs Q E hr h => ⟨t_domains_of K, PSs.nox ?_, pure_domains_of vs H Q E h⟩), F.kp, F.binds (fun _ _ _ _ _ _ us hl => match us, hl with | [_], _ => rfl), gf⟩
  exact (pss_one (ps_ret (pe_dc (own := [("name", 1), ("domain", 2)]) rfl sc_domains_of.nd (pi_tup (pe_ix ix_tup (pv 0) pe_int (fun _ _ => rfl))) (blkOk_by (own := [("name", 1), ("domain", 2)]) (N := n_domains_of) (sc := defScope s_domains_of) (by decide +kernel)) (fun _ _ _ _ _ => (pg_tup rfl (pgs_cons (pg_name (i := 1) sc_domains_of.nd rfl (by first | exact .inl rfl | exact .inr rfl)) (pgs_cons (pg_name (i := 2) sc_domains_of.nd rfl (by first | exact .inl rfl | exact .inr rfl)) pgs_nil)))) (fun _ _ _ _ _ => pts_nil) (fun _ _ _ _ _ => (pv 1)) (fun _ _ _ _ _ => (pv 2)))))
abbrev s_saying_of : Stmt := topS 12
abbrev n_saying_of : List Str := ["model", "name", "sayings", "item"]
theorem sc_saying_of : FnScope n_saying_of ["model", "name"] (defScope s_saying_of) := ⟨rfl, rfl, rfl, by decide +kernel, rfl, by decide +kernel, by decide +kernel⟩
theorem ok_saying_of {P : Program} {w : World} {K : PySem.W.Frag} {mg : Str → Option Value} {base : Heap} {f : Addr} {fd : FuncData} (F : Fun K "saying_of" "saying_of" s_saying_of f fd) (gf : mg "saying_of" = some (.ref f))     : Cal P w K mg base "saying_of" 1 ["model", "name"] (sp_saying_of K) := by
  refine ⟨f, fd, F.ok sc_saying_of len_saying_of (fun cdv A outer s H vs Q E hr h => ⟨t_saying_of K, PSs.nox ?_, pure_saying_of vs H Q E h⟩), F.kp, F.binds (fun _ _ _ _ _ _ us hl => match us, hl with | [_, _], _ => rfl), gf⟩
  exact (pss_cons (ps_setDc (i := 2) (own := [("item", 3)]) rfl sc_saying_of.nd rfl rfl (sw_trueD rfl rfl rfl (by decide +kernel)) (pi_tup (pe_op op_catA (pe_ix ix_tup (pv 0) pe_int (fun _ _ => rfl)) (pe_ix ix_tup (pv 0) pe_int (fun _ _ => rfl)))) (blkOk_by (own := [("item", 3)]) (N := n_saying_of) (sc := defScope s_saying_of) (by decide +kernel)) (fun _ _ _ _ _ => (pg_name (i := 3) sc_saying_of.nd rfl (by first | exact .inl rfl | exact .inr rfl))) (fun _ _ _ _ _ => pts_nil) (fun _ _ _ _ _ => (pe_ix ix_tup (pv 3) pe_int (fun _ _ => rfl))) (fun _ _ _ _ _ => (pe_ix ix_tup (pv 3) pe_int (fun _ _ => rfl))))
  (pss_one (ps_ret (pe_dget (hu_of hr) (pv 2) (pv 1) (fun _ _ => rfl)))))
abbrev s_unknowns_of : Stmt := topS 13
abbrev n_unknowns_of : List Str := ["model", "name"]
theorem sc_unknowns_of : FnScope n_unknowns_of ["model", "name"] (defScope s_unknowns_of) := ⟨rfl, rfl, rfl, by decide +kernel, rfl, by decide +kernel, by decide +kernel⟩
theorem ok_unknowns_of {P : Program} {w : World} {K : PySem.W.Frag} {mg : Str → Option Value} {base : Heap} {f : Addr} {fd : FuncData} (F : Fun K "unknowns_of" "unknowns_of" s_unknowns_of f fd) (gf : mg "unknowns_of" = some (.ref f)) (C_own_names : Cal P w K mg base "own_names" 14 ["saying"] (sp_own_names K 2)) (C_saying_of : Cal P w K mg base "saying_of" 1 ["model", "name"] (sp_saying_of K))  (m_sorted : mg "sorted" = none) (m_tuple : mg "tuple" = none)  : FnOk P w K mg base CX0 15 f fd ["model", "name"] (sp_unknowns_of K) := by
  refine F.ok sc_unknowns_of len_unknowns_of (fun cdv A outer s H vs Q E hr h => ⟨t_unknowns_of K, PSs.nox ?_, pure_unknowns_of vs H Q E h⟩)
  exact (pss_one (ps_ret (pe_tupleOf (by rfl) m_tuple (pe_callB call_sortTS (by rfl) m_sorted (by decide +kernel) (pa_cons (pe_cal C_own_names (hr.mono (by decide)) rfl (pa_cons (pe_cal C_saying_of (hr.mono (by decide)) rfl (pa_cons (pv 0) (pa_cons (pv 1) pa_nil))) pa_nil)) pa_nil)))))
abbrev s_is_small : Stmt := topS 14
abbrev n_is_small : List Str := ["model", "name"]
theorem sc_is_small : FnScope n_is_small ["model", "name"] (defScope s_is_small) := ⟨rfl, rfl, rfl, by decide +kernel, rfl, by decide +kernel, by decide +kernel⟩
theorem ok_is_small {P : Program} {w : World} {K : PySem.W.Frag} {mg : Str → Option Value} {base : Heap} {f : Addr} {fd : FuncData} (F : Fun K "is_small" "is_small" s_is_small f fd) (gf : mg "is_small" = some (.ref f)) (C_are_small : Cal P w K mg base "are_small" 1 ["domains", "names"] (sp_are_small K)) (C_domains_of : Cal P w K mg base "domains_of" 1 ["model"] (sp_domains_of K)) (C_own_names : Cal P w K mg base "own_names" 14 ["saying"] (sp_own_names K 2)) (C_saying_of : Cal P w K mg base "saying_of" 1 ["model", "name"] (sp_saying_of K))    : FnOk P w K mg base CX0 15 f fd ["model", "name"] (sp_is_small K) := by
  refine F.ok sc_is_small len_is_small (fun cdv A outer s H vs Q E hr h => ⟨t_is_small K, PSs.nox ?_, pure_is_small vs H Q E h⟩)
  exact (pss_one (ps_ret (pe_cal C_are_small (hr.mono (by decide)) rfl (pa_cons (pe_cal C_domains_of (hr.mono (by decide)) rfl (pa_cons (pv 0) pa_nil)) (pa_cons (pe_cal C_own_names (hr.mono (by decide)) rfl (pa_cons (pe_cal C_saying_of (hr.mono (by decide)) rfl (pa_cons (pv 0) (pa_cons (pv 1) pa_nil))) pa_nil)) pa_nil)))))
abbrev s__law_bag : Stmt := topS 16
abbrev n__law_bag : List Str := ["script", "cells", "cell", "great"]
theorem sc__law_bag : FnScope n__law_bag ["script"] (defScope s__law_bag) := ⟨rfl, rfl, rfl, by decide +kernel, rfl, by decide +kernel, by decide +kernel⟩
theorem ok__law_bag {P : Program} {w : World} {K : PySem.W.Frag} {mg : Str → Option Value} {base : Heap} {f : Addr} {fd : FuncData} (F : Fun K "_law_bag" "_law_bag" s__law_bag f fd) (gf : mg "_law_bag" = some (.ref f))   (m_abs : mg "abs" = none) (m_int : mg "int" = none)  : Cal P w K mg base "_law_bag" 1 ["script"] (sp__law_bag K) := by
  refine ⟨f, fd, F.ok sc__law_bag len__law_bag (fun cdv A outer s H vs Q E hr h => ⟨t__law_bag K, PSs.nox ?_, pure__law_bag vs H Q E h⟩), F.kp, F.binds (fun _ _ _ _ _ _ us hl => match us, hl with | [_], _ => rfl), gf⟩
  exact (pss_cons (ps_set (i := 1) sc__law_bag.nd rfl (by first | exact .inl rfl | exact .inr rfl) (pe_op op_cat (pe_lc (own := [("cell", 2)]) rfl sc__law_bag.nd (pi_list (pv 0)) (blkOk_by (own := [("cell", 2)]) (N := n__law_bag) (sc := defScope s__law_bag) (by decide +kernel)) (fun _ _ _ _ _ => (pg_name (i := 2) sc__law_bag.nd rfl (by first | exact .inl rfl | exact .inr rfl))) (fun _ _ _ _ _ => pts_nil) (fun _ _ _ _ _ => (pe_callB call_abs1 (by rfl) m_abs (by decide +kernel) (pa_cons (pe_callTy call_int1 (by rfl) m_int (by decide +kernel) (pa_cons (pv 2) pa_nil)) pa_nil)))) (pe_lst (pa_cons pe_int pa_nil))))
  (pss_cons (ps_set (i := 3) sc__law_bag.nd rfl (by first | exact .inl rfl | exact .inr rfl) (pe_lst pa_nil))
  (pss_cons (ps_if (pt_cmpR op_eq (pe_op op_mod (pe_callTy call_int1 (by rfl) m_int (by decide +kernel) (pa_cons (pe_ix ix_list (pv 1) pe_int (fun _ _ => rfl)) pa_nil)) pe_int) pe_int (nomark _)) (pss_cons (ps_setLc (i := 3) (own := [("cell", 2)]) rfl sc__law_bag.nd rfl rfl (sw_true rfl rfl rfl (by decide +kernel)) (pi_list (pv 1)) (blkOk_by (own := [("cell", 2)]) (N := n__law_bag) (sc := defScope s__law_bag) (by decide +kernel)) (fun _ _ _ _ _ => (pg_name (i := 2) sc__law_bag.nd rfl (by first | exact .inl rfl | exact .inr rfl))) (fun _ _ _ _ _ => (pts_one (pt_cmpR op_ge (pv 2) (pe_op op_pow pe_int pe_int) (nomark _)))) (fun _ _ _ _ _ => (pe_op op_fdiv (pv 2) pe_int)))
  (pss_one (ps_expr (pe_bm0 PySem.F.plainAttrs_list PySem.F.slot_list_reverse PySem.F.type_list_reverse mt_reverse (pv 3))))) pss_nil)
  (pss_one (ps_ret (pe_lst (pa_cons pe_int (pa_cons pe_int (pa_cons (pv 3) (pa_cons (pe_lc (own := [("cell", 2)]) rfl sc__law_bag.nd (pi_list (pv 1)) (blkOk_by (own := [("cell", 2)]) (N := n__law_bag) (sc := defScope s__law_bag) (by decide +kernel)) (fun _ _ _ _ _ => (pg_name (i := 2) sc__law_bag.nd rfl (by first | exact .inl rfl | exact .inr rfl))) (fun _ _ _ _ _ => pts_nil) (fun _ _ _ _ _ => (pe_op op_mod (pe_callTy call_int1 (by rfl) m_int (by decide +kernel) (pa_cons (pv 2) pa_nil)) pe_int))) pa_nil))))))))))
abbrev s__law_draw : Stmt := topS 17
abbrev n__law_draw : List Str := ["bag", "many", "digit", "cell", "mixed"]
theorem sc__law_draw : FnScope n__law_draw ["bag", "many"] (defScope s__law_draw) := ⟨rfl, rfl, rfl, by decide +kernel, rfl, by decide +kernel, by decide +kernel⟩
theorem ok__law_draw {P : Program} {w : World} {K : PySem.W.Frag} {mg : Str → Option Value} {base : Heap} {f : Addr} {fd : FuncData} (F : Fun K "_law_draw" "_law_draw" s__law_draw f fd) (gf : mg "_law_draw" = some (.ref f))   (m_int : mg "int" = none) (m_len : mg "len" = none)  : Cal P w K mg base "_law_draw" 1 ["bag", "many"] (sp__law_draw K) := by
  refine ⟨f, fd, F.ok sc__law_draw len__law_draw (fun cdv A outer s H vs Q E hr h => ⟨t__law_draw K, PSs.nox ?_, pure__law_draw vs H Q E h⟩), F.kp, F.binds (fun _ _ _ _ _ _ us hl => match us, hl with | [_, _], _ => rfl), gf⟩
  exact (pss_cons (ps_asg (pe_op op_add (pe_ix ix_list (pv 0) pe_int (fun _ _ => rfl)) pe_int) (pg_sub (pv 0) pe_int set_list))
  (pss_cons (ps_if (PW.pt (pw_and (pt_cmpR op_eq (pe_ix ix_list (pv 0) pe_int (fun _ _ => rfl)) pe_int (nomark _)) (pw_and1 (pt_cmpR op_gt (pe_callB call_len1 (by rfl) m_len (by decide +kernel) (pa_cons (pe_ix ix_list (pv 0) pe_int (fun _ _ => rfl)) pa_nil)) pe_int (nomark _))))) (pss_one (ps_asg (pe_bm0 PySem.F.plainAttrs_list PySem.F.slot_list_pop PySem.F.type_list_pop mt_pop (pe_ix ix_list (pv 0) pe_int (fun _ _ => rfl))) (pg_sub (pv 0) pe_int set_list))) pss_nil)
  (pss_cons (ps_if (pt_cmpR op_gt (pe_ix ix_list (pv 0) pe_int (fun _ _ => rfl)) pe_int (nomark _)) (pss_cons (ps_set (i := 2) sc__law_draw.nd rfl (by first | exact .inl rfl | exact .inr rfl) (pe_op op_mod (pe_callTy call_int1 (by rfl) m_int (by decide +kernel) (pa_cons (pe_ix ix_list (pv 0) pe_int (fun _ _ => rfl)) pa_nil)) (pv 1)))
  (pss_cons (ps_asg (pe_op op_fdiv (pe_ix ix_list (pv 0) pe_int (fun _ _ => rfl)) (pv 1)) (pg_sub (pv 0) pe_int set_list))
  (pss_one (ps_ret (pv 2))))) pss_nil)
  (pss_cons (ps_set (i := 3) sc__law_draw.nd rfl (by first | exact .inl rfl | exact .inr rfl) (pe_ix ix_list (pe_ix ix_list (pv 0) pe_int (fun _ _ => rfl)) (pe_op op_mod (pe_callTy call_int1 (by rfl) m_int (by decide +kernel) (pa_cons (pe_ix ix_list (pv 0) pe_int (fun _ _ => rfl)) pa_nil)) (pe_callB call_len1 (by rfl) m_len (by decide +kernel) (pa_cons (pe_ix ix_list (pv 0) pe_int (fun _ _ => rfl)) pa_nil))) (fun _ _ => rfl)))
  (pss_cons (ps_set (i := 4) sc__law_draw.nd rfl (by first | exact .inl rfl | exact .inr rfl) (pe_op op_mod (pe_callTy call_int1 (by rfl) m_int (by decide +kernel) (pa_cons (pe_op op_add (pe_op op_add (pe_op op_mul (pv 3) pe_int) (pe_op op_mul (pe_ix ix_list (pv 0) pe_int (fun _ _ => rfl)) pe_int)) pe_int) pa_nil)) pe_int))
  (pss_one (ps_ret (pe_op op_mod (pe_op op_fdiv (pe_op op_mod (pe_callTy call_int1 (by rfl) m_int (by decide +kernel) (pa_cons (pe_op op_add (pe_op op_add (pe_op op_mul (pv 4) (pv 4)) (pe_op op_mul (pv 4) pe_int)) (pe_op op_mul (pe_ix ix_list (pv 0) pe_int (fun _ _ => rfl)) pe_int)) pa_nil)) pe_int) pe_int) (pv 1)))))))))
abbrev s__law_pick : Stmt := topS 18
abbrev n__law_pick : List Str := ["bag", "some"]
theorem sc__law_pick : FnScope n__law_pick ["bag", "some"] (defScope s__law_pick) := ⟨rfl, rfl, rfl, by decide +kernel, rfl, by decide +kernel, by decide +kernel⟩
theorem ok__law_pick {P : Program} {w : World} {K : PySem.W.Frag} {mg : Str → Option Value} {base : Heap} {f : Addr} {fd : FuncData} (F : Fun K "_law_pick" "_law_pick" s__law_pick f fd) (gf : mg "_law_pick" = some (.ref f)) (C__law_draw : Cal P w K mg base "_law_draw" 1 ["bag", "many"] (sp__law_draw K))  (m_len : mg "len" = none)  : Cal P w K mg base "_law_pick" 2 ["bag", "some"] (sp__law_pick K) := by
  refine ⟨f, fd, F.ok sc__law_pick len__law_pick (fun cdv A outer s H vs Q E hr h => ⟨t__law_pick K, PSs.nox ?_, pure__law_pick vs H Q E h⟩), F.kp, F.binds (fun _ _ _ _ _ _ us hl => match us, hl with | [_, _], _ => rfl), gf⟩
  exact (pss_one (ps_ret (pe_ix ix_any (pv 1) (pe_cal C__law_draw (hr.mono (by decide)) rfl (pa_cons (pv 0) (pa_cons (pe_callB call_len1 (by rfl) m_len (by decide +kernel) (pa_cons (pv 1) pa_nil)) pa_nil))) (fun _ _ => rfl))))
abbrev s__law_some : Stmt := topS 19
abbrev n__law_some : List Str := ["bag", "things", "many", "left", "made", "k"]
theorem sc__law_some : FnScope n__law_some ["bag", "things", "many"] (defScope s__law_some) := ⟨rfl, rfl, rfl, by decide +kernel, rfl, by decide +kernel, by decide +kernel⟩
theorem ok__law_some {P : Program} {w : World} {K : PySem.W.Frag} {mg : Str → Option Value} {base : Heap} {f : Addr} {fd : FuncData} (F : Fun K "_law_some" "_law_some" s__law_some f fd) (gf : mg "_law_some" = some (.ref f)) (C__law_draw : Cal P w K mg base "_law_draw" 1 ["bag", "many"] (sp__law_draw K))  (m_len : mg "len" = none) (m_list : mg "list" = none) (m_range : mg "range" = none)  : Cal P w K mg base "_law_some" 2 ["bag", "things", "many"] (sp__law_some K) := by
  refine ⟨f, fd, F.ok sc__law_some len__law_some (fun cdv A outer s H vs Q E hr h => ⟨t__law_some K, PSs.nox ?_, pure__law_some vs H Q E h⟩), F.kp, F.binds (fun _ _ _ _ _ _ us hl => match us, hl with | [_, _, _], _ => rfl), gf⟩
  exact (pss_cons (ps_set (i := 3) sc__law_some.nd rfl (by first | exact .inl rfl | exact .inr rfl) (pe_callTy (call_listOfA rfl) (by rfl) m_list (by decide +kernel) (pa_cons (pv 1) pa_nil)))
  (pss_cons (ps_set (i := 4) sc__law_some.nd rfl (by first | exact .inl rfl | exact .inr rfl) (pe_lst pa_nil))
  (pss_cons (ps_for PassesOwn.never rfl (pi_range1 (by rfl) m_range (pa_cons (pv 2) pa_nil)) (pg_name (i := 5) sc__law_some.nd rfl (by first | exact .inl rfl | exact .inr rfl))
  (pss_one (ps_expr (pe_bm PySem.F.plainAttrs_list PySem.F.slot_list_append PySem.F.type_list_append mt_append (pv 4) (pa_cons (pe_bm PySem.F.plainAttrs_list PySem.F.slot_list_pop PySem.F.type_list_pop mt_popAt (pv 3) (pa_cons (pe_cal C__law_draw (hr.mono (by decide)) rfl (pa_cons (pv 0) (pa_cons (pe_callB call_len1 (by rfl) m_len (by decide +kernel) (pa_cons (pv 3) pa_nil)) pa_nil))) pa_nil)) pa_nil)))))
  (pss_one (ps_ret (pv 4))))))
abbrev s__law_same : Stmt := topS 20
abbrev n__law_same : List Str := ["found", "due", "k"]
theorem sc__law_same : FnScope n__law_same ["found", "due"] (defScope s__law_same) := ⟨rfl, rfl, rfl, by decide +kernel, rfl, by decide +kernel, by decide +kernel⟩
theorem ok__law_same_step (m : Nat) {P : Program} {w : World} {K : PySem.W.Frag} {mg : Str → Option Value} {base : Heap} {f : Addr} {fd : FuncData} (F : Fun K "_law_same" "_law_same" s__law_same f fd) (gf : mg "_law_same" = some (.ref f))  (m_bool : mg "bool" = none) (m_int : mg "int" = none) (m_isinstance : mg "isinstance" = none) (m_len : mg "len" = none) (m_range : mg "range" = none) (m_str : mg "str" = none) (m_tuple : mg "tuple" = none)  (C__law_same : Cal P w K mg base "_law_same" (1 + m) ["found", "due"] (sp__law_same K m)) : Cal P w K mg base "_law_same" (1 + m + 1) ["found", "due"] (sp__law_same K (m + 1)) := by
  refine ⟨f, fd, F.ok (k := 1 + m) sc__law_same len__law_same (fun cdv A outer s H vs Q E hr h => ⟨t__law_same K m, PSs.nox ?_, pure__law_same vs H Q E h⟩), F.kp, F.binds (fun _ _ _ _ _ _ us hl => match us, hl with | [_, _], _ => rfl), gf⟩
  exact (pss_cons (ps_if (pt_cmpR op_isN1 (pv 1) pe_non (nomark _)) (pss_one (ps_ret (pe_cmpR op_isN1 (pv 0) pe_non (nomark _)))) pss_nil)
  (pss_cons (ps_if (PW.pt (pw_or (pt_val (pe_callB call_isi (by rfl) m_isinstance (by decide +kernel) (pa_cons (pv 1) (pa_cons (pe_bltn (by rfl) m_bool (by decide +kernel) rfl) pa_nil)))) (pw_or1 (pt_val (pe_callB call_isi (by rfl) m_isinstance (by decide +kernel) (pa_cons (pv 0) (pa_cons (pe_bltn (by rfl) m_bool (by decide +kernel) rfl) pa_nil))))))) (pss_one (ps_ret (pe_and (pe_callB call_isi (by rfl) m_isinstance (by decide +kernel) (pa_cons (pv 1) (pa_cons (pe_bltn (by rfl) m_bool (by decide +kernel) rfl) pa_nil))) (pe_and (pe_callB call_isi (by rfl) m_isinstance (by decide +kernel) (pa_cons (pv 0) (pa_cons (pe_bltn (by rfl) m_bool (by decide +kernel) rfl) pa_nil))) (pe_one (pe_cmpR op_eq (pv 0) (pv 1) (nomark _))))))) pss_nil)
  (pss_cons (ps_if (pt_val (pe_callB call_isi (by rfl) m_isinstance (by decide +kernel) (pa_cons (pv 1) (pa_cons (pe_bltn (by rfl) m_int (by decide +kernel) rfl) pa_nil)))) (pss_one (ps_ret (pe_and (pe_callB call_isi (by rfl) m_isinstance (by decide +kernel) (pa_cons (pv 0) (pa_cons (pe_bltn (by rfl) m_int (by decide +kernel) rfl) pa_nil))) (pe_one (pe_cmpR op_eq (pv 0) (pv 1) (nomark _)))))) pss_nil)
  (pss_cons (ps_if (pt_val (pe_callB call_isi (by rfl) m_isinstance (by decide +kernel) (pa_cons (pv 1) (pa_cons (pe_bltn (by rfl) m_str (by decide +kernel) rfl) pa_nil)))) (pss_one (ps_ret (pe_and (pe_callB call_isi (by rfl) m_isinstance (by decide +kernel) (pa_cons (pv 0) (pa_cons (pe_bltn (by rfl) m_str (by decide +kernel) rfl) pa_nil))) (pe_one (pe_cmpR op_eq (pv 0) (pv 1) (nomark _)))))) pss_nil)
  (pss_cons (ps_if (PW.pt (pw_or (pt_not (pt_val (pe_callB call_isi (by rfl) m_isinstance (by decide +kernel) (pa_cons (pv 1) (pa_cons (pe_bltn (by rfl) m_tuple (by decide +kernel) rfl) pa_nil))))) (pw_or (pt_not (pt_val (pe_callB call_isi (by rfl) m_isinstance (by decide +kernel) (pa_cons (pv 0) (pa_cons (pe_bltn (by rfl) m_tuple (by decide +kernel) rfl) pa_nil))))) (pw_or1 (pt_cmpR op_ne (pe_callB call_len1 (by rfl) m_len (by decide +kernel) (pa_cons (pv 0) pa_nil)) (pe_callB call_len1 (by rfl) m_len (by decide +kernel) (pa_cons (pv 1) pa_nil)) (nomark _)))))) (pss_one (ps_ret pe_bl)) pss_nil)
  (pss_cons (ps_for PassesOwn.never rfl (pi_range1 (by rfl) m_range (pa_cons (pe_callB call_len1 (by rfl) m_len (by decide +kernel) (pa_cons (pv 1) pa_nil)) pa_nil)) (pg_name (i := 2) sc__law_same.nd rfl (by first | exact .inl rfl | exact .inr rfl))
  (pss_one (ps_if (pt_not (pt_val (pe_cal C__law_same (hr.mono (by omega)) rfl (pa_cons (pe_ix ix_any (pv 0) (pv 2) (fun _ _ => rfl)) (pa_cons (pe_ix ix_any (pv 1) (pv 2) (fun _ _ => rfl)) pa_nil))))) (pss_one (ps_ret pe_bl)) pss_nil)))
  (pss_one (ps_ret pe_bl))))))))
theorem ok__law_same_all {P : Program} {w : World} {K : PySem.W.Frag} {mg : Str → Option Value} {base : Heap} {f : Addr} {fd : FuncData} (F : Fun K "_law_same" "_law_same" s__law_same f fd) (gf : mg "_law_same" = some (.ref f))  (m_bool : mg "bool" = none) (m_int : mg "int" = none) (m_isinstance : mg "isinstance" = none) (m_len : mg "len" = none) (m_range : mg "range" = none) (m_str : mg "str" = none) (m_tuple : mg "tuple" = none)  : ∀ m, Cal P w K mg base "_law_same" (1 + m) ["found", "due"] (sp__law_same K m)
  | 0 => ⟨f, fd, F.ok (k := 0) sc__law_same len__law_same (fun cdv A outer s H vs Q E hr h => (no__law_same h).elim), F.kp, F.binds (fun _ _ _ _ _ _ us hl => match us, hl with | [_, _], _ => rfl), gf⟩
  | m + 1 => ok__law_same_step m F gf m_bool m_int m_isinstance m_len m_range m_str m_tuple (ok__law_same_all F gf m_bool m_int m_isinstance m_len m_range m_str m_tuple m)
theorem ok__law_same {P : Program} {w : World} {K : PySem.W.Frag} {mg : Str → Option Value} {base : Heap} {f : Addr} {fd : FuncData} (F : Fun K "_law_same" "_law_same" s__law_same f fd) (gf : mg "_law_same" = some (.ref f))  (m_bool : mg "bool" = none) (m_int : mg "int" = none) (m_isinstance : mg "isinstance" = none) (m_len : mg "len" = none) (m_range : mg "range" = none) (m_str : mg "str" = none) (m_tuple : mg "tuple" = none)  : Cal P w K mg base "_law_same" 5 ["found", "due"] (sp__law_same K 4) := ok__law_same_all F gf m_bool m_int m_isinstance m_len m_range m_str m_tuple 4
abbrev s__law_names : Stmt := topS 21
abbrev n__law_names : List Str := ["bag", "many", "signs", "size", "at", "first", "k", "row", "alike", "made", "one", "name", "j"]
theorem sc__law_names : FnScope n__law_names ["bag", "many"] (defScope s__law_names) := ⟨rfl, rfl, rfl, by decide +kernel, rfl, by decide +kernel, by decide +kernel⟩
theorem ok__law_names {P : Program} {w : World} {K : PySem.W.Frag} {mg : Str → Option Value} {base : Heap} {f : Addr} {fd : FuncData} (F : Fun K "_law_names" "_law_names" s__law_names f fd) (gf : mg "_law_names" = some (.ref f)) (C__law_draw : Cal P w K mg base "_law_draw" 1 ["bag", "many"] (sp__law_draw K)) (C__law_pick : Cal P w K mg base "_law_pick" 2 ["bag", "some"] (sp__law_pick K)) (C__law_some : Cal P w K mg base "_law_some" 2 ["bag", "things", "many"] (sp__law_some K))  (m_int : mg "int" = none) (m_list : mg "list" = none) (m_range : mg "range" = none) (m_str : mg "str" = none)  : Cal P w K mg base "_law_names" 3 ["bag", "many"] (sp__law_names K) := by
  refine ⟨f, fd, F.ok sc__law_names len__law_names (fun cdv A outer s H vs Q E hr h => ⟨t__law_names K, PSs.nox ?_, pure__law_names vs H Q E h⟩), F.kp, F.binds (fun _ _ _ _ _ _ us hl => match us, hl with | [_, _], _ => rfl), gf⟩
  exact (pss_cons (ps_set (i := 2) sc__law_names.nd rfl (by first | exact .inl rfl | exact .inr rfl) pe_str)
  (pss_cons (ps_set (i := 3) sc__law_names.nd rfl (by first | exact .inl rfl | exact .inr rfl) (pe_cal C__law_pick (hr.mono (by decide)) rfl (pa_cons (pv 0) (pa_cons (pe_lst (pa_cons pe_int (pa_cons pe_int (pa_cons pe_int (pa_cons pe_int (pa_cons pe_int (pa_cons pe_int pa_nil))))))) pa_nil))))
  (pss_cons (ps_set (i := 4) sc__law_names.nd rfl (by first | exact .inl rfl | exact .inr rfl) (pe_cal C__law_draw (hr.mono (by decide)) rfl (pa_cons (pv 0) (pa_cons (pv 3) pa_nil))))
  (pss_cons (ps_setLc (i := 5) (own := [("k", 6)]) rfl sc__law_names.nd rfl rfl (sw_true rfl rfl rfl (by decide +kernel)) (pi_range1 (by rfl) m_range (pa_cons (pv 3) pa_nil)) (blkOk_by (own := [("k", 6)]) (N := n__law_names) (sc := defScope s__law_names) (by decide +kernel)) (fun _ _ _ _ _ => (pg_name (i := 6) sc__law_names.nd rfl (by first | exact .inl rfl | exact .inr rfl))) (fun _ _ _ _ _ => pts_nil) (fun _ _ _ _ _ => (pe_ix ix_str (pv 2) (pe_cal C__law_draw (hr.mono (by decide)) rfl (pa_cons (pv 0) (pa_cons pe_int pa_nil))) (fun _ _ => rfl))))
  (pss_cons (ps_set (i := 7) sc__law_names.nd rfl (by first | exact .inl rfl | exact .inr rfl) (pe_cal C__law_some (hr.mono (by decide)) rfl (pa_cons (pv 0) (pa_cons (pv 2) (pa_cons pe_int pa_nil)))))
  (pss_cons (ps_set (i := 8) sc__law_names.nd rfl (by first | exact .inl rfl | exact .inr rfl) (pe_cmpR op_eq (pe_cal C__law_draw (hr.mono (by decide)) rfl (pa_cons (pv 0) (pa_cons pe_int pa_nil))) pe_int (nomark _)))
  (pss_cons (ps_set (i := 9) sc__law_names.nd rfl (by first | exact .inl rfl | exact .inr rfl) (pe_lst pa_nil))
  (pss_cons (ps_for PassesOwn.never rfl (pi_range1 (by rfl) m_range (pa_cons (pv 1) pa_nil)) (pg_name (i := 6) sc__law_names.nd rfl (by first | exact .inl rfl | exact .inr rfl))
  (pss_cons (ps_set (i := 10) sc__law_names.nd rfl (by first | exact .inl rfl | exact .inr rfl) (pe_callTy call_listOf (by rfl) m_list (by decide +kernel) (pa_cons (pv 5) pa_nil)))
  (pss_cons (ps_asg (pe_ix ix_list (pv 7) (pe_op op_mod (pe_callTy call_int1 (by rfl) m_int (by decide +kernel) (pa_cons (pv 6) pa_nil)) pe_int) (fun _ _ => rfl)) (pg_sub (pv 10) (pv 4) set_list))
  (pss_cons (ps_set (i := 11) sc__law_names.nd rfl (by first | exact .inl rfl | exact .inr rfl) (pe_joinK pe_str (pv 10)))
  (pss_cons (ps_if (PW.pt (pw_or (pt_cmpR op_gt (pv 6) pe_int (nomark _)) (pw_or1 (pt_not (pt_val (pv 8)))))) (pss_one (ps_set (i := 11) sc__law_names.nd rfl (by first | exact .inl rfl | exact .inr rfl) (pe_slice sl_str (pe_op op_addS (pe_joinK pe_str (pe_lc (own := [("j", 12)]) rfl sc__law_names.nd (pi_range1 (by rfl) m_range (pa_cons (pe_cal C__law_draw (hr.mono (by decide)) rfl (pa_cons (pv 0) (pa_cons pe_int pa_nil))) pa_nil)) (blkOk_by (own := [("j", 12)]) (N := n__law_names) (sc := defScope s__law_names) (by decide +kernel)) (fun _ _ _ _ _ => (pg_name (i := 12) sc__law_names.nd rfl (by first | exact .inl rfl | exact .inr rfl))) (fun _ _ _ _ _ => pts_nil) (fun _ _ _ _ _ => (pe_ix ix_str (pv 2) (pe_cal C__law_draw (hr.mono (by decide)) rfl (pa_cons (pv 0) (pa_cons pe_int pa_nil))) (fun _ _ => rfl))))) (pv 11)) (po_some (pe_un un_neg pe_int)) po_none))) pss_nil)
  (pss_cons (ps_for PassesOwn.never rfl (pi_range1 (by rfl) m_range (pa_cons pe_int pa_nil)) (pg_name (i := 12) sc__law_names.nd rfl (by first | exact .inl rfl | exact .inr rfl))
  (pss_cons (ps_if (pt_cmpR op_notIn_seq (pv 11) (pv 9) (by rfl)) (pss_one ps_break) pss_nil)
  (pss_one (ps_set (i := 11) sc__law_names.nd rfl (by first | exact .inl rfl | exact .inr rfl) (pe_op op_addS pe_str (pe_callTy call_str_int (by rfl) m_str (by decide +kernel) (pa_cons (pv 12) pa_nil)))))))
  (pss_one (ps_expr (pe_bm PySem.F.plainAttrs_list PySem.F.slot_list_append PySem.F.type_list_append mt_append (pv 9) (pa_cons (pv 11) pa_nil))))))))))
  (pss_one (ps_ret (pv 9)))))))))))
abbrev s__law_domain : Stmt := topS 22
abbrev n__law_domain : List Str := ["bag", "size", "way", "start", "first", "made", "k"]
theorem sc__law_domain : FnScope n__law_domain ["bag", "size"] (defScope s__law_domain) := ⟨rfl, rfl, rfl, by decide +kernel, rfl, by decide +kernel, by decide +kernel⟩
theorem ok__law_domain {P : Program} {w : World} {K : PySem.W.Frag} {mg : Str → Option Value} {base : Heap} {f : Addr} {fd : FuncData} (F : Fun K "_law_domain" "_law_domain" s__law_domain f fd) (gf : mg "_law_domain" = some (.ref f)) (C__law_draw : Cal P w K mg base "_law_draw" 1 ["bag", "many"] (sp__law_draw K)) (C__law_pick : Cal P w K mg base "_law_pick" 2 ["bag", "some"] (sp__law_pick K))  (m_range : mg "range" = none) (m_tuple : mg "tuple" = none)  : Cal P w K mg base "_law_domain" 3 ["bag", "size"] (sp__law_domain K) := by
  refine ⟨f, fd, F.ok sc__law_domain len__law_domain (fun cdv A outer s H vs Q E hr h => ⟨t__law_domain K, PSs.nox ?_, pure__law_domain vs H Q E h⟩), F.kp, F.binds (fun _ _ _ _ _ _ us hl => match us, hl with | [_, _], _ => rfl), gf⟩
  exact (pss_cons (ps_set (i := 2) sc__law_domain.nd rfl (by first | exact .inl rfl | exact .inr rfl) (pe_cal C__law_draw (hr.mono (by decide)) rfl (pa_cons (pv 0) (pa_cons pe_int pa_nil))))
  (pss_cons (ps_if (pt_cmpR op_lt (pv 2) pe_int (nomark _)) (pss_cons (ps_set (i := 3) sc__law_domain.nd rfl (by first | exact .inl rfl | exact .inr rfl) (pe_cal C__law_pick (hr.mono (by decide)) rfl (pa_cons (pv 0) (pa_cons (pe_lst (pa_cons pe_int (pa_cons pe_int (pa_cons pe_int (pa_cons pe_int (pa_cons (pe_un un_neg pe_int) (pa_cons (pe_un un_neg pe_int) pa_nil))))))) pa_nil))))
  (pss_one (ps_ret (pe_tupRg rfl (by rfl) m_tuple (prg_2 (by rfl) m_range (pv 3) (pe_op op_add (pv 3) (pv 1))))))) pss_nil)
  (pss_cons (ps_set (i := 4) sc__law_domain.nd rfl (by first | exact .inl rfl | exact .inr rfl) (pe_ix ix_list (pe_lst (pa_cons (pe_op op_sub (pe_cal C__law_draw (hr.mono (by decide)) rfl (pa_cons (pv 0) (pa_cons pe_int pa_nil))) pe_int) (pa_cons (pe_op op_sub (pe_cal C__law_draw (hr.mono (by decide)) rfl (pa_cons (pv 0) (pa_cons pe_int pa_nil))) pe_int) pa_nil))) (pe_op op_sub (pv 2) pe_int) (fun _ _ => rfl)))
  (pss_cons (ps_set (i := 5) sc__law_domain.nd rfl (by first | exact .inl rfl | exact .inr rfl) (pe_lst (pa_cons (pv 4) pa_nil)))
  (pss_cons (ps_for PassesOwn.never rfl (pi_range1 (by rfl) m_range (pa_cons (pe_op op_sub (pv 1) pe_int) pa_nil)) (pg_name (i := 6) sc__law_domain.nd rfl (by first | exact .inl rfl | exact .inr rfl))
  (pss_one (ps_expr (pe_bm PySem.F.plainAttrs_list PySem.F.slot_list_append PySem.F.type_list_append mt_append (pv 5) (pa_cons (pe_op op_add (pe_op op_add (pe_ix ix_list (pv 5) (pv 6) (fun _ _ => rfl)) pe_int) (pe_cal C__law_draw (hr.mono (by decide)) rfl (pa_cons (pv 0) (pa_cons (pe_ix ix_list (pe_lst (pa_cons pe_int (pa_cons pe_int pa_nil))) (pe_op op_sub (pv 2) pe_int) (fun _ _ => rfl)) pa_nil)))) pa_nil)))))
  (pss_one (ps_ret (pe_tupleOf (by rfl) m_tuple (pv 5)))))))))
abbrev s__law_near : Stmt := topS 23
abbrev n__law_near : List Str := ["bag", "domain", "value", "way"]
theorem sc__law_near : FnScope n__law_near ["bag", "domain"] (defScope s__law_near) := ⟨rfl, rfl, rfl, by decide +kernel, rfl, by decide +kernel, by decide +kernel⟩
theorem ok__law_near {P : Program} {w : World} {K : PySem.W.Frag} {mg : Str → Option Value} {base : Heap} {f : Addr} {fd : FuncData} (F : Fun K "_law_near" "_law_near" s__law_near f fd) (gf : mg "_law_near" = some (.ref f)) (C__law_draw : Cal P w K mg base "_law_draw" 1 ["bag", "many"] (sp__law_draw K)) (C__law_pick : Cal P w K mg base "_law_pick" 2 ["bag", "some"] (sp__law_pick K))  (m_max : mg "max" = none) (m_min : mg "min" = none)  : Cal P w K mg base "_law_near" 3 ["bag", "domain"] (sp__law_near K) := by
  refine ⟨f, fd, F.ok sc__law_near len__law_near (fun cdv A outer s H vs Q E hr h => ⟨t__law_near K, PSs.nox ?_, pure__law_near vs H Q E h⟩), F.kp, F.binds (fun _ _ _ _ _ _ us hl => match us, hl with | [_, _], _ => rfl), gf⟩
  exact (pss_cons (ps_set (i := 2) sc__law_near.nd rfl (by first | exact .inl rfl | exact .inr rfl) (pe_cal C__law_pick (hr.mono (by decide)) rfl (pa_cons (pv 0) (pa_cons (pv 1) pa_nil))))
  (pss_cons (ps_set (i := 3) sc__law_near.nd rfl (by first | exact .inl rfl | exact .inr rfl) (pe_cal C__law_draw (hr.mono (by decide)) rfl (pa_cons (pv 0) (pa_cons pe_int pa_nil))))
  (pss_cons (ps_if (pt_cmpR op_eq (pv 3) pe_int (nomark _)) (pss_one (ps_set (i := 2) sc__law_near.nd rfl (by first | exact .inl rfl | exact .inr rfl) (pe_op op_add (pv 2) (pe_cal C__law_pick (hr.mono (by decide)) rfl (pa_cons (pv 0) (pa_cons (pe_lst (pa_cons (pe_un un_neg pe_int) (pa_cons pe_int pa_nil))) pa_nil)))))) pss_nil)
  (pss_cons (ps_if (pt_cmpR op_eq (pv 3) pe_int (nomark _)) (pss_one (ps_set (i := 2) sc__law_near.nd rfl (by first | exact .inl rfl | exact .inr rfl) (pe_op op_sub (pe_cal C__law_draw (hr.mono (by decide)) rfl (pa_cons (pv 0) (pa_cons pe_int pa_nil))) pe_int))) pss_nil)
  (pss_one (ps_ret (pe_callB (call_max2 rfl) (by rfl) m_max (by decide +kernel) (pa_cons (pe_un un_neg pe_int) (pa_cons (pe_callB (call_min2 rfl) (by rfl) m_min (by decide +kernel) (pa_cons pe_int (pa_cons (pv 2) pa_nil))) pa_nil)))))))))
abbrev s__law_lot : Stmt := topS 24
abbrev n__law_lot : List Str := ["bag", "xs", "most", "made", "size", "x"]
theorem sc__law_lot : FnScope n__law_lot ["bag", "xs", "most"] (defScope s__law_lot) := ⟨rfl, rfl, rfl, by decide +kernel, rfl, by decide +kernel, by decide +kernel⟩
theorem ok__law_lot {P : Program} {w : World} {K : PySem.W.Frag} {mg : Str → Option Value} {base : Heap} {f : Addr} {fd : FuncData} (F : Fun K "_law_lot" "_law_lot" s__law_lot f fd) (gf : mg "_law_lot" = some (.ref f)) (C__law_some : Cal P w K mg base "_law_some" 2 ["bag", "things", "many"] (sp__law_some K))  (m_len : mg "len" = none)  : Cal P w K mg base "_law_lot" 3 ["bag", "xs", "most"] (sp__law_lot K) := by
  refine ⟨f, fd, F.ok sc__law_lot len__law_lot (fun cdv A outer s H vs Q E hr h => ⟨t__law_lot K, PSs.nox ?_, pure__law_lot vs H Q E h⟩), F.kp, F.binds (fun _ _ _ _ _ _ us hl => match us, hl with | [_, _, _], _ => rfl), gf⟩
  exact (pss_cons (ps_set (i := 3) sc__law_lot.nd rfl (by first | exact .inl rfl | exact .inr rfl) (pe_lst pa_nil))
  (pss_cons (ps_set (i := 4) sc__law_lot.nd rfl (by first | exact .inl rfl | exact .inr rfl) pe_int)
  (pss_cons (ps_for PassesOwn.never rfl (pi_list (pe_cal C__law_some (hr.mono (by decide)) rfl (pa_cons (pv 0) (pa_cons (pv 1) (pa_cons (pe_callB call_len1 (by rfl) m_len (by decide +kernel) (pa_cons (pv 1) pa_nil)) pa_nil))))) (pg_name (i := 5) sc__law_lot.nd rfl (by first | exact .inl rfl | exact .inr rfl))
  (pss_one (ps_if (PW.pt (pw_and (pt_cmpR op_lt (pe_callB call_len1 (by rfl) m_len (by decide +kernel) (pa_cons (pv 3) pa_nil)) (pv 2) (nomark _)) (pw_and1 (pt_cmpR op_le (pe_op op_mul (pv 4) (pe_callB call_len1 (by rfl) m_len (by decide +kernel) (pa_cons (pe_ix ix_tup (pv 5) pe_int (fun _ _ => rfl)) pa_nil))) pe_int (nomark _))))) (pss_cons (ps_expr (pe_bm PySem.F.plainAttrs_list PySem.F.slot_list_append PySem.F.type_list_append mt_append (pv 3) (pa_cons (pv 5) pa_nil)))
  (pss_one (ps_set (i := 4) sc__law_lot.nd rfl (by first | exact .inl rfl | exact .inr rfl) (pe_op op_mul (pv 4) (pe_callB call_len1 (by rfl) m_len (by decide +kernel) (pa_cons (pe_ix ix_tup (pv 5) pe_int (fun _ _ => rfl)) pa_nil)))))) pss_nil)))
  (pss_one (ps_ret (pv 3))))))
abbrev s__law_claim_names : Stmt := topS 27
abbrev n__law_claim_names : List Str := ["claim", "made", "one"]
theorem sc__law_claim_names : FnScope n__law_claim_names ["claim"] (defScope s__law_claim_names) := ⟨rfl, rfl, rfl, by decide +kernel, rfl, by decide +kernel, by decide +kernel⟩
theorem ok__law_claim_names_step (m : Nat) {P : Program} {w : World} {K : PySem.W.Frag} {mg : Str → Option Value} {base : Heap} {f : Addr} {fd : FuncData} (F : Fun K "_law_claim_names" "_law_claim_names" s__law_claim_names f fd) (gf : mg "_law_claim_names" = some (.ref f))    (C__law_claim_names : Cal P w K mg base "_law_claim_names" (1 + m) ["claim"] (sp__law_claim_names K m)) : Cal P w K mg base "_law_claim_names" (1 + m + 1) ["claim"] (sp__law_claim_names K (m + 1)) := by
  refine ⟨f, fd, F.ok (k := 1 + m) sc__law_claim_names len__law_claim_names (fun cdv A outer s H vs Q E hr h => ⟨t__law_claim_names K m, PSs.nox ?_, pure__law_claim_names vs H Q E h⟩), F.kp, F.binds (fun _ _ _ _ _ _ us hl => match us, hl with | [_], _ => rfl), gf⟩
  exact (pss_cons (ps_if (pt_cmpR op_in_seq (pe_ix ix_tup (pv 0) pe_int (fun _ _ => rfl)) (pe_lst (pa_cons pe_str (pa_cons pe_str pa_nil))) (by rfl)) (pss_one (ps_ret (pe_lst (pa_cons (pe_ix ix_tup (pv 0) pe_int (fun _ _ => rfl)) pa_nil)))) pss_nil)
  (pss_cons (ps_if (pt_cmpR op_eq (pe_ix ix_tup (pv 0) pe_int (fun _ _ => rfl)) pe_str (nomark _)) (pss_one (ps_ret (pe_cal C__law_claim_names (hr.mono (by omega)) rfl (pa_cons (pe_ix ix_tup (pv 0) pe_int (fun _ _ => rfl)) pa_nil)))) pss_nil)
  (pss_cons (ps_set (i := 1) sc__law_claim_names.nd rfl (by first | exact .inl rfl | exact .inr rfl) (pe_lst pa_nil))
  (pss_cons (ps_for PassesOwn.never rfl (pi_tup (pe_ix ix_tup (pv 0) pe_int (fun _ _ => rfl))) (pg_name (i := 2) sc__law_claim_names.nd rfl (by first | exact .inl rfl | exact .inr rfl))
  (pss_one (ps_set (i := 1) sc__law_claim_names.nd rfl (by first | exact .inl rfl | exact .inr rfl) (pe_op op_cat (pv 1) (pe_cal C__law_claim_names (hr.mono (by omega)) rfl (pa_cons (pv 2) pa_nil))))))
  (pss_one (ps_ret (pv 1)))))))
theorem ok__law_claim_names_all {P : Program} {w : World} {K : PySem.W.Frag} {mg : Str → Option Value} {base : Heap} {f : Addr} {fd : FuncData} (F : Fun K "_law_claim_names" "_law_claim_names" s__law_claim_names f fd) (gf : mg "_law_claim_names" = some (.ref f))    : ∀ m, Cal P w K mg base "_law_claim_names" (1 + m) ["claim"] (sp__law_claim_names K m)
  | 0 => ⟨f, fd, F.ok (k := 0) sc__law_claim_names len__law_claim_names (fun cdv A outer s H vs Q E hr h => (no__law_claim_names h).elim), F.kp, F.binds (fun _ _ _ _ _ _ us hl => match us, hl with | [_], _ => rfl), gf⟩
  | m + 1 => ok__law_claim_names_step m F gf  (ok__law_claim_names_all F gf  m)
theorem ok__law_claim_names {P : Program} {w : World} {K : PySem.W.Frag} {mg : Str → Option Value} {base : Heap} {f : Addr} {fd : FuncData} (F : Fun K "_law_claim_names" "_law_claim_names" s__law_claim_names f fd) (gf : mg "_law_claim_names" = some (.ref f))    : Cal P w K mg base "_law_claim_names" 9 ["claim"] (sp__law_claim_names K 8) := ok__law_claim_names_all F gf  8
abbrev s__law_claim : Stmt := topS 25
abbrev n__law_claim : List Str := ["bag", "xs", "deep", "way", "x", "domain", "k"]
theorem sc__law_claim : FnScope n__law_claim ["bag", "xs", "deep"] (defScope s__law_claim) := ⟨rfl, rfl, rfl, by decide +kernel, rfl, by decide +kernel, by decide +kernel⟩
theorem ok__law_claim_step (m : Nat) {P : Program} {w : World} {K : PySem.W.Frag} {mg : Str → Option Value} {base : Heap} {f : Addr} {fd : FuncData} (F : Fun K "_law_claim" "_law_claim" s__law_claim f fd) (gf : mg "_law_claim" = some (.ref f)) (C__law_draw : Cal P w K mg base "_law_draw" 1 ["bag", "many"] (sp__law_draw K)) (C__law_near : Cal P w K mg base "_law_near" 3 ["bag", "domain"] (sp__law_near K)) (C__law_pick : Cal P w K mg base "_law_pick" 2 ["bag", "some"] (sp__law_pick K)) (m_range : mg "range" = none) (m_tuple : mg "tuple" = none)  (C__law_claim : Cal P w K mg base "_law_claim" (4 + m) ["bag", "xs", "deep"] (sp__law_claim K m)) : Cal P w K mg base "_law_claim" (4 + m + 1) ["bag", "xs", "deep"] (sp__law_claim K (m + 1)) := by
  refine ⟨f, fd, F.ok (k := 4 + m) sc__law_claim len__law_claim (fun cdv A outer s H vs Q E hr h => ⟨t__law_claim K m, PSs.nox ?_, pure__law_claim vs H Q E h⟩), F.kp, F.binds (fun _ _ _ _ _ _ us hl => match us, hl with | [_, _, _], _ => rfl), gf⟩
  exact (pss_cons (ps_set (i := 3) sc__law_claim.nd rfl (by first | exact .inl rfl | exact .inr rfl) (pe_ifExp (pt_cmpR op_gt (pv 2) pe_int (nomark _)) (pe_cal C__law_draw (hr.mono (by omega)) rfl (pa_cons (pv 0) (pa_cons pe_int pa_nil))) pe_int))
  (pss_cons (ps_if (pt_cmpR op_lt (pv 3) pe_int (nomark _)) (pss_cons (ps_asg (pe_cal C__law_pick (hr.mono (by omega)) rfl (pa_cons (pv 0) (pa_cons (pv 1) pa_nil))) (pg_tup rfl (pgs_cons (pg_name (i := 4) sc__law_claim.nd rfl (by first | exact .inl rfl | exact .inr rfl)) (pgs_cons (pg_name (i := 5) sc__law_claim.nd rfl (by first | exact .inl rfl | exact .inr rfl)) pgs_nil))))
  (pss_one (ps_ret (pe_tup (pa_cons (pe_cal C__law_pick (hr.mono (by omega)) rfl (pa_cons (pv 0) (pa_cons (pe_lst (pa_cons pe_str (pa_cons pe_str pa_nil))) pa_nil))) (pa_cons (pv 4) (pa_cons (pe_cal C__law_near (hr.mono (by omega)) rfl (pa_cons (pv 0) (pa_cons (pv 5) pa_nil))) pa_nil))))))) pss_nil)
  (pss_cons (ps_if (pt_cmpR op_eq (pv 3) pe_int (nomark _)) (pss_one (ps_ret (pe_tup (pa_cons pe_str (pa_cons (pe_cal C__law_claim (hr.mono (by omega)) rfl (pa_cons (pv 0) (pa_cons (pv 1) (pa_cons (pe_op op_sub (pv 2) pe_int) pa_nil)))) pa_nil))))) pss_nil)
  (pss_one (ps_ret (pe_tup (pa_cons (pe_cal C__law_pick (hr.mono (by omega)) rfl (pa_cons (pv 0) (pa_cons (pe_lst (pa_cons pe_str (pa_cons pe_str pa_nil))) pa_nil))) (pa_cons (pe_tupleOf (by rfl) m_tuple (pe_lc (own := [("k", 6)]) rfl sc__law_claim.nd (pi_range1 (by rfl) m_range (pa_cons (pe_cal C__law_draw (hr.mono (by omega)) rfl (pa_cons (pv 0) (pa_cons pe_int pa_nil))) pa_nil)) (blkOk_by (own := [("k", 6)]) (N := n__law_claim) (sc := defScope s__law_claim) (by decide +kernel)) (fun _ _ _ _ _ => (pg_name (i := 6) sc__law_claim.nd rfl (by first | exact .inl rfl | exact .inr rfl))) (fun _ _ _ _ _ => pts_nil) (fun _ _ _ _ _ => (pe_cal C__law_claim (hr.mono (by omega)) rfl (pa_cons (pv 0) (pa_cons (pv 1) (pa_cons (pe_op op_sub (pv 2) pe_int) pa_nil))))))) pa_nil))))))))
theorem ok__law_claim_all {P : Program} {w : World} {K : PySem.W.Frag} {mg : Str → Option Value} {base : Heap} {f : Addr} {fd : FuncData} (F : Fun K "_law_claim" "_law_claim" s__law_claim f fd) (gf : mg "_law_claim" = some (.ref f)) (C__law_draw : Cal P w K mg base "_law_draw" 1 ["bag", "many"] (sp__law_draw K)) (C__law_near : Cal P w K mg base "_law_near" 3 ["bag", "domain"] (sp__law_near K)) (C__law_pick : Cal P w K mg base "_law_pick" 2 ["bag", "some"] (sp__law_pick K)) (m_range : mg "range" = none) (m_tuple : mg "tuple" = none)  : ∀ m, Cal P w K mg base "_law_claim" (4 + m) ["bag", "xs", "deep"] (sp__law_claim K m)
  | 0 => ⟨f, fd, F.ok (k := 3) sc__law_claim len__law_claim (fun cdv A outer s H vs Q E hr h => (no__law_claim h).elim), F.kp, F.binds (fun _ _ _ _ _ _ us hl => match us, hl with | [_, _, _], _ => rfl), gf⟩
  | m + 1 => ok__law_claim_step m F gf C__law_draw C__law_near C__law_pick m_range m_tuple (ok__law_claim_all F gf C__law_draw C__law_near C__law_pick m_range m_tuple m)
theorem ok__law_claim {P : Program} {w : World} {K : PySem.W.Frag} {mg : Str → Option Value} {base : Heap} {f : Addr} {fd : FuncData} (F : Fun K "_law_claim" "_law_claim" s__law_claim f fd) (gf : mg "_law_claim" = some (.ref f)) (C__law_draw : Cal P w K mg base "_law_draw" 1 ["bag", "many"] (sp__law_draw K)) (C__law_near : Cal P w K mg base "_law_near" 3 ["bag", "domain"] (sp__law_near K)) (C__law_pick : Cal P w K mg base "_law_pick" 2 ["bag", "some"] (sp__law_pick K)) (m_range : mg "range" = none) (m_tuple : mg "tuple" = none)  : Cal P w K mg base "_law_claim" 8 ["bag", "xs", "deep"] (sp__law_claim K 4) := ok__law_claim_all F gf C__law_draw C__law_near C__law_pick m_range m_tuple 4
abbrev s__law_right_claim : Stmt := topS 26
abbrev n__law_right_claim : List Str := ["bag", "xs", "claim", "x", "domain"]
theorem sc__law_right_claim : FnScope n__law_right_claim ["bag", "xs"] (defScope s__law_right_claim) := ⟨rfl, rfl, rfl, by decide +kernel, rfl, by decide +kernel, by decide +kernel⟩
theorem ok__law_right_claim {P : Program} {w : World} {K : PySem.W.Frag} {mg : Str → Option Value} {base : Heap} {f : Addr} {fd : FuncData} (F : Fun K "_law_right_claim" "_law_right_claim" s__law_right_claim f fd) (gf : mg "_law_right_claim" = some (.ref f)) (C__law_claim : Cal P w K mg base "_law_claim" 8 ["bag", "xs", "deep"] (sp__law_claim K 4)) (C__law_claim_names : Cal P w K mg base "_law_claim_names" 9 ["claim"] (sp__law_claim_names K 8)) (C__law_draw : Cal P w K mg base "_law_draw" 1 ["bag", "many"] (sp__law_draw K)) (C__law_near : Cal P w K mg base "_law_near" 3 ["bag", "domain"] (sp__law_near K)) (C__law_pick : Cal P w K mg base "_law_pick" 2 ["bag", "some"] (sp__law_pick K))  (m_len : mg "len" = none)  : Cal P w K mg base "_law_right_claim" 10 ["bag", "xs"] (sp__law_right_claim K) := by
  refine ⟨f, fd, F.ok sc__law_right_claim len__law_right_claim (fun cdv A outer s H vs Q E hr h => ⟨t__law_right_claim K, PSs.nox ?_, pure__law_right_claim vs H Q E h⟩), F.kp, F.binds (fun _ _ _ _ _ _ us hl => match us, hl with | [_, _], _ => rfl), gf⟩
  exact (pss_cons (ps_set (i := 2) sc__law_right_claim.nd rfl (by first | exact .inl rfl | exact .inr rfl) (pe_cal C__law_claim (hr.mono (by decide)) rfl (pa_cons (pv 0) (pa_cons (pv 1) (pa_cons (pe_cal C__law_draw (hr.mono (by decide)) rfl (pa_cons (pv 0) (pa_cons pe_int pa_nil))) pa_nil)))))
  (pss_cons (ps_if (pt_cmpR op_eq (pe_callB call_len1 (by rfl) m_len (by decide +kernel) (pa_cons (pe_cal C__law_claim_names (hr.mono (by decide)) rfl (pa_cons (pv 2) pa_nil)) pa_nil)) pe_int (nomark _)) (pss_cons (ps_asg (pe_cal C__law_pick (hr.mono (by decide)) rfl (pa_cons (pv 0) (pa_cons (pv 1) pa_nil))) (pg_tup rfl (pgs_cons (pg_name (i := 3) sc__law_right_claim.nd rfl (by first | exact .inl rfl | exact .inr rfl)) (pgs_cons (pg_name (i := 4) sc__law_right_claim.nd rfl (by first | exact .inl rfl | exact .inr rfl)) pgs_nil))))
  (pss_one (ps_ret (pe_tup (pa_cons (pe_cal C__law_pick (hr.mono (by decide)) rfl (pa_cons (pv 0) (pa_cons (pe_lst (pa_cons pe_str (pa_cons pe_str pa_nil))) pa_nil))) (pa_cons (pe_tup (pa_cons (pv 2) (pa_cons (pe_tup (pa_cons pe_str (pa_cons (pv 3) (pa_cons (pe_cal C__law_near (hr.mono (by decide)) rfl (pa_cons (pv 0) (pa_cons (pv 4) pa_nil))) pa_nil)))) pa_nil))) pa_nil)))))) pss_nil)
  (pss_one (ps_ret (pv 2)))))
abbrev s__law_own : Stmt := topS 28
abbrev n__law_own : List Str := ["saying", "kind", "pair"]
theorem sc__law_own : FnScope n__law_own ["saying"] (defScope s__law_own) := ⟨rfl, rfl, rfl, by decide +kernel, rfl, by decide +kernel, by decide +kernel⟩
theorem ok__law_own_step (m : Nat) {P : Program} {w : World} {K : PySem.W.Frag} {mg : Str → Option Value} {base : Heap} {f : Addr} {fd : FuncData} (F : Fun K "_law_own" "_law_own" s__law_own f fd) (gf : mg "_law_own" = some (.ref f)) (C__law_claim_names : Cal P w K mg base "_law_claim_names" 9 ["claim"] (sp__law_claim_names K 8)) (m_list : mg "list" = none)  (C__law_own : Cal P w K mg base "_law_own" (10 + m) ["saying"] (sp__law_own K m)) : Cal P w K mg base "_law_own" (10 + m + 1) ["saying"] (sp__law_own K (m + 1)) := by
  refine ⟨f, fd, F.ok (k := 10 + m) sc__law_own len__law_own (fun cdv A outer s H vs Q E hr h => ⟨t__law_own K m, PSs.nox ?_, pure__law_own vs H Q E h⟩), F.kp, F.binds (fun _ _ _ _ _ _ us hl => match us, hl with | [_], _ => rfl), gf⟩
  exact (pss_cons (ps_set (i := 1) sc__law_own.nd rfl (by first | exact .inl rfl | exact .inr rfl) (pe_ix ix_tup (pv 0) pe_int (fun _ _ => rfl)))
  (pss_cons (ps_if (pt_cmpR op_in_seq (pv 1) (pe_lst (pa_cons pe_str (pa_cons pe_str pa_nil))) (by rfl)) (pss_one (ps_ret (pe_lc (own := [("pair", 2)]) rfl sc__law_own.nd (pi_tup (pe_ix ix_tup (pv 0) pe_int (fun _ _ => rfl))) (blkOk_by (own := [("pair", 2)]) (N := n__law_own) (sc := defScope s__law_own) (by decide +kernel)) (fun _ _ _ _ _ => (pg_name (i := 2) sc__law_own.nd rfl (by first | exact .inl rfl | exact .inr rfl))) (fun _ _ _ _ _ => pts_nil) (fun _ _ _ _ _ => (pe_ix ix_tup (pv 2) pe_int (fun _ _ => rfl)))))) pss_nil)
  (pss_cons (ps_if (pt_cmpR op_eq (pv 1) pe_str (nomark _)) (pss_one (ps_ret (pe_op op_cat (pe_op op_cat (pe_lst (pa_cons (pe_ix ix_tup (pv 0) pe_int (fun _ _ => rfl)) pa_nil)) (pe_callTy (call_listOfA rfl) (by rfl) m_list (by decide +kernel) (pa_cons (pe_ix ix_tup (pv 0) pe_int (fun _ _ => rfl)) pa_nil))) (pe_lst (pa_cons (pe_ix ix_tup (pv 0) pe_int (fun _ _ => rfl)) pa_nil))))) pss_nil)
  (pss_cons (ps_if (pt_cmpR op_eq (pv 1) pe_str (nomark _)) (pss_one (ps_ret (pe_op op_cat (pe_callTy call_listOf (by rfl) m_list (by decide +kernel) (pa_cons (pe_ix ix_tup (pv 0) pe_int (fun _ _ => rfl)) pa_nil)) (pe_lst (pa_cons (pe_ix ix_tup (pv 0) pe_int (fun _ _ => rfl)) pa_nil))))) pss_nil)
  (pss_cons (ps_if (pt_cmpR op_eq (pv 1) pe_str (nomark _)) (pss_one (ps_ret (pe_callTy call_listOf (by rfl) m_list (by decide +kernel) (pa_cons (pe_slice sl_tupA (pv 0) (po_some pe_int) po_none) pa_nil)))) pss_nil)
  (pss_cons (ps_if (pt_cmpR op_eq (pv 1) pe_str (nomark _)) (pss_one (ps_ret (pe_op op_cat (pe_callTy call_listOf (by rfl) m_list (by decide +kernel) (pa_cons (pe_ix ix_tup (pv 0) pe_int (fun _ _ => rfl)) pa_nil)) (pe_callTy (call_listOfA rfl) (by rfl) m_list (by decide +kernel) (pa_cons (pe_ix ix_tup (pv 0) pe_int (fun _ _ => rfl)) pa_nil))))) pss_nil)
  (pss_cons (ps_if (pt_cmpR op_eq (pv 1) pe_str (nomark _)) (pss_one (ps_ret (pe_cal C__law_claim_names (hr.mono (by omega)) rfl (pa_cons (pe_ix ix_tup (pv 0) pe_int (fun _ _ => rfl)) pa_nil)))) pss_nil)
  (pss_cons (ps_if (pt_cmpR op_eq (pv 1) pe_str (nomark _)) (pss_one (ps_ret (pe_op op_cat (pe_cal C__law_claim_names (hr.mono (by omega)) rfl (pa_cons (pe_ix ix_tup (pv 0) pe_int (fun _ _ => rfl)) pa_nil)) (pe_cal C__law_own (hr.mono (by omega)) rfl (pa_cons (pe_ix ix_tup (pv 0) pe_int (fun _ _ => rfl)) pa_nil))))) pss_nil)
  (pss_one (ps_ret (pe_callTy call_listOf (by rfl) m_list (by decide +kernel) (pa_cons (pe_ix ix_tup (pv 0) pe_int (fun _ _ => rfl)) pa_nil))))))))))))
theorem ok__law_own_all {P : Program} {w : World} {K : PySem.W.Frag} {mg : Str → Option Value} {base : Heap} {f : Addr} {fd : FuncData} (F : Fun K "_law_own" "_law_own" s__law_own f fd) (gf : mg "_law_own" = some (.ref f)) (C__law_claim_names : Cal P w K mg base "_law_claim_names" 9 ["claim"] (sp__law_claim_names K 8)) (m_list : mg "list" = none)  : ∀ m, Cal P w K mg base "_law_own" (10 + m) ["saying"] (sp__law_own K m)
  | 0 => ⟨f, fd, F.ok (k := 9) sc__law_own len__law_own (fun cdv A outer s H vs Q E hr h => (no__law_own h).elim), F.kp, F.binds (fun _ _ _ _ _ _ us hl => match us, hl with | [_], _ => rfl), gf⟩
  | m + 1 => ok__law_own_step m F gf C__law_claim_names m_list (ok__law_own_all F gf C__law_claim_names m_list m)
theorem ok__law_own {P : Program} {w : World} {K : PySem.W.Frag} {mg : Str → Option Value} {base : Heap} {f : Addr} {fd : FuncData} (F : Fun K "_law_own" "_law_own" s__law_own f fd) (gf : mg "_law_own" = some (.ref f)) (C__law_claim_names : Cal P w K mg base "_law_claim_names" 9 ["claim"] (sp__law_claim_names K 8)) (m_list : mg "list" = none)  : Cal P w K mg base "_law_own" 12 ["saying"] (sp__law_own K 2) := ok__law_own_all F gf C__law_claim_names m_list 2
abbrev s__law_ascending : Stmt := topS 29
abbrev n__law_ascending : List Str := ["things", "made", "one"]
theorem sc__law_ascending : FnScope n__law_ascending ["things"] (defScope s__law_ascending) := ⟨rfl, rfl, rfl, by decide +kernel, rfl, by decide +kernel, by decide +kernel⟩
theorem ok__law_ascending {P : Program} {w : World} {K : PySem.W.Frag} {mg : Str → Option Value} {base : Heap} {f : Addr} {fd : FuncData} (F : Fun K "_law_ascending" "_law_ascending" s__law_ascending f fd) (gf : mg "_law_ascending" = some (.ref f))   (m_sorted : mg "sorted" = none) (m_tuple : mg "tuple" = none)  : Cal P w K mg base "_law_ascending" 1 ["things"] (sp__law_ascending K) := by
  refine ⟨f, fd, F.ok sc__law_ascending len__law_ascending (fun cdv A outer s H vs Q E hr h => ⟨t__law_ascending K, PSs.nox ?_, pure__law_ascending vs H Q E h⟩), F.kp, F.binds (fun _ _ _ _ _ _ us hl => match us, hl with | [_], _ => rfl), gf⟩
  exact (pss_cons (ps_set (i := 1) sc__law_ascending.nd rfl (by first | exact .inl rfl | exact .inr rfl) pe_dnewK)
  (pss_cons (ps_for PassesOwn.never rfl (pi_list (pv 0)) (pg_name (i := 2) sc__law_ascending.nd rfl (by first | exact .inl rfl | exact .inr rfl))
  (pss_one (ps_dput (hu_of hr) (pv 1) (pv 2) pe_bl rfl)))
  (pss_one (ps_ret (pe_tupleOf (by rfl) m_tuple (pe_callB (call_sortDIS rfl) (by rfl) m_sorted (by decide +kernel) (pa_cons (pv 1) pa_nil)))))))
abbrev s__law_weight : Stmt := topS 30
abbrev n__law_weight : List Str := ["bag", "size"]
theorem sc__law_weight : FnScope n__law_weight ["bag"] (defScope s__law_weight) := ⟨rfl, rfl, rfl, by decide +kernel, rfl, by decide +kernel, by decide +kernel⟩
theorem ok__law_weight {P : Program} {w : World} {K : PySem.W.Frag} {mg : Str → Option Value} {base : Heap} {f : Addr} {fd : FuncData} (F : Fun K "_law_weight" "_law_weight" s__law_weight f fd) (gf : mg "_law_weight" = some (.ref f)) (C__law_draw : Cal P w K mg base "_law_draw" 1 ["bag", "many"] (sp__law_draw K)) (C__law_pick : Cal P w K mg base "_law_pick" 2 ["bag", "some"] (sp__law_pick K))    : Cal P w K mg base "_law_weight" 3 ["bag"] (sp__law_weight K) := by
  refine ⟨f, fd, F.ok sc__law_weight len__law_weight (fun cdv A outer s H vs Q E hr h => ⟨t__law_weight K, PSs.nox ?_, pure__law_weight vs H Q E h⟩), F.kp, F.binds (fun _ _ _ _ _ _ us hl => match us, hl with | [_], _ => rfl), gf⟩
  exact (pss_cons (ps_set (i := 1) sc__law_weight.nd rfl (by first | exact .inl rfl | exact .inr rfl) (pe_cal C__law_pick (hr.mono (by decide)) rfl (pa_cons (pv 0) (pa_cons (pe_lst (pa_cons pe_int (pa_cons pe_int (pa_cons pe_int (pa_cons pe_int (pa_cons pe_int (pa_cons (pe_op op_add pe_int (pe_cal C__law_draw (hr.mono (by decide)) rfl (pa_cons (pv 0) (pa_cons pe_int pa_nil)))) pa_nil))))))) pa_nil))))
  (pss_one (ps_ret (pe_op op_mul (pv 1) (pe_cal C__law_pick (hr.mono (by decide)) rfl (pa_cons (pv 0) (pa_cons (pe_lst (pa_cons pe_int (pa_cons (pe_un un_neg pe_int) pa_nil))) pa_nil)))))))
abbrev s__law_sum : Stmt := topS 31
abbrev n__law_sum : List Str := ["bag", "xs", "terms", "x", "total", "k"]
theorem sc__law_sum : FnScope n__law_sum ["bag", "xs"] (defScope s__law_sum) := ⟨rfl, rfl, rfl, by decide +kernel, rfl, by decide +kernel, by decide +kernel⟩
theorem ok__law_sum {P : Program} {w : World} {K : PySem.W.Frag} {mg : Str → Option Value} {base : Heap} {f : Addr} {fd : FuncData} (F : Fun K "_law_sum" "_law_sum" s__law_sum f fd) (gf : mg "_law_sum" = some (.ref f)) (C__law_draw : Cal P w K mg base "_law_draw" 1 ["bag", "many"] (sp__law_draw K)) (C__law_pick : Cal P w K mg base "_law_pick" 2 ["bag", "some"] (sp__law_pick K)) (C__law_weight : Cal P w K mg base "_law_weight" 3 ["bag"] (sp__law_weight K))  (m_len : mg "len" = none) (m_range : mg "range" = none) (m_tuple : mg "tuple" = none)  : Cal P w K mg base "_law_sum" 4 ["bag", "xs"] (sp__law_sum K) := by
  refine ⟨f, fd, F.ok sc__law_sum len__law_sum (fun cdv A outer s H vs Q E hr h => ⟨t__law_sum K, PSs.nox ?_, pure__law_sum vs H Q E h⟩), F.kp, F.binds (fun _ _ _ _ _ _ us hl => match us, hl with | [_, _], _ => rfl), gf⟩
  exact (pss_cons (ps_set (i := 2) sc__law_sum.nd rfl (by first | exact .inl rfl | exact .inr rfl) (pe_tupleOf (by rfl) m_tuple (pe_lc (own := [("x", 3)]) rfl sc__law_sum.nd (pi_list (pv 1)) (blkOk_by (own := [("x", 3)]) (N := n__law_sum) (sc := defScope s__law_sum) (by decide +kernel)) (fun _ _ _ _ _ => (pg_name (i := 3) sc__law_sum.nd rfl (by first | exact .inl rfl | exact .inr rfl))) (fun _ _ _ _ _ => pts_nil) (fun _ _ _ _ _ => (pe_tup (pa_cons (pe_ix ix_tup (pv 3) pe_int (fun _ _ => rfl)) (pa_cons (pe_cal C__law_weight (hr.mono (by decide)) rfl (pa_cons (pv 0) pa_nil)) pa_nil)))))))
  (pss_cons (ps_set (i := 4) sc__law_sum.nd rfl (by first | exact .inl rfl | exact .inr rfl) pe_int)
  (pss_cons (ps_for PassesOwn.never rfl (pi_range1 (by rfl) m_range (pa_cons (pe_callB call_len1 (by rfl) m_len (by decide +kernel) (pa_cons (pv 1) pa_nil)) pa_nil)) (pg_name (i := 5) sc__law_sum.nd rfl (by first | exact .inl rfl | exact .inr rfl))
  (pss_one (ps_set (i := 4) sc__law_sum.nd rfl (by first | exact .inl rfl | exact .inr rfl) (pe_op op_add (pv 4) (pe_op op_mul (pe_ix ix_tup (pe_ix ix_tup (pv 2) (pv 5) (fun _ _ => rfl)) pe_int (fun _ _ => rfl)) (pe_cal C__law_pick (hr.mono (by decide)) rfl (pa_cons (pv 0) (pa_cons (pe_ix ix_tup (pe_ix ix_list (pv 1) (pv 5) (fun _ _ => rfl)) pe_int (fun _ _ => rfl)) pa_nil))))))))
  (pss_one (ps_ret (pe_tup (pa_cons (pv 2) (pa_cons (pe_op op_add (pv 4) (pe_cal C__law_pick (hr.mono (by decide)) rfl (pa_cons (pv 0) (pa_cons (pe_lst (pa_cons pe_int (pa_cons pe_int (pa_cons pe_int (pa_cons (pe_un un_neg pe_int) (pa_cons (pe_op op_sub (pe_cal C__law_draw (hr.mono (by decide)) rfl (pa_cons (pv 0) (pa_cons pe_int pa_nil))) pe_int) pa_nil)))))) pa_nil)))) pa_nil))))))))
abbrev s__law_rows : Stmt := topS 32
abbrev n__law_rows : List Str := ["bag", "xs", "made", "k", "x"]
theorem sc__law_rows : FnScope n__law_rows ["bag", "xs"] (defScope s__law_rows) := ⟨rfl, rfl, rfl, by decide +kernel, rfl, by decide +kernel, by decide +kernel⟩
theorem ok__law_rows {P : Program} {w : World} {K : PySem.W.Frag} {mg : Str → Option Value} {base : Heap} {f : Addr} {fd : FuncData} (F : Fun K "_law_rows" "_law_rows" s__law_rows f fd) (gf : mg "_law_rows" = some (.ref f)) (C__law_draw : Cal P w K mg base "_law_draw" 1 ["bag", "many"] (sp__law_draw K)) (C__law_near : Cal P w K mg base "_law_near" 3 ["bag", "domain"] (sp__law_near K)) (C__law_pick : Cal P w K mg base "_law_pick" 2 ["bag", "some"] (sp__law_pick K))  (m_range : mg "range" = none) (m_sorted : mg "sorted" = none) (m_tuple : mg "tuple" = none)  : Cal P w K mg base "_law_rows" 4 ["bag", "xs"] (sp__law_rows K) := by
  refine ⟨f, fd, F.ok sc__law_rows len__law_rows (fun cdv A outer s H vs Q E hr h => ⟨t__law_rows K, PSs.nox ?_, pure__law_rows vs H Q E h⟩), F.kp, F.binds (fun _ _ _ _ _ _ us hl => match us, hl with | [_, _], _ => rfl), gf⟩
  exact (pss_cons (ps_set (i := 2) sc__law_rows.nd rfl (by first | exact .inl rfl | exact .inr rfl) pe_dnewT)
  (pss_cons (ps_for PassesOwn.never rfl (pi_range1 (by rfl) m_range (pa_cons (pe_cal C__law_draw (hr.mono (by decide)) rfl (pa_cons (pv 0) (pa_cons (pe_cal C__law_pick (hr.mono (by decide)) rfl (pa_cons (pv 0) (pa_cons (pe_lst (pa_cons pe_int (pa_cons pe_int (pa_cons pe_int pa_nil)))) pa_nil))) pa_nil))) pa_nil)) (pg_name (i := 3) sc__law_rows.nd rfl (by first | exact .inl rfl | exact .inr rfl))
  (pss_one (ps_dput (hu_of hr) (pv 2) (pe_tupleOf (by rfl) m_tuple (pe_lc (own := [("x", 4)]) rfl sc__law_rows.nd (pi_list (pv 1)) (blkOk_by (own := [("x", 4)]) (N := n__law_rows) (sc := defScope s__law_rows) (by decide +kernel)) (fun _ _ _ _ _ => (pg_name (i := 4) sc__law_rows.nd rfl (by first | exact .inl rfl | exact .inr rfl))) (fun _ _ _ _ _ => pts_nil) (fun _ _ _ _ _ => (pe_cal C__law_near (hr.mono (by decide)) rfl (pa_cons (pv 0) (pa_cons (pe_ix ix_tup (pv 4) pe_int (fun _ _ => rfl)) pa_nil)))))) pe_bl rfl)))
  (pss_one (ps_ret (pe_tupleOf (by rfl) m_tuple (pe_callB (call_sortedDT rfl (units64 hr)) (by rfl) m_sorted (by decide +kernel) (pa_cons (pv 2) pa_nil)))))))
abbrev s__law_machine : Stmt := topS 33
abbrev n__law_machine : List Str := ["bag", "xs", "stands", "k", "moves", "ends", "pair", "x"]
theorem sc__law_machine : FnScope n__law_machine ["bag", "xs"] (defScope s__law_machine) := ⟨rfl, rfl, rfl, by decide +kernel, rfl, by decide +kernel, by decide +kernel⟩
theorem ok__law_machine {P : Program} {w : World} {K : PySem.W.Frag} {mg : Str → Option Value} {base : Heap} {f : Addr} {fd : FuncData} (F : Fun K "_law_machine" "_law_machine" s__law_machine f fd) (gf : mg "_law_machine" = some (.ref f)) (C__law_ascending : Cal P w K mg base "_law_ascending" 1 ["things"] (sp__law_ascending K)) (C__law_draw : Cal P w K mg base "_law_draw" 1 ["bag", "many"] (sp__law_draw K)) (C__law_near : Cal P w K mg base "_law_near" 3 ["bag", "domain"] (sp__law_near K)) (C__law_pick : Cal P w K mg base "_law_pick" 2 ["bag", "some"] (sp__law_pick K)) (C__law_some : Cal P w K mg base "_law_some" 2 ["bag", "things", "many"] (sp__law_some K))  (m_len : mg "len" = none) (m_range : mg "range" = none) (m_sorted : mg "sorted" = none) (m_tuple : mg "tuple" = none)  : Cal P w K mg base "_law_machine" 4 ["bag", "xs"] (sp__law_machine K) := by
  refine ⟨f, fd, F.ok sc__law_machine len__law_machine (fun cdv A outer s H vs Q E hr h => ⟨t__law_machine K, PSs.nox ?_, pure__law_machine vs H Q E h⟩), F.kp, F.binds (fun _ _ _ _ _ _ us hl => match us, hl with | [_, _], _ => rfl), gf⟩
  exact (pss_cons (ps_set (i := 2) sc__law_machine.nd rfl (by first | exact .inl rfl | exact .inr rfl) (pe_op op_cat (pe_lst (pa_cons (pe_cal C__law_draw (hr.mono (by decide)) rfl (pa_cons (pv 0) (pa_cons pe_int pa_nil))) (pa_cons (pe_op op_add pe_int (pe_cal C__law_draw (hr.mono (by decide)) rfl (pa_cons (pv 0) (pa_cons pe_int pa_nil)))) pa_nil))) (pe_lc (own := [("k", 3)]) rfl sc__law_machine.nd (pi_range1 (by rfl) m_range (pa_cons (pe_cal C__law_draw (hr.mono (by decide)) rfl (pa_cons (pv 0) (pa_cons pe_int pa_nil))) pa_nil)) (blkOk_by (own := [("k", 3)]) (N := n__law_machine) (sc := defScope s__law_machine) (by decide +kernel)) (fun _ _ _ _ _ => (pg_name (i := 3) sc__law_machine.nd rfl (by first | exact .inl rfl | exact .inr rfl))) (fun _ _ _ _ _ => pts_nil) (fun _ _ _ _ _ => (pe_cal C__law_draw (hr.mono (by decide)) rfl (pa_cons (pv 0) (pa_cons pe_int pa_nil)))))))
  (pss_cons (ps_set (i := 4) sc__law_machine.nd rfl (by first | exact .inl rfl | exact .inr rfl) pe_dnewT)
  (pss_cons (ps_for PassesOwn.never rfl (pi_range1 (by rfl) m_range (pa_cons (pe_cal C__law_draw (hr.mono (by decide)) rfl (pa_cons (pv 0) (pa_cons (pe_cal C__law_pick (hr.mono (by decide)) rfl (pa_cons (pv 0) (pa_cons (pe_lst (pa_cons pe_int (pa_cons pe_int (pa_cons pe_int pa_nil)))) pa_nil))) pa_nil))) pa_nil)) (pg_name (i := 3) sc__law_machine.nd rfl (by first | exact .inl rfl | exact .inr rfl))
  (pss_one (ps_dput (hu_of hr) (pv 4) (pe_tup (pa_cons (pe_cal C__law_pick (hr.mono (by decide)) rfl (pa_cons (pv 0) (pa_cons (pv 2) pa_nil))) (pa_cons (pe_cal C__law_near (hr.mono (by decide)) rfl (pa_cons (pv 0) (pa_cons (pe_ix ix_tup (pe_cal C__law_pick (hr.mono (by decide)) rfl (pa_cons (pv 0) (pa_cons (pv 1) pa_nil))) pe_int (fun _ _ => rfl)) pa_nil))) pa_nil))) (pe_cal C__law_pick (hr.mono (by decide)) rfl (pa_cons (pv 0) (pa_cons (pv 2) pa_nil))) rfl)))
  (pss_cons (ps_set (i := 5) sc__law_machine.nd rfl (by first | exact .inl rfl | exact .inr rfl) (pe_cal C__law_ascending (hr.mono (by decide)) rfl (pa_cons (pe_op op_cat (pe_cal C__law_some (hr.mono (by decide)) rfl (pa_cons (pv 0) (pa_cons (pv 2) (pa_cons (pe_op op_add pe_int (pe_cal C__law_draw (hr.mono (by decide)) rfl (pa_cons (pv 0) (pa_cons (pe_callB call_len1 (by rfl) m_len (by decide +kernel) (pa_cons (pv 2) pa_nil)) pa_nil)))) pa_nil)))) (pe_lst (pa_cons (pe_cal C__law_draw (hr.mono (by decide)) rfl (pa_cons (pv 0) (pa_cons pe_int pa_nil))) pa_nil))) pa_nil)))
  (pss_cons (ps_set (i := 4) sc__law_machine.nd rfl (by first | exact .inl rfl | exact .inr rfl) (pe_tupleOf (by rfl) m_tuple (pe_lc (own := [("pair", 6)]) rfl sc__law_machine.nd (pi_list (pe_callB (call_sortedDT rfl (units64 hr)) (by rfl) m_sorted (by decide +kernel) (pa_cons (pv 4) pa_nil))) (blkOk_by (own := [("pair", 6)]) (N := n__law_machine) (sc := defScope s__law_machine) (by decide +kernel)) (fun _ _ _ _ _ => (pg_name (i := 6) sc__law_machine.nd rfl (by first | exact .inl rfl | exact .inr rfl))) (fun _ _ _ _ _ => pts_nil) (fun _ _ _ _ _ => (pe_tup (pa_cons (pe_ix ix_tup (pv 6) pe_int (fun _ _ => rfl)) (pa_cons (pe_ix ix_tup (pv 6) pe_int (fun _ _ => rfl)) (pa_cons (pe_dget (hu_of hr) (pv 4) (pv 6) (fun _ _ => rfl)) pa_nil))))))))
  (pss_one (ps_ret (pe_tup (pa_cons pe_str (pa_cons (pe_tupleOf (by rfl) m_tuple (pe_lc (own := [("x", 7)]) rfl sc__law_machine.nd (pi_list (pv 1)) (blkOk_by (own := [("x", 7)]) (N := n__law_machine) (sc := defScope s__law_machine) (by decide +kernel)) (fun _ _ _ _ _ => (pg_name (i := 7) sc__law_machine.nd rfl (by first | exact .inl rfl | exact .inr rfl))) (fun _ _ _ _ _ => pts_nil) (fun _ _ _ _ _ => (pe_ix ix_tup (pv 7) pe_int (fun _ _ => rfl))))) (pa_cons (pe_cal C__law_pick (hr.mono (by decide)) rfl (pa_cons (pv 0) (pa_cons (pv 2) pa_nil))) (pa_cons (pv 4) (pa_cons (pe_ifExp (pt_cmpR op_gt (pe_cal C__law_draw (hr.mono (by decide)) rfl (pa_cons (pv 0) (pa_cons pe_int pa_nil))) pe_int (nomark _)) (pv 5) (pe_tup pa_nil)) pa_nil)))))))))))))
abbrev s__law_counted : Stmt := topS 34
abbrev n__law_counted : List Str := ["bag", "xs", "triples", "k", "low", "x", "v"]
theorem sc__law_counted : FnScope n__law_counted ["bag", "xs"] (defScope s__law_counted) := ⟨rfl, rfl, rfl, by decide +kernel, rfl, by decide +kernel, by decide +kernel⟩
theorem ok__law_counted {P : Program} {w : World} {K : PySem.W.Frag} {mg : Str → Option Value} {base : Heap} {f : Addr} {fd : FuncData} (F : Fun K "_law_counted" "_law_counted" s__law_counted f fd) (gf : mg "_law_counted" = some (.ref f)) (C__law_draw : Cal P w K mg base "_law_draw" 1 ["bag", "many"] (sp__law_draw K)) (C__law_near : Cal P w K mg base "_law_near" 3 ["bag", "domain"] (sp__law_near K)) (C__law_pick : Cal P w K mg base "_law_pick" 2 ["bag", "some"] (sp__law_pick K))  (m_min : mg "min" = none) (m_range : mg "range" = none) (m_sorted : mg "sorted" = none) (m_tuple : mg "tuple" = none)  : Cal P w K mg base "_law_counted" 4 ["bag", "xs"] (sp__law_counted K) := by
  refine ⟨f, fd, F.ok sc__law_counted len__law_counted (fun cdv A outer s H vs Q E hr h => ⟨t__law_counted K, PSs.nox ?_, pure__law_counted vs H Q E h⟩), F.kp, F.binds (fun _ _ _ _ _ _ us hl => match us, hl with | [_, _], _ => rfl), gf⟩
  exact (pss_cons (ps_set (i := 2) sc__law_counted.nd rfl (by first | exact .inl rfl | exact .inr rfl) pe_dnewK)
  (pss_cons (ps_for PassesOwn.never rfl (pi_range1 (by rfl) m_range (pa_cons (pe_op op_add pe_int (pe_cal C__law_draw (hr.mono (by decide)) rfl (pa_cons (pv 0) (pa_cons (pe_cal C__law_pick (hr.mono (by decide)) rfl (pa_cons (pv 0) (pa_cons (pe_lst (pa_cons pe_int (pa_cons pe_int (pa_cons pe_int pa_nil)))) pa_nil))) pa_nil)))) pa_nil)) (pg_name (i := 3) sc__law_counted.nd rfl (by first | exact .inl rfl | exact .inr rfl))
  (pss_cons (ps_set (i := 4) sc__law_counted.nd rfl (by first | exact .inl rfl | exact .inr rfl) (pe_cal C__law_draw (hr.mono (by decide)) rfl (pa_cons (pv 0) (pa_cons pe_int pa_nil))))
  (pss_one (ps_dput (hu_of hr) (pv 2) (pe_cal C__law_near (hr.mono (by decide)) rfl (pa_cons (pv 0) (pa_cons (pe_ix ix_tup (pe_cal C__law_pick (hr.mono (by decide)) rfl (pa_cons (pv 0) (pa_cons (pv 1) pa_nil))) pe_int (fun _ _ => rfl)) pa_nil))) (pe_tup (pa_cons (pv 4) (pa_cons (pe_callB (call_min2 rfl) (by rfl) m_min (by decide +kernel) (pa_cons pe_int (pa_cons (pe_op op_add (pv 4) (pe_cal C__law_pick (hr.mono (by decide)) rfl (pa_cons (pv 0) (pa_cons (pe_lst (pa_cons pe_int (pa_cons pe_int (pa_cons pe_int (pa_cons pe_int pa_nil))))) pa_nil)))) pa_nil))) pa_nil))) rfl))))
  (pss_one (ps_ret (pe_tup (pa_cons pe_str (pa_cons (pe_tupleOf (by rfl) m_tuple (pe_lc (own := [("x", 5)]) rfl sc__law_counted.nd (pi_list (pv 1)) (blkOk_by (own := [("x", 5)]) (N := n__law_counted) (sc := defScope s__law_counted) (by decide +kernel)) (fun _ _ _ _ _ => (pg_name (i := 5) sc__law_counted.nd rfl (by first | exact .inl rfl | exact .inr rfl))) (fun _ _ _ _ _ => pts_nil) (fun _ _ _ _ _ => (pe_ix ix_tup (pv 5) pe_int (fun _ _ => rfl))))) (pa_cons (pe_tupleOf (by rfl) m_tuple (pe_lc (own := [("v", 6)]) rfl sc__law_counted.nd (pi_list (pe_callB (call_sortedDI rfl) (by rfl) m_sorted (by decide +kernel) (pa_cons (pv 2) pa_nil))) (blkOk_by (own := [("v", 6)]) (N := n__law_counted) (sc := defScope s__law_counted) (by decide +kernel)) (fun _ _ _ _ _ => (pg_name (i := 6) sc__law_counted.nd rfl (by first | exact .inl rfl | exact .inr rfl))) (fun _ _ _ _ _ => pts_nil) (fun _ _ _ _ _ => (pe_op op_catA (pe_tup (pa_cons (pv 6) pa_nil)) (pe_dget (hu_of hr) (pv 2) (pv 6) (fun _ _ => rfl)))))) pa_nil))))))))
abbrev s__law_works : Stmt := topS 35
abbrev n__law_works : List Str := ["bag", "xs", "lengths", "x", "needs", "room"]
theorem sc__law_works : FnScope n__law_works ["bag", "xs"] (defScope s__law_works) := ⟨rfl, rfl, rfl, by decide +kernel, rfl, by decide +kernel, by decide +kernel⟩
theorem ok__law_works {P : Program} {w : World} {K : PySem.W.Frag} {mg : Str → Option Value} {base : Heap} {f : Addr} {fd : FuncData} (F : Fun K "_law_works" "_law_works" s__law_works f fd) (gf : mg "_law_works" = some (.ref f)) (C__law_draw : Cal P w K mg base "_law_draw" 1 ["bag", "many"] (sp__law_draw K)) (C__law_pick : Cal P w K mg base "_law_pick" 2 ["bag", "some"] (sp__law_pick K))  (m_max : mg "max" = none) (m_sum : mg "sum" = none) (m_tuple : mg "tuple" = none)  : Cal P w K mg base "_law_works" 3 ["bag", "xs"] (sp__law_works K) := by
  refine ⟨f, fd, F.ok sc__law_works len__law_works (fun cdv A outer s H vs Q E hr h => ⟨t__law_works K, PSs.nox ?_, pure__law_works vs H Q E h⟩), F.kp, F.binds (fun _ _ _ _ _ _ us hl => match us, hl with | [_, _], _ => rfl), gf⟩
  exact (pss_cons (ps_set (i := 2) sc__law_works.nd rfl (by first | exact .inl rfl | exact .inr rfl) (pe_tupleOf (by rfl) m_tuple (pe_lc (own := [("x", 3)]) rfl sc__law_works.nd (pi_list (pv 1)) (blkOk_by (own := [("x", 3)]) (N := n__law_works) (sc := defScope s__law_works) (by decide +kernel)) (fun _ _ _ _ _ => (pg_name (i := 3) sc__law_works.nd rfl (by first | exact .inl rfl | exact .inr rfl))) (fun _ _ _ _ _ => pts_nil) (fun _ _ _ _ _ => (pe_cal C__law_pick (hr.mono (by decide)) rfl (pa_cons (pv 0) (pa_cons (pe_lst (pa_cons pe_int (pa_cons pe_int (pa_cons pe_int (pa_cons (pe_op op_add pe_int (pe_cal C__law_draw (hr.mono (by decide)) rfl (pa_cons (pv 0) (pa_cons pe_int pa_nil)))) pa_nil))))) pa_nil)))))))
  (pss_cons (ps_set (i := 4) sc__law_works.nd rfl (by first | exact .inl rfl | exact .inr rfl) (pe_tupleOf (by rfl) m_tuple (pe_lc (own := [("x", 3)]) rfl sc__law_works.nd (pi_list (pv 1)) (blkOk_by (own := [("x", 3)]) (N := n__law_works) (sc := defScope s__law_works) (by decide +kernel)) (fun _ _ _ _ _ => (pg_name (i := 3) sc__law_works.nd rfl (by first | exact .inl rfl | exact .inr rfl))) (fun _ _ _ _ _ => pts_nil) (fun _ _ _ _ _ => (pe_cal C__law_pick (hr.mono (by decide)) rfl (pa_cons (pv 0) (pa_cons (pe_lst (pa_cons pe_int (pa_cons pe_int (pa_cons pe_int (pa_cons pe_int (pa_cons (pe_cal C__law_draw (hr.mono (by decide)) rfl (pa_cons (pv 0) (pa_cons pe_int pa_nil))) pa_nil)))))) pa_nil)))))))
  (pss_cons (ps_set (i := 5) sc__law_works.nd rfl (by first | exact .inl rfl | exact .inr rfl) (pe_cal C__law_pick (hr.mono (by decide)) rfl (pa_cons (pv 0) (pa_cons (pe_lst (pa_cons (pe_callB (call_maxT rfl (units64 hr)) (by rfl) m_max (by decide +kernel) (pa_cons (pv 4) pa_nil)) (pa_cons (pe_callB (call_sumT rfl) (by rfl) m_sum (by decide +kernel) (pa_cons (pv 4) pa_nil)) (pa_cons (pe_callB (call_max2 rfl) (by rfl) m_max (by decide +kernel) (pa_cons pe_int (pa_cons (pe_op op_sub (pe_callB (call_sumT rfl) (by rfl) m_sum (by decide +kernel) (pa_cons (pv 4) pa_nil)) pe_int) pa_nil))) (pa_cons (pe_cal C__law_draw (hr.mono (by decide)) rfl (pa_cons (pv 0) (pa_cons pe_int pa_nil))) (pa_cons (pe_cal C__law_draw (hr.mono (by decide)) rfl (pa_cons (pv 0) (pa_cons pe_int pa_nil))) pa_nil)))))) pa_nil))))
  (pss_one (ps_ret (pe_tup (pa_cons pe_str (pa_cons (pe_tupleOf (by rfl) m_tuple (pe_lc (own := [("x", 3)]) rfl sc__law_works.nd (pi_list (pv 1)) (blkOk_by (own := [("x", 3)]) (N := n__law_works) (sc := defScope s__law_works) (by decide +kernel)) (fun _ _ _ _ _ => (pg_name (i := 3) sc__law_works.nd rfl (by first | exact .inl rfl | exact .inr rfl))) (fun _ _ _ _ _ => pts_nil) (fun _ _ _ _ _ => (pe_ix ix_tup (pv 3) pe_int (fun _ _ => rfl))))) (pa_cons (pv 2) (pa_cons (pv 4) (pa_cons (pv 5) pa_nil)))))))))))
abbrev s__law_inner : Stmt := topS 36
abbrev n__law_inner : List Str := ["bag", "xs", "kind", "many", "some", "names", "x", "half", "terms", "total"]
theorem sc__law_inner : FnScope n__law_inner ["bag", "xs", "kind"] (defScope s__law_inner) := ⟨rfl, rfl, rfl, by decide +kernel, rfl, by decide +kernel, by decide +kernel⟩
theorem ok__law_inner {P : Program} {w : World} {K : PySem.W.Frag} {mg : Str → Option Value} {base : Heap} {f : Addr} {fd : FuncData} (F : Fun K "_law_inner" "_law_inner" s__law_inner f fd) (gf : mg "_law_inner" = some (.ref f)) (C__law_counted : Cal P w K mg base "_law_counted" 4 ["bag", "xs"] (sp__law_counted K)) (C__law_draw : Cal P w K mg base "_law_draw" 1 ["bag", "many"] (sp__law_draw K)) (C__law_lot : Cal P w K mg base "_law_lot" 3 ["bag", "xs", "most"] (sp__law_lot K)) (C__law_machine : Cal P w K mg base "_law_machine" 4 ["bag", "xs"] (sp__law_machine K)) (C__law_rows : Cal P w K mg base "_law_rows" 4 ["bag", "xs"] (sp__law_rows K)) (C__law_some : Cal P w K mg base "_law_some" 2 ["bag", "things", "many"] (sp__law_some K)) (C__law_sum : Cal P w K mg base "_law_sum" 4 ["bag", "xs"] (sp__law_sum K)) (C__law_works : Cal P w K mg base "_law_works" 3 ["bag", "xs"] (sp__law_works K))  (m_len : mg "len" = none) (m_min : mg "min" = none) (m_tuple : mg "tuple" = none)  : Cal P w K mg base "_law_inner" 5 ["bag", "xs", "kind"] (sp__law_inner K) := by
  refine ⟨f, fd, F.ok sc__law_inner len__law_inner (fun cdv A outer s H vs Q E hr h => ⟨t__law_inner K, PSs.nox ?_, pure__law_inner vs H Q E h⟩), F.kp, F.binds (fun _ _ _ _ _ _ us hl => match us, hl with | [_, _, _], _ => rfl), gf⟩
  exact (pss_cons (ps_set (i := 3) sc__law_inner.nd rfl (by first | exact .inl rfl | exact .inr rfl) (pe_callB call_len1 (by rfl) m_len (by decide +kernel) (pa_cons (pv 1) pa_nil)))
  (pss_cons (ps_set (i := 4) sc__law_inner.nd rfl (by first | exact .inl rfl | exact .inr rfl) (pe_cal C__law_some (hr.mono (by decide)) rfl (pa_cons (pv 0) (pa_cons (pv 1) (pa_cons (pe_op op_add pe_int (pe_cal C__law_draw (hr.mono (by decide)) rfl (pa_cons (pv 0) (pa_cons (pv 3) pa_nil)))) pa_nil)))))
  (pss_cons (ps_set (i := 5) sc__law_inner.nd rfl (by first | exact .inl rfl | exact .inr rfl) (pe_tupleOf (by rfl) m_tuple (pe_lc (own := [("x", 6)]) rfl sc__law_inner.nd (pi_list (pv 4)) (blkOk_by (own := [("x", 6)]) (N := n__law_inner) (sc := defScope s__law_inner) (by decide +kernel)) (fun _ _ _ _ _ => (pg_name (i := 6) sc__law_inner.nd rfl (by first | exact .inl rfl | exact .inr rfl))) (fun _ _ _ _ _ => pts_nil) (fun _ _ _ _ _ => (pe_ix ix_tup (pv 6) pe_int (fun _ _ => rfl))))))
  (pss_cons (ps_if (PW.pt (pw_or (pt_cmpR op_eq (pv 2) pe_str (nomark _)) (pw_or1 (pt_cmpR op_eq (pv 2) pe_str (nomark _))))) (pss_one (ps_ret (pe_tup (pa_cons (pv 2) (pa_cons (pv 5) pa_nil))))) pss_nil)
  (pss_cons (ps_if (pt_cmpR op_eq (pv 2) pe_str (nomark _)) (pss_one (ps_ret (pe_cal C__law_counted (hr.mono (by decide)) rfl (pa_cons (pv 0) (pa_cons (pv 4) pa_nil))))) pss_nil)
  (pss_cons (ps_if (pt_cmpR op_eq (pv 2) pe_str (nomark _)) (pss_one (ps_ret (pe_cal C__law_machine (hr.mono (by decide)) rfl (pa_cons (pv 0) (pa_cons (pv 4) pa_nil))))) pss_nil)
  (pss_cons (ps_if (pt_cmpR op_eq (pv 2) pe_str (nomark _)) (pss_one (ps_ret (pe_cal C__law_works (hr.mono (by decide)) rfl (pa_cons (pv 0) (pa_cons (pv 4) pa_nil))))) pss_nil)
  (pss_cons (ps_if (pt_cmpR op_in_seq (pv 2) (pe_lst (pa_cons pe_str (pa_cons pe_str pa_nil))) (by rfl)) (pss_cons (ps_set (i := 4) sc__law_inner.nd rfl (by first | exact .inl rfl | exact .inr rfl) (pe_cal C__law_lot (hr.mono (by decide)) rfl (pa_cons (pv 0) (pa_cons (pv 1) (pa_cons (pe_ifExp (pt_cmpR op_eq (pv 2) pe_str (nomark _)) pe_int pe_int) pa_nil)))))
  (pss_one (ps_set (i := 5) sc__law_inner.nd rfl (by first | exact .inl rfl | exact .inr rfl) (pe_tupleOf (by rfl) m_tuple (pe_lc (own := [("x", 6)]) rfl sc__law_inner.nd (pi_list (pv 4)) (blkOk_by (own := [("x", 6)]) (N := n__law_inner) (sc := defScope s__law_inner) (by decide +kernel)) (fun _ _ _ _ _ => (pg_name (i := 6) sc__law_inner.nd rfl (by first | exact .inl rfl | exact .inr rfl))) (fun _ _ _ _ _ => pts_nil) (fun _ _ _ _ _ => (pe_ix ix_tup (pv 6) pe_int (fun _ _ => rfl)))))))) pss_nil)
  (pss_cons (ps_if (pt_cmpR op_in_seq (pv 2) (pe_lst (pa_cons pe_str (pa_cons pe_str pa_nil))) (by rfl)) (pss_one (ps_ret (pe_tup (pa_cons (pv 2) (pa_cons (pe_slice sl_tupA (pv 5) po_none (po_some pe_int)) (pa_cons (pe_cal C__law_rows (hr.mono (by decide)) rfl (pa_cons (pv 0) (pa_cons (pe_slice sl_list (pv 4) po_none (po_some pe_int)) pa_nil))) pa_nil)))))) pss_nil)
  (pss_cons (ps_if (PW.pt (pw_and (pt_cmpR op_eq (pv 2) pe_str (nomark _)) (pw_and1 (pt_cmpR op_eq (pe_callB call_len1 (by rfl) m_len (by decide +kernel) (pa_cons (pv 5) pa_nil)) pe_int (nomark _))))) (pss_one (ps_ret (pe_tup (pa_cons (pv 2) (pa_cons (pe_ix ix_tup (pv 5) pe_int (fun _ _ => rfl)) (pa_cons (pe_ix ix_tup (pv 5) pe_int (fun _ _ => rfl)) (pa_cons (pe_ix ix_tup (pv 5) pe_int (fun _ _ => rfl)) pa_nil))))))) pss_nil)
  (pss_cons (ps_if (PW.pt (pw_and (pt_cmpR op_eq (pv 2) pe_str (nomark _)) (pw_and1 (pt_cmpR op_gt (pv 3) pe_int (nomark _))))) (pss_cons (ps_set (i := 4) sc__law_inner.nd rfl (by first | exact .inl rfl | exact .inr rfl) (pe_cal C__law_some (hr.mono (by decide)) rfl (pa_cons (pv 0) (pa_cons (pe_lc (own := [("x", 6)]) rfl sc__law_inner.nd (pi_list (pv 1)) (blkOk_by (own := [("x", 6)]) (N := n__law_inner) (sc := defScope s__law_inner) (by decide +kernel)) (fun _ _ _ _ _ => (pg_name (i := 6) sc__law_inner.nd rfl (by first | exact .inl rfl | exact .inr rfl))) (fun _ _ _ _ _ => pts_nil) (fun _ _ _ _ _ => (pe_ix ix_tup (pv 6) pe_int (fun _ _ => rfl)))) (pa_cons (pe_op op_add pe_int (pe_cal C__law_draw (hr.mono (by decide)) rfl (pa_cons (pv 0) (pa_cons (pe_op op_sub (pv 3) pe_int) pa_nil)))) pa_nil)))))
  (pss_one (ps_ret (pe_tup (pa_cons (pv 2) (pa_cons (pe_tupleOf (by rfl) m_tuple (pe_slice sl_list (pv 4) (po_some pe_int) po_none)) (pa_cons (pe_ix ix_list (pv 4) pe_int (fun _ _ => rfl)) pa_nil))))))) pss_nil)
  (pss_cons (ps_if (PW.pt (pw_and (pt_cmpR op_eq (pv 2) pe_str (nomark _)) (pw_and1 (pt_cmpR op_gt (pv 3) pe_int (nomark _))))) (pss_cons (ps_set (i := 4) sc__law_inner.nd rfl (by first | exact .inl rfl | exact .inr rfl) (pe_cal C__law_some (hr.mono (by decide)) rfl (pa_cons (pv 0) (pa_cons (pe_lc (own := [("x", 6)]) rfl sc__law_inner.nd (pi_list (pv 1)) (blkOk_by (own := [("x", 6)]) (N := n__law_inner) (sc := defScope s__law_inner) (by decide +kernel)) (fun _ _ _ _ _ => (pg_name (i := 6) sc__law_inner.nd rfl (by first | exact .inl rfl | exact .inr rfl))) (fun _ _ _ _ _ => pts_nil) (fun _ _ _ _ _ => (pe_ix ix_tup (pv 6) pe_int (fun _ _ => rfl)))) (pa_cons (pe_op op_add pe_int (pe_cal C__law_draw (hr.mono (by decide)) rfl (pa_cons (pv 0) (pa_cons (pe_op op_sub (pv 3) pe_int) pa_nil)))) pa_nil)))))
  (pss_one (ps_ret (pe_tup (pa_cons (pv 2) (pa_cons (pe_ix ix_list (pv 4) pe_int (fun _ _ => rfl)) (pa_cons (pe_tupleOf (by rfl) m_tuple (pe_slice sl_list (pv 4) (po_some pe_int) po_none)) (pa_cons (pe_ix ix_list (pv 4) pe_int (fun _ _ => rfl)) pa_nil)))))))) pss_nil)
  (pss_cons (ps_if (PW.pt (pw_and (pt_cmpR op_eq (pv 2) pe_str (nomark _)) (pw_and1 (pt_cmpR op_gt (pv 3) pe_int (nomark _))))) (pss_cons (ps_set (i := 7) sc__law_inner.nd rfl (by first | exact .inl rfl | exact .inr rfl) (pe_op op_add pe_int (pe_cal C__law_draw (hr.mono (by decide)) rfl (pa_cons (pv 0) (pa_cons (pe_callB (call_min2 rfl) (by rfl) m_min (by decide +kernel) (pa_cons pe_int (pa_cons (pe_op op_fdiv (pv 3) pe_int) pa_nil))) pa_nil)))))
  (pss_cons (ps_setLc (i := 4) (own := [("x", 6)]) rfl sc__law_inner.nd rfl rfl (sw_true rfl rfl rfl (by decide +kernel)) (pi_list (pe_cal C__law_some (hr.mono (by decide)) rfl (pa_cons (pv 0) (pa_cons (pv 1) (pa_cons (pe_op op_mul pe_int (pv 7)) pa_nil))))) (blkOk_by (own := [("x", 6)]) (N := n__law_inner) (sc := defScope s__law_inner) (by decide +kernel)) (fun _ _ _ _ _ => (pg_name (i := 6) sc__law_inner.nd rfl (by first | exact .inl rfl | exact .inr rfl))) (fun _ _ _ _ _ => pts_nil) (fun _ _ _ _ _ => (pe_ix ix_tup (pv 6) pe_int (fun _ _ => rfl))))
  (pss_one (ps_ret (pe_tup (pa_cons (pv 2) (pa_cons (pe_tupleOf (by rfl) m_tuple (pe_slice sl_list (pv 4) po_none (po_some (pv 7)))) (pa_cons (pe_tupleOf (by rfl) m_tuple (pe_slice sl_list (pv 4) (po_some (pv 7)) po_none)) pa_nil)))))))) pss_nil)
  (pss_cons (ps_asg (pe_cal C__law_sum (hr.mono (by decide)) rfl (pa_cons (pv 0) (pa_cons (pv 4) pa_nil))) (pg_tup rfl (pgs_cons (pg_name (i := 8) sc__law_inner.nd rfl (by first | exact .inl rfl | exact .inr rfl)) (pgs_cons (pg_name (i := 9) sc__law_inner.nd rfl (by first | exact .inl rfl | exact .inr rfl)) pgs_nil))))
  (pss_one (ps_ret (pe_tup (pa_cons (pe_ifExp (pt_cmpR op_eq (pv 2) pe_str (nomark _)) pe_str pe_str) (pa_cons (pv 8) (pa_cons (pv 9) pa_nil))))))))))))))))))))
abbrev s__law_apart : Stmt := topS 37
abbrev n__law_apart : List Str := ["bag", "xs", "some"]
theorem sc__law_apart : FnScope n__law_apart ["bag", "xs"] (defScope s__law_apart) := ⟨rfl, rfl, rfl, by decide +kernel, rfl, by decide +kernel, by decide +kernel⟩
theorem ok__law_apart {P : Program} {w : World} {K : PySem.W.Frag} {mg : Str → Option Value} {base : Heap} {f : Addr} {fd : FuncData} (F : Fun K "_law_apart" "_law_apart" s__law_apart f fd) (gf : mg "_law_apart" = some (.ref f)) (C__law_right_claim : Cal P w K mg base "_law_right_claim" 10 ["bag", "xs"] (sp__law_right_claim K)) (C__law_some : Cal P w K mg base "_law_some" 2 ["bag", "things", "many"] (sp__law_some K))    : Cal P w K mg base "_law_apart" 11 ["bag", "xs"] (sp__law_apart K) := by
  refine ⟨f, fd, F.ok sc__law_apart len__law_apart (fun cdv A outer s H vs Q E hr h => ⟨t__law_apart K, PSs.nox ?_, pure__law_apart vs H Q E h⟩), F.kp, F.binds (fun _ _ _ _ _ _ us hl => match us, hl with | [_, _], _ => rfl), gf⟩
  exact (pss_cons (ps_set (i := 2) sc__law_apart.nd rfl (by first | exact .inl rfl | exact .inr rfl) (pe_cal C__law_some (hr.mono (by decide)) rfl (pa_cons (pv 0) (pa_cons (pv 1) (pa_cons pe_int pa_nil)))))
  (pss_one (ps_ret (pe_tup (pa_cons pe_str (pa_cons (pe_cal C__law_right_claim (hr.mono (by decide)) rfl (pa_cons (pv 0) (pa_cons (pe_slice sl_list (pv 2) po_none (po_some pe_int)) pa_nil))) (pa_cons (pe_tup (pa_cons pe_str (pa_cons (pe_cal C__law_right_claim (hr.mono (by decide)) rfl (pa_cons (pv 0) (pa_cons (pe_slice sl_list (pv 2) (po_some pe_int) po_none) pa_nil))) pa_nil))) pa_nil)))))))
abbrev s__law_kinds : Stmt := topS 39
abbrev n__law_kinds : List Str := ["kinds"]
theorem sc__law_kinds : FnScope n__law_kinds [] (defScope s__law_kinds) := ⟨rfl, rfl, rfl, by decide +kernel, rfl, by decide +kernel, by decide +kernel⟩
theorem ok__law_kinds {P : Program} {w : World} {K : PySem.W.Frag} {mg : Str → Option Value} {base : Heap} {f : Addr} {fd : FuncData} (F : Fun K "_law_kinds" "_law_kinds" s__law_kinds f fd) (gf : mg "_law_kinds" = some (.ref f))     : Cal P w K mg base "_law_kinds" 1 [] (sp__law_kinds K) := by
  refine ⟨f, fd, F.ok sc__law_kinds len__law_kinds (fun cdv A outer s H vs Q E hr h => ⟨t__law_kinds , PSs.nox ?_, pure__law_kinds vs H Q E h⟩), F.kp, F.binds (fun _ _ _ _ _ _ us hl => match us, hl with | [], _ => rfl), gf⟩
  exact (pss_cons (ps_set (i := 0) sc__law_kinds.nd rfl (by first | exact .inl rfl | exact .inr rfl) (pe_lst (pa_cons pe_str (pa_cons pe_str (pa_cons pe_str (pa_cons pe_str (pa_cons pe_str (pa_cons pe_str (pa_cons pe_str (pa_cons pe_str (pa_cons pe_str (pa_cons pe_str (pa_cons pe_str (pa_cons pe_str (pa_cons pe_str pa_nil)))))))))))))))
  (pss_one (ps_ret (pe_op op_cat (pv 0) (pe_lst (pa_cons pe_str (pa_cons pe_str pa_nil)))))))
abbrev s__law_saying : Stmt := topS 38
abbrev n__law_saying : List Str := ["bag", "xs", "kind", "inner"]
theorem sc__law_saying : FnScope n__law_saying ["bag", "xs", "kind"] (defScope s__law_saying) := ⟨rfl, rfl, rfl, by decide +kernel, rfl, by decide +kernel, by decide +kernel⟩
theorem ok__law_saying_step (m : Nat) {P : Program} {w : World} {K : PySem.W.Frag} {mg : Str → Option Value} {base : Heap} {f : Addr} {fd : FuncData} (F : Fun K "_law_saying" "_law_saying" s__law_saying f fd) (gf : mg "_law_saying" = some (.ref f)) (C__law_apart : Cal P w K mg base "_law_apart" 11 ["bag", "xs"] (sp__law_apart K)) (C__law_draw : Cal P w K mg base "_law_draw" 1 ["bag", "many"] (sp__law_draw K)) (C__law_inner : Cal P w K mg base "_law_inner" 5 ["bag", "xs", "kind"] (sp__law_inner K)) (C__law_kinds : Cal P w K mg base "_law_kinds" 1 [] (sp__law_kinds K)) (C__law_lot : Cal P w K mg base "_law_lot" 3 ["bag", "xs", "most"] (sp__law_lot K)) (C__law_pick : Cal P w K mg base "_law_pick" 2 ["bag", "some"] (sp__law_pick K)) (C__law_right_claim : Cal P w K mg base "_law_right_claim" 10 ["bag", "xs"] (sp__law_right_claim K)) (m_len : mg "len" = none)  (C__law_saying : Cal P w K mg base "_law_saying" (12 + m) ["bag", "xs", "kind"] (sp__law_saying K m)) : Cal P w K mg base "_law_saying" (12 + m + 1) ["bag", "xs", "kind"] (sp__law_saying K (m + 1)) := by
  refine ⟨f, fd, F.ok (k := 12 + m) sc__law_saying len__law_saying (fun cdv A outer s H vs Q E hr h => ⟨t__law_saying K m, PSs.nox ?_, pure__law_saying vs H Q E h⟩), F.kp, F.binds (fun _ _ _ _ _ _ us hl => match us, hl with | [_, _, _], _ => rfl), gf⟩
  exact (pss_cons (ps_if (pt_cmpR op_eq (pv 2) pe_str (nomark _)) (pss_one (ps_ret (pe_tup (pa_cons (pv 2) (pa_cons (pe_cal C__law_right_claim (hr.mono (by omega)) rfl (pa_cons (pv 0) (pa_cons (pe_cal C__law_lot (hr.mono (by omega)) rfl (pa_cons (pv 0) (pa_cons (pv 1) (pa_cons pe_int pa_nil)))) pa_nil))) pa_nil))))) pss_nil)
  (pss_cons (ps_if (PW.pt (pw_and (pt_cmpR op_eq (pv 2) pe_str (nomark _)) (pw_and (pt_cmpR op_gt (pe_callB call_len1 (by rfl) m_len (by decide +kernel) (pa_cons (pv 1) pa_nil)) pe_int (nomark _)) (pw_and1 (pt_cmpR op_eq (pe_cal C__law_draw (hr.mono (by omega)) rfl (pa_cons (pv 0) (pa_cons pe_int pa_nil))) pe_int (nomark _)))))) (pss_one (ps_ret (pe_cal C__law_apart (hr.mono (by omega)) rfl (pa_cons (pv 0) (pa_cons (pv 1) pa_nil))))) pss_nil)
  (pss_cons (ps_if (pt_cmpR op_eq (pv 2) pe_str (nomark _)) (pss_cons (ps_set (i := 3) sc__law_saying.nd rfl (by first | exact .inl rfl | exact .inr rfl) (pe_cal C__law_pick (hr.mono (by omega)) rfl (pa_cons (pv 0) (pa_cons (pe_slice sl_list (pe_cal0 C__law_kinds (hr.mono (by omega)) rfl) po_none (po_some pe_int)) pa_nil))))
  (pss_one (ps_ret (pe_tup (pa_cons (pv 2) (pa_cons (pe_cal C__law_right_claim (hr.mono (by omega)) rfl (pa_cons (pv 0) (pa_cons (pe_cal C__law_lot (hr.mono (by omega)) rfl (pa_cons (pv 0) (pa_cons (pv 1) (pa_cons pe_int pa_nil)))) pa_nil))) (pa_cons (pe_cal C__law_saying (hr.mono (by omega)) rfl (pa_cons (pv 0) (pa_cons (pv 1) (pa_cons (pv 3) pa_nil)))) pa_nil))))))) pss_nil)
  (pss_one (ps_ret (pe_cal C__law_inner (hr.mono (by omega)) rfl (pa_cons (pv 0) (pa_cons (pv 1) (pa_cons (pv 2) pa_nil)))))))))
theorem ok__law_saying_all {P : Program} {w : World} {K : PySem.W.Frag} {mg : Str → Option Value} {base : Heap} {f : Addr} {fd : FuncData} (F : Fun K "_law_saying" "_law_saying" s__law_saying f fd) (gf : mg "_law_saying" = some (.ref f)) (C__law_apart : Cal P w K mg base "_law_apart" 11 ["bag", "xs"] (sp__law_apart K)) (C__law_draw : Cal P w K mg base "_law_draw" 1 ["bag", "many"] (sp__law_draw K)) (C__law_inner : Cal P w K mg base "_law_inner" 5 ["bag", "xs", "kind"] (sp__law_inner K)) (C__law_kinds : Cal P w K mg base "_law_kinds" 1 [] (sp__law_kinds K)) (C__law_lot : Cal P w K mg base "_law_lot" 3 ["bag", "xs", "most"] (sp__law_lot K)) (C__law_pick : Cal P w K mg base "_law_pick" 2 ["bag", "some"] (sp__law_pick K)) (C__law_right_claim : Cal P w K mg base "_law_right_claim" 10 ["bag", "xs"] (sp__law_right_claim K)) (m_len : mg "len" = none)  : ∀ m, Cal P w K mg base "_law_saying" (12 + m) ["bag", "xs", "kind"] (sp__law_saying K m)
  | 0 => ⟨f, fd, F.ok (k := 11) sc__law_saying len__law_saying (fun cdv A outer s H vs Q E hr h => (no__law_saying h).elim), F.kp, F.binds (fun _ _ _ _ _ _ us hl => match us, hl with | [_, _, _], _ => rfl), gf⟩
  | m + 1 => ok__law_saying_step m F gf C__law_apart C__law_draw C__law_inner C__law_kinds C__law_lot C__law_pick C__law_right_claim m_len (ok__law_saying_all F gf C__law_apart C__law_draw C__law_inner C__law_kinds C__law_lot C__law_pick C__law_right_claim m_len m)
theorem ok__law_saying {P : Program} {w : World} {K : PySem.W.Frag} {mg : Str → Option Value} {base : Heap} {f : Addr} {fd : FuncData} (F : Fun K "_law_saying" "_law_saying" s__law_saying f fd) (gf : mg "_law_saying" = some (.ref f)) (C__law_apart : Cal P w K mg base "_law_apart" 11 ["bag", "xs"] (sp__law_apart K)) (C__law_draw : Cal P w K mg base "_law_draw" 1 ["bag", "many"] (sp__law_draw K)) (C__law_inner : Cal P w K mg base "_law_inner" 5 ["bag", "xs", "kind"] (sp__law_inner K)) (C__law_kinds : Cal P w K mg base "_law_kinds" 1 [] (sp__law_kinds K)) (C__law_lot : Cal P w K mg base "_law_lot" 3 ["bag", "xs", "most"] (sp__law_lot K)) (C__law_pick : Cal P w K mg base "_law_pick" 2 ["bag", "some"] (sp__law_pick K)) (C__law_right_claim : Cal P w K mg base "_law_right_claim" 10 ["bag", "xs"] (sp__law_right_claim K)) (m_len : mg "len" = none)  : Cal P w K mg base "_law_saying" 14 ["bag", "xs", "kind"] (sp__law_saying K 2) := ok__law_saying_all F gf C__law_apart C__law_draw C__law_inner C__law_kinds C__law_lot C__law_pick C__law_right_claim m_len 2
abbrev s__law_model : Stmt := topS 40
abbrev n__law_model : List Str := ["bag", "many", "most", "said", "soft", "names", "unknowns", "k", "hard", "some", "loose"]
theorem sc__law_model : FnScope n__law_model ["bag", "many", "most", "said", "soft"] (defScope s__law_model) := ⟨rfl, rfl, rfl, by decide +kernel, rfl, by decide +kernel, by decide +kernel⟩
theorem ok__law_model {P : Program} {w : World} {K : PySem.W.Frag} {mg : Str → Option Value} {base : Heap} {f : Addr} {fd : FuncData} (F : Fun K "_law_model" "_law_model" s__law_model f fd) (gf : mg "_law_model" = some (.ref f)) (C__law_domain : Cal P w K mg base "_law_domain" 3 ["bag", "size"] (sp__law_domain K)) (C__law_draw : Cal P w K mg base "_law_draw" 1 ["bag", "many"] (sp__law_draw K)) (C__law_kinds : Cal P w K mg base "_law_kinds" 1 [] (sp__law_kinds K)) (C__law_names : Cal P w K mg base "_law_names" 3 ["bag", "many"] (sp__law_names K)) (C__law_pick : Cal P w K mg base "_law_pick" 2 ["bag", "some"] (sp__law_pick K)) (C__law_saying : Cal P w K mg base "_law_saying" 14 ["bag", "xs", "kind"] (sp__law_saying K 2)) (C__law_some : Cal P w K mg base "_law_some" 2 ["bag", "things", "many"] (sp__law_some K))  (m_min : mg "min" = none) (m_range : mg "range" = none) (m_tuple : mg "tuple" = none)  : Cal P w K mg base "_law_model" 15 ["bag", "many", "most", "said", "soft"] (sp__law_model K) := by
  refine ⟨f, fd, F.ok sc__law_model len__law_model (fun cdv A outer s H vs Q E hr h => ⟨t__law_model K, PSs.nox ?_, pure__law_model vs H Q E h⟩), F.kp, F.binds (fun _ _ _ _ _ _ us hl => match us, hl with | [_, _, _, _, _], _ => rfl), gf⟩
  exact (pss_cons (ps_set (i := 5) sc__law_model.nd rfl (by first | exact .inl rfl | exact .inr rfl) (pe_cal C__law_names (hr.mono (by decide)) rfl (pa_cons (pv 0) (pa_cons (pe_op op_add (pe_op op_add (pv 1) (pv 3)) (pv 4)) pa_nil))))
  (pss_cons (ps_set (i := 6) sc__law_model.nd rfl (by first | exact .inl rfl | exact .inr rfl) (pe_tupleOf (by rfl) m_tuple (pe_lc (own := [("k", 7)]) rfl sc__law_model.nd (pi_range1 (by rfl) m_range (pa_cons (pv 1) pa_nil)) (blkOk_by (own := [("k", 7)]) (N := n__law_model) (sc := defScope s__law_model) (by decide +kernel)) (fun _ _ _ _ _ => (pg_name (i := 7) sc__law_model.nd rfl (by first | exact .inl rfl | exact .inr rfl))) (fun _ _ _ _ _ => pts_nil) (fun _ _ _ _ _ => (pe_tup (pa_cons (pe_ix ix_list (pv 5) (pv 7) (fun _ _ => rfl)) (pa_cons (pe_cal C__law_domain (hr.mono (by decide)) rfl (pa_cons (pv 0) (pa_cons (pe_op op_add pe_int (pe_cal C__law_draw (hr.mono (by decide)) rfl (pa_cons (pv 0) (pa_cons (pv 2) pa_nil)))) pa_nil))) pa_nil)))))))
  (pss_cons (ps_set (i := 8) sc__law_model.nd rfl (by first | exact .inl rfl | exact .inr rfl) (pe_lst pa_nil))
  (pss_cons (ps_for PassesOwn.never rfl (pi_range1 (by rfl) m_range (pa_cons (pv 3) pa_nil)) (pg_name (i := 7) sc__law_model.nd rfl (by first | exact .inl rfl | exact .inr rfl))
  (pss_cons (ps_set (i := 9) sc__law_model.nd rfl (by first | exact .inl rfl | exact .inr rfl) (pe_cal C__law_some (hr.mono (by decide)) rfl (pa_cons (pv 0) (pa_cons (pv 6) (pa_cons (pe_callB (call_min2 rfl) (by rfl) m_min (by decide +kernel) (pa_cons pe_int (pa_cons (pv 1) pa_nil))) pa_nil)))))
  (pss_one (ps_expr (pe_bm PySem.F.plainAttrs_list PySem.F.slot_list_append PySem.F.type_list_append mt_append (pv 8) (pa_cons (pe_tup (pa_cons (pe_ix ix_list (pv 5) (pe_op op_add (pv 1) (pv 7)) (fun _ _ => rfl)) (pa_cons (pe_cal C__law_saying (hr.mono (by decide)) rfl (pa_cons (pv 0) (pa_cons (pv 9) (pa_cons (pe_cal C__law_pick (hr.mono (by decide)) rfl (pa_cons (pv 0) (pa_cons (pe_cal0 C__law_kinds (hr.mono (by decide)) rfl) pa_nil))) pa_nil)))) pa_nil))) pa_nil))))))
  (pss_cons (ps_set (i := 10) sc__law_model.nd rfl (by first | exact .inl rfl | exact .inr rfl) (pe_lst pa_nil))
  (pss_cons (ps_for PassesOwn.never rfl (pi_range1 (by rfl) m_range (pa_cons (pv 4) pa_nil)) (pg_name (i := 7) sc__law_model.nd rfl (by first | exact .inl rfl | exact .inr rfl))
  (pss_cons (ps_set (i := 9) sc__law_model.nd rfl (by first | exact .inl rfl | exact .inr rfl) (pe_cal C__law_some (hr.mono (by decide)) rfl (pa_cons (pv 0) (pa_cons (pv 6) (pa_cons (pe_callB (call_min2 rfl) (by rfl) m_min (by decide +kernel) (pa_cons pe_int (pa_cons (pv 1) pa_nil))) pa_nil)))))
  (pss_one (ps_expr (pe_bm PySem.F.plainAttrs_list PySem.F.slot_list_append PySem.F.type_list_append mt_append (pv 10) (pa_cons (pe_tup (pa_cons (pe_ix ix_list (pv 5) (pe_op op_add (pe_op op_add (pv 1) (pv 3)) (pv 7)) (fun _ _ => rfl)) (pa_cons (pe_cal C__law_saying (hr.mono (by decide)) rfl (pa_cons (pv 0) (pa_cons (pv 9) (pa_cons (pe_cal C__law_pick (hr.mono (by decide)) rfl (pa_cons (pv 0) (pa_cons (pe_cal0 C__law_kinds (hr.mono (by decide)) rfl) pa_nil))) pa_nil)))) (pa_cons (pe_op op_add pe_int (pe_cal C__law_draw (hr.mono (by decide)) rfl (pa_cons (pv 0) (pa_cons pe_int pa_nil)))) pa_nil)))) pa_nil))))))
  (pss_one (ps_ret (pe_tup (pa_cons (pv 6) (pa_cons (pe_tupleOf (by rfl) m_tuple (pv 8)) (pa_cons (pe_tupleOf (by rfl) m_tuple (pv 10)) pa_nil))))))))))))
abbrev s__law_sizes : Stmt := topS 41
abbrev n__law_sizes : List Str := ["bag", "small", "below", "above", "far", "row"]
theorem sc__law_sizes : FnScope n__law_sizes ["bag", "small"] (defScope s__law_sizes) := ⟨rfl, rfl, rfl, by decide +kernel, rfl, by decide +kernel, by decide +kernel⟩
theorem ok__law_sizes {P : Program} {w : World} {K : PySem.W.Frag} {mg : Str → Option Value} {base : Heap} {f : Addr} {fd : FuncData} (F : Fun K "_law_sizes" "_law_sizes" s__law_sizes f fd) (gf : mg "_law_sizes" = some (.ref f)) (C__law_pick : Cal P w K mg base "_law_pick" 2 ["bag", "some"] (sp__law_pick K)) (C__law_some : Cal P w K mg base "_law_some" 2 ["bag", "things", "many"] (sp__law_some K))  (m_len : mg "len" = none)  : Cal P w K mg base "_law_sizes" 3 ["bag", "small"] (sp__law_sizes K) := by
  refine ⟨f, fd, F.ok sc__law_sizes len__law_sizes (fun cdv A outer s H vs Q E hr h => ⟨t__law_sizes K, PSs.nox ?_, pure__law_sizes vs H Q E h⟩), F.kp, F.binds (fun _ _ _ _ _ _ us hl => match us, hl with | [_, _], _ => rfl), gf⟩
  exact (pss_cons (ps_set (i := 2) sc__law_sizes.nd rfl (by first | exact .inl rfl | exact .inr rfl) (pe_lst (pa_cons (pe_tup (pa_cons pe_int (pa_cons pe_int (pa_cons pe_int pa_nil)))) (pa_cons (pe_tup (pa_cons pe_int (pa_cons pe_int (pa_cons pe_int (pa_cons pe_int (pa_cons pe_int (pa_cons pe_int (pa_cons pe_int (pa_cons pe_int pa_nil))))))))) (pa_cons (pe_tup (pa_cons pe_int (pa_cons pe_int (pa_cons pe_int (pa_cons pe_int pa_nil))))) (pa_cons (pe_tup (pa_cons pe_int (pa_cons pe_int (pa_cons pe_int (pa_cons pe_int pa_nil))))) (pa_cons (pe_tup (pa_cons pe_int (pa_cons pe_int (pa_cons pe_int pa_nil)))) (pa_cons (pe_tup (pa_cons pe_int (pa_cons pe_int (pa_cons pe_int (pa_cons pe_int (pa_cons pe_int pa_nil)))))) (pa_cons (pe_tup (pa_cons pe_int (pa_cons pe_int (pa_cons pe_int pa_nil)))) (pa_cons (pe_tup (pa_cons pe_int (pa_cons pe_int (pa_cons pe_int pa_nil)))) (pa_cons (pe_tup (pa_cons pe_int (pa_cons pe_int (pa_cons pe_int (pa_cons pe_int (pa_cons pe_int pa_nil)))))) pa_nil)))))))))))
  (pss_cons (ps_set (i := 3) sc__law_sizes.nd rfl (by first | exact .inl rfl | exact .inr rfl) (pe_lst (pa_cons (pe_tup (pa_cons pe_int (pa_cons pe_int (pa_cons pe_int pa_nil)))) (pa_cons (pe_tup (pa_cons pe_int (pa_cons pe_int (pa_cons pe_int pa_nil)))) (pa_cons (pe_tup (pa_cons pe_int (pa_cons pe_int (pa_cons pe_int pa_nil)))) (pa_cons (pe_tup (pa_cons pe_int (pa_cons pe_int (pa_cons pe_int pa_nil)))) (pa_cons (pe_tup (pa_cons pe_int (pa_cons pe_int (pa_cons pe_int pa_nil)))) (pa_cons (pe_tup (pa_cons pe_int (pa_cons pe_int (pa_cons pe_int pa_nil)))) (pa_cons (pe_tup (pa_cons pe_int (pa_cons pe_int (pa_cons pe_int pa_nil)))) (pa_cons (pe_tup (pa_cons pe_int (pa_cons pe_int (pa_cons pe_int (pa_cons pe_int (pa_cons pe_int (pa_cons pe_int (pa_cons pe_int pa_nil)))))))) (pa_cons (pe_tup (pa_cons pe_int (pa_cons pe_int (pa_cons pe_int (pa_cons pe_int pa_nil))))) pa_nil)))))))))))
  (pss_cons (ps_set (i := 4) sc__law_sizes.nd rfl (by first | exact .inl rfl | exact .inr rfl) (pe_lst (pa_cons (pe_tup (pa_cons pe_int (pa_cons pe_int (pa_cons pe_int (pa_cons pe_int (pa_cons pe_int (pa_cons pe_int (pa_cons pe_int (pa_cons pe_int (pa_cons pe_int (pa_cons pe_int (pa_cons pe_int (pa_cons pe_int pa_nil))))))))))))) (pa_cons (pe_tup (pa_cons pe_int (pa_cons pe_int (pa_cons pe_int (pa_cons pe_int pa_nil))))) (pa_cons (pe_tup (pa_cons pe_int (pa_cons pe_int (pa_cons pe_int (pa_cons pe_int (pa_cons pe_int (pa_cons pe_int (pa_cons pe_int (pa_cons pe_int (pa_cons pe_int pa_nil)))))))))) pa_nil)))))
  (pss_cons (ps_set (i := 5) sc__law_sizes.nd rfl (by first | exact .inl rfl | exact .inr rfl) (pe_cal C__law_pick (hr.mono (by decide)) rfl (pa_cons (pv 0) (pa_cons (pe_ifExp (pt_val (pv 1)) (pv 2) (pe_cal C__law_pick (hr.mono (by decide)) rfl (pa_cons (pv 0) (pa_cons (pe_lst (pa_cons (pv 3) (pa_cons (pv 3) (pa_cons (pv 4) pa_nil)))) pa_nil)))) pa_nil))))
  (pss_one (ps_ret (pe_cal C__law_some (hr.mono (by decide)) rfl (pa_cons (pv 0) (pa_cons (pv 5) (pa_cons (pe_callB call_len1 (by rfl) m_len (by decide +kernel) (pa_cons (pv 5) pa_nil)) pa_nil))))))))))
abbrev s__law_over_all : Stmt := topS 42
abbrev n__law_over_all : List Str := ["bag", "xs", "names", "x", "zeros", "name", "ones", "forms", "half", "saying", "way"]
theorem sc__law_over_all : FnScope n__law_over_all ["bag", "xs"] (defScope s__law_over_all) := ⟨rfl, rfl, rfl, by decide +kernel, rfl, by decide +kernel, by decide +kernel⟩
theorem ok__law_over_all {P : Program} {w : World} {K : PySem.W.Frag} {mg : Str → Option Value} {base : Heap} {f : Addr} {fd : FuncData} (F : Fun K "_law_over_all" "_law_over_all" s__law_over_all f fd) (gf : mg "_law_over_all" = some (.ref f)) (C__law_draw : Cal P w K mg base "_law_draw" 1 ["bag", "many"] (sp__law_draw K)) (C__law_pick : Cal P w K mg base "_law_pick" 2 ["bag", "some"] (sp__law_pick K))  (m_int : mg "int" = none) (m_len : mg "len" = none) (m_tuple : mg "tuple" = none)  : Cal P w K mg base "_law_over_all" 3 ["bag", "xs"] (sp__law_over_all K) := by
  refine ⟨f, fd, F.ok sc__law_over_all len__law_over_all (fun cdv A outer s H vs Q E hr h => ⟨t__law_over_all K, PSs.nox ?_, pure__law_over_all vs H Q E h⟩), F.kp, F.binds (fun _ _ _ _ _ _ us hl => match us, hl with | [_, _], _ => rfl), gf⟩
  exact (pss_cons (ps_set (i := 2) sc__law_over_all.nd rfl (by first | exact .inl rfl | exact .inr rfl) (pe_tupleOf (by rfl) m_tuple (pe_lc (own := [("x", 3)]) rfl sc__law_over_all.nd (pi_tup (pv 1)) (blkOk_by (own := [("x", 3)]) (N := n__law_over_all) (sc := defScope s__law_over_all) (by decide +kernel)) (fun _ _ _ _ _ => (pg_name (i := 3) sc__law_over_all.nd rfl (by first | exact .inl rfl | exact .inr rfl))) (fun _ _ _ _ _ => pts_nil) (fun _ _ _ _ _ => (pe_ix ix_tup (pv 3) pe_int (fun _ _ => rfl))))))
  (pss_cons (ps_set (i := 4) sc__law_over_all.nd rfl (by first | exact .inl rfl | exact .inr rfl) (pe_tupleOf (by rfl) m_tuple (pe_lc (own := [("name", 5)]) rfl sc__law_over_all.nd (pi_tup (pv 2)) (blkOk_by (own := [("name", 5)]) (N := n__law_over_all) (sc := defScope s__law_over_all) (by decide +kernel)) (fun _ _ _ _ _ => (pg_name (i := 5) sc__law_over_all.nd rfl (by first | exact .inl rfl | exact .inr rfl))) (fun _ _ _ _ _ => pts_nil) (fun _ _ _ _ _ => pe_int))))
  (pss_cons (ps_set (i := 6) sc__law_over_all.nd rfl (by first | exact .inl rfl | exact .inr rfl) (pe_tupleOf (by rfl) m_tuple (pe_lc (own := [("name", 5)]) rfl sc__law_over_all.nd (pi_tup (pv 2)) (blkOk_by (own := [("name", 5)]) (N := n__law_over_all) (sc := defScope s__law_over_all) (by decide +kernel)) (fun _ _ _ _ _ => (pg_name (i := 5) sc__law_over_all.nd rfl (by first | exact .inl rfl | exact .inr rfl))) (fun _ _ _ _ _ => pts_nil) (fun _ _ _ _ _ => pe_int))))
  (pss_cons (ps_set (i := 7) sc__law_over_all.nd rfl (by first | exact .inl rfl | exact .inr rfl) (pe_lst (pa_cons (pe_tup (pa_cons pe_str (pa_cons (pe_tupleOf (by rfl) m_tuple (pe_lc (own := [("name", 5)]) rfl sc__law_over_all.nd (pi_tup (pv 2)) (blkOk_by (own := [("name", 5)]) (N := n__law_over_all) (sc := defScope s__law_over_all) (by decide +kernel)) (fun _ _ _ _ _ => (pg_name (i := 5) sc__law_over_all.nd rfl (by first | exact .inl rfl | exact .inr rfl))) (fun _ _ _ _ _ => pts_nil) (fun _ _ _ _ _ => (pe_tup (pa_cons (pv 5) (pa_cons pe_int pa_nil)))))) (pa_cons pe_int pa_nil)))) (pa_cons (pe_tup (pa_cons pe_str (pa_cons (pv 2) pa_nil))) (pa_cons (pe_tup (pa_cons pe_str (pa_cons (pv 2) pa_nil))) pa_nil)))))
  (pss_cons (ps_set (i := 7) sc__law_over_all.nd rfl (by first | exact .inl rfl | exact .inr rfl) (pe_op op_cat (pv 7) (pe_lst (pa_cons (pe_tup (pa_cons pe_str (pa_cons (pv 2) (pa_cons (pe_tup (pa_cons (pe_tup (pa_cons pe_int (pa_cons pe_int (pa_cons pe_int pa_nil)))) pa_nil)) pa_nil)))) (pa_cons (pe_tup (pa_cons pe_str (pa_cons (pv 2) (pa_cons pe_int (pa_cons (pe_tup pa_nil) (pa_cons (pe_tup (pa_cons pe_int pa_nil)) pa_nil)))))) (pa_cons (pe_tup (pa_cons pe_str (pa_cons (pv 2) (pa_cons (pv 6) (pa_cons (pv 4) (pa_cons pe_int pa_nil)))))) pa_nil))))))
  (pss_cons (ps_set (i := 7) sc__law_over_all.nd rfl (by first | exact .inl rfl | exact .inr rfl) (pe_op op_cat (pv 7) (pe_lst (pa_cons (pe_tup (pa_cons pe_str (pa_cons (pe_tupleOf (by rfl) m_tuple (pe_lc (own := [("name", 5)]) rfl sc__law_over_all.nd (pi_tup (pv 2)) (blkOk_by (own := [("name", 5)]) (N := n__law_over_all) (sc := defScope s__law_over_all) (by decide +kernel)) (fun _ _ _ _ _ => (pg_name (i := 5) sc__law_over_all.nd rfl (by first | exact .inl rfl | exact .inr rfl))) (fun _ _ _ _ _ => pts_nil) (fun _ _ _ _ _ => (pe_tup (pa_cons (pv 5) (pa_cons (pe_un un_neg pe_int) pa_nil)))))) (pa_cons pe_int pa_nil)))) (pa_cons (pe_tup (pa_cons pe_str (pa_cons (pe_slice sl_tupA (pv 2) (po_some pe_int) po_none) (pa_cons (pe_ix ix_tup (pv 2) pe_int (fun _ _ => rfl)) pa_nil)))) pa_nil)))))
  (pss_cons (ps_if (pt_cmpR op_lt (pe_callB call_len1 (by rfl) m_len (by decide +kernel) (pa_cons (pv 2) pa_nil)) pe_int (nomark _)) (pss_one (ps_set (i := 7) sc__law_over_all.nd rfl (by first | exact .inl rfl | exact .inr rfl) (pe_op op_cat (pv 7) (pe_lst (pa_cons (pe_tup (pa_cons pe_str (pa_cons (pv 2) (pa_cons (pe_tup pa_nil) pa_nil)))) (pa_cons (pe_tup (pa_cons pe_str (pa_cons (pv 2) (pa_cons (pe_tup (pa_cons (pv 4) (pa_cons (pv 6) pa_nil))) pa_nil)))) pa_nil)))))) pss_nil)
  (pss_cons (ps_if (pt_cmpR op_gt (pe_callB call_len1 (by rfl) m_len (by decide +kernel) (pa_cons (pv 2) pa_nil)) pe_int (nomark _)) (pss_one (ps_expr (pe_bm PySem.F.plainAttrs_list PySem.F.slot_list_append PySem.F.type_list_append mt_append (pv 7) (pa_cons (pe_tup (pa_cons pe_str (pa_cons (pe_ix ix_tup (pv 2) pe_int (fun _ _ => rfl)) (pa_cons (pe_slice sl_tupA (pv 2) (po_some pe_int) po_none) (pa_cons (pe_ix ix_tup (pv 2) pe_int (fun _ _ => rfl)) pa_nil))))) pa_nil)))) pss_nil)
  (pss_cons (ps_if (pt_cmpR op_eq (pe_op op_mod (pe_callTy call_int1 (by rfl) m_int (by decide +kernel) (pa_cons (pe_callB call_len1 (by rfl) m_len (by decide +kernel) (pa_cons (pv 2) pa_nil)) pa_nil)) pe_int) pe_int (nomark _)) (pss_cons (ps_set (i := 8) sc__law_over_all.nd rfl (by first | exact .inl rfl | exact .inr rfl) (pe_op op_fdiv (pe_callB call_len1 (by rfl) m_len (by decide +kernel) (pa_cons (pv 2) pa_nil)) pe_int))
  (pss_one (ps_if (pt_cmpR op_lt (pv 8) pe_int (nomark _)) (pss_one (ps_expr (pe_bm PySem.F.plainAttrs_list PySem.F.slot_list_append PySem.F.type_list_append mt_append (pv 7) (pa_cons (pe_tup (pa_cons pe_str (pa_cons (pe_slice sl_tupA (pv 2) po_none (po_some (pv 8))) (pa_cons (pe_slice sl_tupA (pv 2) (po_some (pv 8)) po_none) pa_nil)))) pa_nil)))) pss_nil))) pss_nil)
  (pss_cons (ps_set (i := 9) sc__law_over_all.nd rfl (by first | exact .inl rfl | exact .inr rfl) (pe_cal C__law_pick (hr.mono (by decide)) rfl (pa_cons (pv 0) (pa_cons (pv 7) pa_nil))))
  (pss_cons (ps_if (pt_cmpR op_gt (pe_cal C__law_draw (hr.mono (by decide)) rfl (pa_cons (pv 0) (pa_cons pe_int pa_nil))) pe_int (nomark _)) (pss_one (ps_ret (pv 9))) pss_nil)
  (pss_cons (ps_set (i := 10) sc__law_over_all.nd rfl (by first | exact .inl rfl | exact .inr rfl) (pe_cal C__law_draw (hr.mono (by decide)) rfl (pa_cons (pv 0) (pa_cons pe_int pa_nil))))
  (pss_cons (ps_if (pt_cmpR op_eq (pv 10) pe_int (nomark _)) (pss_one (ps_ret (pe_tup (pa_cons pe_str (pa_cons (pe_tup (pa_cons pe_str (pa_cons (pe_ix ix_tup (pv 2) (pe_cal C__law_draw (hr.mono (by decide)) rfl (pa_cons (pv 0) (pa_cons (pe_callB call_len1 (by rfl) m_len (by decide +kernel) (pa_cons (pv 2) pa_nil)) pa_nil))) (fun _ _ => rfl)) (pa_cons pe_int pa_nil)))) (pa_cons (pv 9) pa_nil)))))) pss_nil)
  (pss_cons (ps_if (pt_cmpR op_eq (pv 10) pe_int (nomark _)) (pss_one (ps_ret (pe_tup (pa_cons pe_str (pa_cons (pe_tup (pa_cons pe_str (pa_cons (pe_tup (pa_cons (pe_tup (pa_cons pe_str (pa_cons (pe_tup (pa_cons pe_str (pa_cons (pe_ix ix_tup (pv 2) pe_int (fun _ _ => rfl)) (pa_cons pe_int pa_nil)))) pa_nil))) (pa_cons (pe_tup (pa_cons pe_str (pa_cons (pe_ix ix_tup (pv 2) pe_int (fun _ _ => rfl)) (pa_cons pe_int pa_nil)))) (pa_cons (pe_tup (pa_cons pe_str (pa_cons (pe_tup pa_nil) pa_nil))) pa_nil)))) pa_nil))) (pa_cons (pv 9) pa_nil)))))) pss_nil)
  (pss_one (ps_ret (pe_tup (pa_cons pe_str (pa_cons (pe_tup (pa_cons pe_str (pa_cons (pe_tup (pa_cons (pe_tup (pa_cons pe_str (pa_cons (pe_ix ix_tup (pv 2) pe_int (fun _ _ => rfl)) (pa_cons pe_int pa_nil)))) (pa_cons (pe_tup (pa_cons pe_str (pa_cons (pe_ix ix_tup (pv 2) pe_int (fun _ _ => rfl)) (pa_cons pe_int pa_nil)))) pa_nil))) pa_nil))) (pa_cons (pe_tup (pa_cons pe_str (pa_cons (pe_slice sl_tupA (pv 2) (po_some pe_int) po_none) pa_nil))) pa_nil))))))))))))))))))))
abbrev s__law_edge : Stmt := topS 43
abbrev n__law_edge : List Str := ["bag", "small", "sizes", "names", "unknowns", "k", "saying", "first", "beside"]
theorem sc__law_edge : FnScope n__law_edge ["bag", "small"] (defScope s__law_edge) := ⟨rfl, rfl, rfl, by decide +kernel, rfl, by decide +kernel, by decide +kernel⟩
theorem ok__law_edge {P : Program} {w : World} {K : PySem.W.Frag} {mg : Str → Option Value} {base : Heap} {f : Addr} {fd : FuncData} (F : Fun K "_law_edge" "_law_edge" s__law_edge f fd) (gf : mg "_law_edge" = some (.ref f)) (C__law_apart : Cal P w K mg base "_law_apart" 11 ["bag", "xs"] (sp__law_apart K)) (C__law_domain : Cal P w K mg base "_law_domain" 3 ["bag", "size"] (sp__law_domain K)) (C__law_draw : Cal P w K mg base "_law_draw" 1 ["bag", "many"] (sp__law_draw K)) (C__law_names : Cal P w K mg base "_law_names" 3 ["bag", "many"] (sp__law_names K)) (C__law_over_all : Cal P w K mg base "_law_over_all" 3 ["bag", "xs"] (sp__law_over_all K)) (C__law_sizes : Cal P w K mg base "_law_sizes" 3 ["bag", "small"] (sp__law_sizes K))  (m_len : mg "len" = none) (m_range : mg "range" = none) (m_tuple : mg "tuple" = none)  : Cal P w K mg base "_law_edge" 12 ["bag", "small"] (sp__law_edge K) := by
  refine ⟨f, fd, F.ok sc__law_edge len__law_edge (fun cdv A outer s H vs Q E hr h => ⟨t__law_edge K, PSs.nox ?_, pure__law_edge vs H Q E h⟩), F.kp, F.binds (fun _ _ _ _ _ _ us hl => match us, hl with | [_, _], _ => rfl), gf⟩
  exact (pss_cons (ps_set (i := 2) sc__law_edge.nd rfl (by first | exact .inl rfl | exact .inr rfl) (pe_cal C__law_sizes (hr.mono (by decide)) rfl (pa_cons (pv 0) (pa_cons (pv 1) pa_nil))))
  (pss_cons (ps_set (i := 3) sc__law_edge.nd rfl (by first | exact .inl rfl | exact .inr rfl) (pe_cal C__law_names (hr.mono (by decide)) rfl (pa_cons (pv 0) (pa_cons (pe_op op_add (pe_callB call_len1 (by rfl) m_len (by decide +kernel) (pa_cons (pv 2) pa_nil)) pe_int) pa_nil))))
  (pss_cons (ps_set (i := 4) sc__law_edge.nd rfl (by first | exact .inl rfl | exact .inr rfl) (pe_tupleOf (by rfl) m_tuple (pe_lc (own := [("k", 5)]) rfl sc__law_edge.nd (pi_range1 (by rfl) m_range (pa_cons (pe_callB call_len1 (by rfl) m_len (by decide +kernel) (pa_cons (pv 2) pa_nil)) pa_nil)) (blkOk_by (own := [("k", 5)]) (N := n__law_edge) (sc := defScope s__law_edge) (by decide +kernel)) (fun _ _ _ _ _ => (pg_name (i := 5) sc__law_edge.nd rfl (by first | exact .inl rfl | exact .inr rfl))) (fun _ _ _ _ _ => pts_nil) (fun _ _ _ _ _ => (pe_tup (pa_cons (pe_ix ix_list (pv 3) (pv 5) (fun _ _ => rfl)) (pa_cons (pe_cal C__law_domain (hr.mono (by decide)) rfl (pa_cons (pv 0) (pa_cons (pe_ix ix_list (pv 2) (pv 5) (fun _ _ => rfl)) pa_nil))) pa_nil)))))))
  (pss_cons (ps_set (i := 6) sc__law_edge.nd rfl (by first | exact .inl rfl | exact .inr rfl) (pe_cal C__law_over_all (hr.mono (by decide)) rfl (pa_cons (pv 0) (pa_cons (pv 4) pa_nil))))
  (pss_cons (ps_set (i := 7) sc__law_edge.nd rfl (by first | exact .inl rfl | exact .inr rfl) (pe_tup (pa_cons (pe_ix ix_list (pv 3) (pe_callB call_len1 (by rfl) m_len (by decide +kernel) (pa_cons (pv 2) pa_nil)) (fun _ _ => rfl)) (pa_cons (pv 6) pa_nil))))
  (pss_cons (ps_set (i := 8) sc__law_edge.nd rfl (by first | exact .inl rfl | exact .inr rfl) (pe_tup (pa_cons (pe_ix ix_list (pv 3) (pe_op op_add (pe_callB call_len1 (by rfl) m_len (by decide +kernel) (pa_cons (pv 2) pa_nil)) pe_int) (fun _ _ => rfl)) (pa_cons (pe_cal C__law_apart (hr.mono (by decide)) rfl (pa_cons (pv 0) (pa_cons (pv 4) pa_nil))) pa_nil))))
  (pss_cons (ps_if (pt_cmpR op_eq (pe_cal C__law_draw (hr.mono (by decide)) rfl (pa_cons (pv 0) (pa_cons pe_int pa_nil))) pe_int (nomark _)) (pss_one (ps_ret (pe_tup (pa_cons (pv 4) (pa_cons (pe_tup (pa_cons (pv 7) (pa_cons (pv 8) pa_nil))) (pa_cons (pe_tup pa_nil) pa_nil)))))) pss_nil)
  (pss_one (ps_ret (pe_tup (pa_cons (pv 4) (pa_cons (pe_tup (pa_cons (pv 8) pa_nil)) (pa_cons (pe_tup (pa_cons (pe_op op_catA (pv 7) (pe_tup (pa_cons pe_int pa_nil))) pa_nil)) pa_nil)))))))))))))
abbrev s__law_told : Stmt := topS 44
abbrev n__law_told : List Str := ["model", "row", "by_name", "sizes", "pair", "one", "own", "size", "name", "told"]
theorem sc__law_told : FnScope n__law_told ["model", "row", "by_name"] (defScope s__law_told) := ⟨rfl, rfl, rfl, by decide +kernel, rfl, by decide +kernel, by decide +kernel⟩
theorem ok__law_told {P : Program} {w : World} {K : PySem.W.Frag} {mg : Str → Option Value} {base : Heap} {f : Addr} {fd : FuncData} (F : Fun K "_law_told" "_law_told" s__law_told f fd) (gf : mg "_law_told" = some (.ref f)) (C__law_ascending : Cal P w K mg base "_law_ascending" 1 ["things"] (sp__law_ascending K)) (C__law_own : Cal P w K mg base "_law_own" 12 ["saying"] (sp__law_own K 2)) (C__law_same : Cal P w K mg base "_law_same" 5 ["found", "due"] (sp__law_same K 4)) (C_is_small : Cal P w K mg base "is_small" 15 ["model", "name"] (sp_is_small K)) (C_unknowns_of : Cal P w K mg base "unknowns_of" 15 ["model", "name"] (sp_unknowns_of K)) (CK_is_small : CalK P w K mg base "is_small" 15 ["model", "name"] ["model", "name"] gK (sp_is_small K)) (CK_unknowns_of : CalK P w K mg base "unknowns_of" 15 ["model", "name"] ["model", "name"] gK (sp_unknowns_of K)) (m_len : mg "len" = none)  : Cal P w K mg base "_law_told" 16 ["model", "row", "by_name"] (sp__law_told K) := by
  refine ⟨f, fd, F.ok sc__law_told len__law_told (fun cdv A outer s H vs Q E hr h => ⟨t__law_told K, PSs.nox ?_, pure__law_told vs H Q E h⟩), F.kp, F.binds (fun _ _ _ _ _ _ us hl => match us, hl with | [_, _, _], _ => rfl), gf⟩
  exact (pss_cons (ps_set (i := 3) sc__law_told.nd rfl (by first | exact .inl rfl | exact .inr rfl) pe_dnewK)
  (pss_cons (ps_for PassesOwn.never rfl (pi_tup (pe_ix ix_tup (pv 0) pe_int (fun _ _ => rfl))) (pg_name (i := 4) sc__law_told.nd rfl (by first | exact .inl rfl | exact .inr rfl))
  (pss_one (ps_dput (hu_of hr) (pv 3) (pe_ix ix_tup (pv 4) pe_int (fun _ _ => rfl)) (pe_callB call_len1 (by rfl) m_len (by decide +kernel) (pa_cons (pe_ix ix_tup (pv 4) pe_int (fun _ _ => rfl)) pa_nil)) rfl)))
  (pss_cons (ps_for PassesOwn.never rfl (pi_list (pv 1)) (pg_name (i := 5) sc__law_told.nd rfl (by first | exact .inl rfl | exact .inr rfl))
  (pss_cons (ps_set (i := 6) sc__law_told.nd rfl (by first | exact .inl rfl | exact .inr rfl) (pe_cal C__law_ascending (hr.mono (by decide)) rfl (pa_cons (pe_cal C__law_own (hr.mono (by decide)) rfl (pa_cons (pe_ix ix_tup (pv 5) pe_int (fun _ _ => rfl)) pa_nil)) pa_nil)))
  (pss_cons (ps_set (i := 7) sc__law_told.nd rfl (by first | exact .inl rfl | exact .inr rfl) pe_int)
  (pss_cons (ps_for PassesOwn.never rfl (pi_tup (pv 6)) (pg_name (i := 8) sc__law_told.nd rfl (by first | exact .inl rfl | exact .inr rfl))
  (pss_one (ps_set (i := 7) sc__law_told.nd rfl (by first | exact .inl rfl | exact .inr rfl) (pe_op op_mul (pv 7) (pe_dget (hu_of hr) (pv 3) (pv 8) (fun _ _ => rfl))))))
  (pss_cons (ps_if (pt_val (pv 2)) (pss_one (ps_set (i := 9) sc__law_told.nd rfl (by first | exact .inl rfl | exact .inr rfl) (pe_tup (pa_cons (pe_calK CK_unknowns_of (hr.mono (by decide)) rfl (pk_cons (pv 0) (pk_cons (pe_ix ix_tup (pv 5) pe_int (fun _ _ => rfl)) pk_nil))) (pa_cons (pe_calK CK_is_small (hr.mono (by decide)) rfl (pk_cons (pv 0) (pk_cons (pe_ix ix_tup (pv 5) pe_int (fun _ _ => rfl)) pk_nil))) pa_nil))))) (pss_one (ps_set (i := 9) sc__law_told.nd rfl (by first | exact .inl rfl | exact .inr rfl) (pe_tup (pa_cons (pe_cal C_unknowns_of (hr.mono (by decide)) rfl (pa_cons (pv 0) (pa_cons (pe_ix ix_tup (pv 5) pe_int (fun _ _ => rfl)) pa_nil))) (pa_cons (pe_cal C_is_small (hr.mono (by decide)) rfl (pa_cons (pv 0) (pa_cons (pe_ix ix_tup (pv 5) pe_int (fun _ _ => rfl)) pa_nil))) pa_nil))))))
  (pss_one (ps_if (pt_not (pt_val (pe_cal C__law_same (hr.mono (by decide)) rfl (pa_cons (pv 9) (pa_cons (pe_tup (pa_cons (pv 6) (pa_cons (pe_cmpR op_le (pv 7) pe_int (nomark _)) pa_nil))) pa_nil))))) (pss_one (ps_ret pe_bl)) pss_nil)))))))
  (pss_one (ps_ret pe_bl)))))
abbrev s_law : Stmt := topS 45
abbrev n_law : List Str := ["script", "bag", "first", "models", "model", "row"]
theorem sc_law : FnScope n_law ["script"] (defScope s_law) := ⟨rfl, rfl, rfl, by decide +kernel, rfl, by decide +kernel, by decide +kernel⟩
theorem ok_law {P : Program} {w : World} {K : PySem.W.Frag} {mg : Str → Option Value} {base : Heap} {f : Addr} {fd : FuncData} (F : Fun K "law" "law" s_law f fd) (gf : mg "law" = some (.ref f)) (C__law_bag : Cal P w K mg base "_law_bag" 1 ["script"] (sp__law_bag K)) (C__law_draw : Cal P w K mg base "_law_draw" 1 ["bag", "many"] (sp__law_draw K)) (C__law_edge : Cal P w K mg base "_law_edge" 12 ["bag", "small"] (sp__law_edge K)) (C__law_model : Cal P w K mg base "_law_model" 15 ["bag", "many", "most", "said", "soft"] (sp__law_model K)) (C__law_pick : Cal P w K mg base "_law_pick" 2 ["bag", "some"] (sp__law_pick K)) (C__law_told : Cal P w K mg base "_law_told" 16 ["model", "row", "by_name"] (sp__law_told K))  (m_list : mg "list" = none)  : FnOk P w K mg base CX0 17 f fd ["script"] (sp_law K) := by
  refine F.ok sc_law len_law (fun cdv A outer s H vs Q E hr h => ⟨t_law K, PSs.nox ?_, pure_law vs H Q E h⟩)
  exact (pss_cons (ps_set (i := 1) sc_law.nd rfl (by first | exact .inl rfl | exact .inr rfl) (pe_cal C__law_bag (hr.mono (by decide)) rfl (pa_cons (pv 0) pa_nil)))
  (pss_cons (ps_set (i := 2) sc_law.nd rfl (by first | exact .inl rfl | exact .inr rfl) (pe_cal C__law_model (hr.mono (by decide)) rfl (pa_cons (pv 1) (pa_cons (pe_op op_add pe_int (pe_cal C__law_draw (hr.mono (by decide)) rfl (pa_cons (pv 1) (pa_cons pe_int pa_nil)))) (pa_cons (pe_cal C__law_pick (hr.mono (by decide)) rfl (pa_cons (pv 1) (pa_cons (pe_lst (pa_cons pe_int (pa_cons pe_int (pa_cons pe_int (pa_cons pe_int pa_nil))))) pa_nil))) (pa_cons (pe_op op_add pe_int (pe_cal C__law_draw (hr.mono (by decide)) rfl (pa_cons (pv 1) (pa_cons pe_int pa_nil)))) (pa_cons (pe_cal C__law_draw (hr.mono (by decide)) rfl (pa_cons (pv 1) (pa_cons pe_int pa_nil))) pa_nil)))))))
  (pss_cons (ps_set (i := 3) sc_law.nd rfl (by first | exact .inl rfl | exact .inr rfl) (pe_lst (pa_cons (pv 2) (pa_cons (pe_cal C__law_edge (hr.mono (by decide)) rfl (pa_cons (pv 1) (pa_cons pe_bl pa_nil))) (pa_cons (pe_cal C__law_edge (hr.mono (by decide)) rfl (pa_cons (pv 1) (pa_cons pe_bl pa_nil))) pa_nil)))))
  (pss_cons (ps_if (pt_cmpR op_eq (pe_cal C__law_draw (hr.mono (by decide)) rfl (pa_cons (pv 1) (pa_cons pe_int pa_nil))) pe_int (nomark _)) (pss_one (ps_expr (pe_bm PySem.F.plainAttrs_list PySem.F.slot_list_append PySem.F.type_list_append mt_append (pv 3) (pa_cons (pe_cal C__law_model (hr.mono (by decide)) rfl (pa_cons (pv 1) (pa_cons pe_int (pa_cons pe_int (pa_cons pe_int (pa_cons pe_int pa_nil)))))) pa_nil)))) pss_nil)
  (pss_cons (ps_for PassesOwn.never rfl (pi_list (pv 3)) (pg_name (i := 4) sc_law.nd rfl (by first | exact .inl rfl | exact .inr rfl))
  (pss_cons (ps_set (i := 5) sc_law.nd rfl (by first | exact .inl rfl | exact .inr rfl) (pe_op op_cat (pe_callTy call_listOf (by rfl) m_list (by decide +kernel) (pa_cons (pe_ix ix_tup (pv 4) pe_int (fun _ _ => rfl)) pa_nil)) (pe_callTy call_listOf (by rfl) m_list (by decide +kernel) (pa_cons (pe_ix ix_tup (pv 4) pe_int (fun _ _ => rfl)) pa_nil))))
  (pss_one (ps_if (PW.pt (pw_or (pt_not (pt_val (pe_cal C__law_told (hr.mono (by decide)) rfl (pa_cons (pv 4) (pa_cons (pv 5) (pa_cons pe_bl pa_nil)))))) (pw_or1 (pt_not (pt_val (pe_cal C__law_told (hr.mono (by decide)) rfl (pa_cons (pv 4) (pa_cons (pe_revL (pv 5)) (pa_cons pe_bl pa_nil))))))))) (pss_one (ps_ret pe_bl)) pss_nil))))
  (pss_one (ps_ret pe_bl)))))))
theorem FunD.plain {K : PySem.W.Frag} {x qual : Str} {st : Stmt} {f : Addr} {fd : FuncData} (F : FunD K x qual (defArgs st) (defBody st) (defScope st) [] [] f fd) : Fun K x qual st f fd := by
  obtain ⟨⟨oc, od, dV, kV, doc, pm, an, cdv, ct, osl, rfl, lk, hcd, hD, _⟩, kp⟩ := F
  rcases hD with ⟨_, rfl⟩ | ⟨e, _⟩
  · exact ⟨⟨oc, od, kV, doc, pm, an, cdv, ct, osl, rfl, lk, hcd⟩, kp⟩
  · exact absurd rfl e
theorem Fun.kb {K : PySem.W.Frag} {x qual : Str} {st : Stmt} {f : Addr} {fd : FuncData} {ps : List Str} (F : Fun K x qual st f fd) (h0 : 0 < ps.length)
    (h : ∀ (kV doc pm : Value) (an : Option Addr) (cdv ct : Value) (us : List Value), us.length = ps.length → bindArgs (PySem.W.fnOf x qual (defArgs st) (defBody st) (defScope st) .none kV doc pm an cdv ct) ⟨[], ps.zip us⟩ = pure (ps.zip us)) : KBinds K fd ps ps gK gK := by
  obtain ⟨oc, od, kV, doc, pm, an, cdv, ct, osl, rfl, lk, hcd⟩ := F.ex
  refine ⟨fun s us ws _ hl => ?_, fun {vs us zs ws} r rz => ?_⟩
  · cases us with
    | nil => exact .of_eq (h kV doc pm an cdv ct ws hl)
    | cons a r =>
      have : (0 : Nat) = ps.length := hl
      omega
  · cases r with
    | nil => exact rz
    | cons _ _ => exact .nil

end AW
namespace AW
open PySem PySem.Spec PyProof.Rows L2 RZ
open StX
theorem ckOf {P : Program} {w : World} {K : PySem.W.Frag} {mg : Str → Option Value} {base : Heap} {x qual : Str} {st : Stmt} {f : Addr} {fd : FuncData} {k : Nat} {ps : List Str} {sp : Sp} (C : FnOk P w K mg base CX0 k f fd ps sp) (F : Fun K x qual st f fd) (gf : mg x = some (.ref f)) (h0 : 0 < ps.length)
    (h : ∀ (kV doc pm : Value) (an : Option Addr) (cdv ct : Value) (us : List Value), us.length = ps.length → bindArgs (PySem.W.fnOf x qual (defArgs st) (defBody st) (defScope st) .none kV doc pm an cdv ct) ⟨[], ps.zip us⟩ = pure (ps.zip us)) : CalK P w K mg base x k ps ps gK sp :=
  ⟨f, fd, gK, C, F.kp, AW.Fun.kb F h0 h, gf⟩
theorem facts7 {P : Program} {w : World} {K : PySem.W.Frag} {h : Heap} {mg : Str → Option Value} {fa : Addr} (X : K.In h) (G : h.Ns mainGlobals mg) (hfa : mg "law" = some (.ref fa))
    {f0 : Addr} {od0 an0 : Option Addr} {sl0 : Array (Option Value)} {oc0 kV0 dc0 pm0 cd0 ct0 : Value} (a0 : PySem.W.nsIn K mainGlobals "inner_claims" = some (some (.ref f0))) (l0 : K.lookup f0 = some ⟨oc0, od0, .func (PySem.W.fnOf "inner_claims" "inner_claims" (defArgs (topS 6)) (defBody (topS 6)) (defScope (topS 6)) .none kV0 dc0 pm0 an0 cd0 ct0), sl0⟩) (c0 : PySem.W.codeIn K cd0 "inner_claims" = true) (k0 : PySem.W.keepIn K (.ref f0) = true)
    {f1 : Addr} {od1 an1 : Option Addr} {sl1 : Array (Option Value)} {oc1 kV1 dc1 pm1 cd1 ct1 : Value} (a1 : PySem.W.nsIn K mainGlobals "_standing_names" = some (some (.ref f1))) (l1 : K.lookup f1 = some ⟨oc1, od1, .func (PySem.W.fnOf "_standing_names" "_standing_names" (defArgs (topS 5)) (defBody (topS 5)) (defScope (topS 5)) .none kV1 dc1 pm1 an1 cd1 ct1), sl1⟩) (c1 : PySem.W.codeIn K cd1 "_standing_names" = true) (k1 : PySem.W.keepIn K (.ref f1) = true)
    {f2 : Addr} {od2 an2 : Option Addr} {sl2 : Array (Option Value)} {oc2 kV2 dc2 pm2 cd2 ct2 : Value} (a2 : PySem.W.nsIn K mainGlobals "claim_names" = some (some (.ref f2))) (l2 : K.lookup f2 = some ⟨oc2, od2, .func (PySem.W.fnOf "claim_names" "claim_names" (defArgs (topS 4)) (defBody (topS 4)) (defScope (topS 4)) .none kV2 dc2 pm2 an2 cd2 ct2), sl2⟩) (c2 : PySem.W.codeIn K cd2 "claim_names" = true) (k2 : PySem.W.keepIn K (.ref f2) = true)
    {f3 : Addr} {od3 an3 : Option Addr} {sl3 : Array (Option Value)} {oc3 kV3 dc3 pm3 cd3 ct3 : Value} (a3 : PySem.W.nsIn K mainGlobals "_outer_names" = some (some (.ref f3))) (l3 : K.lookup f3 = some ⟨oc3, od3, .func (PySem.W.fnOf "_outer_names" "_outer_names" (defArgs (topS 9)) (defBody (topS 9)) (defScope (topS 9)) .none kV3 dc3 pm3 an3 cd3 ct3), sl3⟩) (c3 : PySem.W.codeIn K cd3 "_outer_names" = true) (k3 : PySem.W.keepIn K (.ref f3) = true)
    {f4 : Addr} {od4 an4 : Option Addr} {sl4 : Array (Option Value)} {oc4 kV4 dc4 pm4 cd4 ct4 : Value} (a4 : PySem.W.nsIn K mainGlobals "own_names" = some (some (.ref f4))) (l4 : K.lookup f4 = some ⟨oc4, od4, .func (PySem.W.fnOf "own_names" "own_names" (defArgs (topS 8)) (defBody (topS 8)) (defScope (topS 8)) .none kV4 dc4 pm4 an4 cd4 ct4), sl4⟩) (c4 : PySem.W.codeIn K cd4 "own_names" = true) (k4 : PySem.W.keepIn K (.ref f4) = true)
    {f5 : Addr} {od5 an5 : Option Addr} {sl5 : Array (Option Value)} {oc5 kV5 dc5 pm5 cd5 ct5 : Value} (a5 : PySem.W.nsIn K mainGlobals "are_small" = some (some (.ref f5))) (l5 : K.lookup f5 = some ⟨oc5, od5, .func (PySem.W.fnOf "are_small" "are_small" (defArgs (topS 2)) (defBody (topS 2)) (defScope (topS 2)) .none kV5 dc5 pm5 an5 cd5 ct5), sl5⟩) (c5 : PySem.W.codeIn K cd5 "are_small" = true) (k5 : PySem.W.keepIn K (.ref f5) = true)
    {f6 : Addr} {od6 an6 : Option Addr} {sl6 : Array (Option Value)} {oc6 kV6 dc6 pm6 cd6 ct6 : Value} (a6 : PySem.W.nsIn K mainGlobals "domains_of" = some (some (.ref f6))) (l6 : K.lookup f6 = some ⟨oc6, od6, .func (PySem.W.fnOf "domains_of" "domains_of" (defArgs (topS 11)) (defBody (topS 11)) (defScope (topS 11)) .none kV6 dc6 pm6 an6 cd6 ct6), sl6⟩) (c6 : PySem.W.codeIn K cd6 "domains_of" = true) (k6 : PySem.W.keepIn K (.ref f6) = true)
    {f7 : Addr} {od7 an7 : Option Addr} {sl7 : Array (Option Value)} {oc7 kV7 dc7 pm7 cd7 ct7 : Value} (a7 : PySem.W.nsIn K mainGlobals "saying_of" = some (some (.ref f7))) (l7 : K.lookup f7 = some ⟨oc7, od7, .func (PySem.W.fnOf "saying_of" "saying_of" (defArgs (topS 12)) (defBody (topS 12)) (defScope (topS 12)) .none kV7 dc7 pm7 an7 cd7 ct7), sl7⟩) (c7 : PySem.W.codeIn K cd7 "saying_of" = true) (k7 : PySem.W.keepIn K (.ref f7) = true)
    {f8 : Addr} {od8 an8 : Option Addr} {sl8 : Array (Option Value)} {oc8 kV8 dc8 pm8 cd8 ct8 : Value} (a8 : PySem.W.nsIn K mainGlobals "unknowns_of" = some (some (.ref f8))) (l8 : K.lookup f8 = some ⟨oc8, od8, .func (PySem.W.fnOf "unknowns_of" "unknowns_of" (defArgs (topS 13)) (defBody (topS 13)) (defScope (topS 13)) .none kV8 dc8 pm8 an8 cd8 ct8), sl8⟩) (c8 : PySem.W.codeIn K cd8 "unknowns_of" = true) (k8 : PySem.W.keepIn K (.ref f8) = true)
    {f9 : Addr} {od9 an9 : Option Addr} {sl9 : Array (Option Value)} {oc9 kV9 dc9 pm9 cd9 ct9 : Value} (a9 : PySem.W.nsIn K mainGlobals "is_small" = some (some (.ref f9))) (l9 : K.lookup f9 = some ⟨oc9, od9, .func (PySem.W.fnOf "is_small" "is_small" (defArgs (topS 14)) (defBody (topS 14)) (defScope (topS 14)) .none kV9 dc9 pm9 an9 cd9 ct9), sl9⟩) (c9 : PySem.W.codeIn K cd9 "is_small" = true) (k9 : PySem.W.keepIn K (.ref f9) = true)
    {f10 : Addr} {od10 an10 : Option Addr} {sl10 : Array (Option Value)} {oc10 kV10 dc10 pm10 cd10 ct10 : Value} (a10 : PySem.W.nsIn K mainGlobals "_law_bag" = some (some (.ref f10))) (l10 : K.lookup f10 = some ⟨oc10, od10, .func (PySem.W.fnOf "_law_bag" "_law_bag" (defArgs (topS 16)) (defBody (topS 16)) (defScope (topS 16)) .none kV10 dc10 pm10 an10 cd10 ct10), sl10⟩) (c10 : PySem.W.codeIn K cd10 "_law_bag" = true) (k10 : PySem.W.keepIn K (.ref f10) = true)
    {f11 : Addr} {od11 an11 : Option Addr} {sl11 : Array (Option Value)} {oc11 kV11 dc11 pm11 cd11 ct11 : Value} (a11 : PySem.W.nsIn K mainGlobals "_law_draw" = some (some (.ref f11))) (l11 : K.lookup f11 = some ⟨oc11, od11, .func (PySem.W.fnOf "_law_draw" "_law_draw" (defArgs (topS 17)) (defBody (topS 17)) (defScope (topS 17)) .none kV11 dc11 pm11 an11 cd11 ct11), sl11⟩) (c11 : PySem.W.codeIn K cd11 "_law_draw" = true) (k11 : PySem.W.keepIn K (.ref f11) = true)
    {f12 : Addr} {od12 an12 : Option Addr} {sl12 : Array (Option Value)} {oc12 kV12 dc12 pm12 cd12 ct12 : Value} (a12 : PySem.W.nsIn K mainGlobals "_law_pick" = some (some (.ref f12))) (l12 : K.lookup f12 = some ⟨oc12, od12, .func (PySem.W.fnOf "_law_pick" "_law_pick" (defArgs (topS 18)) (defBody (topS 18)) (defScope (topS 18)) .none kV12 dc12 pm12 an12 cd12 ct12), sl12⟩) (c12 : PySem.W.codeIn K cd12 "_law_pick" = true) (k12 : PySem.W.keepIn K (.ref f12) = true)
    {f13 : Addr} {od13 an13 : Option Addr} {sl13 : Array (Option Value)} {oc13 kV13 dc13 pm13 cd13 ct13 : Value} (a13 : PySem.W.nsIn K mainGlobals "_law_some" = some (some (.ref f13))) (l13 : K.lookup f13 = some ⟨oc13, od13, .func (PySem.W.fnOf "_law_some" "_law_some" (defArgs (topS 19)) (defBody (topS 19)) (defScope (topS 19)) .none kV13 dc13 pm13 an13 cd13 ct13), sl13⟩) (c13 : PySem.W.codeIn K cd13 "_law_some" = true) (k13 : PySem.W.keepIn K (.ref f13) = true)
    {f14 : Addr} {od14 an14 : Option Addr} {sl14 : Array (Option Value)} {oc14 kV14 dc14 pm14 cd14 ct14 : Value} (a14 : PySem.W.nsIn K mainGlobals "_law_same" = some (some (.ref f14))) (l14 : K.lookup f14 = some ⟨oc14, od14, .func (PySem.W.fnOf "_law_same" "_law_same" (defArgs (topS 20)) (defBody (topS 20)) (defScope (topS 20)) .none kV14 dc14 pm14 an14 cd14 ct14), sl14⟩) (c14 : PySem.W.codeIn K cd14 "_law_same" = true) (k14 : PySem.W.keepIn K (.ref f14) = true)
    {f15 : Addr} {od15 an15 : Option Addr} {sl15 : Array (Option Value)} {oc15 kV15 dc15 pm15 cd15 ct15 : Value} (a15 : PySem.W.nsIn K mainGlobals "_law_names" = some (some (.ref f15))) (l15 : K.lookup f15 = some ⟨oc15, od15, .func (PySem.W.fnOf "_law_names" "_law_names" (defArgs (topS 21)) (defBody (topS 21)) (defScope (topS 21)) .none kV15 dc15 pm15 an15 cd15 ct15), sl15⟩) (c15 : PySem.W.codeIn K cd15 "_law_names" = true) (k15 : PySem.W.keepIn K (.ref f15) = true)
    {f16 : Addr} {od16 an16 : Option Addr} {sl16 : Array (Option Value)} {oc16 kV16 dc16 pm16 cd16 ct16 : Value} (a16 : PySem.W.nsIn K mainGlobals "_law_domain" = some (some (.ref f16))) (l16 : K.lookup f16 = some ⟨oc16, od16, .func (PySem.W.fnOf "_law_domain" "_law_domain" (defArgs (topS 22)) (defBody (topS 22)) (defScope (topS 22)) .none kV16 dc16 pm16 an16 cd16 ct16), sl16⟩) (c16 : PySem.W.codeIn K cd16 "_law_domain" = true) (k16 : PySem.W.keepIn K (.ref f16) = true)
    {f17 : Addr} {od17 an17 : Option Addr} {sl17 : Array (Option Value)} {oc17 kV17 dc17 pm17 cd17 ct17 : Value} (a17 : PySem.W.nsIn K mainGlobals "_law_near" = some (some (.ref f17))) (l17 : K.lookup f17 = some ⟨oc17, od17, .func (PySem.W.fnOf "_law_near" "_law_near" (defArgs (topS 23)) (defBody (topS 23)) (defScope (topS 23)) .none kV17 dc17 pm17 an17 cd17 ct17), sl17⟩) (c17 : PySem.W.codeIn K cd17 "_law_near" = true) (k17 : PySem.W.keepIn K (.ref f17) = true)
    {f18 : Addr} {od18 an18 : Option Addr} {sl18 : Array (Option Value)} {oc18 kV18 dc18 pm18 cd18 ct18 : Value} (a18 : PySem.W.nsIn K mainGlobals "_law_lot" = some (some (.ref f18))) (l18 : K.lookup f18 = some ⟨oc18, od18, .func (PySem.W.fnOf "_law_lot" "_law_lot" (defArgs (topS 24)) (defBody (topS 24)) (defScope (topS 24)) .none kV18 dc18 pm18 an18 cd18 ct18), sl18⟩) (c18 : PySem.W.codeIn K cd18 "_law_lot" = true) (k18 : PySem.W.keepIn K (.ref f18) = true)
    {f19 : Addr} {od19 an19 : Option Addr} {sl19 : Array (Option Value)} {oc19 kV19 dc19 pm19 cd19 ct19 : Value} (a19 : PySem.W.nsIn K mainGlobals "_law_claim_names" = some (some (.ref f19))) (l19 : K.lookup f19 = some ⟨oc19, od19, .func (PySem.W.fnOf "_law_claim_names" "_law_claim_names" (defArgs (topS 27)) (defBody (topS 27)) (defScope (topS 27)) .none kV19 dc19 pm19 an19 cd19 ct19), sl19⟩) (c19 : PySem.W.codeIn K cd19 "_law_claim_names" = true) (k19 : PySem.W.keepIn K (.ref f19) = true)
    {f20 : Addr} {od20 an20 : Option Addr} {sl20 : Array (Option Value)} {oc20 kV20 dc20 pm20 cd20 ct20 : Value} (a20 : PySem.W.nsIn K mainGlobals "_law_claim" = some (some (.ref f20))) (l20 : K.lookup f20 = some ⟨oc20, od20, .func (PySem.W.fnOf "_law_claim" "_law_claim" (defArgs (topS 25)) (defBody (topS 25)) (defScope (topS 25)) .none kV20 dc20 pm20 an20 cd20 ct20), sl20⟩) (c20 : PySem.W.codeIn K cd20 "_law_claim" = true) (k20 : PySem.W.keepIn K (.ref f20) = true)
    {f21 : Addr} {od21 an21 : Option Addr} {sl21 : Array (Option Value)} {oc21 kV21 dc21 pm21 cd21 ct21 : Value} (a21 : PySem.W.nsIn K mainGlobals "_law_right_claim" = some (some (.ref f21))) (l21 : K.lookup f21 = some ⟨oc21, od21, .func (PySem.W.fnOf "_law_right_claim" "_law_right_claim" (defArgs (topS 26)) (defBody (topS 26)) (defScope (topS 26)) .none kV21 dc21 pm21 an21 cd21 ct21), sl21⟩) (c21 : PySem.W.codeIn K cd21 "_law_right_claim" = true) (k21 : PySem.W.keepIn K (.ref f21) = true)
    {f22 : Addr} {od22 an22 : Option Addr} {sl22 : Array (Option Value)} {oc22 kV22 dc22 pm22 cd22 ct22 : Value} (a22 : PySem.W.nsIn K mainGlobals "_law_own" = some (some (.ref f22))) (l22 : K.lookup f22 = some ⟨oc22, od22, .func (PySem.W.fnOf "_law_own" "_law_own" (defArgs (topS 28)) (defBody (topS 28)) (defScope (topS 28)) .none kV22 dc22 pm22 an22 cd22 ct22), sl22⟩) (c22 : PySem.W.codeIn K cd22 "_law_own" = true) (k22 : PySem.W.keepIn K (.ref f22) = true)
    {f23 : Addr} {od23 an23 : Option Addr} {sl23 : Array (Option Value)} {oc23 kV23 dc23 pm23 cd23 ct23 : Value} (a23 : PySem.W.nsIn K mainGlobals "_law_ascending" = some (some (.ref f23))) (l23 : K.lookup f23 = some ⟨oc23, od23, .func (PySem.W.fnOf "_law_ascending" "_law_ascending" (defArgs (topS 29)) (defBody (topS 29)) (defScope (topS 29)) .none kV23 dc23 pm23 an23 cd23 ct23), sl23⟩) (c23 : PySem.W.codeIn K cd23 "_law_ascending" = true) (k23 : PySem.W.keepIn K (.ref f23) = true)
    {f24 : Addr} {od24 an24 : Option Addr} {sl24 : Array (Option Value)} {oc24 kV24 dc24 pm24 cd24 ct24 : Value} (a24 : PySem.W.nsIn K mainGlobals "_law_weight" = some (some (.ref f24))) (l24 : K.lookup f24 = some ⟨oc24, od24, .func (PySem.W.fnOf "_law_weight" "_law_weight" (defArgs (topS 30)) (defBody (topS 30)) (defScope (topS 30)) .none kV24 dc24 pm24 an24 cd24 ct24), sl24⟩) (c24 : PySem.W.codeIn K cd24 "_law_weight" = true) (k24 : PySem.W.keepIn K (.ref f24) = true)
    {f25 : Addr} {od25 an25 : Option Addr} {sl25 : Array (Option Value)} {oc25 kV25 dc25 pm25 cd25 ct25 : Value} (a25 : PySem.W.nsIn K mainGlobals "_law_sum" = some (some (.ref f25))) (l25 : K.lookup f25 = some ⟨oc25, od25, .func (PySem.W.fnOf "_law_sum" "_law_sum" (defArgs (topS 31)) (defBody (topS 31)) (defScope (topS 31)) .none kV25 dc25 pm25 an25 cd25 ct25), sl25⟩) (c25 : PySem.W.codeIn K cd25 "_law_sum" = true) (k25 : PySem.W.keepIn K (.ref f25) = true)
    {f26 : Addr} {od26 an26 : Option Addr} {sl26 : Array (Option Value)} {oc26 kV26 dc26 pm26 cd26 ct26 : Value} (a26 : PySem.W.nsIn K mainGlobals "_law_rows" = some (some (.ref f26))) (l26 : K.lookup f26 = some ⟨oc26, od26, .func (PySem.W.fnOf "_law_rows" "_law_rows" (defArgs (topS 32)) (defBody (topS 32)) (defScope (topS 32)) .none kV26 dc26 pm26 an26 cd26 ct26), sl26⟩) (c26 : PySem.W.codeIn K cd26 "_law_rows" = true) (k26 : PySem.W.keepIn K (.ref f26) = true)
    {f27 : Addr} {od27 an27 : Option Addr} {sl27 : Array (Option Value)} {oc27 kV27 dc27 pm27 cd27 ct27 : Value} (a27 : PySem.W.nsIn K mainGlobals "_law_machine" = some (some (.ref f27))) (l27 : K.lookup f27 = some ⟨oc27, od27, .func (PySem.W.fnOf "_law_machine" "_law_machine" (defArgs (topS 33)) (defBody (topS 33)) (defScope (topS 33)) .none kV27 dc27 pm27 an27 cd27 ct27), sl27⟩) (c27 : PySem.W.codeIn K cd27 "_law_machine" = true) (k27 : PySem.W.keepIn K (.ref f27) = true)
    {f28 : Addr} {od28 an28 : Option Addr} {sl28 : Array (Option Value)} {oc28 kV28 dc28 pm28 cd28 ct28 : Value} (a28 : PySem.W.nsIn K mainGlobals "_law_counted" = some (some (.ref f28))) (l28 : K.lookup f28 = some ⟨oc28, od28, .func (PySem.W.fnOf "_law_counted" "_law_counted" (defArgs (topS 34)) (defBody (topS 34)) (defScope (topS 34)) .none kV28 dc28 pm28 an28 cd28 ct28), sl28⟩) (c28 : PySem.W.codeIn K cd28 "_law_counted" = true) (k28 : PySem.W.keepIn K (.ref f28) = true)
    {f29 : Addr} {od29 an29 : Option Addr} {sl29 : Array (Option Value)} {oc29 kV29 dc29 pm29 cd29 ct29 : Value} (a29 : PySem.W.nsIn K mainGlobals "_law_works" = some (some (.ref f29))) (l29 : K.lookup f29 = some ⟨oc29, od29, .func (PySem.W.fnOf "_law_works" "_law_works" (defArgs (topS 35)) (defBody (topS 35)) (defScope (topS 35)) .none kV29 dc29 pm29 an29 cd29 ct29), sl29⟩) (c29 : PySem.W.codeIn K cd29 "_law_works" = true) (k29 : PySem.W.keepIn K (.ref f29) = true)
    {f30 : Addr} {od30 an30 : Option Addr} {sl30 : Array (Option Value)} {oc30 kV30 dc30 pm30 cd30 ct30 : Value} (a30 : PySem.W.nsIn K mainGlobals "_law_inner" = some (some (.ref f30))) (l30 : K.lookup f30 = some ⟨oc30, od30, .func (PySem.W.fnOf "_law_inner" "_law_inner" (defArgs (topS 36)) (defBody (topS 36)) (defScope (topS 36)) .none kV30 dc30 pm30 an30 cd30 ct30), sl30⟩) (c30 : PySem.W.codeIn K cd30 "_law_inner" = true) (k30 : PySem.W.keepIn K (.ref f30) = true)
    {f31 : Addr} {od31 an31 : Option Addr} {sl31 : Array (Option Value)} {oc31 kV31 dc31 pm31 cd31 ct31 : Value} (a31 : PySem.W.nsIn K mainGlobals "_law_apart" = some (some (.ref f31))) (l31 : K.lookup f31 = some ⟨oc31, od31, .func (PySem.W.fnOf "_law_apart" "_law_apart" (defArgs (topS 37)) (defBody (topS 37)) (defScope (topS 37)) .none kV31 dc31 pm31 an31 cd31 ct31), sl31⟩) (c31 : PySem.W.codeIn K cd31 "_law_apart" = true) (k31 : PySem.W.keepIn K (.ref f31) = true)
    {f32 : Addr} {od32 an32 : Option Addr} {sl32 : Array (Option Value)} {oc32 kV32 dc32 pm32 cd32 ct32 : Value} (a32 : PySem.W.nsIn K mainGlobals "_law_kinds" = some (some (.ref f32))) (l32 : K.lookup f32 = some ⟨oc32, od32, .func (PySem.W.fnOf "_law_kinds" "_law_kinds" (defArgs (topS 39)) (defBody (topS 39)) (defScope (topS 39)) .none kV32 dc32 pm32 an32 cd32 ct32), sl32⟩) (c32 : PySem.W.codeIn K cd32 "_law_kinds" = true) (k32 : PySem.W.keepIn K (.ref f32) = true)
    {f33 : Addr} {od33 an33 : Option Addr} {sl33 : Array (Option Value)} {oc33 kV33 dc33 pm33 cd33 ct33 : Value} (a33 : PySem.W.nsIn K mainGlobals "_law_saying" = some (some (.ref f33))) (l33 : K.lookup f33 = some ⟨oc33, od33, .func (PySem.W.fnOf "_law_saying" "_law_saying" (defArgs (topS 38)) (defBody (topS 38)) (defScope (topS 38)) .none kV33 dc33 pm33 an33 cd33 ct33), sl33⟩) (c33 : PySem.W.codeIn K cd33 "_law_saying" = true) (k33 : PySem.W.keepIn K (.ref f33) = true)
    {f34 : Addr} {od34 an34 : Option Addr} {sl34 : Array (Option Value)} {oc34 kV34 dc34 pm34 cd34 ct34 : Value} (a34 : PySem.W.nsIn K mainGlobals "_law_model" = some (some (.ref f34))) (l34 : K.lookup f34 = some ⟨oc34, od34, .func (PySem.W.fnOf "_law_model" "_law_model" (defArgs (topS 40)) (defBody (topS 40)) (defScope (topS 40)) .none kV34 dc34 pm34 an34 cd34 ct34), sl34⟩) (c34 : PySem.W.codeIn K cd34 "_law_model" = true) (k34 : PySem.W.keepIn K (.ref f34) = true)
    {f35 : Addr} {od35 an35 : Option Addr} {sl35 : Array (Option Value)} {oc35 kV35 dc35 pm35 cd35 ct35 : Value} (a35 : PySem.W.nsIn K mainGlobals "_law_sizes" = some (some (.ref f35))) (l35 : K.lookup f35 = some ⟨oc35, od35, .func (PySem.W.fnOf "_law_sizes" "_law_sizes" (defArgs (topS 41)) (defBody (topS 41)) (defScope (topS 41)) .none kV35 dc35 pm35 an35 cd35 ct35), sl35⟩) (c35 : PySem.W.codeIn K cd35 "_law_sizes" = true) (k35 : PySem.W.keepIn K (.ref f35) = true)
    {f36 : Addr} {od36 an36 : Option Addr} {sl36 : Array (Option Value)} {oc36 kV36 dc36 pm36 cd36 ct36 : Value} (a36 : PySem.W.nsIn K mainGlobals "_law_over_all" = some (some (.ref f36))) (l36 : K.lookup f36 = some ⟨oc36, od36, .func (PySem.W.fnOf "_law_over_all" "_law_over_all" (defArgs (topS 42)) (defBody (topS 42)) (defScope (topS 42)) .none kV36 dc36 pm36 an36 cd36 ct36), sl36⟩) (c36 : PySem.W.codeIn K cd36 "_law_over_all" = true) (k36 : PySem.W.keepIn K (.ref f36) = true)
    {f37 : Addr} {od37 an37 : Option Addr} {sl37 : Array (Option Value)} {oc37 kV37 dc37 pm37 cd37 ct37 : Value} (a37 : PySem.W.nsIn K mainGlobals "_law_edge" = some (some (.ref f37))) (l37 : K.lookup f37 = some ⟨oc37, od37, .func (PySem.W.fnOf "_law_edge" "_law_edge" (defArgs (topS 43)) (defBody (topS 43)) (defScope (topS 43)) .none kV37 dc37 pm37 an37 cd37 ct37), sl37⟩) (c37 : PySem.W.codeIn K cd37 "_law_edge" = true) (k37 : PySem.W.keepIn K (.ref f37) = true)
    {f38 : Addr} {od38 an38 : Option Addr} {sl38 : Array (Option Value)} {oc38 kV38 dc38 pm38 cd38 ct38 : Value} (a38 : PySem.W.nsIn K mainGlobals "_law_told" = some (some (.ref f38))) (l38 : K.lookup f38 = some ⟨oc38, od38, .func (PySem.W.fnOf "_law_told" "_law_told" (defArgs (topS 44)) (defBody (topS 44)) (defScope (topS 44)) .none kV38 dc38 pm38 an38 cd38 ct38), sl38⟩) (c38 : PySem.W.codeIn K cd38 "_law_told" = true) (k38 : PySem.W.keepIn K (.ref f38) = true)
    {f39 : Addr} {od39 an39 : Option Addr} {sl39 : Array (Option Value)} {oc39 kV39 dc39 pm39 cd39 ct39 : Value} (a39 : PySem.W.nsIn K mainGlobals "law" = some (some (.ref f39))) (l39 : K.lookup f39 = some ⟨oc39, od39, .func (PySem.W.fnOf "law" "law" (defArgs (topS 45)) (defBody (topS 45)) (defScope (topS 45)) .none kV39 dc39 pm39 an39 cd39 ct39), sl39⟩) (c39 : PySem.W.codeIn K cd39 "law" = true) (k39 : PySem.W.keepIn K (.ref f39) = true)
    (z_abs : PySem.W.nsIn K mainGlobals "abs" = some none)
    (z_bool : PySem.W.nsIn K mainGlobals "bool" = some none)
    (z_int : PySem.W.nsIn K mainGlobals "int" = some none)
    (z_isinstance : PySem.W.nsIn K mainGlobals "isinstance" = some none)
    (z_len : PySem.W.nsIn K mainGlobals "len" = some none)
    (z_list : PySem.W.nsIn K mainGlobals "list" = some none)
    (z_max : PySem.W.nsIn K mainGlobals "max" = some none)
    (z_min : PySem.W.nsIn K mainGlobals "min" = some none)
    (z_range : PySem.W.nsIn K mainGlobals "range" = some none)
    (z_sorted : PySem.W.nsIn K mainGlobals "sorted" = some none)
    (z_str : PySem.W.nsIn K mainGlobals "str" = some none)
    (z_sum : PySem.W.nsIn K mainGlobals "sum" = some none)
    (z_tuple : PySem.W.nsIn K mainGlobals "tuple" = some none)
    {tSB : Tok} (aSB : PySem.W.nsIn K mainGlobals "SMALL_BOUND" = some (some (.int 256 tSB))) :
    ∃ fd : FuncData, (∀ (s : Shared) (v : Value), BindsTo s fd ⟨[v], []⟩ [("script", v)]) ∧ ∀ base : Heap, K.In base → base.Ns mainGlobals mg → FnOk P w K mg base CX0 17 fa fd ["script"] (sp_law K) := by
  have F_inner_claims := fun_mk (st := topS 6) l0 c0 k0
  have G_inner_claims := PySem.W.mg_of X G a0
  have F__standing_names := fun_mk (st := topS 5) l1 c1 k1
  have G__standing_names := PySem.W.mg_of X G a1
  have F_claim_names := fun_mk (st := topS 4) l2 c2 k2
  have G_claim_names := PySem.W.mg_of X G a2
  have F__outer_names := fun_mk (st := topS 9) l3 c3 k3
  have G__outer_names := PySem.W.mg_of X G a3
  have F_own_names := fun_mk (st := topS 8) l4 c4 k4
  have G_own_names := PySem.W.mg_of X G a4
  have F_are_small := fun_mk (st := topS 2) l5 c5 k5
  have G_are_small := PySem.W.mg_of X G a5
  have F_domains_of := fun_mk (st := topS 11) l6 c6 k6
  have G_domains_of := PySem.W.mg_of X G a6
  have F_saying_of := fun_mk (st := topS 12) l7 c7 k7
  have G_saying_of := PySem.W.mg_of X G a7
  have F_unknowns_of := fun_mk (st := topS 13) l8 c8 k8
  have G_unknowns_of := PySem.W.mg_of X G a8
  have F_is_small := fun_mk (st := topS 14) l9 c9 k9
  have G_is_small := PySem.W.mg_of X G a9
  have F__law_bag := fun_mk (st := topS 16) l10 c10 k10
  have G__law_bag := PySem.W.mg_of X G a10
  have F__law_draw := fun_mk (st := topS 17) l11 c11 k11
  have G__law_draw := PySem.W.mg_of X G a11
  have F__law_pick := fun_mk (st := topS 18) l12 c12 k12
  have G__law_pick := PySem.W.mg_of X G a12
  have F__law_some := fun_mk (st := topS 19) l13 c13 k13
  have G__law_some := PySem.W.mg_of X G a13
  have F__law_same := fun_mk (st := topS 20) l14 c14 k14
  have G__law_same := PySem.W.mg_of X G a14
  have F__law_names := fun_mk (st := topS 21) l15 c15 k15
  have G__law_names := PySem.W.mg_of X G a15
  have F__law_domain := fun_mk (st := topS 22) l16 c16 k16
  have G__law_domain := PySem.W.mg_of X G a16
  have F__law_near := fun_mk (st := topS 23) l17 c17 k17
  have G__law_near := PySem.W.mg_of X G a17
  have F__law_lot := fun_mk (st := topS 24) l18 c18 k18
  have G__law_lot := PySem.W.mg_of X G a18
  have F__law_claim_names := fun_mk (st := topS 27) l19 c19 k19
  have G__law_claim_names := PySem.W.mg_of X G a19
  have F__law_claim := fun_mk (st := topS 25) l20 c20 k20
  have G__law_claim := PySem.W.mg_of X G a20
  have F__law_right_claim := fun_mk (st := topS 26) l21 c21 k21
  have G__law_right_claim := PySem.W.mg_of X G a21
  have F__law_own := fun_mk (st := topS 28) l22 c22 k22
  have G__law_own := PySem.W.mg_of X G a22
  have F__law_ascending := fun_mk (st := topS 29) l23 c23 k23
  have G__law_ascending := PySem.W.mg_of X G a23
  have F__law_weight := fun_mk (st := topS 30) l24 c24 k24
  have G__law_weight := PySem.W.mg_of X G a24
  have F__law_sum := fun_mk (st := topS 31) l25 c25 k25
  have G__law_sum := PySem.W.mg_of X G a25
  have F__law_rows := fun_mk (st := topS 32) l26 c26 k26
  have G__law_rows := PySem.W.mg_of X G a26
  have F__law_machine := fun_mk (st := topS 33) l27 c27 k27
  have G__law_machine := PySem.W.mg_of X G a27
  have F__law_counted := fun_mk (st := topS 34) l28 c28 k28
  have G__law_counted := PySem.W.mg_of X G a28
  have F__law_works := fun_mk (st := topS 35) l29 c29 k29
  have G__law_works := PySem.W.mg_of X G a29
  have F__law_inner := fun_mk (st := topS 36) l30 c30 k30
  have G__law_inner := PySem.W.mg_of X G a30
  have F__law_apart := fun_mk (st := topS 37) l31 c31 k31
  have G__law_apart := PySem.W.mg_of X G a31
  have F__law_kinds := fun_mk (st := topS 39) l32 c32 k32
  have G__law_kinds := PySem.W.mg_of X G a32
  have F__law_saying := fun_mk (st := topS 38) l33 c33 k33
  have G__law_saying := PySem.W.mg_of X G a33
  have F__law_model := fun_mk (st := topS 40) l34 c34 k34
  have G__law_model := PySem.W.mg_of X G a34
  have F__law_sizes := fun_mk (st := topS 41) l35 c35 k35
  have G__law_sizes := PySem.W.mg_of X G a35
  have F__law_over_all := fun_mk (st := topS 42) l36 c36 k36
  have G__law_over_all := PySem.W.mg_of X G a36
  have F__law_edge := fun_mk (st := topS 43) l37 c37 k37
  have G__law_edge := PySem.W.mg_of X G a37
  have F__law_told := fun_mk (st := topS 44) l38 c38 k38
  have G__law_told := PySem.W.mg_of X G a38
  have F_law := fun_mk (st := topS 45) l39 c39 k39
  have G_law := PySem.W.mg_of X G a39
  have m_abs := PySem.W.mg_none_of X G z_abs
  have m_bool := PySem.W.mg_none_of X G z_bool
  have m_int := PySem.W.mg_none_of X G z_int
  have m_isinstance := PySem.W.mg_none_of X G z_isinstance
  have m_len := PySem.W.mg_none_of X G z_len
  have m_list := PySem.W.mg_none_of X G z_list
  have m_max := PySem.W.mg_none_of X G z_max
  have m_min := PySem.W.mg_none_of X G z_min
  have m_range := PySem.W.mg_none_of X G z_range
  have m_sorted := PySem.W.mg_none_of X G z_sorted
  have m_str := PySem.W.mg_none_of X G z_str
  have m_sum := PySem.W.mg_none_of X G z_sum
  have m_tuple := PySem.W.mg_none_of X G z_tuple
  have G_SMALL_BOUND := PySem.W.mg_of X G aSB
  have e := hfa.symm.trans G_law
  cases e
  refine ⟨PySem.W.fnOf "law" "law" (defArgs (topS 45)) (defBody (topS 45)) (defScope (topS 45)) .none kV39 dc39 pm39 an39 cd39 ct39, fun s v => .of_eq rfl, fun base _ _ => ?_⟩
  have C_inner_claims := ok_inner_claims (P := P) (w := w) (base := base) F_inner_claims G_inner_claims    
  have C__standing_names := ok__standing_names (P := P) (w := w) (base := base) F__standing_names G__standing_names C_inner_claims   
  have C_claim_names := ok_claim_names (P := P) (w := w) (base := base) F_claim_names G_claim_names C__standing_names  m_tuple 
  have C__outer_names := ok__outer_names (P := P) (w := w) (base := base) F__outer_names G__outer_names   m_tuple 
  have C_own_names := ok_own_names (P := P) (w := w) (base := base) F_own_names G_own_names C__outer_names C_claim_names  m_tuple 
  have C_are_small := ok_are_small (P := P) (w := w) (base := base) F_are_small G_are_small   m_len G_SMALL_BOUND ⟨_, rfl⟩
  have C_domains_of := ok_domains_of (P := P) (w := w) (base := base) F_domains_of G_domains_of    
  have C_saying_of := ok_saying_of (P := P) (w := w) (base := base) F_saying_of G_saying_of    
  have N_unknowns_of := ok_unknowns_of (P := P) (w := w) (base := base) F_unknowns_of G_unknowns_of C_own_names C_saying_of  m_sorted m_tuple 
  have C_unknowns_of : Cal P w K mg base "unknowns_of" 15 ["model", "name"] (sp_unknowns_of K) := ⟨_, _, N_unknowns_of, F_unknowns_of.kp, F_unknowns_of.binds (fun _ _ _ _ _ _ us hl => match us, hl with | [_, _], _ => rfl), G_unknowns_of⟩
  have CK_unknowns_of : CalK P w K mg base "unknowns_of" 15 ["model", "name"] ["model", "name"] gK (sp_unknowns_of K) := ckOf N_unknowns_of F_unknowns_of G_unknowns_of (by decide) (fun _ _ _ _ _ _ us hl => match us, hl with | [_, _], _ => rfl)
  have N_is_small := ok_is_small (P := P) (w := w) (base := base) F_is_small G_is_small C_are_small C_domains_of C_own_names C_saying_of   
  have C_is_small : Cal P w K mg base "is_small" 15 ["model", "name"] (sp_is_small K) := ⟨_, _, N_is_small, F_is_small.kp, F_is_small.binds (fun _ _ _ _ _ _ us hl => match us, hl with | [_, _], _ => rfl), G_is_small⟩
  have CK_is_small : CalK P w K mg base "is_small" 15 ["model", "name"] ["model", "name"] gK (sp_is_small K) := ckOf N_is_small F_is_small G_is_small (by decide) (fun _ _ _ _ _ _ us hl => match us, hl with | [_, _], _ => rfl)
  have C__law_bag := ok__law_bag (P := P) (w := w) (base := base) F__law_bag G__law_bag   m_abs m_int 
  have C__law_draw := ok__law_draw (P := P) (w := w) (base := base) F__law_draw G__law_draw   m_int m_len 
  have C__law_pick := ok__law_pick (P := P) (w := w) (base := base) F__law_pick G__law_pick C__law_draw  m_len 
  have C__law_some := ok__law_some (P := P) (w := w) (base := base) F__law_some G__law_some C__law_draw  m_len m_list m_range 
  have C__law_same := ok__law_same (P := P) (w := w) (base := base) F__law_same G__law_same   m_bool m_int m_isinstance m_len m_range m_str m_tuple 
  have C__law_names := ok__law_names (P := P) (w := w) (base := base) F__law_names G__law_names C__law_draw C__law_pick C__law_some  m_int m_list m_range m_str 
  have C__law_domain := ok__law_domain (P := P) (w := w) (base := base) F__law_domain G__law_domain C__law_draw C__law_pick  m_range m_tuple 
  have C__law_near := ok__law_near (P := P) (w := w) (base := base) F__law_near G__law_near C__law_draw C__law_pick  m_max m_min 
  have C__law_lot := ok__law_lot (P := P) (w := w) (base := base) F__law_lot G__law_lot C__law_some  m_len 
  have C__law_claim_names := ok__law_claim_names (P := P) (w := w) (base := base) F__law_claim_names G__law_claim_names    
  have C__law_claim := ok__law_claim (P := P) (w := w) (base := base) F__law_claim G__law_claim C__law_draw C__law_near C__law_pick  m_range m_tuple 
  have C__law_right_claim := ok__law_right_claim (P := P) (w := w) (base := base) F__law_right_claim G__law_right_claim C__law_claim C__law_claim_names C__law_draw C__law_near C__law_pick  m_len 
  have C__law_own := ok__law_own (P := P) (w := w) (base := base) F__law_own G__law_own C__law_claim_names  m_list 
  have C__law_ascending := ok__law_ascending (P := P) (w := w) (base := base) F__law_ascending G__law_ascending   m_sorted m_tuple 
  have C__law_weight := ok__law_weight (P := P) (w := w) (base := base) F__law_weight G__law_weight C__law_draw C__law_pick   
  have C__law_sum := ok__law_sum (P := P) (w := w) (base := base) F__law_sum G__law_sum C__law_draw C__law_pick C__law_weight  m_len m_range m_tuple 
  have C__law_rows := ok__law_rows (P := P) (w := w) (base := base) F__law_rows G__law_rows C__law_draw C__law_near C__law_pick  m_range m_sorted m_tuple 
  have C__law_machine := ok__law_machine (P := P) (w := w) (base := base) F__law_machine G__law_machine C__law_ascending C__law_draw C__law_near C__law_pick C__law_some  m_len m_range m_sorted m_tuple 
  have C__law_counted := ok__law_counted (P := P) (w := w) (base := base) F__law_counted G__law_counted C__law_draw C__law_near C__law_pick  m_min m_range m_sorted m_tuple 
  have C__law_works := ok__law_works (P := P) (w := w) (base := base) F__law_works G__law_works C__law_draw C__law_pick  m_max m_sum m_tuple 
  have C__law_inner := ok__law_inner (P := P) (w := w) (base := base) F__law_inner G__law_inner C__law_counted C__law_draw C__law_lot C__law_machine C__law_rows C__law_some C__law_sum C__law_works  m_len m_min m_tuple 
  have C__law_apart := ok__law_apart (P := P) (w := w) (base := base) F__law_apart G__law_apart C__law_right_claim C__law_some   
  have C__law_kinds := ok__law_kinds (P := P) (w := w) (base := base) F__law_kinds G__law_kinds    
  have C__law_saying := ok__law_saying (P := P) (w := w) (base := base) F__law_saying G__law_saying C__law_apart C__law_draw C__law_inner C__law_kinds C__law_lot C__law_pick C__law_right_claim  m_len 
  have C__law_model := ok__law_model (P := P) (w := w) (base := base) F__law_model G__law_model C__law_domain C__law_draw C__law_kinds C__law_names C__law_pick C__law_saying C__law_some  m_min m_range m_tuple 
  have C__law_sizes := ok__law_sizes (P := P) (w := w) (base := base) F__law_sizes G__law_sizes C__law_pick C__law_some  m_len 
  have C__law_over_all := ok__law_over_all (P := P) (w := w) (base := base) F__law_over_all G__law_over_all C__law_draw C__law_pick  m_int m_len m_tuple 
  have C__law_edge := ok__law_edge (P := P) (w := w) (base := base) F__law_edge G__law_edge C__law_apart C__law_domain C__law_draw C__law_names C__law_over_all C__law_sizes  m_len m_range m_tuple 
  have C__law_told := ok__law_told (P := P) (w := w) (base := base) F__law_told G__law_told C__law_ascending C__law_own C__law_same C_is_small C_unknowns_of CK_is_small CK_unknowns_of m_len 
  exact ok_law F_law G_law C__law_bag C__law_draw C__law_edge C__law_model C__law_pick C__law_told  m_list 
end AW
open PySem PySem.W PyProof.Rows
set_option maxHeartbeats 0 in
theorem PySem.Challenge.cw_aswritten_k08_own_unknowns_and_smallness_holds : PySem.Challenge.rw_aswritten_k08_own_unknowns_and_smallness.Holds := by
  w_on; o_law; k_head; (case hw => w_witness2)
  k_fill
  refine L2.walk_of (l := PySem.Challenge.rw_aswritten_k08_own_unknowns_and_smallness) (n := 63) (k := 17) (x := "script") (CX := fun _ => L2.CX0) (sp := fun w => AW.sp_law _) rfl (by decide) rfl ⟨rfl, by decide, by decide⟩ (fun w h Y => PySem.W.kIn_of Y) ?F (fun _ _ a ns hl _ hS => ⟨a, ns, rfl, hS, hl, fun _ => rfl⟩) (fun _ _ _ _ _ h => h)
  case F =>
    intro w mg fa h KX G hmg
    refine' AW.facts7 KX G hmg ?a0 ?l0 ?c0 ?k0 ?a1 ?l1 ?c1 ?k1 ?a2 ?l2 ?c2 ?k2 ?a3 ?l3 ?c3 ?k3 ?a4 ?l4 ?c4 ?k4 ?a5 ?l5 ?c5 ?k5 ?a6 ?l6 ?c6 ?k6 ?a7 ?l7 ?c7 ?k7 ?a8 ?l8 ?c8 ?k8 ?a9 ?l9 ?c9 ?k9 ?a10 ?l10 ?c10 ?k10 ?a11 ?l11 ?c11 ?k11 ?a12 ?l12 ?c12 ?k12 ?a13 ?l13 ?c13 ?k13 ?a14 ?l14 ?c14 ?k14 ?a15 ?l15 ?c15 ?k15 ?a16 ?l16 ?c16 ?k16 ?a17 ?l17 ?c17 ?k17 ?a18 ?l18 ?c18 ?k18 ?a19 ?l19 ?c19 ?k19 ?a20 ?l20 ?c20 ?k20 ?a21 ?l21 ?c21 ?k21 ?a22 ?l22 ?c22 ?k22 ?a23 ?l23 ?c23 ?k23 ?a24 ?l24 ?c24 ?k24 ?a25 ?l25 ?c25 ?k25 ?a26 ?l26 ?c26 ?k26 ?a27 ?l27 ?c27 ?k27 ?a28 ?l28 ?c28 ?k28 ?a29 ?l29 ?c29 ?k29 ?a30 ?l30 ?c30 ?k30 ?a31 ?l31 ?c31 ?k31 ?a32 ?l32 ?c32 ?k32 ?a33 ?l33 ?c33 ?k33 ?a34 ?l34 ?c34 ?k34 ?a35 ?l35 ?c35 ?k35 ?a36 ?l36 ?c36 ?k36 ?a37 ?l37 ?c37 ?k37 ?a38 ?l38 ?c38 ?k38 ?a39 ?l39 ?c39 ?k39 ?z_abs ?z_bool ?z_int ?z_isinstance ?z_len ?z_list ?z_max ?z_min ?z_range ?z_sorted ?z_str ?z_sum ?z_tuple ?aSB
    (case a0 => k_is); (case l0 => k_is); (case c0 => k_is); (case k0 => k_is); (case a1 => k_is); (case l1 => k_is); (case c1 => k_is); (case k1 => k_is); (case a2 => k_is); (case l2 => k_is); (case c2 => k_is); (case k2 => k_is); (case a3 => k_is); (case l3 => k_is); (case c3 => k_is); (case k3 => k_is); (case a4 => k_is); (case l4 => k_is); (case c4 => k_is); (case k4 => k_is); (case a5 => k_is); (case l5 => k_is); (case c5 => k_is); (case k5 => k_is); (case a6 => k_is); (case l6 => k_is); (case c6 => k_is); (case k6 => k_is); (case a7 => k_is); (case l7 => k_is); (case c7 => k_is); (case k7 => k_is); (case a8 => k_is); (case l8 => k_is); (case c8 => k_is); (case k8 => k_is); (case a9 => k_is); (case l9 => k_is); (case c9 => k_is); (case k9 => k_is); (case a10 => k_is); (case l10 => k_is); (case c10 => k_is); (case k10 => k_is); (case a11 => k_is); (case l11 => k_is); (case c11 => k_is); (case k11 => k_is); (case a12 => k_is); (case l12 => k_is); (case c12 => k_is); (case k12 => k_is); (case a13 => k_is); (case l13 => k_is); (case c13 => k_is); (case k13 => k_is); (case a14 => k_is); (case l14 => k_is); (case c14 => k_is); (case k14 => k_is); (case a15 => k_is); (case l15 => k_is); (case c15 => k_is); (case k15 => k_is); (case a16 => k_is); (case l16 => k_is); (case c16 => k_is); (case k16 => k_is); (case a17 => k_is); (case l17 => k_is); (case c17 => k_is); (case k17 => k_is); (case a18 => k_is); (case l18 => k_is); (case c18 => k_is); (case k18 => k_is); (case a19 => k_is); (case l19 => k_is); (case c19 => k_is); (case k19 => k_is); (case a20 => k_is); (case l20 => k_is); (case c20 => k_is); (case k20 => k_is); (case a21 => k_is); (case l21 => k_is); (case c21 => k_is); (case k21 => k_is); (case a22 => k_is); (case l22 => k_is); (case c22 => k_is); (case k22 => k_is); (case a23 => k_is); (case l23 => k_is); (case c23 => k_is); (case k23 => k_is); (case a24 => k_is); (case l24 => k_is); (case c24 => k_is); (case k24 => k_is); (case a25 => k_is); (case l25 => k_is); (case c25 => k_is); (case k25 => k_is); (case a26 => k_is); (case l26 => k_is); (case c26 => k_is); (case k26 => k_is); (case a27 => k_is); (case l27 => k_is); (case c27 => k_is); (case k27 => k_is); (case a28 => k_is); (case l28 => k_is); (case c28 => k_is); (case k28 => k_is); (case a29 => k_is); (case l29 => k_is); (case c29 => k_is); (case k29 => k_is); (case a30 => k_is); (case l30 => k_is); (case c30 => k_is); (case k30 => k_is); (case a31 => k_is); (case l31 => k_is); (case c31 => k_is); (case k31 => k_is); (case a32 => k_is); (case l32 => k_is); (case c32 => k_is); (case k32 => k_is); (case a33 => k_is); (case l33 => k_is); (case c33 => k_is); (case k33 => k_is); (case a34 => k_is); (case l34 => k_is); (case c34 => k_is); (case k34 => k_is); (case a35 => k_is); (case l35 => k_is); (case c35 => k_is); (case k35 => k_is); (case a36 => k_is); (case l36 => k_is); (case c36 => k_is); (case k36 => k_is); (case a37 => k_is); (case l37 => k_is); (case c37 => k_is); (case k37 => k_is); (case a38 => k_is); (case l38 => k_is); (case c38 => k_is); (case k38 => k_is); (case a39 => k_is); (case l39 => k_is); (case c39 => k_is); (case k39 => k_is); (case z_abs => k_is); (case z_bool => k_is); (case z_int => k_is); (case z_isinstance => k_is); (case z_len => k_is); (case z_list => k_is); (case z_max => k_is); (case z_min => k_is); (case z_range => k_is); (case z_sorted => k_is); (case z_str => k_is); (case z_sum => k_is); (case z_tuple => k_is); (case aSB => k_is)
