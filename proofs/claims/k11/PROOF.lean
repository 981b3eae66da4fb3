import PyProof.Rows.All
import Wide.All
import OpenK.AllK
import Wide.FinOn
import HandS.ForMost
import HandS.DictComp
import HandS.Zip
import HandS.TupAny
import HandS.Style
import HandS.Deep
import HandS.CallLocal
import HandS.More
import HandS.Conv
import HandS.SortInts
import KE.KRevSl
import HandS.Strs
import HandS.SetFor
import PyProof.Rows.SetFrom
import HandS.ExcInit
import HandS.ExcOwn
import HandS.IsInst
import KE.KExcIs
import KE.KIsAll
import HandS.TupMul
import HandS.Walk
import KE.GoesMore
import KE.KEqDeep
import HandS.Star
import HandS.WordsDict
import HandS.Steps
import PyProof.Rows.StrMeet
import PyProof.TypeEq
import HandS.WordsExc
import HandS.Defaults
import HandS.Ends
import PySem.Challenge.RW_aswritten_k11_wishes_checked
set_option Elab.async false
set_option linter.all false
set_option maxRecDepth 100000
set_option maxHeartbeats 4000000
/-! own words over the hand layer: names of readings, calls by a bundle, the lists' in-place store, text times number, keywords alone. -/
namespace AW
open PySem PySem.Spec PyProof.Rows L2

abbrev rAddI : R2 := rI0 fun i j => .int (i + j)
abbrev rSubI : R2 := rI0 fun i j => .int (i - j)
abbrev rMulI : R2 := rI CMul fun i j => .int (i * j)
abbrev rDivI : R2 := rI CDiv fun i j => .int (i / j)
abbrev rModI : R2 := rI (fun _ j => 0 < j) fun i j => .int (i % j)
abbrev rPowI : R2 := rI CPow fun i j => .int (i ^ j.toNat)
abbrev rLtI : R2 := rI0 fun i j => .bl (decide (i < j))
abbrev rLeI : R2 := rI0 fun i j => .bl (decide (i ≤ j))
abbrev rGtI : R2 := rI0 fun i j => .bl (decide (j < i))
abbrev rGeI : R2 := rI0 fun i j => .bl (decide (j ≤ i))
abbrev rNeg : V → Hp → VK → Prop := rU fun i => .int (-i)
def rAddS : R2 := fun x y H Q => ∃ i j, x = .str i ∧ y = .str j ∧ i.length + j.length ≤ sizeLine ∧ Q (.str (i ++ j)) H
theorem op_addS {X : Cx} : OpR X (binaryOp .Add) rAddS := op_add_str
def rRepS : R2 := fun x y H Q => ∃ z n, x = .str z ∧ y = .int n ∧ MulOk z n ∧ Q (.str (Txt.mul z n)) H
theorem op_repS {X : Cx} : OpR X (binaryOp .Mult) rRepS := by
  intro pins s σ H x y v u Q I rx ry h
  obtain ⟨z, n, rfl, rfl, ok, q⟩ := h
  obtain ⟨t, rfl⟩ := rx
  obtain ⟨t', rfl⟩ := ry
  exact SB.mul ok fun t2 k => ⟨.str _, H, I.tok _, ⟨_, rfl⟩, q⟩
def rLen1 (K : PySem.W.Frag) : List V → Hp → VK → Prop := fun xs H Q => ∃ x n, xs = [x] ∧ LenV K x H n ∧ Q (.int n) H
theorem call_len1 {X : Cx} : CallR X (.builtin "len") (rLen1 X.K) := call_len
def rAbs : List V → Hp → VK → Prop := fun xs H Q => ∃ i, xs = [.int i] ∧ Q (.int (if i < 0 then -i else i)) H
theorem call_abs1 {X : Cx} : CallR X (.builtin "abs") rAbs := call_abs
def rInt1 : List V → Hp → VK → Prop := fun xs H Q => (∃ i, xs = [.int i] ∧ Q (.int i) H) ∨ ∃ k, xs = [.bl k] ∧ Q (.int (if k then 1 else 0)) H
def rStr1 : List V → Hp → VK → Prop := fun xs H Q => ∃ i, xs = [.int i] ∧ i.natAbs.log2 < 1920 ∧ Q (.str (toString i)) H
def rMax2 : List V → Hp → VK → Prop := fun xs H Q => ∃ i j, xs = [.int i, .int j] ∧ Q (.int (if j > i then j else i)) H
def rMin2 : List V → Hp → VK → Prop := fun xs H Q => ∃ i j, xs = [.int i, .int j] ∧ Q (.int (if j < i then j else i)) H
def rListOf (K : PySem.W.Frag) : List V → Hp → VK → Prop := fun xs H Q => ∃ p ys, xs = [.ref p] ∧ (SqL K H p ys ∨ SqT K H p ys) ∧ ∀ l, H l = none → Q (.ref l) (upd H l (.lst ys))
theorem call_listOf {X : Cx} : CallR X (.type "list") (rListOf X.K) := call_list_of
def rSortDI : List V → Hp → VK → Prop := fun xs H Q => ∃ (a : Addr) (kvs : List (Key × V)) (ks : List Int), xs = [.ref a] ∧ Rd H a (.dK kvs) ∧ kvs.map (·.1) = ks.map Sum.inl ∧ ks.length < 64 ∧
    ∀ (ys : List Int) (p : Addr), ys.Perm ks → ys.Pairwise (· ≤ ·) → H p = none → Q (.ref p) (upd H p (.lst (ys.map V.int)))
def rIxA (K : PySem.W.Frag) : R2 := fun x y H Q => rIxL K x y H Q ∨ rIxT K x y H Q
theorem ix_any {X : Cx} : IxR X (rIxA X.K) := ix_list.or ix_tup
def rIsN : R2 := fun x y H Q => y = .non ∧ Q (.bl (decide (x = .non))) H
theorem op_isN1 {X : Cx} : OpR X (compareOp .Is) rIsN := op_isN
def rJoin (K : PySem.W.Frag) : V → List V → Hp → VK → Prop := fun x xs H Q => ∃ a p, ∃ ys : List Str, x = .str a ∧ xs = [.ref p] ∧ (SqL K H p (ys.map V.str) ∨ SqT K H p (ys.map V.str)) ∧
  (ys.map (·.length)).sum + ys.length * a.length ≤ 16777216 ∧ Q (.str (Txt.join a ys)) H
theorem units64 {A : Around} {k : Nat} (hr : Room k A) : A.units + 64 < cLine := hr.units
theorem units65 {A : Around} {k : Nat} (hr : Room k A) : A.units + 65 < cLine := by have := hr.un; omega
section
variable {X : Cx}
theorem pe_joinK {o e : Expr} {to te : TE} {apos pos : Pos} (ho : PE X o to) (he : PE X e te) (hs : starEach [e] X.env = [(false, eval e X.env)] := by rfl) (hbase : attributeBase o "join" X.env (eval o X.env) = eval o X.env := by rfl) (hline : (apos.endLine == pos.line) = true := by rfl) :
    PE X (.Call (.Attribute o "join" apos) [e] [] pos) (tM1 (rJoin X.K) to te) := pe_join ho he hs hbase hline

/-! ### a def by name, with all that a call asks of it -/
structure Cal (P : Program) (w : World) (K : PySem.W.Frag) (mg : Str → Option Value) (base : Heap) (x : Str) (k : Nat) (ps : List Str) (sp : Sp) : Prop where
  ex : ∃ (f : Addr) (fd : FuncData), FnOk P w K mg base CX0 k f fd ps sp ∧ PySem.W.keepIn K (.ref f) = true ∧ Binds K fd ps [] ∧ mg x = some (.ref f)
theorem pe_cal {x : Str} {k : Nat} {ps : List Str} {sp : Sp} {e : Expr} {es : List Expr} {t : TA} {p pos : Pos} (C : Cal X.prog X.w X.K X.mg X.base x k ps sp) (hr : Room k X.A) (hg : Gl X x) (ha : PA X (e :: es) t)
    (hdb : (x == ("__debug__" : Str)) = false := by decide) (he : starEach (e :: es) X.env = (false, eval e X.env) :: starEach es X.env := by rfl) (hpl : (backTo pos (starEach es X.env)).any (·.1) = false := by rfl) :
    PE X (.Call (.Name x p) (e :: es) [] pos) (tCall sp [] E0 t) := by
  refine ⟨fun pins s σ H Q I h => ?_⟩
  obtain ⟨f, fd, F, hk, hb, hm⟩ := C.ex
  exact (pe_call F hr hg hm hk hb .nil pass0 ha hdb he hpl).run pins s σ H Q I h
/-- how keywords alone bind -/
structure CalK (P : Program) (w : World) (K : PySem.W.Frag) (mg : Str → Option Value) (base : Heap) (x : Str) (k : Nat) (ps ks : List Str) (gV : List V → List V → List V) (sp : Sp) : Prop where
  ex : ∃ (f : Addr) (fd : FuncData) (g : List Value → List Value → List Value), FnOk P w K mg base CX0 k f fd ps sp ∧ PySem.W.keepIn K (.ref f) = true ∧ KBinds K fd ps ks g gV ∧ mg x = some (.ref f)
theorem pe_calK {x : Str} {k : Nat} {ps ks : List Str} {gV : List V → List V → List V} {sp : Sp} {kws : List Keyword} {tk : TA} {p pos : Pos} (C : CalK X.prog X.w X.K X.mg X.base x k ps ks gV sp) (hr : Room k X.A) (hg : Gl X x) (hkw : PK X kws tk)
    (hall : (backToKw pos (keywordEach kws X.env)).all (·.1.isSome) = true := by rfl) (hks : (backToKw pos (keywordEach kws X.env)).filterMap (·.1) = ks := by rfl)
    (hdb : (x == ("__debug__" : Str)) = false := by decide)
    (hpl : ((backTo pos (starEach [] X.env)).any (·.1) || (backToKw pos (keywordEach kws X.env)).any (·.1.isNone)) = false := by rfl) :
    PE X (.Call (.Name x p) [] kws pos) (tCallK sp gV E0 tNil tk) := by
  refine ⟨fun pins s σ H Q I h => ?_⟩
  obtain ⟨f, fd, g, F, hk, hb, hm⟩ := C.ex
  refine wpAny_Call_Name_kw (ld_glob I hg hm ?_ hdb)
  refine PySem.W.callWith_KW0 (h₀ := X.base) I.ok.mod.kin hk hall (thn (hkw.run pos pins s σ H _ I h) fun ws s2 ⟨zs, H2, I2, rz, q2⟩ => ⟨I2.kIn, ?_⟩) hpl
  rw [hks]
  exact run_fnk (us := []) F hr hb pass0 I2 .nil rz q2
end
/-- a list's item, by values -/
theorem get_list {X : Cx} : PGet X (rIxL X.K) := by
  intro pins s σ H o i ov iv Q I ro ri h
  obtain ⟨p, xs, j, z, rfl, rfl, hq, he, q⟩ := h
  cases ro
  obtain ⟨t, rfl⟩ := ri
  obtain ⟨its, r, pl, hz⟩ := I.list hq
  obtain ⟨m, h1, h2, h3, h4, h5⟩ := atI_get he
  obtain ⟨w, ew, rw'⟩ := r.get h2
  have hl := r.length
  have hn := line63
  have fin : EP X pins σ Q w s := ⟨z, H, I, rw', q⟩
  by_cases h0 : 0 ≤ j
  · have hj : j.toNat = m := by
      rw [seqIndex_of h0 h5] at h1
      exact Option.some.inj h1
    exact wpAny_getItem_list pl.isList h0 (by omega) (by rw [hj]; simpa using ew) fin
  · have hj : (j + (its.toArray.size : Int)).toNat = m := by
      rw [seqIndex_neg (by omega) h4] at h1
      rw [List.size_toArray, ← hl]
      exact Option.some.inj h1
    exact wpAny_getItem_list_neg pl.isList (by omega) (by rw [List.size_toArray] <;> omega) (by omega) (by rw [hj]; simpa using ew) fin
end AW
/-! tuple(d): a dict's keys -/
namespace AW
open PySem PySem.Spec PyProof.Rows L2
section
variable {prog : Program} {w : World} {A : Around} {E : Value → Shared → Prop} {s : Shared} {T : String} {r d : Addr} {n : Nat} {P : Nat → Value → Prop} {OK : Heap → Prop}
def CollP (s : Shared) (n : Nat) (P : Nat → Value → Prop) (rr : Result) (s2 : Shared) : Prop :=
  rr = .ok (.ret (.ref s.heap.objs.size)) ∧ ∃ (h2 : Heap) (tk : Nat) (acc : Array Value) (c : Nat), s2 = { s with heap := h2, toks := tk } ∧ (∀ b o, s.heap.get? b = some o → h2.get? b = some o) ∧
    h2.get? s.heap.objs.size = some { cls := .type "list", dict := none, data := .seq acc c, slots := #[] } ∧ ItemsOf P acc n
theorem collect_src {Q : List Value → Shared → Prop} (src : PySem.W.KdlSrc prog w T r d n P OK) (hh : A.handled = none) (hok : OK s.heap) (hn : n ≤ sizeLine)
    (hQ : ∀ (h2 : Heap) (tk : Nat) (acc : Array Value), (∀ b o, s.heap.get? b = some o → h2.get? b = some o) → ItemsOf P acc n → Q acc.toList { s with heap := h2, toks := tk }) :
    wpAny (model prog w) A (collect (.ref r)) Q E s := by
  have old : ∀ b o, s.heap.get? b = some o → (s.heap.push { cls := .type "list", data := .seq #[] }).get? b = some o := fun b o e => Heap.get?_push_of_some _ e
  have lt := src.there _ hok
  have new0 : (s.heap.push { cls := .type "list", data := .seq #[] }).get? s.heap.objs.size = some { cls := .type "list", data := .seq #[] } := Heap.get?_push_size _ rfl
  unfold collect
  refine wpAny_bind (wpAny_runValue (codeAny_builtin F.entry_proto_collect ?_))
  rw [Around.under_plainId F.plain_proto_collect _]
  refine (show wpAny _ A.in1 (newList [] >>= fun l => again (.builtin "list.__iadd__" ⟨[l, .ref r], []⟩)) _ _ s from wpAny_bind (wpAny_newObj_type (wpAny_pure ⟨plainId_quiet F.plain_list_iadd _, codeAny_builtin F.entry_list_iadd ?_⟩)))
  rw [Around.under_plainId F.plain_list_iadd _]
  refine wpAny_mono (show wpAny _ A.in1 (Builtin.List.listExtendWith (.ref s.heap.objs.size) (.ref r) (.ref s.heap.objs.size)) _ _ _ from PySem.W.kdl_extend (A := A) (R := CollP s n P) (s := { s with heap := s.heap.push { cls := .type "list", data := .seq #[] } })
    src hh (src.keep _ _ hok fun b _ o e => old b o e) s.heap.objs.size (Nat.ne_of_gt lt.1) (Nat.ne_of_gt lt.2) (.ref s.heap.objs.size) 0 new0
    (fun h2 tk acc c k e it => ⟨rfl, h2, tk, acc, c, rfl, fun b o q => k b o (Nat.ne_of_lt (Heap.lt_size q)) (old b o q), e, it⟩) hn) (fun fin s2 h => ?_) (fun e s2 h => absurd h.1 (by simp))
  cases fin with
  | done f =>
    obtain ⟨e, h2, tk, acc, c, rfl, k, e2, it⟩ := h
    cases e
    exact (show wpAny _ A (load s.heap.objs.size >>= _) _ _ _ from wpAny_bind (wpAny_load e2 (wpAny_pure (hQ h2 tk acc k it))))
  | again c2 =>
    refine ⟨h.1, codeAny_mono h.2 fun rr s3 hr => ?_⟩
    obtain ⟨rfl, h2, tk, acc, c, rfl, k, e2, it⟩ := hr
    exact (show wpAny _ A (load s.heap.objs.size >>= _) _ _ _ from wpAny_bind (wpAny_load e2 (wpAny_pure (hQ h2 tk acc k it))))
theorem call_tuple_src {Q : Value → Shared → Prop} (src : PySem.W.KdlSrc prog w T r d n P OK) (hh : A.handled = none) (hok : OK s.heap) (hn : n ≤ sizeLine)
    (hQ : ∀ (h2 : Heap) (tk : Nat) (acc : Array Value), (∀ b o, s.heap.get? b = some o → h2.get? b = some o) → ItemsOf P acc n → Q (.ref h2.objs.size) { s with heap := h2.push { cls := .type "tuple", data := .seq acc }, toks := tk }) :
    wpAny (model prog w) A (call (.type "tuple") [.ref r]) Q E s := by
  have made : codeAny (model prog w) A.in1 (.call (.builtin "tuple.__new__") ⟨[.type "tuple", .ref r], []⟩) (wants (fun obj s1 => s1.TypeIs obj "tuple" ∧ Q obj s1) E) s := by
    refine codeAny_of_tree (show wpAny _ A.in1.in1 (do checkBuiltinCall "tuple.__new__" ⟨[.type "tuple", .ref r], []⟩; again (.builtin "tuple.__new__" ⟨[.type "tuple", .ref r], []⟩)) _ _ s from
      wpAny_bind (wpAny_of_eq (F.newCall_tuple_1 _) (wpAny_pure ⟨plainId_quiet F.plain_tuple_new _, codeAny_builtin F.entry_tuple_new ?_⟩)))
    rw [Around.under_plainId F.plain_tuple_new _]
    have sub := sub_tuple_self; have ini := init_tuple_lookup; have mh := madeHere_tuple
    have ty := src.type s hok
    have h1 : A.in1.in1.handled = none := hh
    have nt : (Value.type T == Value.type "tuple") = false := src.notTuple
    wp_walk using wpAny_typeOf ty, collect_src (A := A.in1.in1) src h1 hok hn
    intro h2 tk acc hk it
    refine (show wpAny _ _ (Builtin.Tuple.tupleExact acc.toList.toArray >>= fun v => ret v) _ _ _ from ?_)
    unfold Builtin.Tuple.tupleExact
    refine wpAny_bind (wpAny_newObj_type (wpAny_pure ?_) (by show acc.toList.toArray.size ≤ sizeLine; rw [Array.toArray_toList, it.1]; exact hn))
    rw [show acc.toList.toArray = acc by simp]
    exact ⟨⟨_, Heap.get?_push_size _ rfl, rfl⟩, hQ h2 tk acc hk it⟩
  exact callType_codes (Q₁ := fun obj s1 => s1.TypeIs obj "tuple" ∧ Q obj s1) F.called_tuple (F.typeCall_tuple_1 _) F.entry_object_init made fun obj s1 h1 =>
    ⟨h1.1, F.args_object_init_2 obj _, object_init_meets F.called_tuple.init.lookup F.called_tuple.made (by decide) prog w A.in1 _ s1 ⟨h1.1, rfl, h1.2⟩⟩
end
def rTupD : List V → Hp → VK → Prop := fun xs H Q => ∃ p kvs, xs = [.ref p] ∧ H p = some (.dK kvs) ∧ ∀ q, H q = none → Q (.ref q) (upd H q (.tup (kvs.map fun kv => kV kv.1)))
theorem call_tuple_dK {X : Cx} (hc : X.calm = true) : CallR X (.type "tuple") rTupD := by
  rintro pins s σ H _ us Q I r ⟨p, kvs, rfl, hk, q⟩
  obtain ⟨u, rfl, rx⟩ := vals1 r
  obtain rfl : u = Value.ref p := rx
  obtain ⟨z, lo, vs, rk, hd⟩ := (show ObjOk X.prog X.w H s.heap p (.dK kvs) from I.hok p _ hk)
  obtain ⟨ep, hat⟩ := hd.dictAt
  have hl : kvs.length = vs.length := Paired.length rk
  refine call_tuple_src (PySem.W.kdl_dict (knd := mixKind X.prog X.w) (kvs := vs) (ep := ep) lo) (I.ok.hd hc) hat (hl ▸ z) fun h2 tk acc keep it => ?_
  have I1 : Inv X pins σ H { s with heap := h2, toks := tk } := I.kept (t' := tk) keep
  have rv : Vals (kvs.map fun kv => kV kv.1) acc.toList := by
    have el : acc.toList.length = vs.length := by rw [Array.length_toList]; exact it.1
    refine vals_of_at (by rw [List.length_map, el]; exact hl) fun j x w' h1 h3 => ?_
    obtain ⟨k, y, hky, hi⟩ := it.2 j w' (by rw [← Array.getElem?_toList]; exact h3)
    have e1 : (kvs.map (·.1))[j]? = some k := by rw [KV.keys rk, List.getElem?_map, hky]; rfl
    have e2 : (kvs.map fun kv => kV kv.1)[j]? = some (kV k) := by
      rw [show (kvs.map fun kv => kV kv.1) = (kvs.map (·.1)).map kV by rw [List.map_map]; rfl, List.getElem?_map, e1]; rfl
    cases e2.symm.trans h1
    exact keyIs_rel hi
  have I2 : Inv X pins σ (upd H h2.objs.size (.tup (kvs.map fun kv => kV kv.1))) { s with heap := h2.push { cls := .type "tuple", data := .seq acc }, toks := tk } :=
    I1.laid (t' := tk) (fun b o e => Heap.get?_push_of_some _ e) (Nat.le_refl _) (show ObjOk X.prog X.w _ _ _ (.tup (kvs.map fun kv => kV kv.1)) from ⟨by rw [List.length_map]; exact z, acc.toList, rv, by simpa using IsTup.new _ _⟩)
  exact ⟨.ref h2.objs.size, _, I2, rfl, q _ (I1.hok.fresh (Nat.le_refl _))⟩
end AW
/-! sorted(t), t a tuple of texts -/
namespace AW
open PySem PySem.Spec PyProof.Rows L2
def rSortTS (K : PySem.W.Frag) : List V → Hp → VK → Prop := fun vs H Q => ∃ (a : Addr) (xs : List Str), vs = [V.ref a] ∧ SqT K H a (xs.map V.str) ∧ xs.length < 64 ∧ ∀ (ys : List Str) (p : Addr), ys.Perm xs → sortedS ys = true → H p = none → Q (.ref p) (upd H p (.lst (ys.map V.str)))
theorem call_sortTS {X : Cx} : CallR X (.builtin "sorted") (rSortTS X.K) := by
  rintro pins s σ H _ us Q I r ⟨a, xs, rfl, hs, h64, q⟩
  obtain ⟨its, rv, pl, hz⟩ := I.tuple hs
  rw [Vals.ref1 r]
  have len : its.length = xs.length := by have := rv.length; rw [List.length_map] at this; exact this.symm
  have sa := rv.strs
  obtain ⟨o, ho, hc, n, hd⟩ := pl
  refine Calls.call_function_entry kind_sorted plain_sorted entry_sorted (args_sorted1 _) ?_
  unfold Builtin.«sorted»
  refine wpAny_bind (m := checkCount "sorted" 1 1 _) (wpAny_pure (wpAny_bind (wpAny_collect_seq a (.inr rfl) ho hc hd (fun h1 k1 => ?_) (by rw [List.size_toArray, len, sizeLine_eq]; omega))))
  rw [show its.toArray.toList = its by simp]
  refine wpAny_bind (wpAny_newList ?_ (by rw [len, sizeLine_eq]; omega))
  have at1 : (h1.push (seqObj "list" its.toArray 0)).get? h1.objs.size = some (seqObj "list" its.toArray 0) := Heap.get?_push_size _ rfl
  refine wpAny_bind (wpAny_holding (wpAny_call_entry slot_list_sort ⟨_, at1, rfl⟩ entry_list_sort (list_sort_treeK strKind_oneLt at1 sa.keysOf (fun v₁ v₂ rest e => keyKind_strs (by rw [← e]; exact sa)) (by rw [len]; exact h64) fun st' a1 a2 => ⟨_, rfl, ?_⟩) (args_list_sort _)))
  obtain ⟨ys, g1, g2, g3⟩ := sorted_out_str sa a1 a2
  obtain ⟨ep, he⟩ := sortedHeap_at (vs := its) (out := (arrOf st').map (·.2)) at1
  have I1 : Inv X pins σ H { s with heap := h1 } := I.kept (t' := s.toks) k1
  have old : ∀ b u, h1.get? b = some u → (sortedHeap (h1.push (seqObj "list" its.toArray 0)) h1.objs.size its ((arrOf st').map (·.2))).get? b = some u := fun b u e => by
    have lt := Heap.lt_size e
    rw [sortedHeap_old (Nat.ne_of_lt lt) (by rw [size_push']; exact Nat.lt_succ_of_lt lt)]
    exact Heap.get?_push_of_some _ e
  refine wpAny_pure ⟨_, rfl, .ref h1.objs.size, upd H h1.objs.size (.lst (ys.map V.str)), I1.laid (t' := s.toks) old (Nat.le_refl _) (show ObjOk X.prog X.w _ _ _ (.lst (ys.map V.str)) from ⟨?_, ((arrOf st').map (·.2)).toList, ep, vals_of_strs g1, by rw [Array.toArray_toList]; exact he⟩), rfl, q ys _ g2 g3 (I1.hok.fresh (Nat.le_refl _))⟩
  rw [List.length_map, g2.length_eq, sizeLine_eq]
  omega
end AW
/-! list(x), x a text -/
namespace AW
open PySem PySem.Spec PyProof.Rows L2
section
variable {prog : Program} {w : World} {A : Around} {E : Value → Shared → Prop} {s : Shared}
theorem init_list_str {R : Result → Shared → Prop} (hh : A.handled = none) (x : Str) (t : Tok) (S : Addr) (hS : s.heap.get? S = some { cls := .type "list", data := .seq #[] })
    (hR : ∀ h' tk acc' c', (∀ b o, b ≠ S → s.heap.get? b = some o → h'.get? b = some o) → h'.get? S = some { cls := .type "list", dict := none, data := .seq acc' c', slots := #[] } → ItemsOf (SignAt x) acc' x.cps.size → R (.ok (.ret .none)) { s with heap := h', toks := tk }) (hn : x.cps.size ≤ sizeLine) :
    wpAny (model prog w) A.in1 (Builtin.«list.__init__» ⟨[.ref S, .str x t], []⟩)
      (fun fin s' => match fin with | .done f => R (.ok f) s' | .again c' => c'.quiet = true ∧ codeAny (model prog w) A c' R s') (fun e s' => R (.error e) s') s := by
  show wpAny _ _ (do let old ← Builtin.List.listItems (.ref S); Builtin.List.listUpdate (.ref S) (fun _ => #[]); letGo old.toList.reverse; Builtin.List.listExtendWith (.ref S) (.str x t) .none) _ _ s
  refine wpAny_bind ?_
  unfold Builtin.List.listItems
  refine wpAny_bind (wpAny_seqItems hS rfl (wpAny_pure ?_))
  show wpAny _ _ (updateSeq S (fun _ => #[]) >>= fun _ => letGo (#[] : Array Value).toList.reverse >>= fun _ => Builtin.List.listExtendWith (.ref S) (.str x t) .none) _ _ s
  refine wpAny_bind (wpAny_updateSeq hS rfl ?_)
  have hS₂ := Heap.get?_update_self (Obj.mapSeq (fun _ => (#[] : Array Value))) hS rfl
  have oth : ∀ b o, b ≠ S → s.heap.get? b = some o → (s.heap.update S (Obj.mapSeq (fun _ => (#[] : Array Value)))).get? b = some o :=
    fun b o hb e => (Heap.get?_update_other _ _ (Ne.symm hb)).trans e
  refine wpAny_bind (wpAny_letGo ?_)
  unfold Builtin.List.listExtendWith
  refine wpAny_bind (wpAny_typeOf (T := "str") (v := .str x t) rfl ?_)
  have h1 : Builtin.List.listSameRef (.ref S) (.str x t) = false := rfl
  have h2 : (Value.type "str" == Value.type "list") = false := by decide
  have h3 : (Value.type "str" == Value.type "tuple") = false := by decide
  simp only [h1, h2, h3, Bool.or_false, Bool.false_eq_true, if_false]
  refine wpAny_bind (wpAny_pyIter_str fun o St W hst => ?_)
  refine wpAny_bind (wpAny_holding ?_)
  unfold Builtin.List.listLengthHint
  refine wpAny_bind (wpAny_specialOf (T := "str") (v := .str x t) rfl PySem.F.str_len ?_)
  wp_delta
  refine wpAny_bind (wpAny_isInstance (T := "str") (v := .str x t) (b := true) rfl (by rw [isSubtype_type]; kernel_rfl) ?_)
  show wpAny _ A.in1 (typeOf (Value.str x t) >>= _) _ _ _
  refine wpAny_bind (wpAny_typeOf (T := "str") (v := .str x t) rfl ?_)
  refine wpAny_pure ?_
  rw [if_neg (by decide)]
  generalize hH : s.heap.update S (Obj.mapSeq (fun _ => (#[] : Array Value))) = H at W hst hS₂ oth ⊢
  have hSlt := Heap.lt_size hS₂
  have hSf : S ∉ [H.objs.size] := fun hm => by rw [List.mem_singleton.mp hm] at hSlt; exact Nat.lt_irrefl _ hSlt
  have hS3 : (H.push o).get? S = _ := Heap.get?_push_of_some _ hS₂
  refine wpAny_pure ⟨plainId_quiet PySem.F.plain_extend_loop _, codeAny_extend_loopS (W A.in1 hh).toS hn S hSf .none x.cps.size 0 _ #[] _ rfl (Nat.zero_le _) hst hS3 (ItemsOf.nil _) fun s' acc' c' hm hS' hacc => ?_⟩
  rw [Moved.eq_with hm]
  refine hR s'.heap s'.toks acc' c' (fun b ob hb e => hm.heap b ob (fun hmem => ?_) (Heap.get?_push_of_some _ (oth b ob hb e))) hS' hacc
  rcases List.mem_cons.mp hmem with e' | hmem
  · exact hb e'
  · have e3 := Heap.lt_size (oth b ob hb e)
    rw [List.mem_singleton.mp hmem] at e3
    exact Nat.lt_irrefl _ e3
theorem call_list_str {Q : Value → Shared → Prop} (hh : A.handled = none) (x : Str) (t : Tok) (hn : x.cps.size ≤ sizeLine)
    (hQ : ∀ h' tk acc' c', (∀ b o, s.heap.get? b = some o → h'.get? b = some o) → h'.get? s.heap.objs.size = some { cls := .type "list", dict := none, data := .seq acc' c', slots := #[] } → ItemsOf (SignAt x) acc' x.cps.size → Q (.ref s.heap.objs.size) { s with heap := h', toks := tk }) :
    wpAny (model prog w) A (call (.type "list") [.str x t]) Q E s := by
  refine callType_codes (Q₁ := fun obj s₁ => obj = .ref s.heap.objs.size ∧ s₁ = { s with heap := s.heap.push { cls := .type "list", data := .seq #[] } }) PySem.F.called_list (PySem.F.typeCall_list_1 _) PySem.F.entry_list_init
    (code_list_new _ ⟨rfl, rfl⟩) fun obj s₁ h₁ => ?_
  obtain ⟨rfl, rfl⟩ := h₁
  have hS : (s.heap.push { cls := .type "list", data := .seq #[] }).get? s.heap.objs.size = some { cls := .type "list", data := .seq #[] } := Heap.get?_push_size _ rfl
  refine ⟨⟨_, hS, rfl⟩, PySem.F.args_list_init_2 _ _, init_list_str (A := A.in1) hh x t _ hS (fun h' tk acc' c' hk hS' hacc => ?_) hn⟩
  exact ⟨rfl, hQ h' tk acc' c' (fun b o e => hk b o (Nat.ne_of_lt (Heap.lt_size e)) (Heap.get?_push_of_some _ e)) hS' hacc⟩
end
/-- the signs of a text, each as a text -/
def signsOf (x : Str) : List Str := x.cps.toList.map fun c => ⟨#[c]⟩
def rListS : List V → Hp → VK → Prop := fun xs H Q => ∃ x, xs = [.str x] ∧ x.cps.size ≤ sizeLine ∧ ∀ l, H l = none → Q (.ref l) (upd H l (.lst ((signsOf x).map V.str)))
theorem call_listS {X : Cx} (hc : X.calm = true) : CallR X (.type "list") rListS := by
  rintro pins s σ H _ us Q I r ⟨x, rfl, hz, q⟩
  obtain ⟨u, rfl, rx⟩ := vals1 r
  obtain ⟨t, rfl⟩ := rx
  refine call_list_str (I.ok.hd hc) x t hz fun h' tk acc' c' hkeep hS hacc => ?_
  refine ⟨.ref s.heap.objs.size, upd H s.heap.objs.size (.lst ((signsOf x).map V.str)), I.laid hkeep (Nat.le_refl _) (show ObjOk X.prog X.w _ _ _ (.lst ((signsOf x).map V.str)) from ⟨?_, acc'.toList, c', ?_, ?_⟩), rfl, q _ (I.hok.fresh (Nat.le_refl _))⟩
  · unfold signsOf
    rw [List.length_map, List.length_map, Array.length_toList]
    exact hz
  · have el : acc'.toList.length = acc'.size := by simp
    refine vals_of_at (by unfold signsOf; rw [List.length_map, List.length_map, Array.length_toList, el]; exact hacc.1.symm) fun j v w' h1 h2 => ?_
    obtain ⟨c, u, h3, rfl⟩ := hacc.2 j w' (by rw [← Array.getElem?_toList]; exact h2)
    unfold signsOf at h1
    rw [List.getElem?_map, List.getElem?_map, Array.getElem?_toList, h3] at h1
    cases h1
    exact ⟨u, rfl⟩
  · rw [Array.toArray_toList]; exact hS
def rListOfA (K : PySem.W.Frag) : List V → Hp → VK → Prop := fun xs H Q => rListOf K xs H Q ∨ rListS xs H Q
theorem call_listOfA {X : Cx} (hc : X.calm = true) : CallR X (.type "list") (rListOfA X.K) := (call_list_of).or (call_listS hc)
end AW
/-! t[::-1] of a tuple; slices and sums of tuples and texts alike -/
namespace AW
open PySem PySem.Spec PyProof.Rows L2 HT
section
variable {prog : Program} {w : World} {A : Around} {E : Value → Shared → Prop} {s : Shared}
theorem rv_adjust (n : Nat) : Builtin.Slice.sliceAdjust none none (-1) (n : Int) = ((n : Int) - 1, -1) := by
  unfold Builtin.Slice.sliceAdjust
  simp
theorem rv_places (n : Nat) : Builtin.Slice.slicePlaces ((n : Int) - 1) (-1) (-1) = n := by
  unfold Builtin.Slice.slicePlaces
  rw [if_neg (by decide)]
  split
  · rw [show (- -1 : Int) = 1 by decide, Int.ediv_one]
    omega
  · omega
theorem rv_applied {sl : Addr} {vl vu vs : Value} {n : Nat} {Q : Int × Int × Nat → Shared → Prop} (hs : s.heap.IsSliceOf sl vl vu vs) (pl : IsPart vl none) (pu : IsPart vu none) (ps : IsPart vs (some (-1)))
    (h : Q ((n : Int) - 1, -1, n) s) : wpAny (model prog w) A (Builtin.Slice.sliceApplied (.ref sl) (pure (n : Int))) Q E s := by
  obtain ⟨os, hos, hcs, hds⟩ := id hs
  unfold Builtin.Slice.sliceApplied Builtin.Slice.sliceFields
  refine wpAny_bind (wpAny_bind (wpAny_field hos hds (x := vl) rfl (wpAny_bind (wpAny_field hos hds (x := vu) rfl (wpAny_bind (wpAny_field hos hds (x := vs) rfl (wpAny_pure ?_)))))))
  refine wpAny_bind (slicePart_ ps ?_)
  show wpAny _ _ (if ((-1 : Int) == 0) = true then _ else _) _ _ s
  rw [if_neg (by decide)]
  refine wpAny_bind (slicePart_ pl (wpAny_bind (slicePart_ pu (wpAny_bind (wpAny_pure ?_)))))
  show wpAny _ _ (match Builtin.Slice.sliceAdjust none none (-1) (n : Int) with | (lo, hi) => pure (lo, (-1 : Int), Builtin.Slice.slicePlaces lo hi (-1))) _ _ s
  rw [rv_adjust n]
  show wpAny _ _ (pure ((n : Int) - 1, (-1 : Int), Builtin.Slice.slicePlaces ((n : Int) - 1) (-1) (-1))) _ _ s
  rw [rv_places]
  exact wpAny_pure h
theorem rv_pick (xs : Array Value) : ((List.range xs.size).filterMap fun (k : Nat) => xs[(((xs.size : Nat) : Int) - 1 + (k : Int) * (-1)).toNat]?) = xs.toList.reverse := by
  have e : ((List.range xs.size).filterMap fun (k : Nat) => xs[(((xs.size : Nat) : Int) - 1 + (k : Int) * (-1)).toNat]?) = ((List.range xs.size).map fun k => xs.size - 1 - k).filterMap (xs[·]?) := by
    rw [List.filterMap_map]
    refine congrArg (fun f => List.filterMap f (List.range xs.size)) (funext fun k => ?_)
    show xs[_]? = xs[xs.size - 1 - k]?
    rw [show (((xs.size : Nat) : Int) - 1 + (k : Int) * (-1)).toNat = xs.size - 1 - k by omega]
  rw [e, PySem.W.krv_range, List.filterMap_reverse, PySem.W.krv_all]
theorem getItem_tuple_rev {t sl : Addr} {items : Array Value} {vl vu vs : Value} {Q : Value → Shared → Prop} (ht : IsTup s.heap t items) (hs : s.heap.IsSliceOf sl vl vu vs) (pl : IsPart vl none) (pu : IsPart vu none) (ps : IsPart vs (some (-1)))
    (h : Q (.ref s.heap.objs.size) { s with heap := s.heap.push { cls := .type "tuple", data := .seq items.toList.reverse.toArray } })
    (hsz : items.size ≤ sizeLine) : wpAny (model prog w) A (getItem (.ref t) (.ref sl)) Q E s := by
  have htake : sizeOk (.seq items.toList.reverse.toArray) := by
    show items.toList.reverse.toArray.size ≤ sizeLine
    rw [List.size_toArray, List.length_reverse, Array.length_toList]
    exact hsz
  obtain ⟨os, hos, hcs, hds⟩ := id hs
  have hTs : s.TypeIs (.ref sl) "slice" := ⟨os, hos, hcs⟩
  unfold getItem
  try with_reducible refine wpAny_holding ?_
  first | refine wpAny_bind (wpAny_pure ?_) | skip
  refine wpAny_bind (wpAny_sequenceKey ht.typeIs (by decide) ?_)
  refine wpAny_bind (wpAny_callSpecial?_slot (name := Str.ofString "__getitem__") ht.typeIs PyProof.Rows.slot_tuple_getitem
    (wpAny_call_entry PyProof.Rows.slot_tuple_getitem ht.typeIs entry_tuple_getitem ?_ (args_tuple_getitem _ _)))
  show wpAny _ _ (Builtin.Tuple.tupleItemsOf (.ref t) >>= _) _ _ s
  refine wpAny_bind (tupleItemsOf_ ht ?_)
  refine wpAny_bind (wpAny_typeOf hTs ?_)
  rw [if_pos (by decide)]
  refine wpAny_bind (rv_applied hs pl pu ps ?_)
  have hno : ¬ ((((items.size : Nat) : Int) - 1 == 0 && (-1 : Int) == 1 && items.size == items.size) = true) := by
    intro q
    rw [Bool.and_eq_true, Bool.and_eq_true] at q
    exact absurd q.1.2 (by decide)
  show wpAny _ _ (if (((items.size : Nat) : Int) - 1 == 0 && (-1 : Int) == 1 && items.size == items.size) = true then _ else _) _ _ s
  rw [if_neg hno, rv_pick]
  first
    | exact wpAny_bind (m := Builtin.Tuple.tupleExact _) (wpAny_newObj_type (wpAny_pure ⟨_, rfl, wpAny_pure h⟩) htake)
    | exact wpAny_bind (m := Builtin.Tuple.tupleExact _) (wpAny_newObj_type (wpAny_bind (wpAny_pure (wpAny_pure ⟨_, rfl, wpAny_pure h⟩))) htake)
    | exact wpAny_bind (wpAny_bind (m := Builtin.Tuple.tupleExact _) (wpAny_newObj_type (wpAny_pure (wpAny_pure ⟨_, rfl, wpAny_pure h⟩)) htake))
    | exact wpAny_bind (wpAny_bind (m := Builtin.Tuple.tupleExact _) (wpAny_newObj_type (wpAny_pure ⟨_, rfl, wpAny_pure h⟩) htake))
end
section
variable {X : Cx}
def tRevT (K : PySem.W.Frag) (te : TE) : TE := fun σ H Q => te σ H fun x H1 => ∃ a xs, x = .ref a ∧ SqT K H1 a xs ∧ ∀ p, H1 p = none → Q (.ref p) (upd H1 p (.tup xs.reverse))
theorem pe_revT {e : Expr} {te : TE} {k : Nat} {p1 p2 p3 pos : Pos} (he : PE X e te) : PE X (.Subscript e (.Slice none none (some (.UnaryOp .USub (.Constant (.int 1) k p1) p2)) p3) pos) (tRevT X.K te) := by
  refine ⟨fun pins s σ H Q I h => ?_⟩
  refine Subscript_ (thn (he.run pins s σ H _ I h) fun v s1 ⟨x, H1, I1, r1, q1⟩ => ?_)
  obtain ⟨a, xs, ex, hx, q⟩ := q1
  subst ex
  cases r1
  have hst : PO X (some (.UnaryOp .USub (.Constant (.int 1) k p1) p2)) (tPart (tUn (rU fun i => .int (-i)) (tC (.int 1)))) := po_some (pe_un un_neg pe_int)
  refine wpAny_Slice (thn (po_none.run pins s1 σ H1 (fun o H2 => o = none ∧ H2 = H1) I1 ⟨rfl, rfl⟩) fun vl s2 ⟨l, H2, I2, pl, el, e2⟩ => ?_)
  subst el e2
  refine thn (po_none.run pins s2 σ H2 (fun o H3 => o = none ∧ H3 = H2) I2 ⟨rfl, rfl⟩) fun vu s3 ⟨u, H3, I3, pu, eu, e3⟩ => ?_
  subst eu e3
  refine thn (hst.run pins s3 σ H3 (fun o H4 => o = some (-1) ∧ H4 = H3) I3 ⟨1, rfl, -1, rfl, rfl, rfl⟩) fun vs s4 ⟨o, H4, I4, ps, eo, e4⟩ => ?_
  subst eo e4
  have I5 : Inv X pins σ H4 { s4 with heap := s4.heap.push { cls := .type "slice", data := .fields #[vl, vu, vs] } } := I4.kept (t' := s4.toks) fun b ob q => Heap.get?_push_of_some _ q
  obtain ⟨its, r, ht, hz⟩ := I5.tuple hx
  have hlen := r.length
  show wpAny (model X.prog X.w) X.A (subscriptTail e (.Slice none none (some (.UnaryOp .USub (.Constant (.int 1) k p1) p2)) p3) (.ref a) (.ref s4.heap.objs.size)) (EP X pins σ Q) X.xe { s4 with heap := s4.heap.push { cls := .type "slice", data := .fields #[vl, vu, vs] } }
  refine tail_any (ops := [.ref a, .ref s4.heap.objs.size]) ht.typeIs (PyProof.Rows.slot_tuple_getitem.lookup) ?_ (by with_unfolding_all rfl)
  refine getItem_tuple_rev ht (Heap.IsSliceOf.new _ vl vu vs) pl pu ps ?_ (by rw [List.size_toArray]; omega)
  refine ⟨.ref _, _, I5.laid (t' := s4.toks) (o := .tup xs.reverse) (fun b ob q => Heap.get?_push_of_some _ q) (Nat.le_refl _) ?_, rfl, q _ (I5.hok.fresh (Nat.le_refl _))⟩
  exact ⟨by rw [List.length_reverse]; exact hz, _, r.reverse, IsTup.new _ _⟩
def rSlX (K : PySem.W.Frag) : V → Option Int → Option Int → Hp → VK → Prop := fun x lo hi H Q => rSlA K x lo hi H Q ∨ rSlS x lo hi H Q
theorem sl_any : SlR X (rSlX X.K) := by
  intro pins s σ H x v vl vu lo hi sl Q I rx hs pl pu h
  rcases h with h | h
  · exact sl_tupA pins s σ H x v vl vu lo hi sl Q I rx hs pl pu h
  · exact sl_str pins s σ H x v vl vu lo hi sl Q I rx hs pl pu h
end
end AW
namespace PySem
namespace STT
open PyProof.Rows
/-! set(t) of a tuple of texts: how many it has -/
section
variable {P : Program} {w : World} {A : Around} {E : Value → Shared → Prop} {s : Shared}
/-- what is told of a set while the first i texts have been put in -/
def Told (P : Program) (w : World) (S : Addr) (xs : List Str) (i : Nat) (h : Heap) : Prop :=
  ∃ c, h.SetOf (strKind P w) S (fun k => decide (k ∈ xs.take i)) c ∧ c ≤ i ∧ (c = i ↔ (xs.take i).Nodup)
theorem Told.at {S : Addr} {xs : List Str} {i : Nat} {h h' : Heap} (x : Told P w S xs i h) (k : ∀ o, h.get? S = some o → h'.get? S = some o) : Told P w S xs i h' := by
  obtain ⟨c, ⟨o, es, ep, tb, ho, r⟩, y⟩ := x
  exact ⟨c, ⟨o, es, ep, tb, k o ho, r⟩, y⟩
theorem put_texts {I : Addr} {fp wr : List Addr} {G : Array GenState → Array GenState → Prop} {Pv : Nat → Value → Prop} {St : Nat → Shared → Prop} {R : Result → Shared → Prop} (xs : List Str)
    (W : WalksS P w A.in1 I fp wr G xs.length Pv St) (S : Addr) (hSf : S ∉ fp) (hb : xs.length + 1 < scanBound) (hval : ∀ i v, Pv i v → ∃ z t, xs[i]? = some z ∧ v = .str z t) :
    ∀ (k i : Nat) (s : Shared), i + k = xs.length → St i s → Told P w S xs i s.heap →
      (∀ s', Moved (S :: wr) G s s' → Told P w S xs xs.length s'.heap → R (.ok (.ret .none)) s') →
      codeAny (model P w) A (.builtin "set.update.loop" ⟨[.ref S, .ref I], []⟩) R s
  | 0, i, s, e, st, hS, hR => by
    obtain rfl : i = xs.length := by omega
    refine codeAny_builtin F.entry_set_update_loop ?_
    rw [Around.under_plainId F.plain_set_update_loop _]
    refine wpAny_bind (W.done s _ _ st fun s' hm => ?_)
    exact wpAny_pure (hR s' (hm.mono fun b hb => List.mem_cons_of_mem _ hb) (hS.at fun o e => hm.heap S o (fun h => hSf (W.sub _ h)) e))
  | k + 1, i, s, e, st, hS, hR => by
    refine codeAny_builtin F.entry_set_update_loop ?_
    rw [Around.under_plainId F.plain_set_update_loop _]
    refine wpAny_bind (W.item i s _ _ (by omega) st fun v s1 hP st1 hm => ?_)
    obtain ⟨z, t, hz, rfl⟩ := hval i v hP
    obtain ⟨c, hS1, hc, hn⟩ := hS.at (h' := s1.heap) fun o e => hm.heap S o (fun h => hSf (W.sub _ h)) e
    refine wpAny_bind (wpAny_holding ?_)
    unfold setAdd
    refine wpAny_holding (wpAny_bind ((strKind P w).pyHash (k := z) (strKind_is _ _ _ _) ?_))
    refine wpAny_setAddHashed_of (knd := strKind P w) (s := { s1 with toks := s1.toks + 1 }) (strKind_is _ _ _ _) rfl hS1 (by omega) fun h' hsb hS2 => ?_
    have T2 : Told P w S xs (i + 1) h' := by
      refine ⟨_, SetOf_congr hS2 (fun j => ?_) rfl, ?_, ?_⟩
      · rw [List.take_add_one, hz]
        simp [List.mem_append]
      · split <;> omega
      · rw [List.take_add_one, hz]
        have nd : (xs.take i ++ (some z).toList).Nodup ↔ (xs.take i).Nodup ∧ z ∉ xs.take i := by
          rw [List.nodup_append]
          constructor
          · rintro ⟨h1, _, h3⟩
            exact ⟨h1, fun hm => h3 z hm z (by simp) rfl⟩
          · rintro ⟨h1, h2⟩
            refine ⟨h1, by simp, fun a ha b hb e => h2 ?_⟩
            have hb' : b = z := by simpa using hb
            rw [← hb', ← e]
            exact ha
        rw [nd, ← hn]
        by_cases hm : z ∈ xs.take i
        · simp only [hm, decide_true, if_true, not_true, and_false, iff_false]
          omega
        · simp only [hm, decide_false, not_false_iff, and_true]
          simp
    have same : ∀ b, b ≠ S → ∀ o, s1.heap.get? b = some o → h'.get? b = some o := fun b hb o e => by rw [hsb.2 b hb]; exact e
    refine wpAny_pure ⟨plainId_quiet F.plain_set_update_loop _, put_texts xs W S hSf hb hval k (i + 1) _ (by omega) (W.frame _ s1 _ _ st1 (Nat.le_succ _) fun b hb o e => same b (fun h => hSf (by rw [← h]; exact hb)) o e) T2 fun s'' m2 hS'' => ?_⟩
    exact hR s'' (Moved.trans W.gtrans ((hm.mono fun b hb => List.mem_cons_of_mem _ hb).then_heap (Nat.le_succ _) fun b o hb e => same b (fun h => hb (by rw [h]; exact List.mem_cons_self)) o e) m2) hS''
/-- set(t) -/
theorem call_set_texts {l : Addr} {items : Array Value} {xs : List Str} {Q : Value → Shared → Prop} (hh : A.handled = none) (hl : s.heap.IsTuple l items) (hi : StrsAre items.toList xs) (hb : xs.length + 1 < scanBound)
    (h : ∀ (h' : Heap) (tk : Nat), Told P w s.heap.objs.size xs xs.length h' → (∀ b o, s.heap.get? b = some o → h'.get? b = some o) → Q (.ref s.heap.objs.size) { s with heap := h', toks := tk }) :
    wpAny (model P w) A (call (.type "set") [.ref l]) Q E s := by
  have hsz : items.size = xs.length := by rw [← StrsAre.len_eq hi, Array.length_toList]
  have C := PySem.F.called_set
  obtain ⟨c0, tl0, hmro⟩ := C.mro
  have f1 := C.made
  have f2 := C.sub
  have f3 := C.notType
  have f4 := C.canCreate
  have f5 := PySem.F.typeCall_set_1 (.ref l)
  refine wpAny_call (codeAny_of_tree ?_)
  refine wpAny_pure ⟨Code.quiet_builtin _ (by decide +kernel), codeAny_builtin PySem.F.entry_type_call ?_⟩
  rw [Around.under_plain (weight_type_call_type "set" [.ref l] []) rfl]
  repeat (any_goals (first | assumption | wp_step))
  refine codeAny_mono (code_set_new_1 (.ref l) (E := E) (Q₁ := fun u s₁ => u = .ref s.heap.objs.size ∧ ∃ led : Bool, s₁ = { s with heap := s.heap.push { cls := .type "set", dict := none, data := .set #[] 0 (.fresh 0 0 led) } }) fun led => ⟨rfl, led, rfl⟩) fun r s₁ hr => ?_
  match r, hr with
  | .error e, hr => exact hr
  | .ok .next, hr => exact hr.elim
  | .ok .brk, hr => exact hr.elim
  | .ok .cont, hr => exact hr.elim
  | .ok (.ret u), hr =>
    obtain ⟨rfl, led, rfl⟩ := hr
    have hS : (s.heap.push { cls := .type "set", dict := none, data := .set #[] 0 (.fresh 0 0 led) }).get? s.heap.objs.size = some { cls := .type "set", dict := none, data := .set #[] 0 (.fresh 0 0 led) } := Heap.get?_push_size _ rfl
    have hT : Shared.TypeIs { s with heap := s.heap.push { cls := .type "set", dict := none, data := .set #[] 0 (.fresh 0 0 led) } } (.ref s.heap.objs.size) "set" := ⟨_, hS, rfl⟩
    have f6 := C.init.lookup
    have f7 := C.init.bind (.ref s.heap.objs.size)
    repeat (any_goals (first | assumption | wp_step))
    refine codeAny_mono (codeAny_call_builtin (R := wants (fun u s₂ => u = .none ∧ ∃ h' tk, s₂ = { s with heap := h', toks := tk } ∧ Told P w s.heap.objs.size xs xs.length h' ∧ ∀ b o, s.heap.get? b = some o → h'.get? b = some o) E)
      C.init.plain PySem.F.entry_set_init (check_set_init_1 hT ?_)) fun r₂ s₂ hr₂ => ?_
    · have hl1 : (s.heap.push { cls := .type "set", dict := none, data := .set #[] 0 (.fresh 0 0 led) }).IsTuple l items := hl.push _
      have hlS : l < s.heap.objs.size := by
        obtain ⟨ol, hol, _⟩ := hl
        exact Heap.lt_size hol
      obtain ⟨⟨kc, kd, kx, ks⟩, hol, hcl, nl, hdl⟩ := hl1
      simp only at hcl hdl
      subst hcl; subst hdl
      have hl1 : (s.heap.push { cls := .type "set", dict := none, data := .set #[] 0 (.fresh 0 0 led) }).IsTuple l items := ⟨_, hol, rfl, nl, rfl⟩
      have g1 := PySem.F.sub_tuple_set
      have g2 := PySem.F.sub_tuple_frozenset
      have g3 : (Value.type "tuple" == Value.type "dict") = false := by decide
      unfold Builtin.«set.__init__» noKeywords Builtin.Frozenset.updateFrom
      generalize hPI : pyIter = PI
      wp_walk
      subst hPI
      refine wpAny_pyIter_tuple hl1 ?_
      refine wpAny_bind (wpAny_runValue ?_)
      have zs : (s.heap.push { cls := .type "set", dict := none, data := .set #[] 0 (.fresh 0 0 led) }).objs.size = s.heap.objs.size + 1 := Heap.size_push ..
      have hval : ∀ (i : Nat) (v : Value), items[i]? = some v → ∃ z t, xs[i]? = some z ∧ v = .str z t := fun i v hv => by
        obtain ⟨t, e⟩ := SS.strs_at hi i v (by rw [Array.getElem?_toList]; exact hv)
        have hlt : i < xs.length := by rw [← hsz]; exact (Array.getElem?_eq_some_iff.mp hv).1
        exact ⟨xs[i], t, List.getElem?_eq_getElem hlt, by rw [e, List.getD_eq_getElem?_getD, List.getElem?_eq_getElem hlt]; rfl⟩
      have hne : l ≠ (s.heap.push { cls := .type "set", dict := none, data := .set #[] 0 (.fresh 0 0 led) }).objs.size := by
        rw [zs]
        exact Nat.ne_of_lt (Nat.lt_succ_of_lt hlS)
      refine put_texts xs (hsz ▸ (Walks.tuple (by simp [hh]) _ l hne items).toS) s.heap.objs.size (by simp only [zs, List.mem_cons, List.not_mem_nil, or_false, not_or]; exact ⟨Nat.ne_of_lt (Nat.lt_succ_self _), Nat.ne_of_gt hlS⟩) hb hval xs.length 0 _ (by omega) ⟨⟨_, Heap.get?_push_size _ rfl, rfl, rfl⟩, hl1.push _⟩ ?_ ?_
      · exact ⟨0, SetOf_congr ((setObjOf_fresh (knd := strKind P w) led).setOf (Heap.get?_push_of_some _ hS) (by unfold scanBound; omega)) (fun _ => rfl) rfl, Nat.le_refl _, by simp⟩
      · intro s' hm hS'
        obtain ⟨h', g', d', tk', os'⟩ := s'
        obtain rfl : g' = s.gens := hm.gens
        obtain rfl : d' = s.drawn := hm.drawn
        obtain rfl : os' = s.os := hm.os
        refine wpAny_pure (wpAny_pure ⟨rfl, h', tk', rfl, hS', fun b o e => ?_⟩)
        have hlb := Heap.lt_size e
        exact hm.heap b o (by simp only [zs, List.mem_cons, List.not_mem_nil, or_false, not_or]; exact ⟨Nat.ne_of_lt hlb, Nat.ne_of_lt (Nat.lt_succ_of_lt hlb)⟩) (Heap.get?_push_of_some _ (Heap.get?_push_of_some _ e))
    · match r₂, hr₂ with
      | .error e, hr₂ => exact hr₂
      | .ok .next, hr₂ => exact hr₂.elim
      | .ok .brk, hr₂ => exact hr₂.elim
      | .ok .cont, hr₂ => exact hr₂.elim
      | .ok (.ret u), hr₂ =>
        obtain ⟨rfl, h', tk, rfl, hS', hk'⟩ := hr₂
        repeat (any_goals (first | assumption | wp_step))
        exact h _ _ hS' hk'
end
end STT
end PySem
namespace L2
open PySem PySem.Spec PyProof.Rows
section
variable {X : Cx}
/-- len(set(t)), t a tuple of texts: as many as t has just where no text stands twice -/
def tLenSetS (K : PySem.W.Frag) (ta : TE) : TE := fun σ H Q => ta σ H fun x H1 => ∃ (l : Addr) (xs : List Str), x = .ref l ∧ SqT K H1 l (xs.map V.str) ∧ xs.length ≤ 1000 ∧ ∀ c : Nat, (c = xs.length ↔ xs.Nodup) → Q (.int (c : Nat)) H1
theorem pe_lenSetS {a : Expr} {ta : TE} {p p2 q pos : Pos} (hc : X.calm = true) (hg : Gl X "len") (hm : X.mg "len" = none) (hg2 : Gl X "set") (hm2 : X.mg "set" = none) (ha : PE X a ta)
    (na : starEach [a] X.env = (false, eval a X.env) :: starEach [] X.env := by rfl) : PE X (.Call (.Name "len" p) [.Call (.Name "set" p2) [a] [] q] [] pos) (tLenSetS X.K ta) := by
  refine ⟨fun pins s σ H Q I h => ?_⟩
  refine Call_ (ld_blt I hg hm boot_len ?_)
  refine PyProof.Rows.callWith_builtin1 (PyProof.Rows.args_cons ?_ rfl) rfl rfl
  refine Call_ (ld_blt I hg2 hm2 boot_set ?_)
  refine PyProof.Rows.callWith_type1 (PyProof.Rows.args_cons (thn (ha.run pins s σ H _ I h) fun v s1 ⟨x, H1, I1, r1, q1⟩ => PyProof.Rows.args_nil ?_) na) na rfl
  obtain ⟨l, xs, rfl, hq, hl, q1⟩ := q1
  cases r1
  obtain ⟨its, r, pl, hz⟩ := I1.tuple hq
  refine STT.call_set_texts (I1.ok.hd hc) pl (by simpa using strsAre_of r) (by unfold scanBound; omega) fun h' tk hS hk => ?_
  refine PyProof.Rows.args_nil ?_
  obtain ⟨c, hS, hc1, hn⟩ := hS
  obtain ⟨o, es, ep, t, ho, hex, hd, _, _, _, hf, he⟩ := hS
  have I2 : Inv X pins σ H1 { s1 with heap := h', toks := tk } := I1.kept hk
  rw [List.take_length] at hn
  refine call_len_set ho hex hd hf (by rw [he] <;> omega) ⟨.int (c : Nat), H1, I2.tok _, ⟨_, by rw [he]⟩, q1 c hn⟩
end
end L2
namespace L2
open PySem PySem.Spec PyProof.Rows
/-! exceptions of classes over a class of the program over ValueError -/
/-- the class at W that has no __init__ of its own, above it ValueError -/
structure WiC (K : PySem.W.Frag) (W : Addr) : Prop where
  reads : PySem.W.readsIn K W (.type "type") = true
  ga : PySem.W.specialIn K (.ref W) "__getattribute__" = some (some (.builtin "type.__getattribute__"))
  fi : PySem.W.findCls K (.ref W) (.type "type") "__init__" = some (.val (.builtin "ValueError.__init__"))
section
variable {X : Cx} {o e : Expr} {es : List Expr} {to te : TE} {ta : TA} {f : Str} {p p' p1 p2 pos : Pos}
/-- W.__init__(self, ..), W a class of the program with ValueError's __init__ -/
theorem pe_weinit {W : Addr} {x : Str} {pl : Sem Bool} (hg : Gl X x) (hm : X.mg x = some (.ref W)) (T : WiC X.K W) (ha : PA X (e :: es) ta) (hdb : (x == ("__debug__" : Str)) = false := by decide)
    (hc : eval (.Call (.Attribute (.Name x p1) "__init__" p2) (e :: es) [] pos) X.env = (do
      let ov ← eval (.Name x p1) X.env
      standAt p2.atName
      let (f, first) ← holding [ov] (getMethod ov "__init__" pl)
      callWith pos f first (backTo pos (starEach (e :: es) X.env)) (backToKw pos (keywordEach [] X.env))) := by rfl)
    (he : starEach (e :: es) X.env = (false, eval e X.env) :: starEach es X.env := by rfl) (hpl : (backTo pos (starEach es X.env)).any (·.1) = false := by rfl) :
    PE X (.Call (.Attribute (.Name x p1) "__init__" p2) (e :: es) [] pos) (tVeI X.K ta) := by
  refine ⟨fun pins s σ H Q I h => ?_⟩
  refine PySem.W.methodCall_KW (ld_glob I hg hm ?_ hdb) hc
  refine PySem.W.method_cls I.kIn T.ga (PySem.W.cls_value I.kIn T.reads T.fi (by decide +kernel) ?_)
  show wpAny _ _ (callWith pos (Value.builtin "ValueError.__init__") [] (backTo pos (starEach (e :: es) X.env)) []) _ _ _
  refine PyProof.Rows.callWith_method1 (thn (ha.run pos pins _ σ H _ (I.tok _) h) fun us s1 ⟨vs, H1, I1, r1, a, C, ws, ev, hl, T, ea, q⟩ => ?_) he hpl
  subst ev
  cases r1 with
  | @cons _ u0 _ ur ra rw' =>
    obtain rfl : u0 = Value.ref a := ra
    have hlen : ur.length ≤ sizeLine := by
      rw [← Paired.length rw', sizeLine_eq]
      omega
    exact oinit_ok T I1 ea hlen fun s' J => ⟨.non, H1, J, rfl, q⟩
/-- the promise of an __init__ that does no more than W's -/
def spInitN (K : PySem.W.Frag) : Sp := fun vs H Q _ => ∃ a C, vs = [.ref a] ∧ OexC K C ∧ H a = some (exo a C none) ∧ Q .non H
/-- the end of C(), whose __init__ stores nothing -/
theorem mk_endN {pins : List (Addr × Obj)} {σ : St} {H1 : Hp} {hp hp2 h2 : Heap} {g1 g2 : Array GenState} {d1 d2 : Drawn} {t1 t2 : Nat} {os1 os2 : OsState} {a C : Addr} (I1 : Inv X pins σ H1 ⟨hp, g1, d1, t1, os1⟩)
    (ha : hp.objs.size ≤ a) (k : ∀ b o, hp.get? b = some o → hp2.get? b = some o) (un : Un (frs X.stack) [] (upd H1 a (exo a C none)) (upd H1 a (exo a C none)) hp2 h2) (hok : HOk X.prog X.w (upd H1 a (exo a C none)) h2) (ho : os2 = os1) (hb : AllBare g2) :
    ∃ (t0 : Addr) (G : Heap), Inv X pins σ H1 ⟨G, g2, d2, t2, os2⟩ ∧ (∀ b o, G.get? b = some o → h2.get? b = some o) ∧ G.get? a = none ∧
      h2.get? a = some ({ cls := .ref C, dict := none, data := .fields #[.ref t0, .none, .none, .none, .bool false, .none] } : Obj) ∧ H1 a = none := by
  have ea : (upd H1 a (exo a C none)) a = some (exo a C none) := upd_same
  obtain ⟨t0, hoe⟩ := exo_at hok ea
  have hn : H1 a = none := I1.hok.fresh ha
  obtain ⟨G, g1', g2'⟩ := restrict h2 fun b => decide (b ≠ a)
  have gk : ∀ b, b ≠ a → G.get? b = h2.get? b := fun b hb => g1' b (decide_eq_true hb)
  have ge : G.get? a = none := g2' a (by simp)
  have nha : ∀ {b : Addr} {o : Obj}, hp.get? b = some o → b ≠ a := fun {b o} z => Nat.ne_of_lt (Nat.lt_of_lt_of_le (Heap.lt_size z) ha)
  have up : ∀ {b : Addr}, b ≠ a → H1 b = none → upd H1 a (exo a C none) b = none := fun {b} hb n => by rw [upd_ne hb]; exact n
  have U : Un (frs X.stack) [] H1 H1 hp G := {
    keep := fun b o z n hf hx => by
      rw [gk b (nha z)]
      exact un.keep b o (k b o z) (up (nha z) n) hf hx
    slot := fun b o z n hf hx => by
      rw [gk b (nha z)]
      exact un.slot b o (k b o z) (up (nha z) n) hf hx
    free := fun b o z n hx => n
    there := fun b o z hx => by
      rw [gk b (nha z)]
      exact un.there b o (k b o z) hx
    tups := fun b xs z => z
    frzs := fun b o v z => z
    tbls := fun b ps z => ⟨#[], by rw [z]; simp⟩ }
  have hok3 : HOk X.prog X.w H1 G := fun b o z => by
    have hba : b ≠ a := ne_of_none z hn
    have z' : (upd H1 a (exo a C none)) b = some o := by rw [upd_ne hba]; exact z
    have noa : ∀ {c : Addr}, (upd H1 a (exo a C none)) c = some (.own b) → c ≠ a := fun {c} hc => at_ne ea hc exo_own
    exact (hok b o z').stay (fun c v hc y => by
        have hca : c ≠ a := by
          rcases hc with hc | hc
          · rw [hc]
            exact hba
          · exact noa hc
        rw [gk c hca]
        exact y)
      (fun c hc => by rw [upd_ne (noa hc)] at hc; exact hc) (fun c xs hc => by rw [upd_ne (at_ne ea hc exo_tup)] at hc; exact hc)
  have J : Inv X pins σ H1 ⟨G, g2, d2, t2, os2⟩ := I1.call' (ch := []) ho U hok3 hb (fun b z => absurd z (by simp))
  refine ⟨t0, G, J, fun b o z => ?_, ge, hoe, hn⟩
  by_cases hba : b = a
  · rw [hba, ge] at z
    cases z
  · exact (gk b hba).symm.trans z
/-- C(), C's __init__ storing nothing -/
theorem pmk_oexN {CX : CXT} {x : Str} {C fI : Addr} {k : Nat} {fd : FuncData} {ps : List Str} (T : OexC X.K C) (iC : PySem.W.findIn X.K (.ref C) "__init__" = some (some (.ref fI))) (tI : PySem.W.typeIn X.K (.ref fI) = some (.type "function"))
    (F1 : FnOk X.prog X.w X.K X.mg X.base CX k fI fd ps (spInitN X.K)) (hr : Room (k + 1) X.A) (hb : Binds X.K fd ps []) (hx : Passes CX X (fun _ _ _ => False)) (hg : Gl X x) (hm : X.mg x = some (.ref C))
    (hdb : (x == ("__debug__" : Str)) = false := by decide) :
    PMk X (.Call (.Name x p) [] [] pos) (fun _ H Q => Q (.ref C) none H) := by
  intro pins s σ H Q I h
  obtain ⟨nm, q, N, bs, bm, sn, sub, ab, col, dd, k0, k1, k2, k3, k5, hC, hbm⟩ := T.cls
  refine wpAny_Call_Name_kw (ld_glob I hg hm ?_ hdb)
  refine PySem.W.callWith_K0 I.kIn T.kC ?_
  show wpAny _ _ (call (.ref C) []) _ _ _
  obtain ⟨hp, g, dr, tk, os⟩ := s
  have hsz : hp.objs.size ≤ hp.objs.size + 1 := Nat.le_succ _
  have hn : H (hp.objs.size + 1) = none := I.hok.fresh hsz
  have kk : ∀ b o, hp.get? b = some o → ((hp.push (PySem.W.kdv_tup [])).push (PySem.HandSPX.excO C hp.objs.size)).get? b = some o := fun b o e => Heap.get?_push_of_some _ (Heap.get?_push_of_some _ e)
  have hget : ((hp.push (PySem.W.kdv_tup [])).push (PySem.HandSPX.excO C hp.objs.size)).get? (hp.objs.size + 1) = some (PySem.HandSPX.excO C hp.objs.size) := by heap_get
  have I2 : Inv X pins σ (upd H (hp.objs.size + 1) (exo (hp.objs.size + 1) C none)) ⟨(hp.push (PySem.W.kdv_tup [])).push (PySem.HandSPX.excO C hp.objs.size), g, dr, tk, os⟩ :=
    I.laid (t' := tk) (a := hp.objs.size + 1) (o := exo (hp.objs.size + 1) C none) (h' := (hp.push (PySem.W.kdv_tup [])).push (PySem.HandSPX.excO C hp.objs.size)) kk hsz (exo_ok hget)
  have hq : spInitN X.K [V.ref (hp.objs.size + 1)] (upd H (hp.objs.size + 1) (exo (hp.objs.size + 1) C none)) (fun v H2 => v = .non ∧ H2 = upd H (hp.objs.size + 1) (exo (hp.objs.size + 1) C none)) (fun _ _ _ => False) := ⟨_, C, rfl, T, upd_same, rfl, rfl⟩
  have r2 : Vals [V.ref (hp.objs.size + 1)] [Value.ref (hp.objs.size + 1)] := .cons rfl .nil
  have hl : [Value.ref (hp.objs.size + 1)].length = ps.length := by
    have e := r2.length
    rw [F1.len _ _ _ _ hq] at e
    exact e.symm
  have b := hb _ [Value.ref (hp.objs.size + 1)] I2.kIn (by rw [List.append_nil]; exact hl)
  rw [List.append_nil] at b
  refine wpAny_call (PySem.HandSPX.call_own F.excBase_ValueError (fun Y => PySem.HandSPX.refsVE_contains Y bm hbm) (I.kIn _ _ hC) (PySem.W.looks_findIn I.kIn iC) (fun self => PySem.W.bind_fn I.kIn self tI) (by show 0 ≤ sizeLine; exact Nat.zero_le _)
    (codeAny_mono (F1.run _ X.stack _ _ ⟨[Value.ref (hp.objs.size + 1)], []⟩ [Value.ref (hp.objs.size + 1)] _ _ (fun _ _ _ => False) (hr.make C [] []) (I2.env0.make C [] []) b r2 hq) fun r s' hq' => ?_))
  cases r with
  | error er => exact hx pins σ _ _ er s' I2 hq'
  | ok fl =>
    cases fl with
    | ret u =>
      obtain ⟨v, H2, os2, bare2, un2, hok2, rv, ev, eH⟩ := hq'
      subst ev
      subst eH
      obtain ⟨h2, g2, d2, t2, os'⟩ := s'
      obtain ⟨t0, G, J, kG, ge, hoe, na⟩ := mk_endN (d2 := d2) (t2 := t2) I hsz kk un2 hok2 os2 bare2
      exact ⟨rv, _, _, _, ⟨G, g2, d2, t2, os'⟩, _, .ref C, none, rfl, J, kG, ge, hoe, ⟨rfl, rfl⟩, rfl, rfl, na, rfl, bare2, raises_own T.exC T.tyC, h⟩
    | next => exact False.elim hq'
    | brk => exact False.elim hq'
    | cont => exact False.elim hq'
end
/-! isinstance(e, T) of a caught exception without fields -/
structure ExI (K : PySem.W.Frag) (C : Addr) : Prop where
  cl : (PySem.W.clsIn K C).isSome = true
  ga : PySem.W.findIn K (.ref C) "__getattribute__" = some (some (.builtin "BaseException.__getattribute__"))
  gt : ∃ gt, PySem.W.findIn K (.ref C) "__getattr__" = some gt
  sub : PySem.W.subIn K (.ref C) (.type "BaseException") = some true
  cf : PySem.W.findIn K (.ref C) "__class__" = some (some (.builtin "object.__class__"))
  sp : PySem.W.specialIn K (.builtin "object.__class__") "__get__" = some (some (.builtin "getset_descriptor.__get__"))
  tk : PySem.W.takesIn K (.builtin "object.__class__") = some true
  ob : PySem.W.mroIn K C (.type "object") = some true
def rIsiE (K : PySem.W.Frag) (a C : Addr) : List V → Hp → VK → Prop := fun xs H Q => ∃ (c : V) (u : Value) (b : Bool), xs = [.ref a, c] ∧ ClsV c u ∧ PySem.W.kitOne K (.ref C) u = some b ∧ Q (.bl b) H
theorem call_isiE {X : Cx} {a C : Addr} {oe : Obj} {pn : List (Addr × Obj)} (T : ExI X.K C) (hz : Zc (.ref C) none oe) (hf : ∃ vs, oe.data = .fields vs) : CallR (X.suite a ((a, oe) :: pn)) (.builtin "isinstance") (rIsiE X.K a C) := by
  intro pins s σ H xs us Q I r h
  obtain ⟨c, u, b, rfl, k, e, q⟩ := h
  obtain ⟨u1, u2, rfl, r1, r2⟩ := vals2 r
  have e2 := k.eq r2
  subst e2
  obtain rfl : u1 = Value.ref a := r1
  obtain ⟨ha, _⟩ := I.pin (a, oe) (List.mem_append_left _ List.mem_cons_self)
  obtain ⟨vs, hd⟩ := hf
  obtain ⟨gt, hgt⟩ := T.gt
  have J : PySem.W.InstAt s.heap a oe C none := ⟨ha, hz.1, by unfold PySem.W.notCls; rw [hd] <;> rfl, by rw [hz.2]; exact True.intro⟩
  exact PySem.W.kia_one (PySem.W.kitx_exc (x := a) (ox := oe) (od := none) T.cl T.ga hgt T.sub T.cf T.sp T.tk T.ob) I.kIn J e (by intro z; cases z) fun tk => ⟨.bl b, H, I.tok tk, rfl, q⟩
end L2
namespace AW
open PySem PySem.Spec PyProof.Rows L2
/-! tuple * number, many times; text < text -/
def rRepW (K : PySem.W.Frag) : R2 := fun x y H Q => ∃ l k xs, x = .ref l ∧ y = .int k ∧ SqT K H l xs ∧ xs ≠ [] ∧ 2 ≤ k ∧ k ≤ 10000 ∧ xs.length ≤ 100 ∧ ∀ p, H p = none → Q (.ref p) (upd H p (.tup (List.replicate k.toNat xs).flatten))
theorem op_repW {X : Cx} : OpR X (binaryOp .Mult) (rRepW X.K) := by
  intro pins s σ H x y v u Q I rx ry h
  obtain ⟨l, k, xs, rfl, rfl, hT, hne, h1, h2, hz, q⟩ := h
  cases rx
  obtain ⟨t, rfl⟩ := ry
  obtain ⟨its, r, ⟨⟨cls, dd, data, sl⟩, ho, hc, n, hd⟩, hs⟩ := I.tuple hT
  simp only at hc hd
  subst hc hd
  have hle : its.length = xs.length := r.length.symm
  have hi : its.toArray.isEmpty = false := by
    match its, hle with
    | [], e => exact absurd (List.eq_nil_of_length_eq_zero e.symm) hne
    | _ :: _, _ => rfl
  have mul : ∀ m : Nat, m ≤ 100 → ((m : Nat) : Int) * k ≤ 1000000 := fun m hm => by
    have := Int.mul_le_mul_of_nonneg_right (show ((m : Nat) : Int) ≤ 100 by omega) (show 0 ≤ k by omega)
    omega
  have muln : k.toNat * xs.length ≤ 1000000 := by
    have := Nat.mul_le_mul (show k.toNat ≤ 10000 by omega) hz
    omega
  have hm : ((its.toArray.size : Nat) : Int) * k ≤ 1000000 := mul _ (by rw [List.size_toArray]; omega)
  have flen : (List.replicate k.toNat its).flatten.length ≤ sizeLine := by
    rw [PyProof.Rows.lm_len_rep_flat, hle, sizeLine_eq]
    omega
  refine wpAny_binaryOp_repeat_ref (T := "tuple") (U := "int") (by decide) ⟨_, ho, rfl⟩ (fun s' => typeIs_int s' k t) noFill_tuple_mul F.fills_int_mul F.slot_int_rmul repeat_tuple F.slot_int_index.lookup
    (call_meets F.slot_int_rmul (typeIs_int s k t) F.entry_int_rmul (F.args_int_rmul_2 _ _) (int_rmul_tuple k t l its.toArray n dd sl)
      ⟨ho, rfl, ⟨_, ho, rfl⟩, call_meets F.slot_tuple_mul ⟨_, ho, rfl⟩ F.entry_tuple_mul (F.args_tuple_mul_2 _ _) (tuple_mulW l its.toArray n dd sl k t
        (by rw [decide_eq_false (by omega), decide_eq_false (by omega)] <;> rfl) (by rw [hi, Bool.false_or]; exact beq_eq_false_iff_ne.mpr (by omega)) (by rw [hi, Bool.or_false]; exact decide_eq_false (by omega)) (by omega)
        (by unfold Builtin.Tuple.tupleTooMany; rw [sizeLine_eq]; exact decide_eq_false (by omega)) (by rw [size_rep, List.size_toArray]; exact flen)) ⟨ho, ?_⟩⟩)
  rw [size_rep]
  refine ⟨.ref s.heap.objs.size, _, I.laid (t' := s.toks) (o := .tup (List.replicate k.toNat xs).flatten) (fun b ob q => Heap.get?_push_of_some _ q) (Nat.le_refl _) ?_, rfl, q _ (I.hok.fresh (Nat.le_refl _))⟩
  exact ⟨by rw [PyProof.Rows.lm_len_rep_flat, sizeLine_eq]; omega, _, r.rep k.toNat, IsTup.new _ _⟩
def rLtS : R2 := fun x y H Q => ∃ i j, x = .str i ∧ y = .str j ∧ Q (.bl (decide (i.cps.toList < j.cps.toList))) H
theorem op_ltS {X : Cx} : OpR X (compareOp .Lt) rLtS := op_lt_str
end AW
/-! heaps that go on, the law's state, readings of one def at a time -/
namespace AW
open PySem PySem.Spec PyProof.Rows L2

/-- what goes on: all but the objects of S; tuples and locked things always -/
structure Adv (S : List Addr) (H H' : Hp) : Prop where
  keep : ∀ a o, a ∉ S → H a = some o → H' a = some o
  tup : ∀ a xs, H a = some (.tup xs) → H' a = some (.tup xs)
theorem Adv.refl (S : List Addr) (H : Hp) : Adv S H H := ⟨fun _ _ _ h => h, fun _ _ h => h⟩
theorem Adv.trans {S : List Addr} {H H1 H2 : Hp} (a : Adv S H H1) (b : Adv S H1 H2) : Adv S H H2 := ⟨fun c o n h => b.keep c o n (a.keep c o n h), fun c xs h => b.tup c xs (a.tup c xs h)⟩
theorem Adv.mono {S S' : List Addr} {H H' : Hp} (a : Adv S H H') (h : ∀ b ∈ S, b ∈ S') : Adv S' H H' := ⟨fun c o n q => a.keep c o (fun m => n (h c m)) q, a.tup⟩
theorem Adv.any {S : List Addr} {H H' : Hp} (a : Adv [] H H') : Adv S H H' := a.mono fun _ h => nomatch h
theorem Adv.new {H : Hp} {p : Addr} {o : HO} (h : H p = none) : Adv [] H (upd H p o) :=
  ⟨fun a u _ e => by rw [upd_ne (ne_of_none e h)]; exact e, fun a xs e => by rw [upd_ne (ne_of_none e h)]; exact e⟩
/-- an object that is no tuple is changed -/
theorem Adv.set {H : Hp} {f : Addr} {o u : HO} (e : H f = some u) (nt : ∀ xs, u ≠ .tup xs) : Adv [f] H (upd H f o) :=
  ⟨fun a v n q => by rw [upd_ne (fun z => n (by rw [z]; exact List.mem_singleton.mpr rfl))]; exact q, fun a xs q => by rw [upd_ne (ne_of q e (nt xs).symm)]; exact q⟩
theorem Adv.lst {H : Hp} {f : Addr} {o : HO} {ys : List V} (e : H f = some (.lst ys)) : Adv [f] H (upd H f o) := Adv.set e (fun _ z => by cases z)
theorem Adv.dct {H : Hp} {f : Addr} {o : HO} {ys : List (Key × V)} (e : H f = some (.dK ys)) : Adv [f] H (upd H f o) := Adv.set e (fun _ z => by cases z)
/-- what H does not know yet need not be named -/
theorem Adv.drop {S : List Addr} {f : Addr} {H H' : Hp} (a : Adv (f :: S) H H') (h : H f = none) : Adv S H H' :=
  ⟨fun b o n e => a.keep b o (fun m => by
    rcases List.mem_cons.mp m with z | z
    · rw [z] at e; rw [h] at e; cases e
    · exact n z) e, a.tup⟩
/-- f is new, the rest goes on, f is changed -/
theorem Adv.mut {S : List Addr} {f : Addr} {H H' : Hp} {o u : HO} (a : Adv S H H') (h : H f = none) (e : H' f = some u) (nt : ∀ xs, u ≠ .tup xs) : Adv S H (upd H' f o) :=
  ⟨fun b v n q => by rw [upd_ne (ne_of_none q h)]; exact a.keep b v n q, fun b xs q => by rw [upd_ne (ne_of_none q h)]; exact a.tup b xs q⟩
theorem Adv.free {S : List Addr} {H H' : Hp} {p : Addr} (a : Adv S H H') (hS : p ∉ S) (h : H' p = none) : H p = none := by
  cases q : H p with
  | none => rfl
  | some o =>
    rw [a.keep p o hS q] at h
    cases h
section
variable {K : PySem.W.Frag} {S : List Addr} {H H' : Hp} {a : Addr} {xs : List V}
theorem Adv.sqt (e : Adv S H H') (hf : ∀ o u, H a = some (.frz o u) → a ∉ S) (h : SqT K H a xs) : SqT K H' a xs := by
  rcases h with (h | ⟨o, h⟩) | h
  · exact .inl (.inl (e.tup _ _ h))
  · exact .inl (.inr ⟨o, e.keep _ _ (hf _ _ h) h⟩)
  · exact .inr h
theorem Adv.sql (e : Adv S H H') (hn : a ∉ S) (h : SqL K H a xs) : SqL K H' a xs := by
  rcases h with (h | ⟨o, h⟩) | h
  · exact .inl (.inl (e.keep _ _ hn h))
  · exact .inl (.inr ⟨o, e.keep _ _ hn h⟩)
  · exact .inr h
end
theorem w_new {H : Hp} {o : HO} {Q : V → Hp → Prop} (h : ∀ p H', H p = none → Adv [] H H' → H' p = some o → Q (.ref p) H') : ∀ p, H p = none → Q (.ref p) (upd H p o) := fun p hp => h p _ hp (Adv.new hp) upd_same

/-! ### the law's bag at st: what is left of a great cell, the draws, the great cells to come at cs.1, the cells at cs.2 -/
def StOk (st : Addr) (cs : Addr × Addr) (H : Hp) : Prop := ∃ (r n : Int) (gs ns : List Int),
  H st = some (.lst [.int r, .int n, .ref cs.1, .ref cs.2]) ∧ H cs.1 = some (.lst (gs.map V.int)) ∧ H cs.2 = some (.lst (ns.map V.int)) ∧ 0 < ns.length ∧ ns.length ≤ 100 ∧ gs.length ≤ 100 ∧ cs.1 ≠ st ∧ cs.2 ≠ st ∧ cs.2 ≠ cs.1 ∧ ∀ x ∈ ns, 0 ≤ x ∧ x < 2147483647
def Off (p st : Addr) (cs : Addr × Addr) : Prop := p ≠ st ∧ p ≠ cs.1
theorem Off.not {p st : Addr} {cs : Addr × Addr} (h : Off p st cs) : p ∉ [st, cs.1] := fun z => by
  rcases List.mem_cons.mp z with e | e
  · exact h.1 e
  · exact h.2 (List.mem_singleton.mp e)
/-- a new object is none of them -/
theorem StOk.ne {st : Addr} {cs : Addr × Addr} {p : Addr} {H : Hp} (h : StOk st cs H) (hp : H p = none) : Off p st cs ∧ p ≠ cs.2 := by
  obtain ⟨_, _, _, _, h1, h2, h3, _⟩ := h
  exact ⟨⟨(ne_of_none h1 hp).symm, (ne_of_none h2 hp).symm⟩, (ne_of_none h3 hp).symm⟩
theorem StOk.keep {st : Addr} {cs : Addr × Addr} {H H' : Hp} {S : List Addr} (h : StOk st cs H) (e : Adv S H H') (h1 : st ∉ S) (h2 : cs.1 ∉ S) (h3 : cs.2 ∉ S) : StOk st cs H' := by
  obtain ⟨r, n, gs, ns, a, b, c, d⟩ := h
  exact ⟨r, n, gs, ns, e.keep _ _ h1 a, e.keep _ _ h2 b, e.keep _ _ h3 c, d⟩
/-- the run goes on: the bag alone is changed -/
structure Go (st : Addr) (cs : Addr × Addr) (H H' : Hp) : Prop where
  adv : Adv [st, cs.1] H H'
  ok : StOk st cs H'
section
variable {st : Addr} {cs : Addr × Addr}
theorem Go.refl {H : Hp} (h : StOk st cs H) : Go st cs H H := ⟨.refl _ _, h⟩
theorem Go.trans {H H1 H2 : Hp} (a : Go st cs H H1) (b : Go st cs H1 H2) : Go st cs H H2 := ⟨a.adv.trans b.adv, b.ok⟩
theorem Go.of {H H' : Hp} (h : StOk st cs H) (e : Adv [] H H') : Go st cs H H' := ⟨e.any, h.keep e (fun z => nomatch z) (fun z => nomatch z) fun z => nomatch z⟩
theorem Go.new {H H' : Hp} (a : Go st cs H H') {H2 : Hp} (e : Adv [] H' H2) : Go st cs H H2 := a.trans (.of a.ok e)
theorem Go.mut {f : Addr} {H H' : Hp} {o u : HO} (a : Go st cs H H') (h : H f = none) (e : H' f = some u) (nt : ∀ xs, u ≠ .tup xs) (n1 : Off f st cs) (n2 : f ≠ cs.2) : Go st cs H (upd H' f o) :=
  ⟨a.adv.mut h e nt, a.ok.keep (Adv.set e nt) (fun z => n1.1 (List.mem_singleton.mp z).symm) (fun z => n1.2 (List.mem_singleton.mp z).symm) fun z => n2 (List.mem_singleton.mp z).symm⟩
theorem Go.mutL {f : Addr} {H H' : Hp} {o : HO} {xs : List V} (a : Go st cs H H') (hs : StOk st cs H) (h : H f = none) (e : H' f = some (.lst xs)) : Go st cs H (upd H' f o) :=
  a.mut h e (fun _ z => by cases z) (hs.ne h).1 (hs.ne h).2
theorem Go.mutD {f : Addr} {H H' : Hp} {o : HO} {xs : List (Key × V)} (a : Go st cs H H') (hs : StOk st cs H) (h : H f = none) (e : H' f = some (.dK xs)) : Go st cs H (upd H' f o) :=
  a.mut h e (fun _ z => by cases z) (hs.ne h).1 (hs.ne h).2
theorem Go.mutT {f : Addr} {H H' : Hp} {o : HO} {xs : List (List L2.Key × V)} (a : Go st cs H H') (hs : StOk st cs H) (h : H f = none) (e : H' f = some (.dT xs)) : Go st cs H (upd H' f o) :=
  a.mut h e (fun _ z => by cases z) (hs.ne h).1 (hs.ne h).2
theorem Go.keep {a : Addr} {H H' : Hp} {o : HO} (g : Go st cs H H') (n : Off a st cs) (h : H a = some o) : H' a = some o := g.adv.keep a o n.not h
theorem Go.sql {a : Addr} {K : PySem.W.Frag} {H H' : Hp} {xs : List V} (g : Go st cs H H') (n : Off a st cs) (h : SqL K H a xs) : SqL K H' a xs := g.adv.sql n.not h
theorem Go.free {p : Addr} {H H' : Hp} (g : Go st cs H H') (hs : StOk st cs H) (h : H' p = none) : H p = none := g.adv.free (g.ok.ne h).1.not h
theorem StOk.notD {a : Addr} {H : Hp} {o : HO} (h : StOk st cs H) (e : H a = some o) (no : ∀ xs, o ≠ .lst xs) : Off a st cs := by
  obtain ⟨_, _, _, _, h1, h2, _⟩ := h
  exact ⟨ne_of e h1 (no _), ne_of e h2 (no _)⟩
end
end AW
/-! one step of a reading at a time -/
namespace AW
open PySem PySem.Spec PyProof.Rows L2
section
variable {σ : L2.St} {H : Hp} {Q : VK} {ta tb te : TE} {t u : TT} {D : Ends} {t1 t2 : TS} {K : PySem.W.Frag}
theorem w_var {i : Nat} {v : V} (h : σ[i]? = some (some v)) (q : Q v H) : tVar i σ H Q := ⟨v, h, q⟩
theorem w_c {v : V} (q : Q v H) : tC v σ H Q := q
theorem w_op {r : R2} (h : ta σ H fun x H1 => tb σ H1 fun y H2 => r x y H2 Q) : tOp r ta tb σ H Q := h
theorem w_un {r : V → Hp → VK → Prop} (h : ta σ H fun x H1 => r x H1 Q) : tUn r ta σ H Q := h
theorem w_I0 {g : Int → Int → V} {i j : Int} (q : Q (g i j) H) : rI0 g (.int i) (.int j) H Q := ⟨i, j, rfl, rfl, q⟩
theorem w_I {C : Int → Int → Prop} {g : Int → Int → V} {i j : Int} (c : C i j) (q : Q (g i j) H) : rI C g (.int i) (.int j) H Q := ⟨i, j, rfl, rfl, c, q⟩
theorem w_U {g : Int → V} {i : Int} (q : Q (g i) H) : rU g (.int i) H Q := ⟨i, rfl, q⟩
theorem w_cb {r : List V → Hp → VK → Prop} {a : TA} (h : a σ H fun vs H1 => r vs H1 Q) : tCB r a σ H Q := h
theorem w_nil {Q : List V → Hp → Prop} (q : Q [] H) : tNil σ H Q := q
theorem w_cons {Q : List V → Hp → Prop} {a : TA} (h : ta σ H fun x H1 => a σ H1 fun xs H2 => Q (x :: xs) H2) : tCons ta a σ H Q := h
theorem w_call {sp : Sp} {E : XK} {a : TA} (h : a σ H fun vs H1 => sp vs H1 Q E) : tCall sp [] E a σ H Q := by
  show a σ H fun vs H1 => sp (vs ++ []) H1 Q E
  have e : (fun (vs : List V) (H1 : Hp) => sp (vs ++ []) H1 Q E) = fun vs H1 => sp vs H1 Q E := by
    funext vs H1
    rw [List.append_nil]
  rw [e]
  exact h
theorem w_test {Q : Bool → Hp → Prop} (h : te σ H fun x H1 => ∃ k, x = .bl k ∧ Q k H1) : tTest te σ H Q := h
theorem w_B {Q : Bool → Hp → Prop} (h : te σ H fun x H1 => ∃ k, x = .bl k ∧ Q k H1) : tB te σ H Q := h
theorem w_bl {k : Bool} {P : Bool → Prop} (q : P k) : ∃ k', V.bl k = .bl k' ∧ P k' := ⟨k, rfl, q⟩
theorem w_yes {Q : Bool → Hp → Prop} (q : Q true H) : tYes σ H Q := q
theorem w_not {Q : Bool → Hp → Prop} (h : t σ H fun c H1 => Q (!c) H1) : tNot t σ H Q := h
theorem w_and {Q : Bool → Hp → Prop} (h : t σ H fun c H1 => if c = true then u σ H1 Q else Q false H1) : tAnd t u σ H Q := h
theorem w_or {Q : Bool → Hp → Prop} (h : t σ H fun c H1 => if c = true then Q true H1 else u σ H1 Q) : tOr t u σ H Q := h
theorem w_andV (h : ta σ H fun x H1 => ∃ c, x = .bl c ∧ if c = true then tb σ H1 Q else Q (.bl false) H1) : tAndV ta tb σ H Q := h
theorem w_orV (h : ta σ H fun x H1 => ∃ c, x = .bl c ∧ if c = true then Q (.bl true) H1 else tb σ H1 Q) : tOrV ta tb σ H Q := h
theorem w_notV (h : ta σ H fun x H1 => ∃ c, x = .bl c ∧ Q (.bl (!c)) H1) : tNotV ta σ H Q := h
theorem w_if (h : t σ H fun c H1 => if c = true then ta σ H1 Q else tb σ H1 Q) : tIf t ta tb σ H Q := h
def kTupD (xs : List V) (H : Hp) (Q : VK) : Prop := xs.length ≤ sizeLine ∧ ∀ p, H p = none → Q (.ref p) (upd H p (.tup xs))
theorem w_tup {a : TA} (h : a σ H fun xs H1 => kTupD xs H1 Q) : tTup a σ H Q := h
def kLstD (xs : List V) (H : Hp) (Q : VK) : Prop := xs.length ≤ sizeLine ∧ ∀ p, H p = none → Q (.ref p) (upd H p (.lst xs))
theorem w_lst {a : TA} (h : a σ H fun xs H1 => kLstD xs H1 Q) : tLst a σ H Q := h
theorem w_int1 {i : Int} (q : Q (.int i) H) : rInt1 [.int i] H Q := .inl ⟨i, rfl, q⟩
theorem w_int1b {k : Bool} (q : Q (.int (if k then 1 else 0)) H) : rInt1 [.bl k] H Q := .inr ⟨k, rfl, q⟩
theorem w_abs {i : Int} (q : Q (.int (if i < 0 then -i else i)) H) : rAbs [.int i] H Q := ⟨i, rfl, q⟩
theorem w_max2 {i j : Int} (q : Q (.int (if j > i then j else i)) H) : rMax2 [.int i, .int j] H Q := ⟨i, j, rfl, q⟩
theorem w_min2 {i j : Int} (q : Q (.int (if j < i then j else i)) H) : rMin2 [.int i, .int j] H Q := ⟨i, j, rfl, q⟩
theorem w_eq {x y : V} (h : scal x y = true) (q : Q (.bl (decide (x = y))) H) : rEq x y H Q := ⟨h, q⟩
theorem w_ne {x y : V} (h : scal x y = true) (q : Q (.bl (!decide (x = y))) H) : rNe x y H Q := ⟨h, q⟩
theorem w_isN {x : V} (q : Q (.bl (decide (x = .non))) H) : rIsN x .non H Q := ⟨rfl, q⟩
theorem w_isB {a b : Bool} (q : Q (.bl (decide (a = b))) H) : rIsB (.bl a) (.bl b) H Q := ⟨a, b, rfl, rfl, q⟩
theorem w_chain {r r' : R2} {tc : TE} (h : ta σ H fun x H1 => tb σ H1 fun y H2 => r x y H2 fun z H3 => ∃ k, z = .bl k ∧ (if k = true then tc σ H3 fun w' H4 => r' y w' H4 Q else Q (.bl false) H3)) : tChain r r' ta tb tc σ H Q := h
/-- a list's item at a place -/
theorem w_ixL {p : Addr} {xs : List V} {i : Int} {v : V} (h : SqL K H p xs) (e : atI xs i = some v) (q : Q v H) : rIxL K (.ref p) (.int i) H Q := ⟨p, xs, i, v, rfl, rfl, h, e, q⟩
theorem w_ixT {p : Addr} {xs : List V} {i : Int} {v : V} (h : SqT K H p xs) (e : atI xs i = some v) (q : Q v H) : rIxT K (.ref p) (.int i) H Q := ⟨p, xs, i, v, rfl, rfl, h, e, q⟩
theorem w_lenL {p : Addr} {xs : List V} (h : SqL K H p xs) (q : Q (.int (xs.length : Nat)) H) : rLen1 K [.ref p] H Q := ⟨.ref p, xs.length, rfl, .inl ⟨xs, h, rfl⟩, q⟩
theorem w_lenT {p : Addr} {xs : List V} (h : SqT K H p xs) (q : Q (.int (xs.length : Nat)) H) : rLen1 K [.ref p] H Q := ⟨.ref p, xs.length, rfl, .inr ⟨xs, h, rfl⟩, q⟩
/-! statements -/
theorem w_seq (h : t1 { D with nx := t2 D } σ H) : tSeq t1 t2 D σ H := h
theorem w_next (q : D.nx σ H) : tNext D σ H := q
theorem w_ret (h : te σ H D.rt) : tRet te D σ H := h
theorem w_drop (h : te σ H fun _ H1 => D.nx σ H1) : tDrop te D σ H := h
theorem w_asg {g : TG} (h : te σ H fun x H1 => g x σ H1 D.nx) : tAsg te g D σ H := h
theorem w_gname {i : Nat} {v : V} {Q : L2.St → Hp → Prop} (q : Q (σ.set i (some v)) H) : gName i v σ H Q := q
theorem w_ifS (h : t σ H fun b H1 => if b = true then t1 D σ H1 else t2 D σ H1) : tIfS t t1 t2 D σ H := h
theorem w_gsub {s : TSet} {v : V} {Q : L2.St → Hp → Prop} (h : ta σ H fun o H1 => tb σ H1 fun i H2 => s o i v H2 fun H3 => Q σ H3) : gSub ta tb s v σ H Q := h
theorem w_setL {p : Addr} {xs : List V} {k : Int} {j : Nat} {v : V} {Q : Hp → Prop} (h : H p = some (.lst xs)) (e : ixN xs.length k = some j) (q : Q (upd H p (.lst (xs.set j v)))) : rSetL (.ref p) (.int k) v H Q := ⟨p, xs, k, j, rfl, rfl, h, e, q⟩
theorem w_augS {to ti : TE} {tget : V → V → Hp → VK → Prop} {tip : TIp} {tset : TSet} (h : to σ H fun o H1 => ti σ H1 fun i H2 => tget o i H2 fun x H3 => te σ H3 fun y H4 => tip x y H4 fun z H5 => tset o i z H5 fun H6 => D.nx σ H6) : tAugS to ti te tget tip tset D σ H := h
theorem w_ipI {f : Int → Int → Int} {i j : Int} (q : Q (.int (f i j)) H) : ipI f (.int i) (.int j) H Q := ⟨i, j, rfl, rfl, q⟩
theorem w_ite {c A B : Prop} [Decidable c] (h1 : c → A) (h2 : ¬c → B) : if c then A else B := ite2 h1 h2
theorem w_iteB {c : Prop} [Decidable c] {A B : Prop} (h1 : c → A) (h2 : ¬c → B) : if (decide c) = true then A else B := ite2 (fun h => h1 (of_decide_eq_true h)) fun h => h2 fun z => h (decide_eq_true z)
theorem w_iteNB {c : Prop} [Decidable c] {A B : Prop} (h1 : ¬c → A) (h2 : c → B) : if (!decide c) = true then A else B := ite2 (fun h => h1 fun z => by rw [decide_eq_true z] at h; cases h) fun h => h2 (Classical.byContradiction fun z => h (by rw [decide_eq_false z]; rfl))
/-! slices, lists joined, append -/
theorem w_sl {r : V → Option Int → Option Int → Hp → VK → Prop} {tl th : TO} (h : te σ H fun x H1 => tl σ H1 fun l H2 => th σ H2 fun u H3 => r x l u H3 Q) : tSl r te tl th σ H Q := h
theorem w_part {Q : Option Int → Hp → Prop} (h : te σ H fun x H1 => ∃ i, x = .int i ∧ Q (some i) H1) : tPart te σ H Q := h
theorem w_noPart {Q : Option Int → Hp → Prop} (q : Q none H) : tNoPart σ H Q := q
theorem w_in {i : Int} {P : Int → Prop} (q : P i) : ∃ k, V.int i = .int k ∧ P k := ⟨i, rfl, q⟩
theorem w_slL {p : Addr} {xs : List V} {lo hi : Option Int} (h : SqL K H p xs) (q : ∀ r H', H r = none → Adv [] H H' → H' r = some (.lst (cutV xs lo hi)) → Q (.ref r) H') : rSlL K (.ref p) lo hi H Q := ⟨p, xs, rfl, h, w_new q⟩
theorem w_cat {a b : Addr} {xs ys : List V} (h1 : H a = some (.lst xs)) (h2 : H b = some (.lst ys)) (hz : xs.length + ys.length ≤ 100000) (q : ∀ r H', H r = none → Adv [] H H' → H' r = some (.lst (xs ++ ys)) → Q (.ref r) H') : rCat (.ref a) (.ref b) H Q :=
  ⟨a, b, xs, ys, rfl, rfl, h1, h2, Nat.le_trans hz (by decide), w_new q⟩
theorem w_listOf {p : Addr} {xs : List V} (h : SqL K H p xs ∨ SqT K H p xs) (q : ∀ r H', H r = none → Adv [] H H' → H' r = some (.lst xs) → Q (.ref r) H') : rListOf K [.ref p] H Q := ⟨p, xs, rfl, h, w_new q⟩
theorem w_app {i : Nat} {l : Addr} {xs0 : List V} {a : TA} (hσ : σ[i]? = some (some (.ref l))) (h0 : H l = some (.lst xs0)) (h : a σ H fun vs H2 => rAppend (.ref l) vs H2 Q) : tBM K "list" rAppend (tVar i) a σ H Q :=
  ⟨.ref l, hσ, .inl ⟨rfl, xs0, SqL.of h0⟩, h⟩
theorem w_append {l : Addr} {xs : List V} {y : V} (h : H l = some (.lst xs)) (hz : xs.length < 100000) (q : Q .non (upd H l (.lst (xs ++ [y])))) : rAppend (.ref l) [y] H Q :=
  ⟨l, xs, y, rfl, rfl, h, Nat.lt_of_lt_of_le hz (by decide), q⟩
theorem w_lstD {xs : List V} (hz : xs.length ≤ 100000) (q : ∀ r H', H r = none → Adv [] H H' → H' r = some (.lst xs) → Q (.ref r) H') : kLstD xs H Q := ⟨Nat.le_trans hz (by decide), w_new q⟩
theorem w_tupD {xs : List V} (hz : xs.length ≤ 100000) (q : ∀ r H', H r = none → Adv [] H H' → H' r = some (.tup xs) → Q (.ref r) H') : kTupD xs H Q := ⟨Nat.le_trans hz (by decide), w_new q⟩
/-! loops -/
def kFor (J : It) (g : TG) (tb : TS) (D : Ends) (σ : L2.St) (H1 : Hp) : Prop := ∃ W : Nat → Nat → L2.St → Hp → Prop, (∃ m, W 0 m σ H1) ∧ ∀ i m σ H, W i m σ H →
  (J.stop i H ∧ D.nx σ H) ∨ (J.go i H ∧ ∃ N : L2.St → Hp → Prop, (∀ σ' H', N σ' H' → ∃ m', m' < m ∧ W (i + 1) m' σ' H') ∧ ∀ v H', J.yld i H v H' → g v σ H' fun σ2 H2 => tb { D with nx := N, ct := N, bk := D.nx } σ2 H2)
def kForR (g : TG) (tb : TS) (D : Ends) (σ : L2.St) (vs : List V) (H1 : Hp) : Prop := ∃ j : Int, vs = [.int j] ∧ -(2 ^ 62) ≤ j ∧ j < 2 ^ 62 ∧ kFor (Itr 0 j.toNat) g tb D σ H1
theorem w_forR {a : TA} {g : TG} {tb : TS} (h : a σ H (kForR g tb D σ)) : tFor (iRng1 a) g tb D σ H := h
theorem kForR_i {n : Nat} {j : Nat} {tb : TS} (hn : n ≤ 1000000) (Pv : Nat → L2.St → Hp → Prop) (h0 : Pv 0 σ H) (hs : ∀ i σ' H', i < n → Pv i σ' H' → tb { D with nx := Pv (i + 1), ct := Pv (i + 1), bk := D.nx } (σ'.set j (some (.int (i : Nat)))) H')
    (hd : ∀ σ' H', Pv n σ' H' → D.nx σ' H') : kForR (gName j) tb D σ [.int (n : Nat)] H := by
  refine ⟨n, rfl, by omega, by omega, ?_⟩
  have e : ((n : Nat) : Int).toNat = n := by omega
  rw [e]
  refine for_range (lo := 0) (n := n) Pv h0 (fun i σ' H' hi p => ?_) hd
  show tb { D with nx := Pv (i + 1), ct := Pv (i + 1), bk := D.nx } (σ'.set j (some (.int ((0 : Int) + (i : Nat))))) H'
  rw [Int.zero_add]
  exact hs i σ' H' hi p
def kForR2 (g : TG) (tb : TS) (D : Ends) (σ : L2.St) (vs : List V) (H1 : Hp) : Prop := ∃ i j : Int, vs = [.int i, .int j] ∧ (-(2 ^ 62) ≤ i ∧ i < 2 ^ 62 ∧ -(2 ^ 62) ≤ j ∧ j < 2 ^ 62) ∧ kFor (Itr i (j - i).toNat) g tb D σ H1
theorem w_forR2 {a : TA} {g : TG} {tb : TS} (h : a σ H (kForR2 g tb D σ)) : tFor (iRng2 a) g tb D σ H := h
theorem kForR2_i {lo hi : Int} {j : Nat} {tb : TS} (h1 : -1000000 ≤ lo ∧ lo ≤ 1000000) (h2 : -1000000 ≤ hi ∧ hi ≤ 1000000) (Pv : Nat → L2.St → Hp → Prop) (h0 : Pv 0 σ H)
    (hs : ∀ i σ' H', i < (hi - lo).toNat → Pv i σ' H' → tb { D with nx := Pv (i + 1), ct := Pv (i + 1), bk := D.nx } (σ'.set j (some (.int (lo + (i : Nat))))) H') (hd : ∀ σ' H', Pv (hi - lo).toNat σ' H' → D.nx σ' H') : kForR2 (gName j) tb D σ [.int lo, .int hi] H :=
  ⟨lo, hi, rfl, ⟨by omega, by omega, by omega, by omega⟩, for_range (lo := lo) (n := (hi - lo).toNat) Pv h0 (fun i σ' H' hi p => hs i σ' H' hi p) hd⟩
def kForL (K : PySem.W.Frag) (g : TG) (tb : TS) (D : Ends) (σ : L2.St) (x : V) (H1 : Hp) : Prop := ∃ a, x = .ref a ∧ (∃ xs, SqL K H1 a xs) ∧ kFor (Itl K a) g tb D σ H1
theorem w_forL {tl : TE} {g : TG} {tb : TS} (h : tl σ H (kForL K g tb D σ)) : tFor (iList K tl) g tb D σ H := h
theorem kForL_i {p : Addr} {xs : List V} {g : TG} {tb : TS} (Pv : Nat → L2.St → Hp → Prop) (hp : SqL K H p xs) (h0 : Pv 0 σ H) (hl : ∀ i σ' H', i ≤ xs.length → Pv i σ' H' → SqL K H' p xs)
    (hs : ∀ i v σ' H', xs[i]? = some v → Pv i σ' H' → g v σ' H' fun σ2 H2 => tb { D with nx := Pv (i + 1), ct := Pv (i + 1), bk := D.nx } σ2 H2) (hd : ∀ σ' H', Pv xs.length σ' H' → D.nx σ' H') : kForL K g tb D σ (.ref p) H :=
  ⟨p, rfl, ⟨xs, hp⟩, for_list Pv h0 hl hs hd⟩
def kForT (K : PySem.W.Frag) (g : TG) (tb : TS) (D : Ends) (σ : L2.St) (x : V) (H1 : Hp) : Prop := ∃ a, x = .ref a ∧ (∃ xs, SqT K H1 a xs) ∧ kFor (Itt K a) g tb D σ H1
theorem w_forT {tl : TE} {g : TG} {tb : TS} (h : tl σ H (kForT K g tb D σ)) : tFor (iTup K tl) g tb D σ H := h
theorem kForT_i {p : Addr} {xs : List V} {g : TG} {tb : TS} (Pv : Nat → L2.St → Hp → Prop) (hp : SqT K H p xs) (h0 : Pv 0 σ H) (hl : ∀ i σ' H', i ≤ xs.length → Pv i σ' H' → SqT K H' p xs)
    (hs : ∀ i v σ' H', xs[i]? = some v → Pv i σ' H' → g v σ' H' fun σ2 H2 => tb { D with nx := Pv (i + 1), ct := Pv (i + 1), bk := D.nx } σ2 H2) (hd : ∀ σ' H', Pv xs.length σ' H' → D.nx σ' H') : kForT K g tb D σ (.ref p) H :=
  ⟨p, rfl, ⟨xs, hp⟩, for_tup Pv h0 hl hs hd⟩
/-! comprehensions -/
def kLc (J : It) (g : TG) (tt : TT) (te : TE) (vs : List Nat) (σ : L2.St) (Q : VK) (H1 : Hp) : Prop := ∀ D, H1 D = none → ∃ W : Nat → Nat → Hp → Prop, (∃ m, W 0 m (upd H1 D (.lst []))) ∧ ∀ i m H, W i m H →
  (J.stop i H ∧ Q (.ref D) H) ∨ (J.go i H ∧ ∃ Nx : Hp → Prop, (∀ H', Nx H' → ∃ m', m' < m ∧ W (i + 1) m' H') ∧ ∀ x H', J.yld i H x H' → g x (wipe σ vs) H' fun σ2 H2 => wipe σ2 vs = wipe σ vs ∧ tt σ2 H2 fun b H3 =>
    if b = true then te σ2 H3 fun y H4 => ∃ acc, H4 D = some (.lst acc) ∧ acc.length < sizeLine ∧ Nx (upd H4 D (.lst (acc ++ [y]))) else Nx H3)
def kLcR (g : TG) (tt : TT) (te : TE) (vs : List Nat) (σ : L2.St) (Q : VK) (ws : List V) (H1 : Hp) : Prop := ∃ j : Int, ws = [.int j] ∧ -(2 ^ 62) ≤ j ∧ j < 2 ^ 62 ∧ kLc (Itr 0 j.toNat) g tt te vs σ Q H1
def kLcL (K : PySem.W.Frag) (g : TG) (tt : TT) (te : TE) (vs : List Nat) (σ : L2.St) (Q : VK) (x : V) (H1 : Hp) : Prop := ∃ a, x = .ref a ∧ (∃ xs, SqL K H1 a xs) ∧ kLc (Itl K a) g tt te vs σ Q H1
def kLcT (K : PySem.W.Frag) (g : TG) (tt : TT) (te : TE) (vs : List Nat) (σ : L2.St) (Q : VK) (x : V) (H1 : Hp) : Prop := ∃ a, x = .ref a ∧ (∃ xs, SqT K H1 a xs) ∧ kLc (Itt K a) g tt te vs σ Q H1
theorem w_lcR {a : TA} {g : TG} {vs : List Nat} (h : a σ H (kLcR g t te vs σ Q)) : tLc (iRng1 a) g t te vs σ H Q := h
theorem w_lcL {tl : TE} {g : TG} {vs : List Nat} (h : tl σ H (kLcL K g t te vs σ Q)) : tLc (iList K tl) g t te vs σ H Q := h
theorem w_lcT {tl : TE} {g : TG} {vs : List Nat} (h : tl σ H (kLcT K g t te vs σ Q)) : tLc (iTup K tl) g t te vs σ H Q := h
/-- a list is made, turn by turn, while the run goes on: R tells of each item that is given, at the places that are taken -/
structure Mk (st : Addr) (cs : Addr × Addr) (H0 : Hp) (R : Nat → V → Hp → Prop) (l : Addr) (i : Nat) (H : Hp) : Prop where
  go : Go st cs H0 H
  new : H0 l = none
  ok0 : StOk st cs H0
  at_ : ∃ (ks : List Nat) (ys : List V), H l = some (.lst ys) ∧ ks.length = ys.length ∧ ks.Pairwise (· < ·) ∧ (∀ k ∈ ks, k < i) ∧ ∀ (m : Nat) k v, ks[m]? = some k → ys[m]? = some v → R k v H
end
end AW
/-! data that stand in tuples; lists made by comprehensions while the run goes on -/
namespace AW
open PySem PySem.Spec PyProof.Rows L2

/-- tuples are kept -/
def TK (H H' : Hp) : Prop := ∀ a xs, H a = some (.tup xs) → H' a = some (.tup xs)
theorem TK.refl (H : Hp) : TK H H := fun _ _ h => h
theorem TK.trans {H H1 H2 : Hp} (a : TK H H1) (b : TK H1 H2) : TK H H2 := fun c xs h => b c xs (a c xs h)
theorem Go.tk {st : Addr} {cs : Addr × Addr} {H H' : Hp} (g : Go st cs H H') : TK H H' := g.adv.tup
mutual
/-- the value stands for the datum: scalars, and tuples of such -/
inductive Is (H : Hp) : PyData → V → Prop where
  | non : Is H .none .non
  | bl (b : Bool) : Is H (.bool b) (.bl b)
  | int (i : Int) : Is H (.int i) (.int i)
  | str (x : Str) : Is H (.str x) (.str x)
  | tup {a : Addr} {xs : List V} {ds : List PyData} : H a = some (.tup xs) → IsAll H ds xs → Is H (.tuple ds) (.ref a)
inductive IsAll (H : Hp) : List PyData → List V → Prop where
  | nil : IsAll H [] []
  | cons {d : PyData} {ds : List PyData} {v : V} {vs : List V} : Is H d v → IsAll H ds vs → IsAll H (d :: ds) (v :: vs)
end
mutual
theorem Is.up {H H' : Hp} (k : TK H H') : ∀ {d : PyData} {v : V}, Is H d v → Is H' d v
  | _, _, .non => .non
  | _, _, .bl b => .bl b
  | _, _, .int i => .int i
  | _, _, .str x => .str x
  | _, _, .tup e h => .tup (k _ _ e) (IsAll.up k h)
theorem IsAll.up {H H' : Hp} (k : TK H H') : ∀ {ds : List PyData} {vs : List V}, IsAll H ds vs → IsAll H' ds vs
  | _, _, .nil => .nil
  | _, _, .cons h t => .cons (Is.up k h) (IsAll.up k t)
end
mutual
theorem Is.dp {K : PySem.W.Frag} {H : Hp} : ∀ {d : PyData} {v : V}, Is H d v → Dp K H v d
  | _, _, .non => .non
  | _, _, .bl b => .bl b
  | _, _, .int i => .int i
  | _, _, .str x => .str x
  | _, _, .tup e h => .tup (SqT.of e) (IsAll.dp h)
theorem IsAll.dp {K : PySem.W.Frag} {H : Hp} : ∀ {ds : List PyData} {vs : List V}, IsAll H ds vs → DpAll K H vs ds
  | _, _, .nil => .nil
  | _, _, .cons h t => .cons (Is.dp h) (IsAll.dp t)
end
theorem IsAll.length {H : Hp} : ∀ {ds : List PyData} {vs : List V}, IsAll H ds vs → vs.length = ds.length
  | _, _, .nil => rfl
  | _, _, .cons _ t => congrArg (· + 1) t.length
theorem IsAll.get {H : Hp} : ∀ {ds : List PyData} {vs : List V} {i : Nat} {v : V}, IsAll H ds vs → vs[i]? = some v → ∃ d, ds[i]? = some d ∧ Is H d v
  | _, _, _, _, .nil, e => by simp at e
  | _, _, 0, _, .cons h _, e => by
    simp at e
    subst e
    exact ⟨_, rfl, h⟩
  | _, _, i + 1, v, .cons _ t, e => by
    obtain ⟨d, h1, h2⟩ := IsAll.get (i := i) (v := v) t (by simpa using e)
    exact ⟨d, by simpa using h1, h2⟩
theorem IsAll.get' {H : Hp} : ∀ {ds : List PyData} {vs : List V} {i : Nat} {d : PyData}, IsAll H ds vs → ds[i]? = some d → ∃ v, vs[i]? = some v ∧ Is H d v
  | _, _, _, _, .nil, e => by simp at e
  | _, _, 0, _, .cons h _, e => by
    simp at e
    subst e
    exact ⟨_, rfl, h⟩
  | _, _, i + 1, d, .cons _ t, e => by
    obtain ⟨v, h1, h2⟩ := IsAll.get' (i := i) (d := d) t (by simpa using e)
    exact ⟨v, by simpa using h1, h2⟩
theorem IsAll.of {H : Hp} : ∀ (ds : List PyData) (vs : List V), vs.length = ds.length → (∀ (i : Nat) d v, ds[i]? = some d → vs[i]? = some v → Is H d v) → IsAll H ds vs
  | [], [], _, _ => .nil
  | d :: ds, v :: vs, hl, h => .cons (h 0 d v rfl rfl) (IsAll.of ds vs (Nat.succ.inj hl) fun i d' v' h1 h2 => h (i + 1) d' v' (by simpa using h1) (by simpa using h2))
  | [], _ :: _, hl, _ => by simp at hl
  | _ :: _, [], hl, _ => by simp at hl
theorem IsAll.append {H : Hp} : ∀ {ds es : List PyData} {vs ws : List V}, IsAll H ds vs → IsAll H es ws → IsAll H (ds ++ es) (vs ++ ws)
  | _, _, _, _, .nil, h => h
  | _, _, _, _, .cons a t, h => .cons a (IsAll.append t h)
theorem IsAll.ints {H : Hp} : ∀ (ns : List Int), IsAll H (ns.map .int) (ns.map V.int)
  | [] => .nil
  | n :: ns => .cons (.int n) (IsAll.ints ns)
theorem IsAll.strs {H : Hp} : ∀ (ns : List Str), IsAll H (ns.map .str) (ns.map V.str)
  | [] => .nil
  | n :: ns => .cons (.str n) (IsAll.strs ns)
theorem IsAll.ints_inv {H : Hp} : ∀ {ns : List Int} {vs : List V}, IsAll H (ns.map .int) vs → vs = ns.map V.int
  | [], _, .nil => rfl
  | n :: ns, _, .cons h t => by
    cases h
    rw [IsAll.ints_inv t]
    rfl
theorem IsAll.strs_inv {H : Hp} : ∀ {ns : List Str} {vs : List V}, IsAll H (ns.map .str) vs → vs = ns.map V.str
  | [], _, .nil => rfl
  | n :: ns, _, .cons h t => by
    cases h
    rw [IsAll.strs_inv t]
    rfl
theorem Is.int_inv {H : Hp} {n : Int} {v : V} (h : Is H (.int n) v) : v = .int n := by
  cases h
  rfl
theorem Is.str_inv {H : Hp} {n : Str} {v : V} (h : Is H (.str n) v) : v = .str n := by
  cases h
  rfl
theorem Is.tup_inv {H : Hp} {ds : List PyData} {v : V} (h : Is H (.tuple ds) v) : ∃ a xs, v = .ref a ∧ H a = some (.tup xs) ∧ IsAll H ds xs := by
  cases h with
  | tup e t => exact ⟨_, _, rfl, e, t⟩
theorem IsAll.perm {H : Hp} {ds : List PyData} {vs ws : List V} (h : IsAll H ds vs) (p : ws.Perm vs) : ∃ es, es.Perm ds ∧ IsAll H es ws := by
  induction p generalizing ds with
  | nil => cases h; exact ⟨[], .refl _, .nil⟩
  | cons x p ih =>
    cases h with
    | cons a t =>
      obtain ⟨es, h1, h2⟩ := ih t
      exact ⟨_ :: es, h1.cons _, .cons a h2⟩
  | swap x y l =>
    cases h with
    | cons a t =>
      cases t with
      | cons b t => exact ⟨_, List.Perm.swap .., .cons b (.cons a t)⟩
  | trans p q ih1 ih2 =>
    obtain ⟨es, h1, h2⟩ := ih2 h
    obtain ⟨fs, h3, h4⟩ := ih1 h2
    exact ⟨fs, h3.trans h1, h4⟩

section
variable {K : PySem.W.Frag} {st : Addr} {cs : Addr × Addr} {J : It} {n : Nat} {G : Hp → Prop} {Y : Nat → Hp → V → Hp → Prop} {g : TG} {tt : TT} {te : TE} {vs : List Nat} {σ : L2.St} {Q : VK} {H1 : Hp}
/-- a comprehension without a test -/
theorem kLc_all (wk : Walk J n G Y) (hn : n ≤ 100000) (ok : StOk st cs H1) (hG : ∀ H', Go st cs H1 H' → G H') (R : Nat → V → Hp → Prop) (mono : ∀ i v H H', TK H H' → R i v H → R i v H')
    (step : ∀ i x H H' (Kt : V → Hp → Prop), i < n → Go st cs H1 H → Y i H x H' → (∀ y H4, Go st cs H H4 → R i y H4 → Kt y H4) → g x (wipe σ vs) H' fun σ2 H2 => wipe σ2 vs = wipe σ vs ∧ te σ2 H2 Kt)
    (k : ∀ p H' ys, H1 p = none → Go st cs H1 H' → H' p = some (.lst ys) → ys.length = n → (∀ (i : Nat) v, ys[i]? = some v → R i v H') → Q (.ref p) H') : kLc J g tYes te vs σ Q H1 := by
  intro D hD
  have nD := ok.ne hD
  refine lc_it wk (fun i H => Go st cs H1 H ∧ ∃ ys, H D = some (.lst ys) ∧ ys.length = i ∧ ∀ (m : Nat) v, ys[m]? = some v → R m v H) ⟨.of ok (Adv.new hD), [], upd_same, rfl, fun m v e => by simp at e⟩ (fun i H _ p => hG H p.1)
    (fun i x H H' hi p y => ?_) fun H p => ?_
  · obtain ⟨g1, ys, e1, hl, hr⟩ := p
    refine step i x H H' _ hi g1 y fun v H4 g4 r4 => ?_
    have e4 : H4 D = some (.lst ys) := g4.keep nD.1 e1
    have t5 : TK H4 (upd H4 D (.lst (ys ++ [v]))) := (Adv.lst e4).tup
    refine ⟨ys, e4, Nat.lt_of_lt_of_le (show ys.length < 100001 by omega) (by decide), (g1.trans g4).mutL ok hD e4, ys ++ [v], upd_same, by rw [List.length_append, hl]; rfl, fun m w e => ?_⟩
    by_cases hm : m < ys.length
    · rw [List.getElem?_append_left hm] at e
      exact mono _ _ _ _ (g4.tk.trans t5) (hr m w e)
    · have hm2 : m = ys.length := by
        have := (List.getElem?_eq_some_iff.mp e).1
        rw [List.length_append] at this
        simp at this
        omega
      subst hm2
      rw [List.getElem?_append_right (Nat.le_refl _), Nat.sub_self] at e
      simp at e
      subst e
      rw [hl]
      exact mono _ _ _ _ t5 r4
  · obtain ⟨g1, ys, e1, hl, hr⟩ := p
    exact k D H ys hD g1 e1 hl hr
/-- a comprehension with a test: ks the places that are taken, in order; F tells of the others -/
theorem kLc_some (wk : Walk J n G Y) (hn : n ≤ 100000) (ok : StOk st cs H1) (hG : ∀ H', Go st cs H1 H' → G H') (R : Nat → V → Hp → Prop) (F : Nat → Prop) (mono : ∀ i v H H', TK H H' → R i v H → R i v H')
    (step : ∀ i x H H' (Kt : V → Hp → Prop) (Kf : Hp → Prop), i < n → Go st cs H1 H → Y i H x H' → (∀ y H4, Go st cs H H4 → R i y H4 → Kt y H4) → (∀ H3, Go st cs H H3 → F i → Kf H3) →
      g x (wipe σ vs) H' fun σ2 H2 => wipe σ2 vs = wipe σ vs ∧ tt σ2 H2 fun b H3 => if b = true then te σ2 H3 Kt else Kf H3)
    (k : ∀ p H' (ks : List Nat) ys, H1 p = none → Go st cs H1 H' → H' p = some (.lst ys) → ks.length = ys.length → ks.Pairwise (· < ·) → (∀ k ∈ ks, k < n) → (∀ k, k < n → k ∉ ks → F k) → (∀ (m k : Nat) v, ks[m]? = some k → ys[m]? = some v → R k v H') → Q (.ref p) H') :
    kLc J g tt te vs σ Q H1 := by
  intro D hD
  have nD := ok.ne hD
  refine lc_it wk (fun i H => Go st cs H1 H ∧ ∃ (ks : List Nat) (ys : List V), H D = some (.lst ys) ∧ ks.length = ys.length ∧ ks.Pairwise (· < ·) ∧ (∀ k ∈ ks, k < i) ∧ (∀ k, k < i → k ∉ ks → F k) ∧ ks.length ≤ i ∧ ∀ (m : Nat) k v, ks[m]? = some k → ys[m]? = some v → R k v H)
    ⟨.of ok (Adv.new hD), [], [], upd_same, rfl, .nil, fun k h => (nomatch h), fun k h => absurd h (Nat.not_lt_zero _), Nat.le_refl _, fun m k v e => by simp at e⟩ (fun i H _ p => hG H p.1) (fun i x H H' hi p y => ?_) fun H p => ?_
  · obtain ⟨g1, ks, ys, e1, hl, hp, hk, hf, hle, hr⟩ := p
    refine step i x H H' _ _ hi g1 y (fun v H4 g4 r4 => ?_) fun H3 g3 f3 => ?_
    · have e4 : H4 D = some (.lst ys) := g4.keep nD.1 e1
      have t5 : TK H4 (upd H4 D (.lst (ys ++ [v]))) := (Adv.lst e4).tup
      refine ⟨ys, e4, Nat.lt_of_lt_of_le (show ys.length < 100001 by omega) (by decide), (g1.trans g4).mutL ok hD e4, ks ++ [i], ys ++ [v], upd_same, by rw [List.length_append, List.length_append, hl]; rfl, ?_, fun k h => ?_, fun k h1 h2 => ?_, by rw [List.length_append]; simp; omega, fun m k w e1 e2 => ?_⟩
      · rw [List.pairwise_append]
        exact ⟨hp, List.pairwise_singleton .., fun a ha b hb => by rw [List.mem_singleton.mp hb]; exact hk a ha⟩
      · rcases List.mem_append.mp h with h | h
        · exact Nat.lt_succ_of_lt (hk k h)
        · rw [List.mem_singleton.mp h]
          exact Nat.lt_succ_self _
      · have h3 : k ≠ i := fun z => h2 (List.mem_append_right _ (by rw [z]; exact List.mem_singleton.mpr rfl))
        exact hf k (by omega) fun z => h2 (List.mem_append_left _ z)
      · by_cases hm : m < ys.length
        · rw [List.getElem?_append_left hm] at e2
          rw [List.getElem?_append_left (by omega)] at e1
          exact mono _ _ _ _ (g4.tk.trans t5) (hr m k w e1 e2)
        · have hm2 : m = ys.length := by
            have := (List.getElem?_eq_some_iff.mp e2).1
            rw [List.length_append] at this
            simp at this
            omega
          subst hm2
          rw [List.getElem?_append_right (Nat.le_refl _), Nat.sub_self] at e2
          rw [← hl, List.getElem?_append_right (Nat.le_refl _), Nat.sub_self] at e1
          simp at e1 e2
          subst e1 e2
          exact mono _ _ _ _ t5 r4
    · refine ⟨g1.trans g3, ks, ys, g3.keep nD.1 e1, hl, hp, fun k h => Nat.lt_succ_of_lt (hk k h), fun k h1 h2 => ?_, by omega, fun m k w e1 e2 => mono _ _ _ _ g3.tk (hr m k w e1 e2)⟩
      by_cases hki : k = i
      · subst hki
        exact f3
      · exact hf k (by omega) h2
  · obtain ⟨g1, ks, ys, e1, hl, hp, hk, hf, hle, hr⟩ := p
    exact k D H ks ys hD g1 e1 hl hp hk hf hr
theorem kLcR_all {n : Nat} (hn : n ≤ 100000) (ok : StOk st cs H1) (R : Nat → V → Hp → Prop) (mono : ∀ i v H H', TK H H' → R i v H → R i v H')
    (step : ∀ i H (Kt : V → Hp → Prop), i < n → Go st cs H1 H → (∀ y H4, Go st cs H H4 → R i y H4 → Kt y H4) → g (.int (i : Nat)) (wipe σ vs) H fun σ2 H2 => wipe σ2 vs = wipe σ vs ∧ te σ2 H2 Kt)
    (k : ∀ p H' ys, H1 p = none → Go st cs H1 H' → H' p = some (.lst ys) → ys.length = n → (∀ (i : Nat) v, ys[i]? = some v → R i v H') → Q (.ref p) H') : kLcR g tYes te vs σ Q [.int (n : Nat)] H1 := by
  refine ⟨n, rfl, by omega, by omega, ?_⟩
  have e : ((n : Nat) : Int).toNat = n := by omega
  rw [e]
  refine kLc_all walk_range hn ok (fun _ _ => trivial) R mono (fun i x H H' Kt hi g1 y kt => ?_) k
  obtain ⟨rfl, rfl⟩ := y
  show g (.int ((0 : Int) + (i : Nat))) _ _ _
  rw [Int.zero_add]
  exact step i H' Kt hi g1 kt
theorem kLcR_some {n : Nat} (hn : n ≤ 100000) (ok : StOk st cs H1) (R : Nat → V → Hp → Prop) (F : Nat → Prop) (mono : ∀ i v H H', TK H H' → R i v H → R i v H')
    (step : ∀ i H (Kt : V → Hp → Prop) (Kf : Hp → Prop), i < n → Go st cs H1 H → (∀ y H4, Go st cs H H4 → R i y H4 → Kt y H4) → (∀ H3, Go st cs H H3 → F i → Kf H3) →
      g (.int (i : Nat)) (wipe σ vs) H fun σ2 H2 => wipe σ2 vs = wipe σ vs ∧ tt σ2 H2 fun b H3 => if b = true then te σ2 H3 Kt else Kf H3)
    (k : ∀ p H' (ks : List Nat) ys, H1 p = none → Go st cs H1 H' → H' p = some (.lst ys) → ks.length = ys.length → ks.Pairwise (· < ·) → (∀ k ∈ ks, k < n) → (∀ k, k < n → k ∉ ks → F k) → (∀ (m k : Nat) v, ks[m]? = some k → ys[m]? = some v → R k v H') → Q (.ref p) H') :
    kLcR g tt te vs σ Q [.int (n : Nat)] H1 := by
  refine ⟨n, rfl, by omega, by omega, ?_⟩
  have e : ((n : Nat) : Int).toNat = n := by omega
  rw [e]
  refine kLc_some walk_range hn ok (fun _ _ => trivial) R F mono (fun i x H H' Kt Kf hi g1 y kt kf => ?_) k
  obtain ⟨rfl, rfl⟩ := y
  show g (.int ((0 : Int) + (i : Nat))) _ _ _
  rw [Int.zero_add]
  exact step i H' Kt Kf hi g1 kt kf
theorem kLcL_all {p : Addr} {xs : List V} (hp : SqL K H1 p xs) (np : Off p st cs) (hn : xs.length ≤ 100000) (ok : StOk st cs H1) (R : Nat → V → Hp → Prop) (mono : ∀ i v H H', TK H H' → R i v H → R i v H')
    (step : ∀ i x H (Kt : V → Hp → Prop), xs[i]? = some x → Go st cs H1 H → (∀ y H4, Go st cs H H4 → R i y H4 → Kt y H4) → g x (wipe σ vs) H fun σ2 H2 => wipe σ2 vs = wipe σ vs ∧ te σ2 H2 Kt)
    (k : ∀ p H' ys, H1 p = none → Go st cs H1 H' → H' p = some (.lst ys) → ys.length = xs.length → (∀ (i : Nat) v, ys[i]? = some v → R i v H') → Q (.ref p) H') : kLcL K g tYes te vs σ Q (.ref p) H1 :=
  ⟨p, rfl, ⟨xs, hp⟩, kLc_all walk_list hn ok (fun _ g => g.sql np hp) R mono (fun i x H H' Kt hi g1 y kt => by
    obtain ⟨rfl, e⟩ := y
    exact step i x H' Kt e g1 kt) k⟩
theorem kLcL_some {p : Addr} {xs : List V} (hp : SqL K H1 p xs) (np : Off p st cs) (hn : xs.length ≤ 100000) (ok : StOk st cs H1) (R : Nat → V → Hp → Prop) (F : Nat → Prop) (mono : ∀ i v H H', TK H H' → R i v H → R i v H')
    (step : ∀ i x H (Kt : V → Hp → Prop) (Kf : Hp → Prop), xs[i]? = some x → Go st cs H1 H → (∀ y H4, Go st cs H H4 → R i y H4 → Kt y H4) → (∀ H3, Go st cs H H3 → F i → Kf H3) →
      g x (wipe σ vs) H fun σ2 H2 => wipe σ2 vs = wipe σ vs ∧ tt σ2 H2 fun b H3 => if b = true then te σ2 H3 Kt else Kf H3)
    (k : ∀ p H' (ks : List Nat) ys, H1 p = none → Go st cs H1 H' → H' p = some (.lst ys) → ks.length = ys.length → ks.Pairwise (· < ·) → (∀ k ∈ ks, k < xs.length) → (∀ k, k < xs.length → k ∉ ks → F k) → (∀ (m k : Nat) v, ks[m]? = some k → ys[m]? = some v → R k v H') → Q (.ref p) H') :
    kLcL K g tt te vs σ Q (.ref p) H1 :=
  ⟨p, rfl, ⟨xs, hp⟩, kLc_some walk_list hn ok (fun _ g => g.sql np hp) R F mono (fun i x H H' Kt Kf hi g1 y kt kf => by
    obtain ⟨rfl, e⟩ := y
    exact step i x H' Kt Kf e g1 kt kf) k⟩
theorem kLcT_all {p : Addr} {xs : List V} (hp : H1 p = some (.tup xs)) (hn : xs.length ≤ 100000) (ok : StOk st cs H1) (R : Nat → V → Hp → Prop) (mono : ∀ i v H H', TK H H' → R i v H → R i v H')
    (step : ∀ i x H (Kt : V → Hp → Prop), xs[i]? = some x → Go st cs H1 H → (∀ y H4, Go st cs H H4 → R i y H4 → Kt y H4) → g x (wipe σ vs) H fun σ2 H2 => wipe σ2 vs = wipe σ vs ∧ te σ2 H2 Kt)
    (k : ∀ p H' ys, H1 p = none → Go st cs H1 H' → H' p = some (.lst ys) → ys.length = xs.length → (∀ (i : Nat) v, ys[i]? = some v → R i v H') → Q (.ref p) H') : kLcT K g tYes te vs σ Q (.ref p) H1 :=
  ⟨p, rfl, ⟨xs, SqT.of hp⟩, kLc_all walk_tup hn ok (fun _ g => SqT.of (g.tk _ _ hp)) R mono (fun i x H H' Kt hi g1 y kt => by
    obtain ⟨rfl, e⟩ := y
    exact step i x H' Kt e g1 kt) k⟩
theorem kLcT_some {p : Addr} {xs : List V} (hp : H1 p = some (.tup xs)) (hn : xs.length ≤ 100000) (ok : StOk st cs H1) (R : Nat → V → Hp → Prop) (F : Nat → Prop) (mono : ∀ i v H H', TK H H' → R i v H → R i v H')
    (step : ∀ i x H (Kt : V → Hp → Prop) (Kf : Hp → Prop), xs[i]? = some x → Go st cs H1 H → (∀ y H4, Go st cs H H4 → R i y H4 → Kt y H4) → (∀ H3, Go st cs H H3 → F i → Kf H3) →
      g x (wipe σ vs) H fun σ2 H2 => wipe σ2 vs = wipe σ vs ∧ tt σ2 H2 fun b H3 => if b = true then te σ2 H3 Kt else Kf H3)
    (k : ∀ p H' (ks : List Nat) ys, H1 p = none → Go st cs H1 H' → H' p = some (.lst ys) → ks.length = ys.length → ks.Pairwise (· < ·) → (∀ k ∈ ks, k < xs.length) → (∀ k, k < xs.length → k ∉ ks → F k) → (∀ (m k : Nat) v, ks[m]? = some k → ys[m]? = some v → R k v H') → Q (.ref p) H') :
    kLcT K g tt te vs σ Q (.ref p) H1 :=
  ⟨p, rfl, ⟨xs, SqT.of hp⟩, kLc_some walk_tup hn ok (fun _ g => SqT.of (g.tk _ _ hp)) R F mono (fun i x H H' Kt Kf hi g1 y kt kf => by
    obtain ⟨rfl, e⟩ := y
    exact step i x H' Kt Kf e g1 kt kf) k⟩
end
theorem at_nat {xs : List V} {n : Int} {v : V} (h0 : 0 ≤ n) (h : xs[n.toNat]? = some v) : atI xs n = some v := at_of (j := n.toNat) (by omega) h
theorem get_some {α : Type} {xs : List α} {i : Nat} (h : i < xs.length) : ∃ v, xs[i]? = some v := ⟨xs[i], List.getElem?_eq_getElem h⟩
theorem cut_to (xs : List V) {n : Int} (h0 : 0 ≤ n) : cutV xs none (some n) = xs.take n.toNat := by
  obtain ⟨m, rfl⟩ : ∃ m : Nat, n = m := ⟨n.toNat, by omega⟩
  unfold cutV
  rw [HT.sIx_none, HT.sIx_nat]
  simp only [List.drop_zero, Nat.sub_zero, Int.toNat_natCast]
  by_cases h : m ≤ xs.length
  · rw [Nat.min_eq_left h]
  · rw [Nat.min_eq_right (by omega), List.take_of_length_le (Nat.le_refl _), List.take_of_length_le (by omega)]
theorem cut_from (xs : List V) {n : Int} (h0 : 0 ≤ n) : cutV xs (some n) none = xs.drop n.toNat := by
  obtain ⟨m, rfl⟩ : ∃ m : Nat, n = m := ⟨n.toNat, by omega⟩
  unfold cutV
  rw [HT.sIx_none, HT.sIx_nat]
  simp only [Int.toNat_natCast]
  by_cases h : m ≤ xs.length
  · rw [Nat.min_eq_left h, List.take_of_length_le (by rw [List.length_drop]; exact Nat.le_refl _)]
  · rw [Nat.min_eq_right (by omega), List.drop_of_length_le (Nat.le_refl _), List.drop_of_length_le (by omega)]
    simp
theorem SqL.upd {K : PySem.W.Frag} {H : Hp} {a : Addr} {xs : List V} : SqL K (upd H a (.lst xs)) a xs := SqL.of upd_same
theorem getD_of {α : Type} {xs : List α} {i : Nat} {d v : α} (h : xs[i]? = some v) : xs.getD i d = v := by rw [List.getD_eq_getElem?_getD, h]; rfl
end AW
/-! zip of three tuples of one length; zip of two tuples as a walk; dicts made by comprehensions -/
namespace AW
open PySem PySem.Spec PyProof.Rows L2 RZ

/-- three tuples beside one another, of one length -/
def Itz3 (K : PySem.W.Frag) (a b c : Addr) : It where
  go i H := ∃ xs ys zs : List V, SqT K H a xs ∧ SqT K H b ys ∧ SqT K H c zs ∧ i < xs.length ∧ i < ys.length ∧ i < zs.length
  yld i H v H' := ∃ (T : Addr) (x y u : V), v = .ref T ∧ H T = none ∧ H' = upd H T (.tup [x, y, u]) ∧ (∀ xs, SqT K H a xs → xs[i]? = some x) ∧ (∀ ys, SqT K H b ys → ys[i]? = some y) ∧ ∀ zs, SqT K H c zs → zs[i]? = some u
  stop i H := ∃ xs ys zs : List V, SqT K H a xs ∧ SqT K H b ys ∧ SqT K H c zs ∧ i = xs.length ∧ i = ys.length ∧ i = zs.length

theorem six {z TI TO i1 i2 i3 d : Addr} (h : d ∈ [z, TI, TO, i1, i2, i3]) : d = z ∨ d = TI ∨ d = TO ∨ d = i1 ∨ d = i2 ∨ d = i3 := by simpa using h
theorem turn_zip3 {P : Program} {w : World} {K : PySem.W.Frag} {elts : List Expr} {kk : Nat} {tpos : Pos} {a b c z TI TO i1 i2 i3 : Addr} (D : ZipSep3 z TI TO i1 i2 i3 [i1, a] [i2, b] [i3, c]) :
    Turn P w K (.Tuple elts kk tpos) (Itz3 K a b c) [z, TI, TO, i1, i2, i3] z (fun i h => IsZip h z TI TO .none ∧ IsTupOf3 h TI (.ref i1) (.ref i2) (.ref i3) ∧ (∃ x y u, IsTupOf3 h TO x y u) ∧ h.IsTupleIter i1 a i ∧ h.IsTupleIter i2 b i ∧ h.IsTupleIter i3 c i) := by
  have na : a ≠ i1 ∧ b ≠ i2 ∧ c ≠ i3 ∨ True := .inr trivial
  refine ⟨by simp, ?obj, ?keep, ?item, ?done, ?self⟩
  case obj =>
    rintro i h ⟨s1, s2, ⟨x, y, u, s3⟩, ⟨p1, q1, _, r1⟩, ⟨p2, q2, _, r2⟩, ⟨p3, q3, _, r3⟩⟩ d hd
    rcases six hd with rfl | rfl | rfl | rfl | rfl | rfl
    · exact ⟨_, s1, fun v e => nomatch e⟩
    · exact ⟨_, s2, fun v e => nomatch e⟩
    · exact ⟨_, s3, fun v e => nomatch e⟩
    · exact ⟨p1, q1, fun v e => by rw [r1] at e; cases e⟩
    · exact ⟨p2, q2, fun v e => by rw [r2] at e; cases e⟩
    · exact ⟨p3, q3, fun v e => by rw [r3] at e; cases e⟩
  case keep =>
    rintro i h h' ⟨s1, s2, ⟨x, y, u, s3⟩, t1, t2, t3⟩ k
    exact ⟨k _ (by simp) _ s1, k _ (by simp) _ s2, ⟨x, y, u, k _ (by simp) _ s3⟩, t1.at fun o e => k _ (by simp) o e, t2.at fun o e => k _ (by simp) o e, t3.at fun o e => k _ (by simp) o e⟩
  case self =>
    exact fun A i s Q E st h => wpAny_pyIter_zip st.1 h
  case item =>
    intro X hP hw hK hc i pins s σ H E I hf st hg
    subst hP hw hK
    obtain ⟨s1, s2, ⟨x0, y0, u0, s3⟩, t1, t2, t3⟩ := st
    obtain ⟨xs, ys, zs, qa, qb, qc, la, lb, lc⟩ := hg
    obtain ⟨ia, ra, pa, _⟩ := I.tuple qa
    obtain ⟨ib, rb, pb, _⟩ := I.tuple qb
    obtain ⟨ic, rc, pc, _⟩ := I.tuple qc
    have ea : ∀ {p : Addr} {its : Array Value}, IsTup s.heap p its → p ∉ [z, TI, TO, i1, i2, i3] → p ≠ z := fun _ n e => n (by simp [e])
    have d1 : a ≠ i1 := by
      intro e
      obtain ⟨o, ho, hcl, _⟩ := pa
      obtain ⟨o2, ho2, hcl2, _⟩ := t1
      rw [e, ho2] at ho
      cases ho
      rw [hcl2] at hcl
      exact absurd (Value.type.inj hcl) (by decide)
    have d2 : b ≠ i2 := by
      intro e
      obtain ⟨o, ho, hcl, _⟩ := pb
      obtain ⟨o2, ho2, hcl2, _⟩ := t2
      rw [e, ho2] at ho
      cases ho
      rw [hcl2] at hcl
      exact absurd (Value.type.inj hcl) (by decide)
    have d3 : c ≠ i3 := by
      intro e
      obtain ⟨o, ho, hcl, _⟩ := pc
      obtain ⟨o2, ho2, hcl2, _⟩ := t3
      rw [e, ho2] at ho
      cases ho
      rw [hcl2] at hcl
      exact absurd (Value.type.inj hcl) (by decide)
    have hh : X.A.in1.handled = none := I.ok.hd hc
    have zl : z < s.heap.objs.size := Heap.lt_size s1
    refine wpAny_pyNext_zipD3_item (i := i) D (Draws.tuple hh i1 a d1 ia.toArray) (Draws.tuple hh i2 b d2 ib.toArray) (Draws.tuple hh i3 c d3 ic.toArray) s1 s2 s3 ⟨t1, pa⟩ ⟨t2, pb⟩ ⟨t3, pc⟩
      (by rw [List.size_toArray, ← ra.length]; exact la) (by rw [List.size_toArray, ← rb.length]; exact lb) (by rw [List.size_toArray, ← rc.length]; exact lc) fun x1 x2 x3 h' tk g1 g2 g3 z' TO' v1 v2 v3 hT hsz hk => ?_
    obtain ⟨y1, hy1⟩ := get_some (xs := xs) la
    obtain ⟨y2, hy2⟩ := get_some (xs := ys) lb
    obtain ⟨y3, hy3⟩ := get_some (xs := zs) lc
    have rel : ∀ {l : List V} {us : List Value} {y : V} {x : Value}, Vals l us → l[i]? = some y → us.toArray[i]? = some x → RelV y x := fun r e e2 => by
      obtain ⟨u, eu, ru⟩ := r.get e
      have e3 : some u = some _ := eu.symm.trans (by simpa using e2)
      cases e3
      exact ru
    refine ⟨_, rfl, wpAny_letOwnedTupleGo_zip (s := { s with heap := h', toks := tk }) z' fun h'' z'' sb => ?_⟩
    have hT2 : h''.get? s.heap.objs.size = some { cls := .type "tuple", data := .seq #[x1, x2, x3] } := (sb.2 _ (Nat.ne_of_gt zl)).trans hT
    have new : ObjOk X.prog X.w (upd H s.heap.objs.size (.tup [y1, y2, y3])) h'' s.heap.objs.size (.tup [y1, y2, y3]) :=
      ⟨by show 3 ≤ sizeLine; decide, [x1, x2, x3], .cons (rel ra hy1 g1) (.cons (rel rb hy2 g2) (.cons (rel rc hy3 g3) .nil)), ⟨_, hT2, rfl, _, rfl⟩⟩
    have I1 : Inv X pins σ (upd H s.heap.objs.size (.tup [y1, y2, y3])) { s with heap := h'', toks := tk } :=
      I.turnedNew (ch := [z, TI, TO, i1, i2, i3]) (fun d o hd q => (sb.2 d (fun e => hd (by simp [e]))).trans (hk d o (fun e => hd (by simp [e])) (fun e => hd (by simp [e])) (fun e => hd (by simp [e])) (fun e => hd (by simp [e])) (fun e => hd (by simp [e])) q)) hf (Nat.le_refl _) new
    refine ⟨.ref s.heap.objs.size, _, I1, rfl, ⟨_, y1, y2, y3, rfl, I.hok.fresh (Nat.le_refl _), rfl, fun l hl => by rw [I.tuple_inj hl qa]; exact hy1, fun l hl => by rw [I.tuple_inj hl qb]; exact hy2, fun l hl => by rw [I.tuple_inj hl qc]; exact hy3⟩,
      ⟨z'', ?_, ⟨x1, x2, x3, ?_⟩, ?_, ?_, ?_⟩, fun d hd => ?_⟩
    · exact (sb.2 _ D.TIz).trans (hk _ _ D.TIz D.TITO D.TIi1 D.TIi2 D.TIi3 s2)
    · exact (sb.2 _ D.TOz).trans TO'
    · exact v1.1.at fun o e => (sb.2 _ (fun q => D.zi1 q.symm)).trans e
    · exact v2.1.at fun o e => (sb.2 _ (fun q => D.zi2 q.symm)).trans e
    · exact v3.1.at fun o e => (sb.2 _ (fun q => D.zi3 q.symm)).trans e
    · have hlt : d < s.heap.objs.size := by
        rcases six hd with rfl | rfl | rfl | rfl | rfl | rfl
        · exact zl
        · exact Heap.lt_size s2
        · exact Heap.lt_size s3
        · obtain ⟨_, e, _⟩ := t1; exact Heap.lt_size e
        · obtain ⟨_, e, _⟩ := t2; exact Heap.lt_size e
        · obtain ⟨_, e, _⟩ := t3; exact Heap.lt_size e
      rw [upd_ne (Nat.ne_of_lt hlt)]
      exact (hf d hd).1
  case done =>
    intro X hP hw hK hc i pins s σ H E I hf st hg
    subst hP hw hK
    obtain ⟨s1, s2, ⟨x0, y0, u0, s3⟩, t1, t2, t3⟩ := st
    obtain ⟨xs, ys, zs, qa, qb, qc, la, lb, lc⟩ := hg
    obtain ⟨ia, ra, pa, _⟩ := I.tuple qa
    obtain ⟨ib, rb, pb, _⟩ := I.tuple qb
    obtain ⟨ic, rc, pc, _⟩ := I.tuple qc
    have dd : ∀ {p q : Addr} {its : Array Value} {j : Nat}, IsTup s.heap p its → s.heap.IsTupleIter q p j → p ≠ q := fun {p q its j} hp hq e => by
      obtain ⟨o, ho, hcl, _⟩ := hp
      obtain ⟨o2, ho2, hcl2, _⟩ := hq
      rw [e, ho2] at ho
      cases ho
      rw [hcl2] at hcl
      exact absurd (Value.type.inj hcl) (by decide)
    have hh : X.A.in1.handled = none := I.ok.hd hc
    have sa : i = ia.toArray.size := by rw [List.size_toArray, ← ra.length]; exact la
    have sb : i = ib.toArray.size := by rw [List.size_toArray, ← rb.length]; exact lb
    have sc : i = ic.toArray.size := by rw [List.size_toArray, ← rc.length]; exact lc
    exact wpAny_pyNext_zipD3_end (i := i) D (Draws.tuple hh i1 a (dd pa t1) ia.toArray) (Draws.tuple hh i2 b (dd pb t2) ib.toArray) (Draws.tuple hh i3 c (dd pc t3) ic.toArray) s1 s2 s3 ⟨t1, pa⟩ ⟨t2, pb⟩ ⟨t3, pc⟩
      (Nat.le_of_eq sa) (Nat.le_of_eq sb) (Nat.le_of_eq sc) (.inl sa) fun h' tk hk => ⟨rfl, I.turnedL (ch := [z, TI, TO, i1, i2, i3]) (fun d o hd q => hk d o (fun e => hd (by simp [e])) (fun e => hd (by simp [e])) (fun e => hd (by simp [e])) (fun e => hd (by simp [e])) (fun e => hd (by simp [e])) q) hf⟩
/-- what stands within zip(a, b, c) -/
def iZip3 (K : PySem.W.Frag) (ta : TA) : TI := fun σ H R => ta σ H fun vs H1 => ∃ (a b c : Addr) (xs ys zs : List V), vs = [.ref a, .ref b, .ref c] ∧ SqT K H1 a xs ∧ SqT K H1 b ys ∧ SqT K H1 c zs ∧ R (Itz3 K a b c) H1
theorem no2 {x y z : Nat} (h1 : x ≠ y) (h2 : x ≠ z) : x ∉ [y, z] := fun h => by
  rcases List.mem_cons.mp h with e | e
  · exact h1 e
  · exact h2 (List.mem_singleton.mp e)
theorem sep_new (n a b c : Nat) (la : a < n) (lb : b < n) (lc : c < n) : ZipSep3 (n + 5) (n + 3) (n + 4) n (n + 1) (n + 2) [n, a] [n + 1, b] [n + 2, c] :=
  ⟨(show (n + 3 : Nat) ≠ n + 5 by omega),
    (show (n + 4 : Nat) ≠ n + 5 by omega),
    (show (n + 3 : Nat) ≠ n + 4 by omega),
    (show (n + 3 : Nat) ≠ n by omega),
    (List.mem_cons_self ..),
    (no2 (show (n + 5 : Nat) ≠ n by omega) (show (n + 5 : Nat) ≠ a by omega)),
    (no2 (show (n + 4 : Nat) ≠ n by omega) (show (n + 4 : Nat) ≠ a by omega)),
    (show (n + 3 : Nat) ≠ n + 1 by omega),
    (List.mem_cons_self ..),
    (no2 (show (n + 5 : Nat) ≠ n + 1 by omega) (show (n + 5 : Nat) ≠ b by omega)),
    (no2 (show (n + 4 : Nat) ≠ n + 1 by omega) (show (n + 4 : Nat) ≠ b by omega)),
    (show (n + 3 : Nat) ≠ n + 2 by omega),
    (List.mem_cons_self ..),
    (no2 (show (n + 5 : Nat) ≠ n + 2 by omega) (show (n + 5 : Nat) ≠ c by omega)),
    (no2 (show (n + 4 : Nat) ≠ n + 2 by omega) (show (n + 4 : Nat) ≠ c by omega)),
    (no2 (show (n : Nat) ≠ n + 1 by omega) (show (n : Nat) ≠ b by omega)),
    (no2 (show (n : Nat) ≠ n + 2 by omega) (show (n : Nat) ≠ c by omega)),
    (no2 (show (n + 1 : Nat) ≠ n by omega) (show (n + 1 : Nat) ≠ a by omega)),
    (no2 (show (n + 1 : Nat) ≠ n + 2 by omega) (show (n + 1 : Nat) ≠ c by omega)),
    (no2 (show (n + 2 : Nat) ≠ n by omega) (show (n + 2 : Nat) ≠ a by omega)),
    (no2 (show (n + 2 : Nat) ≠ n + 1 by omega) (show (n + 2 : Nat) ≠ b by omega))⟩
theorem pi_zip3 {X : Cx} {e e2 e3 : Expr} {ta : TA} {p pos tpos : Pos} {elts : List Expr} {kk : Nat} (hg : Gl X "zip") (hm : X.mg "zip" = none) (ha : PA X [e, e2, e3] ta)
    (hs : starEach [e, e2, e3] X.env = (false, eval e X.env) :: starEach [e2, e3] X.env := by rfl) (hpl : (backTo pos (starEach [e2, e3] X.env)).any (·.1) = false := by rfl) :
    PI X (.Tuple elts kk tpos) (.Call (.Name "zip" p) [e, e2, e3] [] pos) (iZip3 X.K ta) := by
  refine ⟨fun pins s σ H R I h => ?_⟩
  refine Call_ (ld_blt I hg hm PyProof.Rows.boot_zip (PyProof.Rows.callWith_type1 (thn (ha.run pos pins s σ H _ I h) fun us s1 ⟨vs, H1, I1, r1, q1⟩ => ?_) hs hpl))
  obtain ⟨a, b, c, xs, ys, zs, rfl, qa, qb, qc, q⟩ := q1
  obtain ⟨ua, us', rfl, r1', rr⟩ : ∃ ua us', us = ua :: us' ∧ RelV (.ref a) ua ∧ Vals [.ref b, .ref c] us' := by
    cases r1 with
    | cons r rr => exact ⟨_, _, rfl, r, rr⟩
  obtain ⟨ub, uc, rfl, r2', r3'⟩ := vals2 rr
  cases r1'
  cases r2'
  cases r3'
  obtain ⟨ia, ra, pa, _⟩ := I1.tuple qa
  obtain ⟨ib, rb, pb, _⟩ := I1.tuple qb
  obtain ⟨ic, rc, pc, _⟩ := I1.tuple qc
  have la : a < s1.heap.objs.size := by obtain ⟨_, e, _⟩ := pa; exact Heap.lt_size e
  have lb : b < s1.heap.objs.size := by obtain ⟨_, e, _⟩ := pb; exact Heap.lt_size e
  have lc : c < s1.heap.objs.size := by obtain ⟨_, e, _⟩ := pc; exact Heap.lt_size e
  refine zip_begins3 (begins_tuple a ia.toArray) (begins_tuple b ib.toArray) (begins_tuple c ic.toArray) pa pb pc fun h' hz hTI hTO g1 g2 g3 _ hk => wpAny_pyIter_zip hz ?_
  have I2 : Inv X pins σ H1 { s1 with heap := h' } := I1.kept (t' := s1.toks) hk
  have sep := sep_new s1.heap.objs.size a b c la lb lc
  refine ⟨s1.heap.objs.size + 5, [s1.heap.objs.size + 5, s1.heap.objs.size + 3, s1.heap.objs.size + 4, s1.heap.objs.size, s1.heap.objs.size + 1, s1.heap.objs.size + 2], _, _, H1, rfl, I2, turn_zip3 sep, ⟨hz, hTI, ⟨_, _, _, hTO⟩, ⟨_, g1, rfl, rfl⟩, ⟨_, g2, rfl, rfl⟩, ⟨_, g3, rfl, rfl⟩⟩, fun d hd => ?_, q⟩
  have hle : s1.heap.objs.size ≤ d := by
    rcases six hd with e | e | e | e | e | e <;> rw [e] <;> first | exact Nat.le_add_right _ _ | exact Nat.le_refl _
  exact I1.fpOk hle (I1.hok.fresh hle)
/-- a new triple of the i-th ones -/
def YTri (xs ys zs : List V) : Nat → Hp → V → Hp → Prop := fun i H v H' => ∃ T x y u, v = .ref T ∧ H T = none ∧ H' = upd H T (.tup [x, y, u]) ∧ xs[i]? = some x ∧ ys[i]? = some y ∧ zs[i]? = some u
section
variable {K : PySem.W.Frag} {a b c : Addr} {xs ys zs : List V}
theorem walk_zip3 (h1 : ys.length = xs.length) (h2 : zs.length = xs.length) : Walk (Itz3 K a b c) xs.length (fun H => H a = some (.tup xs) ∧ H b = some (.tup ys) ∧ H c = some (.tup zs)) (YTri xs ys zs) :=
  ⟨fun i H hi q => ⟨xs, ys, zs, SqT.of q.1, SqT.of q.2.1, SqT.of q.2.2, hi, by omega, by omega⟩, fun H q => ⟨xs, ys, zs, SqT.of q.1, SqT.of q.2.1, SqT.of q.2.2, rfl, h1.symm, h2.symm⟩,
    fun i H v H' _ q ⟨T, x, y, u, e1, e2, e3, e4, e5, e6⟩ => ⟨T, x, y, u, e1, e2, e3, e4 _ (SqT.of q.1), e5 _ (SqT.of q.2.1), e6 _ (SqT.of q.2.2)⟩⟩
theorem walk_zipT (h1 : ys.length = xs.length) : Walk (ItzT K a b) xs.length (fun H => H a = some (.tup xs) ∧ H b = some (.tup ys)) (YPair (fun i => xs[i]?) (fun i => ys[i]?)) :=
  ⟨fun i H hi q => ⟨xs, ys, xs[i], ys[i], SqT.of q.1, SqT.of q.2, List.getElem?_eq_getElem hi, List.getElem?_eq_getElem (by omega)⟩, fun H q => ⟨xs, ys, SqT.of q.1, SqT.of q.2, .inl (Nat.le_refl _)⟩,
    fun i H v H' _ q ⟨T, x, y, e1, e2, e3, e4, e5⟩ => ⟨T, x, y, e1, e2, e3, e4 _ (SqT.of q.1), e5 _ (SqT.of q.2)⟩⟩
end

/-! ### comprehensions that leave the state alone: a pure one; a dict -/
section
variable {J : It} {n : Nat} {G : Hp → Prop} {Y : Nat → Hp → V → Hp → Prop} {g : TG} {tt : TT} {te tk tv : TE} {vs : List Nat} {σ : L2.St} {Q : VK} {H1 : Hp} {K : PySem.W.Frag} {ta : TA}
/-- a comprehension with a test, nothing changed but new objects; B tells the test's word at each turn, v the item's value -/
theorem kLc_pure (wk : Walk J n G Y) (hn : n ≤ 100000) (hG : ∀ H', Adv [] H1 H' → G H') (B : Nat → Bool) (v : Nat → V)
    (step : ∀ i x H H' (Kt : V → Hp → Prop) (Kf : Hp → Prop), i < n → Adv [] H1 H → Y i H x H' → (B i = true → ∀ H4, Adv [] H H4 → Kt (v i) H4) → (B i = false → ∀ H3, Adv [] H H3 → Kf H3) →
      g x (wipe σ vs) H' fun σ2 H2 => wipe σ2 vs = wipe σ vs ∧ tt σ2 H2 fun b H3 => if b = true then te σ2 H3 Kt else Kf H3)
    (k : ∀ p H', H1 p = none → Adv [] H1 H' → H' p = some (.lst (((List.range n).filter B).map v)) → Q (.ref p) H') : kLc J g tt te vs σ Q H1 := by
  intro D hD
  refine lc_it wk (fun i H => i ≤ n ∧ Adv [] H1 H ∧ H D = some (.lst (((List.range i).filter B).map v))) ⟨Nat.zero_le _, Adv.new hD, upd_same⟩ (fun i H _ p => hG H p.2.1) (fun i x H H' hi p y => ?_) fun H p => k D H hD p.2.1 p.2.2
  obtain ⟨_, g1, e1⟩ := p
  have hlen : (((List.range i).filter B).map v).length ≤ 100000 := by
    rw [List.length_map]
    refine Nat.le_trans (List.length_filter_le ..) ?_
    rw [List.length_range]
    omega
  refine step i x H H' _ _ hi g1 y (fun hb H4 g4 => ?_) fun hb H3 g3 => ?_
  · have e4 := g4.keep _ _ (fun z => nomatch z) e1
    refine ⟨_, e4, Nat.lt_of_lt_of_le (Nat.lt_succ_of_le hlen) (by decide), hi, (g1.trans g4).mut hD e4 (fun _ z => by cases z), ?_⟩
    rw [upd_same, List.range_succ, List.filter_append, List.map_append]
    simp [hb]
  · refine ⟨hi, g1.trans g3, ?_⟩
    rw [g3.keep _ _ (fun z => nomatch z) e1, List.range_succ, List.filter_append, List.map_append]
    simp [hb]
theorem kLcR_pure {n : Nat} (hn : n ≤ 100000) (B : Nat → Bool) (v : Nat → V)
    (step : ∀ i H (Kt : V → Hp → Prop) (Kf : Hp → Prop), i < n → Adv [] H1 H → (B i = true → ∀ H4, Adv [] H H4 → Kt (v i) H4) → (B i = false → ∀ H3, Adv [] H H3 → Kf H3) →
      g (.int (i : Nat)) (wipe σ vs) H fun σ2 H2 => wipe σ2 vs = wipe σ vs ∧ tt σ2 H2 fun b H3 => if b = true then te σ2 H3 Kt else Kf H3)
    (k : ∀ p H', H1 p = none → Adv [] H1 H' → H' p = some (.lst (((List.range n).filter B).map v)) → Q (.ref p) H') : kLcR g tt te vs σ Q [.int (n : Nat)] H1 := by
  refine ⟨(n : Nat), rfl, by omega, by omega, ?_⟩
  rw [show ((n : Nat) : Int).toNat = n by omega]
  refine kLc_pure walk_range hn (fun _ _ => trivial) B v (fun i x H H' Kt Kf hi g1 y kt kf => ?_) k
  obtain ⟨rfl, rfl⟩ := y
  show g (.int ((0 : Int) + (i : Nat))) _ _ _
  rw [Int.zero_add]
  exact step i H' Kt Kf hi g1 kt kf
/-- over three tuples of one length -/
def kLc3 (K : PySem.W.Frag) (g : TG) (tt : TT) (te : TE) (vs : List Nat) (σ : L2.St) (Q : VK) (ws : List V) (H1 : Hp) : Prop := ∃ (a b c : Addr) (xs ys zs : List V), ws = [.ref a, .ref b, .ref c] ∧ SqT K H1 a xs ∧ SqT K H1 b ys ∧ SqT K H1 c zs ∧ kLc (Itz3 K a b c) g tt te vs σ Q H1
theorem w_lc3 (h : ta σ H1 (kLc3 K g tt te vs σ Q)) : tLc (iZip3 K ta) g tt te vs σ H1 Q := h
/-- a dict is made, turn by turn -/
def kDc (J : It) (g : TG) (tt : TT) (tk tv : TE) (vs : List Nat) (σ : L2.St) (Q : VK) (H1 : Hp) : Prop := ∀ D, H1 D = none → ∃ W : Nat → Nat → Hp → Prop, (∃ m, W 0 m (upd H1 D (.dK []))) ∧ ∀ i m H, W i m H →
  (J.stop i H ∧ Q (.ref D) H) ∨ (J.go i H ∧ ∃ Nx : Hp → Prop, (∀ H', Nx H' → ∃ m', m' < m ∧ W (i + 1) m' H') ∧ ∀ x H', J.yld i H x H' → g x (wipe σ vs) H' fun σ2 H2 => wipe σ2 vs = wipe σ vs ∧ tt σ2 H2 fun b H3 =>
    if b = true then tk σ2 H3 fun y H4 => tv σ2 H4 fun z H5 => ∃ kvs k, y = kV k ∧ H5 D = some (.dK kvs) ∧ kvs.length < sizeLine ∧ Nx (upd H5 D (.dK (putK kvs k z))) else Nx H3)
/-- all turns give: the dict holds the last of each key -/
def dictOf (key : Nat → Key) (val : Nat → V) : Nat → List (Key × V)
  | 0 => []
  | i + 1 => putK (dictOf key val i) (key i) (val i)
theorem dictOf_len (key : Nat → Key) (val : Nat → V) : ∀ n, (dictOf key val n).length ≤ n
  | 0 => Nat.le_refl _
  | i + 1 => Nat.le_trans (length_putK ..) (Nat.succ_le_succ (dictOf_len key val i))
theorem dictOf_val {key : Nat → Key} {val : Nat → V} : ∀ {n j : Nat}, (∀ a b, a < n → b < n → key a = key b → a = b) → j < n → valV (dictOf key val n) (key j) = some (val j)
  | i + 1, j, hk, hj => by
    show valV (putK (dictOf key val i) (key i) (val i)) (key j) = _
    rw [valV_put]
    by_cases e : key j = key i
    · have ej := hk j i hj (Nat.lt_succ_self i) e
      subst ej
      rw [if_pos rfl]
    · rw [if_neg e]
      refine dictOf_val (fun a b ha hb => hk a b (Nat.lt_succ_of_lt ha) (Nat.lt_succ_of_lt hb)) ?_
      have : j ≠ i := fun z => e (by rw [z])
      omega
theorem kDc_pure (wk : Walk J n G Y) (hn : n ≤ 100000) (hG : ∀ H', Adv [] H1 H' → G H') (key : Nat → Key) (val : Nat → V)
    (step : ∀ i x H H' (Kt : V → V → Hp → Prop), i < n → Adv [] H1 H → Y i H x H' → (∀ H4, Adv [] H H4 → Kt (kV (key i)) (val i) H4) → g x (wipe σ vs) H' fun σ2 H2 => wipe σ2 vs = wipe σ vs ∧ tk σ2 H2 fun y H4 => tv σ2 H4 (Kt y))
    (k : ∀ p H', H1 p = none → Adv [] H1 H' → H' p = some (.dK (dictOf key val n)) → Q (.ref p) H') : kDc J g tYes tk tv vs σ Q H1 := by
  intro D hD
  refine ⟨fun i m H => m = n - i ∧ i ≤ n ∧ Adv [] H1 H ∧ H D = some (.dK (dictOf key val i)), ⟨n, by simp, Nat.zero_le _, Adv.new hD, upd_same⟩, ?_⟩
  rintro i m H ⟨rfl, hi, g1, e1⟩
  have q := hG H g1
  by_cases hlt : i < n
  · refine .inr ⟨wk.goes i H hlt q, fun H' => i + 1 ≤ n ∧ Adv [] H1 H' ∧ H' D = some (.dK (dictOf key val (i + 1))), fun H' p' => ⟨n - (i + 1), by omega, rfl, p'⟩, fun x H' y => ?_⟩
    refine step i x H H' (fun y z H5 => ∃ kvs k, y = kV k ∧ H5 D = some (.dK kvs) ∧ kvs.length < sizeLine ∧ (fun H' => i + 1 ≤ n ∧ Adv [] H1 H' ∧ H' D = some (.dK (dictOf key val (i + 1)))) (upd H5 D (.dK (putK kvs k z)))) hlt g1 (wk.yields i H x H' hlt q y) fun H4 g4 => ?_
    have e4 := g4.keep _ _ (fun z => nomatch z) e1
    exact ⟨_, key i, rfl, e4, Nat.lt_of_le_of_lt (dictOf_len key val i) (Nat.lt_of_lt_of_le (show i < 100001 by omega) (by decide)), hlt, (g1.trans g4).mut hD e4 (fun _ z => by cases z), upd_same⟩
  · have e : i = n := by omega
    subst e
    exact .inl ⟨wk.stops H q, k D H hD g1 e1⟩
/-- a dict over zip(a, b) of tuples; over a tuple -/
def kDcZ (K : PySem.W.Frag) (g : TG) (tt : TT) (tk tv : TE) (vs : List Nat) (σ : L2.St) (Q : VK) (ws : List V) (H1 : Hp) : Prop := ∃ a b xs ys, ws = [.ref a, .ref b] ∧ ((SqL K H1 a xs ∧ SqL K H1 b ys ∧ kDc (Itz K a b) g tt tk tv vs σ Q H1) ∨ (SqT K H1 a xs ∧ SqT K H1 b ys ∧ kDc (ItzT K a b) g tt tk tv vs σ Q H1))
theorem w_dcZ (h : ta σ H1 (kDcZ K g tt tk tv vs σ Q)) : tDc (iZipA K ta) g tt tk tv vs σ H1 Q := h
def kDcT (K : PySem.W.Frag) (g : TG) (tt : TT) (tk tv : TE) (vs : List Nat) (σ : L2.St) (Q : VK) (x : V) (H1 : Hp) : Prop := ∃ a, x = .ref a ∧ (∃ xs, SqT K H1 a xs) ∧ kDc (Itt K a) g tt tk tv vs σ Q H1
theorem w_dcT {tl : TE} (h : tl σ H1 (kDcT K g tt tk tv vs σ Q)) : tDc (iTup K tl) g tt tk tv vs σ H1 Q := h
theorem w_dnew {σ : L2.St} {H : Hp} (q : ∀ r H', H r = none → Adv [] H H' → H' r = some (.dK []) → Q (.ref r) H') : tDNewK σ H Q := w_new q
/-! pairs and triples taken apart -/
theorem w_gtup {n : Nat} {t : TGs} {a : Addr} {xs : List V} {σ : L2.St} {H : Hp} {Q : L2.St → Hp → Prop} (h : SqT K H a xs) (hl : xs.length = n) (q : t xs σ H Q) : gTup K n t (.ref a) σ H Q := ⟨a, xs, rfl, h, hl, q⟩
theorem w_gcons {t : TG} {u : TGs} {v : V} {r : List V} {σ : L2.St} {H : Hp} {Q : L2.St → Hp → Prop} (q : t v σ H fun σ' H' => u r σ' H' Q) : gCons t u (v :: r) σ H Q := ⟨v, r, rfl, q⟩
theorem w_gnil {σ : L2.St} {H : Hp} {Q : L2.St → Hp → Prop} (q : Q σ H) : gNil [] σ H Q := ⟨rfl, q⟩
end
end AW
/-! dicts asked, tuple(..), slices of tuples; what the law speaks of: sayings, worlds, models -/
namespace AW
open PySem PySem.Spec PyProof.Rows L2 RZ
section
variable {σ : L2.St} {H : Hp} {Q : VK} {ta tb te td ty : TE} {K : PySem.W.Frag}
/-- keywords alone, in the parameters' order -/
def gK {α : Type} : List α → List α → List α
  | [], zs => zs
  | _ :: _, _ => []
theorem w_callK {sp : Sp} {E : XK} {tk : TA} (h : tk σ H fun zs H2 => sp zs H2 Q E) : tCallK sp gK E tNil tk σ H Q := h
def kDGet (x y : V) (H : Hp) (Q : VK) : Prop := ∃ a v, x = .ref a ∧ DGet H a y (some v) ∧ Q v H
theorem w_dg (h : td σ H fun x H1 => ty σ H1 fun y H2 => kDGet x y H2 Q) : tDGet td ty σ H Q := h
theorem kDGet_i {d : Addr} {kvs : List (Key × V)} {k : Key} {v : V} (h : H d = some (.dK kvs)) (e : valV kvs k = some v) (q : Q v H) : kDGet (.ref d) (kV k) H Q := ⟨d, v, rfl, e ▸ DGet.k h, q⟩
def kDPut (x y v : V) (H : Hp) (N : Hp → Prop) : Prop := ∃ a H4, x = .ref a ∧ DPut H a y v H4 ∧ N H4
theorem w_dput {D : Ends} {tv : TE} (h : tv σ H fun v H1 => td σ H1 fun x H2 => ty σ H2 fun y H3 => kDPut x y v H3 (D.nx σ)) : sDPut td ty tv D σ H := h
theorem kDPut_i {d : Addr} {kvs : List (Key × V)} {k : Key} {v : V} {N : Hp → Prop} (h : H d = some (.dK kvs)) (hl : kvs.length < 100000) (q : N (upd H d (.dK (putK kvs k v)))) : kDPut (.ref d) (kV k) v H N :=
  ⟨d, _, rfl, DPut.k h (Nat.lt_of_lt_of_le hl (by decide)), q⟩
theorem w_nT {A B : Prop} (h : A) : if (!true) = true then B else A := h
theorem w_nF {A B : Prop} (h : B) : if (!false) = true then B else A := h
/-- tuple(x) -/
theorem w_tup1 (h : ta σ H fun x H1 => kTup K x H1 Q) : tThen ta (kTup K) σ H Q := h
theorem w_tupL {p : Addr} {xs : List V} (h : SqL K H p xs) (q : ∀ r H', H r = none → Adv [] H H' → H' r = some (.tup xs) → Q (.ref r) H') : kTup K (.ref p) H Q := .inl ⟨p, xs, rfl, h, w_new q⟩
/-- a part of a tuple that is not the whole -/
theorem w_slT {p : Addr} {xs : List V} {lo hi : Option Int} (h : H p = some (.tup xs)) (hn : ¬ (HT.sIx xs.length 0 lo = 0 ∧ HT.sIx xs.length xs.length hi = xs.length)) (q : ∀ r H', H r = none → Adv [] H H' → H' r = some (.tup (cutV xs lo hi)) → Q (.ref r) H') : rSlA K (.ref p) lo hi H Q :=
  ⟨p, xs, rfl, SqT.of h, fun z => absurd z hn, fun _ => w_new q⟩
/-- tuples joined, none of them empty -/
theorem w_catT {a b : Addr} {xs ys : List V} (h1 : H a = some (.tup xs)) (h2 : H b = some (.tup ys)) (hz : xs.length + ys.length ≤ 100000) (q0 : xs = [] → Q (.ref b) H) (q1 : xs ≠ [] → ys = [] → Q (.ref a) H)
    (q : ∀ r H', H r = none → Adv [] H H' → H' r = some (.tup (xs ++ ys)) → Q (.ref r) H') : rCatA K (.ref a) (.ref b) H Q :=
  ⟨a, b, xs, ys, rfl, rfl, SqT.of h1, SqT.of h2, Nat.le_trans hz (by decide), q0, q1, fun _ _ => w_new q⟩
/-- joined, whatever they are: a tuple that holds both -/
theorem w_catT' {a b : Addr} {xs ys : List V} (h1 : H a = some (.tup xs)) (h2 : H b = some (.tup ys)) (hz : xs.length + ys.length ≤ 100000) (q : ∀ r H', Adv [] H H' → H' r = some (.tup (xs ++ ys)) → Q (.ref r) H') : rCatA K (.ref a) (.ref b) H Q :=
  w_catT h1 h2 hz (fun e => q _ _ (.refl _ _) (by rw [e]; exact h2)) (fun _ e => q _ _ (.refl _ _) (by rw [e, List.append_nil]; exact h1)) fun r H' _ a e => q r H' a e
end
/-- the dict at d tells the value of each of these names -/
def WD (H : Hp) (d : Addr) (names : List Str) (w : Str → Int) : Prop := ∃ kvs, H d = some (.dK kvs) ∧ ∀ x ∈ names, valV kvs (Sum.inr x) = some (.int (w x))
theorem WD.up {H H' : Hp} {d : Addr} {names : List Str} {w : Str → Int} (h : WD H d names w) (e : Adv [] H H') : WD H' d names w := by
  obtain ⟨kvs, h1, h2⟩ := h
  exact ⟨kvs, e.keep _ _ (fun z => nomatch z) h1, h2⟩
theorem WD.go {st : Addr} {cs : Addr × Addr} {H H' : Hp} {d : Addr} {names : List Str} {w : Str → Int} (h : WD H d names w) (hs : StOk st cs H) (e : Go st cs H H') : WD H' d names w := by
  obtain ⟨kvs, h1, h2⟩ := h
  exact ⟨kvs, e.keep (hs.notD h1 fun _ z => by cases z) h1, h2⟩
theorem WD.get {H : Hp} {Q : VK} {d : Addr} {names : List Str} {w : Str → Int} {x : Str} (h : WD H d names w) (hx : x ∈ names) (q : Q (.int (w x)) H) : kDGet (.ref d) (.str x) H Q := by
  obtain ⟨kvs, h1, h2⟩ := h
  exact kDGet_i (k := Sum.inr x) h1 (h2 x hx) q

/-! ### sayings -/
def okS (x : Str) : Prop := x.cps.all (· < 0x110000) = true
abbrev nix : Str := Str.ofString ""
abbrev Wd := Str → Int
def atW (b : Bool) : Str := if b = true then "from" else "is"
def manyW (b : Bool) : Str := if b = true then "and" else "or"
/-- a claim, as data: of so many levels, what it tells of a world, and its names as they stand -/
inductive ClD : Nat → PyData → (Wd → Bool) → List Str → Prop
  | one {m : Nat} {x : Str} {v : Int} (b : Bool) : ClD (m + 1) (.tuple [.str (atW b), .str x, .int v]) (fun w => if b = true then decide (v ≤ w x) else decide (w x = v)) [x]
  | neg {m : Nat} {d : PyData} {f : Wd → Bool} {ns : List Str} (h : ClD m d f ns) : ClD (m + 1) (.tuple [.str "not", d]) (fun w => !f w) ns
  | many {m : Nat} (b : Bool) (ds : List PyData) (fs : List (Wd → Bool)) (nss : List (List Str)) (hl : ds.length = fs.length) (hl2 : ds.length = nss.length) (h1 : ds.length ≤ 100)
      (h : ∀ (i : Nat) d f ns, ds[i]? = some d → fs[i]? = some f → nss[i]? = some ns → ClD m d f ns) :
      ClD (m + 1) (.tuple [.str (manyW b), .tuple ds]) (fun w => if b = true then fs.all (· w) else fs.any (· w)) nss.flatten
theorem ClD.le {m : Nat} {d : PyData} {f : Wd → Bool} {ns : List Str} (h : ClD m d f ns) : ∀ {n : Nat}, m ≤ n → ClD n d f ns := by
  induction h with
  | one b =>
    intro n hn
    obtain ⟨k, rfl⟩ : ∃ k, n = k + 1 := ⟨n - 1, by omega⟩
    exact .one b
  | neg h ih =>
    intro n hn
    obtain ⟨k, rfl⟩ : ∃ k, n = k + 1 := ⟨n - 1, by omega⟩
    exact .neg (ih (by omega))
  | many b ds fs nss hl hl2 h1 h ih =>
    intro n hn
    obtain ⟨k, rfl⟩ : ∃ k, n = k + 1 := ⟨n - 1, by omega⟩
    exact .many b ds fs nss hl hl2 h1 fun i d f ns e1 e2 e3 => ih i d f ns e1 e2 e3 (by omega)
inductive Say where
  | sums (least : Bool) (ts : List (Str × Int)) (n : Int)
  | unlike (xs : List Str)
  | counts (xs : List Str) (ts : List (Int × Int × Int))
  | tab (b : Bool) (xs : List Str) (rows : List (List Int))
  | pick (i : Str) (xs : List Str) (r : Str)
  | top (xs : List Str) (r : Str)
  | prod (x y z : Str)
  | ahead (xs ys : List Str)
  | mach (xs : List Str) (s : Int) (mv : List (Int × Int × Int)) (en : List Int)
  | works (xs : List Str) (ls ns : List Int) (room : Int)
  | round (xs : List Str)
  | claim (d : PyData) (f : Wd → Bool) (ns : List Str)
  | when (d : PyData) (f : Wd → Bool) (ns : List Str) (s : Say)
def trD (t : Str × Int) : PyData := .tuple [.str t.1, .int t.2]
def ctD (t : Int × Int × Int) : PyData := .tuple [.int t.1, .int t.2.1, .int t.2.2]
def rowD (r : List Int) : PyData := .tuple (r.map .int)
def sumW (b : Bool) : Str := if b = true then "least" else "same"
def tabW (b : Bool) : Str := if b = true then "table" else "bar"
def sayD : Say → PyData
  | .sums b ts n => .tuple [.str (sumW b), .tuple (ts.map trD), .int n]
  | .unlike xs => .tuple [.str "unlike", .tuple (xs.map .str)]
  | .counts xs ts => .tuple [.str "counts", .tuple (xs.map .str), .tuple (ts.map ctD)]
  | .tab b xs rows => .tuple [.str (tabW b), .tuple (xs.map .str), .tuple (rows.map rowD)]
  | .pick i xs r => .tuple [.str "pick", .str i, .tuple (xs.map .str), .str r]
  | .top xs r => .tuple [.str "top", .tuple (xs.map .str), .str r]
  | .prod x y z => .tuple [.str "product", .str x, .str y, .str z]
  | .ahead xs ys => .tuple [.str "ahead", .tuple (xs.map .str), .tuple (ys.map .str)]
  | .mach xs s mv en => .tuple [.str "machine", .tuple (xs.map .str), .int s, .tuple (mv.map ctD), .tuple (en.map .int)]
  | .works xs ls ns room => .tuple [.str "works", .tuple (xs.map .str), .tuple (ls.map .int), .tuple (ns.map .int), .int room]
  | .round xs => .tuple [.str "round", .tuple (xs.map .str)]
  | .claim d _ _ => .tuple [.str "claim", d]
  | .when d _ _ s => .tuple [.str "when", d, sayD s]
/-- the names of a saying as they stand -/
def Say.names : Say → List Str
  | .sums _ ts _ => ts.map (·.1)
  | .unlike xs => xs
  | .counts xs _ => xs
  | .tab _ xs _ => xs
  | .pick i xs r => i :: (xs ++ [r])
  | .top xs r => xs ++ [r]
  | .prod x y z => [x, y, z]
  | .ahead xs ys => xs ++ ys
  | .mach xs _ _ _ => xs
  | .works xs _ _ _ => xs
  | .round xs => xs
  | .claim _ _ ns => ns
  | .when _ _ ns s => ns ++ s.names
def wt (n : Int) : Prop := -(2 ^ 64) < n ∧ n < 2 ^ 64
def Say.isWhen : Say → Bool
  | .when .. => true
  | _ => false
def Say.isClaim : Say → Bool
  | .claim .. => true
  | _ => false
def Say.ok : Say → Prop
  | .sums _ ts _ => ts.length ≤ 100 ∧ ∀ t ∈ ts, wt t.2
  | .unlike xs => xs.length ≤ 100
  | .counts xs ts => xs.length ≤ 100 ∧ ts.length ≤ 100
  | .tab _ xs rows => xs.length ≤ 100 ∧ rows.length ≤ 1000
  | .pick _ xs _ => xs.length ≤ 100
  | .top xs _ => 0 < xs.length ∧ xs.length ≤ 100 ∧ ∀ x ∈ xs, okS x
  | .prod _ _ _ => True
  | .ahead xs ys => xs.length = ys.length ∧ xs.length ≤ 100
  | .mach xs _ mv en => xs.length ≤ 100 ∧ mv.length ≤ 1000 ∧ (mv.map fun m => (m.1, m.2.1)).Nodup ∧ en.length ≤ 100
  | .works xs ls ns room => ls.length = xs.length ∧ ns.length = xs.length ∧ 0 ≤ room ∧ xs.length ≤ 100
  | .round xs => 0 < xs.length ∧ xs.length ≤ 100
  | .claim d f ns => ClD 8 d f ns ∧ ns.length ≤ 1000
  | .when d f ns s => ClD 8 d f ns ∧ ns.length ≤ 1000 ∧ s.isWhen = false ∧ s.ok
/-- outside of claims no name comes twice -/
def Say.nd : Say → Prop
  | .claim _ _ _ => True
  | .when _ _ _ s => s.nd
  | s => s.names.Nodup
def weigh (w : Str → Int) (ts : List (Str × Int)) : Int := (ts.map fun t => t.2 * w t.1).sum
def numb (w : Str → Int) (xs : List Str) (v : Int) : Nat := (xs.map w).count v
def cntOk (w : Str → Int) (xs : List Str) (t : Int × Int × Int) : Bool := decide (t.2.1 ≤ (numb w xs t.1 : Nat)) && decide (((numb w xs t.1 : Nat) : Int) ≤ t.2.2)
def isAt (a v : Int) (m : Int × Int × Int) : Bool := decide (m.1 = a) && decide (m.2.1 = v)
/-- the stand behind these values -/
def walkM (mv : List (Int × Int × Int)) : Int → List Int → Option Int
  | here, [] => some here
  | here, v :: vs => match mv.find? (isAt here v) with
    | none => none
    | some m => walkM mv m.2.2 vs
def leL : List Int → List Int → Bool
  | a :: as, b :: bs => if a = b then leL as bs else decide (a < b)
  | [], _ => true
  | _ :: _, [] => false
/-- what stands at t -/
def load (w : Str → Int) (xs : List Str) (ls ns : List Int) (t : Int) : Int :=
  (((List.range xs.length).filter fun i => decide (w (xs.getD i "") ≤ t) && decide (t < w (xs.getD i "") + ls.getD i 0)).map fun i => ns.getD i 0).sum
/-- the walk of the program: m turns are left, from the place p -/
def walkP (w : Str → Int) (xs : List Str) : Nat → Nat → Bool
  | 0, _ => false
  | m + 1, p =>
    let q := w (xs.getD p "")
    if q = 0 then decide (m = 0) else if 0 < q ∧ q < xs.length then walkP w xs m q.toNat else false
/-- the places that are met: m turns are left, from the place p -/
def goP (w : Str → Int) (xs : List Str) : Nat → Nat → List Int
  | 0, _ => []
  | m + 1, p => if 0 ≤ w (xs.getD p "") ∧ w (xs.getD p "") < xs.length then w (xs.getD p "") :: goP w xs m (w (xs.getD p "")).toNat else []
theorem goP_succ {w : Str → Int} {xs : List Str} {m p : Nat} : goP w xs (m + 1) p = if 0 ≤ w (xs.getD p "") ∧ w (xs.getD p "") < xs.length then w (xs.getD p "") :: goP w xs m (w (xs.getD p "")).toNat else [] := rfl
def holdP (w : Str → Int) : Say → Bool
  | .sums b ts n => if b = true then decide (n ≤ weigh w ts) else decide (weigh w ts = n)
  | .unlike xs => decide ((xs.map w).Nodup)
  | .counts xs ts => ts.all (cntOk w xs)
  | .tab b xs rows => rows.any (fun row => decide (row = xs.map w)) == b
  | .pick i xs r => decide (0 ≤ w i) && (decide (w i < (xs.length : Nat)) && decide (w (xs.getD (w i).toNat nix) = w r))
  | .top xs r => xs.all (fun x => !decide (w r < w x)) && xs.any (fun x => decide (w x = w r))
  | .prod x y z => decide (w x * w y = w z)
  | .ahead xs ys => leL (xs.map w) (ys.map w)
  | .mach xs s mv en => match walkM mv s (xs.map w) with
    | none => false
    | some q => en.any fun e => decide (e = q)
  | .works xs ls ns room => xs.all fun x => decide (load w xs ls ns (w x) ≤ room)
  | .round xs => walkP w xs xs.length 0
  | .claim _ f _ => f w
  | .when _ f _ s => !f w || holdP w s
theorem is_pair {H : Hp} {v : V} {t : Str × Int} (h : Is H (trD t) v) : ∃ a, v = .ref a ∧ H a = some (.tup [.str t.1, .int t.2]) := by
  obtain ⟨a, vs, rfl, e, h⟩ := h.tup_inv
  cases h with
  | cons h1 h =>
    cases h with
    | cons h2 h =>
      cases h
      cases h1
      cases h2
      exact ⟨a, rfl, e⟩
theorem is_tri {H : Hp} {v : V} {t : Int × Int × Int} (h : Is H (ctD t) v) : ∃ a, v = .ref a ∧ H a = some (.tup [.int t.1, .int t.2.1, .int t.2.2]) := by
  obtain ⟨a, vs, rfl, e, h⟩ := h.tup_inv
  cases h with
  | cons h1 h =>
    cases h with
    | cons h2 h =>
      cases h with
      | cons h3 h =>
        cases h
        cases h1
        cases h2
        cases h3
        exact ⟨a, rfl, e⟩
theorem is_sums {H : Hp} {v : V} {b : Bool} {ts : List (Str × Int)} {n : Int} (h : Is H (sayD (.sums b ts n)) v) : ∃ a c, v = .ref a ∧ H a = some (.tup [.str (sumW b), .ref c, .int n]) ∧ Is H (.tuple (ts.map trD)) (.ref c) := by
  obtain ⟨a, vs, rfl, e, h⟩ := h.tup_inv
  cases h with
  | cons h1 h =>
    cases h with
    | cons h2 h =>
      cases h with
      | cons h3 h =>
        cases h
        cases h1
        cases h3
        have h2' := h2
        obtain ⟨c, _, rfl, _, _⟩ := h2.tup_inv
        exact ⟨a, c, rfl, e, h2'⟩
theorem is_unlike {H : Hp} {v : V} {xs : List Str} (h : Is H (sayD (.unlike xs)) v) : ∃ a b, v = .ref a ∧ H a = some (.tup [.str "unlike", .ref b]) ∧ H b = some (.tup (xs.map V.str)) := by
  obtain ⟨a, vs, rfl, e, h⟩ := h.tup_inv
  cases h with
  | cons h1 h =>
    cases h with
    | cons h2 h =>
      cases h
      cases h1
      obtain ⟨b, v2, rfl, e2, t2⟩ := h2.tup_inv
      rw [t2.strs_inv] at e2
      exact ⟨a, b, rfl, e, e2⟩
theorem is_counts {H : Hp} {v : V} {xs : List Str} {ts : List (Int × Int × Int)} (h : Is H (sayD (.counts xs ts)) v) : ∃ a b c vs, v = .ref a ∧ H a = some (.tup [.str "counts", .ref b, .ref c]) ∧ H b = some (.tup (xs.map V.str)) ∧ H c = some (.tup vs) ∧ IsAll H (ts.map ctD) vs := by
  obtain ⟨a, vs, rfl, e, h⟩ := h.tup_inv
  cases h with
  | cons h1 h =>
    cases h with
    | cons h2 h =>
      cases h with
      | cons h3 h =>
        cases h
        cases h1
        obtain ⟨b, v2, rfl, e2, t2⟩ := h2.tup_inv
        obtain ⟨c, v3, rfl, e3, t3⟩ := h3.tup_inv
        rw [t2.strs_inv] at e2
        exact ⟨a, b, c, v3, rfl, e, e2, e3, t3⟩
theorem is_row {H : Hp} {v : V} {t : List Int} (h : Is H (rowD t) v) : ∃ a, v = .ref a ∧ H a = some (.tup (t.map V.int)) := by
  obtain ⟨a, vs, rfl, e, h⟩ := h.tup_inv
  rw [h.ints_inv] at e
  exact ⟨a, rfl, e⟩
theorem is_tab {H : Hp} {v : V} {b : Bool} {xs : List Str} {rows : List (List Int)} (h : Is H (sayD (.tab b xs rows)) v) : ∃ a p c vs, v = .ref a ∧ H a = some (.tup [.str (tabW b), .ref p, .ref c]) ∧ H p = some (.tup (xs.map V.str)) ∧ H c = some (.tup vs) ∧ IsAll H (rows.map rowD) vs := by
  obtain ⟨a, vs, rfl, e, h⟩ := h.tup_inv
  cases h with
  | cons h1 h =>
    cases h with
    | cons h2 h =>
      cases h with
      | cons h3 h =>
        cases h
        cases h1
        obtain ⟨b, v2, rfl, e2, t2⟩ := h2.tup_inv
        obtain ⟨c, v3, rfl, e3, t3⟩ := h3.tup_inv
        rw [t2.strs_inv] at e2
        exact ⟨a, b, c, v3, rfl, e, e2, e3, t3⟩
theorem is_top {H : Hp} {v : V} {xs : List Str} {r : Str} (h : Is H (sayD (.top xs r)) v) : ∃ a p, v = .ref a ∧ H a = some (.tup [.str "top", .ref p, .str r]) ∧ H p = some (.tup (xs.map V.str)) := by
  obtain ⟨a, vs, rfl, e, h⟩ := h.tup_inv
  cases h with
  | cons h1 h =>
    cases h with
    | cons h2 h =>
      cases h with
      | cons h3 h =>
        cases h
        cases h1
        cases h3
        obtain ⟨b, v2, rfl, e2, t2⟩ := h2.tup_inv
        rw [t2.strs_inv] at e2
        exact ⟨a, b, rfl, e, e2⟩
theorem is_pick {H : Hp} {v : V} {i : Str} {xs : List Str} {r : Str} (h : Is H (sayD (.pick i xs r)) v) : ∃ a p, v = .ref a ∧ H a = some (.tup [.str "pick", .str i, .ref p, .str r]) ∧ H p = some (.tup (xs.map V.str)) := by
  obtain ⟨a, vs, rfl, e, h⟩ := h.tup_inv
  cases h with
  | cons h0 h =>
    cases h with
    | cons h1 h =>
      cases h with
      | cons h2 h =>
        cases h with
        | cons h3 h =>
          cases h
          cases h0
          cases h1
          cases h3
          obtain ⟨b, v2, rfl, e2, t2⟩ := h2.tup_inv
          rw [t2.strs_inv] at e2
          exact ⟨a, b, rfl, e, e2⟩
theorem is_prod {H : Hp} {v : V} {x y z : Str} (h : Is H (sayD (.prod x y z)) v) : ∃ a, v = .ref a ∧ H a = some (.tup [.str "product", .str x, .str y, .str z]) := by
  obtain ⟨a, vs, rfl, e, h⟩ := h.tup_inv
  cases h with
  | cons h1 h =>
    cases h with
    | cons h2 h =>
      cases h with
      | cons h3 h =>
        cases h with
        | cons h4 h =>
          cases h
          cases h1
          cases h2
          cases h3
          cases h4
          exact ⟨a, rfl, e⟩
theorem is_ahead {H : Hp} {v : V} {xs ys : List Str} (h : Is H (sayD (.ahead xs ys)) v) : ∃ a p q, v = .ref a ∧ H a = some (.tup [.str "ahead", .ref p, .ref q]) ∧ H p = some (.tup (xs.map V.str)) ∧ H q = some (.tup (ys.map V.str)) := by
  obtain ⟨a, vs, rfl, e, h⟩ := h.tup_inv
  cases h with
  | cons h1 h =>
    cases h with
    | cons h2 h =>
      cases h with
      | cons h3 h =>
        cases h
        cases h1
        obtain ⟨b, v2, rfl, e2, t2⟩ := h2.tup_inv
        obtain ⟨c, v3, rfl, e3, t3⟩ := h3.tup_inv
        rw [t2.strs_inv] at e2
        rw [t3.strs_inv] at e3
        exact ⟨a, b, c, rfl, e, e2, e3⟩
theorem is_mach {H : Hp} {v : V} {xs : List Str} {s : Int} {mv : List (Int × Int × Int)} {en : List Int} (h : Is H (sayD (.mach xs s mv en)) v) : ∃ a p q r vs, v = .ref a ∧ H a = some (.tup [.str "machine", .ref p, .int s, .ref q, .ref r]) ∧ H p = some (.tup (xs.map V.str)) ∧ H q = some (.tup vs) ∧ IsAll H (mv.map ctD) vs ∧ H r = some (.tup (en.map V.int)) := by
  obtain ⟨a, vs, rfl, e, h⟩ := h.tup_inv
  cases h with
  | cons h1 h =>
    cases h with
    | cons h2 h =>
      cases h with
      | cons h3 h =>
        cases h with
        | cons h4 h =>
          cases h with
          | cons h5 h =>
            cases h
            cases h1
            cases h3
            obtain ⟨b, v2, rfl, e2, t2⟩ := h2.tup_inv
            obtain ⟨c, v3, rfl, e3, t3⟩ := h4.tup_inv
            obtain ⟨d, v4, rfl, e4, t4⟩ := h5.tup_inv
            rw [t2.strs_inv] at e2
            rw [t4.ints_inv] at e4
            exact ⟨a, b, c, d, v3, rfl, e, e2, e3, t3, e4⟩
theorem is_works {H : Hp} {v : V} {xs : List Str} {ls ns : List Int} {room : Int} (h : Is H (sayD (.works xs ls ns room)) v) :
    ∃ a b c d, v = .ref a ∧ H a = some (.tup [.str "works", .ref b, .ref c, .ref d, .int room]) ∧ H b = some (.tup (xs.map V.str)) ∧ H c = some (.tup (ls.map V.int)) ∧ H d = some (.tup (ns.map V.int)) := by
  obtain ⟨a, vs, rfl, e, h⟩ := h.tup_inv
  cases h with
  | cons h1 h =>
    cases h with
    | cons h2 h =>
      cases h with
      | cons h3 h =>
        cases h with
        | cons h4 h =>
          cases h with
          | cons h5 h =>
            cases h
            cases h1
            cases h5
            obtain ⟨b, v2, rfl, e2, t2⟩ := h2.tup_inv
            obtain ⟨c, v3, rfl, e3, t3⟩ := h3.tup_inv
            obtain ⟨d, v4, rfl, e4, t4⟩ := h4.tup_inv
            rw [t2.strs_inv] at e2
            rw [t3.ints_inv] at e3
            rw [t4.ints_inv] at e4
            exact ⟨a, b, c, d, rfl, e, e2, e3, e4⟩
theorem is_round {H : Hp} {v : V} {xs : List Str} (h : Is H (sayD (.round xs)) v) : ∃ a b, v = .ref a ∧ H a = some (.tup [.str "round", .ref b]) ∧ H b = some (.tup (xs.map V.str)) := by
  obtain ⟨a, vs, rfl, e, h⟩ := h.tup_inv
  cases h with
  | cons h1 h =>
    cases h with
    | cons h2 h =>
      cases h
      cases h1
      obtain ⟨b, v2, rfl, e2, t2⟩ := h2.tup_inv
      rw [t2.strs_inv] at e2
      exact ⟨a, b, rfl, e, e2⟩
theorem is_one {H : Hp} {v : V} {x : Str} {n : Int} {b : Bool} (h : Is H (.tuple [.str (atW b), .str x, .int n]) v) : ∃ a, v = .ref a ∧ H a = some (.tup [.str (atW b), .str x, .int n]) := by
  obtain ⟨a, vs, rfl, e, h⟩ := h.tup_inv
  cases h with
  | cons h1 h =>
    cases h with
    | cons h2 h =>
      cases h with
      | cons h3 h =>
        cases h
        cases h1
        cases h2
        cases h3
        exact ⟨a, rfl, e⟩
theorem is_two {H : Hp} {v : V} {x : Str} {d : PyData} (h : Is H (.tuple [.str x, d]) v) : ∃ a u, v = .ref a ∧ H a = some (.tup [.str x, u]) ∧ Is H d u := by
  obtain ⟨a, vs, rfl, e, h⟩ := h.tup_inv
  cases h with
  | cons h1 h =>
    cases h with
    | cons h2 h =>
      cases h
      cases h1
      exact ⟨a, _, rfl, e, h2⟩
theorem is_three {H : Hp} {v : V} {x : Str} {d d' : PyData} (h : Is H (.tuple [.str x, d, d']) v) : ∃ a u u', v = .ref a ∧ H a = some (.tup [.str x, u, u']) ∧ Is H d u ∧ Is H d' u' := by
  obtain ⟨a, vs, rfl, e, h⟩ := h.tup_inv
  cases h with
  | cons h1 h =>
    cases h with
    | cons h2 h =>
      cases h with
      | cons h3 h =>
        cases h
        cases h1
        exact ⟨a, _, _, rfl, e, h2, h3⟩
theorem lay_ints : ∀ ns : List Int, PyData.canLayAll0 (ns.map .int) = true
  | [] => by simp [PyData.canLayAll0]
  | n :: ns => by simp [PyData.canLayAll0, PyData.canLay0, lay_ints ns]
theorem lay_strs : ∀ ns : List Str, (∀ x ∈ ns, okS x) → PyData.canLayAll0 (ns.map .str) = true
  | [], _ => by simp [PyData.canLayAll0]
  | n :: ns, h => by
    have h1 : PyData.canLay0 (.str n) = true := h n (List.mem_cons_self ..)
    simp [PyData.canLayAll0, h1, lay_strs ns fun x hx => h x (List.mem_cons_of_mem _ hx)]
theorem deep_ints : ∀ ns : List Int, PyData.depthAll (ns.map .int) ≤ 1
  | [] => by simp [PyData.depthAll]
  | n :: ns => by
    have := deep_ints ns
    simp only [List.map_cons, PyData.depthAll, PyData.depth]
    omega
theorem deep_strs : ∀ ns : List Str, PyData.depthAll (ns.map .str) ≤ 1
  | [] => by simp [PyData.depthAll]
  | n :: ns => by
    have := deep_strs ns
    simp only [List.map_cons, PyData.depthAll, PyData.depth]
    omega
theorem lay_rows : ∀ ts : List (List Int), PyData.canLayAll0 (ts.map rowD) = true
  | [] => by simp [PyData.canLayAll0]
  | t :: ts => by simp [rowD, PyData.canLayAll0, PyData.canLay0, lay_ints t, lay_rows ts]
theorem deep_rows : ∀ ts : List (List Int), PyData.depthAll (ts.map rowD) ≤ 3
  | [] => by simp [PyData.depthAll]
  | t :: ts => by
    have h3 := deep_rows ts
    have h4 := deep_ints t
    simp only [List.map_cons, rowD, PyData.depthAll, PyData.depth]
    omega
theorem lay_tris : ∀ ts : List (Int × Int × Int), PyData.canLayAll0 (ts.map ctD) = true
  | [] => by simp [PyData.canLayAll0]
  | t :: ts => by simp [ctD, PyData.canLayAll0, PyData.canLay0, lay_tris ts]
theorem deep_tris : ∀ ts : List (Int × Int × Int), PyData.depthAll (ts.map ctD) ≤ 3
  | [] => by simp [PyData.depthAll]
  | t :: ts => by
    have h3 := deep_tris ts
    simp only [List.map_cons, ctD, PyData.depthAll, PyData.depth]
    omega
theorem row_shaped (t : List Int) : SeqAt.shaped (rowD t) = true := by
  have h4 := deep_ints t
  have h : (rowD t).depth ≤ 64 := by
    simp only [rowD, PyData.depth]
    omega
  show ((rowD t).canLay0 && decide ((rowD t).depth ≤ 64)) = true
  rw [decide_eq_true h, Bool.and_true]
  simp only [rowD, PyData.canLay0, lay_ints t]
theorem rows_shaped (ts : List (List Int)) : SeqAt.shaped (.tuple (ts.map rowD)) = true := by
  have h4 := deep_rows ts
  have h : (PyData.tuple (ts.map rowD)).depth ≤ 64 := by
    simp only [PyData.depth]
    omega
  show ((PyData.tuple (ts.map rowD)).canLay0 && decide ((PyData.tuple (ts.map rowD)).depth ≤ 64)) = true
  rw [decide_eq_true h, Bool.and_true]
  simp only [PyData.canLay0, lay_rows ts]
/-! ### x in t, t a tuple of data -/
def rInT (K : PySem.W.Frag) : R2 := fun x y H Q => ∃ d ds, Dp K H x d ∧ Dp K H y (.tuple ds) ∧ SeqAt.shaped d = true ∧ SeqAt.shaped (.tuple ds) = true ∧ Q (.bl (ds.any fun z => PyData.eqv z d)) H
theorem op_inT {X : Cx} (hu : X.A.units + 65 < cLine) : OpR X (compareOp .In) (rInT X.K) := by
  intro pins s σ H x y v u Q I rx ry h
  obtain ⟨d, ds, hd, he, sd, se, q⟩ := h
  obtain ⟨as, r1⟩ := Dp.reads I d x v hd rx
  obtain ⟨bs, r2⟩ := Dp.reads I (.tuple ds) y u he ry
  exact SeqAt.in_tuple_reads r2 r1 (SeqAt.canLay_of_shaped se) (SeqAt.canLay_of_shaped sd) (room_in_shaped sd hu) ⟨.bl _, H, I, rfl, q⟩
theorem rows_eqv (a b : List Int) : PyData.eqv (rowD a) (rowD b) = decide (a = b) := by
  unfold rowD
  rw [PyData.eqv]
  exact PySem.W.ked_eqvAll a b
end AW
/-! a dict comprehension that is given to a name -/
namespace AW
open PySem PySem.Spec PyProof.Rows L2 RZ
section
variable {X : Cx}
theorem ps_setDc {i : Nat} {y : Str} {py : Pos} {kx vx tg iter : Expr} {ifs : List Expr} {scope : Scope} {own : List (Str × Nat)} {pos spos : Pos} {wi : TI} {g : TG} {tt : TT} {tk tv : TE}
    (hc : X.calm = true) (hN : X.N.Nodup) (hy : X.N[i]? = some y) (hyl : X.env.scope.names.lookup y = some .local)
    (hsw : swapsWith (.DictComp kx vx [⟨tg, iter, ifs, 0⟩] scope pos) (some (.Name y py)) spos.line X.env = pure true)
    (hi : PI X tg iter wi) (ok : BlkOk X.N X.env.scope scope own)
    (hg : ∀ s H C cl fp, PG (X.blk s H scope (compEnvC scope cl C X.env) fp) tg g)
    (ht : ∀ s H C cl fp, PTs (X.blk s H scope (compEnvC scope cl C X.env) fp) ifs tt)
    (hk : ∀ s H C cl fp, PE (X.blk s H scope (compEnvC scope cl C X.env) fp) kx tk)
    (hv : ∀ s H C cl fp, PE (X.blk s H scope (compEnvC scope cl C X.env) fp) vx tv)
    (hs : ∀ x, foldedSetIterable iter X.env x = pure x := by intro _; rfl) :
    PS X (.Assign [.Name y py] (.DictComp kx vx [⟨tg, iter, ifs, 0⟩] scope pos) spos) (tAsg (tDc wi g tt tk tv (own.map (·.2))) (gName i)) := by
  constructor
  intro pins s σ H D I h
  have h2 : tDc wi g tt tk tv (own.map (·.2)) σ H (fun x H1 => D.nx (σ.set i (some x)) H1) := h
  have core := dc_core (use := some (assign (.Name y py) X.env)) (pos' := firstIterPos [⟨tg, iter, ifs, 0⟩] pos) (pos := pos) (Qf := fun _ s' => SP X pins D .next s') hc hN I hi ok hg ht hk hv hs h2 fun L C s' m H' I' q hn f => ?_
  · rw [exec_Assign_Name_used _ _ _ _ hsw]
    apply wpAny_bind
    apply wpAny_standAt
    apply wpAny_bind
    show wpAny _ X.A (do let _ ← comprehension (.DictComp kx vx [⟨tg, iter, ifs, 0⟩] scope pos) scope X.env (firstIterPos [⟨tg, iter, ifs, 0⟩] pos) newDict false (eval iter X.env) (some (assign (.Name y py) X.env))) _ _ s
    apply wpAny_bind
    exact thn core fun _ s' hq => wpAny_pure (wpAny_pure hq)
  · show wpAny _ _ (assign (.Name y py) X.env (.ref L)) _ _ _
    apply wpAny_assign_Name
    refine store_ok2 (v := V.ref L) I' hN hy (.inl hyl) rfl (fun s2 I2 z => ?_) (.inr hyl)
    obtain ⟨a, sb, ha⟩ := z
    obtain ⟨f0, f1, f2, f3, f4, f5⟩ := f
    have hCa : C ≠ a := by
      rcases ha with z | z
      · rw [z]
        exact f1
      · exact fun e => f4 y a z e.symm
    refine ⟨m, hn.sameBut sb hCa, fun h3 sb3 => ?_⟩
    exact ⟨σ.set i (some (.ref L)), H', I2.turned (t' := s2.toks) (fun b o hb e => (sb3.2 b hb).trans e) f0 f1 f3 f4 f5, q⟩
theorem sw_trueD {kx vx : Expr} {gs : List Comprehension} {scope : Scope} {pos py : Pos} {y : Str} {l : Nat} {env : Env} (hk : env.scope.kind = .function) (hy : env.scope.names.lookup y = some .local) (hl : (py.line == pos.line) = true)
    (ha : (scope.names.any fun (n, k) => n == y && (k == .local || k == .cell)) = false) : swapsWith (.DictComp kx vx gs scope pos) (some (.Name y py)) l env = pure true := by
  have e1 : env.kindOf y = some .local := hy
  have e2 : env.blockKind = .function := by
    unfold Env.blockKind
    rw [hk]
    rfl
  unfold swapsWith
  simp only [e2, e1, ha, Expr.pos, hl]
  rfl
end
/-! ### models -/
def itD (p : Str × Say) : PyData := .tuple [.str p.1, sayD p.2]
def sfD (p : Str × Say × Int) : PyData := .tuple [.str p.1, sayD p.2.1, .int p.2.2]
def domD (p : Str × List Int) : PyData := .tuple [.str p.1, .tuple (p.2.map .int)]
def modD (doms : List (Str × List Int)) (firm : List (Str × Say)) (soft : List (Str × Say × Int)) : PyData := .tuple [.tuple (doms.map domD), .tuple (firm.map itD), .tuple (soft.map sfD)]
/-- the world of a filling -/
def wOf (names : List Str) (f : List Int) (x : Str) : Int := f.getD (names.idxOf x) 0
theorem is_mod {H : Hp} {v : V} {doms : List (Str × List Int)} {firm : List (Str × Say)} {soft : List (Str × Say × Int)} (h : Is H (modD doms firm soft) v) :
    ∃ a b c d xs ys zs, v = .ref a ∧ H a = some (.tup [.ref b, .ref c, .ref d]) ∧ H b = some (.tup xs) ∧ IsAll H (doms.map domD) xs ∧ H c = some (.tup ys) ∧ IsAll H (firm.map itD) ys ∧ H d = some (.tup zs) ∧ IsAll H (soft.map sfD) zs := by
  obtain ⟨a, vs, rfl, e, h⟩ := h.tup_inv
  cases h with
  | cons h1 h =>
    cases h with
    | cons h2 h =>
      cases h with
      | cons h3 h =>
        cases h
        obtain ⟨b, xs, rfl, e1, t1⟩ := h1.tup_inv
        obtain ⟨c, ys, rfl, e2, t2⟩ := h2.tup_inv
        obtain ⟨d, zs, rfl, e3, t3⟩ := h3.tup_inv
        exact ⟨a, b, c, d, xs, ys, zs, rfl, e, e1, t1, e2, t2, e3, t3⟩
theorem is_dom {H : Hp} {v : V} {p : Str × List Int} (h : Is H (domD p) v) : ∃ a b, v = .ref a ∧ H a = some (.tup [.str p.1, .ref b]) ∧ H b = some (.tup (p.2.map V.int)) := by
  obtain ⟨a, vs, rfl, e, h⟩ := h.tup_inv
  cases h with
  | cons h1 h =>
    cases h with
    | cons h2 h =>
      cases h
      cases h1
      obtain ⟨b, v2, rfl, e2, t2⟩ := h2.tup_inv
      rw [t2.ints_inv] at e2
      exact ⟨a, b, rfl, e, e2⟩
/-- an item of a model's lists: its name, its saying -/
def ItAt (H : Hp) (n : Str) (s : Say) (sv : V) (v : V) : Prop := ∃ a rest, v = .ref a ∧ H a = some (.tup (.str n :: sv :: rest)) ∧ Is H (sayD s) sv
theorem is_it {H : Hp} {v : V} {p : Str × Say} (h : Is H (itD p) v) : ∃ sv, ItAt H p.1 p.2 sv v := by
  obtain ⟨a, vs, rfl, e, h⟩ := h.tup_inv
  cases h with
  | cons h1 h =>
    cases h with
    | cons h2 h =>
      cases h
      cases h1
      exact ⟨_, a, _, rfl, e, h2⟩
theorem is_sf {H : Hp} {v : V} {p : Str × Say × Int} (h : Is H (sfD p) v) : ∃ sv, ItAt H p.1 p.2.1 sv v := by
  obtain ⟨a, vs, rfl, e, h⟩ := h.tup_inv
  cases h with
  | cons h1 h =>
    cases h with
    | cons h2 h =>
      cases h1
      exact ⟨_, a, _, rfl, e, h2⟩
/-- the items one after the other, their sayings' values beside -/
theorem items_of {H : Hp} : ∀ {all : List (Str × Say)} {xs : List V}, xs.length = all.length → (∀ (i : Nat) p x, all[i]? = some p → xs[i]? = some x → ∃ sv, ItAt H p.1 p.2 sv x) →
    ∃ svs : List V, svs.length = all.length ∧ ∀ (i : Nat) p x sv, all[i]? = some p → xs[i]? = some x → svs[i]? = some sv → ItAt H p.1 p.2 sv x
  | [], [], _, _ => ⟨[], rfl, fun i p x sv e => by simp at e⟩
  | p :: all, x :: xs, hl, h => by
    obtain ⟨sv, h0⟩ := h 0 p x rfl rfl
    obtain ⟨svs, h1, h2⟩ := items_of (all := all) (xs := xs) (Nat.succ.inj hl) fun i q y e1 e2 => h (i + 1) q y (by simpa using e1) (by simpa using e2)
    refine ⟨sv :: svs, by simp [h1], fun i q y tv e1 e2 e3 => ?_⟩
    cases i with
    | zero =>
      simp at e1 e2 e3
      subst e1 e2 e3
      exact h0
    | succ i => exact h2 i q y tv (by simpa using e1) (by simpa using e2) (by simpa using e3)
  | [], _ :: _, hl, _ => by simp at hl
  | _ :: _, [], hl, _ => by simp at hl
theorem nodup_inj {α : Type} {l : List α} (h : l.Nodup) {i j : Nat} {x : α} (a : l[i]? = some x) (b : l[j]? = some x) : i = j := L2.nd_ix h a b
end AW
/-! steps that were not there: isinstance, pop, tuple(d), sorted, a comprehension with two fors -/
namespace AW
open PySem PySem.Spec PyProof.Rows L2 RZ StX
def rDictP (K : PySem.W.Frag) : List V → Hp → VK → Prop := fun xs H Q => ∃ (a : Addr) (ps : List Addr) (kvs : List (Key × V)), xs = [.ref a] ∧ SqL K H a (ps.map V.ref) ∧ Paired (fun p kv => SqT K H p [kV kv.1, kv.2]) ps kvs ∧ ∀ p, H p = none → Q (.ref p) (upd H p (.dK (mergeK [] kvs)))
theorem call_dictP1 {X : Cx} (hc : X.calm = true) : CallR X (.type "dict") (rDictP X.K) := call_dictP hc
def rSortDS : List V → Hp → VK → Prop := fun xs H Q => ∃ (a : Addr) (kvs : List (Key × V)) (ks : List Str), xs = [.ref a] ∧ Rd H a (.dK kvs) ∧ kvs.map (·.1) = ks.map Sum.inr ∧ ks.length < 64 ∧
  ∀ (ys : List Str) (p : Addr), ys.Perm ks → sortedS ys = true → H p = none → Q (.ref p) (upd H p (.lst (ys.map V.str)))
theorem call_sortDS1 {X : Cx} (hc : X.calm = true) : CallR X (.builtin "sorted") rSortDS := call_sortedD hc
section
variable {σ : L2.St} {H : Hp} {Q : VK} {ta tb te td ty : TE} {K : PySem.W.Frag}
theorem w_listOfS {x : Str} (hz : x.cps.size ≤ 100000) (q : ∀ r H', H r = none → Adv [] H H' → H' r = some (.lst ((signsOf x).map V.str)) → Q (.ref r) H') : rListOfA K [.str x] H Q :=
  .inr ⟨x, rfl, Nat.le_trans hz (by decide), fun l hl => q l _ hl (Adv.new hl) upd_same⟩
theorem w_listOfL {p : Addr} {xs : List V} (h : SqL K H p xs ∨ SqT K H p xs) (q : ∀ r H', H r = none → Adv [] H H' → H' r = some (.lst xs) → Q (.ref r) H') : rListOfA K [.ref p] H Q := .inl (w_listOf h q)
theorem w_isi {x : V} {a b : String} {r : Bool} (ty : TyX K H x (.type a)) (e : kitB a b = some r) (q : Q (.bl r) H) : rIsi K [x, .ty b] H Q := ⟨x, .ty b, _, _, r, rfl, .ty b, ty, kit_ty e, q⟩
theorem w_notN {x : V} (q : Q (.bl (!decide (x = .non))) H) : rNotN x .non H Q := ⟨rfl, q⟩
theorem w_popAt {i : Nat} {l : Addr} {xs : List V} {a : TA} (hσ : σ[i]? = some (some (.ref l))) (h0 : H l = some (.lst xs)) (h : a σ H fun vs H2 => rPopAt (.ref l) vs H2 Q) : tBM K "list" rPopAt (tVar i) a σ H Q :=
  ⟨.ref l, hσ, .inl ⟨rfl, xs, SqL.of h0⟩, h⟩
theorem w_listD {p : Addr} {kvs : List (Key × V)} (h : H p = some (.dK kvs)) (q : ∀ r H', H r = none → Adv [] H H' → H' r = some (.lst (kvs.map fun kv => kV kv.1)) → Q (.ref r) H') : rListD [.ref p] H Q := ⟨p, kvs, rfl, h, w_new q⟩
theorem w_tupD2 {p : Addr} {kvs : List (Key × V)} (h : H p = some (.dK kvs)) (q : ∀ r H', H r = none → Adv [] H H' → H' r = some (.tup (kvs.map fun kv => kV kv.1)) → Q (.ref r) H') : rTupD [.ref p] H Q := ⟨p, kvs, rfl, h, w_new q⟩
theorem w_tupOfT {p : Addr} {xs : List V} (h : H p = some (.tup xs)) (q : Q (.ref p) H) : kTup K (.ref p) H Q := .inr ⟨p, xs, rfl, SqT.of h, q⟩
theorem w_sortTS {a : Addr} {xs : List Str} (h : H a = some (.tup (xs.map V.str))) (hl : xs.length < 64) (q : ∀ (ys : List Str) r H', ys.Perm xs → sortedS ys = true → H r = none → Adv [] H H' → H' r = some (.lst (ys.map V.str)) → Q (.ref r) H') : rSortTS K [.ref a] H Q :=
  ⟨a, xs, rfl, SqT.of h, hl, fun ys p h1 h2 h3 => q ys p _ h1 h2 h3 (Adv.new h3) upd_same⟩
theorem w_sortDS {a : Addr} {kvs : List (Key × V)} {ks : List Str} (h : H a = some (.dK kvs)) (hk : kvs.map (·.1) = ks.map Sum.inr) (hl : ks.length < 64) (q : ∀ (ys : List Str) r H', ys.Perm ks → sortedS ys = true → H r = none → Adv [] H H' → H' r = some (.lst (ys.map V.str)) → Q (.ref r) H') : rSortDS [.ref a] H Q :=
  ⟨a, kvs, ks, rfl, .inl h, hk, hl, fun ys p h1 h2 h3 => q ys p _ h1 h2 h3 (Adv.new h3) upd_same⟩
theorem w_starX {t : TA} {Q : List V → Hp → Prop} (h : te σ H fun x H1 => ∃ p xs, x = V.ref p ∧ (SqT K H1 p xs ∨ SqL K H1 p xs) ∧ t σ H1 fun ys H2 => Q (xs ++ ys) H2) : tStar K te t σ H Q := h
theorem w_revL (h : te σ H fun x H1 => ∃ a xs, x = .ref a ∧ SqL K H1 a xs ∧ ∀ p, H1 p = none → Q (.ref p) (upd H1 p (.lst xs.reverse))) : tRevL K te σ H Q := h
theorem w_break {D : Ends} (q : D.bk σ H) : tBreak D σ H := q
/-- two fors, the inner one over a list that is made in each turn -/
def kLc2 (K : PySem.W.Frag) (i j : Nat) (tc : TE) (vs vs1 : List Nat) (σ : L2.St) (Q : VK) (x : V) (H1 : Hp) : Prop := ∃ a, x = .ref a ∧ (∃ xs, SqT K H1 a xs) ∧ ∀ D, H1 D = none → ∃ W : Nat → Nat → Hp → Prop, (∃ m, W 0 m (upd H1 D (.lst []))) ∧ ∀ k m H, W k m H →
  ((Itt K a).stop k H ∧ Q (.ref D) H) ∨ ((Itt K a).go k H ∧ ∃ Nx : Hp → Prop, (∀ H', Nx H' → ∃ m', m' < m ∧ W (k + 1) m' H') ∧ ∀ x H', (Itt K a).yld k H x H' → gName i x (wipe σ vs) H' fun σ2 H2 => wipe σ2 vs = wipe σ vs ∧ tYes σ2 H2 fun b H3 =>
    if b = true then iList K tc σ2 H3 fun J1 H4 => ∃ W1 : Nat → Nat → Hp → Prop, (∃ m, W1 0 m H4) ∧ ∀ l k H, W1 l k H →
      (J1.stop l H ∧ Nx H) ∨ (J1.go l H ∧ ∃ Nx1 : Hp → Prop, (∀ H', Nx1 H' → ∃ k', k' < k ∧ W1 (l + 1) k' H') ∧ ∀ x H', J1.yld l H x H' → gName j x (wipe σ2 vs1) H' fun σ3 H5 => wipe σ3 vs1 = wipe σ2 vs1 ∧ tYes σ3 H5 fun b H6 =>
        if b = true then tVar j σ3 H6 fun y H7 => ∃ acc, H7 D = some (.lst acc) ∧ acc.length < sizeLine ∧ Nx1 (upd H7 D (.lst (acc ++ [y]))) else Nx1 H6)
    else Nx H3)
theorem w_lc2 {tl tc : TE} {i j : Nat} {vs vs1 : List Nat} (h : tl σ H (kLc2 K i j tc vs vs1 σ Q)) : tLc2 (iTup K tl) (gName i) tYes (iList K tc) (gName j) tYes (tVar j) vs vs1 σ H Q := h
theorem kLc2_flat {i j : Nat} {tc : TE} {vs vs1 : List Nat} {p : Addr} {xs : List V} (f : Nat → List V) (hp : H p = some (.tup xs)) (hn : xs.length ≤ 1000) (hf : ∀ k, k < xs.length → ((List.range (k + 1)).flatMap f).length ≤ 100000)
    (w1 : ∀ x, wipe ((wipe σ vs).set i (some x)) vs = wipe σ vs) (w2 : ∀ x y, wipe ((wipe ((wipe σ vs).set i (some x)) vs1).set j (some y)) vs1 = wipe ((wipe σ vs).set i (some x)) vs1)
    (w3 : ∀ x y, ((wipe ((wipe σ vs).set i (some x)) vs1).set j (some y))[j]? = some (some y))
    (step : ∀ k x H2 (Kt : V → Hp → Prop), xs[k]? = some x → Adv [] H H2 → (∀ q H4, Adv [] H2 H4 → H2 q = none → H4 q = some (.lst (f k)) → Kt (.ref q) H4) → tc ((wipe σ vs).set i (some x)) H2 Kt)
    (k : ∀ r H', H r = none → Adv [] H H' → H' r = some (.lst ((List.range xs.length).flatMap f)) → Q (.ref r) H') : kLc2 K i j tc vs vs1 σ Q (.ref p) H := by
  refine ⟨p, rfl, ⟨xs, SqT.of hp⟩, fun D hD => ?_⟩
  refine ⟨fun n m H' => m = xs.length - n ∧ n ≤ xs.length ∧ Adv [] H H' ∧ H' D = some (.lst ((List.range n).flatMap f)), ⟨xs.length, by simp, Nat.zero_le _, Adv.new hD, upd_same⟩, ?_⟩
  rintro n m H' ⟨rfl, hi, a1, e1⟩
  have wk := walk_tup (K := K) (a := p) (xs := xs)
  have st : SqT K H' p xs := SqT.of (a1.tup _ _ hp)
  by_cases hlt : n < xs.length
  · refine .inr ⟨wk.goes n H' hlt st, fun H2 => n + 1 ≤ xs.length ∧ Adv [] H H2 ∧ H2 D = some (.lst ((List.range (n + 1)).flatMap f)), fun H2 p2 => ⟨xs.length - (n + 1), by omega, rfl, p2⟩, fun x H2 y => ?_⟩
    obtain ⟨rfl, hx⟩ := wk.yields n H' x H2 hlt st y
    refine ⟨w1 x, ?_⟩
    show tc ((wipe σ vs).set i (some x)) H2 _
    refine step n x H2 _ hx a1 fun q H4 a4 nq eq => ⟨q, rfl, ⟨_, SqL.of eq⟩, ?_⟩
    have e4 := a4.keep _ _ (fun z => nomatch z) e1
    have hDq : D ≠ q := ne_of_none e1 nq
    have hsum := hf n hlt
    rw [List.range_succ, List.flatMap_append, List.length_append] at hsum
    have efn : ([n].flatMap f) = f n := by simp
    rw [efn] at hsum
    refine ⟨fun l m H5 => m = (f n).length - l ∧ l ≤ (f n).length ∧ Adv [] H H5 ∧ H5 q = some (.lst (f n)) ∧ H5 D = some (.lst ((List.range n).flatMap f ++ (f n).take l)), ⟨(f n).length, by simp, Nat.zero_le _, a1.trans a4, eq, by rw [List.take_zero, List.append_nil]; exact e4⟩, ?_⟩
    rintro l m H5 ⟨rfl, hl, a5, eq5, eD5⟩
    have wl := walk_list (K := K) (a := q) (xs := f n)
    by_cases hl2 : l < (f n).length
    · refine .inr ⟨wl.goes l H5 hl2 (SqL.of eq5), fun H6 => l + 1 ≤ (f n).length ∧ Adv [] H H6 ∧ H6 q = some (.lst (f n)) ∧ H6 D = some (.lst ((List.range n).flatMap f ++ (f n).take (l + 1))), fun H6 p6 => ⟨(f n).length - (l + 1), by omega, rfl, p6⟩, fun y H6 hy => ?_⟩
      obtain ⟨rfl, hy2⟩ := wl.yields l H5 y H6 hl2 (SqL.of eq5) hy
      refine ⟨w2 x y, y, w3 x y, _, eD5, ?_, hl2, a5.mut hD eD5 (fun _ z => by cases z), by rw [upd_ne hDq.symm]; exact eq5, ?_⟩
      · rw [List.length_append, List.length_take]
        exact Nat.lt_of_lt_of_le (show _ < 100001 by omega) (by decide)
      · rw [upd_same, List.take_add_one, hy2]
        simp
    · refine .inl ⟨?_, ?_⟩
      · have e : l = (f n).length := by omega
        rw [e]
        exact wl.stops H5 (SqL.of eq5)
      · have e : l = (f n).length := by omega
        refine ⟨hlt, a5, ?_⟩
        rw [eD5, e, List.take_length, List.range_succ, List.flatMap_append, efn]
  · have e : n = xs.length := by omega
    subst e
    exact .inl ⟨wk.stops H' st, k D H' hD a1 e1⟩
end
end AW
/-! keys of dicts, sorted texts -/
namespace AW
open PySem PySem.Spec PyProof.Rows L2 RZ
def insS (ms : List Str) (x : Str) : List Str := if x ∈ ms then ms else ms ++ [x]
theorem insS_mem {ms : List Str} {x y : Str} : y ∈ insS ms x ↔ y ∈ ms ∨ y = x := by
  unfold insS
  split
  · rename_i h
    exact ⟨.inl, fun z => z.elim id fun e => e ▸ h⟩
  · rw [List.mem_append, List.mem_singleton]
theorem insS_nd {ms : List Str} {x : Str} (h : ms.Nodup) : (insS ms x).Nodup := by
  unfold insS
  split
  · exact h
  · rename_i hn
    rw [List.nodup_append]
    refine ⟨h, by simp, fun a ha b hb e => ?_⟩
    rw [List.mem_singleton.mp hb] at e
    exact hn (e ▸ ha)
theorem put_str {kvs : List (Key × V)} {ms : List Str} {x : Str} {v : V} (h : kvs.map (·.1) = ms.map Sum.inr) : (putK kvs (Sum.inr x) v).map (·.1) = (insS ms x).map Sum.inr := by
  have e : (kvs.any fun kv => decide (kv.1 = Sum.inr x)) = decide (x ∈ ms) := by
    have e1 : (kvs.any fun kv => decide (kv.1 = (Sum.inr x : Key))) = (kvs.map (·.1)).any fun k => decide (k = Sum.inr x) := by rw [List.any_map]; rfl
    rw [e1, h, List.any_map, Bool.eq_iff_iff, List.any_eq_true, decide_eq_true_iff]
    exact ⟨fun ⟨y, hy, z⟩ => Sum.inr.inj (of_decide_eq_true z) ▸ hy, fun hy => ⟨x, hy, decide_eq_true rfl⟩⟩
  unfold putK insS
  by_cases hm : x ∈ ms
  · rw [e, if_pos (decide_eq_true hm), if_pos hm, List.map_map, ← h]
    refine List.map_congr_left fun kv _ => ?_
    show (if kv.1 = Sum.inr x then (kv.1, v) else kv).1 = kv.1
    split <;> rfl
  · rw [e, if_neg (fun z => hm (of_decide_eq_true z)), if_neg hm, List.map_append, List.map_append, h]
    rfl
/-- the different ones of a list, in the order of their first places -/
def nubS (xs : List Str) : Nat → List Str
  | 0 => []
  | i + 1 => insS (nubS xs i) (xs.getD i nix)
theorem nubS_nd (xs : List Str) : ∀ n, (nubS xs n).Nodup
  | 0 => List.nodup_nil
  | i + 1 => insS_nd (nubS_nd xs i)
theorem nubS_mem (xs : List Str) {y : Str} : ∀ n, n ≤ xs.length → (y ∈ nubS xs n ↔ y ∈ xs.take n)
  | 0, _ => by simp [nubS]
  | i + 1, h => by
    have hi : i < xs.length := h
    have e : xs.getD i nix = xs[i] := getD_of (List.getElem?_eq_getElem hi)
    rw [nubS, insS_mem, nubS_mem xs i (by omega), List.take_add_one, List.getElem?_eq_getElem hi, List.mem_append, e]
    simp
theorem dict_strs (xs : List Str) (val : Nat → V) : ∀ n, (dictOf (fun i => (Sum.inr (xs.getD i nix) : Key)) val n).map (·.1) = (nubS xs n).map Sum.inr
  | 0 => rfl
  | i + 1 => put_str (dict_strs xs val i)
theorem keys_strs {kvs : List (Key × V)} {ms : List Str} (h : kvs.map (·.1) = ms.map Sum.inr) : (kvs.map fun kv => kV kv.1) = ms.map V.str := by
  rw [show (kvs.map fun kv => kV kv.1) = (kvs.map (·.1)).map kV by rw [List.map_map]; rfl, h, List.map_map]
  rfl
theorem nub_len {ms U : List Str} (h : ms.Nodup) (s : ∀ x ∈ ms, x ∈ U) : ms.length ≤ U.length := h.length_le_of_subset s
theorem lt_trans_cps {a b c : List Nat} (h1 : ¬ b < a) (h2 : ¬ c < b) : ¬ c < a := fun h => by
  have h1' : a ≤ b := List.not_lt.mp h1
  have h2' : b ≤ c := List.not_lt.mp h2
  exact List.not_lt.mpr (List.le_trans h1' h2') h
theorem cps_inj {a b : Str} (h : a.cps.toList = b.cps.toList) : a = b := by
  cases a
  cases b
  simp only [Str.mk.injEq]
  exact Array.toList_inj.mp h
theorem rising_pw : ∀ (xs : List Str) (p : Str), risingS p xs = true → (p :: xs).Pairwise fun a b => ¬ b.cps.toList < a.cps.toList
  | [], p, _ => by simp
  | x :: xs, p, h => by
    rw [risingS, Bool.and_eq_true, ltCps_eq, Bool.not_eq_true', decide_eq_false_iff_not] at h
    have ih := rising_pw xs x h.2
    refine List.pairwise_cons.mpr ⟨fun y hy => ?_, ih⟩
    rcases List.mem_cons.mp hy with rfl | hy
    · exact h.1
    · exact lt_trans_cps h.1 ((List.pairwise_cons.mp ih).1 y hy)
theorem sorted_pw {xs : List Str} (h : sortedS xs = true) : xs.Pairwise fun a b => ¬ b.cps.toList < a.cps.toList := by
  cases xs with
  | nil => exact List.Pairwise.nil
  | cons x xs => exact rising_pw xs x h
theorem sorted_eq {xs ys : List Str} (hp : xs.Perm ys) (h1 : sortedS xs = true) (h2 : sortedS ys = true) : xs = ys :=
  hp.eq_of_pairwise (le := fun a b => ¬ b.cps.toList < a.cps.toList) (fun a b _ _ h1 h2 => cps_inj (by
    exact List.le_antisymm (List.not_lt.mp h1) (List.not_lt.mp h2))) (sorted_pw h1) (sorted_pw h2)
theorem perm_of_mem {xs ys : List Str} (h1 : xs.Nodup) (h2 : ys.Nodup) (h : ∀ x, x ∈ xs ↔ x ∈ ys) : xs.Perm ys := (List.perm_ext_iff_of_nodup h1 h2).mpr fun a => h a
/-- the same members, both ascending, none twice -/
theorem ascending_eq {xs ys : List Str} (h1 : xs.Nodup) (h2 : ys.Nodup) (h : ∀ x, x ∈ xs ↔ x ∈ ys) (s1 : sortedS xs = true) (s2 : sortedS ys = true) : xs = ys := sorted_eq (perm_of_mem h1 h2 h) s1 s2
theorem prod_perm {xs ys : List Nat} (h : xs.Perm ys) : xs.prod = ys.prod := h.prod_nat
theorem map_range {α β : Type} (xs : List α) (d : α) (f : α → β) : (List.range xs.length).map (fun i => f (xs.getD i d)) = xs.map f := by
  refine List.ext_getElem? fun i => ?_
  rw [List.getElem?_map, List.getElem?_map]
  by_cases h : i < xs.length
  · rw [List.getElem?_range h, List.getElem?_eq_getElem h]
    show some (f (xs.getD i d)) = some (f xs[i])
    rw [getD_of (List.getElem?_eq_getElem h)]
  · rw [List.getElem?_eq_none (by rw [List.length_range]; omega), List.getElem?_eq_none (by omega)]
    rfl
theorem filter_true {α : Type} (l : List α) : l.filter (fun _ => true) = l := List.filter_eq_self.mpr fun _ _ => rfl
def rSortDIS : List V → Hp → VK → Prop := fun xs H Q => rSortDI xs H Q ∨ rSortDS xs H Q
theorem call_sortDIS {X : Cx} (hc : X.calm = true) : CallR X (.builtin "sorted") rSortDIS := (call_sortedDI hc).or (call_sortDS1 hc)
theorem put_int {kvs : List (Key × V)} {ks : List Int} {x : Int} {v : V} (h : kvs.map (·.1) = ks.map Sum.inl) : ∃ js : List Int, (putK kvs (Sum.inl x) v).map (·.1) = js.map Sum.inl ∧ js.length ≤ ks.length + 1 ∧ ∀ y ∈ js, y ∈ ks ∨ y = x := by
  unfold putK
  by_cases hm : (kvs.any fun kv => decide (kv.1 = (Sum.inl x : Key))) = true
  · refine ⟨ks, ?_, by omega, fun y hy => .inl hy⟩
    rw [if_pos hm, List.map_map, ← h]
    refine List.map_congr_left fun kv _ => ?_
    show (if kv.1 = Sum.inl x then (kv.1, v) else kv).1 = kv.1
    split <;> rfl
  · refine ⟨ks ++ [x], ?_, by simp, fun y hy => ?_⟩
    · rw [if_neg hm, List.map_append, List.map_append, h]
      rfl
    · rcases List.mem_append.mp hy with z | z
      · exact .inl z
      · exact .inr (List.mem_singleton.mp z)
section
variable {σ : L2.St} {H1 : Hp} {Q : VK} {K : PySem.W.Frag} {g : TG} {tt : TT} {tk tv : TE} {vs : List Nat}
/-- a dict over a list -/
def kDcL (K : PySem.W.Frag) (g : TG) (tt : TT) (tk tv : TE) (vs : List Nat) (σ : L2.St) (Q : VK) (x : V) (H1 : Hp) : Prop := ∃ a, x = .ref a ∧ (∃ xs, SqL K H1 a xs) ∧ kDc (Itl K a) g tt tk tv vs σ Q H1
theorem w_dcL {tl : TE} (h : tl σ H1 (kDcL K g tt tk tv vs σ Q)) : tDc (iList K tl) g tt tk tv vs σ H1 Q := h
theorem w_inT {x : V} {p : Addr} {xs : List V} {H : Hp} (h : H p = some (.tup xs)) (hx : flatV x = true) (ha : xs.all flatV = true) (q : Q (.bl (inV x xs)) H) : rIn K false x (.ref p) H Q := ⟨p, xs, rfl, .inr (SqT.of h), hx, ha, q⟩
theorem w_inL {x : V} {p : Addr} {xs : List V} {H : Hp} (h : H p = some (.lst xs)) (hx : flatV x = true) (ha : xs.all flatV = true) (q : Q (.bl (inV x xs)) H) : rIn K false x (.ref p) H Q := ⟨p, xs, rfl, .inl (SqL.of h), hx, ha, q⟩
theorem w_lc2' {tl tc : TE} {i j : Nat} {vs vs1 : List Nat} {H : Hp} (h : tl σ H (kLc2 K i j tc vs vs1 σ Q)) : tLc2 (iTup K tl) (gName i) tYes (iList K tc) (gName j) tYes (tVar j) vs vs1 σ H Q := h
end
/-- a call without arguments -/
theorem pe_cal0 {X : Cx} {x : Str} {k : Nat} {ps : List Str} {sp : Sp} {p pos : Pos} (C : Cal X.prog X.w X.K X.mg X.base x k ps sp) (hr : Room k X.A) (hg : Gl X x) (hdb : (x == ("__debug__" : Str)) = false := by decide) : PE X (.Call (.Name x p) [] [] pos) (tCall sp [] E0 tNil) := by
  refine ⟨fun pins s σ H Q I h => ?_⟩
  obtain ⟨f, fd, F, hk, hb, hm⟩ := C.ex
  exact (pe_call0 F hr hg hm hk hb .nil pass0 hdb).run pins s σ H Q I h
end AW
/-! type(x) in (T, U) -/
namespace AW
open PySem PySem.Spec PyProof.Rows L2 RZ
def MetaT (T : String) : Prop := ∀ s : Shared, s.TypeIs (.type T) "type"
theorem metaT_of {T : String} (h : T ∈ ["NoneType", "bool", "int", "str", "tuple", "list"]) : MetaT T := by
  simp only [List.mem_cons, List.not_mem_nil, or_false] at h
  rcases h with rfl | rfl | rfl | rfl | rfl | rfl
  · exact TypeEq.meta_NoneType
  · exact TypeEq.meta_bool
  · exact TypeEq.meta_int
  · exact TypeEq.meta_str
  · exact TypeEq.meta_tuple
  · exact TypeEq.meta_list
theorem eqAt_ty {A : Around} {s : Shared} {T U : String} (hT : MetaT T) (hU : MetaT U) : SeqAt.EqAt A s (.type T) (.type U) (decide (T = U)) := fun prog w E Q h => by
  unfold eqBool
  refine wpAny_holding ?_
  by_cases e : T = U
  · subst e
    rw [if_pos (by simp)]
    rw [decide_eq_true rfl] at h
    exact wpAny_bind (wpAny_rule (wpAny_pure h))
  · have hne : (Value.type T == Value.type U) = false := beq_eq_false_iff_ne.mpr fun z => e (Value.type.inj z)
    rw [if_neg (by rw [hne]; exact Bool.false_ne_true)]
    rw [decide_eq_false e] at h
    exact wpAny_bind (TypeEq.eq_type_other hT hU hne (wpAny_truthy_bool h))
theorem vals_ty : ∀ {Ts : List String} {us : List Value}, Vals (Ts.map V.ty) us → us = Ts.map Value.type
  | [], _, r => by cases r; rfl
  | T :: Ts, _, r => by
    cases r with
    | cons h t =>
      rw [vals_ty t]
      cases h
      rfl
def rInTy (K : PySem.W.Frag) : R2 := fun x y H Q => ∃ (p : Addr) (T : String) (Ts : List String), x = .ty T ∧ y = .ref p ∧ H p = some (.tup (Ts.map V.ty)) ∧ MetaT T ∧ (∀ U ∈ Ts, MetaT U) ∧ Q (.bl (decide (T ∈ Ts))) H
theorem op_inTy {X : Cx} : OpR X (compareOp .In) (rInTy X.K) := by
  intro pins s σ H x y v u Q I rx ry h
  obtain ⟨p, T, Ts, rfl, rfl, hq, hT, hTs, q⟩ := h
  cases (show v = Value.type T from rx)
  cases ry
  obtain ⟨its, r, pl, hz⟩ := I.tuple (SqT.of (K := X.K) hq)
  have e := vals_ty r
  subst e
  refine SeqAt.in_tupleAt (fun u => u == Value.type T) pl (fun w hw => ?_) ⟨.bl _, H, I, rfl, ?_⟩
  · obtain ⟨U, hU, rfl⟩ := List.mem_map.mp (by simpa using hw)
    have := eqAt_ty (A := X.A.in1) (s := s) (hTs U hU) hT
    rwa [show decide (U = T) = (Value.type U == Value.type T) by rw [Bool.eq_iff_iff]; simp] at this
  · rw [show ((Ts.map Value.type).toArray.any fun u => u == Value.type T) = decide (T ∈ Ts) by rw [Bool.eq_iff_iff]; simp]
    exact q
end AW
namespace AW
open PySem PySem.Spec PyProof.Rows L2 RZ
local macro_rules | `(tactic| walk_at "aw1") => `(tactic| first
  | (with_reducible refine w_seq ?_) | (with_reducible refine w_asg ?_) | (with_reducible refine w_gname ?_) | (with_reducible refine w_op ?_) | (with_reducible refine w_un ?_)
  | ((with_reducible refine' w_var ?h ?_); (case h => rfl)) | (with_reducible refine w_c ?_)
  | (with_reducible refine w_I0 ?_) | (with_reducible refine w_U ?_) | (with_reducible refine w_cb ?_) | (with_reducible refine w_nil ?_) | (with_reducible refine w_cons ?_) | (with_reducible refine w_call ?_)
  | (with_reducible refine w_test ?_) | (with_reducible refine w_B ?_) | (with_reducible refine w_bl ?_) | (with_reducible refine w_not ?_) | (with_reducible refine w_yes ?_) | (with_reducible refine iteT ?_) | (with_reducible refine iteF ?_) | (with_reducible refine w_and ?_) | (with_reducible refine w_or ?_)
  | (with_reducible refine w_andV ?_) | (with_reducible refine w_orV ?_) | (with_reducible refine w_notV ?_) | (with_reducible refine w_if ?_)
  | (with_reducible refine w_int1 ?_) | (with_reducible refine w_int1b ?_) | (with_reducible refine w_abs ?_) | (with_reducible refine w_max2 ?_) | (with_reducible refine w_min2 ?_)
  | ((with_reducible refine w_eq ?h ?_); (case h => rfl)) | ((with_reducible refine w_ne ?h ?_); (case h => rfl)) | (with_reducible refine w_isN ?_) | (with_reducible refine w_isB ?_) | (with_reducible refine w_chain ?_)
  | (with_reducible refine w_ret ?_) | (with_reducible refine w_drop ?_) | (with_reducible refine w_ifS ?_) | (with_reducible refine w_gsub ?_) | (with_reducible refine w_augS ?_) | (with_reducible refine w_ipI ?_) | (with_reducible refine w_next ?_)
  | (with_reducible refine w_forR ?_) | (with_reducible refine w_forR2 ?_) | (with_reducible refine w_forL ?_) | (with_reducible refine w_forT ?_) | (with_reducible refine w_lcR ?_) | (with_reducible refine w_lcL ?_) | (with_reducible refine w_lcT ?_) | (with_reducible refine w_sl ?_) | (with_reducible refine w_part ?_) | (with_reducible refine w_noPart ?_) | (with_reducible refine w_in ?_)
  | (with_reducible refine w_gcons ?_) | (with_reducible refine w_gnil ?_) | (with_reducible refine w_lc3 ?_) | (with_reducible refine w_dcZ ?_) | (with_reducible refine w_dcT ?_) | (with_reducible refine w_dg ?_) | (with_reducible refine w_callK ?_) | (with_reducible refine w_dput ?_) | (with_reducible refine w_tup1 ?_)
  | (with_reducible refine w_tup ?_) | (with_reducible refine w_lst ?_)
  | ((with_reducible refine w_I ?h ?_); (case h => first | (exact Or.inr ⟨by decide, by decide⟩) | (exact Or.inl ⟨by decide, by decide⟩) | (show (0 : Int) < _; decide) | (exact ⟨by decide, by decide, by decide⟩) | assumption)))
local macro_rules | `(tactic| walk_at "aw") => `(tactic| repeat (walk_at "aw1"))
/-! ### the draws: what each promises -/
def sp__law_bag (K : PySem.W.Frag) : Sp := fun vs H Q _ => ∃ (a : Addr) (ns : List Int), vs = [.ref a] ∧ SqL K H a (ns.map V.int) ∧ ns.length ≤ 63 ∧ ∀ st cs H', StOk st cs H' → Adv [] H H' → H st = none → Q (.ref st) H'
def sp__law_draw (_ : PySem.W.Frag) : Sp := fun vs H Q _ => ∃ (st : Addr) (lim : Int), vs = [.ref st, .int lim] ∧ ∃ cs, StOk st cs H ∧ 0 < lim ∧ lim < 1073741824 ∧ ∀ n H', 0 ≤ n → n < lim → Go st cs H H' → Q (.int n) H'
def sp__law_pick (K : PySem.W.Frag) : Sp := fun vs H Q _ => ∃ (st p : Addr), vs = [.ref st, .ref p] ∧ ∃ cs xs, StOk st cs H ∧ ((SqL K H p xs ∧ Off p st cs) ∨ H p = some (.tup xs)) ∧ 0 < xs.length ∧ xs.length < 1000000 ∧ ∀ (i : Nat) v H', xs[i]? = some v → Go st cs H H' → Q v H'
/-- what is drawn from: a list, a tuple, a text -/
def Src (K : PySem.W.Frag) (H : Hp) (v : V) (xs : List V) : Prop := (∃ p, v = .ref p ∧ (SqL K H p xs ∨ SqT K H p xs)) ∨ ∃ x : Str, v = .str x ∧ x.cps.size ≤ 1000 ∧ xs = (signsOf x).map V.str
def sp__law_some (K : PySem.W.Frag) : Sp := fun vs H Q _ => ∃ (st : Addr) (t : V) (m : Nat), vs = [.ref st, t, .int (m : Nat)] ∧ ∃ cs xs, StOk st cs H ∧ Src K H t xs ∧ m ≤ xs.length ∧ (xs.length ≤ 1000 ∨ m ≤ 1000 ∧ xs.length ≤ 20000000) ∧ ∀ q made left H', (made ++ left).Perm xs → made.length = m → H q = none → Go st cs H H' → H' q = some (.lst made) → Q (.ref q) H'
def t__law_bag (K : PySem.W.Frag) : TS := (tSeq (tAsg (tOp rCat (tLc (iList K (tVar 0)) (gName 2) tYes (tCB rAbs (tCons (tCB rInt1 (tCons (tVar 2) tNil)) tNil)) [2]) (tLst (tCons (tC (.int 7)) tNil))) (gName 1))
  (tSeq (tAsg (tLst tNil) (gName 3))
  (tSeq (tIfS (tTest (tOp rEq (tOp rModI (tCB rInt1 (tCons (tOp (rIxL K) (tVar 1) (tC (.int 0))) tNil)) (tC (.int 2))) (tC (.int 0)))) (tSeq (tAsg (tLc (iList K (tVar 1)) (gName 2) (tTest (tOp rGeI (tVar 2) (tOp rPowI (tC (.int 10)) (tC (.int 18))))) (tOp rDivI (tVar 2) (tC (.int 2))) [2]) (gName 3))
  (tDrop (tBM0 K "list" rReverse (tVar 3)))) tNext)
  (tRet (tLst (tCons (tC (.int 0)) (tCons (tC (.int 0)) (tCons (tVar 3) (tCons (tLc (iList K (tVar 1)) (gName 2) tYes (tOp rModI (tCB rInt1 (tCons (tVar 2) tNil)) (tC (.int 2147483647))) [2]) tNil)))))))))
def t__law_draw (K : PySem.W.Frag) : TS := (tSeq (tAsg (tOp rAddI (tOp (rIxL K) (tVar 0) (tC (.int 1))) (tC (.int 1))) (gSub (tVar 0) (tC (.int 1)) rSetL))
  (tSeq (tIfS (tAnd (tTest (tOp rEq (tOp (rIxL K) (tVar 0) (tC (.int 0))) (tC (.int 0)))) (tTest (tOp rGtI (tCB (rLen1 K) (tCons (tOp (rIxL K) (tVar 0) (tC (.int 2))) tNil)) (tC (.int 0))))) (tAsg (tBM0 K "list" rPop (tOp (rIxL K) (tVar 0) (tC (.int 2)))) (gSub (tVar 0) (tC (.int 0)) rSetL)) tNext)
  (tSeq (tIfS (tTest (tOp rGtI (tOp (rIxL K) (tVar 0) (tC (.int 0))) (tC (.int 0)))) (tSeq (tAsg (tOp rModI (tCB rInt1 (tCons (tOp (rIxL K) (tVar 0) (tC (.int 0))) tNil)) (tVar 1)) (gName 2))
  (tSeq (tAsg (tOp rDivI (tOp (rIxL K) (tVar 0) (tC (.int 0))) (tVar 1)) (gSub (tVar 0) (tC (.int 0)) rSetL))
  (tRet (tVar 2)))) tNext)
  (tSeq (tAsg (tOp (rIxL K) (tOp (rIxL K) (tVar 0) (tC (.int 3))) (tOp rModI (tCB rInt1 (tCons (tOp (rIxL K) (tVar 0) (tC (.int 1))) tNil)) (tCB (rLen1 K) (tCons (tOp (rIxL K) (tVar 0) (tC (.int 3))) tNil)))) (gName 3))
  (tSeq (tAsg (tOp rModI (tCB rInt1 (tCons (tOp rAddI (tOp rAddI (tOp rMulI (tVar 3) (tC (.int 48271))) (tOp rMulI (tOp (rIxL K) (tVar 0) (tC (.int 1))) (tC (.int 69621)))) (tC (.int 1))) tNil)) (tC (.int 2147483647))) (gName 4))
  (tRet (tOp rModI (tOp rDivI (tOp rModI (tCB rInt1 (tCons (tOp rAddI (tOp rAddI (tOp rMulI (tVar 4) (tVar 4)) (tOp rMulI (tVar 4) (tC (.int 16807)))) (tOp rMulI (tOp (rIxL K) (tVar 0) (tC (.int 1))) (tC (.int 40014)))) tNil)) (tC (.int 2147483629))) (tC (.int 32))) (tVar 1))))))))
def t__law_pick (K : PySem.W.Frag) : TS := (tRet (tOp (rIxA K) (tVar 1) (tCall (sp__law_draw K) [] E0 (tCons (tVar 0) (tCons (tCB (rLen1 K) (tCons (tVar 1) tNil)) tNil)))))
def t__law_some (K : PySem.W.Frag) : TS := (tSeq (tAsg (tCB (rListOfA K) (tCons (tVar 1) tNil)) (gName 3))
  (tSeq (tAsg (tLst tNil) (gName 4))
  (tSeq (tFor (iRng1 (tCons (tVar 2) tNil)) (gName 5)
  (tDrop (tBM K "list" rAppend (tVar 4) (tCons (tBM K "list" rPopAt (tVar 3) (tCons (tCall (sp__law_draw K) [] E0 (tCons (tVar 0) (tCons (tCB (rLen1 K) (tCons (tVar 3) tNil)) tNil))) tNil)) tNil))))
  (tRet (tVar 4)))))
theorem len__law_bag {K : PySem.W.Frag} : ∀ (vs : List V) (H : Hp) (Q : VK) (E : XK), sp__law_bag K vs H Q E → vs.length = 1 := fun vs H Q E h => by
  obtain ⟨_, _, rfl, _⟩ := h
  rfl
theorem pure__law_bag {K : PySem.W.Frag} (vs : List V) (H : Hp) (Q : VK) (E : XK) (h : sp__law_bag K vs H Q E) : t__law_bag K { nx := fun _ H' => Q .non H', rt := Q } (start ["script", "cells", "cell", "great"] vs) H := by
  obtain ⟨a, ns, rfl, hs, hl, q⟩ := h
  show t__law_bag K _ [some (.ref a), none, none, none] H
  unfold t__law_bag
  walk_at "aw"
  refine ⟨a, rfl, ⟨_, hs⟩, kLc_pure walk_list (by rw [List.length_map]; omega) (fun H' a' => a'.sql (fun z => nomatch z) hs) (fun _ => true) (fun i => .int (if ns.getD i 0 < 0 then -(ns.getD i 0) else ns.getD i 0)) (fun i x H2 H' Kt Kf hi g1 y kt kf => ?_) fun p H2 np a2 e2 => ?_⟩
  · obtain ⟨rfl, e⟩ := y
    rw [List.getElem?_map] at e
    obtain ⟨n, hn, rfl⟩ := Option.map_eq_some_iff.mp e
    walk_at "aw"
    refine ⟨rfl, ?_⟩
    walk_at "aw"
    have := kt rfl _ (.refl _ _)
    rw [getD_of hn] at this
    exact this
  have he : ((List.range (ns.map V.int).length).filter fun _ => true).map (fun i => V.int (if ns.getD i 0 < 0 then -(ns.getD i 0) else ns.getD i 0)) = ((List.range ns.length).map fun i => if ns.getD i 0 < 0 then -(ns.getD i 0) else ns.getD i 0).map V.int := by
    rw [List.length_map, List.filter_eq_self.mpr (by simp), List.map_map]
    rfl
  rw [he] at e2
  generalize hms : (List.range ns.length).map (fun i => if ns.getD i 0 < 0 then -(ns.getD i 0) else ns.getD i 0) = ms at e2
  have hml : ms.length = ns.length := by rw [← hms, List.length_map, List.length_range]
  have hm0 : ∀ x ∈ ms, 0 ≤ x := by
    intro x hx
    rw [← hms] at hx
    obtain ⟨i, _, rfl⟩ := List.mem_map.mp hx
    split <;> omega
  clear hms he
  walk_at "aw"
  refine w_lstD (by simp) fun c H3 nc a3 e3 => ?_
  walk_at "aw"
  refine w_cat (a3.keep _ _ (fun z => nomatch z) e2) e3 (by simp; omega) fun g H4 ng a4 e4 => ?_
  have e4' : H4 g = some (.lst ((ms ++ [7]).map V.int)) := by rw [e4, List.map_append]; rfl
  clear e4
  generalize hcs : ms ++ [7] = zs at e4'
  have hzl : zs.length = ns.length + 1 := by rw [← hcs, List.length_append, hml]; rfl
  have hz0 : ∀ x ∈ zs, 0 ≤ x := by
    intro x hx
    rw [← hcs] at hx
    rcases List.mem_append.mp hx with hx | hx
    · exact hm0 x hx
    · rw [List.mem_singleton.mp hx]; decide
  have A4 : Adv [] H H4 := (a2.trans a3).trans a4
  clear hcs hm0 hml e2 e3
  walk_at "aw"
  refine w_lstD (by simp) fun r H5 nr a5 e5 => ?_
  walk_at "aw"
  have e45 : H5 g = some (.lst (zs.map V.int)) := a5.keep _ _ (fun z => nomatch z) e4'
  have fin : ∀ (H6 : Hp) (r : Addr) (y : Option V) (gs : List Int), Adv [] H H6 → H6 g = some (.lst (zs.map V.int)) → H6 r = some (.lst (gs.map V.int)) → gs.length ≤ 100 → r ≠ g → (tRet (tLst (tCons (tC (.int 0)) (tCons (tC (.int 0)) (tCons (tVar 3) (tCons (tLc (iList K (tVar 1)) (gName 2) tYes (tOp rModI (tCB rInt1 (tCons (tVar 2) tNil)) (tC (.int 2147483647))) [2]) tNil)))))) { nx := fun _ H' => Q .non H', rt := Q } [some (.ref a), some (.ref g), y, some (.ref r)] H6 := by
    intro H6 r y gs a6 eg er hgs hrg
    walk_at "aw"
    refine ⟨g, rfl, ⟨_, SqL.of eg⟩, kLc_pure walk_list (by rw [List.length_map]; omega) (fun H' a' => SqL.of (a'.keep _ _ (fun z => nomatch z) eg)) (fun _ => true) (fun i => .int (zs.getD i 0 % 2147483647)) (fun i x H2 H' Kt Kf hi g1 y kt kf => ?_) fun p H7 np a7 e7 => ?_⟩
    · obtain ⟨rfl, e⟩ := y
      rw [List.getElem?_map] at e
      obtain ⟨n, hn, rfl⟩ := Option.map_eq_some_iff.mp e
      walk_at "aw"
      refine ⟨rfl, ?_⟩
      walk_at "aw"
      have := kt rfl _ (.refl _ _)
      rw [getD_of hn] at this
      exact this
    have he : ((List.range (zs.map V.int).length).filter fun _ => true).map (fun i => V.int (zs.getD i 0 % 2147483647)) = ((List.range zs.length).map fun i => zs.getD i 0 % 2147483647).map V.int := by
      rw [List.length_map, List.filter_eq_self.mpr (by simp), List.map_map]
      rfl
    rw [he] at e7
    have er7 := a7.keep _ _ (fun z => nomatch z) er
    walk_at "aw"
    refine w_lstD (by simp) fun st H8 n8 a8 e8 => ?_
    refine q st (r, p) H8 ⟨0, 0, gs, _, e8, a8.keep _ _ (fun z => nomatch z) er7, a8.keep _ _ (fun z => nomatch z) e7, by rw [List.length_map, List.length_range]; omega, by rw [List.length_map, List.length_range]; omega, hgs, ne_of_none er7 n8, ne_of_none e7 n8, (ne_of_none er np).symm, fun x hx => ?_⟩ ((a6.trans a7).trans a8) ?_
    · obtain ⟨i, _, rfl⟩ := List.mem_map.mp hx
      omega
    · exact a6.free (fun z => nomatch z) (a7.free (fun z => nomatch z) n8)
  have hrg : r ≠ g := (ne_of_none e4' nr).symm
  obtain ⟨c0, zt, hzs⟩ : ∃ c0 zt, zs = c0 :: zt := by
    cases zs with
    | nil => simp at hzl
    | cons c0 zt => exact ⟨c0, zt, rfl⟩
  refine w_ixL (SqL.of e45) (v := .int c0) (at_nat (n := 0) (by decide) (by rw [hzs]; rfl)) ?_
  walk_at "aw"
  refine w_iteB (fun _ => ?_) fun _ => ?_
  · walk_at "aw"
    refine ⟨g, rfl, ⟨_, SqL.of e45⟩, kLc_pure walk_list (by rw [List.length_map]; omega) (fun H' a' => SqL.of (a'.keep _ _ (fun z => nomatch z) e45)) (fun i => decide ((10 : Int) ^ (18 : Int).toNat ≤ zs.getD i 0)) (fun i => .int (zs.getD i 0 / 2)) (fun i x H2 H' Kt Kf hi g1 y kt kf => ?_) fun p H7 np a7 e7 => ?_⟩
    · obtain ⟨rfl, e⟩ := y
      rw [List.getElem?_map] at e
      obtain ⟨n, hn, rfl⟩ := Option.map_eq_some_iff.mp e
      rw [getD_of hn] at kt kf
      walk_at "aw"
      refine ⟨rfl, ?_⟩
      walk_at "aw"
      refine w_iteB (fun hc => ?_) fun hc => ?_
      · walk_at "aw"
        exact w_I ⟨by decide, by decide⟩ (kt (decide_eq_true hc) _ (.refl _ _))
      · exact kf (decide_eq_false hc) _ (.refl _ _)
    walk_at "aw"
    refine ⟨.ref p, rfl, .inl ⟨rfl, _, SqL.of e7⟩, ?_⟩
    walk_at "aw"
    refine ⟨p, _, rfl, rfl, e7, ?_⟩
    show (tRet (tLst (tCons (tC (.int 0)) (tCons (tC (.int 0)) (tCons (tVar 3) (tCons (tLc (iList K (tVar 1)) (gName 2) tYes (tOp rModI (tCB rInt1 (tCons (tVar 2) tNil)) (tC (.int 2147483647))) [2]) tNil)))))) { nx := fun _ H' => Q .non H', rt := Q } [some (.ref a), some (.ref g), _, some (.ref p)] _
    have npg : p ≠ g := (ne_of_none e45 np).symm
    have he : ((((List.range (zs.map V.int).length).filter fun i => decide ((10 : Int) ^ (18 : Int).toNat ≤ zs.getD i 0)).map fun i => V.int (zs.getD i 0 / 2)).reverse) = ((((List.range zs.length).filter fun i => decide ((10 : Int) ^ (18 : Int).toNat ≤ zs.getD i 0)).map fun i => zs.getD i 0 / 2).reverse).map V.int := by
      rw [List.length_map, List.map_reverse, List.map_map]
      rfl
    rw [he]
    refine fin _ p _ _ ?_ ?_ upd_same ?_ npg
    · exact (A4.trans a5).trans (Adv.mut a7 np e7 (fun _ z => by cases z))
    · rw [upd_ne npg.symm]
      exact a7.keep _ _ (fun z => nomatch z) e45
    · rw [List.length_reverse, List.length_map]
      refine Nat.le_trans (List.length_filter_le _ _) ?_
      rw [List.length_range]
      omega
  · walk_at "aw1"
    exact fin H5 r _ [] (A4.trans a5) e45 e5 (by simp) hrg
theorem len__law_draw {K : PySem.W.Frag} : ∀ (vs : List V) (H : Hp) (Q : VK) (E : XK), sp__law_draw K vs H Q E → vs.length = 2 := fun vs H Q E h => by
  obtain ⟨_, _, rfl, _⟩ := h
  rfl
theorem last_some {xs : List Int} (h : 0 < xs.length) : (xs.map V.int)[(xs.map V.int).length - 1]? = some (.int (xs.getD (xs.length - 1) 0)) := by
  rw [List.length_map, List.getElem?_map, List.getElem?_eq_getElem (by omega), List.getD_eq_getElem?_getD, List.getElem?_eq_getElem (by omega)]
  rfl
theorem pure__law_draw {K : PySem.W.Frag} (vs : List V) (H : Hp) (Q : VK) (E : XK) (h : sp__law_draw K vs H Q E) : t__law_draw K { nx := fun _ H' => Q .non H', rt := Q } (start ["bag", "many", "digit", "cell", "mixed"] vs) H := by
  obtain ⟨st, lim, rfl, ⟨gr, cc⟩, ok, hl, hl2, q⟩ := h
  show t__law_draw K _ [some (.ref st), some (.int lim), none, none, none] H
  have ok0 := ok
  obtain ⟨r, n, gs, ns, hst, hgr, hcc, h0, hn1, hg1, ne1, ne2, ne3, hns⟩ := ok
  dsimp only at hst hgr hcc ne1 ne2 ne3
  unfold t__law_draw
  walk_at "aw"
  refine w_ixL (SqL.of hst) rfl ?_
  walk_at "aw"
  refine w_setL hst rfl ?_
  generalize hH1 : upd H st _ = H1
  have e1 : H1 st = some (.lst [.int r, .int (n + 1), .ref gr, .ref cc]) := by rw [← hH1, upd_same]; rfl
  have g1 : Go st (gr, cc) H H1 := by
    rw [← hH1]
    exact ⟨(Adv.lst hst).mono (fun b hb => by rw [List.mem_singleton.mp hb]; exact List.mem_cons_self ..), ⟨r, n + 1, gs, ns, upd_same, by rw [upd_ne ne1]; exact hgr, by rw [upd_ne ne2]; exact hcc, h0, hn1, hg1, ne1, ne2, ne3, hns⟩⟩
  have gr1 : H1 gr = some (.lst (gs.map V.int)) := by rw [← hH1, upd_ne ne1]; exact hgr
  have cc1 : H1 cc = some (.lst (ns.map V.int)) := by rw [← hH1, upd_ne ne2]; exact hcc
  clear hH1
  generalize n + 1 = n at e1
  have rest : ∀ (H2 : Hp) (r : Int) (gs : List Int), H2 st = some (.lst [.int r, .int n, .ref gr, .ref cc]) → H2 gr = some (.lst (gs.map V.int)) → H2 cc = some (.lst (ns.map V.int)) → gs.length ≤ 100 → Go st (gr, cc) H H2 →
      (tSeq (tIfS (tTest (tOp rGtI (tOp (rIxL K) (tVar 0) (tC (.int 0))) (tC (.int 0)))) (tSeq (tAsg (tOp rModI (tCB rInt1 (tCons (tOp (rIxL K) (tVar 0) (tC (.int 0))) tNil)) (tVar 1)) (gName 2))
  (tSeq (tAsg (tOp rDivI (tOp (rIxL K) (tVar 0) (tC (.int 0))) (tVar 1)) (gSub (tVar 0) (tC (.int 0)) rSetL))
  (tRet (tVar 2)))) tNext)
  (tSeq (tAsg (tOp (rIxL K) (tOp (rIxL K) (tVar 0) (tC (.int 3))) (tOp rModI (tCB rInt1 (tCons (tOp (rIxL K) (tVar 0) (tC (.int 1))) tNil)) (tCB (rLen1 K) (tCons (tOp (rIxL K) (tVar 0) (tC (.int 3))) tNil)))) (gName 3))
  (tSeq (tAsg (tOp rModI (tCB rInt1 (tCons (tOp rAddI (tOp rAddI (tOp rMulI (tVar 3) (tC (.int 48271))) (tOp rMulI (tOp (rIxL K) (tVar 0) (tC (.int 1))) (tC (.int 69621)))) (tC (.int 1))) tNil)) (tC (.int 2147483647))) (gName 4))
  (tRet (tOp rModI (tOp rDivI (tOp rModI (tCB rInt1 (tCons (tOp rAddI (tOp rAddI (tOp rMulI (tVar 4) (tVar 4)) (tOp rMulI (tVar 4) (tC (.int 16807)))) (tOp rMulI (tOp (rIxL K) (tVar 0) (tC (.int 1))) (tC (.int 40014)))) tNil)) (tC (.int 2147483629))) (tC (.int 32))) (tVar 1)))))) { nx := fun _ H' => Q .non H', rt := Q } [some (.ref st), some (.int lim), none, none, none] H2 := by
    intro H2 r gs e2 gr2 cc2 hg2 g2
    walk_at "aw"
    refine w_ixL (SqL.of e2) rfl ?_
    walk_at "aw"
    refine w_iteB (fun _ => ?_) fun _ => ?_
    · walk_at "aw"
      refine w_ixL (SqL.of e2) rfl ?_
      walk_at "aw"
      refine w_ixL (SqL.of e2) rfl ?_
      walk_at "aw"
      refine w_I ⟨hl, hl2⟩ ?_
      walk_at "aw"
      refine w_setL e2 rfl ?_
      walk_at "aw"
      refine q _ _ (Int.emod_nonneg _ (by omega)) (Int.emod_lt_of_pos _ hl) (g2.trans ?_)
      exact ⟨(Adv.lst e2).mono (fun b hb => by rw [List.mem_singleton.mp hb]; exact List.mem_cons_self ..), ⟨_, n, gs, ns, upd_same, by rw [upd_ne ne1]; exact gr2, by rw [upd_ne ne2]; exact cc2, h0, hn1, hg2, ne1, ne2, ne3, hns⟩⟩
    · walk_at "aw"
      refine w_ixL (SqL.of e2) rfl ?_
      walk_at "aw"
      refine w_ixL (SqL.of e2) rfl ?_
      walk_at "aw"
      refine w_ixL (SqL.of e2) rfl ?_
      walk_at "aw"
      refine w_lenL (SqL.of cc2) ?_
      rw [List.length_map]
      refine w_I (show (0 : Int) < (ns.length : Nat) by omega) ?_
      have hj := Int.emod_nonneg n (b := (ns.length : Int)) (by omega)
      have hj2 := Int.emod_lt_of_pos n (b := (ns.length : Int)) (by omega)
      generalize n % (ns.length : Int) = j at hj hj2
      have hj3 : j.toNat < ns.length := by omega
      have hat : atI (ns.map V.int) j = some (.int (ns.getD j.toNat 0)) := by
        refine at_of (j := j.toNat) (by omega) ?_
        rw [List.getElem?_map, List.getElem?_eq_getElem hj3, List.getD_eq_getElem?_getD, List.getElem?_eq_getElem hj3]
        rfl
      have hc := hns (ns.getD j.toNat 0) (by rw [List.getD_eq_getElem?_getD, List.getElem?_eq_getElem hj3]; exact List.getElem_mem hj3)
      generalize ns.getD j.toNat 0 = cell at hat hc
      refine w_ixL (SqL.of cc2) hat ?_
      walk_at "aw"
      refine w_ixL (SqL.of e2) rfl ?_
      walk_at "aw"
      generalize hm : (cell * 48271 + n * 69621 + 1) % 2147483647 = mx
      have hm1 : 0 ≤ mx ∧ mx < 2147483647 := by omega
      refine w_I (.inl ⟨by omega, by omega⟩) ?_
      walk_at "aw"
      refine w_ixL (SqL.of e2) rfl ?_
      walk_at "aw"
      refine w_I ⟨by decide, by decide⟩ ?_
      walk_at "aw"
      exact q _ _ (Int.emod_nonneg _ (by omega)) (Int.emod_lt_of_pos _ hl) g2
  walk_at "aw"
  refine w_ixL (SqL.of e1) rfl ?_
  walk_at "aw"
  refine w_iteB (fun hz => ?_) fun hz => ?_
  · walk_at "aw"
    refine w_ixL (SqL.of e1) rfl ?_
    walk_at "aw"
    refine w_lenL (SqL.of gr1) ?_
    walk_at "aw"
    refine w_iteB (fun hlt => ?_) fun hlt => ?_
    · rw [List.length_map] at hlt
      walk_at "aw"
      refine ⟨.ref st, rfl, ?_⟩
      walk_at "aw"
      refine w_ixL (v := .ref gr) (SqL.of e1) rfl ?_
      refine ⟨.inl ⟨rfl, _, SqL.of gr1⟩, ?_⟩
      walk_at "aw"
      refine ⟨gr, _, _, rfl, rfl, gr1, last_some (by omega), ?_⟩
      walk_at "aw"
      have ed : (gs.map V.int).dropLast = gs.dropLast.map V.int := by rw [List.map_dropLast]
      rw [ed]
      have e2 : (upd H1 gr (.lst (gs.dropLast.map V.int))) st = some (.lst [.int r, .int n, .ref gr, .ref cc]) := by rw [upd_ne ne1.symm]; exact e1
      refine w_setL e2 rfl ?_
      have hg3 : gs.dropLast.length ≤ 100 := by rw [List.length_dropLast]; omega
      have gr3 : (upd (upd H1 gr (.lst (gs.dropLast.map V.int))) st (.lst [.int (gs.getD (gs.length - 1) 0), .int n, .ref gr, .ref cc])) gr = some (.lst (gs.dropLast.map V.int)) := by rw [upd_ne ne1, upd_same]
      have cc3 : (upd (upd H1 gr (.lst (gs.dropLast.map V.int))) st (.lst [.int (gs.getD (gs.length - 1) 0), .int n, .ref gr, .ref cc])) cc = some (.lst (ns.map V.int)) := by rw [upd_ne ne2, upd_ne ne3]; exact cc1
      refine rest _ _ gs.dropLast upd_same gr3 cc3 hg3 (g1.trans ⟨?_, ⟨_, n, gs.dropLast, ns, upd_same, gr3, cc3, h0, hn1, hg3, ne1, ne2, ne3, hns⟩⟩)
      exact ((Adv.lst gr1).mono (fun b hb => by rw [List.mem_singleton.mp hb]; exact List.mem_cons_of_mem _ (List.mem_cons_self ..))).trans ((Adv.lst e2).mono (fun b hb => by rw [List.mem_singleton.mp hb]; exact List.mem_cons_self ..))
    · walk_at "aw1"
      exact rest _ _ _ e1 gr1 cc1 hg1 g1
  · walk_at "aw1"
    exact rest _ _ _ e1 gr1 cc1 hg1 g1
theorem len__law_pick {K : PySem.W.Frag} : ∀ (vs : List V) (H : Hp) (Q : VK) (E : XK), sp__law_pick K vs H Q E → vs.length = 2 := fun vs H Q E h => by
  obtain ⟨_, _, rfl, _⟩ := h
  rfl
theorem pure__law_pick {K : PySem.W.Frag} (vs : List V) (H : Hp) (Q : VK) (E : XK) (h : sp__law_pick K vs H Q E) : t__law_pick K { nx := fun _ H' => Q .non H', rt := Q } (start ["bag", "some"] vs) H := by
  obtain ⟨st, p, rfl, cs, xs, ok, hp, h0, hl, q⟩ := h
  show t__law_pick K _ [some (.ref st), some (.ref p)] H
  unfold t__law_pick
  walk_at "aw"
  rcases hp with ⟨hp, np⟩ | hp
  · refine w_lenL hp ?_
    walk_at "aw"
    refine ⟨st, _, rfl, cs, ok, by omega, by omega, fun n H' h1 h2 g => ?_⟩
    obtain ⟨v, hv⟩ := get_some (xs := xs) (i := n.toNat) (by omega)
    exact .inl (w_ixL (g.sql np hp) (at_nat h1 hv) (q _ _ _ hv g))
  · refine w_lenT (SqT.of hp) ?_
    walk_at "aw"
    refine ⟨st, _, rfl, cs, ok, by omega, by omega, fun n H' h1 h2 g => ?_⟩
    obtain ⟨v, hv⟩ := get_some (xs := xs) (i := n.toNat) (by omega)
    exact .inr (w_ixT (SqT.of (g.tk _ _ hp)) (at_nat h1 hv) (q _ _ _ hv g))
theorem len__law_some {K : PySem.W.Frag} : ∀ (vs : List V) (H : Hp) (Q : VK) (E : XK), sp__law_some K vs H Q E → vs.length = 3 := fun vs H Q E h => by
  obtain ⟨_, _, _, rfl, _⟩ := h
  rfl
theorem ixN_at {n j : Nat} (hj : j < n) : ixN n (j : Int) = some j := by
  unfold ixN
  rw [if_pos (by omega), if_pos (by omega)]
  simp
theorem perm_erase {α : Type} {xs : List α} {k : Nat} {v : α} (h : xs[k]? = some v) : (v :: xs.eraseIdx k).Perm xs := by
  have hlt : k < xs.length := (List.getElem?_eq_some_iff.mp h).1
  have hd : xs = xs.take k ++ (v :: xs.drop (k + 1)) := by
    have e := List.take_append_drop k xs
    rw [List.drop_eq_getElem_cons hlt, (List.getElem?_eq_some_iff.mp h).2] at e
    exact e.symm
  rw [List.eraseIdx_eq_take_drop_succ]
  have hm := List.perm_middle (a := v) (l₁ := xs.take k) (l₂ := xs.drop (k + 1))
  rw [← hd] at hm
  exact hm.symm
theorem src_list {K : PySem.W.Frag} {H : Hp} {Q : VK} {t : V} {xs : List V} (h : Src K H t xs) (q : ∀ r H', H r = none → Adv [] H H' → H' r = some (.lst xs) → Q (.ref r) H') : rListOfA K [t] H Q := by
  rcases h with ⟨p, rfl, hp⟩ | ⟨x, rfl, hx, rfl⟩
  · exact w_listOfL hp q
  · exact w_listOfS (by omega) q
theorem pure__law_some {K : PySem.W.Frag} (vs : List V) (H : Hp) (Q : VK) (E : XK) (h : sp__law_some K vs H Q E) : t__law_some K { nx := fun _ H' => Q .non H', rt := Q } (start ["bag", "things", "many", "left", "made", "k"] vs) H := by
  obtain ⟨st, t, m, rfl, cs, xs, ok, hp, hm, hl, q⟩ := h
  show t__law_some K _ [some (.ref st), some t, some (.int (m : Nat)), none, none, none] H
  unfold t__law_some
  walk_at "aw"
  refine src_list hp fun l H1 nl a1 e1 => ?_
  walk_at "aw"
  refine w_lstD (by simp) fun f H2 nf a2 e2 => ?_
  have g2 : Go st cs H H2 := (Go.of ok a1).new a2
  have nf0 : H f = none := a1.free (fun z => nomatch z) nf
  have hlf : l ≠ f := ne_of_none e1 nf
  have nlst : Off l st cs := (ok.ne nl).1
  have nfst : Off f st cs := (ok.ne nf0).1
  walk_at "aw"
  refine kForR_i (n := m) (by omega) (fun i σ H' => ∃ y1 found left, σ = [some (.ref st), some t, some (.int (m : Nat)), some (.ref l), some (.ref f), y1] ∧ Go st cs H H' ∧ H' f = some (.lst found) ∧ H' l = some (.lst left) ∧ found.length = i ∧ (found ++ left).Perm xs)
    ⟨none, [], xs, rfl, g2, e2, a2.keep _ _ (fun z => nomatch z) e1, rfl, .refl _⟩ (fun i σ H' hi p => ?_) fun σ H' p => ?_
  · obtain ⟨y1, found, left, rfl, g, ef, el, hlen, hperm⟩ := p
    have hll : left.length = xs.length - i := by
      have := hperm.length_eq
      rw [List.length_append] at this
      omega
    walk_at "aw"
    refine w_app rfl ef ?_
    walk_at "aw"
    refine w_popAt rfl el ?_
    walk_at "aw"
    refine w_lenL (SqL.of el) ?_
    walk_at "aw"
    refine ⟨st, _, rfl, cs, g.ok, by omega, by omega, fun n H3 h1 h2 g3 => ?_⟩
    walk_at "aw"
    obtain ⟨v, hv⟩ := get_some (xs := left) (i := n.toNat) (by omega)
    have ef3 := g3.keep nfst ef
    have el3 := g3.keep nlst el
    have hsx : seqIndex? n left.length = some n.toNat := (ixN_seq (by
      have := ixN_at (n := left.length) (j := n.toNat) (by omega)
      rw [show ((n.toNat : Nat) : Int) = n by omega] at this
      exact this)).1
    refine ⟨l, left, n, n.toNat, v, rfl, rfl, el3, by omega, by omega, hsx, hv, ?_⟩
    walk_at "aw"
    have ef4 : (upd H3 l (.lst (left.eraseIdx n.toNat))) f = some (.lst found) := by rw [upd_ne hlf.symm]; exact ef3
    refine w_append ef4 (by omega) ?_
    have g4 := (g.trans g3).mutL (o := .lst (left.eraseIdx n.toNat)) ok nl el3
    walk_at "aw"
    refine ⟨_, _, _, rfl, g4.mutL ok nf0 ef4, upd_same, by rw [upd_ne hlf, upd_same], by rw [List.length_append, hlen]; rfl, ?_⟩
    refine List.Perm.trans ?_ hperm
    rw [List.append_assoc]
    exact List.Perm.append_left found (perm_erase hv)
  · obtain ⟨y1, found, left, rfl, g, ef, el, hlen, hperm⟩ := p
    walk_at "aw"
    exact q f found left H' hperm hlen nf0 g ef
end AW
namespace AW
open PySem PySem.Spec PyProof.Rows L2 RZ
open StX
local macro_rules | `(tactic| walk_at "aw1") => `(tactic| first
  | (with_reducible refine w_seq ?_) | (with_reducible refine w_asg ?_) | (with_reducible refine w_gname ?_) | (with_reducible refine w_op ?_) | (with_reducible refine w_un ?_)
  | ((with_reducible refine' w_var ?h ?_); (case h => rfl)) | (with_reducible refine w_c ?_)
  | (with_reducible refine w_I0 ?_) | (with_reducible refine w_U ?_) | (with_reducible refine w_cb ?_) | (with_reducible refine w_nil ?_) | (with_reducible refine w_cons ?_) | (with_reducible refine w_call ?_)
  | (with_reducible refine w_test ?_) | (with_reducible refine w_B ?_) | (with_reducible refine w_bl ?_) | (with_reducible refine w_not ?_) | (with_reducible refine w_yes ?_) | (with_reducible refine iteT ?_) | (with_reducible refine iteF ?_) | (with_reducible refine w_and ?_) | (with_reducible refine w_or ?_)
  | (with_reducible refine w_andV ?_) | (with_reducible refine w_orV ?_) | (with_reducible refine w_notV ?_) | (with_reducible refine w_if ?_)
  | (with_reducible refine w_int1 ?_) | (with_reducible refine w_int1b ?_) | (with_reducible refine w_abs ?_) | (with_reducible refine w_max2 ?_) | (with_reducible refine w_min2 ?_)
  | ((with_reducible refine w_eq ?h ?_); (case h => rfl)) | ((with_reducible refine w_ne ?h ?_); (case h => rfl)) | (with_reducible refine w_isN ?_) | (with_reducible refine w_isB ?_) | (with_reducible refine w_chain ?_)
  | (with_reducible refine w_ret ?_) | (with_reducible refine w_drop ?_) | (with_reducible refine w_ifS ?_) | (with_reducible refine w_gsub ?_) | (with_reducible refine w_augS ?_) | (with_reducible refine w_ipI ?_) | (with_reducible refine w_next ?_)
  | (with_reducible refine w_forR ?_) | (with_reducible refine w_forR2 ?_) | (with_reducible refine w_forL ?_) | (with_reducible refine w_forT ?_) | (with_reducible refine w_lcR ?_) | (with_reducible refine w_lcL ?_) | (with_reducible refine w_lcT ?_) | (with_reducible refine w_sl ?_) | (with_reducible refine w_part ?_) | (with_reducible refine w_noPart ?_) | (with_reducible refine w_in ?_)
  | (with_reducible refine w_gcons ?_) | (with_reducible refine w_gnil ?_) | (with_reducible refine w_lc3 ?_) | (with_reducible refine w_dcZ ?_) | (with_reducible refine w_dcT ?_) | (with_reducible refine w_dg ?_) | (with_reducible refine w_callK ?_) | (with_reducible refine w_dput ?_) | (with_reducible refine w_tup1 ?_)
  | (with_reducible refine w_tup ?_) | (with_reducible refine w_lst ?_)
  | ((with_reducible refine w_I ?h ?_); (case h => first | (exact Or.inr ⟨by decide, by decide⟩) | (exact Or.inl ⟨by decide, by decide⟩) | (show (0 : Int) < _; decide) | (exact ⟨by decide, by decide, by decide⟩) | assumption)))
local macro_rules | `(tactic| walk_at "aw") => `(tactic| repeat (walk_at "aw1"))
/-! ### makers: what each promises -/
theorem w_draw {K : PySem.W.Frag} {st : Addr} {cs : Addr × Addr} {lim : Int} {H : Hp} {Q : VK} {E : XK} (ok : StOk st cs H) (h1 : 0 < lim) (h2 : lim < 1073741824) (q : ∀ n H', 0 ≤ n → n < lim → Go st cs H H' → Q (.int n) H') : sp__law_draw K [.ref st, .int lim] H Q E := ⟨st, lim, rfl, cs, ok, h1, h2, q⟩
/-- one of some numbers, the list is made for it -/
theorem w_pickL {K : PySem.W.Frag} {st : Addr} {cs : Addr × Addr} {ns : List Int} {H : Hp} {Q : VK} (ok : StOk st cs H) (h0 : 0 < ns.length) (h1 : ns.length < 100000) (q : ∀ n, n ∈ ns → ∀ H', Go st cs H H' → Q (.int n) H') : kLstD (ns.map V.int) H fun x H2 => sp__law_pick K [.ref st, x] H2 Q E0 :=
  w_lstD (by rw [List.length_map]; omega) fun p H2 np a2 e2 => ⟨st, p, rfl, cs, _, ok.keep a2 (fun z => nomatch z) (fun z => nomatch z) (fun z => nomatch z), .inl ⟨SqL.of e2, (ok.ne np).1⟩, by rw [List.length_map]; exact h0, by rw [List.length_map]; omega, fun i v H' e g => by
    rw [List.getElem?_map] at e
    obtain ⟨n, hn, rfl⟩ := Option.map_eq_some_iff.mp e
    exact q n (List.mem_of_getElem? hn) H' ((Go.of ok a2).trans g)⟩
/-- one of some texts -/
theorem w_pickS {K : PySem.W.Frag} {st : Addr} {cs : Addr × Addr} {ns : List Str} {H : Hp} {Q : VK} (ok : StOk st cs H) (h0 : 0 < ns.length) (h1 : ns.length < 100000) (q : ∀ n, n ∈ ns → ∀ H', Go st cs H H' → Q (.str n) H') : kLstD (ns.map V.str) H fun x H2 => sp__law_pick K [.ref st, x] H2 Q E0 :=
  w_lstD (by rw [List.length_map]; omega) fun p H2 np a2 e2 => ⟨st, p, rfl, cs, _, ok.keep a2 (fun z => nomatch z) (fun z => nomatch z) (fun z => nomatch z), .inl ⟨SqL.of e2, (ok.ne np).1⟩, by rw [List.length_map]; exact h0, by rw [List.length_map]; omega, fun i v H' e g => by
    rw [List.getElem?_map] at e
    obtain ⟨n, hn, rfl⟩ := Option.map_eq_some_iff.mp e
    exact q n (List.mem_of_getElem? hn) H' ((Go.of ok a2).trans g)⟩
def kRgT (x y : V) (H : Hp) (Q : VK) : Prop := ∃ i j, x = .int i ∧ y = .int j ∧ RgOk i j ∧ ∀ q, H q = none → Q (.ref q) (upd H q (.tup (rgV i j)))
theorem w_tupRg2 {ta tb : TE} {σ : L2.St} {H : Hp} {Q : VK} (h : ta σ H fun x H1 => tb σ H1 fun y H2 => kRgT x y H2 Q) : tTupRg (tRg2 ta tb) σ H Q := h
theorem w_rgT {a b : Int} {H : Hp} {Q : VK} (ha : -1000000 ≤ a ∧ a ≤ 1000000) (hb : -1000000 ≤ b ∧ b ≤ 1000000) (hz : b - a ≤ 100000) (q : ∀ r H', H r = none → Adv [] H H' → H' r = some (.tup ((List.range (b - a).toNat).map fun k => V.int (a + (k : Nat)))) → Q (.ref r) H') : kRgT (.int a) (.int b) H Q :=
  ⟨a, b, rfl, rfl, ⟨by omega, by omega, by omega, by omega, by omega⟩, fun p hp => w_new q p hp⟩
def sp__law_near (_ : PySem.W.Frag) : Sp := fun vs H Q _ => ∃ st b, vs = [.ref st, .ref b] ∧ ∃ (cs : Addr × Addr) (fl : List Int), StOk st cs H ∧ H b = some (.tup (fl.map V.int)) ∧ 0 < fl.length ∧ fl.length ≤ 1000 ∧ ∀ n H', Go st cs H H' → Q (.int n) H'
def sp__law_weight (_ : PySem.W.Frag) : Sp := fun vs H Q _ => ∃ st, vs = [.ref st] ∧ ∃ cs, StOk st cs H ∧ ∀ n H', Go st cs H H' → -1000 ≤ n → n ≤ 1000 → Q (.int n) H'
def sp__law_domain (_ : PySem.W.Frag) : Sp := fun vs H Q _ => ∃ st c, vs = [.ref st, .int c] ∧ ∃ cs, StOk st cs H ∧ 1 ≤ c ∧ c ≤ 100 ∧ ∀ v (fl : List Int) H', Go st cs H H' → Is H' (rowD fl) v → (fl.length : Int) = c → fl.Pairwise (· < ·) → (∀ x ∈ fl, -3000 ≤ x ∧ x ≤ 3000) → Q v H'
def t__law_near (K : PySem.W.Frag) : TS := (tSeq (tAsg (tCall (sp__law_pick K) [] E0 (tCons (tVar 0) (tCons (tVar 1) tNil))) (gName 2))
  (tSeq (tAsg (tCall (sp__law_draw K) [] E0 (tCons (tVar 0) (tCons (tC (.int 8)) tNil))) (gName 3))
  (tSeq (tIfS (tTest (tOp rEq (tVar 3) (tC (.int 6)))) (tAsg (tOp rAddI (tVar 2) (tCall (sp__law_pick K) [] E0 (tCons (tVar 0) (tCons (tLst (tCons (tUn rNeg (tC (.int 1))) (tCons (tC (.int 1)) tNil))) tNil)))) (gName 2)) tNext)
  (tSeq (tIfS (tTest (tOp rEq (tVar 3) (tC (.int 7)))) (tAsg (tOp rSubI (tCall (sp__law_draw K) [] E0 (tCons (tVar 0) (tCons (tC (.int 401)) tNil))) (tC (.int 200))) (gName 2)) tNext)
  (tRet (tCB rMax2 (tCons (tUn rNeg (tC (.int 200))) (tCons (tCB rMin2 (tCons (tC (.int 200)) (tCons (tVar 2) tNil))) tNil))))))))
def t__law_weight (K : PySem.W.Frag) : TS := (tSeq (tAsg (tCall (sp__law_pick K) [] E0 (tCons (tVar 0) (tCons (tLst (tCons (tC (.int 1)) (tCons (tC (.int 1)) (tCons (tC (.int 1)) (tCons (tC (.int 2)) (tCons (tC (.int 3)) (tCons (tOp rAddI (tC (.int 1)) (tCall (sp__law_draw K) [] E0 (tCons (tVar 0) (tCons (tC (.int 100)) tNil)))) tNil))))))) tNil))) (gName 1))
  (tRet (tOp rMulI (tVar 1) (tCall (sp__law_pick K) [] E0 (tCons (tVar 0) (tCons (tLst (tCons (tC (.int 1)) (tCons (tUn rNeg (tC (.int 1))) tNil))) tNil))))))
def t__law_domain (K : PySem.W.Frag) : TS := (tSeq (tAsg (tCall (sp__law_draw K) [] E0 (tCons (tVar 0) (tCons (tC (.int 6)) tNil))) (gName 2))
  (tSeq (tIfS (tTest (tOp rLtI (tVar 2) (tC (.int 4)))) (tSeq (tAsg (tCall (sp__law_pick K) [] E0 (tCons (tVar 0) (tCons (tLst (tCons (tC (.int 0)) (tCons (tC (.int 0)) (tCons (tC (.int 0)) (tCons (tC (.int 1)) (tCons (tUn rNeg (tC (.int 1))) (tCons (tUn rNeg (tC (.int 2))) tNil))))))) tNil))) (gName 3))
  (tRet (tTupRg (tRg2 (tVar 3) (tOp rAddI (tVar 3) (tVar 1)))))) tNext)
  (tSeq (tAsg (tOp (rIxL K) (tLst (tCons (tOp rSubI (tCall (sp__law_draw K) [] E0 (tCons (tVar 0) (tCons (tC (.int 7)) tNil))) (tC (.int 3))) (tCons (tOp rSubI (tCall (sp__law_draw K) [] E0 (tCons (tVar 0) (tCons (tC (.int 269)) tNil))) (tC (.int 200))) tNil))) (tOp rSubI (tVar 2) (tC (.int 4)))) (gName 4))
  (tSeq (tAsg (tLst (tCons (tVar 4) tNil)) (gName 5))
  (tSeq (tFor (iRng1 (tCons (tOp rSubI (tVar 1) (tC (.int 1))) tNil)) (gName 6)
  (tDrop (tBM K "list" rAppend (tVar 5) (tCons (tOp rAddI (tOp rAddI (tOp (rIxL K) (tVar 5) (tVar 6)) (tC (.int 1))) (tCall (sp__law_draw K) [] E0 (tCons (tVar 0) (tCons (tOp (rIxL K) (tLst (tCons (tC (.int 2)) (tCons (tC (.int 12)) tNil))) (tOp rSubI (tVar 2) (tC (.int 4)))) tNil)))) tNil))))
  (tRet (tThen (tVar 5) (kTup K))))))))
theorem len__law_near {K : PySem.W.Frag} : ∀ (vs : List V) (H : Hp) (Q : VK) (E : XK), sp__law_near K vs H Q E → vs.length = 2 := fun vs H Q E h => by
  obtain ⟨_, _, rfl, _⟩ := h
  rfl
theorem pure__law_near {K : PySem.W.Frag} (vs : List V) (H : Hp) (Q : VK) (E : XK) (h : sp__law_near K vs H Q E) : t__law_near K { nx := fun _ H' => Q .non H', rt := Q } (start ["bag", "domain", "value", "way"] vs) H := by
  obtain ⟨st, b, rfl, cs, fl, ok, eb, h0, hl, q⟩ := h
  show t__law_near K _ [some (.ref st), some (.ref b), none, none] H
  unfold t__law_near
  walk_at "aw"
  refine ⟨st, b, rfl, cs, _, ok, .inr eb, by rw [List.length_map]; exact h0, by rw [List.length_map]; omega, fun i v H1 e g1 => ?_⟩
  rw [List.getElem?_map] at e
  obtain ⟨n, hn, rfl⟩ := Option.map_eq_some_iff.mp e
  walk_at "aw"
  refine w_draw g1.ok (by decide) (by decide) fun way H2 w0 w1 g2 => ?_
  have fin : ∀ (H3 : Hp) (n : Int), Go st cs H H3 → (tRet (tCB rMax2 (tCons (tUn rNeg (tC (.int 200))) (tCons (tCB rMin2 (tCons (tC (.int 200)) (tCons (tVar 2) tNil))) tNil)))) { nx := fun _ H' => Q .non H', rt := Q } [some (.ref st), some (.ref b), some (.int n), some (.int way)] H3 := by
    intro H3 n g
    walk_at "aw"
    exact q _ _ g
  have rest : ∀ (H3 : Hp) (n : Int), Go st cs H H3 → (tSeq (tIfS (tTest (tOp rEq (tVar 3) (tC (.int 7)))) (tAsg (tOp rSubI (tCall (sp__law_draw K) [] E0 (tCons (tVar 0) (tCons (tC (.int 401)) tNil))) (tC (.int 200))) (gName 2)) tNext)
  (tRet (tCB rMax2 (tCons (tUn rNeg (tC (.int 200))) (tCons (tCB rMin2 (tCons (tC (.int 200)) (tCons (tVar 2) tNil))) tNil))))) { nx := fun _ H' => Q .non H', rt := Q } [some (.ref st), some (.ref b), some (.int n), some (.int way)] H3 := by
    intro H3 n g
    walk_at "aw"
    refine w_iteB (fun _ => ?_) fun _ => ?_
    · walk_at "aw"
      refine w_draw g.ok (by decide) (by decide) fun k H4 _ _ g4 => ?_
      walk_at "aw"
      exact q _ _ (g.trans g4)
    · walk_at "aw1"
      exact fin H3 n g
  walk_at "aw"
  refine w_iteB (fun _ => ?_) fun _ => ?_
  · walk_at "aw"
    refine w_pickL (ns := [-1, 1]) g2.ok (by decide) (by decide) fun k _ H3 g3 => ?_
    have := rest H3 (n + k) ((g1.trans g2).trans g3)
    walk_at "aw1"
    walk_at "aw1"
    exact this
  · walk_at "aw1"
    exact rest H2 n (g1.trans g2)
theorem len__law_weight {K : PySem.W.Frag} : ∀ (vs : List V) (H : Hp) (Q : VK) (E : XK), sp__law_weight K vs H Q E → vs.length = 1 := fun vs H Q E h => by
  obtain ⟨_, rfl, _⟩ := h
  rfl
theorem pure__law_weight {K : PySem.W.Frag} (vs : List V) (H : Hp) (Q : VK) (E : XK) (h : sp__law_weight K vs H Q E) : t__law_weight K { nx := fun _ H' => Q .non H', rt := Q } (start ["bag", "size"] vs) H := by
  obtain ⟨st, rfl, cs, ok, q⟩ := h
  show t__law_weight K _ [some (.ref st), none] H
  unfold t__law_weight
  walk_at "aw"
  refine w_draw ok (by decide) (by decide) fun k H1 k0 k1 g1 => ?_
  walk_at "aw"
  refine w_pickL (ns := [1, 1, 1, 2, 3, 1 + k]) g1.ok (by show 0 < 6; decide) (by show 6 < 100000; decide) fun n hn H2 g2 => ?_
  have hn2 : 1 ≤ n ∧ n ≤ 100 := by
    simp only [List.mem_cons, List.not_mem_nil, or_false] at hn
    omega
  walk_at "aw"
  refine w_pickL (ns := [1, -1]) g2.ok (by decide) (by decide) fun z hz H3 g3 => ?_
  refine w_I (.inl ⟨by omega, by omega⟩) ?_
  simp only [List.mem_cons, List.not_mem_nil, or_false] at hz
  refine q _ _ ((g1.trans g2).trans g3) ?_ ?_ <;> rcases hz with rfl | rfl <;> omega
theorem len__law_domain {K : PySem.W.Frag} : ∀ (vs : List V) (H : Hp) (Q : VK) (E : XK), sp__law_domain K vs H Q E → vs.length = 2 := fun vs H Q E h => by
  obtain ⟨_, _, rfl, _⟩ := h
  rfl
theorem pure__law_domain {K : PySem.W.Frag} (vs : List V) (H : Hp) (Q : VK) (E : XK) (h : sp__law_domain K vs H Q E) : t__law_domain K { nx := fun _ H' => Q .non H', rt := Q } (start ["bag", "size", "way", "start", "first", "made", "k"] vs) H := by
  obtain ⟨st, c, rfl, cs, ok, c1, c2, q⟩ := h
  show t__law_domain K _ [some (.ref st), some (.int c), none, none, none, none, none] H
  unfold t__law_domain
  walk_at "aw"
  refine w_draw ok (by decide) (by decide) fun way H1 w0 w1 g1 => ?_
  walk_at "aw"
  refine w_iteB (fun _ => ?_) fun hw => ?_
  · walk_at "aw"
    refine w_pickL (ns := [0, 0, 0, 1, -1, -2]) g1.ok (by decide) (by decide) fun s hs H2 g2 => ?_
    simp only [List.mem_cons, List.not_mem_nil, or_false] at hs
    walk_at "aw"
    refine w_tupRg2 ?_
    walk_at "aw"
    refine w_rgT (by omega) (by omega) (by omega) fun r H3 n3 a3 e3 => ?_
    rw [show (s + c - s).toNat = c.toNat by omega] at e3
    refine q _ ((List.range c.toNat).map fun k => s + ((k : Nat) : Int)) _ ((g1.trans g2).new a3) (.tup (xs := ((List.range c.toNat).map fun k => V.int (s + ((k : Nat) : Int)))) e3 ?_) ?_ ?_ ?_
    · have := IsAll.ints (H := H3) ((List.range c.toNat).map fun k => s + ((k : Nat) : Int))
      rw [List.map_map (f := fun k : Nat => s + (k : Int)) (g := V.int)] at this
      exact this
    · rw [List.length_map, List.length_range]
      omega
    · rw [List.pairwise_map]
      exact List.pairwise_lt_range.imp fun h => by omega
    · intro x hx
      obtain ⟨k, hk, rfl⟩ := List.mem_map.mp hx
      have := List.mem_range.mp hk
      omega
  · have hw4 : way = 4 ∨ way = 5 := by omega
    walk_at "aw"
    refine w_draw g1.ok (by decide) (by decide) fun k1 H2 k10 k11 g2 => ?_
    walk_at "aw"
    refine w_draw g2.ok (by decide) (by decide) fun k2 H3 k20 k21 g3 => ?_
    walk_at "aw"
    refine w_lstD (by show 2 ≤ 100000; decide) fun p H4 np a4 e4 => ?_
    walk_at "aw"
    have hat : ∃ f, atI [V.int (k1 - 3), V.int (k2 - 200)] (way - 4) = some (.int f) ∧ -300 ≤ f ∧ f ≤ 300 := by
      rcases hw4 with rfl | rfl
      · exact ⟨_, at_of (j := 0) rfl rfl, by omega, by omega⟩
      · exact ⟨_, at_of (j := 1) rfl rfl, by omega, by omega⟩
    obtain ⟨f, hf, f0, f1⟩ := hat
    refine w_ixL (SqL.of e4) hf ?_
    walk_at "aw"
    refine w_lstD (by show 1 ≤ 100000; decide) fun md H5 nm a5 e5 => ?_
    have g5 := (((g1.trans g2).trans g3).new a4).new a5
    have g4 := ((g1.trans g2).trans g3).new a4
    have nm0 : H md = none := g4.free ok nm
    have nmo := (ok.ne nm0).1
    walk_at "aw"
    obtain ⟨m, hm⟩ : ∃ m : Nat, c = (m : Int) + 1 := ⟨(c - 1).toNat, by omega⟩
    rw [show c - 1 = ((m : Nat) : Int) by omega]
    refine kForR_i (n := m) (by omega) (fun i σ H' => ∃ (y : Option V) (fl : List Int), σ = [some (.ref st), some (.int c), some (.int way), none, some (.int f), some (.ref md), y] ∧ Go st cs H H' ∧ H' md = some (.lst (fl.map V.int)) ∧ fl.length = i + 1 ∧ ∃ pre z, fl = pre ++ [z] ∧ pre.Pairwise (· < ·) ∧ (∀ x ∈ pre, f ≤ x ∧ x < z) ∧ f ≤ z ∧ z ≤ f + 25 * (i : Nat))
      ⟨none, [f], rfl, g5, e5, rfl, [], f, rfl, .nil, fun x h => (nomatch h), Int.le_refl _, by omega⟩ (fun i σ H' hi p => ?_) fun σ H' p => ?_
    · obtain ⟨y, fl, rfl, g, ef, hl, pre, z, ez, pz, mz, z0, z1⟩ := p
      have hpl : pre.length = i := by
        rw [ez, List.length_append] at hl
        simpa using hl
      have hz : fl[i]? = some z := by
        rw [ez, List.getElem?_append_right (by omega), hpl, Nat.sub_self]
        rfl
      walk_at "aw"
      refine w_app rfl ef ?_
      walk_at "aw"
      refine w_ixL (SqL.of ef) (v := .int z) (at_of (j := i) rfl (by rw [List.getElem?_map, hz]; rfl)) ?_
      walk_at "aw"
      refine w_lstD (by show 2 ≤ 100000; decide) fun p H6 np6 a6 e6 => ?_
      walk_at "aw"
      have hat : ∃ u : Int, atI [V.int 2, V.int 12] (way - 4) = some (.int u) ∧ 0 < u ∧ u < 20 := by
        rcases hw4 with rfl | rfl
        · exact ⟨2, at_of (j := 0) rfl rfl, by decide, by decide⟩
        · exact ⟨12, at_of (j := 1) rfl rfl, by decide, by decide⟩
      obtain ⟨u, hu, u0, u1⟩ := hat
      refine w_ixL (SqL.of e6) hu ?_
      have g6 := g.new a6
      walk_at "aw"
      refine w_draw g6.ok u0 (by omega) fun k3 H7 k30 k31 g7 => ?_
      walk_at "aw"
      have ef7 := g7.keep nmo (a6.keep _ _ (fun z => nomatch z) ef)
      refine w_append ef7 (by rw [List.length_map]; omega) ?_
      walk_at "aw"
      refine ⟨some (.int (i : Nat)), fl ++ [z + 1 + k3], rfl, (g6.trans g7).mutL ok nm0 ef7, ?_, by rw [List.length_append, hl]; rfl, fl, z + 1 + k3, rfl, ?_, fun x hx => ?_, by omega, by omega⟩
      · rw [upd_same, List.map_append]
        rfl
      · rw [ez, List.pairwise_append]
        exact ⟨pz, List.pairwise_singleton .., fun a ha b hb => by rw [List.mem_singleton.mp hb]; exact (mz a ha).2⟩
      · rw [ez] at hx
        rcases List.mem_append.mp hx with hx | hx
        · have := mz x hx
          omega
        · rw [List.mem_singleton.mp hx]
          omega
    · obtain ⟨y, fl, rfl, g, ef, hl, pre, z, ez, pz, mz, z0, z1⟩ := p
      walk_at "aw"
      refine w_tupL (SqL.of ef) fun r H6 nr a6 e6 => ?_
      have hb : ∀ x ∈ fl, -3000 ≤ x ∧ x ≤ 3000 := fun x hx => by
        rw [ez] at hx
        rcases List.mem_append.mp hx with hx | hx
        · have := mz x hx
          omega
        · rw [List.mem_singleton.mp hx]
          omega
      refine q _ fl _ (g.new a6) (.tup e6 (.ints fl)) (by omega) ?_ hb
      rw [ez, List.pairwise_append]
      exact ⟨pz, List.pairwise_singleton .., fun a ha b hb => by rw [List.mem_singleton.mp hb]; exact (mz a ha).2⟩
end AW
namespace AW
open PySem PySem.Spec PyProof.Rows L2 RZ
open StX
local macro_rules | `(tactic| walk_at "aw1") => `(tactic| first
  | (with_reducible refine w_seq ?_) | (with_reducible refine w_asg ?_) | (with_reducible refine w_gname ?_) | (with_reducible refine w_op ?_) | (with_reducible refine w_un ?_)
  | ((with_reducible refine' w_var ?h ?_); (case h => rfl)) | (with_reducible refine w_c ?_)
  | (with_reducible refine w_I0 ?_) | (with_reducible refine w_U ?_) | (with_reducible refine w_cb ?_) | (with_reducible refine w_nil ?_) | (with_reducible refine w_cons ?_) | (with_reducible refine w_call ?_)
  | (with_reducible refine w_test ?_) | (with_reducible refine w_B ?_) | (with_reducible refine w_bl ?_) | (with_reducible refine w_not ?_) | (with_reducible refine w_yes ?_) | (with_reducible refine iteT ?_) | (with_reducible refine iteF ?_) | (with_reducible refine w_and ?_) | (with_reducible refine w_or ?_)
  | (with_reducible refine w_andV ?_) | (with_reducible refine w_orV ?_) | (with_reducible refine w_notV ?_) | (with_reducible refine w_if ?_)
  | (with_reducible refine w_int1 ?_) | (with_reducible refine w_int1b ?_) | (with_reducible refine w_abs ?_) | (with_reducible refine w_max2 ?_) | (with_reducible refine w_min2 ?_)
  | ((with_reducible refine w_eq ?h ?_); (case h => rfl)) | ((with_reducible refine w_ne ?h ?_); (case h => rfl)) | (with_reducible refine w_isN ?_) | (with_reducible refine w_isB ?_) | (with_reducible refine w_chain ?_)
  | (with_reducible refine w_ret ?_) | (with_reducible refine w_drop ?_) | (with_reducible refine w_ifS ?_) | (with_reducible refine w_gsub ?_) | (with_reducible refine w_augS ?_) | (with_reducible refine w_ipI ?_) | (with_reducible refine w_next ?_)
  | (with_reducible refine w_forR ?_) | (with_reducible refine w_forR2 ?_) | (with_reducible refine w_forL ?_) | (with_reducible refine w_forT ?_) | (with_reducible refine w_lcR ?_) | (with_reducible refine w_lcL ?_) | (with_reducible refine w_lcT ?_) | (with_reducible refine w_sl ?_) | (with_reducible refine w_part ?_) | (with_reducible refine w_noPart ?_) | (with_reducible refine w_in ?_)
  | (with_reducible refine w_gcons ?_) | (with_reducible refine w_gnil ?_) | (with_reducible refine w_lc3 ?_) | (with_reducible refine w_dcZ ?_) | (with_reducible refine w_dcT ?_) | (with_reducible refine w_dg ?_) | (with_reducible refine w_callK ?_) | (with_reducible refine w_dput ?_) | (with_reducible refine w_tup1 ?_)
  | (with_reducible refine w_tup ?_) | (with_reducible refine w_lst ?_)
  | ((with_reducible refine w_I ?h ?_); (case h => first | (exact Or.inr ⟨by decide, by decide⟩) | (exact Or.inl ⟨by decide, by decide⟩) | (show (0 : Int) < _; decide) | (exact ⟨by decide, by decide, by decide⟩) | assumption)))
local macro_rules | `(tactic| walk_at "aw") => `(tactic| repeat (walk_at "aw1"))
theorem strs_of : ∀ {ys : List V}, (∀ (i : Nat) v, ys[i]? = some v → ∃ n : Str, v = .str n) → ∃ ps : List Str, ys = ps.map V.str
  | [], _ => ⟨[], rfl⟩
  | y :: ys, h => by
    obtain ⟨n, rfl⟩ := h 0 y rfl
    obtain ⟨ps, rfl⟩ := strs_of (ys := ys) fun i v e => h (i + 1) v (by simpa using e)
    exact ⟨n :: ps, rfl⟩
def SG : Str := "abcdefghijklmnopqrstuvwxyz0123456789."
def SGl : List Nat := SG.cps.toList
theorem SG_len : SGl.length = 37 := by decide +kernel
theorem SG_nd : SGl.Nodup := by decide +kernel
theorem SG_ok : ∀ c ∈ SGl, c < 0x110000 := by decide +kernel
theorem SG_size : SG.length ≤ sizeLine := by decide +kernel
theorem w_sign {i : Int} {H : Hp} {Q : VK} (h0 : 0 ≤ i) (h1 : i < 37) (q : ∀ c, SGl[i.toNat]? = some c → Q (.str ⟨#[c]⟩) H) : rIxS (.str SG) (.int i) H Q := by
  obtain ⟨c, hc⟩ := get_some (xs := SGl) (i := i.toNat) (by rw [SG_len]; omega)
  refine ⟨SG, i, c, rfl, rfl, SG_size, ?_, q c hc⟩
  have e : SG.cps.toList.length = 37 := SG_len
  unfold atI ixN
  rw [e, if_pos h0, if_pos (show i < ((37 : Nat) : Int) from h1), Option.bind_some]
  exact hc
theorem w_addS {x y : Str} {H : Hp} {Q : VK} (h : x.length + y.length ≤ 100000) (q : Q (.str (x ++ y)) H) : rAddS (.str x) (.str y) H Q := ⟨x, y, rfl, rfl, Nat.le_trans h (by decide), q⟩
theorem w_slS {x : Str} {lo hi : Option Int} {H : Hp} {Q : VK} (h : x.length ≤ 100000) (q : Q (.str (cutS x lo hi)) H) : rSlS (.str x) lo hi H Q := ⟨x, rfl, Nat.le_trans h (by decide), q⟩
theorem w_str {i : Int} {H : Hp} {Q : VK} (h : i.natAbs < 1000) (q : Q (.str (Str.ofString (toString i))) H) : rStr1 [.int i] H Q := ⟨i, rfl, by have := Nat.log2_le_self i.natAbs; omega, q⟩
theorem okS_app {x y : Str} (h1 : okS x) (h2 : okS y) : okS (x ++ y) := by
  unfold okS at *
  show ((x.cps ++ y.cps).all _) = true
  rw [Array.all_append, h1, h2]
  rfl
theorem okS_iff {x : Str} : okS x ↔ ∀ c ∈ x.cps.toList, c < 0x110000 := by
  unfold okS
  rw [← Array.all_toList, List.all_eq_true]
  simp
theorem okS_cut {x : Str} {lo hi : Option Int} (h : okS x) : okS (cutS x lo hi) := by
  rw [okS_iff] at h ⊢
  intro c hc
  exact h c (List.mem_of_mem_drop (List.mem_of_mem_take hc))
theorem okS_one {c : Nat} (h : c < 0x110000) : okS ⟨#[c]⟩ := by
  rw [okS_iff]
  intro d hd
  rw [List.mem_singleton.mp hd]
  exact h
theorem len_app {x y : Str} : (x ++ y).length = x.length + y.length := Array.size_append
theorem len_one {c : Nat} : (⟨#[c]⟩ : Str).length = 1 := rfl
theorem lst_app {x y : Str} : (x ++ y).cps.toList = x.cps.toList ++ y.cps.toList := Array.toList_append
theorem lst_one {c : Nat} : (⟨#[c]⟩ : Str).cps.toList = [c] := rfl
theorem cutS_pos {x : Str} (h : 0 < x.length) : 0 < (cutS x (some (-24)) none).length := by
  have h2 : ∀ n : Nat, 0 < n → HT.sIx n 0 (some (-24)) < n ∧ HT.sIx n n none = n := fun n hn => by
    refine ⟨?_, rfl⟩
    unfold HT.sIx
    simp only []
    split <;> omega
  obtain ⟨a, b⟩ := h2 x.length h
  show 0 < (((x.cps.toList.drop (HT.sIx x.length 0 (some (-24)))).take (HT.sIx x.length x.length none - HT.sIx x.length 0 (some (-24)))).toArray).size
  rw [List.size_toArray, List.length_take, List.length_drop, Array.length_toList, b]
  have e : x.cps.size = x.length := rfl
  omega
theorem join_ok : ∀ ws : List Str, (∀ x ∈ ws, okS x ∧ x.length = 1) → okS (Str.join "" ws) ∧ (Str.join "" ws).length = ws.length
  | [], _ => ⟨by unfold okS; decide +kernel, by decide +kernel⟩
  | [x], h => ⟨(h x (List.mem_singleton.mpr rfl)).1, by rw [show Str.join "" [x] = x from rfl, (h x (List.mem_singleton.mpr rfl)).2]; rfl⟩
  | x :: y :: ws, h => by
    obtain ⟨h1, h2⟩ := join_ok (y :: ws) fun z hz => h z (List.mem_cons_of_mem _ hz)
    have hx := h x (List.mem_cons_self ..)
    have e : Str.join "" (x :: y :: ws) = x ++ "" ++ Str.join "" (y :: ws) := rfl
    rw [e]
    refine ⟨okS_app (okS_app hx.1 (by unfold okS; decide +kernel)) h1, ?_⟩
    rw [len_app, len_app, hx.2, show (Str.ofString "").length = 0 from by decide +kernel, List.length_cons]
    omega
def SK (k : Int) : Str := Str.ofString (toString k)
def NK (k : Nat) : Str := Str.ofString "n" ++ SK (k : Nat)
theorem NK_nd : ((List.range 98).map NK).Nodup := by decide +kernel
theorem NK_ok : ∀ k < 99, okS (NK k) ∧ (NK k).length ≤ 100 ∧ 0 < (NK k).length := by unfold okS; decide +kernel
theorem SK_len : ∀ k < 99, (SK (k : Nat)).length ≤ 2 := by decide +kernel
theorem inV_strs {x : Str} {xs : List Str} : inV (.str x) (xs.map V.str) = decide (x ∈ xs) := by
  unfold inV
  rw [List.any_map, Bool.eq_iff_iff, List.any_eq_true, decide_eq_true_iff]
  exact ⟨fun ⟨y, hy, z⟩ => by
    have : y = x := by simpa [eqV] using z
    exact this ▸ hy, fun hx => ⟨x, hx, by simp [eqV]⟩⟩
theorem flat_strs (xs : List Str) : (xs.map V.str).all flatV = true := by rw [List.all_map, List.all_eq_true]; exact fun _ _ => rfl
theorem w_notIn {x : Str} {p : Addr} {xs : List Str} {K : PySem.W.Frag} {H : Hp} {Q : VK} (h : H p = some (.lst (xs.map V.str))) (q : Q (.bl (!decide (x ∈ xs))) H) : rIn K true (.str x) (.ref p) H Q := ⟨p, _, rfl, .inl (SqL.of h), rfl, flat_strs xs, by rw [if_pos rfl, inV_strs]; exact q⟩
theorem w_m1 {r : V → List V → Hp → VK → Prop} {to te : TE} {σ : L2.St} {H : Hp} {Q : VK} (h : to σ H fun x H1 => (∃ a, x = .str a) ∧ te σ H1 fun y H2 => r x [y] H2 Q) : tM1 r to te σ H Q := h
theorem w_ifJ {c : TT} {A B : TS} {D : Ends} {σ : L2.St} {H : Hp} (R : L2.St → Hp → Prop) (h1 : ∀ D' : Ends, (∀ σ' H', R σ' H' → D'.nx σ' H') → tIfS c A B D' σ H) (h2 : ∀ σ' H', R σ' H' → D.nx σ' H') : tIfS c A B D σ H := h1 D h2
theorem w_ifEJ {c : TT} {a b : TE} {σ : L2.St} {H : Hp} {Q : VK} (R : V → Hp → Prop) (h1 : ∀ Q' : VK, (∀ v H', R v H' → Q' v H') → tIf c a b σ H Q') (h2 : ∀ v H', R v H' → Q v H') : tIf c a b σ H Q := h1 Q h2
theorem w_forJ {g : TG} {tb : TS} {D : Ends} {σ : L2.St} {ws : List V} {H : Hp} (R : L2.St → Hp → Prop) (h1 : ∀ D' : Ends, (∀ σ' H', R σ' H' → D'.nx σ' H') → kForR g tb D' σ ws H) (h2 : ∀ σ' H', R σ' H' → D.nx σ' H') : kForR g tb D σ ws H := h1 D h2
theorem join1 {K : PySem.W.Frag} {p : Addr} {ws : List Str} {H : Hp} {Q : VK} (h : H p = some (.lst (ws.map V.str))) (hw : ∀ x ∈ ws, okS x ∧ x.length = 1) (hl : ws.length ≤ 1000) (q : ∀ nm : Str, okS nm → nm.length = ws.length → Q (.str nm) H) : rJoin K (.str "") [.ref p] H Q := by
  obtain ⟨h1, h2⟩ := join_ok ws hw
  rw [← TL.join_eq] at h1 h2
  have hsum : ∀ l : List Str, (∀ x ∈ l, okS x ∧ x.length = 1) → (l.map (·.length)).sum = l.length := fun l => by
    induction l with
    | nil => exact fun _ => rfl
    | cons a l ih =>
      intro h
      rw [List.map_cons, List.sum_cons, ih fun x hx => h x (List.mem_cons_of_mem _ hx), (h a (List.mem_cons_self ..)).2, List.length_cons]
      omega
  exact ⟨Str.ofString "", p, ws, rfl, rfl, .inl (SqL.of h), by rw [hsum ws hw, show (Str.ofString "").length = 0 from by decide +kernel]; omega, q _ h1 h2⟩
theorem signs_of : ∀ x ∈ signsOf SG, okS x ∧ x.length = 1 := fun x hx => by
  obtain ⟨c, hc, rfl⟩ := List.mem_map.mp hx
  exact ⟨okS_one (SG_ok c hc), rfl⟩
def sp__law_names (_ : PySem.W.Frag) : Sp := fun vs H Q _ => ∃ (st : Addr) (n : Nat), vs = [.ref st, .int (n : Nat)] ∧ ∃ cs, StOk st cs H ∧ n ≤ 90 ∧ ∀ r (names : List Str) H', Go st cs H H' → H r = none → H' r = some (.lst (names.map V.str)) → names.length = n → names.Nodup → (∀ x ∈ names, okS x) → (∀ x ∈ names, x.length ≤ 1000) → (∀ x ∈ names, 0 < x.length) → Q (.ref r) H'
def t__law_names (K : PySem.W.Frag) : TS := (tSeq (tAsg (tC (.str "abcdefghijklmnopqrstuvwxyz0123456789.")) (gName 2))
  (tSeq (tAsg (tCall (sp__law_pick K) [] E0 (tCons (tVar 0) (tCons (tLst (tCons (tC (.int 1)) (tCons (tC (.int 1)) (tCons (tC (.int 2)) (tCons (tC (.int 3)) (tCons (tC (.int 5)) (tCons (tC (.int 24)) tNil))))))) tNil))) (gName 3))
  (tSeq (tAsg (tCall (sp__law_draw K) [] E0 (tCons (tVar 0) (tCons (tVar 3) tNil))) (gName 4))
  (tSeq (tAsg (tLc (iRng1 (tCons (tVar 3) tNil)) (gName 6) tYes (tOp rIxS (tVar 2) (tCall (sp__law_draw K) [] E0 (tCons (tVar 0) (tCons (tC (.int 37)) tNil)))) [6]) (gName 5))
  (tSeq (tAsg (tCall (sp__law_some K) [] E0 (tCons (tVar 0) (tCons (tVar 2) (tCons (tC (.int 37)) tNil)))) (gName 7))
  (tSeq (tAsg (tOp rEq (tCall (sp__law_draw K) [] E0 (tCons (tVar 0) (tCons (tC (.int 2)) tNil))) (tC (.int 0))) (gName 8))
  (tSeq (tAsg (tLst tNil) (gName 9))
  (tSeq (tFor (iRng1 (tCons (tVar 1) tNil)) (gName 6)
  (tSeq (tAsg (tCB (rListOf K) (tCons (tVar 5) tNil)) (gName 10))
  (tSeq (tAsg (tOp (rIxL K) (tVar 7) (tOp rModI (tCB rInt1 (tCons (tVar 6) tNil)) (tC (.int 37)))) (gSub (tVar 10) (tVar 4) rSetL))
  (tSeq (tAsg (tM1 (rJoin K) (tC (.str "")) (tVar 10)) (gName 11))
  (tSeq (tIfS (tOr (tTest (tOp rGtI (tVar 6) (tC (.int 36)))) (tNot (tB (tVar 8)))) (tAsg (tSl rSlS (tOp rAddS (tM1 (rJoin K) (tC (.str "")) (tLc (iRng1 (tCons (tCall (sp__law_draw K) [] E0 (tCons (tVar 0) (tCons (tC (.int 4)) tNil))) tNil)) (gName 12) tYes (tOp rIxS (tVar 2) (tCall (sp__law_draw K) [] E0 (tCons (tVar 0) (tCons (tC (.int 37)) tNil)))) [12])) (tVar 11)) (tPart (tUn rNeg (tC (.int 24)))) tNoPart) (gName 11)) tNext)
  (tSeq (tFor (iRng1 (tCons (tC (.int 99)) tNil)) (gName 12)
  (tSeq (tIfS (tTest (tOp (rIn K true) (tVar 11) (tVar 9))) tBreak tNext)
  (tAsg (tOp rAddS (tC (.str "n")) (tCB rStr1 (tCons (tVar 12) tNil))) (gName 11))))
  (tDrop (tBM K "list" rAppend (tVar 9) (tCons (tVar 11) tNil)))))))))
  (tRet (tVar 9))))))))))
theorem len__law_names {K : PySem.W.Frag} : ∀ (vs : List V) (H : Hp) (Q : VK) (E : XK), sp__law_names K vs H Q E → vs.length = 2 := fun vs H Q E h => by
  obtain ⟨_, _, rfl, _⟩ := h
  rfl
theorem signs_list {ys : List V} (h : ∀ (i : Nat) v, ys[i]? = some v → ∃ x : Str, v = .str x ∧ okS x ∧ x.length = 1) : ∃ ws : List Str, ys = ws.map V.str ∧ ∀ x ∈ ws, okS x ∧ x.length = 1 := by
  obtain ⟨ws, rfl⟩ := strs_of (ys := ys) fun i v e => by
    obtain ⟨x, rfl, _⟩ := h i v e
    exact ⟨x, rfl⟩
  refine ⟨ws, rfl, fun x hx => ?_⟩
  obtain ⟨i, hi, rfl⟩ := List.mem_iff_getElem.mp hx
  obtain ⟨y, e, h⟩ := h i (.str ws[i]) (by rw [List.getElem?_map, List.getElem?_eq_getElem hi]; rfl)
  rw [V.str.inj e]
  exact h
theorem pure__law_names {K : PySem.W.Frag} (vs : List V) (H : Hp) (Q : VK) (E : XK) (h : sp__law_names K vs H Q E) : t__law_names K { nx := fun _ H' => Q .non H', rt := Q } (start ["bag", "many", "signs", "size", "at", "first", "k", "row", "alike", "made", "one", "name", "j"] vs) H := by
  obtain ⟨st, n, rfl, cs, ok, hn, q⟩ := h
  show t__law_names K _ [some (.ref st), some (.int (n : Nat)), none, none, none, none, none, none, none, none, none, none, none] H
  unfold t__law_names
  walk_at "aw"
  refine w_pickL (ns := [1, 1, 2, 3, 5, 24]) ok (by decide) (by decide) fun size hs H1 g1 => ?_
  obtain ⟨z, rfl, hz0, hz1⟩ : ∃ z : Nat, size = (z : Int) ∧ 0 < z ∧ z ≤ 24 := by
    simp only [List.mem_cons, List.not_mem_nil, or_false] at hs
    exact ⟨size.toNat, by omega, by omega, by omega⟩
  walk_at "aw"
  refine w_draw g1.ok (by omega) (by omega) fun aa H2 ha0 ha1 g2 => ?_
  have g12 := g1.trans g2
  walk_at "aw"
  refine kLcR_all (n := z) (by omega) g12.ok (fun _ v _ => ∃ x : Str, v = .str x ∧ okS x ∧ x.length = 1) (fun _ _ _ _ _ h => h) (fun k H4 Kt hk g4 kt => ?_) fun fa H3 ys nfa g3 efa hyl hyr => ?_
  · walk_at "aw"
    refine ⟨rfl, ?_⟩
    walk_at "aw"
    refine w_draw g4.ok (by decide) (by decide) fun m H5 hm0 hm1 g5 => ?_
    refine w_sign hm0 hm1 fun c hc => ?_
    exact kt _ _ g5 ⟨_, rfl, okS_one (SG_ok c (List.mem_of_getElem? hc)), rfl⟩
  obtain ⟨ws, rfl, hws⟩ := signs_list hyr
  rw [List.length_map] at hyl
  have g13 := g12.trans g3
  have ofa := (g12.ok.ne nfa).1
  walk_at "aw"
  refine ⟨st, _, 37, rfl, cs, (signsOf SG).map V.str, g13.ok, .inr ⟨SG, rfl, by decide +kernel, rfl⟩, by decide +kernel, by decide +kernel, fun rw made left H4 hperm hml nrw g4 erw => ?_⟩
  have g14 := g13.trans g4
  have orw := (g13.ok.ne nrw).1
  have hmade : ∀ v ∈ made, ∃ x : Str, v = .str x ∧ okS x ∧ x.length = 1 := fun v hv => by
    have : v ∈ (signsOf SG).map V.str := hperm.mem_iff.mp (List.mem_append_left _ hv)
    obtain ⟨x, hx, rfl⟩ := List.mem_map.mp this
    exact ⟨x, rfl, signs_of x hx⟩
  have efa4 := g4.keep ofa efa
  clear hperm hyr
  walk_at "aw"
  refine w_draw g14.ok (by decide) (by decide) fun al H5 _ _ g5 => ?_
  have g15 := g14.trans g5
  walk_at "aw"
  generalize decide (V.int al = V.int 0) = alike
  refine w_lstD (by simp) fun f H6 nf a6 e6 => ?_
  have g16 := g15.new a6
  have nf0 : H f = none := g15.free ok nf
  have nof := (ok.ne nf0).1
  have hfaf : fa ≠ f := ne_of_none (g5.keep ofa efa4) nf
  have hrwf : rw ≠ f := ne_of_none (g5.keep orw erw) nf
  have efa6 := a6.keep _ _ (fun z => nomatch z) (g5.keep ofa efa4)
  have erw6 := a6.keep _ _ (fun z => nomatch z) (g5.keep orw erw)
  walk_at "aw"
  refine kForR_i (n := n) (by omega) (fun i σ H' => ∃ (y6 y10 y11 y12 : Option V) (nms : List Str), σ = [some (.ref st), some (.int (n : Nat)), some (.str SG), some (.int (z : Nat)), some (.int aa), some (.ref fa), y6, some (.ref rw), some (.bl alike), some (.ref f), y10, y11, y12] ∧
      Go st cs H H' ∧ H' f = some (.lst (nms.map V.str)) ∧ H' fa = some (.lst (ws.map V.str)) ∧ H' rw = some (.lst made) ∧ nms.length = i ∧ nms.Nodup ∧ ∀ x ∈ nms, okS x ∧ x.length ≤ 1000 ∧ 0 < x.length)
    ⟨_, _, _, _, [], rfl, g16, e6, efa6, erw6, rfl, List.nodup_nil, fun x hx => nomatch hx⟩ (fun i σ H' hi pp => ?_) fun σ H' pp => ?_
  · obtain ⟨y6, y10, y11, y12, nms, rfl, g, ef, efa, erw, hnl, hnd, hnok⟩ := pp
    walk_at "aw"
    refine w_listOf (.inl (SqL.of efa)) fun o H7 no a7 eo => ?_
    have g7 := g.new a7
    walk_at "aw"
    obtain ⟨v, hv⟩ := get_some (xs := made) (i := i % 37) (by have := Nat.mod_lt i (show 0 < 37 by decide); omega)
    obtain ⟨x, rfl, hx⟩ := hmade v (List.mem_of_getElem? hv)
    refine w_ixL (SqL.of (a7.keep _ _ (fun z => nomatch z) erw)) (v := .str x) (at_of (j := i % 37) (by omega) hv) ?_
    walk_at "aw"
    obtain ⟨j, rfl⟩ : ∃ j : Nat, aa = (j : Int) := ⟨aa.toNat, by omega⟩
    refine w_setL eo (ixN_at (j := j) (by rw [List.length_map, hyl]; omega)) ?_
    rw [show (ws.map V.str).set j (.str x) = (ws.set j x).map V.str by rw [List.map_set]]
    have no0 : H o = none := g.free ok no
    have g8 := g7.mutL (o := .lst ((ws.set j x).map V.str)) ok no0 eo
    have hof : f ≠ o := ne_of_none ef no
    have hofa : fa ≠ o := ne_of_none efa no
    have horw : rw ≠ o := ne_of_none erw no
    have ef8 : (upd H7 o (.lst ((ws.set j x).map V.str))) f = some (.lst (nms.map V.str)) := by rw [upd_ne hof]; exact a7.keep _ _ (fun z => nomatch z) ef
    have efa8 : (upd H7 o (.lst ((ws.set j x).map V.str))) fa = some (.lst (ws.map V.str)) := by rw [upd_ne hofa]; exact a7.keep _ _ (fun z => nomatch z) efa
    have erw8 : (upd H7 o (.lst ((ws.set j x).map V.str))) rw = some (.lst made) := by rw [upd_ne horw]; exact a7.keep _ _ (fun z => nomatch z) erw
    have eo8 : (upd H7 o (.lst ((ws.set j x).map V.str))) o = some (.lst ((ws.set j x).map V.str)) := upd_same
    generalize upd H7 o (.lst ((ws.set j x).map V.str)) = H8 at g8 ef8 efa8 erw8 eo8
    walk_at "aw"
    refine w_m1 ?_
    walk_at "aw"
    refine ⟨⟨_, rfl⟩, ?_⟩
    walk_at "aw"
    refine join1 eo8 (fun y hy => ?_) (by rw [List.length_set]; omega) fun nm hnm hnml => ?_
    · rcases List.mem_or_eq_of_mem_set hy with hy | rfl
      · exact hws y hy
      · exact hx
    rw [List.length_set] at hnml
    walk_at "aw1"
    walk_at "aw1"
    refine w_ifJ (fun σ' H' => ∃ (nm : Str) (y12 : Option V), σ' = [some (.ref st), some (.int (n : Nat)), some (.str SG), some (.int (z : Nat)), some (.int (j : Nat)), some (.ref fa), some (.int (i : Nat)), some (.ref rw), some (.bl alike), some (.ref f), some (.ref o), some (.str nm), y12] ∧
      Go st cs H H' ∧ H' f = some (.lst (nms.map V.str)) ∧ H' fa = some (.lst (ws.map V.str)) ∧ H' rw = some (.lst made) ∧ okS nm ∧ nm.length ≤ 100 ∧ 0 < nm.length) (fun D' hD => ?_) fun σ' H9 hR => ?_
    · have same := hD _ H8 ⟨nm, y12, rfl, g8, ef8, efa8, erw8, hnm, by omega, by omega⟩
      have other : ∀ (Kx : Ends), Kx = D' → (tAsg (tSl rSlS (tOp rAddS (tM1 (rJoin K) (tC (.str "")) (tLc (iRng1 (tCons (tCall (sp__law_draw K) [] E0 (tCons (tVar 0) (tCons (tC (.int 4)) tNil))) tNil)) (gName 12) tYes (tOp rIxS (tVar 2) (tCall (sp__law_draw K) [] E0 (tCons (tVar 0) (tCons (tC (.int 37)) tNil)))) [12])) (tVar 11)) (tPart (tUn rNeg (tC (.int 24)))) tNoPart) (gName 11)) D' [some (.ref st), some (.int (n : Nat)), some (.str SG), some (.int (z : Nat)), some (.int (j : Nat)), some (.ref fa), some (.int (i : Nat)), some (.ref rw), some (.bl alike), some (.ref f), some (.ref o), some (.str nm), y12] H8 := by
        intro _ _
        walk_at "aw"
        refine w_m1 ?_
        walk_at "aw"
        refine ⟨⟨_, rfl⟩, ?_⟩
        walk_at "aw"
        refine w_draw g8.ok (by decide) (by decide) fun u H9 u0 u1 g9 => ?_
        obtain ⟨uu, rfl⟩ : ∃ uu : Nat, u = (uu : Int) := ⟨u.toNat, by omega⟩
        walk_at "aw"
        refine kLcR_all (n := uu) (by omega) g9.ok (fun _ v _ => ∃ x : Str, v = .str x ∧ okS x ∧ x.length = 1) (fun _ _ _ _ _ h => h) (fun k H4 Kt hk g4 kt => ?_) fun pa H10 ys npa g10 epa hyl2 hyr => ?_
        · walk_at "aw"
          refine ⟨rfl, ?_⟩
          walk_at "aw"
          refine w_draw g4.ok (by decide) (by decide) fun m H5 hm0 hm1 g5 => ?_
          refine w_sign hm0 hm1 fun c hc => ?_
          exact kt _ _ g5 ⟨_, rfl, okS_one (SG_ok c (List.mem_of_getElem? hc)), rfl⟩
        obtain ⟨us, rfl, hus⟩ := signs_list hyr
        rw [List.length_map] at hyl2
        refine join1 epa hus (by omega) fun nm2 hnm2 hnml2 => ?_
        walk_at "aw"
        refine w_addS (by omega) ?_
        walk_at "aw"
        have hcl := cutS_length (nm2 ++ nm) (some (-24)) none
        rw [len_app] at hcl
        refine w_slS (by rw [len_app]; omega) ?_
        have g910 := g9.trans g10
        walk_at "aw"
        exact hD _ H10 ⟨_, y12, rfl, g8.trans g910, g910.keep nof ef8, g910.keep ofa efa8, g910.keep orw erw8, okS_cut (okS_app hnm2 hnm), by omega, cutS_pos (by rw [len_app]; omega)⟩
      walk_at "aw"
      refine w_iteB (fun _ => other _ rfl) fun _ => ?_
      walk_at "aw"
      cases alike with
      | true =>
        walk_at "aw"
        exact same
      | false =>
        walk_at "aw"
        exact other _ rfl
    · obtain ⟨nm, y12, rfl, g9, ef9, efa9, erw9, hnm, hnml, hnp⟩ := hR
      walk_at "aw"
      refine w_forJ (fun σ' H' => H' = H9 ∧ ∃ (nm : Str) (y12 : Option V), σ' = [some (.ref st), some (.int (n : Nat)), some (.str SG), some (.int (z : Nat)), some (.int (j : Nat)), some (.ref fa), some (.int (i : Nat)), some (.ref rw), some (.bl alike), some (.ref f), some (.ref o), some (.str nm), y12] ∧ (okS nm ∧ nm.length ≤ 1000 ∧ 0 < nm.length) ∧ nm ∉ nms) (fun D' hD => ?_) fun σ' H' hR => ?_
      · refine kForR_i (n := 99) (by omega) (fun l σ' H' => H' = H9 ∧ ∃ (nm : Str) (y12 : Option V), σ' = [some (.ref st), some (.int (n : Nat)), some (.str SG), some (.int (z : Nat)), some (.int (j : Nat)), some (.ref fa), some (.int (i : Nat)), some (.ref rw), some (.bl alike), some (.ref f), some (.ref o), some (.str nm), y12] ∧ (okS nm ∧ nm.length ≤ 1000 ∧ 0 < nm.length) ∧ (∀ k, k + 1 = l → nm = NK k) ∧ ∀ k, k + 1 < l → NK k ∈ nms)
          ⟨rfl, nm, y12, rfl, ⟨hnm, by omega, hnp⟩, fun k hk => by omega, fun k hk => by omega⟩ (fun l σ' H' hl pp => ?_) fun σ' H' pp => ?_
        · obtain ⟨rfl, nm, y12, rfl, hnm, h1, h2⟩ := pp
          walk_at "aw"
          refine w_notIn ef9 ?_
          walk_at "aw"
          refine w_iteNB (fun h => ?_) fun h => ?_
          · exact hD _ _ ⟨rfl, nm, _, rfl, hnm, h⟩
          · walk_at "aw"
            refine w_str (by omega) ?_
            have := SK_len l hl
            refine w_addS (show (Str.ofString "n").length + (SK (l : Nat)).length ≤ 100000 from by rw [show (Str.ofString "n").length = 1 from by decide +kernel]; omega) ?_
            walk_at "aw"
            refine ⟨rfl, NK l, _, rfl, ⟨(NK_ok l hl).1, by have := (NK_ok l hl).2; omega, (NK_ok l hl).2.2⟩, fun k hk => by rw [show k = l by omega], fun k hk => ?_⟩
            by_cases e : k + 1 = l
            · rw [← h1 k e]
              exact h
            · exact h2 k (by omega)
        · obtain ⟨rfl, nm, y12, rfl, hnm, h1, h2⟩ := pp
          have := NK_nd.length_le_of_subset (l₂ := nms) fun y hy => by
            obtain ⟨k, hk, rfl⟩ := List.mem_map.mp hy
            exact h2 k (by have := List.mem_range.mp hk; omega)
          rw [List.length_map, List.length_range] at this
          omega
      · obtain ⟨rfl, nm, y12, rfl, hnm, hnn⟩ := hR
        walk_at "aw"
        refine w_app rfl ef9 ?_
        walk_at "aw"
        refine w_append ef9 (by rw [List.length_map]; omega) ?_
        walk_at "aw"
        refine ⟨_, _, _, _, nms ++ [nm], rfl, g9.mutL ok nf0 ef9, ?_, ?_, ?_, by rw [List.length_append, hnl]; rfl, ?_, fun y hy => ?_⟩
        · rw [upd_same, List.map_append]
          rfl
        · rw [upd_ne hfaf]
          exact efa9
        · rw [upd_ne hrwf]
          exact erw9
        · rw [List.nodup_append]
          refine ⟨hnd, by simp, fun a ha b hb e => ?_⟩
          rw [List.mem_singleton.mp hb] at e
          exact hnn (e ▸ ha)
        · rcases List.mem_append.mp hy with hy | hy
          · exact hnok y hy
          · rw [List.mem_singleton.mp hy]
            exact hnm
  · obtain ⟨y6, y10, y11, y12, nms, rfl, g, ef, efa, erw, hnl, hnd, hnok⟩ := pp
    walk_at "aw"
    exact q f nms H' g nf0 ef hnl hnd (fun x hx => (hnok x hx).1) (fun x hx => (hnok x hx).2.1) fun x hx => (hnok x hx).2.2
end AW
namespace AW
open PySem PySem.Spec PyProof.Rows L2 RZ
open StX
local macro_rules | `(tactic| walk_at "aw1") => `(tactic| first
  | (with_reducible refine w_seq ?_) | (with_reducible refine w_asg ?_) | (with_reducible refine w_gname ?_) | (with_reducible refine w_op ?_) | (with_reducible refine w_un ?_)
  | ((with_reducible refine' w_var ?h ?_); (case h => rfl)) | (with_reducible refine w_c ?_)
  | (with_reducible refine w_I0 ?_) | (with_reducible refine w_U ?_) | (with_reducible refine w_cb ?_) | (with_reducible refine w_nil ?_) | (with_reducible refine w_cons ?_) | (with_reducible refine w_call ?_)
  | (with_reducible refine w_test ?_) | (with_reducible refine w_B ?_) | (with_reducible refine w_bl ?_) | (with_reducible refine w_not ?_) | (with_reducible refine w_yes ?_) | (with_reducible refine iteT ?_) | (with_reducible refine iteF ?_) | (with_reducible refine w_and ?_) | (with_reducible refine w_or ?_)
  | (with_reducible refine w_andV ?_) | (with_reducible refine w_orV ?_) | (with_reducible refine w_notV ?_) | (with_reducible refine w_if ?_)
  | (with_reducible refine w_int1 ?_) | (with_reducible refine w_int1b ?_) | (with_reducible refine w_abs ?_) | (with_reducible refine w_max2 ?_) | (with_reducible refine w_min2 ?_)
  | ((with_reducible refine w_eq ?h ?_); (case h => rfl)) | ((with_reducible refine w_ne ?h ?_); (case h => rfl)) | (with_reducible refine w_isN ?_) | (with_reducible refine w_isB ?_) | (with_reducible refine w_chain ?_)
  | (with_reducible refine w_ret ?_) | (with_reducible refine w_drop ?_) | (with_reducible refine w_ifS ?_) | (with_reducible refine w_gsub ?_) | (with_reducible refine w_augS ?_) | (with_reducible refine w_ipI ?_) | (with_reducible refine w_next ?_)
  | (with_reducible refine w_forR ?_) | (with_reducible refine w_forR2 ?_) | (with_reducible refine w_forL ?_) | (with_reducible refine w_forT ?_) | (with_reducible refine w_lcR ?_) | (with_reducible refine w_lcL ?_) | (with_reducible refine w_lcT ?_) | (with_reducible refine w_sl ?_) | (with_reducible refine w_part ?_) | (with_reducible refine w_noPart ?_) | (with_reducible refine w_in ?_)
  | (with_reducible refine w_gcons ?_) | (with_reducible refine w_gnil ?_) | (with_reducible refine w_lc3 ?_) | (with_reducible refine w_dcZ ?_) | (with_reducible refine w_dcT ?_) | (with_reducible refine w_dg ?_) | (with_reducible refine w_callK ?_) | (with_reducible refine w_dput ?_) | (with_reducible refine w_tup1 ?_)
  | (with_reducible refine w_tup ?_) | (with_reducible refine w_lst ?_)
  | ((with_reducible refine w_I ?h ?_); (case h => first | (exact Or.inr ⟨by decide, by decide⟩) | (exact Or.inl ⟨by decide, by decide⟩) | (show (0 : Int) < _; decide) | (exact ⟨by decide, by decide, by decide⟩) | assumption)))
local macro_rules | `(tactic| walk_at "aw") => `(tactic| repeat (walk_at "aw1"))
def tyD : PyData → String
  | .none => "NoneType"
  | .bool _ => "bool"
  | .int _ => "int"
  | .str _ => "str"
  | _ => "tuple"
theorem is_ty {K : PySem.W.Frag} {H : Hp} {D : PyData} {v : V} (h : Is H D v) : TyB K H v (tyD D) := by
  cases h with
  | non => exact .non
  | bl b => exact .bl b
  | int i => exact .int i
  | str x => exact .str x
  | tup e _ => exact .tup (SqT.of e)
theorem meta_ty (D : PyData) : MetaT (tyD D) := by
  apply metaT_of
  cases D <;> simp [tyD]
def rIsTyB : R2 := fun x y H Q => ∃ a b, x = .ty a ∧ y = .ty b ∧ Q (.bl (decide (a = b))) H
theorem op_isTyB1 {X : Cx} : OpR X (compareOp .Is) rIsTyB := op_isTyB
theorem w_typ {K : PySem.W.Frag} {H : Hp} {D : PyData} {v : V} {Q : VK} (h : Is H D v) (q : Q (.ty (tyD D)) H) : rTyp K [v] H Q := ⟨v, _, rfl, is_ty h, q⟩
theorem w_isTy {a b : String} {H : Hp} {Q : VK} (q : Q (.bl (decide (a = b))) H) : rIsTyB (.ty a) (.ty b) H Q := ⟨a, b, rfl, rfl, q⟩
def lenIn (D : PyData) (f m : Int) : Bool := match D with
  | .tuple ds => decide (f ≤ (ds.length : Nat)) && decide (((ds.length : Nat) : Int) ≤ m)
  | _ => false
def sp_is_tuple (_ : PySem.W.Frag) : Sp := fun vs H Q _ => ∃ (v : V) (f m : Int), vs = [v, .int f, .int m] ∧ ∃ D, Is H D v ∧ Q (.bl (lenIn D f m)) H
def t_is_tuple (K : PySem.W.Frag) : TS := (tRet (tAndV (tOp rIsTyB (tCB (rTyp K) (tCons (tVar 0) tNil)) (tC (.ty "tuple"))) (tChain rLeI rLeI (tVar 1) (tCB (rLen1 K) (tCons (tVar 0) tNil)) (tVar 2))))
theorem len_is_tuple {K : PySem.W.Frag} : ∀ (vs : List V) (H : Hp) (Q : VK) (E : XK), sp_is_tuple K vs H Q E → vs.length = 3 := fun vs H Q E h => by
  obtain ⟨_, _, _, rfl, _⟩ := h
  rfl
theorem pure_is_tuple {K : PySem.W.Frag} (vs : List V) (H : Hp) (Q : VK) (E : XK) (h : sp_is_tuple K vs H Q E) : t_is_tuple K { nx := fun _ H' => Q .non H', rt := Q } (start ["value", "fewest", "most"] vs) H := by
  obtain ⟨v, f, m, rfl, D, hD, q⟩ := h
  show t_is_tuple K _ [some v, some (.int f), some (.int m)] H
  unfold t_is_tuple
  walk_at "aw"
  refine w_typ hD ?_
  walk_at "aw"
  refine w_isTy ?_
  walk_at "aw"
  cases hD with
  | tup e t =>
    refine w_iteB (fun _ => ?_) fun h => absurd rfl h
    have hl := t.length
    walk_at "aw"
    refine w_lenT (SqT.of e) ?_
    rw [hl]
    walk_at "aw"
    replace q : Q (.bl (decide (f ≤ (_ : Nat)) && decide (((_ : Nat) : Int) ≤ m))) H := q
    refine w_iteB (fun h1 => ?_) fun h1 => ?_
    · walk_at "aw"
      rw [decide_eq_true h1, Bool.true_and] at q
      exact q
    · rw [decide_eq_false h1, Bool.false_and] at q
      exact q
  | non => exact w_iteB (fun h => absurd h (by simp [tyD])) fun _ => q
  | bl b => exact w_iteB (fun h => absurd h (by simp [tyD])) fun _ => q
  | int i => exact w_iteB (fun h => absurd h (by simp [tyD])) fun _ => q
  | str x => exact w_iteB (fun h => absurd h (by simp [tyD])) fun _ => q
def isiD (D : PyData) (T : String) : Bool := decide (tyD D = T) || (decide (tyD D = "bool") && decide (T = "int"))
theorem w_isiD {K : PySem.W.Frag} {H : Hp} {D : PyData} {v : V} {T : String} {Q : VK} (h : Is H D v) (hT : T ∈ ["tuple", "str", "int", "bool"]) (q : Q (.bl (isiD D T)) H) : rIsi K [v, .ty T] H Q := by
  have key : ∃ t, TyX K H v (.type t) ∧ t = tyD D ∧ t ∈ ["NoneType", "bool", "int", "str", "tuple"] := by
    cases h with
    | non => exact ⟨_, .base .non, rfl, by simp⟩
    | bl b => exact ⟨_, .base (.bl b), rfl, by simp⟩
    | int i => exact ⟨_, .base (.int i), rfl, by simp⟩
    | str x => exact ⟨_, .base (.str x), rfl, by simp⟩
    | tup e _ => exact ⟨_, .base (.tup e), rfl, by simp⟩
  obtain ⟨t, ht, e, hm⟩ := key
  refine w_isi ht (r := isiD D T) ?_ q
  unfold isiD
  rw [← e]
  clear e ht q
  simp only [List.mem_cons, List.not_mem_nil, or_false] at hm hT
  rcases hm with rfl | rfl | rfl | rfl | rfl <;> rcases hT with rfl | rfl | rfl | rfl <;> decide +kernel
end AW
namespace AW
open PySem PySem.Spec PyProof.Rows L2
/-- the def x may let an exception out -/
structure CalX (P : Program) (w : World) (K : PySem.W.Frag) (mg : Str → Option Value) (base : Heap) (x : Str) (k : Nat) (ps : List Str) (sp : Sp) : Prop where
  ex : ∃ (f : Addr) (fd : FuncData), FnOk P w K mg base (L2.CX P w) k f fd ps sp ∧ PySem.W.keepIn K (.ref f) = true ∧ Binds K fd ps [] ∧ mg x = some (.ref f)
structure CalXK (P : Program) (w : World) (K : PySem.W.Frag) (mg : Str → Option Value) (base : Heap) (x : Str) (k : Nat) (ps ks : List Str) (gV : List V → List V → List V) (sp : Sp) : Prop where
  ex : ∃ (f : Addr) (fd : FuncData) (g : List Value → List Value → List Value), FnOk P w K mg base (L2.CX P w) k f fd ps sp ∧ PySem.W.keepIn K (.ref f) = true ∧ KBinds K fd ps ks g gV ∧ mg x = some (.ref f)
section
variable {X : Cx} {x : Str} {k : Nat} {ps ks : List Str} {sp : Sp} {E : L2.St → XK} {p pos : Pos} {e : Expr} {es : List Expr} {t : TA} {kws : List Keyword} {tk : TA} {gV : List V → List V → List V}
theorem pe_calX (C : CalX X.prog X.w X.K X.mg X.base x k ps sp) (hr : Room k X.A) (hg : Gl X x) (hx : ∀ σ, PassesAt (L2.CX X.prog X.w) X σ (E σ)) (ha : PA X (e :: es) t) (hdb : (x == ("__debug__" : Str)) = false := by decide)
    (he : starEach (e :: es) X.env = (false, eval e X.env) :: starEach es X.env := by rfl) (hpl : (backTo pos (starEach es X.env)).any (·.1) = false := by rfl) :
    PE X (.Call (.Name x p) (e :: es) [] pos) (tCallS sp E t) := by
  obtain ⟨f, fd, F, hk, hb, hm⟩ := C.ex
  exact pe_callS F hr hg hm hk hb hx ha hdb he hpl
/-- f(k = v, ..), f may raise -/
def tCallSK (sp : Sp) (gV : List V → List V → List V) (E : L2.St → XK) (tk : TA) : TE := fun σ H Q => tk σ H fun zs H2 => sp (gV [] zs) H2 Q (E σ)
theorem pe_calXK (C : CalXK X.prog X.w X.K X.mg X.base x k ps ks gV sp) (hr : Room k X.A) (hg : Gl X x) (hx : ∀ σ, PassesAt (L2.CX X.prog X.w) X σ (E σ)) (hkw : PK X kws tk)
    (hall : (backToKw pos (keywordEach kws X.env)).all (·.1.isSome) = true := by rfl) (hks : (backToKw pos (keywordEach kws X.env)).filterMap (·.1) = ks := by rfl)
    (hdb : (x == ("__debug__" : Str)) = false := by decide)
    (hpl : ((backTo pos (starEach [] X.env)).any (·.1) || (backToKw pos (keywordEach kws X.env)).any (·.1.isNone)) = false := by rfl) :
    PE X (.Call (.Name x p) [] kws pos) (tCallSK sp gV E tk) := by
  refine ⟨fun pins s σ H Q I h => ?_⟩
  obtain ⟨f, fd, g, F, hk, hb, hm⟩ := C.ex
  refine wpAny_Call_Name_kw (ld_glob I hg hm ?_ hdb)
  refine PySem.W.callWith_KW0 (h₀ := X.base) I.ok.mod.kin hk hall (thn (hkw.run pos pins s σ H _ I h) fun ws s2 ⟨zs, H2, I2, rz, q2⟩ => ⟨I2.kIn, ?_⟩) hpl
  rw [hks]
  have r2 := hb.rel .nil rz
  have hl : (g [] ws).length = ps.length := by rw [← r2.length]; exact F.len _ _ _ _ q2
  refine wpAny_call (codeAny_mono (F.run X.A X.stack s2 H2 ⟨[], ks.zip ws⟩ (g [] ws) (gV [] zs) Q (E σ) hr I2.env0 (hb.to s2 [] ws I2.kIn hl) r2 q2) fun r s' hq => ?_)
  match r, hq with
  | .error er, hq => exact hx σ pins H2 s2 er s' I2 hq
  | .ok (.ret u), hq => exact I2.after hq
  | .ok .next, hq => exact hq.elim
  | .ok .brk, hq => exact hq.elim
  | .ok .cont, hq => exact hq.elim
/-- a suite over an exception of the class C without fields -/
theorem pss_known {X : Cx} {a C : Addr} {oe : Obj} {cls : Value} {d : Option Addr} {pn : List (Addr × Obj)} {b : List Stmt} {t : TS} (h : Zc (.ref C) none oe → PSs (X.suite a ((a, oe) :: pn)) b t) (hz : Zc cls d oe) : PSs (X.suite a ((a, oe) :: pn)) b (fun D σ H => (cls = .ref C ∧ d = none) ∧ t D σ H) :=
  ⟨fun pins s σ H D I q => by
    obtain ⟨⟨rfl, rfl⟩, q⟩ := q
    exact (h hz).run pins s σ H D I q⟩
end
section
variable {K : PySem.W.Frag} {C D : Addr}
theorem sp_class : PySem.W.specialIn K (.builtin "object.__class__") "__get__" = some (some (.builtin "getset_descriptor.__get__")) := by
  show PySem.W.findIn K (.type "getset_descriptor") "__get__" = _
  show fastLookup "getset_descriptor" "__get__" = some (some (Value.builtin "getset_descriptor.__get__"))
  decide +kernel
theorem kit_cls (n : (PySem.W.clsIn K D).isSome = true) (y : PySem.W.typeIn K (.ref D) = some (.type "type")) : PySem.W.kitCls K (.ref C) (.ref D) = PySem.W.subIn K (.ref C) (.ref D) := by
  unfold PySem.W.kitCls
  simp only []
  rw [n, y]
  rfl
theorem kit_no (sC : PySem.W.subIn K (.ref C) (.ref C) = some true) (n : (PySem.W.clsIn K D).isSome = true) (y : PySem.W.typeIn K (.ref D) = some (.type "type")) (h : PySem.W.subIn K (.ref C) (.ref D) = some false) : PySem.W.kitOne K (.ref C) (.ref D) = some false := by
  unfold PySem.W.kitOne
  rw [if_neg, kit_cls n y, h]
  intro e
  have e2 : C = D := Value.ref.inj (beq_iff_eq.mp e)
  rw [← e2, sC] at h
  cases h
theorem kit_yes (n : (PySem.W.clsIn K D).isSome = true) (y : PySem.W.typeIn K (.ref D) = some (.type "type")) (h : PySem.W.subIn K (.ref C) (.ref D) = some true) : PySem.W.kitOne K (.ref C) (.ref D) = some true := by
  unfold PySem.W.kitOne
  split
  · rfl
  · rw [kit_cls n y, h]
theorem kit_ve (h : PySem.W.subIn K (.ref C) (.type "ValueError") = some true) : PySem.W.kitOne K (.ref C) (.type "ValueError") = some true := by
  unfold PySem.W.kitOne
  rw [if_neg (by intro e; cases beq_iff_eq.mp e)]
  unfold PySem.W.kitCls
  simp only []
  rw [if_pos (by decide +kernel), h]
theorem exm_me (b : PySem.W.subIn K (.ref C) (.type "BaseException") = some true) (n : (PySem.W.clsIn K C).isSome = true) (y : PySem.W.typeIn K (.ref C) = some (.type "type")) (sC : PySem.W.subIn K (.ref C) (.ref C) = some true) : PySem.W.exmOne K (.ref C) (.ref C) = some true := by
  unfold PySem.W.exmOne
  rw [b, if_pos (by decide), kit_cls n y, sC]
end
end AW
/-! expressions that make data of a bounded depth -/
namespace AW
open PySem PySem.Spec PyProof.Rows L2 RZ
theorem w_slA {K : PySem.W.Frag} {p : Addr} {xs : List V} {lo hi : Option Int} {H : Hp} {Q : VK} (h : H p = some (.tup xs)) (q : ∀ t H', Adv [] H H' → H' t = some (.tup (cutV xs lo hi)) → Q (.ref t) H') : rSlA K (.ref p) lo hi H Q := by
  refine ⟨p, xs, rfl, SqT.of h, fun z => q p H (.refl _ _) ?_, fun _ => w_new fun r H' _ a e => q r H' a e⟩
  rw [h]
  unfold cutV
  rw [z.1, z.2]
  simp
def Nc (d : Nat) (D : PyData) : Prop := D.canLay0 = true ∧ D.depth ≤ d
def Dat (d : Nat) (H : Hp) (v : V) : Prop := ∃ D, Is H D v ∧ Nc d D
theorem Nc.mono {d e : Nat} {D : PyData} (h : Nc d D) (z : d ≤ e) : Nc e D := ⟨h.1, Nat.le_trans h.2 z⟩
theorem Dat.up {d : Nat} {H H' : Hp} {v : V} (h : Dat d H v) (k : TK H H') : Dat d H' v := by
  obtain ⟨D, h, n⟩ := h
  exact ⟨D, h.up k, n⟩
theorem Dat.mono {d e : Nat} {H : Hp} {v : V} (h : Dat d H v) (z : d ≤ e) : Dat e H v := by
  obtain ⟨D, h, n⟩ := h
  exact ⟨D, h, n.mono z⟩
theorem Nc.int {d : Nat} (n : Int) : Nc d (.int n) := ⟨rfl, by simp [PyData.depth]⟩
theorem Nc.bl {d : Nat} (b : Bool) : Nc d (.bool b) := ⟨rfl, by simp [PyData.depth]⟩
theorem Nc.non {d : Nat} : Nc d .none := ⟨rfl, by simp [PyData.depth]⟩
theorem Nc.str {d : Nat} {x : Str} (h : okS x) : Nc d (.str x) := ⟨h, by simp [PyData.depth]⟩
theorem nc_all {d : Nat} : ∀ {ds : List PyData}, (∀ x ∈ ds, Nc d x) → PyData.canLayAll0 ds = true ∧ PyData.depthAll ds ≤ d
  | [], _ => ⟨rfl, by simp [PyData.depthAll]⟩
  | x :: ds, h => by
    obtain ⟨h1, h2⟩ := h x (List.mem_cons_self ..)
    obtain ⟨h3, h4⟩ := nc_all (ds := ds) fun y hy => h y (List.mem_cons_of_mem _ hy)
    refine ⟨by simp only [PyData.canLayAll0, h1, h3, Bool.and_self], ?_⟩
    simp only [PyData.depthAll]
    omega
theorem Nc.tup {d : Nat} {ds : List PyData} (h : ∀ x ∈ ds, Nc d x) : Nc (d + 1) (.tuple ds) := by
  obtain ⟨h1, h2⟩ := nc_all h
  exact ⟨h1, by simp only [PyData.depth]; omega⟩
theorem Nc.shaped {d : Nat} {D : PyData} (h : Nc d D) (z : d ≤ 64) : SeqAt.shaped D = true := by
  show (D.canLay0 && decide (D.depth ≤ 64)) = true
  rw [h.1, Bool.true_and]
  exact decide_eq_true (Nat.le_trans h.2 z)
def AllDat (d : Nat) (H : Hp) (xs : List V) : Prop := ∀ x ∈ xs, Dat d H x
theorem AllDat.up {d : Nat} {H H' : Hp} {xs : List V} (h : AllDat d H xs) (k : TK H H') : AllDat d H' xs := fun x hx => (h x hx).up k
theorem AllDat.mono {d e : Nat} {H : Hp} {xs : List V} (h : AllDat d H xs) (z : d ≤ e) : AllDat e H xs := fun x hx => (h x hx).mono z
theorem AllDat.is {d : Nat} {H : Hp} : ∀ {xs : List V}, AllDat d H xs → ∃ ds, IsAll H ds xs ∧ ∀ x ∈ ds, Nc d x
  | [], _ => ⟨[], .nil, fun _ h => nomatch h⟩
  | x :: xs, h => by
    obtain ⟨D, hd, hn⟩ := h x (List.mem_cons_self ..)
    obtain ⟨ds, hs, hm⟩ := AllDat.is (xs := xs) fun y hy => h y (List.mem_cons_of_mem _ hy)
    exact ⟨D :: ds, .cons hd hs, fun y hy => by
      rcases List.mem_cons.mp hy with rfl | hy
      · exact hn
      · exact hm y hy⟩
theorem IsAll.datN {d : Nat} {H : Hp} {ds : List PyData} {xs : List V} (h : IsAll H ds xs) (n : ∀ x ∈ ds, Nc d x) : AllDat d H xs := fun x hx => by
  obtain ⟨i, hi, rfl⟩ := List.mem_iff_getElem.mp hx
  obtain ⟨D, e, hd⟩ := h.get (List.getElem?_eq_getElem hi)
  exact ⟨D, hd, n D (List.mem_of_getElem? e)⟩
theorem Dat.tup {d : Nat} {H : Hp} {a : Addr} {xs : List V} (e : H a = some (.tup xs)) (h : AllDat d H xs) : Dat (d + 1) H (.ref a) := by
  obtain ⟨ds, hs, hn⟩ := h.is
  exact ⟨.tuple ds, .tup e hs, .tup hn⟩
section
variable {K : PySem.W.Frag} {σ : L2.St} {H : Hp} {te tf : TE} {ta : TA} {n m d e : Nat}
/-- a whole number comes out -/
def IE (te : TE) (σ : L2.St) (H : Hp) : Prop := ∀ (H' : Hp) (Q : VK), Adv [] H H' → (∀ (k : Int) H'', Adv [] H' H'' → Q (.int k) H'') → te σ H' Q
/-- a datum of at most d levels comes out -/
def DE (d : Nat) (te : TE) (σ : L2.St) (H : Hp) : Prop := ∀ (H' : Hp) (Q : VK), Adv [] H H' → (∀ v H'', Adv [] H' H'' → Dat d H'' v → Q v H'') → te σ H' Q
/-- a tuple of at most n data comes out -/
def TT' (d n : Nat) (te : TE) (σ : L2.St) (H : Hp) : Prop := ∀ (H' : Hp) (Q : VK), Adv [] H H' → (∀ a xs H'', Adv [] H' H'' → H'' a = some (.tup xs) → AllDat d H'' xs → xs.length ≤ n → Q (.ref a) H'') → te σ H' Q
/-- n data come out -/
def DA (d n : Nat) (ta : TA) (σ : L2.St) (H : Hp) : Prop := ∀ (H' : Hp) (Q : List V → Hp → Prop), Adv [] H H' → (∀ vs H'', Adv [] H' H'' → AllDat d H'' vs → vs.length = n → Q vs H'') → ta σ H' Q
/-- a slice's part -/
def PE' (to : TO) (σ : L2.St) (H : Hp) : Prop := ∀ (H' : Hp) (Q : Option Int → Hp → Prop), Adv [] H H' → (∀ o H'', Adv [] H' H'' → Q o H'') → to σ H' Q
theorem IE.de (h : IE te σ H) : DE d te σ H := fun H' Q a q => h H' Q a fun k H'' a' => q _ H'' a' ⟨_, .int k, .int k⟩
theorem TT'.de (h : TT' d n te σ H) : DE (d + 1) te σ H := fun H' Q a q => h H' Q a fun p xs H'' a' e dd _ => q _ H'' a' (.tup e dd)
theorem DE.mono (h : DE d te σ H) (z : d ≤ e) : DE e te σ H := fun H' Q a q => h H' Q a fun v H'' a' dd => q v H'' a' (dd.mono z)
theorem TT'.mono (h : TT' d n te σ H) (z : d ≤ e) : TT' e n te σ H := fun H' Q a q => h H' Q a fun p xs H'' a' ee dd l => q p xs H'' a' ee (dd.mono z) l
theorem TT'.de' (h : TT' d n te σ H) (z : d + 1 ≤ e) : DE e te σ H := h.de.mono z
theorem ie_c {k : Int} : IE (tC (.int k)) σ H := fun H' Q a q => q k H' (.refl _ _)
theorem ie_var {i : Nat} {k : Int} (h : σ[i]? = some (some (.int k))) : IE (tVar i) σ H := fun H' Q a q => ⟨_, h, q k H' (.refl _ _)⟩
theorem ie_add (h : IE te σ H) (g : IE tf σ H) : IE (tOp rAddI te tf) σ H := fun H' Q a q => h H' _ a fun k H1 a1 => g H1 _ (a.trans a1) fun l H2 a2 => ⟨k, l, rfl, rfl, q _ H2 (a1.trans a2)⟩
theorem ie_sub (h : IE te σ H) (g : IE tf σ H) : IE (tOp rSubI te tf) σ H := fun H' Q a q => h H' _ a fun k H1 a1 => g H1 _ (a.trans a1) fun l H2 a2 => ⟨k, l, rfl, rfl, q _ H2 (a1.trans a2)⟩
theorem ie_neg (h : IE te σ H) : IE (tUn rNeg te) σ H := fun H' Q a q => h H' _ a fun k H1 a1 => ⟨k, rfl, q _ H1 a1⟩
theorem de_c {v : V} (h : Dat d H v) : DE d (tC v) σ H := fun H' Q a q => q v H' (.refl _ _) (h.up a.tup)
theorem de_bl {b : Bool} : DE d (tC (.bl b)) σ H := de_c ⟨_, .bl b, .bl b⟩
theorem de_non : DE d (tC .non) σ H := de_c ⟨_, .non, .non⟩
theorem de_var {i : Nat} {v : V} (h : σ[i]? = some (some v)) (dd : Dat d H v) : DE d (tVar i) σ H := fun H' Q a q => ⟨v, h, q v H' (.refl _ _) (dd.up a.tup)⟩
theorem tt_var {i : Nat} {a : Addr} {xs : List V} (h : σ[i]? = some (some (.ref a))) (e : H a = some (.tup xs)) (dd : AllDat d H xs) (hl : xs.length ≤ n) : TT' d n (tVar i) σ H := fun H' Q g q => ⟨_, h, q a xs H' (.refl _ _) (g.tup _ _ e) (dd.up g.tup) hl⟩
theorem da_nil : DA d 0 tNil σ H := fun H' Q a q => q [] H' (.refl _ _) (fun _ h => nomatch h) rfl
theorem da_cons (h : DE d te σ H) (g : DA d n ta σ H) : DA d (n + 1) (tCons te ta) σ H := fun H' Q a q => h H' _ a fun v H1 a1 dd => g H1 _ (a.trans a1) fun vs H2 a2 ds hl => q _ H2 (a1.trans a2) (fun x hx => by
  rcases List.mem_cons.mp hx with rfl | hx
  · exact dd.up a2.tup
  · exact ds x hx) (by rw [List.length_cons, hl])
theorem tt_tup (h : DA d n ta σ H) (hn : n ≤ 100000) : TT' d n (tTup ta) σ H := fun H' Q a q => h H' _ a fun vs H1 a1 dd hl => w_tupD (by omega) fun t H2 nt a2 e => q t vs H2 (a1.trans a2) e (dd.up a2.tup) (by omega)
theorem tt_cat (h : TT' d n te σ H) (g : TT' d m tf σ H) (hz : n + m ≤ 100000) : TT' d (n + m) (tOp (rCatA K) te tf) σ H := fun H' Q a q => h H' _ a fun p xs H1 a1 e dd hl => g H1 _ (a.trans a1) fun r ys H2 a2 e2 d2 hl2 =>
  w_catT' (a2.tup _ _ e) e2 (by omega) fun t H3 a3 e3 => q t _ H3 (a1.trans (a2.trans a3)) e3 (fun x hx => by
    rcases List.mem_append.mp hx with hx | hx
    · exact (dd x hx).up (a2.trans a3).tup
    · exact (d2 x hx).up a3.tup) (by rw [List.length_append]; omega)
theorem pe'_no : PE' tNoPart σ H := fun H' Q a q => q none H' (.refl _ _)
theorem pe'_int (h : IE te σ H) : PE' (tPart te) σ H := fun H' Q a q => h H' _ a fun k H1 a1 => ⟨k, rfl, q _ H1 a1⟩
theorem cut_mem {xs : List V} {lo hi : Option Int} {x : V} (h : x ∈ cutV xs lo hi) : x ∈ xs := List.mem_of_mem_drop (List.mem_of_mem_take h)
theorem tt_slX {lo hi : TO} (h : TT' d n te σ H) (l : PE' lo σ H) (u : PE' hi σ H) : TT' d n (tSl (rSlX K) te lo hi) σ H := fun H' Q a q => h H' _ a fun p xs H1 a1 e dd hl => l H1 _ (a.trans a1) fun o H2 a2 => u H2 _ (a.trans (a1.trans a2)) fun o2 H3 a3 =>
  .inl (w_slA ((a2.trans a3).tup _ _ e) fun t H4 a4 e4 => q t _ H4 (a1.trans ((a2.trans a3).trans a4)) e4 (fun x hx => (dd x (cut_mem hx)).up ((a2.trans a3).trans a4).tup) (Nat.le_trans (cutV_length xs o o2) hl))
theorem tt_slA {lo hi : TO} (h : TT' d n te σ H) (l : PE' lo σ H) (u : PE' hi σ H) : TT' d n (tSl (rSlA K) te lo hi) σ H := fun H' Q a q => h H' _ a fun p xs H1 a1 e dd hl => l H1 _ (a.trans a1) fun o H2 a2 => u H2 _ (a.trans (a1.trans a2)) fun o2 H3 a3 =>
  w_slA ((a2.trans a3).tup _ _ e) fun t H4 a4 e4 => q t _ H4 (a1.trans ((a2.trans a3).trans a4)) e4 (fun x hx => (dd x (cut_mem hx)).up ((a2.trans a3).trans a4).tup) (Nat.le_trans (cutV_length xs o o2) hl)
theorem tt_rev (h : TT' d n te σ H) : TT' d n (tRevT K te) σ H := fun H' Q a q => h H' _ a fun p xs H1 a1 e dd hl => ⟨p, xs, rfl, SqT.of e, w_new fun t H2 nt a2 e2 => q t _ H2 (a1.trans a2) e2 (fun x hx => (dd x (List.mem_reverse.mp hx)).up a2.tup) (by rw [List.length_reverse]; exact hl)⟩
theorem ie_pow {a b : Int} (c : CPow a b) : IE (tOp rPowI (tC (.int a)) (tC (.int b))) σ H := fun H' Q g q => ⟨a, b, rfl, rfl, c, q _ H' (.refl _ _)⟩
theorem de_eq (h : IE te σ H) (g : IE tf σ H) : DE d (tOp rEq te tf) σ H := fun H' Q a q => h H' _ a fun k H1 a1 => g H1 _ (a.trans a1) fun l H2 a2 => ⟨rfl, q _ H2 (a1.trans a2) ⟨_, .bl _, .bl _⟩⟩
/-- a text of at most n signs comes out -/
def SE (n : Nat) (te : TE) (σ : L2.St) (H : Hp) : Prop := ∀ (H' : Hp) (Q : VK), Adv [] H H' → (∀ (x : Str) H'', Adv [] H' H'' → okS x → x.length ≤ n → Q (.str x) H'') → te σ H' Q
theorem SE.de (h : SE n te σ H) : DE d te σ H := fun H' Q a q => h H' Q a fun x H'' a' ok _ => q _ H'' a' ⟨_, .str x, .str ok⟩
theorem se_var {i : Nat} {x : Str} (h : σ[i]? = some (some (.str x))) (ok : okS x) (hl : x.length ≤ n) : SE n (tVar i) σ H := fun H' Q a q => ⟨_, h, q x H' (.refl _ _) ok hl⟩
theorem se_c {x : Str} (ok : okS x) (hl : x.length ≤ n) : SE n (tC (.str x)) σ H := fun H' Q a q => q x H' (.refl _ _) ok hl
theorem de_str {x : Str} (ok : okS x) : DE d (tC (.str x)) σ H := de_c ⟨_, .str x, .str ok⟩
theorem se_add (h : SE n te σ H) (g : SE m tf σ H) (hz : n + m ≤ 100000) : SE (n + m) (tOp rAddS te tf) σ H := fun H' Q a q => h H' _ a fun x H1 a1 ok hl => g H1 _ (a.trans a1) fun y H2 a2 ok2 hl2 =>
  ⟨x, y, rfl, rfl, Nat.le_trans (show x.length + y.length ≤ 100000 by omega) (by decide), q _ H2 (a1.trans a2) (okS_app ok ok2) (by rw [show (x ++ y).length = x.length + y.length from Array.size_append ..]; omega)⟩
theorem de_slS {lo hi : TO} (h : SE n te σ H) (hn : n ≤ 100000) (l : PE' lo σ H) (u : PE' hi σ H) : DE d (tSl (rSlX K) te lo hi) σ H := fun H' Q a q => h H' _ a fun x H1 a1 ok hl => l H1 _ (a.trans a1) fun o H2 a2 => u H2 _ (a.trans (a1.trans a2)) fun o2 H3 a3 =>
  .inr ⟨x, rfl, Nat.le_trans (show x.length ≤ 100000 by omega) (by decide), q _ H3 (a1.trans (a2.trans a3)) ⟨_, .str _, .str (okS_cut ok)⟩⟩
/-- a list of data -/
theorem lst_da {Q : VK} {H' : Hp} (h : DA d n ta σ H) (hn : n ≤ 100000) (a : Adv [] H H') (q : ∀ l xs H'', H' l = none → Adv [] H' H'' → H'' l = some (.lst xs) → AllDat d H'' xs → xs.length = n → Q (.ref l) H'') : tLst ta σ H' Q :=
  h H' _ a fun vs H1 a1 dd hl => w_lstD (by omega) fun l H2 nl a2 e => q l vs H2 (a1.free (fun z => nomatch z) nl) (a1.trans a2) e (dd.up a2.tup) hl
/-- a list comes out -/
def LE' (d n : Nat) (te : TE) (σ : L2.St) (H : Hp) : Prop := ∀ (H' : Hp) (Q : VK), Adv [] H H' → (∀ l xs H'', Adv [] H' H'' → H'' l = some (.lst xs) → AllDat d H'' xs → xs.length ≤ n → Q (.ref l) H'') → te σ H' Q
theorem le_var {i : Nat} {l : Addr} {xs : List V} (h : σ[i]? = some (some (.ref l))) (e : H l = some (.lst xs)) (dd : AllDat d H xs) (hl : xs.length ≤ n) : LE' d n (tVar i) σ H := fun H' Q g q => ⟨_, h, q l xs H' (.refl _ _) (g.keep _ _ (fun z => nomatch z) e) (dd.up g.tup) hl⟩
theorem le_lst (h : DA d n ta σ H) (hn : n ≤ 100000) : LE' d n (tLst ta) σ H := fun H' Q a q => lst_da h hn a fun l xs H'' nl a' e dd hl => q l xs H'' a' e dd (by omega)
end
end AW
namespace AW
open PySem PySem.Spec PyProof.Rows L2 RZ
open StX
local macro_rules | `(tactic| walk_at "aw1") => `(tactic| first
  | (with_reducible refine w_seq ?_) | (with_reducible refine w_asg ?_) | (with_reducible refine w_gname ?_) | (with_reducible refine w_op ?_) | (with_reducible refine w_un ?_)
  | ((with_reducible refine' w_var ?h ?_); (case h => rfl)) | (with_reducible refine w_c ?_)
  | (with_reducible refine w_I0 ?_) | (with_reducible refine w_U ?_) | (with_reducible refine w_cb ?_) | (with_reducible refine w_nil ?_) | (with_reducible refine w_cons ?_) | (with_reducible refine w_call ?_)
  | (with_reducible refine w_test ?_) | (with_reducible refine w_B ?_) | (with_reducible refine w_bl ?_) | (with_reducible refine w_not ?_) | (with_reducible refine w_yes ?_) | (with_reducible refine iteT ?_) | (with_reducible refine iteF ?_) | (with_reducible refine w_and ?_) | (with_reducible refine w_or ?_)
  | (with_reducible refine w_andV ?_) | (with_reducible refine w_orV ?_) | (with_reducible refine w_notV ?_) | (with_reducible refine w_if ?_)
  | (with_reducible refine w_int1 ?_) | (with_reducible refine w_int1b ?_) | (with_reducible refine w_abs ?_) | (with_reducible refine w_max2 ?_) | (with_reducible refine w_min2 ?_)
  | ((with_reducible refine w_eq ?h ?_); (case h => rfl)) | ((with_reducible refine w_ne ?h ?_); (case h => rfl)) | (with_reducible refine w_isN ?_) | (with_reducible refine w_isB ?_) | (with_reducible refine w_chain ?_)
  | (with_reducible refine w_ret ?_) | (with_reducible refine w_drop ?_) | (with_reducible refine w_ifS ?_) | (with_reducible refine w_gsub ?_) | (with_reducible refine w_augS ?_) | (with_reducible refine w_ipI ?_) | (with_reducible refine w_next ?_)
  | (with_reducible refine w_forR ?_) | (with_reducible refine w_forR2 ?_) | (with_reducible refine w_forL ?_) | (with_reducible refine w_forT ?_) | (with_reducible refine w_lcR ?_) | (with_reducible refine w_lcL ?_) | (with_reducible refine w_lcT ?_) | (with_reducible refine w_sl ?_) | (with_reducible refine w_part ?_) | (with_reducible refine w_noPart ?_) | (with_reducible refine w_in ?_)
  | (with_reducible refine w_gcons ?_) | (with_reducible refine w_gnil ?_) | (with_reducible refine w_lc3 ?_) | (with_reducible refine w_dcZ ?_) | (with_reducible refine w_dcT ?_) | (with_reducible refine w_dg ?_) | (with_reducible refine w_callK ?_) | (with_reducible refine w_dput ?_) | (with_reducible refine w_tup1 ?_)
  | (with_reducible refine w_tup ?_) | (with_reducible refine w_lst ?_)
  | ((with_reducible refine w_I ?h ?_); (case h => first | (exact Or.inr ⟨by decide, by decide⟩) | (exact Or.inl ⟨by decide, by decide⟩) | (show (0 : Int) < _; decide) | (exact ⟨by decide, by decide, by decide⟩) | assumption)))
local macro_rules | `(tactic| walk_at "aw") => `(tactic| repeat (walk_at "aw1"))
theorem iteT'' {c : Bool} {A B : Prop} (h : c = true) (a : A) : if c = true then A else B := by rw [if_pos h]; exact a
theorem iteF'' {c : Bool} {A B : Prop} (h : c = false) (a : B) : if c = true then A else B := by rw [if_neg (by rw [h]; decide)]; exact a
theorem w_catB {a b : Addr} {xs ys : List V} {H : Hp} {Q : VK} (h1 : H a = some (.lst xs)) (h2 : H b = some (.lst ys)) (hz : xs.length + ys.length ≤ 16777216) (q : ∀ r H', H r = none → Adv [] H H' → H' r = some (.lst (xs ++ ys)) → Q (.ref r) H') : rCat (.ref a) (.ref b) H Q :=
  ⟨a, b, xs, ys, rfl, rfl, h1, h2, by rw [sizeLine_eq]; omega, w_new q⟩
/-- what may be spoilt: numbers, truth values, texts, tuples of these, so many levels -/
inductive Sm : Nat → PyData → Prop where
  | int {k : Nat} (n : Int) : Sm k (.int n)
  | bl {k : Nat} (b : Bool) : Sm k (.bool b)
  | str {k : Nat} {x : Str} (h : okS x) (l : x.length ≤ 1000) : Sm k (.str x)
  | tup {k : Nat} {ds : List PyData} (l : ds.length ≤ 100) (h : ∀ d ∈ ds, Sm k d) : Sm (k + 1) (.tuple ds)
theorem Sm.nc : ∀ {k : Nat} {D : PyData}, Sm k D → Nc k D
  | _, _, .int n => .int n
  | _, _, .bl b => .bl b
  | _, _, .str h _ => .str h
  | _, _, .tup _ h => .tup fun d hd => (h d hd).nc
theorem w_pickD {K : PySem.W.Frag} {E : XK} {st : Addr} {cs : Addr × Addr} {p : Addr} {d : Nat} {xs : List V} {H : Hp} {Q : VK} (ok : StOk st cs H) (e : H p = some (.lst xs)) (np : Off p st cs) (dd : AllDat d H xs) (h0 : 0 < xs.length) (h1 : xs.length < 1000000) (q : ∀ v H', Go st cs H H' → Dat d H' v → Q v H') : sp__law_pick K [.ref st, .ref p] H Q E :=
  ⟨st, p, rfl, cs, xs, ok, .inl ⟨SqL.of e, np⟩, h0, h1, fun i v H' hv g => q v H' g ((dd v (List.mem_of_getElem? hv)).up g.tk)⟩
def isE : PyData → Bool
  | .tuple [] => true
  | _ => false
theorem w_neD0 {K : PySem.W.Frag} {H : Hp} {v : V} {b : Addr} {D : PyData} {d : Nat} {Q : VK} (h : Is H D v) (n : Nc d D) (z : d ≤ 64) (e : H b = some (.tup [])) (q : Q (.bl (!decide (isE D = true))) H) : rNeD K v (.ref b) H Q :=
  ⟨D, .tuple [], h.dp, .tup (SqT.of e) .nil, n.shaped z, by decide, by
    have y : PyData.eqv D (.tuple []) = decide (isE D = true) := by
      cases h with
      | tup _ t => cases t <;> simp [PyData.eqv, PyData.eqvAll, isE]
      | non => simp [PyData.eqv, isE]
      | bl b => cases b <;> simp [PyData.eqv, isE]
      | int n => simp [PyData.eqv, isE]
      | str x => simp [PyData.eqv, isE]
    rw [y]
    exact q⟩
theorem w_eqD0 {K : PySem.W.Frag} {H : Hp} {v : V} {b : Addr} {D : PyData} {d : Nat} {Q : VK} (h : Is H D v) (n : Nc d D) (z : d ≤ 64) (e : H b = some (.tup [])) (q : Q (.bl (decide (isE D = true))) H) : rEqD K v (.ref b) H Q :=
  ⟨D, .tuple [], h.dp, .tup (SqT.of e) .nil, n.shaped z, by decide, by
    have y : PyData.eqv D (.tuple []) = decide (isE D = true) := by
      cases h with
      | tup _ t => cases t <;> simp [PyData.eqv, PyData.eqvAll, isE]
      | non => simp [PyData.eqv, isE]
      | bl b => cases b <;> simp [PyData.eqv, isE]
      | int n => simp [PyData.eqv, isE]
      | str x => simp [PyData.eqv, isE]
    rw [y]
    exact q⟩
def sp__law_spoilt (_ : PySem.W.Frag) (m : Nat) : Sp := fun vs H Q _ => ∃ (st : Addr) (v : V) (deep : Int), vs = [.ref st, v, .int deep] ∧ ∃ cs D k, StOk st cs H ∧ Is H D v ∧ Sm k D ∧ k < m ∧ k ≤ 20 ∧ ∀ v' H', Go st cs H H' → Dat (k + 3) H' v' → Q v' H'
def t__law_spoilt (K : PySem.W.Frag) (m : Nat) : TS := (tSeq (tIfS (tB (tCB (rIsi K) (tCons (tVar 1) (tCons (tC (.ty "tuple")) tNil)))) (tSeq (tIfS (tAnd (tTest (tOp (rNeD K) (tVar 1) (tTup tNil))) (tAnd (tTest (tOp rGtI (tVar 2) (tC (.int 0)))) (tTest (tOp rGtI (tCall (sp__law_draw K) [] E0 (tCons (tVar 0) (tCons (tC (.int 5)) tNil))) (tC (.int 0)))))) (tSeq (tAsg (tCall (sp__law_draw K) [] E0 (tCons (tVar 0) (tCons (tCB (rLen1 K) (tCons (tVar 1) tNil)) tNil))) (gName 3))
  (tRet (tOp (rCatA K) (tOp (rCatA K) (tSl (rSlX K) (tVar 1) tNoPart (tPart (tVar 3))) (tTup (tCons (tCall (sp__law_spoilt K m) [] E0 (tCons (tVar 0) (tCons (tOp (rIxA K) (tVar 1) (tVar 3)) (tCons (tOp rSubI (tVar 2) (tC (.int 1))) tNil)))) tNil))) (tSl (rSlX K) (tVar 1) (tPart (tOp rAddI (tVar 3) (tC (.int 1)))) tNoPart)))) tNext)
  (tSeq (tAsg (tCall (sp__law_draw K) [] E0 (tCons (tVar 0) (tCons (tOp rAddI (tCB (rLen1 K) (tCons (tVar 1) tNil)) (tC (.int 1))) tNil))) (gName 3))
  (tSeq (tAsg (tLst (tCons (tOp (rCatA K) (tVar 1) (tSl (rSlX K) (tVar 1) tNoPart (tPart (tC (.int 1))))) (tCons (tOp (rCatA K) (tSl (rSlX K) (tVar 1) tNoPart (tPart (tVar 3))) (tSl (rSlX K) (tVar 1) (tPart (tOp rAddI (tVar 3) (tC (.int 1)))) tNoPart)) (tCons (tOp (rCatA K) (tOp (rCatA K) (tSl (rSlX K) (tVar 1) tNoPart (tPart (tVar 3))) (tSl (rSlX K) (tVar 1) (tPart (tVar 3)) (tPart (tOp rAddI (tVar 3) (tC (.int 1)))))) (tSl (rSlX K) (tVar 1) (tPart (tVar 3)) tNoPart)) (tCons (tRevT K (tVar 1)) (tCons (tOp (rCatA K) (tVar 1) (tTup (tCons (tTup tNil) tNil))) tNil)))))) (gName 4))
  (tRet (tCall (sp__law_pick K) [] E0 (tCons (tVar 0) (tCons (tOp rCat (tVar 4) (tLst (tCons (tOp (rCatA K) (tOp (rCatA K) (tSl (rSlX K) (tVar 1) tNoPart (tPart (tVar 3))) (tTup (tCons (tC (.int 0)) tNil))) (tSl (rSlX K) (tVar 1) (tPart (tVar 3)) tNoPart)) (tCons (tOp (rCatA K) (tSl (rSlX K) (tVar 1) (tPart (tC (.int 1))) tNoPart) (tSl (rSlX K) (tVar 1) tNoPart (tPart (tC (.int 1))))) (tCons (tC .non) (tCons (tTup (tCons (tVar 1) tNil)) (tCons (tSl (rSlX K) (tVar 1) tNoPart (tPart (tUn rNeg (tC (.int 1))))) tNil))))))) tNil))))))) tNext)
  (tSeq (tIfS (tOr (tB (tCB (rIsi K) (tCons (tVar 1) (tCons (tC (.ty "bool")) tNil)))) (tTest (tOp rIsN (tVar 1) (tC .non)))) (tRet (tCall (sp__law_pick K) [] E0 (tCons (tVar 0) (tCons (tLst (tCons (tC (.bl true)) (tCons (tC (.bl false)) (tCons (tC (.int 1)) (tCons (tC (.int 0)) (tCons (tC .non) (tCons (tTup tNil) tNil))))))) tNil)))) tNext)
  (tSeq (tIfS (tB (tCB (rIsi K) (tCons (tVar 1) (tCons (tC (.ty "str")) tNil)))) (tRet (tCall (sp__law_pick K) [] E0 (tCons (tVar 0) (tCons (tLst (tCons (tOp rAddS (tVar 1) (tC (.str "x"))) (tCons (tSl (rSlX K) (tVar 1) (tPart (tC (.int 1))) tNoPart) (tCons (tC (.str "")) (tCons (tOp rAddS (tVar 1) (tC (.str "."))) (tCons (tC (.int 0)) (tCons (tC .non) (tCons (tTup (tCons (tVar 1) tNil)) (tCons (tOp rAddS (tC (.str "A")) (tVar 1)) tNil))))))))) tNil)))) tNext)
  (tSeq (tAsg (tIf (tTest (tOp rLtI (tCB rAbs (tCons (tVar 1) tNil)) (tOp rPowI (tC (.int 10)) (tC (.int 29))))) (tVar 1) (tC (.int 7))) (gName 5))
  (tRet (tCall (sp__law_pick K) [] E0 (tCons (tVar 0) (tCons (tLst (tCons (tOp rAddI (tVar 5) (tC (.int 1))) (tCons (tOp rSubI (tVar 5) (tC (.int 1))) (tCons (tOp rSubI (tC (.int 0)) (tVar 1)) (tCons (tOp rEq (tVar 1) (tC (.int 1))) (tCons (tC .non) (tCons (tC (.str "1")) (tCons (tTup (tCons (tVar 1) tNil)) (tCons (tOp rAddI (tVar 5) (tOp rPowI (tC (.int 10)) (tC (.int 6)))) (tCons (tC (.int 0)) tNil)))))))))) tNil))))))))
theorem len__law_spoilt {K : PySem.W.Frag} {m : Nat} : ∀ (vs : List V) (H : Hp) (Q : VK) (E : XK), sp__law_spoilt K m vs H Q E → vs.length = 3 := fun vs H Q E h => by
  obtain ⟨_, _, _, rfl, _⟩ := h
  rfl
theorem no__law_spoilt {K : PySem.W.Frag} {vs : List V} {H : Hp} {Q : VK} {E : XK} (h : sp__law_spoilt K 0 vs H Q E) : False := by
  obtain ⟨_, _, _, _, _, _, _, _, _, _, h, _⟩ := h
  omega
theorem pure__law_spoilt {K : PySem.W.Frag} {m : Nat} (vs : List V) (H : Hp) (Q : VK) (E : XK) (h : sp__law_spoilt K (m + 1) vs H Q E) : t__law_spoilt K m { nx := fun _ H' => Q .non H', rt := Q } (start ["bag", "value", "deep", "at", "made", "near"] vs) H := by
  obtain ⟨st, v, deep, rfl, cs, D, k, ok, hD, hk, hm, hk2, q⟩ := h
  show t__law_spoilt K m _ [some (.ref st), some v, some (.int deep), none, none, none] H
  unfold t__law_spoilt
  walk_at "aw"
  refine w_isiD hD (by simp) ?_
  walk_at "aw"
  cases hk with
  | int n =>
    refine iteF'' rfl ?_
    cases hD
    walk_at "aw"
    refine w_isiD (.int n) (by simp) ?_
    walk_at "aw"
    refine iteF'' rfl ?_
    walk_at "aw"
    refine w_iteB (fun h => by cases h) fun _ => ?_
    walk_at "aw"
    refine w_isiD (.int n) (by simp) ?_
    walk_at "aw"
    refine iteF'' (show isiD (.int n) "str" = false from rfl) ?_
    walk_at "aw"
    refine w_iteB (fun _ => ?_) fun _ => ?_
    · refine w_var (v := .int n) rfl ?_
      with_reducible refine w_gname ?_
      with_reducible refine w_ret ?_
      with_reducible refine w_call ?_
      with_reducible refine w_cons ?_
      refine w_var (v := .ref st) rfl ?_
      with_reducible refine w_cons ?_
      have iv : IE (tVar 1) [some (.ref st), some (.int n), some (.int deep), none, none, some (.int n)] H := ie_var rfl
      have ir : IE (tVar 5) [some (.ref st), some (.int n), some (.int deep), none, none, some (.int n)] H := ie_var rfl
      refine lst_da (d := k + 3) (da_cons (IE.de (ie_add ir ie_c)) (da_cons (IE.de (ie_sub ir ie_c)) (da_cons (IE.de (ie_sub ie_c iv)) (da_cons (de_eq iv ie_c) (da_cons de_non (da_cons (de_str (by unfold okS; decide +kernel)) (da_cons (TT'.de' (tt_tup (d := 0) (da_cons (IE.de iv) da_nil) (by decide)) (by omega))
        (da_cons (IE.de (ie_add ir (ie_pow ⟨by decide, by decide, by decide⟩))) (da_cons (IE.de ie_c) da_nil))))))))) (by decide) (.refl [] _) fun l1 xs1 H4 nl1 a4 el1 dl1 hl1 => ?_
      walk_at "aw"
      have g4 := Go.of ok a4
      exact w_pickD g4.ok el1 (ok.ne nl1).1 dl1 (by omega) (by omega) fun v H5 g5 d5 => q v H5 (g4.trans g5) d5

    · refine w_c ?_
      with_reducible refine w_gname ?_
      with_reducible refine w_ret ?_
      with_reducible refine w_call ?_
      with_reducible refine w_cons ?_
      refine w_var (v := .ref st) rfl ?_
      with_reducible refine w_cons ?_
      have iv : IE (tVar 1) [some (.ref st), some (.int n), some (.int deep), none, none, some (.int 7)] H := ie_var rfl
      have ir : IE (tVar 5) [some (.ref st), some (.int n), some (.int deep), none, none, some (.int 7)] H := ie_var rfl
      refine lst_da (d := k + 3) (da_cons (IE.de (ie_add ir ie_c)) (da_cons (IE.de (ie_sub ir ie_c)) (da_cons (IE.de (ie_sub ie_c iv)) (da_cons (de_eq iv ie_c) (da_cons de_non (da_cons (de_str (by unfold okS; decide +kernel)) (da_cons (TT'.de' (tt_tup (d := 0) (da_cons (IE.de iv) da_nil) (by decide)) (by omega))
        (da_cons (IE.de (ie_add ir (ie_pow ⟨by decide, by decide, by decide⟩))) (da_cons (IE.de ie_c) da_nil))))))))) (by decide) (.refl [] _) fun l1 xs1 H4 nl1 a4 el1 dl1 hl1 => ?_
      walk_at "aw"
      have g4 := Go.of ok a4
      exact w_pickD g4.ok el1 (ok.ne nl1).1 dl1 (by omega) (by omega) fun v H5 g5 d5 => q v H5 (g4.trans g5) d5

  | bl b =>
    refine iteF'' rfl ?_
    cases hD
    walk_at "aw"
    refine w_isiD (.bl b) (by simp) ?_
    walk_at "aw"
    refine iteT'' rfl ?_
    refine iteT'' rfl ?_
    with_reducible refine w_ret ?_
    with_reducible refine w_call ?_
    with_reducible refine w_cons ?_
    refine w_var (v := .ref st) rfl ?_
    with_reducible refine w_cons ?_
    refine lst_da (d := k + 3) (da_cons de_bl (da_cons de_bl (da_cons (IE.de ie_c) (da_cons (IE.de ie_c) (da_cons de_non (da_cons (TT'.de' (tt_tup (d := 0) da_nil (by decide)) (by omega)) da_nil)))))) (by decide) (.refl [] _) fun l1 xs1 H4 nl1 a4 el1 dl1 hl1 => ?_
    walk_at "aw"
    have g4 := Go.of ok a4
    exact w_pickD g4.ok el1 (ok.ne nl1).1 dl1 (by omega) (by omega) fun v H5 g5 d5 => q v H5 (g4.trans g5) d5

  | @str _ z hz hl =>
    refine iteF'' rfl ?_
    cases hD
    walk_at "aw"
    refine w_isiD (.str z) (by simp) ?_
    walk_at "aw"
    refine iteF'' rfl ?_
    walk_at "aw"
    refine w_iteB (fun h => by cases h) fun _ => ?_
    walk_at "aw"
    refine w_isiD (.str z) (by simp) ?_
    walk_at "aw"
    refine iteT'' (show isiD (.str z) "str" = true from rfl) ?_
    with_reducible refine w_ret ?_
    with_reducible refine w_call ?_
    with_reducible refine w_cons ?_
    refine w_var (v := .ref st) rfl ?_
    with_reducible refine w_cons ?_
    have sv : SE 1000 (tVar 1) [some (.ref st), some (.str z), some (.int deep), none, none, none] H := se_var rfl hz hl
    refine lst_da (d := k + 3) (da_cons (SE.de (se_add sv (se_c (n := 1) (by unfold okS; decide +kernel) (by decide)) (by decide))) (da_cons (de_slS sv (by decide) (pe'_int ie_c) pe'_no) (da_cons (de_str (by unfold okS; decide +kernel)) (da_cons (SE.de (se_add sv (se_c (n := 1) (by unfold okS; decide +kernel) (by decide)) (by decide))) (da_cons (IE.de ie_c)
      (da_cons de_non (da_cons (TT'.de' (tt_tup (d := 0) (da_cons (SE.de sv) da_nil) (by decide)) (by omega)) (da_cons (SE.de (se_add (se_c (n := 1) (by unfold okS; decide +kernel) (by decide)) sv (by decide))) da_nil)))))))) (by decide) (.refl [] _) fun l1 xs1 H4 nl1 a4 el1 dl1 hl1 => ?_
    walk_at "aw"
    have g4 := Go.of ok a4
    exact w_pickD g4.ok el1 (ok.ne nl1).1 dl1 (by omega) (by omega) fun v H5 g5 d5 => q v H5 (g4.trans g5) d5

  | @tup k ds hkl hsm =>
    have hD0 := hD
    have hnc : Nc (k + 1) (.tuple ds) := .tup fun d hd => (hsm d hd).nc
    obtain ⟨a, xs, rfl, ea, hxs⟩ := hD.tup_inv
    have hxl : xs.length = ds.length := hxs.length
    have hall : AllDat k H xs := hxs.datN fun d hd => (hsm d hd).nc
    have tail : ∀ N H2, Go st cs H H2 → (tSeq (tAsg (tCall (sp__law_draw K) [] E0 (tCons (tVar 0) (tCons (tOp rAddI (tCB (rLen1 K) (tCons (tVar 1) tNil)) (tC (.int 1))) tNil))) (gName 3))
  (tSeq (tAsg (tLst (tCons (tOp (rCatA K) (tVar 1) (tSl (rSlX K) (tVar 1) tNoPart (tPart (tC (.int 1))))) (tCons (tOp (rCatA K) (tSl (rSlX K) (tVar 1) tNoPart (tPart (tVar 3))) (tSl (rSlX K) (tVar 1) (tPart (tOp rAddI (tVar 3) (tC (.int 1)))) tNoPart)) (tCons (tOp (rCatA K) (tOp (rCatA K) (tSl (rSlX K) (tVar 1) tNoPart (tPart (tVar 3))) (tSl (rSlX K) (tVar 1) (tPart (tVar 3)) (tPart (tOp rAddI (tVar 3) (tC (.int 1)))))) (tSl (rSlX K) (tVar 1) (tPart (tVar 3)) tNoPart)) (tCons (tRevT K (tVar 1)) (tCons (tOp (rCatA K) (tVar 1) (tTup (tCons (tTup tNil) tNil))) tNil)))))) (gName 4))
  (tRet (tCall (sp__law_pick K) [] E0 (tCons (tVar 0) (tCons (tOp rCat (tVar 4) (tLst (tCons (tOp (rCatA K) (tOp (rCatA K) (tSl (rSlX K) (tVar 1) tNoPart (tPart (tVar 3))) (tTup (tCons (tC (.int 0)) tNil))) (tSl (rSlX K) (tVar 1) (tPart (tVar 3)) tNoPart)) (tCons (tOp (rCatA K) (tSl (rSlX K) (tVar 1) (tPart (tC (.int 1))) tNoPart) (tSl (rSlX K) (tVar 1) tNoPart (tPart (tC (.int 1))))) (tCons (tC .non) (tCons (tTup (tCons (tVar 1) tNil)) (tCons (tSl (rSlX K) (tVar 1) tNoPart (tPart (tUn rNeg (tC (.int 1))))) tNil))))))) tNil)))))) { nx := N, rt := Q } [some (.ref st), some (.ref a), some (.int deep), none, none, none] H2 := fun N H2 g2 => by
      have e2 := g2.tk _ _ ea
      have d2 := hall.up g2.tk
      walk_at "aw"
      refine w_lenT (SqT.of e2) ?_
      walk_at "aw"
      refine w_draw g2.ok (by omega) (by omega) fun i H3 i0 i1 g3 => ?_
      have e3 := g3.tk _ _ e2
      have d3 := d2.up g3.tk
      with_reducible refine w_gname ?_
      with_reducible refine w_seq ?_
      with_reducible refine w_asg ?_
      have V1 : ∀ {σ : L2.St}, σ[1]? = some (some (.ref a)) → ∀ {H'}, Adv [] H3 H' → TT' (k + 1) 100 (tVar 1) σ H' := fun {_} h {_} aa => (tt_var h (aa.tup _ _ e3) (d3.up aa.tup) (by omega)).mono (Nat.le_succ k)
      have hv := V1 (σ := [some (.ref st), some (.ref a), some (.int deep), some (.int i), none, none]) rfl (.refl [] H3)
      have hi : IE (tVar 3) [some (.ref st), some (.ref a), some (.int deep), some (.int i), none, none] H3 := ie_var rfl
      refine lst_da (d := k + 4) (da_cons (TT'.de' (tt_cat hv (tt_slX hv pe'_no (pe'_int ie_c)) (by decide)) (by omega)) (da_cons (TT'.de' (tt_cat (tt_slX hv pe'_no (pe'_int hi)) (tt_slX hv (pe'_int (ie_add hi ie_c)) pe'_no) (by decide)) (by omega))
        (da_cons (TT'.de' (tt_cat (tt_cat (tt_slX hv pe'_no (pe'_int hi)) (tt_slX hv (pe'_int hi) (pe'_int (ie_add hi ie_c))) (by decide)) (tt_slX hv (pe'_int hi) pe'_no) (by decide)) (by omega)) (da_cons (TT'.de' (tt_rev hv) (by omega)) (da_cons (TT'.de' (tt_cat hv (tt_tup (da_cons (TT'.de' (tt_tup (d := 0) da_nil (by decide)) (by omega)) da_nil) (by decide)) (by decide)) (by omega)) da_nil))))) (by decide) (.refl [] _) fun l1 xs1 H4 nl1 a4 el1 dl1 hl1 => ?_
      with_reducible refine w_gname ?_
      with_reducible refine w_ret ?_
      with_reducible refine w_call ?_
      with_reducible refine w_cons ?_
      refine w_var (v := .ref st) rfl ?_
      with_reducible refine w_cons ?_
      with_reducible refine w_op ?_
      refine w_var (v := .ref l1) rfl ?_
      have hv := V1 (σ := [some (.ref st), some (.ref a), some (.int deep), some (.int i), some (.ref l1), none]) rfl a4
      have hi : IE (tVar 3) [some (.ref st), some (.ref a), some (.int deep), some (.int i), some (.ref l1), none] H4 := ie_var rfl
      refine lst_da (d := k + 4) (da_cons (TT'.de' (tt_cat (tt_cat (tt_slX hv pe'_no (pe'_int hi)) (tt_tup (da_cons (IE.de ie_c) da_nil) (by decide)) (by decide)) (tt_slX hv (pe'_int hi) pe'_no) (by decide)) (by omega)) (da_cons (TT'.de' (tt_cat (tt_slX hv (pe'_int ie_c) pe'_no) (tt_slX hv pe'_no (pe'_int ie_c)) (by decide)) (by omega))
        (da_cons de_non (da_cons (TT'.de' (tt_tup (da_cons (TT'.de hv) da_nil) (by decide)) (by omega)) (da_cons (TT'.de' (tt_slX hv pe'_no (pe'_int (ie_neg ie_c))) (by omega)) da_nil))))) (by decide) (.refl [] _) fun l2 xs2 H5 nl2 a5 el2 dl2 hl2 => ?_
      refine w_catB (a5.keep _ _ (fun z => nomatch z) el1) el2 (by omega) fun l3 H6 nl3 a6 el3 => ?_
      walk_at "aw"
      have g6 := Go.of g3.ok (a4.trans (a5.trans a6))
      refine w_pickD g6.ok el3 (Go.of g3.ok (a4.trans a5) |>.ok.ne nl3).1 (d := k + 4) (fun x hx => ?_) (by rw [List.length_append]; omega) (by rw [List.length_append]; omega) fun v H7 g7 d7 => q v H7 ((g2.trans g3).trans (g6.trans g7)) d7
      rcases List.mem_append.mp hx with hx | hx
      · exact (dl1 x hx).up (a5.trans a6).tup
      · exact (dl2 x hx).up a6.tup
    refine iteT'' rfl ?_
    walk_at "aw"
    refine w_tupD (by decide) fun tz H1 nz a1 etz => ?_
    have ea1 := a1.tup _ _ ea
    have g1 := Go.of ok a1
    refine w_neD0 (hD0.up a1.tup) hnc (by omega) etz ?_
    walk_at "aw"
    refine w_iteNB (fun hne => ?_) fun _ => ?_
    · walk_at "aw"
      refine w_iteB (fun hd => ?_) fun _ => ?_
      · walk_at "aw"
        refine w_draw g1.ok (by decide) (by decide) fun z H2 _ _ g2 => ?_
        walk_at "aw"
        refine w_iteB (fun hz => ?_) fun _ => ?_
        · have hkp : 0 < ds.length := by
            cases ds with
            | nil => exact absurd rfl hne
            | cons _ _ => exact Nat.succ_pos _
          walk_at "aw"
          refine w_lenT (SqT.of (g2.tk _ _ ea1)) ?_
          walk_at "aw"
          refine w_draw g2.ok (by omega) (by omega) fun i H3 i0 i1 g3 => ?_
          have e3 := g3.tk _ _ (g2.tk _ _ ea1)
          have k3 : TK H H3 := TK.trans a1.tup (TK.trans g2.tk g3.tk)
          have d3 := hall.up k3
          with_reducible refine w_gname ?_
          with_reducible refine w_ret ?_
          with_reducible refine w_op ?_
          with_reducible refine w_op ?_
          have hi : IE (tVar 3) [some (.ref st), some (.ref a), some (.int deep), some (.int i), none, none] H3 := ie_var rfl
          have hv : TT' k 100 (tVar 1) [some (.ref st), some (.ref a), some (.int deep), some (.int i), none, none] H3 := tt_var rfl e3 d3 (by omega)
          refine tt_slX (K := K) hv pe'_no (pe'_int hi) H3 _ (.refl _ _) fun ta xa H4 a4 eta dta hla => ?_
          walk_at "aw"
          have hit : i.toNat < xs.length := by omega
          have hat : atI xs i = some xs[i.toNat] := at_of (j := i.toNat) (by omega) (List.getElem?_eq_getElem hit)
          refine .inr (w_ixT (SqT.of (a4.tup _ _ e3)) hat ?_)
          walk_at "aw"
          have g4 := Go.of g3.ok a4
          obtain ⟨D1, hD1, hI1⟩ := hxs.get (List.getElem?_eq_getElem hit)
          refine ⟨st, _, deep - 1, rfl, cs, D1, k, g4.ok, hI1.up (TK.trans k3 a4.tup), hsm D1 (List.mem_of_getElem? hD1), by omega, by omega, fun v' H5 g5 d5 => ?_⟩
          walk_at "aw"
          refine w_tupD (by show 1 ≤ 100000; decide) fun tb H6 nb a6 etb => ?_
          have g6 := Go.of g5.ok a6
          refine w_catT' ((g5.trans g6).tk _ _ eta) etb (by show xa.length + 1 ≤ 100000; omega) fun tc H7 a7 etc => ?_
          have g7 := Go.of g6.ok a7
          have d7 : AllDat (k + 3) H7 (xa ++ [v']) := fun x hx => by
            rcases List.mem_append.mp hx with hx | hx
            · exact ((dta x hx).mono (by omega)).up (TK.trans g5.tk (TK.trans g6.tk g7.tk))
            · rw [List.mem_singleton.mp hx]
              exact d5.up (TK.trans g6.tk g7.tk)
          have gk : Go st cs H3 H7 := g4.trans (g5.trans (g6.trans g7))
          have hi7 : IE (tVar 3) [some (.ref st), some (.ref a), some (.int deep), some (.int i), none, none] H7 := ie_var rfl
          have hv7 : TT' k 100 (tVar 1) [some (.ref st), some (.ref a), some (.int deep), some (.int i), none, none] H7 := tt_var rfl (gk.tk _ _ e3) (d3.up gk.tk) (by omega)
          refine tt_slX (K := K) hv7 (pe'_int (ie_add hi7 ie_c)) pe'_no H7 _ (.refl _ _) fun td xd H8 a8 etd dtd hld => ?_
          refine w_catT' (a8.tup _ _ etc) etd (by rw [List.length_append]; show xa.length + 1 + xd.length ≤ 100000; omega) fun te H9 a9 ete => ?_
          have g9 := Go.of g7.ok (a8.trans a9)
          refine q _ H9 ((g1.trans g2).trans (g3.trans (gk.trans g9))) (.tup ete fun x hx => ?_)
          rcases List.mem_append.mp hx with hx | hx
          · exact (d7 x hx).up (a8.trans a9).tup
          · exact ((dtd x hx).mono (by omega)).up a9.tup
        · exact w_next (tail _ H2 (g1.trans g2))
      · exact iteF'' rfl (w_next (tail _ H1 g1))
    · exact iteF'' rfl (w_next (tail _ H1 g1))
end AW
namespace AW
open PySem PySem.Spec PyProof.Rows L2 RZ
open StX
local macro_rules | `(tactic| walk_at "aw1") => `(tactic| first
  | (with_reducible refine w_seq ?_) | (with_reducible refine w_asg ?_) | (with_reducible refine w_gname ?_) | (with_reducible refine w_op ?_) | (with_reducible refine w_un ?_)
  | ((with_reducible refine' w_var ?h ?_); (case h => rfl)) | (with_reducible refine w_c ?_)
  | (with_reducible refine w_I0 ?_) | (with_reducible refine w_U ?_) | (with_reducible refine w_cb ?_) | (with_reducible refine w_nil ?_) | (with_reducible refine w_cons ?_) | (with_reducible refine w_call ?_)
  | (with_reducible refine w_test ?_) | (with_reducible refine w_B ?_) | (with_reducible refine w_bl ?_) | (with_reducible refine w_not ?_) | (with_reducible refine w_yes ?_) | (with_reducible refine iteT ?_) | (with_reducible refine iteF ?_) | (with_reducible refine w_and ?_) | (with_reducible refine w_or ?_)
  | (with_reducible refine w_andV ?_) | (with_reducible refine w_orV ?_) | (with_reducible refine w_notV ?_) | (with_reducible refine w_if ?_)
  | (with_reducible refine w_int1 ?_) | (with_reducible refine w_int1b ?_) | (with_reducible refine w_abs ?_) | (with_reducible refine w_max2 ?_) | (with_reducible refine w_min2 ?_)
  | ((with_reducible refine w_eq ?h ?_); (case h => rfl)) | ((with_reducible refine w_ne ?h ?_); (case h => rfl)) | (with_reducible refine w_isN ?_) | (with_reducible refine w_isB ?_) | (with_reducible refine w_chain ?_)
  | (with_reducible refine w_ret ?_) | (with_reducible refine w_drop ?_) | (with_reducible refine w_ifS ?_) | (with_reducible refine w_gsub ?_) | (with_reducible refine w_augS ?_) | (with_reducible refine w_ipI ?_) | (with_reducible refine w_next ?_)
  | (with_reducible refine w_forR ?_) | (with_reducible refine w_forR2 ?_) | (with_reducible refine w_forL ?_) | (with_reducible refine w_forT ?_) | (with_reducible refine w_lcR ?_) | (with_reducible refine w_lcL ?_) | (with_reducible refine w_lcT ?_) | (with_reducible refine w_sl ?_) | (with_reducible refine w_part ?_) | (with_reducible refine w_noPart ?_) | (with_reducible refine w_in ?_)
  | (with_reducible refine w_gcons ?_) | (with_reducible refine w_gnil ?_) | (with_reducible refine w_lc3 ?_) | (with_reducible refine w_dcZ ?_) | (with_reducible refine w_dcT ?_) | (with_reducible refine w_dg ?_) | (with_reducible refine w_callK ?_) | (with_reducible refine w_dput ?_) | (with_reducible refine w_tup1 ?_)
  | (with_reducible refine w_tup ?_) | (with_reducible refine w_lst ?_)
  | ((with_reducible refine w_I ?h ?_); (case h => first | (exact Or.inr ⟨by decide, by decide⟩) | (exact Or.inl ⟨by decide, by decide⟩) | (show (0 : Int) < _; decide) | (exact ⟨by decide, by decide, by decide⟩) | assumption)))
local macro_rules | `(tactic| walk_at "aw") => `(tactic| repeat (walk_at "aw1"))
def isN (D : PyData) (lo hi : Int) : Bool := match D with
  | .int n => decide (lo ≤ n) && decide (n ≤ hi)
  | _ => false
def nameIn (names : List Str) (D : PyData) : Bool := match D with
  | .str x => decide (x ∈ names)
  | _ => false
def ltS (x y : Str) : Prop := x.cps.toList < y.cps.toList
instance (x y : Str) : Decidable (ltS x y) := by unfold ltS; infer_instance
def ascB (xs : List Str) : Bool := ((List.range (xs.length - 1)).map fun k => decide (ltS (xs.getD k Str.empty) (xs.getD (k + 1) Str.empty))).all id
def fstD (D : PyData) : PyData := match D with
  | .tuple (d :: _) => d
  | _ => .none
def txtD (D : PyData) : Str := match D with
  | .str x => x
  | _ => Str.empty
def isZ (w : PyData) : Bool := match w with
  | .int n => decide (n = 0)
  | _ => false
def isTerm (D : PyData) : Bool := match D with
  | .tuple [_, w] => isN w (-100) 100 && !isZ w
  | _ => false
/-- the dict at d has these keys -/
def DomK (H : Hp) (d : Addr) (names : List Str) : Prop := ∃ kvs, H d = some (.dK kvs) ∧ ∀ x : Str, (valV kvs (Sum.inr x)).isSome = decide (x ∈ names)
theorem DomK.up {H H' : Hp} {d : Addr} {names : List Str} (h : DomK H d names) (e : Adv [] H H') : DomK H' d names := by
  obtain ⟨kvs, h1, h2⟩ := h
  exact ⟨kvs, e.keep _ _ (fun z => nomatch z) h1, h2⟩
def unkB (names : List Str) (ds : List PyData) (m : Int) : Bool := decide (1 ≤ (ds.length : Int)) && decide ((ds.length : Int) ≤ m) && ds.all (nameIn names) && decide (ds.map txtD).Nodup
def trmB (names : List Str) (D : PyData) : Bool := match D with
  | .tuple ts => decide (1 ≤ (ts.length : Int)) && decide ((ts.length : Int) ≤ 12) && ts.all isTerm && unkB names (ts.map fstD) 12
  | _ => false
def ascT (t : PyData) : Bool := match t with
  | .tuple ts => ascB (ts.map fun d => txtD (fstD d))
  | _ => false
def wshB (names : List Str) (D : PyData) : Bool := match D with
  | .tuple [c, t, p] => isN c (-1000000) 1000000 && isN p 0 1 && (isE t || (trmB names t && ascT t))
  | _ => false
abbrev v_NUMBER_BOUND : V := .int 1000000
abbrev v_WEIGHT_BOUND : V := .int 100
abbrev v_MOST_NAMES : V := .int 12
abbrev v_MOST_WISHES : V := .int 3
def sp_is_number (_ : PySem.W.Frag) : Sp := fun vs H Q _ => ∃ (v : V) (lo hi : Int), vs = [v, .int lo, .int hi] ∧ ∃ D, Is H D v ∧ Q (.bl (isN D lo hi)) H
def sp_is_free_number (_ : PySem.W.Frag) : Sp := fun vs H Q _ => ∃ (v : V), vs = [v] ∧ ∃ D, Is H D v ∧ Q (.bl (isN D (-1000000) 1000000)) H
def sp_ascends (_ : PySem.W.Frag) : Sp := fun vs H Q _ => ∃ (l : Addr), vs = [.ref l] ∧ ∃ xs : List Str, H l = some (.lst (xs.map V.str)) ∧ 1 ≤ xs.length ∧ xs.length ≤ 1000 ∧ ∀ H', Adv [] H H' → Q (.bl (ascB xs)) H'
def sp_is_unknown (_ : PySem.W.Frag) : Sp := fun vs H Q _ => ∃ (d : Addr) (v : V), vs = [.ref d, v] ∧ ∃ names D, DomK H d names ∧ Is H D v ∧ Q (.bl (nameIn names D)) H
def sp_are_unknowns (_ : PySem.W.Frag) : Sp := fun vs H Q _ => ∃ (d t : Addr) (m : Int), vs = [.ref d, .ref t, .int m] ∧ ∃ names ds, DomK H d names ∧ Is H (.tuple ds) (.ref t) ∧ m ≤ 100 ∧ ∀ H', Adv [] H H' → Q (.bl (unkB names ds m)) H'
def sp_are_terms (_ : PySem.W.Frag) : Sp := fun vs H Q _ => ∃ (d : Addr) (v : V), vs = [.ref d, v] ∧ ∃ names D, DomK H d names ∧ Is H D v ∧ ∀ H', Adv [] H H' → Q (.bl (trmB names D)) H'
def sp__is_term (_ : PySem.W.Frag) : Sp := fun vs H Q _ => ∃ (v : V), vs = [v] ∧ ∃ D, Is H D v ∧ Q (.bl (isTerm D)) H
def sp__is_wish (_ : PySem.W.Frag) : Sp := fun vs H Q _ => ∃ (d : Addr) (v : V), vs = [.ref d, v] ∧ ∃ names D n, DomK H d names ∧ Is H D v ∧ Nc n D ∧ n ≤ 60 ∧ ∀ H', Adv [] H H' → Q (.bl (wshB names D)) H'
/-- a model: what stands in it by names -/
structure MdX (H : Hp) (m : V) (xs ys zs : List Str) : Prop where
  ex : ∃ (a b c d : Addr) (us ps qs : List V), m = .ref a ∧ H a = some (.tup [.ref b, .ref c, .ref d]) ∧ H b = some (.tup us) ∧ H c = some (.tup ps) ∧ H d = some (.tup qs) ∧
    us.length = xs.length ∧ ps.length = ys.length ∧ qs.length = zs.length ∧
    (∀ (i : Nat) u, us[i]? = some u → ∃ p v x, u = .ref p ∧ xs[i]? = some x ∧ H p = some (.tup [.str x, v])) ∧
    (∀ (i : Nat) u, ps[i]? = some u → ∃ p vs x, u = .ref p ∧ ys[i]? = some x ∧ H p = some (.tup (.str x :: vs))) ∧
    (∀ (i : Nat) u, qs[i]? = some u → ∃ p vs x, u = .ref p ∧ zs[i]? = some x ∧ H p = some (.tup (.str x :: vs)))
theorem MdX.up {H H' : Hp} {m : V} {xs ys zs : List Str} (h : MdX H m xs ys zs) (k : TK H H') : MdX H' m xs ys zs := by
  obtain ⟨a, b, c, d, us, ps, qs, h1, h2, h3, h4, h5, l1, l2, l3, e1, e2, e3⟩ := h
  refine ⟨a, b, c, d, us, ps, qs, h1, k _ _ h2, k _ _ h3, k _ _ h4, k _ _ h5, l1, l2, l3, fun i u e => ?_, fun i u e => ?_, fun i u e => ?_⟩
  · obtain ⟨p, v, x, g1, g2, g3⟩ := e1 i u e
    exact ⟨p, v, x, g1, g2, k _ _ g3⟩
  · obtain ⟨p, v, x, g1, g2, g3⟩ := e2 i u e
    exact ⟨p, v, x, g1, g2, k _ _ g3⟩
  · obtain ⟨p, v, x, g1, g2, g3⟩ := e3 i u e
    exact ⟨p, v, x, g1, g2, k _ _ g3⟩
def sp_domains_of (_ : PySem.W.Frag) : Sp := fun vs H Q _ => ∃ m, vs = [m] ∧ ∃ xs ys zs, MdX H m xs ys zs ∧ xs.length ≤ 100 ∧ ∀ d H', Adv [] H H' → DomK H' d xs → Q (.ref d) H'
def t_is_number (K : PySem.W.Frag) : TS := (tRet (tAndV (tOp rIsTyB (tCB (rTyp K) (tCons (tVar 0) tNil)) (tC (.ty "int"))) (tChain rLeI rLeI (tVar 1) (tVar 0) (tVar 2))))
def t_is_free_number (K : PySem.W.Frag) : TS := (tRet (tCall (sp_is_number K) [] E0 (tCons (tVar 0) (tCons (tUn rNeg (tC v_NUMBER_BOUND)) (tCons (tC v_NUMBER_BOUND) tNil)))))
def t_ascends (K : PySem.W.Frag) : TS := (tRet (tCB (rAll K) (tCons (tLc (iRng1 (tCons (tOp rSubI (tCB (rLen1 K) (tCons (tVar 0) tNil)) (tC (.int 1))) tNil)) (gName 1) tYes (tOp rLtS (tOp (rIxL K) (tVar 0) (tVar 1)) (tOp (rIxL K) (tVar 0) (tOp rAddI (tVar 1) (tC (.int 1))))) [1]) tNil)))
def t_is_unknown (K : PySem.W.Frag) : TS := (tRet (tAndV (tOp rIsTyB (tCB (rTyp K) (tCons (tVar 1) tNil)) (tC (.ty "str"))) (tDIn (tVar 1) (tVar 0))))
def t__is_term (K : PySem.W.Frag) : TS := (tRet (tAndV (tCall (sp_is_tuple K) [] E0 (tCons (tVar 0) (tCons (tC (.int 2)) (tCons (tC (.int 2)) tNil)))) (tAndV (tCall (sp_is_number K) [] E0 (tCons (tOp (rIxT K) (tVar 0) (tC (.int 1))) (tCons (tUn rNeg (tC v_WEIGHT_BOUND)) (tCons (tC v_WEIGHT_BOUND) tNil)))) (tOp rNe (tOp (rIxT K) (tVar 0) (tC (.int 1))) (tC (.int 0))))))
theorem bls_map {n : Nat} (f : Nat → Bool) : ((List.range n).filter fun _ => true).map (fun i => V.bl (f i)) = ((List.range n).map f).map V.bl := by
  rw [List.filter_eq_self.mpr fun _ _ => rfl, List.map_map]
  rfl
theorem len_is_number {K : PySem.W.Frag} : ∀ (vs : List V) (H : Hp) (Q : VK) (E : XK), sp_is_number K vs H Q E → vs.length = 3 := fun vs H Q E h => by
  obtain ⟨_, _, _, rfl, _⟩ := h
  rfl
theorem pure_is_number {K : PySem.W.Frag} (vs : List V) (H : Hp) (Q : VK) (E : XK) (h : sp_is_number K vs H Q E) : t_is_number K { nx := fun _ H' => Q .non H', rt := Q } (start ["value", "low", "high"] vs) H := by
  obtain ⟨v, lo, hi, rfl, D, hD, q⟩ := h
  show t_is_number K _ [some v, some (.int lo), some (.int hi)] H
  unfold t_is_number
  walk_at "aw"
  refine w_typ hD ?_
  walk_at "aw"
  refine w_isTy ?_
  walk_at "aw"
  cases hD with
  | int n =>
    refine w_iteB (fun _ => ?_) fun h => absurd rfl h
    walk_at "aw"
    unfold isN at q
    refine w_iteB (fun h1 => ?_) fun h1 => ?_
    · walk_at "aw"
      simp only [decide_eq_true h1, Bool.true_and] at q
      exact q
    · simp only [decide_eq_false h1, Bool.false_and] at q
      exact q
  | tup e t => exact w_iteB (fun h => absurd h (by simp [tyD])) fun _ => q
  | non => exact w_iteB (fun h => absurd h (by simp [tyD])) fun _ => q
  | bl b => exact w_iteB (fun h => absurd h (by simp [tyD])) fun _ => q
  | str x => exact w_iteB (fun h => absurd h (by simp [tyD])) fun _ => q
theorem len_is_free_number {K : PySem.W.Frag} : ∀ (vs : List V) (H : Hp) (Q : VK) (E : XK), sp_is_free_number K vs H Q E → vs.length = 1 := fun vs H Q E h => by
  obtain ⟨_, rfl, _⟩ := h
  rfl
theorem pure_is_free_number {K : PySem.W.Frag} (vs : List V) (H : Hp) (Q : VK) (E : XK) (h : sp_is_free_number K vs H Q E) : t_is_free_number K { nx := fun _ H' => Q .non H', rt := Q } (start ["value"] vs) H := by
  obtain ⟨v, rfl, D, hD, q⟩ := h
  show t_is_free_number K _ [some v] H
  unfold t_is_free_number
  walk_at "aw"
  refine ⟨v, -1000000, 1000000, rfl, D, hD, ?_⟩
  walk_at "aw"
  exact q
theorem len_ascends {K : PySem.W.Frag} : ∀ (vs : List V) (H : Hp) (Q : VK) (E : XK), sp_ascends K vs H Q E → vs.length = 1 := fun vs H Q E h => by
  obtain ⟨_, rfl, _⟩ := h
  rfl
theorem pure_ascends {K : PySem.W.Frag} (vs : List V) (H : Hp) (Q : VK) (E : XK) (h : sp_ascends K vs H Q E) : t_ascends K { nx := fun _ H' => Q .non H', rt := Q } (start ["items", "k"] vs) H := by
  obtain ⟨l, rfl, xs, e, h0, hl, q⟩ := h
  show t_ascends K _ [some (.ref l), none] H
  unfold t_ascends
  walk_at "aw"
  refine w_lenL (SqL.of e) ?_
  rw [List.length_map]
  walk_at "aw"
  rw [show ((xs.length : Nat) : Int) - 1 = ((xs.length - 1 : Nat) : Int) by omega]
  refine kLcR_pure (n := xs.length - 1) (by omega) (fun _ => true) (fun i => .bl (decide (ltS (xs.getD i Str.empty) (xs.getD (i + 1) Str.empty)))) (fun i H3 Kt Kf hi g2 kt kf => ?_) fun l2 H1 nl g1 el => ?_
  · walk_at "aw"
    refine ⟨rfl, ?_⟩
    walk_at "aw"
    have e3 := g2.keep _ _ (fun z => nomatch z) e
    refine w_ixL (SqL.of e3) (v := .str (xs.getD i Str.empty)) (at_of (j := i) (by omega) (by rw [List.getElem?_map, List.getElem?_eq_getElem (show i < xs.length by omega), List.getD_eq_getElem?_getD, List.getElem?_eq_getElem (show i < xs.length by omega)]; rfl)) ?_
    walk_at "aw"
    refine w_ixL (SqL.of e3) (v := .str (xs.getD (i + 1) Str.empty)) (at_of (j := i + 1) (by omega) (by rw [List.getElem?_map, List.getElem?_eq_getElem (show i + 1 < xs.length by omega), List.getD_eq_getElem?_getD, List.getElem?_eq_getElem (show i + 1 < xs.length by omega)]; rfl)) ?_
    exact ⟨_, _, rfl, rfl, kt rfl H3 (.refl _ _)⟩
  · rw [bls_map] at el
    walk_at "aw"
    exact ⟨l2, _, rfl, SqL.of el, q H1 g1⟩
theorem len_is_unknown {K : PySem.W.Frag} : ∀ (vs : List V) (H : Hp) (Q : VK) (E : XK), sp_is_unknown K vs H Q E → vs.length = 2 := fun vs H Q E h => by
  obtain ⟨_, _, rfl, _⟩ := h
  rfl
def kDIn (x y : V) (H : Hp) (Q : VK) : Prop := ∃ a o, x = .ref a ∧ DGet H a y o ∧ Q (.bl o.isSome) H
theorem w_din {ty td : TE} {σ : L2.St} {H : Hp} {Q : VK} (h : ty σ H fun y H1 => td σ H1 fun x H2 => kDIn x y H2 Q) : tDIn ty td σ H Q := h
theorem pure_is_unknown {K : PySem.W.Frag} (vs : List V) (H : Hp) (Q : VK) (E : XK) (h : sp_is_unknown K vs H Q E) : t_is_unknown K { nx := fun _ H' => Q .non H', rt := Q } (start ["domains", "value"] vs) H := by
  obtain ⟨d, v, rfl, names, D, hd, hD, q⟩ := h
  show t_is_unknown K _ [some (.ref d), some v] H
  unfold t_is_unknown
  walk_at "aw"
  refine w_typ hD ?_
  walk_at "aw"
  refine w_isTy ?_
  walk_at "aw"
  cases hD with
  | str x =>
    refine w_iteB (fun _ => ?_) fun h => absurd rfl h
    obtain ⟨kvs, ed, hk⟩ := hd
    walk_at "aw"
    refine w_din ?_
    walk_at "aw"
    refine ⟨d, _, rfl, DGet.k (k := Sum.inr x) ed, ?_⟩
    rw [hk x]
    exact q
  | tup e t => exact w_iteB (fun h => absurd h (by simp [tyD])) fun _ => q
  | non => exact w_iteB (fun h => absurd h (by simp [tyD])) fun _ => q
  | bl b => exact w_iteB (fun h => absurd h (by simp [tyD])) fun _ => q
  | int x => exact w_iteB (fun h => absurd h (by simp [tyD])) fun _ => q
theorem len__is_term {K : PySem.W.Frag} : ∀ (vs : List V) (H : Hp) (Q : VK) (E : XK), sp__is_term K vs H Q E → vs.length = 1 := fun vs H Q E h => by
  obtain ⟨_, rfl, _⟩ := h
  rfl
theorem pure__is_term {K : PySem.W.Frag} (vs : List V) (H : Hp) (Q : VK) (E : XK) (h : sp__is_term K vs H Q E) : t__is_term K { nx := fun _ H' => Q .non H', rt := Q } (start ["value"] vs) H := by
  obtain ⟨v, rfl, D, hD, q⟩ := h
  show t__is_term K _ [some v] H
  unfold t__is_term
  walk_at "aw"
  refine ⟨v, 2, 2, rfl, D, hD, ?_⟩
  walk_at "aw"
  cases hD with
  | tup e t =>
    match t, q with
    | .cons (d := d1) (v := v1) h1 (.cons (d := d2) (v := v2) h2 .nil), q =>
      refine iteT'' rfl ?_
      walk_at "aw"
      refine w_ixT (SqT.of e) (at_of (j := 1) rfl rfl) ?_
      walk_at "aw"
      refine ⟨v2, -100, 100, rfl, d2, h2, ?_⟩
      walk_at "aw"
      cases h2 with
      | int n =>
        by_cases hn : isN (.int n) (-100) 100 = true
        · refine iteT'' hn ?_
          walk_at "aw"
          refine w_ixT (SqT.of e) (at_of (j := 1) rfl rfl) ?_
          walk_at "aw"
          have q' : Q (.bl (isN (.int n) (-100) 100 && !decide (n = 0))) H := q
          rw [hn, Bool.true_and] at q'
          have ee : decide (V.int n = V.int 0) = decide (n = 0) := by simp
          rw [ee]
          exact q'
        · rw [Bool.not_eq_true] at hn
          refine iteF'' hn ?_
          have q' : Q (.bl (isN (.int n) (-100) 100 && !decide (n = 0))) H := q
          rw [hn, Bool.false_and] at q'
          exact q'
      | tup e t => exact iteF'' rfl q
      | non => exact iteF'' rfl q
      | bl b => exact iteF'' rfl q
      | str x => exact iteF'' rfl q
    | .nil, q => exact iteF'' rfl q
    | .cons _ .nil, q => exact iteF'' rfl q
    | .cons (d := d1) _ (.cons (d := d2) _ (.cons (d := d3) (ds := ds) _ _)), q =>
      refine iteF'' ?_ q
      show (decide ((2 : Int) ≤ ((d1 :: d2 :: d3 :: ds).length : Nat)) && decide ((((d1 :: d2 :: d3 :: ds).length : Nat) : Int) ≤ 2)) = false
      rw [decide_eq_false (p := (((d1 :: d2 :: d3 :: ds).length : Nat) : Int) ≤ 2) (by simp only [List.length_cons]; omega), Bool.and_false]
  | non => exact iteF'' rfl q
  | bl b => exact iteF'' rfl q
  | int n => exact iteF'' rfl q
  | str x => exact iteF'' rfl q
end AW
namespace AW
open PySem PySem.Spec PyProof.Rows L2 RZ
open StX
local macro_rules | `(tactic| walk_at "aw1") => `(tactic| first
  | (with_reducible refine w_seq ?_) | (with_reducible refine w_asg ?_) | (with_reducible refine w_gname ?_) | (with_reducible refine w_op ?_) | (with_reducible refine w_un ?_)
  | ((with_reducible refine' w_var ?h ?_); (case h => rfl)) | (with_reducible refine w_c ?_)
  | (with_reducible refine w_I0 ?_) | (with_reducible refine w_U ?_) | (with_reducible refine w_cb ?_) | (with_reducible refine w_nil ?_) | (with_reducible refine w_cons ?_) | (with_reducible refine w_call ?_)
  | (with_reducible refine w_test ?_) | (with_reducible refine w_B ?_) | (with_reducible refine w_bl ?_) | (with_reducible refine w_not ?_) | (with_reducible refine w_yes ?_) | (with_reducible refine iteT ?_) | (with_reducible refine iteF ?_) | (with_reducible refine w_and ?_) | (with_reducible refine w_or ?_)
  | (with_reducible refine w_andV ?_) | (with_reducible refine w_orV ?_) | (with_reducible refine w_notV ?_) | (with_reducible refine w_if ?_)
  | (with_reducible refine w_int1 ?_) | (with_reducible refine w_int1b ?_) | (with_reducible refine w_abs ?_) | (with_reducible refine w_max2 ?_) | (with_reducible refine w_min2 ?_)
  | ((with_reducible refine w_eq ?h ?_); (case h => rfl)) | ((with_reducible refine w_ne ?h ?_); (case h => rfl)) | (with_reducible refine w_isN ?_) | (with_reducible refine w_isB ?_) | (with_reducible refine w_chain ?_)
  | (with_reducible refine w_ret ?_) | (with_reducible refine w_drop ?_) | (with_reducible refine w_ifS ?_) | (with_reducible refine w_gsub ?_) | (with_reducible refine w_augS ?_) | (with_reducible refine w_ipI ?_) | (with_reducible refine w_next ?_)
  | (with_reducible refine w_forR ?_) | (with_reducible refine w_forR2 ?_) | (with_reducible refine w_forL ?_) | (with_reducible refine w_forT ?_) | (with_reducible refine w_lcR ?_) | (with_reducible refine w_lcL ?_) | (with_reducible refine w_lcT ?_) | (with_reducible refine w_sl ?_) | (with_reducible refine w_part ?_) | (with_reducible refine w_noPart ?_) | (with_reducible refine w_in ?_)
  | (with_reducible refine w_gcons ?_) | (with_reducible refine w_gnil ?_) | (with_reducible refine w_lc3 ?_) | (with_reducible refine w_dcZ ?_) | (with_reducible refine w_dcT ?_) | (with_reducible refine w_dg ?_) | (with_reducible refine w_callK ?_) | (with_reducible refine w_dput ?_) | (with_reducible refine w_tup1 ?_)
  | (with_reducible refine w_tup ?_) | (with_reducible refine w_lst ?_)
  | ((with_reducible refine w_I ?h ?_); (case h => first | (exact Or.inr ⟨by decide, by decide⟩) | (exact Or.inl ⟨by decide, by decide⟩) | (show (0 : Int) < _; decide) | (exact ⟨by decide, by decide, by decide⟩) | assumption)))
local macro_rules | `(tactic| walk_at "aw") => `(tactic| repeat (walk_at "aw1"))
def t_are_unknowns (K : PySem.W.Frag) : TS := (tSeq (tIfS (tOr (tNot (tB (tCall (sp_is_tuple K) [] E0 (tCons (tVar 1) (tCons (tC (.int 1)) (tCons (tVar 2) tNil)))))) (tNot (tB (tCB (rAll K) (tCons (tLc (iTup K (tVar 1)) (gName 3) tYes (tCall (sp_is_unknown K) [] E0 (tCons (tVar 0) (tCons (tVar 3) tNil))) [3]) tNil))))) (tRet (tC (.bl false))) tNext)
  (tRet (tOp rEq (tLenSetS K (tVar 1)) (tCB (rLen1 K) (tCons (tVar 1) tNil)))))
def t_are_terms (K : PySem.W.Frag) : TS := (tSeq (tIfS (tOr (tNot (tB (tCall (sp_is_tuple K) [] E0 (tCons (tVar 1) (tCons (tC (.int 1)) (tCons (tC v_MOST_NAMES) tNil)))))) (tNot (tB (tCB (rAll K) (tCons (tLc (iTup K (tVar 1)) (gName 2) tYes (tCall (sp__is_term K) [] E0 (tCons (tVar 2) tNil)) [2]) tNil))))) (tRet (tC (.bl false))) tNext)
  (tRet (tCall (sp_are_unknowns K) [] E0 (tCons (tVar 0) (tCons (tThen (tLc (iTup K (tVar 1)) (gTup K 2 (gCons (gName 3) (gCons (gName 4) gNil))) tYes (tVar 3) [3, 4]) (kTup K)) (tCons (tC v_MOST_NAMES) tNil))))))
theorem all_range {α : Type} (xs : List α) (f : α → Bool) (d : α) : ((List.range xs.length).map fun i => f (xs.getD i d)).all id = xs.all f := by
  rw [List.all_map, Bool.eq_iff_iff, List.all_eq_true, List.all_eq_true]
  constructor
  · intro h x hx
    obtain ⟨i, hi, rfl⟩ := List.mem_iff_getElem.mp hx
    have := h i (List.mem_range.mpr hi)
    show f xs[i] = true
    rw [← getD_of (d := d) (List.getElem?_eq_getElem hi)]
    exact this
  · intro h i hi
    have hi := List.mem_range.mp hi
    show f (xs.getD i d) = true
    rw [getD_of (List.getElem?_eq_getElem hi)]
    exact h _ (List.getElem_mem hi)
theorem len_are_unknowns {K : PySem.W.Frag} : ∀ (vs : List V) (H : Hp) (Q : VK) (E : XK), sp_are_unknowns K vs H Q E → vs.length = 3 := fun vs H Q E h => by
  obtain ⟨_, _, _, rfl, _⟩ := h
  rfl
theorem lenIn_tup {ds : List PyData} {f m : Int} : lenIn (.tuple ds) f m = (decide (f ≤ (ds.length : Int)) && decide ((ds.length : Int) ≤ m)) := rfl
theorem names_txt {H : Hp} {names : List Str} : ∀ {ds : List PyData} {vs : List V}, IsAll H ds vs → ds.all (nameIn names) = true → vs = (ds.map txtD).map V.str
  | [], _, .nil, _ => rfl
  | d :: ds, _, .cons h1 h2, f => by
    rw [List.all_cons, Bool.and_eq_true] at f
    have e := names_txt h2 f.2
    cases h1 with
    | str x => rw [e]; rfl
    | tup _ _ => exact absurd f.1 (by simp [nameIn])
    | int _ => exact absurd f.1 (by simp [nameIn])
    | bl _ => exact absurd f.1 (by simp [nameIn])
    | non => exact absurd f.1 (by simp [nameIn])
theorem pure_are_unknowns {K : PySem.W.Frag} (vs : List V) (H : Hp) (Q : VK) (E : XK) (h : sp_are_unknowns K vs H Q E) : t_are_unknowns K { nx := fun _ H' => Q .non H', rt := Q } (start ["domains", "value", "most", "x"] vs) H := by
  obtain ⟨d, t, m, rfl, names, ds, hd, hD, hm, q⟩ := h
  show t_are_unknowns K _ [some (.ref d), some (.ref t), some (.int m), none] H
  unfold t_are_unknowns
  walk_at "aw"
  refine ⟨.ref t, 1, m, rfl, _, hD, ?_⟩
  obtain ⟨a, xs, ea, et, hxs⟩ := hD.tup_inv
  cases ea
  have hxl := hxs.length
  have q0 := fun H' a' => q H' a'
  unfold unkB at q0
  rw [← lenIn_tup (f := 1)] at q0
  walk_at "aw"
  by_cases hl : lenIn (.tuple ds) 1 m = true
  · rw [hl, Bool.true_and] at q0
    refine iteF'' (by rw [hl]; rfl) ?_
    rw [lenIn_tup, Bool.and_eq_true, decide_eq_true_iff, decide_eq_true_iff] at hl
    walk_at "aw"
    refine ⟨t, rfl, ⟨_, SqT.of et⟩, kLc_pure (walk_tup (xs := xs)) (by omega) (fun H' g => SqT.of (g.tup _ _ et)) (fun _ => true) (fun i => .bl (nameIn names (ds.getD i .none))) (fun i x H2 H3 Kt Kf hi g2 y kt kf => ?_) fun l H1 nl g1 el => ?_⟩
    · obtain ⟨rfl, y1⟩ := y
      obtain ⟨dt, z1, hdt⟩ := hxs.get y1
      rw [getD_of z1] at kt
      walk_at "aw"
      refine ⟨rfl, ?_⟩
      walk_at "aw"
      exact ⟨d, x, rfl, names, dt, hd.up g2, hdt.up g2.tup, kt rfl _ (.refl _ _)⟩
    rw [bls_map fun i => nameIn names (ds.getD i .none), hxl] at el
    walk_at "aw"
    refine ⟨l, _, rfl, SqL.of el, ?_⟩
    rw [all_range]
    have q1 := q0 H1 g1
    walk_at "aw"
    by_cases ha : ds.all (nameIn names) = true
    · refine iteF'' (by rw [ha]; rfl) ?_
      rw [ha, Bool.true_and] at q1
      walk_at "aw"
      have e1 := g1.tup _ _ et
      rw [names_txt hxs ha] at e1
      refine ⟨.ref t, rfl, t, ds.map txtD, rfl, SqT.of e1, by rw [List.length_map]; omega, fun c hc => ?_⟩
      walk_at "aw"
      refine w_lenT (SqT.of e1) ?_
      walk_at "aw"
      have e2 : decide (V.int (c : Nat) = V.int (((ds.map txtD).map V.str).length : Nat)) = decide (ds.map txtD).Nodup := by
        rw [List.length_map, Bool.eq_iff_iff, decide_eq_true_iff, decide_eq_true_iff, ← hc]
        constructor
        · intro h
          have := V.int.inj h
          omega
        · intro h
          rw [h]
      rw [e2]
      exact q1
    · rw [Bool.not_eq_true] at ha
      refine iteT'' (by rw [ha]; rfl) ?_
      rw [ha, Bool.false_and] at q1
      walk_at "aw"
      exact q1
  · rw [Bool.not_eq_true] at hl
    rw [hl, Bool.false_and, Bool.false_and] at q0
    refine iteT'' (by rw [hl]; rfl) ?_
    walk_at "aw"
    exact q0 _ (.refl _ _)
theorem len_are_terms {K : PySem.W.Frag} : ∀ (vs : List V) (H : Hp) (Q : VK) (E : XK), sp_are_terms K vs H Q E → vs.length = 2 := fun vs H Q E h => by
  obtain ⟨_, _, rfl, _⟩ := h
  rfl
theorem isTerm_inv {H : Hp} {d : PyData} {v : V} (h : Is H d v) (ht : isTerm d = true) : ∃ p x y d1 d2, v = .ref p ∧ H p = some (.tup [x, y]) ∧ Is H d1 x ∧ Is H d2 y ∧ d = .tuple [d1, d2] ∧ fstD d = d1 := by
  cases h with
  | tup e t =>
    match t, ht with
    | .cons (d := d1) (v := v1) h1 (.cons (d := d2) (v := v2) h2 .nil), _ => exact ⟨_, v1, v2, d1, d2, rfl, e, h1, h2, rfl, rfl⟩
  | non => cases ht
  | bl _ => cases ht
  | int _ => cases ht
  | str _ => cases ht
/-- the first items of pairs -/
theorem firsts {H : Hp} {ds : List PyData} {xs : List V} (h : IsAll H ds xs) (ha : ds.all isTerm = true) : ∃ fs : List V, fs.length = xs.length ∧ IsAll H (ds.map fstD) fs ∧ ∀ (i : Nat) x f, xs[i]? = some x → fs[i]? = some f → ∃ p y, x = .ref p ∧ H p = some (.tup [f, y]) := by
  induction ds generalizing xs with
  | nil => cases h; exact ⟨[], rfl, .nil, fun i x f e => by simp at e⟩
  | cons d ds ih =>
    cases h with
    | cons h1 h2 =>
      rw [List.all_cons, Bool.and_eq_true] at ha
      obtain ⟨fs, g1, g2, g3⟩ := ih h2 ha.2
      obtain ⟨p, x, y, d1, d2, rfl, e, i1, i2, _, ef⟩ := isTerm_inv h1 ha.1
      refine ⟨x :: fs, by simp [g1], by rw [List.map_cons, ef]; exact .cons i1 g2, fun i u f e1 e2 => ?_⟩
      cases i with
      | zero =>
        simp at e1 e2
        subst e1 e2
        exact ⟨p, y, rfl, e⟩
      | succ i => exact g3 i u f (by simpa using e1) (by simpa using e2)
theorem vals_map {fs : List V} : ((List.range fs.length).filter fun _ => true).map (fun i => fs.getD i .non) = fs := by
  rw [List.filter_eq_self.mpr fun _ _ => rfl]
  apply List.ext_getElem?
  intro i
  rw [List.getElem?_map]
  by_cases hi : i < fs.length
  · rw [List.getElem?_range hi, List.getElem?_eq_getElem hi, Option.map_some, getD_of (List.getElem?_eq_getElem hi)]
  · rw [List.getElem?_eq_none (by simpa using hi), List.getElem?_eq_none (by omega)]
    rfl
theorem pure_are_terms {K : PySem.W.Frag} (vs : List V) (H : Hp) (Q : VK) (E : XK) (h : sp_are_terms K vs H Q E) : t_are_terms K { nx := fun _ H' => Q .non H', rt := Q } (start ["domains", "value", "term", "x", "weight"] vs) H := by
  obtain ⟨d, v, rfl, names, D, hd, hD, q⟩ := h
  show t_are_terms K _ [some (.ref d), some v, none, none, none] H
  unfold t_are_terms
  walk_at "aw"
  refine ⟨v, 1, 12, rfl, _, hD, ?_⟩
  walk_at "aw"
  cases hD with
  | @tup t xs ds et hxs =>
    have hxl := hxs.length
    have q0 : ∀ H', Adv [] H H' → Q (.bl (lenIn (.tuple ds) 1 12 && ds.all isTerm && unkB names (ds.map fstD) 12)) H' := q
    by_cases hl : lenIn (.tuple ds) 1 12 = true
    · rw [hl, Bool.true_and] at q0
      refine iteF'' (by rw [hl]; rfl) ?_
      rw [lenIn_tup, Bool.and_eq_true, decide_eq_true_iff, decide_eq_true_iff] at hl
      walk_at "aw"
      refine ⟨t, rfl, ⟨_, SqT.of et⟩, kLc_pure (walk_tup (xs := xs)) (by omega) (fun H' g => SqT.of (g.tup _ _ et)) (fun _ => true) (fun i => .bl (isTerm (ds.getD i .none))) (fun i x H2 H3 Kt Kf hi g2 y kt kf => ?_) fun l H1 nl g1 el => ?_⟩
      · obtain ⟨rfl, y1⟩ := y
        obtain ⟨dt, z1, hdt⟩ := hxs.get y1
        rw [getD_of z1] at kt
        walk_at "aw"
        refine ⟨rfl, ?_⟩
        walk_at "aw"
        exact ⟨x, rfl, dt, hdt.up g2.tup, kt rfl _ (.refl _ _)⟩
      rw [bls_map fun i => isTerm (ds.getD i .none), hxl] at el
      walk_at "aw"
      refine ⟨l, _, rfl, SqL.of el, ?_⟩
      rw [all_range]
      walk_at "aw"
      by_cases ha : ds.all isTerm = true
      · refine iteF'' (by rw [ha]; rfl) ?_
        rw [ha, Bool.true_and] at q0
        obtain ⟨fs, hfl, hfs, hfx⟩ := firsts hxs ha
        walk_at "aw"
        refine ⟨t, rfl, ⟨_, SqT.of (g1.tup _ _ et)⟩, kLc_pure (walk_tup (xs := xs)) (by omega) (fun H' g => SqT.of (g.tup _ _ (g1.tup _ _ et))) (fun _ => true) (fun i => fs.getD i .non) (fun i x H2 H3 Kt Kf hi g2 y kt kf => ?_) fun l2 H4 nl4 g4 el4 => ?_⟩
        · obtain ⟨rfl, y1⟩ := y
          obtain ⟨f, hf⟩ := get_some (xs := fs) (i := i) (by omega)
          obtain ⟨p, y, rfl, ep⟩ := hfx i x f y1 hf
          rw [getD_of hf] at kt
          have ep2 := (g1.trans g2).tup _ _ ep
          walk_at "aw"
          refine w_gtup (SqT.of ep2) rfl ?_
          walk_at "aw"
          refine ⟨rfl, ?_⟩
          walk_at "aw"
          exact kt rfl _ (.refl _ _)
        rw [← hfl, vals_map] at el4
        walk_at "aw"
        refine .inl ⟨l2, fs, rfl, SqL.of el4, fun t2 nt => ?_⟩
        have a5 := Adv.new (o := .tup fs) nt
        have et5 : (upd H4 t2 (.tup fs)) t2 = some (.tup fs) := upd_same
        generalize upd H4 t2 (.tup fs) = H5 at a5 et5
        have g5 := (g1.trans g4).trans a5
        walk_at "aw"
        refine ⟨d, t2, 12, rfl, names, ds.map fstD, hd.up g5, .tup et5 (hfs.up g5.tup), by decide, fun H6 a6 => ?_⟩
        walk_at "aw"
        exact q0 H6 (g5.trans a6)
      · rw [Bool.not_eq_true] at ha
        refine iteT'' (by rw [ha]; rfl) ?_
        rw [ha, Bool.false_and] at q0
        walk_at "aw"
        exact q0 _ g1
    · rw [Bool.not_eq_true] at hl
      rw [hl, Bool.false_and, Bool.false_and] at q0
      refine iteT'' (by rw [hl]; rfl) ?_
      walk_at "aw"
      exact q0 _ (.refl _ _)
  | non => exact iteT'' rfl (by walk_at "aw"; exact q _ (.refl _ _))
  | bl _ => exact iteT'' rfl (by walk_at "aw"; exact q _ (.refl _ _))
  | int _ => exact iteT'' rfl (by walk_at "aw"; exact q _ (.refl _ _))
  | str _ => exact iteT'' rfl (by walk_at "aw"; exact q _ (.refl _ _))
end AW
namespace AW
open PySem PySem.Spec PyProof.Rows L2 RZ
open StX
local macro_rules | `(tactic| walk_at "aw1") => `(tactic| first
  | (with_reducible refine w_seq ?_) | (with_reducible refine w_asg ?_) | (with_reducible refine w_gname ?_) | (with_reducible refine w_op ?_) | (with_reducible refine w_un ?_)
  | ((with_reducible refine' w_var ?h ?_); (case h => rfl)) | (with_reducible refine w_c ?_)
  | (with_reducible refine w_I0 ?_) | (with_reducible refine w_U ?_) | (with_reducible refine w_cb ?_) | (with_reducible refine w_nil ?_) | (with_reducible refine w_cons ?_) | (with_reducible refine w_call ?_)
  | (with_reducible refine w_test ?_) | (with_reducible refine w_B ?_) | (with_reducible refine w_bl ?_) | (with_reducible refine w_not ?_) | (with_reducible refine w_yes ?_) | (with_reducible refine iteT ?_) | (with_reducible refine iteF ?_) | (with_reducible refine w_and ?_) | (with_reducible refine w_or ?_)
  | (with_reducible refine w_andV ?_) | (with_reducible refine w_orV ?_) | (with_reducible refine w_notV ?_) | (with_reducible refine w_if ?_)
  | (with_reducible refine w_int1 ?_) | (with_reducible refine w_int1b ?_) | (with_reducible refine w_abs ?_) | (with_reducible refine w_max2 ?_) | (with_reducible refine w_min2 ?_)
  | ((with_reducible refine w_eq ?h ?_); (case h => rfl)) | ((with_reducible refine w_ne ?h ?_); (case h => rfl)) | (with_reducible refine w_isN ?_) | (with_reducible refine w_isB ?_) | (with_reducible refine w_chain ?_)
  | (with_reducible refine w_ret ?_) | (with_reducible refine w_drop ?_) | (with_reducible refine w_ifS ?_) | (with_reducible refine w_gsub ?_) | (with_reducible refine w_augS ?_) | (with_reducible refine w_ipI ?_) | (with_reducible refine w_next ?_)
  | (with_reducible refine w_forR ?_) | (with_reducible refine w_forR2 ?_) | (with_reducible refine w_forL ?_) | (with_reducible refine w_forT ?_) | (with_reducible refine w_lcR ?_) | (with_reducible refine w_lcL ?_) | (with_reducible refine w_lcT ?_) | (with_reducible refine w_sl ?_) | (with_reducible refine w_part ?_) | (with_reducible refine w_noPart ?_) | (with_reducible refine w_in ?_)
  | (with_reducible refine w_gcons ?_) | (with_reducible refine w_gnil ?_) | (with_reducible refine w_lc3 ?_) | (with_reducible refine w_dcZ ?_) | (with_reducible refine w_dcT ?_) | (with_reducible refine w_dg ?_) | (with_reducible refine w_callK ?_) | (with_reducible refine w_dput ?_) | (with_reducible refine w_tup1 ?_)
  | (with_reducible refine w_tup ?_) | (with_reducible refine w_lst ?_)
  | ((with_reducible refine w_I ?h ?_); (case h => first | (exact Or.inr ⟨by decide, by decide⟩) | (exact Or.inl ⟨by decide, by decide⟩) | (show (0 : Int) < _; decide) | (exact ⟨by decide, by decide, by decide⟩) | assumption)))
local macro_rules | `(tactic| walk_at "aw") => `(tactic| repeat (walk_at "aw1"))
def trmL (names : List Str) (d : PyData) : Bool := match d with
  | .tuple [.str x, w] => decide (x ∈ names) && isN w (-100) 100 && !isZ w
  | _ => false
def fstS (d : PyData) : Str := txtD (fstD d)
def tsB (names : List Str) (ts : List PyData) : Bool := ts.all (trmL names) && ascB (ts.map fstS)
def wshT (names : List Str) (t p : PyData) : Bool := match t with
  | .tuple ts => decide (ts.length ≤ 12) && isN p 0 1 && tsB names ts
  | _ => false
def wshL (names : List Str) (D : PyData) : Bool := match D with
  | .tuple [c, t, p] => isN c (-1000000) 1000000 && wshT names t p
  | _ => false
def rghB (names : List Str) (D : PyData) : Bool := match D with
  | .tuple ws => decide (1 ≤ (ws.length : Int)) && decide ((ws.length : Int) ≤ 3) && ws.all (wshL names)
  | _ => false
def sp__law_is_int (_ : PySem.W.Frag) : Sp := fun vs H Q _ => ∃ (v : V) (lo hi : Int), vs = [v, .int lo, .int hi] ∧ ∃ D, Is H D v ∧ Q (.bl (isN D lo hi)) H
def sp__law_is_wish (_ : PySem.W.Frag) : Sp := fun vs H Q _ => ∃ (l : Addr) (v : V), vs = [.ref l, v] ∧ ∃ names D, H l = some (.lst (names.map V.str)) ∧ (∀ x ∈ names, 0 < x.length) ∧ Is H D v ∧ Q (.bl (wshL names D)) H
def sp__law_is_right (_ : PySem.W.Frag) : Sp := fun vs H Q _ => ∃ (m v : V), vs = [m, v] ∧ ∃ xs ys zs D n, MdX H m xs ys zs ∧ xs.length ≤ 100 ∧ (∀ x ∈ xs, 0 < x.length) ∧ Is H D v ∧ Nc n D ∧ n ≤ 60 ∧ ∀ H', Adv [] H H' → Q (.bl (rghB xs D)) H'

theorem lt_irr (x : Str) : ¬ ltS x x := List.lt_irrefl _
theorem lt_tr {x y z : Str} (h1 : ltS x y) (h2 : ltS y z) : ltS x z := List.lt_trans h1 h2
theorem asc_iff {ts : List PyData} : ascB (ts.map fstS) = true ↔ ∀ k, k + 1 < ts.length → ltS (fstS (ts.getD k .none)) (fstS (ts.getD (k + 1) .none)) := by
  have g : ∀ k, k < ts.length → (ts.map fstS).getD k Str.empty = fstS (ts.getD k .none) := fun k hk => by
    rw [List.getD_eq_getElem?_getD, List.getElem?_map, List.getElem?_eq_getElem hk, getD_of (List.getElem?_eq_getElem hk)]
    rfl
  unfold ascB
  rw [List.all_map, List.all_eq_true, List.length_map]
  constructor
  · intro h k hk
    have := h k (List.mem_range.mpr (by omega))
    rw [← g k (by omega), ← g (k + 1) hk]
    exact of_decide_eq_true this
  · intro h k hk
    have hk := List.mem_range.mp hk
    show decide _ = true
    rw [g k (by omega), g (k + 1) (by omega)]
    exact decide_eq_true (h k (by omega))
theorem asc_nd {ts : List PyData} (h : ascB (ts.map fstS) = true) : (ts.map fstS).Nodup := by
  rw [asc_iff] at h
  have far : ∀ d k, k + d + 1 < ts.length → ltS (fstS (ts.getD k .none)) (fstS (ts.getD (k + d + 1) .none)) := fun d => by
    induction d with
    | zero => exact fun k hk => h k hk
    | succ d ih => exact fun k hk => lt_tr (ih k (by omega)) (h (k + d + 1) (by omega))
  refine List.pairwise_iff_getElem.mpr fun i j hi hj hij e => ?_
  simp only [List.length_map] at hi hj
  simp only [List.getElem_map] at e
  have g : ∀ k (hk : k < ts.length), ts[k] = ts.getD k .none := fun k hk => (getD_of (List.getElem?_eq_getElem hk)).symm
  rw [g i hi, g j hj] at e
  have := far (j - i - 1) i (by omega)
  rw [show i + (j - i - 1) + 1 = j by omega, e] at this
  exact absurd this (lt_irr _)
theorem trm_eq {names : List Str} (d : PyData) : trmL names d = (isTerm d && nameIn names (fstD d)) := by
  unfold trmL isTerm
  split
  · rename_i x w
    simp only [fstD, nameIn]
    rw [Bool.and_assoc, Bool.and_comm]
  · rename_i h
    split
    · rename_i d1 w
      have : nameIn names (fstD (.tuple [d1, w])) = false := by
        cases d1 <;> first | rfl | exact absurd rfl (h _ _)
      rw [this, Bool.and_false]
    · rfl
theorem all_and {α : Type} (f g : α → Bool) : ∀ xs : List α, xs.all (fun x => f x && g x) = (xs.all f && xs.all g)
  | [] => rfl
  | x :: xs => by
    rw [List.all_cons, List.all_cons, List.all_cons, all_and f g xs]
    cases f x <;> cases g x <;> cases xs.all f <;> cases xs.all g <;> rfl
theorem wsh_eq {names : List Str} (D : PyData) : wshB names D = wshL names D := by
  unfold wshB wshL
  split
  · rename_i c t p
    try simp only []
    cases isN c (-1000000) 1000000 <;> simp only [Bool.false_and, Bool.true_and]
    cases t with
    | tuple ts =>
      unfold wshT
      simp only []
      have e1 : ts.all (trmL names) = (ts.all isTerm && ts.all fun d => nameIn names (fstD d)) := by
        rw [← all_and]
        congr 1
        funext d
        exact trm_eq d
      unfold tsB
      rw [e1]
      cases ts with
      | nil =>
        have : ascB ([].map fstS) = true := by decide
        rw [this]
        simp [isE]
      | cons d ts =>
        have hE : isE (.tuple (d :: ts)) = false := rfl
        rw [hE, Bool.false_or]
        unfold trmB unkB ascT
        simp only []
        rw [List.length_map, List.all_map, List.map_map]
        have e2 : (txtD ∘ fstD) = fstS := rfl
        have e3 : (nameIn names ∘ fstD) = fun d => nameIn names (fstD d) := rfl
        have e4 : (fun d => txtD (fstD d)) = fstS := rfl
        rw [e2, e3, e4]
        have e5 : decide ((1 : Int) ≤ ((d :: ts).length : Int)) = true := decide_eq_true (by simp only [List.length_cons]; omega)
        have e6 : decide (((d :: ts).length : Int) ≤ 12) = decide ((d :: ts).length ≤ 12) := by
          rw [Bool.eq_iff_iff, decide_eq_true_iff, decide_eq_true_iff]
          omega
        rw [e5, e6]
        cases ha : ascB ((d :: ts).map fstS) with
        | false => cases isN p 0 1 <;> cases decide ((d :: ts).length ≤ 12) <;> simp
        | true =>
          rw [decide_eq_true (asc_nd ha)]
          cases isN p 0 1 <;> cases decide ((d :: ts).length ≤ 12) <;> cases (d :: ts).all isTerm <;> simp
    | none => simp [isE, trmB, wshT]
    | bool b => simp [isE, trmB, wshT]
    | int n => simp [isE, trmB, wshT]
    | str x => simp [isE, trmB, wshT]
    | list x => simp [isE, trmB, wshT]
    | dict x => simp [isE, trmB, wshT]
  · rename_i h
    first
      | rfl
      | (split
         · exact absurd rfl (h _ _ _)
         · rfl)
end AW
namespace AW
open PySem PySem.Spec PyProof.Rows L2 RZ
open StX
local macro_rules | `(tactic| walk_at "aw1") => `(tactic| first
  | (with_reducible refine w_seq ?_) | (with_reducible refine w_asg ?_) | (with_reducible refine w_gname ?_) | (with_reducible refine w_op ?_) | (with_reducible refine w_un ?_)
  | ((with_reducible refine' w_var ?h ?_); (case h => rfl)) | (with_reducible refine w_c ?_)
  | (with_reducible refine w_I0 ?_) | (with_reducible refine w_U ?_) | (with_reducible refine w_cb ?_) | (with_reducible refine w_nil ?_) | (with_reducible refine w_cons ?_) | (with_reducible refine w_call ?_)
  | (with_reducible refine w_test ?_) | (with_reducible refine w_B ?_) | (with_reducible refine w_bl ?_) | (with_reducible refine w_not ?_) | (with_reducible refine w_yes ?_) | (with_reducible refine iteT ?_) | (with_reducible refine iteF ?_) | (with_reducible refine w_and ?_) | (with_reducible refine w_or ?_)
  | (with_reducible refine w_andV ?_) | (with_reducible refine w_orV ?_) | (with_reducible refine w_notV ?_) | (with_reducible refine w_if ?_)
  | (with_reducible refine w_int1 ?_) | (with_reducible refine w_int1b ?_) | (with_reducible refine w_abs ?_) | (with_reducible refine w_max2 ?_) | (with_reducible refine w_min2 ?_)
  | ((with_reducible refine w_eq ?h ?_); (case h => rfl)) | ((with_reducible refine w_ne ?h ?_); (case h => rfl)) | (with_reducible refine w_isN ?_) | (with_reducible refine w_isB ?_) | (with_reducible refine w_chain ?_)
  | (with_reducible refine w_ret ?_) | (with_reducible refine w_drop ?_) | (with_reducible refine w_ifS ?_) | (with_reducible refine w_gsub ?_) | (with_reducible refine w_augS ?_) | (with_reducible refine w_ipI ?_) | (with_reducible refine w_next ?_)
  | (with_reducible refine w_forR ?_) | (with_reducible refine w_forR2 ?_) | (with_reducible refine w_forL ?_) | (with_reducible refine w_forT ?_) | (with_reducible refine w_lcR ?_) | (with_reducible refine w_lcL ?_) | (with_reducible refine w_lcT ?_) | (with_reducible refine w_sl ?_) | (with_reducible refine w_part ?_) | (with_reducible refine w_noPart ?_) | (with_reducible refine w_in ?_)
  | (with_reducible refine w_gcons ?_) | (with_reducible refine w_gnil ?_) | (with_reducible refine w_lc3 ?_) | (with_reducible refine w_dcZ ?_) | (with_reducible refine w_dcT ?_) | (with_reducible refine w_dg ?_) | (with_reducible refine w_callK ?_) | (with_reducible refine w_dput ?_) | (with_reducible refine w_tup1 ?_)
  | (with_reducible refine w_tup ?_) | (with_reducible refine w_lst ?_)
  | ((with_reducible refine w_I ?h ?_); (case h => first | (exact Or.inr ⟨by decide, by decide⟩) | (exact Or.inl ⟨by decide, by decide⟩) | (show (0 : Int) < _; decide) | (exact ⟨by decide, by decide, by decide⟩) | assumption)))
local macro_rules | `(tactic| walk_at "aw") => `(tactic| repeat (walk_at "aw1"))
def t__is_wish (K : PySem.W.Frag) : TS := (tSeq (tIfS (tOr (tNot (tB (tCall (sp_is_tuple K) [] E0 (tCons (tVar 1) (tCons (tC (.int 3)) (tCons (tC (.int 3)) tNil)))))) (tOr (tNot (tB (tCall (sp_is_free_number K) [] E0 (tCons (tOp (rIxT K) (tVar 1) (tC (.int 0))) tNil)))) (tNot (tB (tCall (sp_is_number K) [] E0 (tCons (tOp (rIxT K) (tVar 1) (tC (.int 2))) (tCons (tC (.int 0)) (tCons (tC (.int 1)) tNil)))))))) (tRet (tC (.bl false))) tNext)
  (tRet (tOrV (tOp (rEqD K) (tOp (rIxT K) (tVar 1) (tC (.int 1))) (tTup tNil)) (tAndV (tCall (sp_are_terms K) [] E0 (tCons (tVar 0) (tCons (tOp (rIxT K) (tVar 1) (tC (.int 1))) tNil))) (tCall (sp_ascends K) [] E0 (tCons (tLc (iTup K (tOp (rIxT K) (tVar 1) (tC (.int 1)))) (gTup K 2 (gCons (gName 2) (gCons (gName 3) gNil))) tYes (tVar 2) [2, 3]) tNil))))))
def t__law_is_int (K : PySem.W.Frag) : TS := (tRet (tAndV (tCB (rIsi K) (tCons (tVar 0) (tCons (tC (.ty "int")) tNil))) (tAndV (tNotV (tCB (rIsi K) (tCons (tVar 0) (tCons (tC (.ty "bool")) tNil)))) (tChain rLeI rLeI (tVar 1) (tVar 0) (tVar 2)))))
theorem len__is_wish {K : PySem.W.Frag} : ∀ (vs : List V) (H : Hp) (Q : VK) (E : XK), sp__is_wish K vs H Q E → vs.length = 2 := fun vs H Q E h => by
  obtain ⟨_, _, rfl, _⟩ := h
  rfl
/-- three items, or none of this form -/
theorem three {H : Hp} {D : PyData} {v : V} (h : Is H D v) : (∃ a x y z c t p, v = .ref a ∧ H a = some (.tup [x, y, z]) ∧ D = .tuple [c, t, p] ∧ Is H c x ∧ Is H t y ∧ Is H p z ∧ lenIn D 3 3 = true) ∨ (lenIn D 3 3 = false ∧ ∀ c t p, D ≠ .tuple [c, t, p]) := by
  cases h with
  | tup e t =>
    match t with
    | .cons h1 (.cons h2 (.cons h3 .nil)) => exact .inl ⟨_, _, _, _, _, _, _, rfl, e, rfl, h1, h2, h3, rfl⟩
    | .nil => exact .inr ⟨rfl, fun _ _ _ h => by cases h⟩
    | .cons _ .nil => exact .inr ⟨rfl, fun _ _ _ h => by cases h⟩
    | .cons _ (.cons _ .nil) => exact .inr ⟨rfl, fun _ _ _ h => by cases h⟩
    | .cons (d := d1) _ (.cons (d := d2) _ (.cons (d := d3) _ (.cons (d := d4) (ds := ds) _ _))) =>
      refine .inr ⟨?_, fun _ _ _ h => by cases h⟩
      rw [lenIn_tup, decide_eq_false (p := (((d1 :: d2 :: d3 :: d4 :: ds).length : Nat) : Int) ≤ 3) (by simp only [List.length_cons]; omega), Bool.and_false]
  | non => exact .inr ⟨rfl, fun _ _ _ h => by cases h⟩
  | bl b => exact .inr ⟨rfl, fun _ _ _ h => by cases h⟩
  | int b => exact .inr ⟨rfl, fun _ _ _ h => by cases h⟩
  | str b => exact .inr ⟨rfl, fun _ _ _ h => by cases h⟩
theorem wshB_no {names : List Str} {D : PyData} (h : ∀ c t p, D ≠ .tuple [c, t, p]) : wshB names D = false := by
  unfold wshB
  split
  · exact absurd rfl (h _ _ _)
  · rfl
theorem wshL_no {names : List Str} {D : PyData} (h : ∀ c t p, D ≠ .tuple [c, t, p]) : wshL names D = false := by
  unfold wshL
  split
  · exact absurd rfl (h _ _ _)
  · rfl
theorem trm_first {names : List Str} {D : PyData} (h : trmB names D = true) : ∃ ts, D = .tuple ts ∧ 1 ≤ ts.length ∧ ts.length ≤ 12 ∧ ts.all isTerm = true ∧ (ts.map fstD).all (nameIn names) = true := by
  cases D with
  | tuple ts =>
    unfold trmB unkB at h
    simp only [Bool.and_eq_true, decide_eq_true_iff] at h
    obtain ⟨⟨⟨h1, h2⟩, h3⟩, ⟨_, h5⟩, _⟩ := h
    exact ⟨ts, rfl, by omega, by omega, h3, h5⟩
  | none => cases h
  | bool _ => cases h
  | int _ => cases h
  | str _ => cases h
  | list _ => cases h
  | dict _ => cases h
theorem Nc.of_tup {d : Nat} {ds : List PyData} (h : Nc (d + 1) (.tuple ds)) : ∀ x ∈ ds, Nc d x := by
  have key : ∀ {ds : List PyData}, PyData.canLayAll0 ds = true → PyData.depthAll ds ≤ d → ∀ x ∈ ds, Nc d x := by
    intro ds
    induction ds with
    | nil => exact fun _ _ x hx => nomatch hx
    | cons y ds ih =>
      intro h1 h2 x hx
      simp only [PyData.canLayAll0, Bool.and_eq_true] at h1
      simp only [PyData.depthAll] at h2
      rcases List.mem_cons.mp hx with rfl | hx
      · exact ⟨h1.1, by omega⟩
      · exact ih h1.2 (by omega) x hx
  obtain ⟨h1, h2⟩ := h
  simp only [PyData.depth] at h2
  exact key h1 (by omega)
theorem Nc.item {n : Nat} {ds : List PyData} (h : Nc n (.tuple ds)) : ∀ x ∈ ds, Nc n x := by
  cases n with
  | zero =>
    have := h.2
    simp only [PyData.depth] at this
    omega
  | succ n => exact fun x hx => (h.of_tup x hx).mono (Nat.le_succ n)
theorem pure__is_wish {K : PySem.W.Frag} (vs : List V) (H : Hp) (Q : VK) (E : XK) (h : sp__is_wish K vs H Q E) : t__is_wish K { nx := fun _ H' => Q .non H', rt := Q } (start ["domains", "value", "x", "weight"] vs) H := by
  obtain ⟨d, v, rfl, names, D, n, hd, hD, hn, hn6, q⟩ := h
  show t__is_wish K _ [some (.ref d), some v, none, none] H
  unfold t__is_wish
  walk_at "aw"
  refine ⟨v, 3, 3, rfl, _, hD, ?_⟩
  walk_at "aw"
  rcases three hD with ⟨a, x, y, z, c, t, p, rfl, e, rfl, hc, ht, hp, hl⟩ | ⟨hl, hno⟩
  · refine iteF'' (by rw [hl]; rfl) ?_
    walk_at "aw"
    refine w_ixT (SqT.of e) (at_of (j := 0) rfl rfl) ?_
    walk_at "aw"
    refine ⟨x, rfl, c, hc, ?_⟩
    walk_at "aw"
    have q0 : ∀ H', Adv [] H H' → Q (.bl (isN c (-1000000) 1000000 && isN p 0 1 && (isE t || (trmB names t && ascT t)))) H' := q
    by_cases h1 : isN c (-1000000) 1000000 = true
    · rw [h1, Bool.true_and] at q0
      refine iteF'' (by rw [h1]; rfl) ?_
      walk_at "aw"
      refine w_ixT (SqT.of e) (at_of (j := 2) rfl rfl) ?_
      walk_at "aw"
      refine ⟨z, 0, 1, rfl, p, hp, ?_⟩
      walk_at "aw"
      by_cases h2 : isN p 0 1 = true
      · rw [h2, Bool.true_and] at q0
        refine iteF'' (by rw [h2]; rfl) ?_
        walk_at "aw"
        refine w_ixT (SqT.of e) (at_of (j := 1) rfl rfl) ?_
        walk_at "aw"
        refine w_tupD (by decide) fun tz H1 nz a1 etz => ?_
        have hnt : Nc n t := hn.item t (by simp)
        refine w_eqD0 (ht.up a1.tup) hnt (by omega) etz ?_
        walk_at "aw"
        refine w_iteB (fun hE => ?_) fun hE => ?_
        · rw [hE, Bool.true_or] at q0
          exact q0 H1 a1
        · rw [Bool.not_eq_true] at hE
          rw [hE, Bool.false_or] at q0
          have e1 := a1.tup _ _ e
          have ht1 := ht.up a1.tup
          walk_at "aw"
          refine w_ixT (SqT.of e1) (at_of (j := 1) rfl rfl) ?_
          walk_at "aw"
          refine ⟨d, y, rfl, names, t, hd.up a1, ht1, fun H2 a2 => ?_⟩
          walk_at "aw"
          by_cases h3 : trmB names t = true
          · rw [h3, Bool.true_and] at q0
            refine iteT'' h3 ?_
            obtain ⟨ts, rfl, l1, l2, ha, hf⟩ := trm_first h3
            obtain ⟨b, xs, rfl, eb, hxs⟩ := (ht1.up a2.tup).tup_inv
            have hxl := hxs.length
            obtain ⟨fs, hfl, hfs, hfx⟩ := firsts hxs ha
            have eb2 := eb
            walk_at "aw"
            refine w_ixT (SqT.of (a2.tup _ _ e1)) (at_of (j := 1) rfl rfl) ?_
            refine ⟨b, rfl, ⟨_, SqT.of eb2⟩, kLc_pure (walk_tup (xs := xs)) (by omega) (fun H' g => SqT.of (g.tup _ _ eb2)) (fun _ => true) (fun i => fs.getD i .non) (fun i x H2 H3 Kt Kf hi g2 y kt kf => ?_) fun l2 H4 nl4 g4 el4 => ?_⟩
            · obtain ⟨rfl, y1⟩ := y
              obtain ⟨f, hf⟩ := get_some (xs := fs) (i := i) (by omega)
              obtain ⟨p, y, rfl, ep⟩ := hfx i x f y1 hf
              rw [getD_of hf] at kt
              have ep2 := g2.tup _ _ ep
              walk_at "aw"
              refine w_gtup (SqT.of ep2) rfl ?_
              walk_at "aw"
              refine ⟨rfl, ?_⟩
              walk_at "aw"
              exact kt rfl _ (.refl _ _)
            rw [← hfl, vals_map, names_txt hfs hf] at el4
            walk_at "aw"
            refine ⟨l2, rfl, ts.map fun d => txtD (fstD d), by rw [el4, show (ts.map fstD).map txtD = ts.map fun d => txtD (fstD d) from List.map_map ..], by rw [List.length_map]; omega, by rw [List.length_map]; omega, fun H5 a5 => ?_⟩
            walk_at "aw"
            exact q0 H5 (a1.trans (a2.trans (g4.trans a5)))
          · rw [Bool.not_eq_true] at h3
            rw [h3, Bool.false_and] at q0
            refine iteF'' h3 ?_
            exact q0 H2 (a1.trans a2)
      · rw [Bool.not_eq_true] at h2
        rw [h2, Bool.false_and] at q0
        refine iteT'' (by rw [h2]; rfl) ?_
        walk_at "aw"
        exact q0 _ (.refl _ _)
    · rw [Bool.not_eq_true] at h1
      rw [h1, Bool.false_and, Bool.false_and] at q0
      refine iteT'' (by rw [h1]; rfl) ?_
      walk_at "aw"
      exact q0 _ (.refl _ _)
  · refine iteT'' (by rw [hl]; rfl) ?_
    rw [wshB_no hno] at q
    walk_at "aw"
    exact q _ (.refl _ _)
theorem len__law_is_int {K : PySem.W.Frag} : ∀ (vs : List V) (H : Hp) (Q : VK) (E : XK), sp__law_is_int K vs H Q E → vs.length = 3 := fun vs H Q E h => by
  obtain ⟨_, _, _, rfl, _⟩ := h
  rfl
theorem pure__law_is_int {K : PySem.W.Frag} (vs : List V) (H : Hp) (Q : VK) (E : XK) (h : sp__law_is_int K vs H Q E) : t__law_is_int K { nx := fun _ H' => Q .non H', rt := Q } (start ["value", "low", "high"] vs) H := by
  obtain ⟨v, lo, hi, rfl, D, hD, q⟩ := h
  show t__law_is_int K _ [some v, some (.int lo), some (.int hi)] H
  unfold t__law_is_int
  walk_at "aw"
  refine w_isiD hD (by simp) ?_
  walk_at "aw"
  cases hD with
  | int n =>
    refine iteT'' rfl ?_
    walk_at "aw"
    refine w_isiD (.int n) (by simp) ?_
    walk_at "aw"
    refine iteT'' rfl ?_
    walk_at "aw"
    unfold isN at q
    refine w_iteB (fun h1 => ?_) fun h1 => ?_
    · walk_at "aw"
      simp only [decide_eq_true h1, Bool.true_and] at q
      exact q
    · simp only [decide_eq_false h1, Bool.false_and] at q
      exact q
  | bl b =>
    refine iteT'' rfl ?_
    walk_at "aw"
    refine w_isiD (.bl b) (by simp) ?_
    walk_at "aw"
    exact iteF'' rfl q
  | tup e t => exact iteF'' rfl q
  | non => exact iteF'' rfl q
  | str x => exact iteF'' rfl q
end AW
namespace AW
open PySem PySem.Spec PyProof.Rows L2 RZ
open StX
local macro_rules | `(tactic| walk_at "aw1") => `(tactic| first
  | (with_reducible refine w_seq ?_) | (with_reducible refine w_asg ?_) | (with_reducible refine w_gname ?_) | (with_reducible refine w_op ?_) | (with_reducible refine w_un ?_)
  | ((with_reducible refine' w_var ?h ?_); (case h => rfl)) | (with_reducible refine w_c ?_)
  | (with_reducible refine w_I0 ?_) | (with_reducible refine w_U ?_) | (with_reducible refine w_cb ?_) | (with_reducible refine w_nil ?_) | (with_reducible refine w_cons ?_) | (with_reducible refine w_call ?_)
  | (with_reducible refine w_test ?_) | (with_reducible refine w_B ?_) | (with_reducible refine w_bl ?_) | (with_reducible refine w_not ?_) | (with_reducible refine w_yes ?_) | (with_reducible refine iteT ?_) | (with_reducible refine iteF ?_) | (with_reducible refine w_and ?_) | (with_reducible refine w_or ?_)
  | (with_reducible refine w_andV ?_) | (with_reducible refine w_orV ?_) | (with_reducible refine w_notV ?_) | (with_reducible refine w_if ?_)
  | (with_reducible refine w_int1 ?_) | (with_reducible refine w_int1b ?_) | (with_reducible refine w_abs ?_) | (with_reducible refine w_max2 ?_) | (with_reducible refine w_min2 ?_)
  | ((with_reducible refine w_eq ?h ?_); (case h => rfl)) | ((with_reducible refine w_ne ?h ?_); (case h => rfl)) | (with_reducible refine w_isN ?_) | (with_reducible refine w_isB ?_) | (with_reducible refine w_chain ?_)
  | (with_reducible refine w_ret ?_) | (with_reducible refine w_drop ?_) | (with_reducible refine w_ifS ?_) | (with_reducible refine w_gsub ?_) | (with_reducible refine w_augS ?_) | (with_reducible refine w_ipI ?_) | (with_reducible refine w_next ?_)
  | (with_reducible refine w_forR ?_) | (with_reducible refine w_forR2 ?_) | (with_reducible refine w_forL ?_) | (with_reducible refine w_forT ?_) | (with_reducible refine w_lcR ?_) | (with_reducible refine w_lcL ?_) | (with_reducible refine w_lcT ?_) | (with_reducible refine w_sl ?_) | (with_reducible refine w_part ?_) | (with_reducible refine w_noPart ?_) | (with_reducible refine w_in ?_)
  | (with_reducible refine w_gcons ?_) | (with_reducible refine w_gnil ?_) | (with_reducible refine w_lc3 ?_) | (with_reducible refine w_dcZ ?_) | (with_reducible refine w_dcT ?_) | (with_reducible refine w_dg ?_) | (with_reducible refine w_callK ?_) | (with_reducible refine w_dput ?_) | (with_reducible refine w_tup1 ?_)
  | (with_reducible refine w_tup ?_) | (with_reducible refine w_lst ?_)
  | ((with_reducible refine w_I ?h ?_); (case h => first | (exact Or.inr ⟨by decide, by decide⟩) | (exact Or.inl ⟨by decide, by decide⟩) | (show (0 : Int) < _; decide) | (exact ⟨by decide, by decide, by decide⟩) | assumption)))
local macro_rules | `(tactic| walk_at "aw") => `(tactic| repeat (walk_at "aw1"))
def t_domains_of (K : PySem.W.Frag) : TS := (tRet (tDc (iTup K (tOp (rIxT K) (tVar 0) (tC (.int 0)))) (gTup K 2 (gCons (gName 1) (gCons (gName 2) gNil))) tYes (tVar 1) (tVar 2) [1, 2]))
def t__law_is_wish (K : PySem.W.Frag) : TS := (tSeq (tIfS (tOr (tNot (tB (tCB (rIsi K) (tCons (tVar 1) (tCons (tC (.ty "tuple")) tNil))))) (tOr (tTest (tOp rNe (tCB (rLen1 K) (tCons (tVar 1) tNil)) (tC (.int 3)))) (tNot (tB (tCall (sp__law_is_int K) [] E0 (tCons (tOp (rIxT K) (tVar 1) (tC (.int 0))) (tCons (tUn rNeg (tC (.int 1000000))) (tCons (tC (.int 1000000)) tNil)))))))) (tRet (tC (.bl false))) tNext)
  (tSeq (tIfS (tOr (tNot (tB (tCB (rIsi K) (tCons (tOp (rIxT K) (tVar 1) (tC (.int 1))) (tCons (tC (.ty "tuple")) tNil))))) (tOr (tTest (tOp rGtI (tCB (rLen1 K) (tCons (tOp (rIxT K) (tVar 1) (tC (.int 1))) tNil)) (tC (.int 12)))) (tNot (tB (tCall (sp__law_is_int K) [] E0 (tCons (tOp (rIxT K) (tVar 1) (tC (.int 2))) (tCons (tC (.int 0)) (tCons (tC (.int 1)) tNil)))))))) (tRet (tC (.bl false))) tNext)
  (tSeq (tAsg (tC (.str "")) (gName 2))
  (tSeq (tFor (iTup K (tOp (rIxT K) (tVar 1) (tC (.int 1)))) (gName 3)
  (tSeq (tIfS (tOr (tNot (tB (tCB (rIsi K) (tCons (tVar 3) (tCons (tC (.ty "tuple")) tNil))))) (tOr (tTest (tOp rNe (tCB (rLen1 K) (tCons (tVar 3) tNil)) (tC (.int 2)))) (tOr (tNot (tB (tCB (rIsi K) (tCons (tOp (rIxT K) (tVar 3) (tC (.int 0))) (tCons (tC (.ty "str")) tNil))))) (tTest (tOp (rIn K true) (tOp (rIxT K) (tVar 3) (tC (.int 0))) (tVar 0)))))) (tRet (tC (.bl false))) tNext)
  (tSeq (tIfS (tOr (tNot (tTest (tOp rLtS (tVar 2) (tOp (rIxT K) (tVar 3) (tC (.int 0)))))) (tOr (tNot (tB (tCall (sp__law_is_int K) [] E0 (tCons (tOp (rIxT K) (tVar 3) (tC (.int 1))) (tCons (tUn rNeg (tC (.int 100))) (tCons (tC (.int 100)) tNil)))))) (tTest (tOp rEq (tOp (rIxT K) (tVar 3) (tC (.int 1))) (tC (.int 0)))))) (tRet (tC (.bl false))) tNext)
  (tAsg (tOp (rIxT K) (tVar 3) (tC (.int 0))) (gName 2)))))
  (tRet (tC (.bl true)))))))
theorem nonempty_lt {x : Str} (h : 0 < x.length) : ltS "" x := by
  unfold ltS
  have e : (Str.ofString "").cps.toList = [] := by decide +kernel
  show (Str.ofString "").cps.toList < _
  rw [e]
  have : x.cps.toList.length = x.length := Array.length_toList
  cases hx : x.cps.toList with
  | nil => rw [hx] at this; simp at this; omega
  | cons a r => exact List.nil_lt_cons a r
theorem dictOf_some {key : Nat → L2.Key} {val : Nat → V} {k : L2.Key} : ∀ n, (valV (dictOf key val n) k).isSome = decide (∃ i, i < n ∧ key i = k)
  | 0 => by
    rw [decide_eq_false (by rintro ⟨i, h, _⟩; omega)]
    rfl
  | n + 1 => by
    show (valV (putK (dictOf key val n) (key n) (val n)) k).isSome = _
    rw [valV_put]
    by_cases e : k = key n
    · rw [if_pos e, decide_eq_true ⟨n, by omega, e.symm⟩]
      rfl
    · rw [if_neg e, dictOf_some n, Bool.eq_iff_iff, decide_eq_true_iff, decide_eq_true_iff]
      constructor
      · rintro ⟨i, h, g⟩
        exact ⟨i, by omega, g⟩
      · rintro ⟨i, h, g⟩
        by_cases z : i = n
        · exact absurd g.symm (z ▸ e)
        · exact ⟨i, by omega, g⟩
theorem len_domains_of {K : PySem.W.Frag} : ∀ (vs : List V) (H : Hp) (Q : VK) (E : XK), sp_domains_of K vs H Q E → vs.length = 1 := fun vs H Q E h => by
  obtain ⟨_, rfl, _⟩ := h
  rfl
theorem pure_domains_of {K : PySem.W.Frag} (vs : List V) (H : Hp) (Q : VK) (E : XK) (h : sp_domains_of K vs H Q E) : t_domains_of K { nx := fun _ H' => Q .non H', rt := Q } (start ["model", "name", "domain"] vs) H := by
  obtain ⟨m, rfl, xs, ys, zs, ⟨a, b, c, d, us, ps, qs, rfl, ea, eb, ec, ed, l1, l2, l3, h1, h2, h3⟩, hl, q⟩ := h
  show t_domains_of K _ [some (.ref a), none, none] H
  have second : ∃ ws : List V, ws.length = us.length ∧ ∀ (i : Nat) u w, us[i]? = some u → ws[i]? = some w → ∃ p x, u = .ref p ∧ xs[i]? = some x ∧ H p = some (.tup [.str x, w]) := by
    clear q hl l1 eb
    induction us generalizing xs with
    | nil => exact ⟨[], rfl, fun i u w e => by simp at e⟩
    | cons u us ih =>
      obtain ⟨p, v, x, g1, g2, g3⟩ := h1 0 u rfl
      obtain ⟨ws, w1, w2⟩ := ih (xs := xs.tail) fun i u e => by
        obtain ⟨p, v, x, g1, g2, g3⟩ := h1 (i + 1) u (by simpa using e)
        exact ⟨p, v, x, g1, by rw [List.getElem?_tail]; exact g2, g3⟩
      refine ⟨v :: ws, by simp [w1], fun i u' w' e1 e2 => ?_⟩
      cases i with
      | zero =>
        simp at e1 e2
        subst e1 e2
        exact ⟨p, x, g1, g2, g3⟩
      | succ i =>
        obtain ⟨p', x', k1, k2, k3⟩ := w2 i u' w' (by simpa using e1) (by simpa using e2)
        exact ⟨p', x', k1, by rw [List.getElem?_tail] at k2; exact k2, k3⟩
  obtain ⟨ws, hwl, hws⟩ := second
  unfold t_domains_of
  walk_at "aw"
  refine w_ixT (SqT.of ea) (at_of (j := 0) rfl rfl) ?_
  refine ⟨b, rfl, ⟨_, SqT.of eb⟩, kDc_pure (walk_tup (xs := us)) (by omega) (fun H' g => SqT.of (g.tup _ _ eb)) (fun i => (Sum.inr (xs.getD i Str.empty) : L2.Key)) (fun i => ws.getD i .non) (fun i x H2 H3 Kt hi g2 y kt => ?_) fun p H' np g' ep => ?_⟩
  · obtain ⟨rfl, y1⟩ := y
    obtain ⟨w, hw⟩ := get_some (xs := ws) (i := i) (by omega)
    obtain ⟨p, x, rfl, hx, e2⟩ := hws i _ w y1 hw
    rw [getD_of hw, getD_of hx] at kt
    walk_at "aw"
    refine w_gtup (SqT.of (g2.tup _ _ e2)) rfl ?_
    walk_at "aw"
    refine ⟨rfl, ?_⟩
    walk_at "aw"
    exact kt _ (.refl _ _)
  · refine q p H' g' ⟨_, ep, fun x => ?_⟩
    rw [dictOf_some, Bool.eq_iff_iff, decide_eq_true_iff, decide_eq_true_iff]
    constructor
    · rintro ⟨i, hi, e⟩
      obtain ⟨y, hy⟩ := get_some (xs := xs) (i := i) (by omega)
      rw [getD_of hy] at e
      rw [← Sum.inr.inj e]
      exact List.mem_of_getElem? hy
    · intro hx
      obtain ⟨i, hi, e⟩ := List.mem_iff_getElem.mp hx
      exact ⟨i, by omega, by rw [getD_of (List.getElem?_eq_getElem hi), e]⟩
theorem len__law_is_wish {K : PySem.W.Frag} : ∀ (vs : List V) (H : Hp) (Q : VK) (E : XK), sp__law_is_wish K vs H Q E → vs.length = 2 := fun vs H Q E h => by
  obtain ⟨_, _, rfl, _⟩ := h
  rfl
theorem isi_tup {D : PyData} (h : isiD D "tuple" = true) {H : Hp} {v : V} (hD : Is H D v) : ∃ a xs ds, v = .ref a ∧ H a = some (.tup xs) ∧ D = .tuple ds ∧ IsAll H ds xs := by
  cases hD with
  | tup e t => exact ⟨_, _, _, rfl, e, rfl, t⟩
  | non => cases h
  | bl _ => cases h
  | int _ => cases h
  | str _ => cases h
theorem pure__law_is_wish {K : PySem.W.Frag} (vs : List V) (H : Hp) (Q : VK) (E : XK) (h : sp__law_is_wish K vs H Q E) : t__law_is_wish K { nx := fun _ H' => Q .non H', rt := Q } (start ["names", "value", "before", "pair"] vs) H := by
  obtain ⟨l, v, rfl, names, D, el, hn0, hD, q⟩ := h
  show t__law_is_wish K _ [some (.ref l), some v, none, none] H
  unfold t__law_is_wish
  walk_at "aw"
  refine w_isiD hD (by simp) ?_
  walk_at "aw"
  by_cases hi : isiD D "tuple" = true
  · refine iteF'' (by rw [hi]; rfl) ?_
    obtain ⟨a, xs, ds, rfl, e, rfl, hxs⟩ := isi_tup hi hD
    walk_at "aw"
    refine w_lenT (SqT.of e) ?_
    walk_at "aw"
    rcases three hD with ⟨a', x, y, z, c, t, p, ea, e', eD, hc, ht, hp, hl⟩ | ⟨hl, hno⟩
    · cases ea
      cases eD
      rw [e] at e'
      cases e'
      refine w_iteNB (fun h => absurd rfl h) fun _ => ?_
      walk_at "aw"
      refine w_ixT (SqT.of e) (at_of (j := 0) rfl rfl) ?_
      walk_at "aw"
      refine ⟨x, -1000000, 1000000, rfl, c, hc, ?_⟩
      walk_at "aw"
      have q0 : Q (.bl (isN c (-1000000) 1000000 && wshT names t p)) H := q
      by_cases h1 : isN c (-1000000) 1000000 = true
      · rw [h1, Bool.true_and] at q0
        refine iteF'' (by rw [h1]; rfl) ?_
        walk_at "aw"
        refine w_ixT (SqT.of e) (at_of (j := 1) rfl rfl) ?_
        walk_at "aw"
        refine w_isiD ht (by simp) ?_
        walk_at "aw"
        by_cases hit : isiD t "tuple" = true
        · refine iteF'' (by rw [hit]; rfl) ?_
          obtain ⟨b, us, ts, rfl, eb, rfl, hus⟩ := isi_tup hit ht
          have hul := hus.length
          replace q0 : Q (.bl (decide (ts.length ≤ 12) && isN p 0 1 && tsB names ts)) H := q0
          walk_at "aw"
          refine w_ixT (SqT.of e) (at_of (j := 1) rfl rfl) ?_
          walk_at "aw"
          refine w_lenT (SqT.of eb) ?_
          rw [hul]
          walk_at "aw"
          refine w_iteB (fun h12 => ?_) fun h12 => ?_
          · rw [decide_eq_false (by omega), Bool.false_and, Bool.false_and] at q0
            walk_at "aw"
            exact q0
          · rw [decide_eq_true (by omega), Bool.true_and] at q0
            walk_at "aw"
            refine w_ixT (SqT.of e) (at_of (j := 2) rfl rfl) ?_
            walk_at "aw"
            refine ⟨z, 0, 1, rfl, p, hp, ?_⟩
            walk_at "aw"
            by_cases h2 : isN p 0 1 = true
            · rw [h2, Bool.true_and] at q0
              refine iteF'' (by rw [h2]; rfl) ?_
              walk_at "aw"
              refine w_ixT (SqT.of e) (at_of (j := 1) rfl rfl) ?_
              have S0 : ∀ k d, ts[k]? = some d → ts.getD k .none = d := fun k d h => getD_of h
              have bad : ∀ k d, ts[k]? = some d → trmL names d = false → tsB names ts = false := fun k d hk hd => by
                unfold tsB
                rw [Bool.and_eq_false_iff]
                left
                rw [List.all_eq_false]
                exact ⟨d, List.mem_of_getElem? hk, by rw [hd]; decide⟩
              refine kForT_i (fun i σ' H' => H' = H ∧ ∃ (bf : Str) (y3 : Option V), σ' = [some (.ref l), some (.ref a), some (.str bf), y3] ∧ (∀ k, k < i → trmL names (ts.getD k .none) = true) ∧ (∀ k, k + 1 < i → ltS (fstS (ts.getD k .none)) (fstS (ts.getD (k + 1) .none))) ∧ ((i = 0 ∧ bf = "") ∨ (0 < i ∧ bf = fstS (ts.getD (i - 1) .none)))) (SqT.of eb)
                ⟨rfl, _, _, rfl, fun k hk => by omega, fun k hk => by omega, .inl ⟨rfl, rfl⟩⟩ (fun i σ' H' _ pp => by obtain ⟨rfl, _⟩ := pp; exact SqT.of eb) (fun i u σ' H' hu pp => ?_) fun σ' H' pp => ?_
              · obtain ⟨rfl, bf, y3, rfl, ok1, ok2, hbf⟩ := pp
                obtain ⟨du, hdu, hu1⟩ := hus.get hu
                have no : trmL names du = false → Q (.bl false) H' := fun z => by
                  rw [bad i du hdu z] at q0
                  exact q0
                walk_at "aw"
                refine w_isiD hu1 (by simp) ?_
                walk_at "aw"
                by_cases hiu : isiD du "tuple" = true
                · refine iteF'' (by rw [hiu]; rfl) ?_
                  obtain ⟨g, gs, dgs, rfl, eg, rfl, hgs⟩ := isi_tup hiu hu1
                  walk_at "aw"
                  refine w_lenT (SqT.of eg) ?_
                  walk_at "aw"
                  match hgs, eg, hdu, no, hiu, hu1 with
                  | .cons (d := d1) (v := v1) g1 (.cons (d := d2) (v := v2) g2 .nil), eg, hdu, no, hiu, hu1 =>
                    refine w_iteNB (fun h => absurd rfl h) fun _ => ?_
                    walk_at "aw"
                    refine w_ixT (SqT.of eg) (at_of (j := 0) rfl rfl) ?_
                    walk_at "aw"
                    refine w_isiD g1 (by simp) ?_
                    walk_at "aw"
                    cases g1 with
                    | str x1 =>
                      refine iteF'' rfl ?_
                      walk_at "aw"
                      refine w_ixT (SqT.of eg) (at_of (j := 0) rfl rfl) ?_
                      walk_at "aw"
                      refine w_notIn el ?_
                      walk_at "aw"
                      have tl : trmL names (.tuple [.str x1, d2]) = (decide (x1 ∈ names) && isN d2 (-100) 100 && !isZ d2) := rfl
                      refine w_iteNB (fun hx => ?_) fun hx => ?_
                      · walk_at "aw"
                        exact no (by rw [tl, decide_eq_false hx, Bool.false_and, Bool.false_and])
                      · rw [decide_eq_true hx, Bool.true_and] at tl
                        walk_at "aw"
                        refine w_ixT (SqT.of eg) (at_of (j := 0) rfl rfl) ?_
                        refine ⟨_, _, rfl, rfl, ?_⟩
                        have hS : fstS (ts.getD i .none) = x1 := by rw [S0 i _ hdu]; rfl
                        walk_at "aw"
                        refine w_iteNB (fun hlt => ?_) fun hlt => ?_
                        · walk_at "aw"
                          have : tsB names ts = false := by
                            unfold tsB
                            rw [Bool.and_eq_false_iff]
                            right
                            rw [Bool.eq_false_iff]
                            intro ha
                            rw [asc_iff] at ha
                            rcases hbf with ⟨_, rfl⟩ | ⟨hi0, rfl⟩
                            · exact hlt (nonempty_lt (hn0 x1 hx))
                            · have hil := (List.getElem?_eq_some_iff.mp hdu).1
                              have := ha (i - 1) (by omega)
                              rw [show i - 1 + 1 = i by omega, hS] at this
                              exact hlt this
                          rw [this] at q0
                          exact q0
                        · walk_at "aw"
                          refine w_ixT (SqT.of eg) (at_of (j := 1) rfl rfl) ?_
                          walk_at "aw"
                          refine ⟨v2, -100, 100, rfl, d2, g2, ?_⟩
                          walk_at "aw"
                          by_cases hw : isN d2 (-100) 100 = true
                          · rw [hw, Bool.true_and] at tl
                            refine iteF'' (by rw [hw]; rfl) ?_
                            walk_at "aw"
                            refine w_ixT (SqT.of eg) (at_of (j := 1) rfl rfl) ?_
                            walk_at "aw"
                            cases g2 with
                            | int n =>
                              walk_at "aw"
                              refine w_iteB (fun h0 => ?_) fun h0 => ?_
                              · walk_at "aw"
                                refine no ?_
                                rw [tl]
                                simp only [isZ, decide_eq_true (show n = 0 from V.int.inj h0)]
                                rfl
                              · walk_at "aw"
                                refine w_ixT (SqT.of eg) (at_of (j := 0) rfl rfl) ?_
                                walk_at "aw"
                                have ht1 : trmL names (.tuple [.str x1, .int n]) = true := by
                                  rw [tl]
                                  simp only [isZ, decide_eq_false (show ¬ n = 0 from fun z => h0 (congrArg V.int z))]
                                  rfl
                                refine ⟨rfl, _, _, rfl, fun k hk => ?_, fun k hk => ?_, .inr ⟨by omega, by rw [show i + 1 - 1 = i by omega, hS]⟩⟩
                                · by_cases z : k = i
                                  · rw [z, S0 i _ hdu]
                                    exact ht1
                                  · exact ok1 k (by omega)
                                · by_cases z : k + 1 = i
                                  · rcases hbf with ⟨hi0, _⟩ | ⟨hi0, rfl⟩
                                    · omega
                                    · rw [z, hS]
                                      rw [show i - 1 = k by omega] at hlt
                                      exact hlt
                                  · exact ok2 k (by omega)
                            | tup _ _ => cases hw
                            | non => cases hw
                            | bl _ => cases hw
                            | str _ => cases hw
                          · rw [Bool.not_eq_true] at hw
                            refine iteT'' (by rw [hw]; rfl) ?_
                            walk_at "aw"
                            exact no (by rw [tl, hw, Bool.false_and])
                    | tup _ _ => exact iteT'' rfl (by walk_at "aw"; exact no rfl)
                    | non => exact iteT'' rfl (by walk_at "aw"; exact no rfl)
                    | bl _ => exact iteT'' rfl (by walk_at "aw"; exact no rfl)
                    | int _ => exact iteT'' rfl (by walk_at "aw"; exact no rfl)
                  | .nil, eg, hdu, no, hiu, hu1 => exact w_iteNB (fun _ => by walk_at "aw"; exact no rfl) fun h => by cases V.int.inj h
                  | .cons (d := d1) _ .nil, eg, hdu, no, hiu, hu1 => exact w_iteNB (fun _ => by walk_at "aw"; exact no (by cases d1 <;> rfl)) fun h => by cases V.int.inj h
                  | .cons (d := d1) _ (.cons (d := d2) _ (.cons (d := d3) (ds := ds4) (vs := vs4) _ hr)), eg, hdu, no, hiu, hu1 =>
                    refine w_iteNB (fun _ => ?_) fun h => ?_
                    · walk_at "aw"
                      exact no (by cases d1 <;> rfl)
                    · have := V.int.inj h
                      simp only [List.length_cons] at this
                      omega
                · rw [Bool.not_eq_true] at hiu
                  refine iteT'' (by rw [hiu]; rfl) ?_
                  walk_at "aw"
                  refine no ?_
                  cases hu1 with
                  | tup _ _ => cases hiu
                  | non => rfl
                  | bl _ => rfl
                  | int _ => rfl
                  | str _ => rfl
              · obtain ⟨rfl, bf, y3, rfl, ok1, ok2, hbf⟩ := pp
                have : tsB names ts = true := by
                  unfold tsB
                  rw [Bool.and_eq_true, asc_iff, List.all_eq_true]
                  refine ⟨fun d hd => ?_, fun k hk => ok2 k (by omega)⟩
                  obtain ⟨j, hj, ej⟩ := List.mem_iff_getElem.mp hd
                  have := ok1 j (by omega)
                  rw [S0 j _ (List.getElem?_eq_getElem hj), ej] at this
                  exact this
                rw [this] at q0
                walk_at "aw"
                exact q0
            · rw [Bool.not_eq_true] at h2
              rw [h2, Bool.false_and] at q0
              refine iteT'' (by rw [h2]; rfl) ?_
              walk_at "aw"
              exact q0
        · rw [Bool.not_eq_true] at hit
          refine iteT'' (by rw [hit]; rfl) ?_
          walk_at "aw"
          cases ht with
          | tup _ _ => cases hit
          | non => exact q0
          | bl _ => exact q0
          | int _ => exact q0
          | str _ => exact q0
      · rw [Bool.not_eq_true] at h1
        rw [h1, Bool.false_and] at q0
        refine iteT'' (by rw [h1]; rfl) ?_
        walk_at "aw"
        exact q0
    · rw [wshL_no hno] at q
      refine w_iteNB (fun _ => ?_) fun h => ?_
      · walk_at "aw"
        exact q
      · have hxl := hxs.length
        have h3 : ds.length = 3 := by
          have := V.int.inj h
          omega
        match ds, h3 with
        | [c, t, p], _ => exact absurd rfl (hno c t p)
  · rw [Bool.not_eq_true] at hi
    refine iteT'' (by rw [hi]; rfl) ?_
    walk_at "aw"
    have : ∀ c t p, D ≠ .tuple [c, t, p] := fun c t p z => by rw [z] at hi; cases hi
    rw [wshL_no this] at q
    exact q
end AW
namespace AW
open PySem PySem.Spec PyProof.Rows L2 RZ
open StX
local macro_rules | `(tactic| walk_at "aw1") => `(tactic| first
  | (with_reducible refine w_seq ?_) | (with_reducible refine w_asg ?_) | (with_reducible refine w_gname ?_) | (with_reducible refine w_op ?_) | (with_reducible refine w_un ?_)
  | ((with_reducible refine' w_var ?h ?_); (case h => rfl)) | (with_reducible refine w_c ?_)
  | (with_reducible refine w_I0 ?_) | (with_reducible refine w_U ?_) | (with_reducible refine w_cb ?_) | (with_reducible refine w_nil ?_) | (with_reducible refine w_cons ?_) | (with_reducible refine w_call ?_)
  | (with_reducible refine w_test ?_) | (with_reducible refine w_B ?_) | (with_reducible refine w_bl ?_) | (with_reducible refine w_not ?_) | (with_reducible refine w_yes ?_) | (with_reducible refine iteT ?_) | (with_reducible refine iteF ?_) | (with_reducible refine w_and ?_) | (with_reducible refine w_or ?_)
  | (with_reducible refine w_andV ?_) | (with_reducible refine w_orV ?_) | (with_reducible refine w_notV ?_) | (with_reducible refine w_if ?_)
  | (with_reducible refine w_int1 ?_) | (with_reducible refine w_int1b ?_) | (with_reducible refine w_abs ?_) | (with_reducible refine w_max2 ?_) | (with_reducible refine w_min2 ?_)
  | ((with_reducible refine w_eq ?h ?_); (case h => rfl)) | ((with_reducible refine w_ne ?h ?_); (case h => rfl)) | (with_reducible refine w_isN ?_) | (with_reducible refine w_isB ?_) | (with_reducible refine w_chain ?_)
  | (with_reducible refine w_ret ?_) | (with_reducible refine w_drop ?_) | (with_reducible refine w_ifS ?_) | (with_reducible refine w_gsub ?_) | (with_reducible refine w_augS ?_) | (with_reducible refine w_ipI ?_) | (with_reducible refine w_next ?_)
  | (with_reducible refine w_forR ?_) | (with_reducible refine w_forR2 ?_) | (with_reducible refine w_forL ?_) | (with_reducible refine w_forT ?_) | (with_reducible refine w_lcR ?_) | (with_reducible refine w_lcL ?_) | (with_reducible refine w_lcT ?_) | (with_reducible refine w_sl ?_) | (with_reducible refine w_part ?_) | (with_reducible refine w_noPart ?_) | (with_reducible refine w_in ?_)
  | (with_reducible refine w_gcons ?_) | (with_reducible refine w_gnil ?_) | (with_reducible refine w_lc3 ?_) | (with_reducible refine w_dcZ ?_) | (with_reducible refine w_dcT ?_) | (with_reducible refine w_dg ?_) | (with_reducible refine w_callK ?_) | (with_reducible refine w_dput ?_) | (with_reducible refine w_tup1 ?_)
  | (with_reducible refine w_tup ?_) | (with_reducible refine w_lst ?_)
  | ((with_reducible refine w_I ?h ?_); (case h => first | (exact Or.inr ⟨by decide, by decide⟩) | (exact Or.inl ⟨by decide, by decide⟩) | (show (0 : Int) < _; decide) | (exact ⟨by decide, by decide, by decide⟩) | assumption)))
local macro_rules | `(tactic| walk_at "aw") => `(tactic| repeat (walk_at "aw1"))
def t__law_is_right (K : PySem.W.Frag) : TS := (tSeq (tIfS (tOr (tNot (tB (tCB (rIsi K) (tCons (tVar 1) (tCons (tC (.ty "tuple")) tNil))))) (tNot (tTest (tChain rLeI rLeI (tC (.int 1)) (tCB (rLen1 K) (tCons (tVar 1) tNil)) (tC (.int 3)))))) (tRet (tC (.bl false))) tNext)
  (tSeq (tAsg (tLc (iTup K (tOp (rIxT K) (tVar 0) (tC (.int 0)))) (gName 3) tYes (tOp (rIxT K) (tVar 3) (tC (.int 0))) [3]) (gName 2))
  (tRet (tOp (rEqD K) (tLc (iTup K (tVar 1)) (gName 4) (tNot (tB (tCall (sp__law_is_wish K) [] E0 (tCons (tVar 2) (tCons (tVar 4) tNil))))) (tVar 4) [4]) (tLst tNil)))))
theorem Nc.lst {d : Nat} {ds : List PyData} (h : ∀ x ∈ ds, Nc d x) : Nc (d + 1) (.list ds) := by
  obtain ⟨h1, h2⟩ := nc_all h
  exact ⟨h1, by simp only [PyData.depth]; omega⟩
theorem w_eqL0 {K : PySem.W.Frag} {H : Hp} {a b : Addr} {xs : List V} {ds : List PyData} {d : Nat} {Q : VK} (h : H a = some (.lst xs)) (hx : IsAll H ds xs) (n : ∀ x ∈ ds, Nc d x) (z : d ≤ 60) (e : H b = some (.lst [])) (q : Q (.bl xs.isEmpty) H) : rEqD K (.ref a) (.ref b) H Q :=
  ⟨.list ds, .list [], .lst (SqL.of h) hx.dp, .lst (SqL.of e) .nil, (Nc.lst n).shaped (by omega), by decide, by
    have y : PyData.eqv (.list ds) (.list []) = xs.isEmpty := by
      cases hx <;> simp [PyData.eqv, PyData.eqvAll]
    rw [y]
    exact q⟩
theorem pick_all {H : Hp} {ds : List PyData} {xs : List V} (h : IsAll H ds xs) (f : PyData → Bool) : ∀ (is : List Nat), (∀ i ∈ is, i < xs.length) → IsAll H ((is.filter fun i => f (ds.getD i .none)).map fun i => ds.getD i .none) ((is.filter fun i => f (ds.getD i .none)).map fun i => xs.getD i .non)
  | [], _ => .nil
  | i :: is, hi => by
    have ih := pick_all h f is fun j hj => hi j (List.mem_cons_of_mem _ hj)
    rw [List.filter_cons]
    by_cases e : f (ds.getD i .none) = true
    · rw [if_pos e, List.map_cons, List.map_cons]
      have hx := List.getElem?_eq_getElem (hi i (List.mem_cons_self ..))
      obtain ⟨d, h1, h2⟩ := h.get hx
      refine .cons ?_ ih
      rw [getD_of h1, getD_of hx]
      exact h2
    · rw [if_neg e]
      exact ih
theorem len__law_is_right {K : PySem.W.Frag} : ∀ (vs : List V) (H : Hp) (Q : VK) (E : XK), sp__law_is_right K vs H Q E → vs.length = 2 := fun vs H Q E h => by
  obtain ⟨_, _, rfl, _⟩ := h
  rfl
theorem pure__law_is_right {K : PySem.W.Frag} (vs : List V) (H : Hp) (Q : VK) (E : XK) (h : sp__law_is_right K vs H Q E) : t__law_is_right K { nx := fun _ H' => Q .non H', rt := Q } (start ["model", "value", "names", "pair", "one"] vs) H := by
  obtain ⟨m, v, rfl, names, ys, zs, D, n, ⟨a, b, c, d, us, ps, qs, rfl, ea, eb, ec, ed, l1, l2, l3, h1, h2, h3⟩, hl, hn0, hD, hn, hn6, q⟩ := h
  show t__law_is_right K _ [some (.ref a), some v, none, none, none] H
  unfold t__law_is_right
  walk_at "aw"
  refine w_isiD hD (by simp) ?_
  walk_at "aw"
  by_cases hi : isiD D "tuple" = true
  · refine iteF'' (by rw [hi]; rfl) ?_
    obtain ⟨g, xs, ds, rfl, eg, rfl, hxs⟩ := isi_tup hi hD
    have hxl := hxs.length
    have q0 : ∀ H', Adv [] H H' → Q (.bl (decide (1 ≤ (ds.length : Int)) && decide ((ds.length : Int) ≤ 3) && ds.all (wshL names))) H' := q
    walk_at "aw"
    refine w_lenT (SqT.of eg) ?_
    rw [hxl]
    refine ⟨_, _, rfl, rfl, ?_⟩
    refine ⟨_, rfl, ?_⟩
    refine w_iteB (fun hl1 => ?_) fun hl1 => ?_
    · walk_at "aw"
      refine w_iteNB (fun hl3 => ?_) fun hl3 => ?_
      · rw [decide_eq_false (p := (ds.length : Int) ≤ 3) hl3, Bool.and_false, Bool.false_and] at q0
        walk_at "aw"
        exact q0 _ (.refl _ _)
      · rw [decide_eq_true (p := (1 : Int) ≤ ds.length) hl1, decide_eq_true hl3, Bool.true_and, Bool.true_and] at q0
        walk_at "aw"
        refine w_ixT (SqT.of ea) (at_of (j := 0) rfl rfl) ?_
        refine ⟨b, rfl, ⟨_, SqT.of eb⟩, kLc_pure (walk_tup (xs := us)) (by omega) (fun H' g => SqT.of (g.tup _ _ eb)) (fun _ => true) (fun i => .str (names.getD i Str.empty)) (fun i x H2 H3 Kt Kf hi g2 y kt kf => ?_) fun nl H4 nnl g4 enl => ?_⟩
        · obtain ⟨rfl, y1⟩ := y
          obtain ⟨p, w, x', rfl, hx, ep⟩ := h1 i _ y1
          rw [getD_of hx] at kt
          walk_at "aw"
          refine ⟨rfl, ?_⟩
          walk_at "aw"
          refine w_ixT (SqT.of (g2.tup _ _ ep)) (at_of (j := 0) rfl rfl) ?_
          exact kt rfl _ (.refl _ _)
        have enl2 : H4 nl = some (.lst (names.map V.str)) := by
          rw [enl, l1]
          congr 2
          rw [List.filter_eq_self.mpr fun _ _ => rfl]
          apply List.ext_getElem?
          intro i
          rw [List.getElem?_map, List.getElem?_map]
          by_cases hi : i < names.length
          · rw [List.getElem?_range hi, List.getElem?_eq_getElem hi, Option.map_some, Option.map_some, getD_of (List.getElem?_eq_getElem hi)]
          · rw [List.getElem?_eq_none (by simpa using hi), List.getElem?_eq_none (by omega)]
            rfl
        walk_at "aw"
        refine ⟨g, rfl, ⟨_, SqT.of (g4.tup _ _ eg)⟩, kLc_pure (walk_tup (xs := xs)) (by omega) (fun H' gg => SqT.of (gg.tup _ _ (g4.tup _ _ eg))) (fun i => !wshL names (ds.getD i .none)) (fun i => xs.getD i .non) (fun i x H2 H3 Kt Kf hi g2 y kt kf => ?_) fun rl H5 nrl g5 erl => ?_⟩
        · obtain ⟨rfl, y1⟩ := y
          obtain ⟨dt, z1, hdt⟩ := hxs.get y1
          rw [getD_of z1] at kt kf
          rw [getD_of y1] at kt
          walk_at "aw"
          refine ⟨rfl, ?_⟩
          walk_at "aw"
          refine ⟨nl, x, rfl, names, dt, g2.keep _ _ (fun z => nomatch z) enl2, hn0, hdt.up (g4.trans g2).tup, ?_⟩
          walk_at "aw"
          cases hw : wshL names dt with
          | true =>
            refine iteF'' rfl ?_
            exact kf (by rw [hw]; rfl) _ (.refl _ _)
          | false =>
            refine iteT'' rfl ?_
            walk_at "aw"
            exact kt (by rw [hw]; rfl) _ (.refl _ _)
        walk_at "aw"
        refine w_lstD (by decide) fun tz H6 nz a6 etz => ?_
        have g6 := g4.trans (g5.trans a6)
        have hp := pick_all hxs (fun x => !wshL names x) (List.range xs.length) fun i hi => List.mem_range.mp hi
        refine w_eqL0 (a6.keep _ _ (fun z => nomatch z) erl) (hp.up g6.tup) (d := n) (fun x hx => ?_) (by omega) etz ?_
        · obtain ⟨i, hi, rfl⟩ := List.mem_map.mp hx
          have hi := List.mem_range.mp (List.mem_filter.mp hi).1
          rw [getD_of (List.getElem?_eq_getElem (show i < ds.length by omega))]
          exact hn.item _ (List.getElem_mem _)
        walk_at "aw"
        have e : (((List.range xs.length).filter fun i => !wshL names (ds.getD i .none)).map fun i => xs.getD i V.non).isEmpty = ds.all (wshL names) := by
          rw [Bool.eq_iff_iff, List.isEmpty_iff, List.map_eq_nil_iff, List.filter_eq_nil_iff, List.all_eq_true]
          constructor
          · intro h x hx
            obtain ⟨j, hj, rfl⟩ := List.mem_iff_getElem.mp hx
            have := h j (List.mem_range.mpr (by omega))
            rw [getD_of (List.getElem?_eq_getElem hj)] at this
            simpa using this
          · intro h j hj
            have hj := List.mem_range.mp hj
            rw [getD_of (List.getElem?_eq_getElem (show j < ds.length by omega)), h _ (List.getElem_mem _)]
            decide
        rw [e]
        exact q0 _ g6
    · rw [decide_eq_false (p := (1 : Int) ≤ ds.length) hl1, Bool.false_and, Bool.false_and] at q0
      walk_at "aw"
      exact q0 _ (.refl _ _)
  · rw [Bool.not_eq_true] at hi
    refine iteT'' (by rw [hi]; rfl) ?_
    walk_at "aw"
    have : rghB names D = false := by
      cases hD with
      | tup _ _ => cases hi
      | non => rfl
      | bl _ => rfl
      | int _ => rfl
      | str _ => rfl
    rw [this] at q
    exact q _ (.refl _ _)
end AW
namespace AW
open PySem PySem.Spec PyProof.Rows L2 RZ
open StX
local macro_rules | `(tactic| walk_at "aw1") => `(tactic| first
  | (with_reducible refine w_seq ?_) | (with_reducible refine w_asg ?_) | (with_reducible refine w_gname ?_) | (with_reducible refine w_op ?_) | (with_reducible refine w_un ?_)
  | ((with_reducible refine' w_var ?h ?_); (case h => rfl)) | (with_reducible refine w_c ?_)
  | (with_reducible refine w_I0 ?_) | (with_reducible refine w_U ?_) | (with_reducible refine w_cb ?_) | (with_reducible refine w_nil ?_) | (with_reducible refine w_cons ?_) | (with_reducible refine w_call ?_)
  | (with_reducible refine w_test ?_) | (with_reducible refine w_B ?_) | (with_reducible refine w_bl ?_) | (with_reducible refine w_not ?_) | (with_reducible refine w_yes ?_) | (with_reducible refine iteT ?_) | (with_reducible refine iteF ?_) | (with_reducible refine w_and ?_) | (with_reducible refine w_or ?_)
  | (with_reducible refine w_andV ?_) | (with_reducible refine w_orV ?_) | (with_reducible refine w_notV ?_) | (with_reducible refine w_if ?_)
  | (with_reducible refine w_int1 ?_) | (with_reducible refine w_int1b ?_) | (with_reducible refine w_abs ?_) | (with_reducible refine w_max2 ?_) | (with_reducible refine w_min2 ?_)
  | ((with_reducible refine w_eq ?h ?_); (case h => rfl)) | ((with_reducible refine w_ne ?h ?_); (case h => rfl)) | (with_reducible refine w_isN ?_) | (with_reducible refine w_isB ?_) | (with_reducible refine w_chain ?_)
  | (with_reducible refine w_ret ?_) | (with_reducible refine w_drop ?_) | (with_reducible refine w_ifS ?_) | (with_reducible refine w_gsub ?_) | (with_reducible refine w_augS ?_) | (with_reducible refine w_ipI ?_) | (with_reducible refine w_next ?_)
  | (with_reducible refine w_forR ?_) | (with_reducible refine w_forR2 ?_) | (with_reducible refine w_forL ?_) | (with_reducible refine w_forT ?_) | (with_reducible refine w_lcR ?_) | (with_reducible refine w_lcL ?_) | (with_reducible refine w_lcT ?_) | (with_reducible refine w_sl ?_) | (with_reducible refine w_part ?_) | (with_reducible refine w_noPart ?_) | (with_reducible refine w_in ?_)
  | (with_reducible refine w_gcons ?_) | (with_reducible refine w_gnil ?_) | (with_reducible refine w_lc3 ?_) | (with_reducible refine w_dcZ ?_) | (with_reducible refine w_dcT ?_) | (with_reducible refine w_dg ?_) | (with_reducible refine w_callK ?_) | (with_reducible refine w_dput ?_) | (with_reducible refine w_tup1 ?_)
  | (with_reducible refine w_tup ?_) | (with_reducible refine w_lst ?_)
  | ((with_reducible refine w_I ?h ?_); (case h => first | (exact Or.inr ⟨by decide, by decide⟩) | (exact Or.inl ⟨by decide, by decide⟩) | (show (0 : Int) < _; decide) | (exact ⟨by decide, by decide, by decide⟩) | assumption)))
local macro_rules | `(tactic| walk_at "aw") => `(tactic| repeat (walk_at "aw1"))
/-- right wishes stand at v -/
def WsAt (H : Hp) (v : V) (names : List Str) : Prop := ∃ (t : Addr) (ws : List V) (ds : List PyData), v = .ref t ∧ H t = some (.tup ws) ∧ IsAll H ds ws ∧ Sm 4 (.tuple ds) ∧ rghB names (.tuple ds) = true
theorem WsAt.up {H H' : Hp} {v : V} {names : List Str} (h : WsAt H v names) (k : TK H H') : WsAt H' v names := by
  obtain ⟨t, ws, ds, e, h1, h2, h3, h4⟩ := h
  exact ⟨t, ws, ds, e, k _ _ h1, h2.up k, h3, h4⟩
structure NmOk (names : List Str) : Prop where
  nd : names.Nodup
  l2 : 2 ≤ names.length
  l9 : names.length ≤ 60
  ok : ∀ x ∈ names, okS x
  le : ∀ x ∈ names, x.length ≤ 1000
  lo : ∀ x ∈ names, 0 < x.length
def sp__law_wishes (_ : PySem.W.Frag) : Sp := fun vs H Q _ => ∃ (st : Addr) (m : V), vs = [.ref st, m] ∧ ∃ cs xs ys zs, StOk st cs H ∧ MdX H m xs ys zs ∧ NmOk xs ∧ ∀ v H', Go st cs H H' → WsAt H' v xs → Q v H'
def sp__law_edges (_ : PySem.W.Frag) : Sp := fun vs H Q _ => ∃ (m v : V), vs = [m, v] ∧ ∃ xs ys zs, MdX H m xs ys zs ∧ NmOk xs ∧ ys.length ≤ 60 ∧ zs.length ≤ 60 ∧ (∀ x ∈ ys ++ zs, okS x) ∧ WsAt H v xs ∧ ∀ l us H', H l = none → Adv [] H H' → H' l = some (.lst us) → AllDat 40 H' us → us.length ≤ 1000 → Q (.ref l) H'

theorem kLc_rel {J : It} {n : Nat} {G : Hp → Prop} {Y : Nat → Hp → V → Hp → Prop} {g : TG} {te : TE} {vs : List Nat} {σ : L2.St} {Q : VK} {H1 : Hp} (wk : Walk J n G Y) (hn : n ≤ 100000) (hG : ∀ H', Adv [] H1 H' → G H') (R : Nat → V → Hp → Prop) (mono : ∀ i v H H', TK H H' → R i v H → R i v H')
    (step : ∀ i x H H' (Kt : V → Hp → Prop), i < n → Adv [] H1 H → Y i H x H' → (∀ y H4, Adv [] H H4 → R i y H4 → Kt y H4) → g x (wipe σ vs) H' fun σ2 H2 => wipe σ2 vs = wipe σ vs ∧ te σ2 H2 Kt)
    (k : ∀ p H' ys, H1 p = none → Adv [] H1 H' → H' p = some (.lst ys) → ys.length = n → (∀ (i : Nat) v, ys[i]? = some v → R i v H') → Q (.ref p) H') : kLc J g tYes te vs σ Q H1 := by
  intro D hD
  refine lc_it wk (fun i H => Adv [] H1 H ∧ ∃ ys, H D = some (.lst ys) ∧ ys.length = i ∧ ∀ (m : Nat) v, ys[m]? = some v → R m v H) ⟨Adv.new hD, [], upd_same, rfl, fun m v e => by simp at e⟩ (fun i H _ p => hG H p.1)
    (fun i x H H' hi p y => ?_) fun H p => ?_
  · obtain ⟨g1, ys, e1, hl, hr⟩ := p
    refine step i x H H' _ hi g1 y fun v H4 g4 r4 => ?_
    have e4 : H4 D = some (.lst ys) := g4.keep _ _ (fun z => nomatch z) e1
    have t5 : TK H4 (upd H4 D (.lst (ys ++ [v]))) := (Adv.lst e4).tup
    refine ⟨ys, e4, Nat.lt_of_lt_of_le (show ys.length < 100001 by omega) (by decide), (g1.trans g4).mut hD e4 (fun _ z => by cases z), ys ++ [v], upd_same, by rw [List.length_append, hl]; rfl, fun m w e => ?_⟩
    by_cases hm : m < ys.length
    · rw [List.getElem?_append_left hm] at e
      exact mono _ _ _ _ (TK.trans g4.tup t5) (hr m w e)
    · have hm2 : m = ys.length := by
        have := (List.getElem?_eq_some_iff.mp e).1
        rw [List.length_append] at this
        simp at this
        omega
      subst hm2
      rw [List.getElem?_append_right (Nat.le_refl _), Nat.sub_self] at e
      simp at e
      subst e
      rw [hl]
      exact mono _ _ _ _ t5 r4
  · obtain ⟨g1, ys, e1, hl, hr⟩ := p
    exact k D H ys hD g1 e1 hl hr
theorem str_ext {x y : Str} (h : x.cps.toList = y.cps.toList) : x = y := by
  cases x; cases y
  simp only [] at h
  congr
  exact Array.ext' h
theorem str_tri {x y : Str} (h : ¬ ltS y x) (n : x ≠ y) : ltS x y := by
  refine Classical.byContradiction fun h2 => n (str_ext ?_)
  exact List.le_antisymm (List.not_lt.mp h) (List.not_lt.mp h2)
theorem sorted_asc {xs : List Str} (h : sortedS xs = true) (nd : xs.Nodup) : xs.Pairwise ltS := by
  have h1 := sorted_pw h
  exact (h1.and nd).imp fun {a b} z => str_tri z.1 z.2
theorem w_sortS' {K : PySem.W.Frag} {H : Hp} {Q : VK} {a : Addr} {xs : List Str} (h : H a = some (.lst (xs.map V.str))) (hl : xs.length < 64) (q : ∀ (ys : List Str) r H', ys.Perm xs → sortedS ys = true → H r = none → Adv [] H H' → H' r = some (.lst (ys.map V.str)) → Q (.ref r) H') : rSortedS K [.ref a] H Q :=
  ⟨a, xs, rfl, SqL.of h, hl, fun ys p h1 h2 h3 => q ys p _ h1 h2 h3 (Adv.new h3) upd_same⟩
theorem kNames {K : PySem.W.Frag} {b : Addr} {us : List V} {xs : List Str} {j : Nat} {σ : L2.St} {H : Hp} {Q : VK} (hb : H b = some (.tup us)) (hl : us.length = xs.length) (hz : xs.length ≤ 100000)
    (h : ∀ (i : Nat) u, us[i]? = some u → ∃ p vs x, u = .ref p ∧ xs[i]? = some x ∧ H p = some (.tup (.str x :: vs)))
    (hw : ∀ x : V, wipe ((wipe σ [j]).set j (some x)) [j] = wipe σ [j]) (hg : ∀ x : V, ((wipe σ [j]).set j (some x))[j]? = some (some x))
    (q : ∀ l H', H l = none → Adv [] H H' → H' l = some (.lst (xs.map V.str)) → Q (.ref l) H') : kLcT K (gName j) tYes (tOp (rIxT K) (tVar j) (tC (.int 0))) [j] σ Q (.ref b) H := by
  refine ⟨b, rfl, ⟨_, SqT.of hb⟩, kLc_pure (walk_tup (xs := us)) (by omega) (fun H' g => SqT.of (g.tup _ _ hb)) (fun _ => true) (fun i => .str (xs.getD i Str.empty)) (fun i x H2 H3 Kt Kf hi g2 y kt kf => ?_) fun nl H4 nnl g4 enl => ?_⟩
  · obtain ⟨rfl, y1⟩ := y
    obtain ⟨p, vs, x', rfl, hx, ep⟩ := h i _ y1
    rw [getD_of hx] at kt
    refine ⟨hw _, ⟨_, hg _, ?_⟩⟩
    exact w_ixT (SqT.of (g2.tup _ _ ep)) (at_of (j := 0) rfl rfl) (kt rfl _ (.refl _ _))
  refine q nl H4 nnl g4 ?_
  rw [enl, hl]
  congr 2
  rw [List.filter_eq_self.mpr fun _ _ => rfl]
  apply List.ext_getElem?
  intro i
  rw [List.getElem?_map, List.getElem?_map]
  by_cases hi : i < xs.length
  · rw [List.getElem?_range hi, List.getElem?_eq_getElem hi, Option.map_some, Option.map_some, getD_of (List.getElem?_eq_getElem hi)]
  · rw [List.getElem?_eq_none (by simpa using hi), List.getElem?_eq_none (by omega)]
    rfl
/-- a list of data out of a list of data -/
theorem le_lc {K : PySem.W.Frag} {d e n j : Nat} {src te : TE} {σ : L2.St} {H : Hp} (hs : LE' d n src σ H) (hn : n ≤ 100000) (hw : ∀ x : V, wipe ((wipe σ [j]).set j (some x)) [j] = wipe σ [j])
    (he : ∀ v H', Adv [] H H' → Dat d H' v → DE e te ((wipe σ [j]).set j (some v)) H') : LE' e n (tLc (iList K src) (gName j) tYes te [j]) σ H := fun H' Q a q => w_lcL (hs H' _ a fun l xs H1 a1 el dd hl =>
  ⟨l, rfl, ⟨_, SqL.of el⟩, kLc_rel (walk_list (xs := xs)) (by omega) (fun H2 g => SqL.of (g.keep _ _ (fun z => nomatch z) el)) (fun _ v H => Dat e H v) (fun _ _ _ _ k h => h.up k) (fun i x H2 H3 Kt hi g y kt => by
    obtain ⟨rfl, y1⟩ := y
    refine ⟨hw x, ?_⟩
    exact he x H3 (a.trans (a1.trans g)) ((dd x (List.mem_of_getElem? y1)).up g.tup) H3 Kt (.refl _ _) fun v H4 a4 d4 => kt v H4 a4 d4) fun p H2 ys np g ep hyl hr => q p ys H2 (a1.trans g) ep (fun v hv => by
      obtain ⟨i, hi, rfl⟩ := List.mem_iff_getElem.mp hv
      exact hr i _ (List.getElem?_eq_getElem hi)) (by omega)⟩)
end AW
namespace AW
open PySem PySem.Spec PyProof.Rows L2 RZ
open StX
local macro_rules | `(tactic| walk_at "aw1") => `(tactic| first
  | (with_reducible refine w_seq ?_) | (with_reducible refine w_asg ?_) | (with_reducible refine w_gname ?_) | (with_reducible refine w_op ?_) | (with_reducible refine w_un ?_)
  | ((with_reducible refine' w_var ?h ?_); (case h => rfl)) | (with_reducible refine w_c ?_)
  | (with_reducible refine w_I0 ?_) | (with_reducible refine w_U ?_) | (with_reducible refine w_cb ?_) | (with_reducible refine w_nil ?_) | (with_reducible refine w_cons ?_) | (with_reducible refine w_call ?_)
  | (with_reducible refine w_test ?_) | (with_reducible refine w_B ?_) | (with_reducible refine w_bl ?_) | (with_reducible refine w_not ?_) | (with_reducible refine w_yes ?_) | (with_reducible refine iteT ?_) | (with_reducible refine iteF ?_) | (with_reducible refine w_and ?_) | (with_reducible refine w_or ?_)
  | (with_reducible refine w_andV ?_) | (with_reducible refine w_orV ?_) | (with_reducible refine w_notV ?_) | (with_reducible refine w_if ?_)
  | (with_reducible refine w_int1 ?_) | (with_reducible refine w_int1b ?_) | (with_reducible refine w_abs ?_) | (with_reducible refine w_max2 ?_) | (with_reducible refine w_min2 ?_)
  | ((with_reducible refine w_eq ?h ?_); (case h => rfl)) | ((with_reducible refine w_ne ?h ?_); (case h => rfl)) | (with_reducible refine w_isN ?_) | (with_reducible refine w_isB ?_) | (with_reducible refine w_chain ?_)
  | (with_reducible refine w_ret ?_) | (with_reducible refine w_drop ?_) | (with_reducible refine w_ifS ?_) | (with_reducible refine w_gsub ?_) | (with_reducible refine w_augS ?_) | (with_reducible refine w_ipI ?_) | (with_reducible refine w_next ?_)
  | (with_reducible refine w_forR ?_) | (with_reducible refine w_forR2 ?_) | (with_reducible refine w_forL ?_) | (with_reducible refine w_forT ?_) | (with_reducible refine w_lcR ?_) | (with_reducible refine w_lcL ?_) | (with_reducible refine w_lcT ?_) | (with_reducible refine w_sl ?_) | (with_reducible refine w_part ?_) | (with_reducible refine w_noPart ?_) | (with_reducible refine w_in ?_)
  | (with_reducible refine w_gcons ?_) | (with_reducible refine w_gnil ?_) | (with_reducible refine w_lc3 ?_) | (with_reducible refine w_dcZ ?_) | (with_reducible refine w_dcT ?_) | (with_reducible refine w_dg ?_) | (with_reducible refine w_callK ?_) | (with_reducible refine w_dput ?_) | (with_reducible refine w_tup1 ?_)
  | (with_reducible refine w_tup ?_) | (with_reducible refine w_lst ?_)
  | ((with_reducible refine w_I ?h ?_); (case h => first | (exact Or.inr ⟨by decide, by decide⟩) | (exact Or.inl ⟨by decide, by decide⟩) | (show (0 : Int) < _; decide) | (exact ⟨by decide, by decide, by decide⟩) | assumption)))
local macro_rules | `(tactic| walk_at "aw") => `(tactic| repeat (walk_at "aw1"))
def t__law_wishes (K : PySem.W.Frag) : TS := (tSeq (tAsg (tLst tNil) (gName 2))
  (tSeq (tFor (iRng1 (tCons (tOp rAddI (tC (.int 1)) (tCall (sp__law_draw K) [] E0 (tCons (tVar 0) (tCons (tC (.int 3)) tNil)))) tNil)) (gName 3)
  (tSeq (tAsg (tCall (sp__law_some K) [] E0 (tCons (tVar 0) (tCons (tOp (rIxT K) (tVar 1) (tC (.int 0))) (tCons (tCall (sp__law_pick K) [] E0 (tCons (tVar 0) (tCons (tLst (tCons (tC (.int 0)) (tCons (tC (.int 1)) (tCons (tC (.int 2)) (tCons (tCB rMin2 (tCons (tC (.int 12)) (tCons (tCB (rLen1 K) (tCons (tOp (rIxT K) (tVar 1) (tC (.int 0))) tNil)) tNil))) tNil))))) tNil))) tNil)))) (gName 4))
  (tSeq (tAsg (tLc (iList K (tVar 4)) (gName 6) tYes (tCall (sp__law_pick K) [] E0 (tCons (tVar 0) (tCons (tLst (tCons (tC (.int 1)) (tCons (tUn rNeg (tC (.int 1))) (tCons (tC (.int 100)) (tCons (tUn rNeg (tC (.int 100))) (tCons (tOp rAddI (tC (.int 1)) (tCall (sp__law_draw K) [] E0 (tCons (tVar 0) (tCons (tC (.int 100)) tNil)))) tNil)))))) tNil))) [6]) (gName 5))
  (tSeq (tAsg (tCB (rSortedS K) (tCons (tLc (iList K (tVar 4)) (gName 6) tYes (tOp (rIxT K) (tVar 6) (tC (.int 0))) [6]) tNil)) (gName 7))
  (tSeq (tAsg (tCall (sp__law_pick K) [] E0 (tCons (tVar 0) (tCons (tLst (tCons (tC (.int 0)) (tCons (tC (.int 1000000)) (tCons (tUn rNeg (tC (.int 1000000))) (tCons (tOp rSubI (tCall (sp__law_draw K) [] E0 (tCons (tVar 0) (tCons (tC (.int 2000001)) tNil))) (tC (.int 1000000))) tNil))))) tNil))) (gName 8))
  (tDrop (tBM K "list" rAppend (tVar 2) (tCons (tTup (tCons (tVar 8) (tCons (tThen (tLc (iRng1 (tCons (tCB (rLen1 K) (tCons (tVar 7) tNil)) tNil)) (gName 9) tYes (tTup (tCons (tOp (rIxL K) (tVar 7) (tVar 9)) (tCons (tOp (rIxL K) (tVar 5) (tVar 9)) tNil))) [9]) (kTup K)) (tCons (tCall (sp__law_draw K) [] E0 (tCons (tVar 0) (tCons (tC (.int 2)) tNil))) tNil)))) tNil))))))))
  (tRet (tThen (tVar 2) (kTup K)))))
def nmAt (H : Hp) (u : V) : Str := match u with
  | .ref p => (match H p with
    | some (.tup (.str x :: _)) => x
    | _ => Str.empty)
  | _ => Str.empty
theorem names_perm {H : Hp} {us made left : List V} {xs : List Str} (hl : us.length = xs.length) (h : ∀ (i : Nat) u, us[i]? = some u → ∃ p v x, u = .ref p ∧ xs[i]? = some x ∧ H p = some (.tup [.str x, v])) (hp : (made ++ left).Perm us) :
    ∃ ns ls : List Str, (ns ++ ls).Perm xs ∧ ns.length = made.length ∧ ∀ (i : Nat) u, made[i]? = some u → ∃ p v x, u = .ref p ∧ ns[i]? = some x ∧ H p = some (.tup [.str x, v]) := by
  have e : us.map (nmAt H) = xs := by
    apply List.ext_getElem?
    intro i
    rw [List.getElem?_map]
    by_cases hi : i < us.length
    · obtain ⟨p, v, x, e1, e2, e3⟩ := h i _ (List.getElem?_eq_getElem hi)
      rw [List.getElem?_eq_getElem hi, e2, Option.map_some, e1]
      simp only [nmAt, e3]
    · rw [List.getElem?_eq_none (by omega), List.getElem?_eq_none (by omega)]
      rfl
  refine ⟨made.map (nmAt H), left.map (nmAt H), ?_, by rw [List.length_map], fun i u hu => ?_⟩
  · have := hp.map (nmAt H)
    rw [List.map_append, e] at this
    exact this
  · have hm : u ∈ us := hp.mem_iff.mp (List.mem_append_left _ (List.mem_of_getElem? hu))
    obtain ⟨j, hj, ej⟩ := List.mem_iff_getElem.mp hm
    obtain ⟨p, v, x, e1, e2, e3⟩ := h j u (by rw [List.getElem?_eq_getElem hj, ej])
    refine ⟨p, v, x, e1, ?_, e3⟩
    rw [List.getElem?_map, hu, Option.map_some, e1]
    simp only [nmAt, e3]
theorem len__law_wishes {K : PySem.W.Frag} : ∀ (vs : List V) (H : Hp) (Q : VK) (E : XK), sp__law_wishes K vs H Q E → vs.length = 2 := fun vs H Q E h => by
  obtain ⟨_, _, rfl, _⟩ := h
  rfl
theorem pairs_asc {ts : List PyData} {ns : List Str} (hl : ts.length = ns.length) (h : ∀ (i : Nat) d, ts[i]? = some d → fstS d = ns.getD i Str.empty) (ha : ns.Pairwise ltS) : ascB (ts.map fstS) = true := by
  rw [asc_iff]
  intro k hk
  rw [getD_of (List.getElem?_eq_getElem (show k < ts.length by omega)), getD_of (List.getElem?_eq_getElem hk), h k _ (List.getElem?_eq_getElem _), h (k + 1) _ (List.getElem?_eq_getElem _),
    getD_of (List.getElem?_eq_getElem (show k < ns.length by omega)), getD_of (List.getElem?_eq_getElem (show k + 1 < ns.length by omega))]
  exact List.pairwise_iff_getElem.mp ha k (k + 1) _ _ (by omega)
theorem pure__law_wishes {K : PySem.W.Frag} (vs : List V) (H : Hp) (Q : VK) (E : XK) (h : sp__law_wishes K vs H Q E) : t__law_wishes K { nx := fun _ H' => Q .non H', rt := Q } (start ["bag", "model", "made", "k", "some", "weights", "pair", "names", "constant", "j"] vs) H := by
  obtain ⟨st, m, rfl, cs, xs, ys, zs, ok, ⟨a, b, c, d, us, ps, qs, rfl, ea, eb, ec, ed, l1, l2, l3, h1, h2, h3⟩, nm, q⟩ := h
  have nl2 := nm.l2
  have nl9 := nm.l9
  show t__law_wishes K _ [some (.ref st), some (.ref a), none, none, none, none, none, none, none, none] H
  unfold t__law_wishes
  walk_at "aw"
  refine w_lstD (by decide) fun mk H1 nmk a1 emk => ?_
  have g1 := Go.of ok a1
  have omk := (ok.ne nmk).1
  walk_at "aw"
  refine w_draw g1.ok (by decide) (by decide) fun z H2 hz0 hz1 g2 => ?_
  obtain ⟨N, rfl⟩ : ∃ N : Nat, z = (N : Int) := ⟨z.toNat, by omega⟩
  walk_at "aw"
  rw [show (1 : Int) + (N : Int) = ((N + 1 : Nat) : Int) by omega]
  refine kForR_i (n := N + 1) (by omega) (fun i σ' H' => ∃ (y3 y4 y5 y6 y7 y8 y9 : Option V) (ws : List V) (ds : List PyData), σ' = [some (.ref st), some (.ref a), some (.ref mk), y3, y4, y5, y6, y7, y8, y9] ∧ Go st cs H H' ∧ H' mk = some (.lst ws) ∧ ws.length = i ∧ IsAll H' ds ws ∧ ∀ D ∈ ds, Sm 3 D ∧ wshL xs D = true)
    ⟨_, _, _, _, _, _, _, [], [], rfl, g1.trans g2, g2.keep omk emk, rfl, .nil, fun _ h => nomatch h⟩ (fun i σ' H' hi pp => ?_) fun σ' H' pp => ?_
  · obtain ⟨y3, y4, y5, y6, y7, y8, y9, ws, ds, rfl, g, emk', hwl, hws, hds⟩ := pp
    have ea' := g.tk _ _ ea
    have eb' := g.tk _ _ eb
    walk_at "aw"
    refine w_ixT (SqT.of ea') (at_of (j := 0) rfl rfl) ?_
    walk_at "aw"
    refine w_ixT (SqT.of ea') (at_of (j := 0) rfl rfl) ?_
    walk_at "aw"
    refine w_lenT (SqT.of eb') ?_
    walk_at "aw"
    refine w_pickL (ns := [0, 1, 2, if ((us.length : Nat) : Int) < 12 then ((us.length : Nat) : Int) else 12]) g.ok (by simp) (by simp) fun mm hmm H3 g3 => ?_
    have hm12 : 0 ≤ mm ∧ mm ≤ 12 ∧ mm ≤ us.length := by
      simp only [List.mem_cons, List.not_mem_nil, or_false] at hmm
      rcases hmm with rfl | rfl | rfl | rfl <;> first | omega | (split <;> omega)
    obtain ⟨M, rfl⟩ : ∃ M : Nat, mm = (M : Int) := ⟨mm.toNat, by omega⟩
    walk_at "aw"
    have g03 := g.trans g3
    refine ⟨st, .ref b, M, rfl, cs, us, g03.ok, .inl ⟨b, rfl, .inr (SqT.of (g3.tk _ _ eb'))⟩, by omega, .inl (by omega), fun sl made left H4 hperm hml nsl g4 esl => ?_⟩
    have g04 := g03.trans g4
    obtain ⟨ns, ls, hns, hnl, hnx⟩ := names_perm (H := H4) l1 (fun i u e => by
      obtain ⟨p, v, x, e1, e2, e3⟩ := h1 i u e
      exact ⟨p, v, x, e1, e2, g04.tk _ _ e3⟩) hperm
    have nsl0 := g03.free ok nsl
    have osl := (ok.ne nsl0).1
    walk_at "aw"
    refine kLcL_all (xs := made) (SqL.of esl) osl (by omega) g04.ok (fun _ v _ => ∃ w : Int, v = .int w ∧ -100 ≤ w ∧ w ≤ 100 ∧ w ≠ 0) (fun _ _ _ _ _ h => h) (fun j u H5 Kt hj g5 kt => ?_) fun wl H5 wvs nwl g5 ewl hwvl hwv => ?_
    · walk_at "aw"
      refine ⟨rfl, ?_⟩
      walk_at "aw"
      refine w_draw g5.ok (by decide) (by decide) fun e H6 he0 he1 g6 => ?_
      walk_at "aw"
      refine w_pickL (ns := [1, -1, 100, -100, 1 + e]) g6.ok (by simp) (by simp) fun w hw H7 g7 => ?_
      refine kt _ _ (g6.trans g7) ⟨w, rfl, ?_⟩
      simp only [List.mem_cons, List.not_mem_nil, or_false] at hw
      omega
    have g05 := g04.trans g5
    have esl5 := g5.keep osl esl
    have nwl0 := g04.free ok nwl
    have owl := (ok.ne nwl0).1
    walk_at "aw"
    refine ⟨sl, rfl, ⟨_, SqL.of esl5⟩, kLc_pure (walk_list (xs := made)) (by omega) (fun H' gg => SqL.of (gg.keep _ _ (fun z => nomatch z) esl5)) (fun _ => true) (fun i => .str (ns.getD i Str.empty)) (fun i x H6 H7 Kt Kf hi g6 y kt kf => ?_) fun nl H6 nnl g6 enl => ?_⟩
    · obtain ⟨rfl, y1⟩ := y
      obtain ⟨p, v, x', rfl, e2, e3⟩ := hnx i _ y1
      rw [getD_of e2] at kt
      walk_at "aw"
      refine ⟨rfl, ?_⟩
      walk_at "aw"
      refine w_ixT (SqT.of (g6.tup _ _ (g5.tk _ _ e3))) (at_of (j := 0) rfl rfl) ?_
      exact kt rfl _ (.refl _ _)
    have enl2 : H6 nl = some (.lst (ns.map V.str)) := by
      rw [enl, ← hnl]
      congr 2
      rw [List.filter_eq_self.mpr fun _ _ => rfl]
      apply List.ext_getElem?
      intro i
      rw [List.getElem?_map, List.getElem?_map]
      by_cases hi : i < ns.length
      · rw [List.getElem?_range hi, List.getElem?_eq_getElem hi, Option.map_some, Option.map_some, getD_of (List.getElem?_eq_getElem hi)]
      · rw [List.getElem?_eq_none (by simpa using hi), List.getElem?_eq_none (by omega)]
        rfl
    walk_at "aw"
    refine w_sortS' enl2 (by omega) fun ms nl2 H7 hms hsrt nnl2 a7 enl3 => ?_
    have hmsl := hms.length_eq
    have hnd : (ns ++ ls).Nodup := hns.nodup_iff.mpr nm.nd
    have hmnd : ms.Nodup := hms.nodup_iff.mpr (List.nodup_append.mp hnd).1
    have hmx : ∀ x ∈ ms, x ∈ xs := fun x hx => hns.mem_iff.mp (List.mem_append_left _ (hms.mem_iff.mp hx))
    have hasc := sorted_asc hsrt hmnd
    have g07 := g05.new (g6.trans a7)
    have ewl7 := (g6.trans a7).keep _ _ (fun z => nomatch z) ewl
    have nnl20 := (g05.new g6).free ok nnl2
    have onl2 := (ok.ne nnl20).1
    walk_at "aw"
    refine w_draw g07.ok (by decide) (by decide) fun cz H8 hc0 hc1 g8 => ?_
    walk_at "aw"
    refine w_pickL (ns := [0, 1000000, -1000000, cz - 1000000]) g8.ok (by simp) (by simp) fun cn hcn H9 g9 => ?_
    have hcn2 : -1000000 ≤ cn ∧ cn ≤ 1000000 := by
      simp only [List.mem_cons, List.not_mem_nil, or_false] at hcn
      omega
    have g89 := g8.trans g9
    have g09 := g07.trans g89
    have enl9 := g89.keep onl2 enl3
    have ewl9 := g89.keep owl ewl7
    walk_at "aw"
    have k09 : Go st cs H' H9 := ((g3.trans (g4.trans g5)).new (g6.trans a7)).trans g89
    have emk9 := k09.keep omk emk'
    refine w_app rfl emk9 ?_
    walk_at "aw"
    refine w_lenL (SqL.of enl9) ?_
    rw [List.length_map, hmsl, hnl, hml]
    walk_at "aw"
    refine kLcR_all (n := M) (by omega) g09.ok (fun i v H => ∃ (x : Str) (w : Int), ms[i]? = some x ∧ wvs[i]? = some (.int w) ∧ Is H (.tuple [.str x, .int w]) v) (fun i v H H' k h => by
      obtain ⟨x, w, e1, e2, e3⟩ := h
      exact ⟨x, w, e1, e2, e3.up k⟩) (fun j H10 Kt hj g10 kt => ?_) fun tl H10 tvs ntl g10 etl htl htv => ?_
    · walk_at "aw"
      refine ⟨rfl, ?_⟩
      walk_at "aw"
      obtain ⟨x, hx⟩ := get_some (xs := ms) (i := j) (by omega)
      obtain ⟨w, hw⟩ := get_some (xs := wvs) (i := j) (by omega)
      obtain ⟨w', rfl, _⟩ := hwv j w hw
      refine w_ixL (SqL.of (g10.keep onl2 enl9)) (v := .str x) (at_of (j := j) (by omega) (by rw [List.getElem?_map, hx]; rfl)) ?_
      walk_at "aw"
      refine w_ixL (SqL.of (g10.keep owl ewl9)) (at_of (j := j) (by omega) hw) ?_
      walk_at "aw"
      refine w_tupD (by show 2 ≤ 100000; decide) fun p H11 np a11 ep => ?_
      exact kt _ _ (Go.of g10.ok a11) ⟨x, w', hx, hw, .tup ep (.cons (.str x) (.cons (.int w') .nil))⟩
    walk_at "aw"
    refine .inl ⟨tl, tvs, rfl, SqL.of etl, fun tt ntt => ?_⟩
    have a11 := Adv.new (o := .tup tvs) ntt
    have ett : (upd H10 tt (.tup tvs)) tt = some (.tup tvs) := upd_same
    generalize upd H10 tt (.tup tvs) = H11 at a11 ett
    have g11 := g10.new a11
    walk_at "aw"
    refine w_draw g11.ok (by decide) (by decide) fun pz H12 hp0 hp1 g12 => ?_
    walk_at "aw"
    refine w_tupD (by show 3 ≤ 100000; decide) fun wt H13 nwt a13 ewt => ?_
    have g913 : Go st cs H9 H13 := (g11.trans g12).new a13
    walk_at "aw"
    refine w_append (g913.keep omk emk9) (by omega) ?_
    walk_at "aw"
    obtain ⟨ts, hts, htd⟩ : ∃ ts : List PyData, IsAll H10 ts tvs ∧ ∀ (i : Nat) d, ts[i]? = some d → ∃ (x : Str) (w : Int), ms[i]? = some x ∧ wvs[i]? = some (.int w) ∧ d = .tuple [.str x, .int w] := by
      clear etl ett htl
      have : ∀ (tvs : List V) (off : Nat), (∀ (i : Nat) v, tvs[i]? = some v → ∃ (x : Str) (w : Int), ms[off + i]? = some x ∧ wvs[off + i]? = some (.int w) ∧ Is H10 (.tuple [.str x, .int w]) v) →
          ∃ ts : List PyData, IsAll H10 ts tvs ∧ ∀ (i : Nat) d, ts[i]? = some d → ∃ (x : Str) (w : Int), ms[off + i]? = some x ∧ wvs[off + i]? = some (.int w) ∧ d = .tuple [.str x, .int w] := by
        intro tvs
        induction tvs with
        | nil => exact fun off _ => ⟨[], .nil, fun i d e => by simp at e⟩
        | cons v tvs ih =>
          intro off h
          obtain ⟨x, w, e1, e2, e3⟩ := h 0 v rfl
          obtain ⟨ts, t1, t2⟩ := ih (off + 1) fun i u e => by
            rw [show off + 1 + i = off + (i + 1) by omega]
            exact h (i + 1) u (by simpa using e)
          refine ⟨_ :: ts, .cons e3 t1, fun i d e => ?_⟩
          cases i with
          | zero =>
            simp at e
            exact ⟨x, w, e1, e2, e.symm⟩
          | succ i =>
            rw [show off + (i + 1) = off + 1 + i by omega]
            exact t2 i d (by simpa using e)
      obtain ⟨ts, t1, t2⟩ := this tvs 0 (by simpa using htv)
      exact ⟨ts, t1, by simpa using t2⟩
    have htsl := hts.length
    have hD : Is H13 (.tuple [.int cn, .tuple ts, .int pz]) (.ref wt) := .tup ewt (.cons (.int cn) (.cons (.tup ((g12.new a13).tk _ _ ett) (hts.up (TK.trans a11.tup (g12.new a13).tk))) (.cons (.int pz) .nil)))
    have hts1 : ∀ D ∈ ts, Sm 1 D ∧ trmL xs D = true := fun D hD => by
      obtain ⟨i, hi, rfl⟩ := List.mem_iff_getElem.mp hD
      obtain ⟨x, w, e1, e2, e3⟩ := htd i _ (List.getElem?_eq_getElem hi)
      obtain ⟨w', e4, w1, w2, w3⟩ := hwv i _ e2
      cases e4
      have hx := hmx x (List.mem_of_getElem? e1)
      rw [e3]
      refine ⟨.tup (by simp) fun d hd => ?_, ?_⟩
      · simp only [List.mem_cons, List.not_mem_nil, or_false] at hd
        rcases hd with rfl | rfl
        · exact .str (nm.ok x hx) (nm.le x hx)
        · exact .int w
      · show (decide (x ∈ xs) && (decide (-100 ≤ w) && decide (w ≤ 100)) && !decide (w = 0)) = true
        rw [decide_eq_true hx, decide_eq_true w1, decide_eq_true w2, decide_eq_false w3]
        rfl
    have hW : wshL xs (.tuple [.int cn, .tuple ts, .int pz]) = true := by
      show ((decide (-1000000 ≤ cn) && decide (cn ≤ 1000000)) && (decide (ts.length ≤ 12) && (decide (0 ≤ pz) && decide (pz ≤ 1)) && tsB xs ts)) = true
      rw [decide_eq_true hcn2.1, decide_eq_true hcn2.2, decide_eq_true hp0, decide_eq_true (show pz ≤ 1 by omega), decide_eq_true (show ts.length ≤ 12 by omega)]
      show tsB xs ts = true
      unfold tsB
      rw [Bool.and_eq_true]
      refine ⟨List.all_eq_true.mpr fun D hD => (hts1 D hD).2, pairs_asc (ns := ms) (by omega) (fun i d e => ?_) hasc⟩
      obtain ⟨x, w, e1, e2, rfl⟩ := htd i d e
      rw [getD_of e1]
      rfl
    refine ⟨_, _, _, _, _, _, _, ws ++ [.ref wt], ds ++ [.tuple [.int cn, .tuple ts, .int pz]], rfl, (g09.trans g913).mutL ok nmk (g913.keep omk emk9), upd_same, by rw [List.length_append, hwl]; rfl, ?_, fun D hD => ?_⟩
    · have kk : TK H' (upd H13 mk (.lst (ws ++ [.ref wt]))) := TK.trans (k09.trans g913).tk (Adv.lst (g913.keep omk emk9)).tup
      have kk2 : TK H13 (upd H13 mk (.lst (ws ++ [.ref wt]))) := (Adv.lst (g913.keep omk emk9)).tup
      exact (hws.up kk).append (.cons (hD.up kk2) .nil)
    · rcases List.mem_append.mp hD with hD | hD
      · exact hds D hD
      · rw [List.mem_singleton.mp hD]
        refine ⟨.tup (by simp) fun d hd => ?_, hW⟩
        simp only [List.mem_cons, List.not_mem_nil, or_false] at hd
        rcases hd with rfl | rfl | rfl
        · exact .int cn
        · exact .tup (by omega) fun d hd => (hts1 d hd).1
        · exact .int pz
  · obtain ⟨y3, y4, y5, y6, y7, y8, y9, ws, ds, rfl, g, emk', hwl, hws, hds⟩ := pp
    have hdl := hws.length
    walk_at "aw"
    refine .inl ⟨mk, ws, rfl, SqL.of emk', fun tt ntt => ?_⟩
    have a11 := Adv.new (o := .tup ws) ntt
    have ett : (upd H' tt (.tup ws)) tt = some (.tup ws) := upd_same
    generalize upd H' tt (.tup ws) = H11 at a11 ett
    refine q _ _ (g.new a11) ⟨tt, ws, ds, rfl, ett, hws.up a11.tup, .tup (by omega) fun d hd => (hds d hd).1, ?_⟩
    show (decide (1 ≤ (ds.length : Int)) && decide ((ds.length : Int) ≤ 3) && ds.all (wshL xs)) = true
    rw [decide_eq_true (by omega), decide_eq_true (by omega)]
    exact List.all_eq_true.mpr fun d hd => (hds d hd).2
end AW
namespace AW
open PySem PySem.Spec PyProof.Rows L2 RZ
open StX
local macro_rules | `(tactic| walk_at "aw1") => `(tactic| first
  | (with_reducible refine w_seq ?_) | (with_reducible refine w_asg ?_) | (with_reducible refine w_gname ?_) | (with_reducible refine w_op ?_) | (with_reducible refine w_un ?_)
  | ((with_reducible refine' w_var ?h ?_); (case h => rfl)) | (with_reducible refine w_c ?_)
  | (with_reducible refine w_I0 ?_) | (with_reducible refine w_U ?_) | (with_reducible refine w_cb ?_) | (with_reducible refine w_nil ?_) | (with_reducible refine w_cons ?_) | (with_reducible refine w_call ?_)
  | (with_reducible refine w_test ?_) | (with_reducible refine w_B ?_) | (with_reducible refine w_bl ?_) | (with_reducible refine w_not ?_) | (with_reducible refine w_yes ?_) | (with_reducible refine iteT ?_) | (with_reducible refine iteF ?_) | (with_reducible refine w_and ?_) | (with_reducible refine w_or ?_)
  | (with_reducible refine w_andV ?_) | (with_reducible refine w_orV ?_) | (with_reducible refine w_notV ?_) | (with_reducible refine w_if ?_)
  | (with_reducible refine w_int1 ?_) | (with_reducible refine w_int1b ?_) | (with_reducible refine w_abs ?_) | (with_reducible refine w_max2 ?_) | (with_reducible refine w_min2 ?_)
  | ((with_reducible refine w_eq ?h ?_); (case h => rfl)) | ((with_reducible refine w_ne ?h ?_); (case h => rfl)) | (with_reducible refine w_isN ?_) | (with_reducible refine w_isB ?_) | (with_reducible refine w_chain ?_)
  | (with_reducible refine w_ret ?_) | (with_reducible refine w_drop ?_) | (with_reducible refine w_ifS ?_) | (with_reducible refine w_gsub ?_) | (with_reducible refine w_augS ?_) | (with_reducible refine w_ipI ?_) | (with_reducible refine w_next ?_)
  | (with_reducible refine w_forR ?_) | (with_reducible refine w_forR2 ?_) | (with_reducible refine w_forL ?_) | (with_reducible refine w_forT ?_) | (with_reducible refine w_lcR ?_) | (with_reducible refine w_lcL ?_) | (with_reducible refine w_lcT ?_) | (with_reducible refine w_sl ?_) | (with_reducible refine w_part ?_) | (with_reducible refine w_noPart ?_) | (with_reducible refine w_in ?_)
  | (with_reducible refine w_gcons ?_) | (with_reducible refine w_gnil ?_) | (with_reducible refine w_lc3 ?_) | (with_reducible refine w_dcZ ?_) | (with_reducible refine w_dcT ?_) | (with_reducible refine w_dg ?_) | (with_reducible refine w_callK ?_) | (with_reducible refine w_dput ?_) | (with_reducible refine w_tup1 ?_)
  | (with_reducible refine w_tup ?_) | (with_reducible refine w_lst ?_)
  | ((with_reducible refine w_I ?h ?_); (case h => first | (exact Or.inr ⟨by decide, by decide⟩) | (exact Or.inl ⟨by decide, by decide⟩) | (show (0 : Int) < _; decide) | (exact ⟨by decide, by decide, by decide⟩) | assumption)))
local macro_rules | `(tactic| walk_at "aw") => `(tactic| repeat (walk_at "aw1"))
def T1 (d : Nat) (te : TE) (σ : L2.St) (H : Hp) : Prop := ∀ (H' : Hp) (Q : VK), Adv [] H H' → (∀ a x H'', Adv [] H' H'' → H'' a = some (.tup [x]) → Dat d H'' x → Q (.ref a) H'') → te σ H' Q
def t__law_edges (K : PySem.W.Frag) : TS := (tSeq (tAsg (tCB (rSortedS K) (tCons (tLc (iTup K (tOp (rIxT K) (tVar 0) (tC (.int 0)))) (gName 3) tYes (tOp (rIxT K) (tVar 3) (tC (.int 0))) [3]) tNil)) (gName 2))
  (tSeq (tAsg (tOp rCat (tOp rCat (tLc (iTup K (tOp (rIxT K) (tVar 0) (tC (.int 1)))) (gName 5) tYes (tOp (rIxT K) (tVar 5) (tC (.int 0))) [5]) (tLc (iTup K (tOp (rIxT K) (tVar 0) (tC (.int 2)))) (gName 5) tYes (tOp (rIxT K) (tVar 5) (tC (.int 0))) [5])) (tLst (tCons (tC (.str "")) (tCons (tOp rAddS (tOp (rIxL K) (tVar 2) (tC (.int 0))) (tOp rRepS (tC (.str "x")) (tC (.int 30)))) tNil)))) (gName 4))
  (tSeq (tAsg (tTup (tCons (tOp (rIxL K) (tVar 2) (tC (.int 0))) (tCons (tOp (rIxL K) (tVar 2) (tC (.int 1))) tNil))) (gTup K 2 (gCons (gName 6) (gCons (gName 7) gNil))))
  (tSeq (tAsg (tLst (tCons (tTup tNil) (tCons (tOp (rRepW K) (tSl (rSlA K) (tVar 1) tNoPart (tPart (tC (.int 1)))) (tC (.int 3))) (tCons (tOp (rRepW K) (tSl (rSlA K) (tVar 1) tNoPart (tPart (tC (.int 1)))) (tC (.int 4))) (tCons (tOp (rIxT K) (tVar 1) (tC (.int 0))) (tCons (tC .non) (tCons (tC (.int 0)) (tCons (tC (.str "wish")) (tCons (tC (.bl true)) (tCons (tTup (tCons (tTup tNil) tNil)) (tCons (tTup (tCons (tVar 1) tNil)) (tCons (tTup (tCons (tOp (rCatA K) (tOp (rIxT K) (tVar 1) (tC (.int 0))) (tTup (tCons (tC (.int 0)) tNil))) tNil)) (tCons (tTup (tCons (tSl (rSlA K) (tOp (rIxT K) (tVar 1) (tC (.int 0))) tNoPart (tPart (tC (.int 2)))) tNil)) tNil))))))))))))) (gName 8))
  (tSeq (tAsg (tOp rCat (tVar 8) (tLc (iList K (tLst (tCons (tC (.int 1000000)) (tCons (tC (.int 1000001)) (tCons (tUn rNeg (tC (.int 1000000))) (tCons (tUn rNeg (tC (.int 1000001))) (tCons (tC (.bl true)) (tCons (tC (.bl false)) (tCons (tC .non) (tCons (tC (.str "0")) (tCons (tTup tNil) tNil))))))))))) (gName 9) tYes (tTup (tCons (tTup (tCons (tVar 9) (tCons (tTup tNil) (tCons (tC (.int 0)) tNil)))) tNil)) [9])) (gName 8))
  (tSeq (tAsg (tOp rCat (tVar 8) (tLc (iList K (tLst (tCons (tC (.int 100)) (tCons (tC (.int 101)) (tCons (tUn rNeg (tC (.int 100))) (tCons (tUn rNeg (tC (.int 101))) (tCons (tC (.int 0)) (tCons (tC (.int 1)) (tCons (tC (.bl true)) (tCons (tC (.str "1")) (tCons (tC .non) (tCons (tTup (tCons (tC (.int 1)) tNil)) tNil)))))))))))) (gName 10) tYes (tTup (tCons (tTup (tCons (tC (.int 0)) (tCons (tTup (tCons (tTup (tCons (tVar 6) (tCons (tVar 10) tNil))) tNil)) (tCons (tC (.int 1)) tNil)))) tNil)) [10])) (gName 8))
  (tSeq (tAsg (tOp rCat (tVar 8) (tLc (iList K (tLst (tCons (tC (.int 0)) (tCons (tC (.int 1)) (tCons (tC (.int 2)) (tCons (tUn rNeg (tC (.int 1))) (tCons (tC (.bl true)) (tCons (tC (.bl false)) (tCons (tC .non) (tCons (tC (.str "1")) tNil)))))))))) (gName 11) tYes (tTup (tCons (tTup (tCons (tC (.int 0)) (tCons (tTup tNil) (tCons (tVar 11) tNil)))) tNil)) [11])) (gName 8))
  (tSeq (tAsg (tOp rCat (tVar 8) (tLst (tCons (tTup (tCons (tTup (tCons (tC (.int 0)) (tCons (tTup (tCons (tTup (tCons (tVar 6) (tCons (tC (.int 1)) tNil))) (tCons (tTup (tCons (tVar 7) (tCons (tC (.int 1)) tNil))) tNil))) (tCons (tC (.int 0)) tNil)))) tNil)) (tCons (tTup (tCons (tTup (tCons (tC (.int 0)) (tCons (tTup (tCons (tTup (tCons (tVar 7) (tCons (tC (.int 1)) tNil))) (tCons (tTup (tCons (tVar 6) (tCons (tC (.int 1)) tNil))) tNil))) (tCons (tC (.int 0)) tNil)))) tNil)) (tCons (tTup (tCons (tTup (tCons (tC (.int 0)) (tCons (tTup (tCons (tTup (tCons (tVar 6) (tCons (tC (.int 1)) tNil))) (tCons (tTup (tCons (tVar 6) (tCons (tC (.int 2)) tNil))) tNil))) (tCons (tC (.int 0)) tNil)))) tNil)) tNil))))) (gName 8))
  (tSeq (tAsg (tOp rCat (tVar 8) (tLst (tCons (tTup (tCons (tTup (tCons (tC (.int 0)) (tCons (tTup (tCons (tTup (tCons (tVar 6) (tCons (tC (.int 1)) (tCons (tC (.int 1)) tNil)))) tNil)) (tCons (tC (.int 0)) tNil)))) tNil)) (tCons (tTup (tCons (tTup (tCons (tC (.int 0)) (tCons (tTup (tCons (tTup (tCons (tVar 6) tNil)) tNil)) (tCons (tC (.int 0)) tNil)))) tNil)) (tCons (tTup (tCons (tTup (tCons (tC (.int 0)) (tCons (tTup (tCons (tVar 6) (tCons (tC (.int 1)) tNil))) (tCons (tC (.int 0)) tNil)))) tNil)) (tCons (tTup (tCons (tTup (tCons (tC (.int 0)) (tCons (tC .non) (tCons (tC (.int 0)) tNil)))) tNil)) (tCons (tTup (tCons (tTup (tCons (tC (.int 0)) (tCons (tC (.str "")) (tCons (tC (.int 0)) tNil)))) tNil)) (tCons (tTup (tCons (tTup (tCons (tC (.int 0)) (tCons (tTup (tCons (tTup (tCons (tC (.int 1)) (tCons (tC (.int 1)) tNil))) tNil)) (tCons (tC (.int 0)) tNil)))) tNil)) tNil)))))))) (gName 8))
  (tSeq (tAsg (tOp rCat (tVar 8) (tLc (iList K (tVar 4)) (gName 12) tYes (tTup (tCons (tTup (tCons (tC (.int 0)) (tCons (tTup (tCons (tTup (tCons (tVar 12) (tCons (tC (.int 1)) tNil))) tNil)) (tCons (tC (.int 0)) tNil)))) tNil)) [12])) (gName 8))
  (tSeq (tFor (iList K (tLst (tCons (tC (.int 11)) (tCons (tC (.int 12)) (tCons (tC (.int 13)) (tCons (tC (.int 14)) tNil)))))) (gName 13)
  (tDrop (tBM K "list" rAppend (tVar 8) (tCons (tTup (tCons (tTup (tCons (tC (.int 0)) (tCons (tThen (tLc (iList K (tSl (rSlL K) (tVar 2) tNoPart (tPart (tVar 13)))) (gName 12) tYes (tTup (tCons (tVar 12) (tCons (tC (.int 1)) tNil))) [12]) (kTup K)) (tCons (tC (.int 1)) tNil)))) tNil)) tNil))))
  (tSeq (tAsg (tTup tNil) (gName 14))
  (tSeq (tFor (iRng1 (tCons (tC (.int 28)) tNil)) (gName 15)
  (tAsg (tTup (tCons (tVar 14) tNil)) (gName 14)))
  (tSeq (tAsg (tOp rCat (tVar 8) (tLst (tCons (tVar 14) (tCons (tOp (rRepW K) (tTup (tCons (tTup (tCons (tC (.int 0)) (tCons (tTup tNil) (tCons (tC (.int 0)) tNil)))) tNil)) (tC (.int 3000))) (tCons (tTup (tCons (tTup (tCons (tC (.int 0)) (tCons (tOp (rRepW K) (tTup (tCons (tTup (tCons (tVar 6) (tCons (tC (.int 1)) tNil))) tNil)) (tC (.int 3000))) (tCons (tC (.int 0)) tNil)))) tNil)) (tCons (tOp rRepS (tC (.str "x")) (tC (.int 20000))) tNil)))))) (gName 8))
  (tRet (tOp rCat (tVar 8) (tLst (tCons (tTup (tCons (tOp (rIxT K) (tVar 1) (tC (.int 0))) (tCons (tTup (tCons (tC (.int 0)) (tCons (tTup tNil) (tCons (tC (.int 2)) tNil)))) tNil))) (tCons (tTup (tCons (tTup (tCons (tC (.int 0)) (tCons (tTup tNil) (tCons (tC (.int 2)) tNil)))) (tCons (tOp (rIxT K) (tVar 1) (tC (.int 0))) tNil))) (tCons (tTup (tCons (tOp (rIxT K) (tVar 1) (tC (.int 0))) (tCons (tOp (rIxT K) (tVar 1) (tC (.int 0))) (tCons (tTup (tCons (tC (.int 0)) (tCons (tTup (tCons (tTup (tCons (tVar 7) (tCons (tC (.int 0)) tNil))) tNil)) (tCons (tC (.int 0)) tNil)))) tNil)))) tNil))))))))))))))))))))
theorem t1_tup {d : Nat} {te : TE} {σ : L2.St} {H : Hp} (h : DE d te σ H) : T1 d (tTup (tCons te tNil)) σ H := fun H' Q a q => w_tup (h H' _ a fun v H1 a1 dd => w_tupD (by show 1 ≤ 100000; decide) fun t H2 nt a2 e => q t v H2 (a1.trans a2) e (dd.up a2.tup))
theorem t1_rep {K : PySem.W.Frag} {d : Nat} {te : TE} {σ : L2.St} {H : Hp} {k : Int} {n : Nat} (h : T1 d te σ H) (h2 : 2 ≤ k) (hk : k ≤ 10000) (hn : k.toNat ≤ n) : TT' d n (tOp (rRepW K) te (tC (.int k))) σ H := fun H' Q a q => h H' _ a fun p x H1 a1 e dd =>
  ⟨p, k, [x], rfl, rfl, SqT.of e, by simp, h2, hk, by simp, w_new fun r H2 nr a2 er => q r _ H2 (a1.trans a2) er (fun y hy => by
    obtain ⟨l, hl, hy⟩ := List.mem_flatten.mp hy
    rw [List.eq_of_mem_replicate hl] at hy
    rw [List.mem_singleton.mp hy]
    exact dd.up a2.tup) (by simp; omega)⟩
theorem foldl_nat {α : Type} (its : List α) : ∀ (k : Nat) (acc : List α), List.foldl (fun x1 x2 => x1 ++ x2) acc.toArray (List.replicate k its.toArray) = (acc ++ (List.replicate k its).flatten).toArray
  | 0, acc => by simp
  | k + 1, acc => by
    rw [List.replicate_succ, List.foldl_cons, List.replicate_succ, List.flatten_cons, ← List.append_assoc, show acc.toArray ++ its.toArray = (acc ++ its).toArray by simp, foldl_nat its k]
theorem okS_mul {x : Str} {n : Int} (h : okS x) : okS (Txt.mul x n) := by
  unfold Txt.mul
  split
  · exact (by unfold okS; decide +kernel : okS Str.empty)
  · split
    · exact h
    · rw [okS_iff] at h ⊢
      intro c hc
      have e := foldl_nat x.cps.toList n.toNat []
      have hc' : c ∈ (List.foldl (fun x1 x2 => x1 ++ x2) #[] (List.replicate n.toNat x.cps.toList.toArray)).toList := hc
      rw [show (#[] : Array Nat) = ([] : List Nat).toArray from rfl, e, List.nil_append, List.toList_toArray] at hc'
      replace hc := hc'
      obtain ⟨l, hl, hy⟩ := List.mem_flatten.mp hc
      rw [List.eq_of_mem_replicate hl] at hy
      exact h c hy
theorem len__law_edges {K : PySem.W.Frag} : ∀ (vs : List V) (H : Hp) (Q : VK) (E : XK), sp__law_edges K vs H Q E → vs.length = 2 := fun vs H Q E h => by
  obtain ⟨_, _, rfl, _⟩ := h
  rfl
theorem cut1 {ws : List V} {w : V} {r : List V} (e : ws = w :: r) : cutV ws none (some 1) = [w] := by
  rw [e]
  unfold cutV
  simp [HT.sIx]
theorem first_wish {H : Hp} {names : List Str} {ws : List V} {ds : List PyData} (hws : IsAll H ds ws) (hsm : Sm 4 (.tuple ds)) (hr : rghB names (.tuple ds) = true) : ∃ (wa : Addr) (x y z : V) (wr : List V), ws = .ref wa :: wr ∧ H wa = some (.tup [x, y, z]) ∧ AllDat 4 H [x, y, z] ∧ ws.length ≤ 3 ∧ AllDat 4 H ws := by
  have hall : AllDat 4 H ws := hws.datN fun d hd => by
    cases hsm with
    | tup _ h => exact (h d hd).nc.mono (by decide)
  have hr' : (decide (1 ≤ (ds.length : Int)) && decide ((ds.length : Int) ≤ 3) && ds.all (wshL names)) = true := hr
  rw [Bool.and_eq_true, Bool.and_eq_true, decide_eq_true_iff, decide_eq_true_iff] at hr'
  obtain ⟨⟨r1, r2⟩, r3⟩ := hr'
  have hl := hws.length
  cases hws with
  | nil => simp at r1
  | @cons u us d1 ds hd hds =>
    rw [List.all_cons, Bool.and_eq_true] at r3
    rcases three hd with ⟨wa, x, y, z, c, t, p, rfl, e, rfl, i1, i2, i3, _⟩ | ⟨_, hno⟩
    · have hn : Nc 4 (.tuple [c, t, p]) := by
        cases hsm with
        | tup _ h => exact (h _ (List.mem_cons_self ..)).nc.mono (by decide)
      refine ⟨wa, x, y, z, _, rfl, e, fun v hv => ?_, by omega, hall⟩
      simp only [List.mem_cons, List.not_mem_nil, or_false] at hv
      rcases hv with rfl | rfl | rfl
      · exact ⟨_, i1, hn.item _ (by simp)⟩
      · exact ⟨_, i2, hn.item _ (by simp)⟩
      · exact ⟨_, i3, hn.item _ (by simp)⟩
    · rw [wshL_no hno] at r3
      cases r3.1
theorem de_ix0 {K : PySem.W.Frag} {σ : L2.St} {H : Hp} {d n i : Nat} {a : Addr} {us xs : List V} {p : Addr} (h : σ[i]? = some (some (.ref a))) (e : H a = some (.tup (.ref p :: us))) (ep : H p = some (.tup xs)) (dd : AllDat d H xs) (hl : xs.length ≤ n) : TT' d n (tOp (rIxT K) (tVar i) (tC (.int 0))) σ H := fun H' Q g q =>
  ⟨_, h, w_ixT (SqT.of (g.tup _ _ e)) (at_of (j := 0) rfl rfl) (q p xs H' (.refl _ _) (g.tup _ _ ep) (dd.up g.tup) hl)⟩
theorem t1_sl {K : PySem.W.Frag} {σ : L2.St} {H : Hp} {d i : Nat} {a : Addr} {u : V} {us : List V} (h : σ[i]? = some (some (.ref a))) (e : H a = some (.tup (u :: us))) (dd : Dat d H u) : T1 d (tSl (rSlA K) (tVar i) tNoPart (tPart (tC (.int 1)))) σ H := fun H' Q g q =>
  ⟨_, h, ⟨1, rfl, w_slA (g.tup _ _ e) fun r H1 a1 er => by
    rw [cut1 rfl] at er
    exact q r u H1 a1 er (dd.up (g.trans a1).tup)⟩⟩
theorem le_cat {σ : L2.St} {H : Hp} {d n m i : Nat} {tl : TE} {l : Addr} {xs : List V} {Q : VK} (h : σ[i]? = some (some (.ref l))) (e : H l = some (.lst xs)) (dx : AllDat d H xs) (hm : LE' d m tl σ H) (hn : xs.length ≤ n) (hz : n + m ≤ 1000)
    (q : ∀ r ys H', H r = none → Adv [] H H' → H' r = some (.lst ys) → AllDat d H' ys → ys.length ≤ n + m → Q (.ref r) H') : tOp rCat (tVar i) tl σ H Q :=
  ⟨_, h, hm H _ (.refl _ _) fun r ys H1 a1 er dy hy => w_catB (a1.keep _ _ (fun z => nomatch z) e) er (by omega) fun l2 H2 nl2 a2 el2 => q l2 _ H2 (a1.free (fun z => nomatch z) nl2) (a1.trans a2) el2 (fun v hv => by
    rcases List.mem_append.mp hv with hv | hv
    · exact (dx v hv).up (a1.trans a2).tup
    · exact (dy v hv).up a2.tup) (by rw [List.length_append]; omega)⟩
theorem tt_of_le {K : PySem.W.Frag} {σ : L2.St} {H : Hp} {d n : Nat} {te : TE} (h : LE' d n te σ H) : TT' d n (tThen te (kTup K)) σ H := fun H' Q a q => h H' _ a fun l xs H1 a1 el dd hl => .inl ⟨l, xs, rfl, SqL.of el, w_new fun t H2 nt a2 e => q t xs H2 (a1.trans a2) e (dd.up a2.tup) hl⟩
theorem le_slv {K : PySem.W.Frag} {σ : L2.St} {H : Hp} {d n i : Nat} {lo hi : TO} {l : Addr} {xs : List V} (h : σ[i]? = some (some (.ref l))) (e : H l = some (.lst xs)) (dd : AllDat d H xs) (hl : xs.length ≤ n) (pl : PE' lo σ H) (ph : PE' hi σ H) : LE' d n (tSl (rSlL K) (tVar i) lo hi) σ H := fun H' Q g q =>
  ⟨_, h, pl H' _ g fun o H1 a1 => ph H1 _ (g.trans a1) fun o2 H2 a2 => w_slL (SqL.of ((g.trans (a1.trans a2)).keep _ _ (fun z => nomatch z) e)) fun r H3 nr a3 er => q r _ H3 ((a1.trans a2).trans a3) er (fun v hv => (dd v (cut_mem hv)).up (g.trans ((a1.trans a2).trans a3)).tup) (Nat.le_trans (cutV_length xs o o2) hl)⟩
theorem se_rep {σ : L2.St} {H : Hp} {d : Nat} {x : Str} {n : Int} (ok : okS x) (m : MulOk x n) : DE d (tOp rRepS (tC (.str x)) (tC (.int n))) σ H := fun H' Q a q => ⟨x, n, rfl, rfl, m, q _ H' (.refl _ _) ⟨_, .str _, .str (okS_mul ok)⟩⟩
theorem w_app1 {K : PySem.W.Frag} {σ : L2.St} {H : Hp} {d i : Nat} {l : Addr} {xs : List V} {te : TE} {Q : VK} (hσ : σ[i]? = some (some (.ref l))) (e : H l = some (.lst xs)) (hz : xs.length < 1000) (he : DE d te σ H) (q : ∀ v H', Adv [] H H' → H' l = some (.lst xs) → Dat d H' v → Q .non (upd H' l (.lst (xs ++ [v])))) : tBM K "list" rAppend (tVar i) (tCons te tNil) σ H Q :=
  w_app hσ e (w_cons (he H _ (.refl _ _) fun v H1 a1 dv => w_nil (w_append (a1.keep _ _ (fun z => nomatch z) e) (by omega) (q v H1 a1 (a1.keep _ _ (fun z => nomatch z) e) dv))))
theorem pure__law_edges {K : PySem.W.Frag} (vs : List V) (H : Hp) (Q : VK) (E : XK) (h : sp__law_edges K vs H Q E) : t__law_edges K { nx := fun _ H' => Q .non H', rt := Q } (start ["model", "wishes", "names", "pair", "others", "one", "x", "y", "made", "n", "w", "p", "name", "many", "deep", "k"] vs) H := by
  obtain ⟨m, v, rfl, xs, ys, zs, ⟨a, b, c, d, us, ps, qs, rfl, ea, eb, ec, ed, l1, l2, l3, h1, h2, h3⟩, nm, ly, lz, hok, ⟨t, ws, ds, rfl, et, hws, hsm, hr⟩, q⟩ := h
  have nl2 := nm.l2
  have nl9 := nm.l9
  show t__law_edges K _ [some (.ref a), some (.ref t), none, none, none, none, none, none, none, none, none, none, none, none, none, none] H
  unfold t__law_edges
  walk_at "aw"
  refine w_ixT (SqT.of ea) (at_of (j := 0) rfl rfl) ?_
  refine kNames eb l1 (by omega) (fun i u e => by obtain ⟨p, v, x, e1, e2, e3⟩ := h1 i u e; exact ⟨p, [v], x, e1, e2, e3⟩) (fun _ => rfl) (fun _ => rfl) fun nl H1 nnl a1 enl => ?_
  walk_at "aw"
  refine w_sortS' enl (by omega) fun ns sl H2 hns hsrt nsl a2 esl => ?_
  have g2 := a1.trans a2
  have hnsl := hns.length_eq
  have hnx : ∀ x ∈ ns, okS x ∧ x.length ≤ 1000 := fun x hx => ⟨nm.ok x (hns.mem_iff.mp hx), nm.le x (hns.mem_iff.mp hx)⟩
  walk_at "aw"
  refine w_ixT (SqT.of (g2.tup _ _ ea)) (at_of (j := 1) rfl rfl) ?_
  refine kNames (g2.tup _ _ ec) l2 (by omega) (fun i u e => by obtain ⟨p, v, x, e1, e2, e3⟩ := h2 i u e; exact ⟨p, v, x, e1, e2, g2.tup _ _ e3⟩) (fun _ => rfl) (fun _ => rfl) fun l4 H4 nl4 a4 el4 => ?_
  have g4 := g2.trans a4
  walk_at "aw"
  refine w_ixT (SqT.of (g4.tup _ _ ea)) (at_of (j := 2) rfl rfl) ?_
  refine kNames (g4.tup _ _ ed) l3 (by omega) (fun i u e => by obtain ⟨p, v, x, e1, e2, e3⟩ := h3 i u e; exact ⟨p, v, x, e1, e2, g4.tup _ _ e3⟩) (fun _ => rfl) (fun _ => rfl) fun l5 H5 nl5 a5 el5 => ?_
  refine w_catB (a5.keep _ _ (fun z => nomatch z) el4) el5 (by rw [List.length_map, List.length_map]; omega) fun l6 H6 nl6 a6 el6 => ?_
  have g6 := g4.trans (a5.trans a6)
  have esl6 := (a4.trans (a5.trans a6)).keep _ _ (fun z => nomatch z) esl
  obtain ⟨x0, hx0⟩ := get_some (xs := ns) (i := 0) (by omega)
  obtain ⟨y0, hy0⟩ := get_some (xs := ns) (i := 1) (by omega)
  have okx := hnx x0 (List.mem_of_getElem? hx0)
  have oky := hnx y0 (List.mem_of_getElem? hy0)
  walk_at "aw"
  refine w_ixL (SqL.of esl6) (v := .str x0) (at_of (j := 0) rfl (by rw [List.getElem?_map, hx0]; rfl)) ?_
  walk_at "aw"
  refine ⟨_, _, rfl, rfl, by unfold MulOk; decide +kernel, ?_⟩
  have l30 : (Txt.mul (Str.ofString "x") 30).length = 30 := by decide +kernel
  refine w_addS (by rw [l30]; omega) ?_
  walk_at "aw"
  refine w_lstD (by simp) fun l7 H7 nl7 a7 el7 => ?_
  refine w_catB (a7.keep _ _ (fun z => nomatch z) el6) el7 (by simp; omega) fun ol H8 nol a8 eol => ?_
  have g8 := g6.trans (a7.trans a8)
  have esl8 := (a7.trans a8).keep _ _ (fun z => nomatch z) esl6
  have dol : AllDat 0 H8 (ys.map V.str ++ zs.map V.str ++ [V.str (Str.ofString ""), V.str (x0 ++ Txt.mul (Str.ofString "x") 30)]) := fun u hu => by
    have st : ∀ x : Str, okS x → Dat 0 H8 (V.str x) := fun x h => ⟨_, .str x, .str h⟩
    rcases List.mem_append.mp hu with hu | hu
    · rw [← List.map_append] at hu
      obtain ⟨x, hx, rfl⟩ := List.mem_map.mp hu
      exact st x (hok x hx)
    · simp only [List.mem_cons, List.not_mem_nil, or_false] at hu
      rcases hu with rfl | rfl
      · exact st (Str.ofString "") (by unfold okS; decide +kernel)
      · exact st (x0 ++ Txt.mul (Str.ofString "x") 30) (okS_app okx.1 (okS_mul (by unfold okS; decide +kernel)))
  have lol : (ys.map V.str ++ zs.map V.str ++ [V.str (Str.ofString ""), V.str (x0 ++ Txt.mul (Str.ofString "x") 30)]).length ≤ 200 := by simp; omega
  generalize ys.map V.str ++ zs.map V.str ++ [V.str (Str.ofString ""), V.str (x0 ++ Txt.mul (Str.ofString "x") 30)] = others at eol dol lol
  walk_at "aw"
  refine w_ixL (SqL.of esl8) (v := .str x0) (at_of (j := 0) rfl (by rw [List.getElem?_map, hx0]; rfl)) ?_
  walk_at "aw"
  refine w_ixL (SqL.of esl8) (v := .str y0) (at_of (j := 1) rfl (by rw [List.getElem?_map, hy0]; rfl)) ?_
  walk_at "aw"
  refine w_tupD (by simp) fun tp H9 ntp a9 etp => ?_
  have g9 := g8.trans a9
  refine w_gtup (SqT.of etp) rfl ?_
  walk_at "aw1"
  walk_at "aw1"
  walk_at "aw1"
  walk_at "aw1"
  walk_at "aw1"
  walk_at "aw1"
  walk_at "aw1"
  obtain ⟨wa, wx, wy, wz, wr, rfl, ewa, dwa, lws, dws⟩ := first_wish hws hsm hr
  have et9 := g9.tup _ _ et
  have ewa9 := g9.tup _ _ ewa
  have dwa9 := dwa.up g9.tup
  have dws9 := dws.up g9.tup
  have X : ∀ {d : Nat} (σ : L2.St) (Hq : Hp) (i : Nat) (x : Str), okS x → σ[i]? = some (some (.str x)) → DE d (tVar i) σ Hq := fun σ Hq i x hx h => de_var h ⟨_, .str x, .str hx⟩
  -- the first list
  refine le_lst (d := 30) (n := 12) (da_cons (TT'.de' (d := 0) (tt_tup da_nil (by decide)) (by decide)) (da_cons (TT'.de' (t1_rep (n := 3) (t1_sl rfl et9 (dws9 _ (List.mem_cons_self ..))) (by decide) (by decide) (by decide)) (by decide)) (da_cons (TT'.de' (t1_rep (n := 4) (t1_sl rfl et9 (dws9 _ (List.mem_cons_self ..))) (by decide) (by decide) (by decide)) (by decide))
    (da_cons (TT'.de' (de_ix0 (n := 3) rfl et9 ewa9 dwa9 (by simp)) (by decide)) (da_cons de_non (da_cons (IE.de ie_c) (da_cons (de_str (by unfold okS; decide +kernel)) (da_cons de_bl (da_cons (TT'.de' (d := 1) (tt_tup (da_cons (TT'.de' (d := 0) (tt_tup da_nil (by decide)) (by decide)) da_nil) (by decide)) (by decide))
    (da_cons (TT'.de' (d := 5) (tt_tup (da_cons (de_var rfl (.tup et9 dws9)) da_nil) (by decide)) (by decide))
    (da_cons (TT'.de' (d := 5) (tt_tup (da_cons (TT'.de' (tt_cat (de_ix0 (n := 3) rfl et9 ewa9 dwa9 (by simp)) (tt_tup (da_cons (IE.de ie_c) da_nil) (by decide)) (by decide)) (by decide)) da_nil) (by decide)) (by decide))
    (da_cons (TT'.de' (d := 5) (tt_tup (da_cons (TT'.de' (tt_slA (de_ix0 (n := 3) rfl et9 ewa9 dwa9 (by simp)) pe'_no (pe'_int ie_c)) (by decide)) da_nil) (by decide)) (by decide)) da_nil)))))))))))) (by decide) H9 _ (.refl _ _) fun m1 xs1 H10 a10 em1 dm1 lm1 => ?_
  walk_at "aw1"
  walk_at "aw1"
  walk_at "aw1"
  refine le_cat (d := 30) (n := 12) (m := 9) rfl em1 dm1
    (le_lc (le_lst (d := 3) (da_cons (IE.de ie_c) (da_cons (IE.de ie_c) (da_cons (IE.de (ie_neg ie_c)) (da_cons (IE.de (ie_neg ie_c)) (da_cons de_bl (da_cons de_bl (da_cons de_non (da_cons (de_str (by unfold okS; decide +kernel)) (da_cons (TT'.de' (d := 0) (tt_tup da_nil (by simp)) (by simp)) da_nil))))))))) (by decide)) (by decide) (fun _ => rfl) fun v Hv av dv => TT'.de' (d := 28) (tt_tup (da_cons (TT'.de' (d := 27) (tt_tup (da_cons ((de_var (d := 3) rfl dv).mono (by decide)) (da_cons (TT'.de' (d := 0) (tt_tup da_nil (by simp)) (by simp)) (da_cons (IE.de ie_c) da_nil))) (by simp)) (by simp)) da_nil) (by simp)) (by decide))
    lm1 (by decide) fun m2 xs2 H11 nm2 a11 em2 dm2 lm2 => ?_
  walk_at "aw1"
  walk_at "aw1"
  walk_at "aw1"
  refine le_cat (d := 30) (n := 21) (m := 10) rfl em2 dm2
    (le_lc (le_lst (d := 3) (da_cons (IE.de ie_c) (da_cons (IE.de ie_c) (da_cons (IE.de (ie_neg ie_c)) (da_cons (IE.de (ie_neg ie_c)) (da_cons (IE.de ie_c) (da_cons (IE.de ie_c) (da_cons de_bl (da_cons (de_str (by unfold okS; decide +kernel)) (da_cons de_non (da_cons (TT'.de' (d := 2) (tt_tup (da_cons (IE.de ie_c) da_nil) (by simp)) (by simp)) da_nil)))))))))) (by decide)) (by decide) (fun _ => rfl) fun v Hv av dv => TT'.de' (d := 28) (tt_tup (da_cons (TT'.de' (d := 27) (tt_tup (da_cons (IE.de ie_c) (da_cons (TT'.de' (d := 26) (tt_tup (da_cons (TT'.de' (d := 25) (tt_tup (da_cons (X _ _ 6 x0 okx.1 rfl) (da_cons ((de_var (d := 3) rfl dv).mono (by decide)) da_nil)) (by simp)) (by simp)) da_nil) (by simp)) (by simp)) (da_cons (IE.de ie_c) da_nil))) (by simp)) (by simp)) da_nil) (by simp)) (by decide))
    lm2 (by decide) fun m3 xs3 H12 nm3 a12 em3 dm3 lm3 => ?_
  walk_at "aw1"
  walk_at "aw1"
  walk_at "aw1"
  refine le_cat (d := 30) (n := 31) (m := 8) rfl em3 dm3
    (le_lc (le_lst (d := 3) (da_cons (IE.de ie_c) (da_cons (IE.de ie_c) (da_cons (IE.de ie_c) (da_cons (IE.de (ie_neg ie_c)) (da_cons de_bl (da_cons de_bl (da_cons de_non (da_cons (de_str (by unfold okS; decide +kernel)) da_nil)))))))) (by decide)) (by decide) (fun _ => rfl) fun v Hv av dv => TT'.de' (d := 28) (tt_tup (da_cons (TT'.de' (d := 27) (tt_tup (da_cons (IE.de ie_c) (da_cons (TT'.de' (d := 0) (tt_tup da_nil (by simp)) (by simp)) (da_cons ((de_var (d := 3) rfl dv).mono (by decide)) da_nil))) (by simp)) (by simp)) da_nil) (by simp)) (by decide))
    lm3 (by decide) fun m4 xs4 H13 nm4 a13 em4 dm4 lm4 => ?_
  walk_at "aw1"
  walk_at "aw1"
  walk_at "aw1"
  refine le_cat (d := 30) (n := 39) (m := 3) rfl em4 dm4
    (le_lst (da_cons (TT'.de' (d := 28) (tt_tup (da_cons (TT'.de' (d := 27) (tt_tup (da_cons (IE.de ie_c) (da_cons (TT'.de' (d := 26) (tt_tup (da_cons (TT'.de' (d := 25) (tt_tup (da_cons (X _ _ 6 x0 okx.1 rfl) (da_cons (IE.de ie_c) da_nil)) (by simp)) (by simp)) (da_cons (TT'.de' (d := 25) (tt_tup (da_cons (X _ _ 7 y0 oky.1 rfl) (da_cons (IE.de ie_c) da_nil)) (by simp)) (by simp)) da_nil)) (by simp)) (by simp)) (da_cons (IE.de ie_c) da_nil))) (by simp)) (by simp)) da_nil) (by simp)) (by simp)) (da_cons (TT'.de' (d := 28) (tt_tup (da_cons (TT'.de' (d := 27) (tt_tup (da_cons (IE.de ie_c) (da_cons (TT'.de' (d := 26) (tt_tup (da_cons (TT'.de' (d := 25) (tt_tup (da_cons (X _ _ 7 y0 oky.1 rfl) (da_cons (IE.de ie_c) da_nil)) (by simp)) (by simp)) (da_cons (TT'.de' (d := 25) (tt_tup (da_cons (X _ _ 6 x0 okx.1 rfl) (da_cons (IE.de ie_c) da_nil)) (by simp)) (by simp)) da_nil)) (by simp)) (by simp)) (da_cons (IE.de ie_c) da_nil))) (by simp)) (by simp)) da_nil) (by simp)) (by simp)) (da_cons (TT'.de' (d := 28) (tt_tup (da_cons (TT'.de' (d := 27) (tt_tup (da_cons (IE.de ie_c) (da_cons (TT'.de' (d := 26) (tt_tup (da_cons (TT'.de' (d := 25) (tt_tup (da_cons (X _ _ 6 x0 okx.1 rfl) (da_cons (IE.de ie_c) da_nil)) (by simp)) (by simp)) (da_cons (TT'.de' (d := 25) (tt_tup (da_cons (X _ _ 6 x0 okx.1 rfl) (da_cons (IE.de ie_c) da_nil)) (by simp)) (by simp)) da_nil)) (by simp)) (by simp)) (da_cons (IE.de ie_c) da_nil))) (by simp)) (by simp)) da_nil) (by simp)) (by simp)) da_nil))) (by decide))
    lm4 (by decide) fun m5 xs5 H14 nm5 a14 em5 dm5 lm5 => ?_
  walk_at "aw1"
  walk_at "aw1"
  walk_at "aw1"
  refine le_cat (d := 30) (n := 42) (m := 6) rfl em5 dm5
    (le_lst (da_cons (TT'.de' (d := 28) (tt_tup (da_cons (TT'.de' (d := 27) (tt_tup (da_cons (IE.de ie_c) (da_cons (TT'.de' (d := 26) (tt_tup (da_cons (TT'.de' (d := 25) (tt_tup (da_cons (X _ _ 6 x0 okx.1 rfl) (da_cons (IE.de ie_c) (da_cons (IE.de ie_c) da_nil))) (by simp)) (by simp)) da_nil) (by simp)) (by simp)) (da_cons (IE.de ie_c) da_nil))) (by simp)) (by simp)) da_nil) (by simp)) (by simp)) (da_cons (TT'.de' (d := 28) (tt_tup (da_cons (TT'.de' (d := 27) (tt_tup (da_cons (IE.de ie_c) (da_cons (TT'.de' (d := 26) (tt_tup (da_cons (TT'.de' (d := 25) (tt_tup (da_cons (X _ _ 6 x0 okx.1 rfl) da_nil) (by simp)) (by simp)) da_nil) (by simp)) (by simp)) (da_cons (IE.de ie_c) da_nil))) (by simp)) (by simp)) da_nil) (by simp)) (by simp)) (da_cons (TT'.de' (d := 28) (tt_tup (da_cons (TT'.de' (d := 27) (tt_tup (da_cons (IE.de ie_c) (da_cons (TT'.de' (d := 26) (tt_tup (da_cons (X _ _ 6 x0 okx.1 rfl) (da_cons (IE.de ie_c) da_nil)) (by simp)) (by simp)) (da_cons (IE.de ie_c) da_nil))) (by simp)) (by simp)) da_nil) (by simp)) (by simp)) (da_cons (TT'.de' (d := 28) (tt_tup (da_cons (TT'.de' (d := 27) (tt_tup (da_cons (IE.de ie_c) (da_cons de_non (da_cons (IE.de ie_c) da_nil))) (by simp)) (by simp)) da_nil) (by simp)) (by simp)) (da_cons (TT'.de' (d := 28) (tt_tup (da_cons (TT'.de' (d := 27) (tt_tup (da_cons (IE.de ie_c) (da_cons (de_str (by unfold okS; decide +kernel)) (da_cons (IE.de ie_c) da_nil))) (by simp)) (by simp)) da_nil) (by simp)) (by simp)) (da_cons (TT'.de' (d := 28) (tt_tup (da_cons (TT'.de' (d := 27) (tt_tup (da_cons (IE.de ie_c) (da_cons (TT'.de' (d := 26) (tt_tup (da_cons (TT'.de' (d := 25) (tt_tup (da_cons (IE.de ie_c) (da_cons (IE.de ie_c) da_nil)) (by simp)) (by simp)) da_nil) (by simp)) (by simp)) (da_cons (IE.de ie_c) da_nil))) (by simp)) (by simp)) da_nil) (by simp)) (by simp)) da_nil)))))) (by decide))
    lm5 (by decide) fun m6 xs6 H15 nm6 a15 em6 dm6 lm6 => ?_
  have g15 := a10.trans (a11.trans (a12.trans (a13.trans (a14.trans a15))))
  walk_at "aw1"
  walk_at "aw1"
  walk_at "aw1"
  refine le_cat (d := 30) (n := 48) (m := 200) rfl em6 dm6
    (le_lc (le_var (d := 3) (n := 200) rfl (g15.keep _ _ (fun z => nomatch z) (a9.keep _ _ (fun z => nomatch z) eol)) ((dol.up (a9.trans g15).tup).mono (by decide)) lol) (by decide) (fun _ => rfl) fun v Hv av dv => TT'.de' (d := 28) (tt_tup (da_cons (TT'.de' (d := 27) (tt_tup (da_cons (IE.de ie_c) (da_cons (TT'.de' (d := 26) (tt_tup (da_cons (TT'.de' (d := 25) (tt_tup (da_cons ((de_var (d := 3) rfl dv).mono (by decide)) (da_cons (IE.de ie_c) da_nil)) (by simp)) (by simp)) da_nil) (by simp)) (by simp)) (da_cons (IE.de ie_c) da_nil))) (by simp)) (by simp)) da_nil) (by simp)) (by decide))
    lm6 (by decide) fun m7 xs7 H16 nm7 a16 em7 dm7 lm7 => ?_
  walk_at "aw1"
  walk_at "aw1"
  walk_at "aw1"
  walk_at "aw"
  refine w_lstD (by simp) fun fl H17 nfl a17 efl => ?_
  have g16 := g15.trans a16
  have esl15 := (a9.trans g15).keep _ _ (fun z => nomatch z) esl8
  have dsl15 : AllDat 3 H15 (ns.map V.str) := fun u hu => by
    obtain ⟨x, hx, rfl⟩ := List.mem_map.mp hu
    exact ⟨_, .str x, .str (hnx x hx).1⟩
  have nef : m7 ≠ fl := ne_of_none em7 nfl
  refine kForL_i (fun i σ' H' => ∃ (y3 y5 y9 y10 y11 y12 y13 y14 y15 : Option V) (xs' : List V), σ' = [some (.ref a), some (.ref t), some (.ref sl), y3, some (.ref ol), y5, some (.str x0), some (.str y0), some (.ref m7), y9, y10, y11, y12, y13, y14, y15] ∧ Adv [] H15 H' ∧ H' m7 = some (.lst xs') ∧ AllDat 30 H' xs' ∧ xs'.length ≤ 248 + i ∧ H' fl = some (.lst [.int 11, .int 12, .int 13, .int 14])) (SqL.of efl)
    ⟨_, _, _, _, _, _, _, _, _, xs7, rfl, a16.trans a17, a17.keep _ _ (fun z => nomatch z) em7, dm7.up a17.tup, by omega, efl⟩ (fun i σ' H' _ pp => by obtain ⟨_, _, _, _, _, _, _, _, _, _, _, _, _, _, _, e⟩ := pp; exact SqL.of e) (fun i u σ' H' hu pp => ?_) fun σ' H' pp => ?_
  · obtain ⟨y3, y5, y9, y10, y11, y12, y13, y14, y15, xs', rfl, g, em, dm, lm, efl'⟩ := pp
    obtain ⟨k, rfl⟩ : ∃ k : Int, u = .int k := by
      match i, hu with
      | 0, hu => exact ⟨_, (Option.some.inj hu).symm⟩
      | 1, hu => exact ⟨_, (Option.some.inj hu).symm⟩
      | 2, hu => exact ⟨_, (Option.some.inj hu).symm⟩
      | 3, hu => exact ⟨_, (Option.some.inj hu).symm⟩
      | i + 4, hu => simp at hu
    walk_at "aw1"
    walk_at "aw1"
    have hil := (List.getElem?_eq_some_iff.mp hu).1
    simp only [List.length_cons, List.length_nil] at hil
    refine w_app1 (d := 30) rfl em (by omega) (TT'.de' (d := 28) (tt_tup (da_cons (TT'.de' (d := 27) (tt_tup (da_cons (IE.de ie_c) (da_cons (TT'.de' (d := 26) (tt_of_le (n := 60) (le_lc (le_slv (d := 3) (n := 60) rfl (g.keep _ _ (fun z => nomatch z) esl15) (dsl15.up g.tup) (by rw [List.length_map]; omega) pe'_no (pe'_int (ie_var rfl))) (by decide) (fun _ => rfl) fun v Hv av dv => TT'.de' (d := 25) (tt_tup (da_cons ((de_var (d := 3) rfl dv).mono (by decide)) (da_cons (IE.de ie_c) da_nil)) (by decide)) (by decide))) (by decide)) (da_cons (IE.de ie_c) da_nil))) (by decide)) (by decide)) da_nil) (by decide)) (by decide)) fun v H18 a18 em18 dv => ?_
    have kk : TK H18 (upd H18 m7 (.lst (xs' ++ [v]))) := (Adv.lst em18).tup
    refine ⟨y3, y5, y9, y10, y11, y12, some (.int k), y14, y15, xs' ++ [v], rfl, (g.trans a18).mut nm7 em18 (fun _ z => by cases z), upd_same, fun w hw => ?_, by rw [List.length_append]; simp; omega, by rw [upd_ne nef.symm]; exact a18.keep _ _ (fun z => nomatch z) efl'⟩
    rcases List.mem_append.mp hw with hw | hw
    · exact (dm w hw).up (TK.trans a18.tup kk)
    · rw [List.mem_singleton.mp hw]
      exact dv.up kk
  · obtain ⟨y3, y5, y9, y10, y11, y12, y13, y14, y15, xs', rfl, g, em, dm, lm, _⟩ := pp
    simp only [List.length_cons, List.length_nil] at lm
    walk_at "aw"
    refine w_tupD (by decide) fun dp H18 ndp a18 edp => ?_
    walk_at "aw"
    refine kForR_i (n := 28) (by decide) (fun i σ' H'' => ∃ (y14 : V) (y15 : Option V), σ' = [some (.ref a), some (.ref t), some (.ref sl), y3, some (.ref ol), y5, some (.str x0), some (.str y0), some (.ref m7), y9, y10, y11, y12, y13, some y14, y15] ∧ Adv [] H' H'' ∧ Dat (i + 1) H'' y14) ⟨_, _, rfl, a18, .mono (.tup (d := 0) edp fun _ h => nomatch h) (by decide)⟩ (fun i σ' H'' hi pp => ?_) fun σ' H'' pp => ?_
    · obtain ⟨y14, y15, rfl, g2, dv⟩ := pp
      walk_at "aw"
      refine w_tupD (by simp) fun dp2 H19 ndp2 a19 edp2 => ?_
      walk_at "aw"
      exact ⟨_, _, rfl, g2.trans a19, .tup edp2 fun w hw => by
        rw [List.mem_singleton.mp hw]
        exact dv.up a19.tup⟩
    · obtain ⟨y14, y15, rfl, g2, dv⟩ := pp
      have em2 := g2.keep _ _ (fun z => nomatch z) em
      have dm2 := dm.up g2.tup
      walk_at "aw1"
      walk_at "aw1"
      refine le_cat (d := 30) (n := 252) (m := 4) rfl em2 dm2
        (le_lst (da_cons ((de_var rfl dv).mono (by decide)) (da_cons (TT'.de' (d := 29) (t1_rep (n := 3000) (t1_tup (TT'.de' (d := 28) (tt_tup (da_cons (IE.de ie_c) (da_cons (TT'.de' (d := 27) (tt_tup da_nil (by decide)) (by decide)) (da_cons (IE.de ie_c) da_nil))) (by decide)) (by decide))) (by decide) (by decide) (by decide)) (by decide))
          (da_cons (TT'.de' (d := 29) (tt_tup (da_cons (TT'.de' (d := 28) (tt_tup (da_cons (IE.de ie_c) (da_cons (TT'.de' (d := 27) (t1_rep (n := 3000) (t1_tup (TT'.de' (d := 26) (tt_tup (da_cons (X _ _ 6 x0 okx.1 rfl) (da_cons (IE.de ie_c) da_nil)) (by decide)) (by decide))) (by decide) (by decide) (by decide)) (by decide)) (da_cons (IE.de ie_c) da_nil))) (by decide)) (by decide)) da_nil) (by decide)) (by decide))
            (da_cons (se_rep (by unfold okS; decide +kernel) (by unfold MulOk; decide +kernel)) da_nil)))) (by decide))
        (by omega) (by decide) fun m8 xs8 H20 nm8 a20 em8 dm8 lm8 => ?_
      have gF : Adv [] H H20 := g9.trans (g15.trans (g.trans (g2.trans a20)))
      have etF := gF.tup _ _ et
      have ewaF := gF.tup _ _ ewa
      have dwaF := dwa.up gF.tup
      walk_at "aw1"
      walk_at "aw1"
      exact le_cat (d := 30) (n := 256) (m := 3) rfl em8 dm8
        (le_lst (da_cons (TT'.de' (d := 29) (tt_tup (da_cons (TT'.de' (d := 4) (de_ix0 (n := 3) rfl etF ewaF dwaF (by simp)) (by decide)) (da_cons (TT'.de' (d := 28) (tt_tup (da_cons (IE.de ie_c) (da_cons (TT'.de' (d := 27) (tt_tup da_nil (by decide)) (by decide)) (da_cons (IE.de ie_c) da_nil))) (by decide)) (by decide)) da_nil)) (by decide)) (by decide)) (da_cons (TT'.de' (d := 29) (tt_tup (da_cons (TT'.de' (d := 28) (tt_tup (da_cons (IE.de ie_c) (da_cons (TT'.de' (d := 27) (tt_tup da_nil (by decide)) (by decide)) (da_cons (IE.de ie_c) da_nil))) (by decide)) (by decide)) (da_cons (TT'.de' (d := 4) (de_ix0 (n := 3) rfl etF ewaF dwaF (by simp)) (by decide)) da_nil)) (by decide)) (by decide))
          (da_cons (TT'.de' (d := 29) (tt_tup (da_cons (TT'.de' (d := 4) (de_ix0 (n := 3) rfl etF ewaF dwaF (by simp)) (by decide)) (da_cons (TT'.de' (d := 4) (de_ix0 (n := 3) rfl etF ewaF dwaF (by simp)) (by decide)) (da_cons (TT'.de' (d := 28) (tt_tup (da_cons (IE.de ie_c) (da_cons (TT'.de' (d := 27) (tt_tup (da_cons (TT'.de' (d := 26) (tt_tup (da_cons (X _ _ 7 y0 oky.1 rfl) (da_cons (IE.de ie_c) da_nil)) (by decide)) (by decide)) da_nil) (by decide)) (by decide)) (da_cons (IE.de ie_c) da_nil))) (by decide)) (by decide)) da_nil))) (by decide)) (by decide)) da_nil))) (by decide))
        lm8 (by decide) fun m9 xs9 H21 nm9 a21 em9 dm9 lm9 => q m9 xs9 H21 (gF.free (fun z => nomatch z) nm9) (gF.trans a21) em9 (dm9.mono (by decide)) (by omega)
end AW
namespace AW
open PySem PySem.Spec PyProof.Rows L2 RZ
open StX
local macro_rules | `(tactic| walk_at "aw1") => `(tactic| first
  | (with_reducible refine w_seq ?_) | (with_reducible refine w_asg ?_) | (with_reducible refine w_gname ?_) | (with_reducible refine w_op ?_) | (with_reducible refine w_un ?_)
  | ((with_reducible refine' w_var ?h ?_); (case h => rfl)) | (with_reducible refine w_c ?_)
  | (with_reducible refine w_I0 ?_) | (with_reducible refine w_U ?_) | (with_reducible refine w_cb ?_) | (with_reducible refine w_nil ?_) | (with_reducible refine w_cons ?_) | (with_reducible refine w_call ?_)
  | (with_reducible refine w_test ?_) | (with_reducible refine w_B ?_) | (with_reducible refine w_bl ?_) | (with_reducible refine w_not ?_) | (with_reducible refine w_yes ?_) | (with_reducible refine iteT ?_) | (with_reducible refine iteF ?_) | (with_reducible refine w_and ?_) | (with_reducible refine w_or ?_)
  | (with_reducible refine w_andV ?_) | (with_reducible refine w_orV ?_) | (with_reducible refine w_notV ?_) | (with_reducible refine w_if ?_)
  | (with_reducible refine w_int1 ?_) | (with_reducible refine w_int1b ?_) | (with_reducible refine w_abs ?_) | (with_reducible refine w_max2 ?_) | (with_reducible refine w_min2 ?_)
  | ((with_reducible refine w_eq ?h ?_); (case h => rfl)) | ((with_reducible refine w_ne ?h ?_); (case h => rfl)) | (with_reducible refine w_isN ?_) | (with_reducible refine w_isB ?_) | (with_reducible refine w_chain ?_)
  | (with_reducible refine w_ret ?_) | (with_reducible refine w_drop ?_) | (with_reducible refine w_ifS ?_) | (with_reducible refine w_gsub ?_) | (with_reducible refine w_augS ?_) | (with_reducible refine w_ipI ?_) | (with_reducible refine w_next ?_)
  | (with_reducible refine w_forR ?_) | (with_reducible refine w_forR2 ?_) | (with_reducible refine w_forL ?_) | (with_reducible refine w_forT ?_) | (with_reducible refine w_lcR ?_) | (with_reducible refine w_lcL ?_) | (with_reducible refine w_lcT ?_) | (with_reducible refine w_sl ?_) | (with_reducible refine w_part ?_) | (with_reducible refine w_noPart ?_) | (with_reducible refine w_in ?_)
  | (with_reducible refine w_gcons ?_) | (with_reducible refine w_gnil ?_) | (with_reducible refine w_lc3 ?_) | (with_reducible refine w_dcZ ?_) | (with_reducible refine w_dcT ?_) | (with_reducible refine w_dg ?_) | (with_reducible refine w_callK ?_) | (with_reducible refine w_dput ?_) | (with_reducible refine w_tup1 ?_)
  | (with_reducible refine w_tup ?_) | (with_reducible refine w_lst ?_)
  | ((with_reducible refine w_I ?h ?_); (case h => first | (exact Or.inr ⟨by decide, by decide⟩) | (exact Or.inl ⟨by decide, by decide⟩) | (show (0 : Int) < _; decide) | (exact ⟨by decide, by decide, by decide⟩) | assumption)))
local macro_rules | `(tactic| walk_at "aw") => `(tactic| repeat (walk_at "aw1"))
/-- check_wishes: nothing, or an error of the class at C -/
def sp_check_wishes (_ : PySem.W.Frag) (C : Addr) : Sp := fun vs H Q E => ∃ (m v : V), vs = [m, v] ∧ ∃ xs ys zs D n, MdX H m xs ys zs ∧ xs.length ≤ 100 ∧ Is H D v ∧ Nc n D ∧ n ≤ 60 ∧ ∀ H', Adv [] H H' → if rghB xs D = true then Q .non H' else E (.ref C) none H'
def sp__law_told (_ : PySem.W.Frag) : Sp := fun vs H Q _ => ∃ (m v : V) (b : Bool), vs = [m, v, .bl b] ∧ ∃ xs ys zs D n, MdX H m xs ys zs ∧ xs.length ≤ 100 ∧ Is H D v ∧ Nc n D ∧ n ≤ 60 ∧ ∀ H', Adv [] H H' → Q (if rghB xs D = true then .non else .str "wish") H'
structure ExF (K : PySem.W.Frag) (c_BadModel c_BadView c_BadText c_UnknownName c_BadRow c_BadWish c_NothingLeft c_TooFar c_WrittenError : Addr) : Prop where
  te : PySem.W.exmOne K (.ref c_BadWish) (.ref c_BadWish) = some true
  k_BadModel : PySem.W.kitOne K (.ref c_BadWish) (.ref c_BadModel) = some false
  k_BadView : PySem.W.kitOne K (.ref c_BadWish) (.ref c_BadView) = some false
  k_BadText : PySem.W.kitOne K (.ref c_BadWish) (.ref c_BadText) = some false
  k_UnknownName : PySem.W.kitOne K (.ref c_BadWish) (.ref c_UnknownName) = some false
  k_BadRow : PySem.W.kitOne K (.ref c_BadWish) (.ref c_BadRow) = some false
  k_NothingLeft : PySem.W.kitOne K (.ref c_BadWish) (.ref c_NothingLeft) = some false
  k_TooFar : PySem.W.kitOne K (.ref c_BadWish) (.ref c_TooFar) = some false
  k_WrittenError : PySem.W.kitOne K (.ref c_BadWish) (.ref c_WrittenError) = some true
  k_ValueError : PySem.W.kitOne K (.ref c_BadWish) (.type "ValueError") = some true
def t_check_wishes (K : PySem.W.Frag) (c_BadWish : Addr) (E : XK) : TS := (tSeq (tAsg (tCall (sp_domains_of K) [] E0 (tCons (tVar 0) tNil)) (gName 2))
  (tIfS (tOr (tNot (tB (tCall (sp_is_tuple K) [] E0 (tCons (tVar 1) (tCons (tC (.int 1)) (tCons (tC v_MOST_WISHES) tNil)))))) (tNot (tB (tCB (rAll K) (tCons (tLc (iTup K (tVar 1)) (gName 3) tYes (tCall (sp__is_wish K) [] E0 (tCons (tVar 2) (tCons (tVar 3) tNil))) [3]) tNil))))) (fun _ σ H => E (.ref c_BadWish) none H) tNext))
def t__law_told (K : PySem.W.Frag) (c_BadModel c_BadView c_BadText c_UnknownName c_BadRow c_BadWish c_NothingLeft c_TooFar c_WrittenError : Addr) : TS := (tSeq (fun D σ H => (fun W : WX => (tAsg (tIf (tB (tVar 2)) (tCallSK (sp_check_wishes K c_BadWish) gK (WE W) (tCons (tVar 0) (tCons (tVar 1) tNil))) (tCallS (sp_check_wishes K c_BadWish) (WE W) (tCons (tVar 0) (tCons (tVar 1) tNil)))) (gName 3))) (wAs K (.ref c_BadWish) 4 (fun a cls d D σ H => (cls = .ref c_BadWish ∧ d = none) ∧ ((tSeq (tAsg (tOrV (tCB (rIsiE K a c_BadWish) (tCons (tVar 4) (tCons (tC (.ref c_BadModel)) tNil))) (tOrV (tCB (rIsiE K a c_BadWish) (tCons (tVar 4) (tCons (tC (.ref c_BadRow)) tNil))) (tOrV (tCB (rIsiE K a c_BadWish) (tCons (tVar 4) (tCons (tC (.ref c_NothingLeft)) tNil))) (tCB (rIsiE K a c_BadWish) (tCons (tVar 4) (tCons (tC (.ref c_TooFar)) tNil)))))) (gName 5))
  (tSeq (tAsg (tOrV (tVar 5) (tOrV (tCB (rIsiE K a c_BadWish) (tCons (tVar 4) (tCons (tC (.ref c_BadText)) tNil))) (tOrV (tCB (rIsiE K a c_BadWish) (tCons (tVar 4) (tCons (tC (.ref c_BadView)) tNil))) (tCB (rIsiE K a c_BadWish) (tCons (tVar 4) (tCons (tC (.ref c_UnknownName)) tNil)))))) (gName 5))
  (tRet (tIf (tAnd (tB (tCB (rIsiE K a c_BadWish) (tCons (tVar 4) (tCons (tC (.ref c_WrittenError)) tNil)))) (tAnd (tB (tCB (rIsiE K a c_BadWish) (tCons (tVar 4) (tCons (tC (.ty "ValueError")) tNil)))) (tNot (tB (tVar 5))))) (tC (.str "wish")) (tC (.str "else"))))))) D σ H) (fun _ _ _ _ => False) D) D σ H)
  (tRet (tIf (tTest (tOp rIsN (tVar 3) (tC .non))) (tC .non) (tC (.str "else")))))
theorem len_check_wishes {K : PySem.W.Frag} {C : Addr} : ∀ (vs : List V) (H : Hp) (Q : VK) (E : XK), sp_check_wishes K C vs H Q E → vs.length = 2 := fun vs H Q E h => by
  obtain ⟨_, _, rfl, _⟩ := h
  rfl
theorem rgh_eq {names : List Str} {ds : List PyData} : rghB names (.tuple ds) = (lenIn (.tuple ds) 1 3 && ds.all (wshB names)) := by
  show (decide (1 ≤ (ds.length : Int)) && decide ((ds.length : Int) ≤ 3) && ds.all (wshL names)) = _
  rw [lenIn_tup, show wshL names = wshB names from funext fun D => (wsh_eq D).symm]
theorem pure_check_wishes {K : PySem.W.Frag} {c_BadWish : Addr} (vs : List V) (H : Hp) (Q : VK) (E : XK) (h : sp_check_wishes K c_BadWish vs H Q E) : t_check_wishes K c_BadWish E { nx := fun _ H' => Q .non H', rt := Q } (start ["model", "value", "domains", "wish"] vs) H := by
  obtain ⟨m, v, rfl, xs, ys, zs, D, n, md, hl, hD, hn, hn6, q⟩ := h
  show t_check_wishes K c_BadWish E _ [some m, some v, none, none] H
  unfold t_check_wishes
  walk_at "aw"
  refine ⟨m, rfl, xs, ys, zs, md, hl, fun d H1 a1 hd => ?_⟩
  walk_at "aw"
  have hD1 := hD.up a1.tup
  refine ⟨v, 1, 3, rfl, D, hD1, ?_⟩
  walk_at "aw"
  cases hD1 with
  | @tup t us ds et hus =>
    have hul := hus.length
    rw [rgh_eq] at q
    by_cases hlen : lenIn (.tuple ds) 1 3 = true
    · rw [hlen, Bool.true_and] at q
      refine iteF'' (by rw [hlen]; rfl) ?_
      rw [lenIn_tup, Bool.and_eq_true, decide_eq_true_iff, decide_eq_true_iff] at hlen
      walk_at "aw"
      refine ⟨t, rfl, ⟨_, SqT.of et⟩, kLc_pure (walk_tup (xs := us)) (by omega) (fun H' g => SqT.of (g.tup _ _ et)) (fun _ => true) (fun i => .bl (wshB xs (ds.getD i .none))) (fun i x H2 H3 Kt Kf hi g2 y kt kf => ?_) fun l H4 nl g4 el => ?_⟩
      · obtain ⟨rfl, y1⟩ := y
        obtain ⟨dt, z1, hdt⟩ := hus.get y1
        rw [getD_of z1] at kt
        walk_at "aw"
        refine ⟨rfl, ?_⟩
        walk_at "aw"
        exact ⟨d, x, rfl, xs, dt, n, hd.up g2, hdt.up g2.tup, hn.item _ (List.mem_of_getElem? z1), hn6, fun H5 a5 => kt rfl H5 a5⟩
      rw [bls_map fun i => wshB xs (ds.getD i .none), hul] at el
      walk_at "aw"
      refine ⟨l, _, rfl, SqL.of el, ?_⟩
      rw [all_range]
      walk_at "aw"
      have q1 := q H4 (a1.trans g4)
      by_cases ha : ds.all (wshB xs) = true
      · rw [if_pos ha] at q1
        refine iteF'' (by rw [ha]; rfl) ?_
        walk_at "aw"
        exact q1
      · rw [if_neg ha] at q1
        rw [Bool.not_eq_true] at ha
        refine iteT'' (by rw [ha]; rfl) ?_
        exact q1
    · rw [Bool.not_eq_true] at hlen
      have q1 := q H1 a1
      rw [hlen, Bool.false_and, if_neg (by decide)] at q1
      refine iteT'' (by rw [hlen]; rfl) ?_
      exact q1
  | non => exact iteT'' rfl (by have q1 := q H1 a1; rw [if_neg (by simp [rghB])] at q1; exact q1)
  | bl _ => exact iteT'' rfl (by have q1 := q H1 a1; rw [if_neg (by simp [rghB])] at q1; exact q1)
  | int _ => exact iteT'' rfl (by have q1 := q H1 a1; rw [if_neg (by simp [rghB])] at q1; exact q1)
  | str _ => exact iteT'' rfl (by have q1 := q H1 a1; rw [if_neg (by simp [rghB])] at q1; exact q1)
theorem len__law_told {K : PySem.W.Frag} : ∀ (vs : List V) (H : Hp) (Q : VK) (E : XK), sp__law_told K vs H Q E → vs.length = 3 := fun vs H Q E h => by
  obtain ⟨_, _, _, rfl, _⟩ := h
  rfl
theorem w_callS {sp : Sp} {E : L2.St → XK} {t : TA} {σ : L2.St} {H : Hp} {Q : VK} (h : t σ H fun vs H1 => sp vs H1 Q (E σ)) : tCallS sp E t σ H Q := h
theorem w_callSK {sp : Sp} {E : L2.St → XK} {tk : TA} {σ : L2.St} {H : Hp} {Q : VK} (h : tk σ H fun zs H2 => sp zs H2 Q (E σ)) : tCallSK sp gK E tk σ H Q := h
theorem pure__law_told {K : PySem.W.Frag} {c_BadModel c_BadView c_BadText c_UnknownName c_BadRow c_BadWish c_NothingLeft c_TooFar c_WrittenError : Addr} (F : ExF K c_BadModel c_BadView c_BadText c_UnknownName c_BadRow c_BadWish c_NothingLeft c_TooFar c_WrittenError) (vs : List V) (H : Hp) (Q : VK) (E : XK) (h : sp__law_told K vs H Q E) : t__law_told K c_BadModel c_BadView c_BadText c_UnknownName c_BadRow c_BadWish c_NothingLeft c_TooFar c_WrittenError { nx := fun _ H' => Q .non H', rt := Q } (start ["model", "value", "by_name", "found", "e", "others"] vs) H := by
  obtain ⟨m, v, b, rfl, xs, ys, zs, D, n, md, hl, hD, hn, hn6, q⟩ := h
  show t__law_told K c_BadModel c_BadView c_BadText c_UnknownName c_BadRow c_BadWish c_NothingLeft c_TooFar c_WrittenError _ [some m, some v, some (.bl b), none, none, none] H
  unfold t__law_told
  with_reducible refine w_seq ?_
  show tAsg _ _ _ _ _
  with_reducible refine w_asg ?_
  walk_at "aw"
  have fin : ∀ H', Adv [] H H' → (rghB xs D = true → Q .non H') := fun H' a' z => by
    have := q H' a'
    rw [if_pos z] at this
    exact this
  have bad : ∀ H', Adv [] H H' → (¬ rghB xs D = true → Q (.str "wish") H') := fun H' a' z => by
    have := q H' a'
    rw [if_neg z] at this
    exact this
  cases b with
  | true =>
    walk_at "aw"
    with_reducible refine w_callSK ?_
    walk_at "aw"
    refine ⟨m, v, rfl, xs, ys, zs, D, n, md, hl, hD, hn, hn6, fun H' a' => ?_⟩
    by_cases z : rghB xs D = true
    · rw [if_pos z]
      walk_at "aw"
      exact fin H' a' z
    · rw [if_neg z]
      refine ⟨true, F.te, fun _ a ha => ⟨⟨rfl, rfl⟩, ?_⟩, fun z => nomatch z⟩
      walk_at "aw"
      refine ⟨_, _, false, rfl, .own _, F.k_BadModel, ?_⟩
      walk_at "aw"
      refine ⟨_, _, false, rfl, .own _, F.k_BadRow, ?_⟩
      walk_at "aw"
      refine ⟨_, _, false, rfl, .own _, F.k_NothingLeft, ?_⟩
      walk_at "aw"
      refine ⟨_, _, false, rfl, .own _, F.k_TooFar, ?_⟩
      walk_at "aw"
      refine ⟨_, _, false, rfl, .own _, F.k_BadText, ?_⟩
      walk_at "aw"
      refine ⟨_, _, false, rfl, .own _, F.k_BadView, ?_⟩
      walk_at "aw"
      refine ⟨_, _, false, rfl, .own _, F.k_UnknownName, ?_⟩
      walk_at "aw"
      refine ⟨_, _, true, rfl, .own _, F.k_WrittenError, ?_⟩
      walk_at "aw"
      refine ⟨_, _, true, rfl, .ty _, F.k_ValueError, ?_⟩
      walk_at "aw"
      exact bad H' a' z
  | false =>
    walk_at "aw"
    with_reducible refine w_callS ?_
    walk_at "aw"
    refine ⟨m, v, rfl, xs, ys, zs, D, n, md, hl, hD, hn, hn6, fun H' a' => ?_⟩
    by_cases z : rghB xs D = true
    · rw [if_pos z]
      walk_at "aw"
      exact fin H' a' z
    · rw [if_neg z]
      refine ⟨true, F.te, fun _ a ha => ⟨⟨rfl, rfl⟩, ?_⟩, fun z => nomatch z⟩
      walk_at "aw"
      refine ⟨_, _, false, rfl, .own _, F.k_BadModel, ?_⟩
      walk_at "aw"
      refine ⟨_, _, false, rfl, .own _, F.k_BadRow, ?_⟩
      walk_at "aw"
      refine ⟨_, _, false, rfl, .own _, F.k_NothingLeft, ?_⟩
      walk_at "aw"
      refine ⟨_, _, false, rfl, .own _, F.k_TooFar, ?_⟩
      walk_at "aw"
      refine ⟨_, _, false, rfl, .own _, F.k_BadText, ?_⟩
      walk_at "aw"
      refine ⟨_, _, false, rfl, .own _, F.k_BadView, ?_⟩
      walk_at "aw"
      refine ⟨_, _, false, rfl, .own _, F.k_UnknownName, ?_⟩
      walk_at "aw"
      refine ⟨_, _, true, rfl, .own _, F.k_WrittenError, ?_⟩
      walk_at "aw"
      refine ⟨_, _, true, rfl, .ty _, F.k_ValueError, ?_⟩
      walk_at "aw"
      exact bad H' a' z
end AW
namespace AW
open PySem PySem.Spec PyProof.Rows L2 RZ
open StX
local macro_rules | `(tactic| walk_at "aw1") => `(tactic| first
  | (with_reducible refine w_seq ?_) | (with_reducible refine w_asg ?_) | (with_reducible refine w_gname ?_) | (with_reducible refine w_op ?_) | (with_reducible refine w_un ?_)
  | ((with_reducible refine' w_var ?h ?_); (case h => rfl)) | (with_reducible refine w_c ?_)
  | (with_reducible refine w_I0 ?_) | (with_reducible refine w_U ?_) | (with_reducible refine w_cb ?_) | (with_reducible refine w_nil ?_) | (with_reducible refine w_cons ?_) | (with_reducible refine w_call ?_)
  | (with_reducible refine w_test ?_) | (with_reducible refine w_B ?_) | (with_reducible refine w_bl ?_) | (with_reducible refine w_not ?_) | (with_reducible refine w_yes ?_) | (with_reducible refine iteT ?_) | (with_reducible refine iteF ?_) | (with_reducible refine w_and ?_) | (with_reducible refine w_or ?_)
  | (with_reducible refine w_andV ?_) | (with_reducible refine w_orV ?_) | (with_reducible refine w_notV ?_) | (with_reducible refine w_if ?_)
  | (with_reducible refine w_int1 ?_) | (with_reducible refine w_int1b ?_) | (with_reducible refine w_abs ?_) | (with_reducible refine w_max2 ?_) | (with_reducible refine w_min2 ?_)
  | ((with_reducible refine w_eq ?h ?_); (case h => rfl)) | ((with_reducible refine w_ne ?h ?_); (case h => rfl)) | (with_reducible refine w_isN ?_) | (with_reducible refine w_isB ?_) | (with_reducible refine w_chain ?_)
  | (with_reducible refine w_ret ?_) | (with_reducible refine w_drop ?_) | (with_reducible refine w_ifS ?_) | (with_reducible refine w_gsub ?_) | (with_reducible refine w_augS ?_) | (with_reducible refine w_ipI ?_) | (with_reducible refine w_next ?_)
  | (with_reducible refine w_forR ?_) | (with_reducible refine w_forR2 ?_) | (with_reducible refine w_forL ?_) | (with_reducible refine w_forT ?_) | (with_reducible refine w_lcR ?_) | (with_reducible refine w_lcL ?_) | (with_reducible refine w_lcT ?_) | (with_reducible refine w_sl ?_) | (with_reducible refine w_part ?_) | (with_reducible refine w_noPart ?_) | (with_reducible refine w_in ?_)
  | (with_reducible refine w_gcons ?_) | (with_reducible refine w_gnil ?_) | (with_reducible refine w_lc3 ?_) | (with_reducible refine w_dcZ ?_) | (with_reducible refine w_dcT ?_) | (with_reducible refine w_dg ?_) | (with_reducible refine w_callK ?_) | (with_reducible refine w_dput ?_) | (with_reducible refine w_tup1 ?_)
  | (with_reducible refine w_tup ?_) | (with_reducible refine w_lst ?_)
  | ((with_reducible refine w_I ?h ?_); (case h => first | (exact Or.inr ⟨by decide, by decide⟩) | (exact Or.inl ⟨by decide, by decide⟩) | (show (0 : Int) < _; decide) | (exact ⟨by decide, by decide, by decide⟩) | assumption)))
local macro_rules | `(tactic| walk_at "aw") => `(tactic| repeat (walk_at "aw1"))
def sp_law (K : PySem.W.Frag) : Sp := fun vs H Q _ => ∃ (a : Addr) (ns : List Int), vs = [.ref a] ∧ SqL K H a (ns.map V.int) ∧ ns.length ≤ 63 ∧ ∀ H', Q (.bl true) H'
def t_law (K : PySem.W.Frag) : TS := (tSeq (tAsg (tCall (sp__law_bag K) [] E0 (tCons (tVar 0) tNil)) (gName 1))
  (tSeq (tAsg (tCall (sp__law_pick K) [] E0 (tCons (tVar 1) (tCons (tLst (tCons (tC (.int 2)) (tCons (tC (.int 3)) (tCons (tC (.int 4)) (tCons (tC (.int 12)) (tCons (tC (.int 13)) (tCons (tC (.int 14)) tNil))))))) tNil))) (gName 2))
  (tSeq (tAsg (tCall (sp__law_names K) [] E0 (tCons (tVar 1) (tCons (tOp rAddI (tVar 2) (tC (.int 2))) tNil))) (gName 3))
  (tSeq (tAsg (tThen (tLc (iRng1 (tCons (tVar 2) tNil)) (gName 5) tYes (tTup (tCons (tOp (rIxL K) (tVar 3) (tVar 5)) (tCons (tCall (sp__law_domain K) [] E0 (tCons (tVar 1) (tCons (tOp rAddI (tC (.int 1)) (tCall (sp__law_draw K) [] E0 (tCons (tVar 1) (tCons (tC (.int 4)) tNil)))) tNil))) tNil))) [5]) (kTup K)) (gName 4))
  (tSeq (tAsg (tIf (tTest (tOp rEq (tCall (sp__law_draw K) [] E0 (tCons (tVar 1) (tCons (tC (.int 2)) tNil))) (tC (.int 0)))) (tTup (tCons (tTup (tCons (tOp (rIxL K) (tVar 3) (tOp rAddI (tVar 2) (tC (.int 1)))) (tCons (tTup (tCons (tC (.str "round")) (tCons (tTup (tCons (tOp (rIxL K) (tVar 3) (tC (.int 0))) tNil)) tNil))) (tCons (tC (.int 7)) tNil)))) tNil)) (tTup tNil)) (gName 6))
  (tSeq (tAsg (tTup (tCons (tVar 4) (tCons (tTup (tCons (tTup (tCons (tOp (rIxL K) (tVar 3) (tVar 2)) (tCons (tTup (tCons (tC (.str "unlike")) (tCons (tTup (tCons (tOp (rIxL K) (tVar 3) (tC (.int 0))) (tCons (tOp (rIxL K) (tVar 3) (tC (.int 1))) tNil))) tNil))) tNil))) tNil)) (tCons (tVar 6) tNil)))) (gName 7))
  (tSeq (tAsg (tCall (sp__law_wishes K) [] E0 (tCons (tVar 1) (tCons (tVar 7) tNil))) (gName 8))
  (tSeq (tIfS (tTest (tOp rNotN (tCall (sp__law_told K) [] E0 (tCons (tVar 7) (tCons (tVar 8) (tCons (tC (.bl false)) tNil)))) (tC .non))) (tRet (tC (.bl false))) tNext)
  (tSeq (tAsg (tCall (sp__law_edges K) [] E0 (tCons (tVar 7) (tCons (tVar 8) tNil))) (gName 9))
  (tSeq (tFor (iRng1 (tCons (tC (.int 12)) tNil)) (gName 5)
  (tDrop (tBM K "list" rAppend (tVar 9) (tCons (tCall (sp__law_spoilt K 5) [] E0 (tCons (tVar 1) (tCons (tVar 8) (tCons (tC (.int 4)) tNil)))) tNil))))
  (tSeq (tFor (iRng1 (tCons (tCB (rLen1 K) (tCons (tVar 9) tNil)) tNil)) (gName 5)
  (tSeq (tAsg (tIf (tB (tCall (sp__law_is_right K) [] E0 (tCons (tVar 7) (tCons (tOp (rIxL K) (tVar 9) (tVar 5)) tNil)))) (tC .non) (tC (.str "wish"))) (gName 10))
  (tIfS (tTest (tOp rNe (tCall (sp__law_told K) [] E0 (tCons (tVar 7) (tCons (tOp (rIxL K) (tVar 9) (tVar 5)) (tCons (tOp rEq (tOp rModI (tCB rInt1 (tCons (tVar 5) tNil)) (tC (.int 2))) (tC (.int 1))) tNil)))) (tVar 10))) (tRet (tC (.bl false))) tNext)))
  (tRet (tAndV (tOp rIsN (tCall (sp__law_told K) [] E0 (tCons (tVar 7) (tCons (tVar 8) (tCons (tC (.bl true)) tNil)))) (tC .non)) (tOp rIsN (tCall (sp__law_told K) [] E0 (tCons (tVar 7) (tCons (tCall (sp__law_wishes K) [] E0 (tCons (tVar 1) (tCons (tVar 7) tNil))) (tCons (tC (.bl false)) tNil)))) (tC .non)))))))))))))))
theorem len_law {K : PySem.W.Frag} : ∀ (vs : List V) (H : Hp) (Q : VK) (E : XK), sp_law K vs H Q E → vs.length = 1 := fun vs H Q E h => by
  obtain ⟨_, _, rfl, _⟩ := h
  rfl
theorem name_at {names : List Str} {i : Nat} {H : Hp} {l : Addr} {K : PySem.W.Frag} {Q : VK} {k : Int} (e : H l = some (.lst (names.map V.str))) (hk : k = (i : Int)) (hi : i < names.length) (q : ∀ x, names[i]? = some x → Q (.str x) H) : rIxL K (.ref l) (.int k) H Q := by
  obtain ⟨x, hx⟩ := get_some (xs := names) (i := i) hi
  exact w_ixL (SqL.of e) (v := .str x) (at_of (j := i) hk (by rw [List.getElem?_map, hx]; rfl)) (q x hx)
theorem pure_law {K : PySem.W.Frag} (vs : List V) (H : Hp) (Q : VK) (E : XK) (h : sp_law K vs H Q E) : t_law K { nx := fun _ H' => Q .non H', rt := Q } (start ["script", "bag", "many", "names", "unknowns", "k", "soft", "model", "wishes", "values", "due"] vs) H := by
  obtain ⟨a, ns, rfl, hs, hl, q⟩ := h
  show t_law K _ [some (.ref a), none, none, none, none, none, none, none, none, none, none] H
  unfold t_law
  walk_at "aw"
  refine ⟨a, ns, rfl, hs, hl, fun st cs H1 ok a1 nst => ?_⟩
  walk_at "aw"
  refine w_pickL (ns := [2, 3, 4, 12, 13, 14]) ok (by decide) (by decide) fun mz hmz H2 g2 => ?_
  obtain ⟨M, rfl, hM⟩ : ∃ M : Nat, mz = (M : Int) ∧ 2 ≤ M ∧ M ≤ 14 := by
    simp only [List.mem_cons, List.not_mem_nil, or_false] at hmz
    exact ⟨mz.toNat, by omega, by omega, by omega⟩
  walk_at "aw"
  rw [show ((M : Int) + 2) = ((M + 2 : Nat) : Int) by omega]
  refine ⟨st, M + 2, rfl, cs, g2.ok, by omega, fun nl names H3 g3 nnl enl hnl hnd hok hle hlo => ?_⟩
  have nnl0 := g2.free ok nnl
  have onl := (ok.ne nnl0).1
  walk_at "aw"
  have g13 := g2.trans g3
  refine kLcR_all (n := M) (by omega) g13.ok (fun i v H => ∃ p w x, v = .ref p ∧ names[i]? = some x ∧ H p = some (.tup [.str x, w])) (fun i v H H' k h => by
    obtain ⟨p, w, x, h1, h2, h3⟩ := h
    exact ⟨p, w, x, h1, h2, k _ _ h3⟩) (fun j H4 Kt hj g4 kt => ?_) fun ul H4 us nul g4 eul hul hus => ?_
  · walk_at "aw"
    refine ⟨rfl, ?_⟩
    walk_at "aw"
    refine name_at (i := j) (g4.keep onl enl) rfl (by omega) fun x hx => ?_
    walk_at "aw"
    refine w_draw g4.ok (by decide) (by decide) fun z H5 z0 z1 g5 => ?_
    walk_at "aw"
    refine ⟨st, 1 + z, rfl, cs, g5.ok, by omega, by omega, fun v fl H6 g6 hv _ _ _ => ?_⟩
    walk_at "aw"
    refine w_tupD (by show 2 ≤ 100000; decide) fun p H7 np a7 ep => ?_
    exact kt _ _ ((g5.trans g6).new a7) ⟨p, v, x, rfl, hx, ep⟩
  have g14 := g13.trans g4
  walk_at "aw"
  refine w_tupL (SqL.of eul) fun ut H5 nut a5 eut => ?_
  have g15 := g14.new a5
  have enl5 := (g4.new a5).keep onl enl
  have hus5 : ∀ (i : Nat) v, us[i]? = some v → ∃ p w x, v = .ref p ∧ names[i]? = some x ∧ H5 p = some (.tup [.str x, w]) := fun i v e => by
    obtain ⟨p, w, x, h1, h2, h3⟩ := hus i v e
    exact ⟨p, w, x, h1, h2, a5.tup _ _ h3⟩
  with_reducible refine w_gname ?_
  with_reducible refine w_seq ?_
  with_reducible refine w_asg ?_
  refine w_ifEJ (fun v H' => ∃ (d : Addr) (qs : List V) (zs : List Str), v = .ref d ∧ Go st cs H5 H' ∧ H' d = some (.tup qs) ∧ qs.length = zs.length ∧ zs.length ≤ 1 ∧ (∀ x ∈ zs, okS x) ∧ ∀ (i : Nat) u, qs[i]? = some u → ∃ p vs x, u = .ref p ∧ zs[i]? = some x ∧ H' p = some (.tup (.str x :: vs))) (fun Q' q' => ?_) fun v H6 z => ?_
  · walk_at "aw"
    refine w_draw g15.ok (by decide) (by decide) fun z H6 _ _ g6 => ?_
    walk_at "aw"
    refine w_iteB (fun _ => ?_) fun _ => ?_
    · walk_at "aw"
      refine name_at (i := M + 1) (g6.keep onl enl5) (by omega) (by omega) fun x hx => ?_
      walk_at "aw"
      refine name_at (i := 0) (g6.keep onl enl5) rfl (by omega) fun y hy => ?_
      walk_at "aw"
      refine w_tupD (by show 1 ≤ 100000; decide) fun p1 H7 n1 a7 e1 => ?_
      walk_at "aw"
      refine w_tupD (by show 2 ≤ 100000; decide) fun p2 H8 n2 a8 e2 => ?_
      walk_at "aw"
      refine w_tupD (by show 3 ≤ 100000; decide) fun p3 H9 n3 a9 e3 => ?_
      walk_at "aw"
      refine w_tupD (by show 1 ≤ 100000; decide) fun p4 H10 n4 a10 e4 => ?_
      refine q' _ _ ⟨p4, _, [x], rfl, g6.new (a7.trans (a8.trans (a9.trans a10))), e4, rfl, by simp, fun y hy => by rw [List.mem_singleton.mp hy]; exact hok x (List.mem_of_getElem? hx), fun i u e => ?_⟩
      match i, e with
      | 0, e =>
        cases e
        exact ⟨p3, _, x, rfl, rfl, a10.tup _ _ e3⟩
      | i + 1, e => simp at e
    · walk_at "aw"
      refine w_tupD (by decide) fun p H7 np a7 ep => ?_
      exact q' _ _ ⟨p, [], [], rfl, g6.new a7, ep, rfl, by decide, (fun _ h => nomatch h), fun i u e => by simp at e⟩
  obtain ⟨sd, qs, zs, rfl, g6, esd, hqz, hz1, hzok, hqs⟩ := z
  have g16 := g15.trans g6
  have enl6 := g6.keep onl enl5
  walk_at "aw"
  refine name_at (i := M) enl6 rfl (by omega) fun hn hhn => ?_
  walk_at "aw"
  refine name_at (i := 0) enl6 rfl (by omega) fun x0 hx0 => ?_
  walk_at "aw"
  refine name_at (i := 1) enl6 rfl (by omega) fun x1 hx1 => ?_
  walk_at "aw"
  refine w_tupD (by show 2 ≤ 100000; decide) fun p1 H7 n1 a7 e1 => ?_
  walk_at "aw"
  refine w_tupD (by show 2 ≤ 100000; decide) fun p2 H8 n2 a8 e2 => ?_
  walk_at "aw"
  refine w_tupD (by show 2 ≤ 100000; decide) fun p3 H9 n3 a9 e3 => ?_
  walk_at "aw"
  refine w_tupD (by show 1 ≤ 100000; decide) fun p4 H10 n4 a10 e4 => ?_
  walk_at "aw"
  refine w_tupD (by show 3 ≤ 100000; decide) fun md H11 nmd a11 emd => ?_
  have aa := a7.trans (a8.trans (a9.trans (a10.trans a11)))
  have g1B := g16.new aa
  have hul' : us.length = M := hul
  have MD : MdX H11 (.ref md) (names.take M) [hn] zs := by
    refine ⟨md, ut, p4, sd, us, _, qs, rfl, emd, (g6.new aa).tk _ _ eut, a11.tup _ _ e4, aa.tup _ _ esd, by rw [List.length_take]; omega, rfl, hqz, fun i u e => ?_, fun i u e => ?_, fun i u e => ?_⟩
    · obtain ⟨p, w, x, h1, h2, h3⟩ := hus5 i u e
      have hi := (List.getElem?_eq_some_iff.mp e).1
      exact ⟨p, w, x, h1, by rw [List.getElem?_take_of_lt (by omega)]; exact h2, (g6.new aa).tk _ _ h3⟩
    · match i, e with
      | 0, e =>
        cases e
        exact ⟨p3, _, hn, rfl, rfl, (a10.trans a11).tup _ _ e3⟩
      | i + 1, e => simp at e
    · obtain ⟨p, vs, x, h1, h2, h3⟩ := hqs i u e
      exact ⟨p, vs, x, h1, h2, aa.tup _ _ h3⟩
  have NM : NmOk (names.take M) := ⟨hnd.sublist (List.take_sublist M names), by rw [List.length_take]; omega, by rw [List.length_take]; omega, fun x hx => hok x (List.mem_of_mem_take hx), fun x hx => hle x (List.mem_of_mem_take hx), fun x hx => hlo x (List.mem_of_mem_take hx)⟩
  generalize names.take M = xs at MD NM
  have okh : okS hn := hok hn (List.mem_of_getElem? hhn)
  have xl : xs.length ≤ 100 := by have := NM.l9; omega
  walk_at "aw"
  refine ⟨st, .ref md, rfl, cs, xs, [hn], zs, g1B.ok, MD, NM, fun wv H12 g12 hw => ?_⟩
  have MD12 := MD.up g12.tk
  have told : ∀ (H' : Hp) (wv' : V) (b : Bool) (Q' : VK) (E' : XK), MdX H' (.ref md) xs [hn] zs → WsAt H' wv' xs → (∀ H'', Adv [] H' H'' → Q' .non H'') → sp__law_told K [.ref md, wv', .bl b] H' Q' E' := fun H' wv' b Q' E' hm hw' q' => by
    obtain ⟨t, ws, ds, rfl, et, hws, hsm, hr⟩ := hw'
    exact ⟨.ref md, .ref t, b, rfl, xs, [hn], zs, .tuple ds, 4, hm, xl, .tup et hws, hsm.nc, by decide, fun H'' a'' => by rw [if_pos hr]; exact q' H'' a''⟩
  walk_at "aw"
  refine told _ _ _ _ _ MD12 hw fun H13 a13 => ?_
  walk_at "aw"
  refine w_notN ?_
  walk_at "aw"
  refine iteF'' (by simp) ?_
  walk_at "aw"
  have MD13 := MD12.up a13.tup
  have hw13 := hw.up a13.tup
  have g1D : Go st cs H1 H13 := (g1B.trans g12).new a13
  refine ⟨.ref md, wv, rfl, xs, [hn], zs, MD13, NM, by simp, by omega, fun x hx => ?_, hw13, fun vl vus H14 nvl a14 evl dvl lvl => ?_⟩
  · rcases List.mem_append.mp hx with hx | hx
    · rw [List.mem_singleton.mp hx]
      exact okh
    · exact hzok x hx
  have g1E := g1D.new a14
  have nvl0 := g1D.free ok nvl
  have ovl := (ok.ne nvl0).1
  have hmd14 := MD13.up a14.tup
  have hw14 := hw13.up a14.tup
  walk_at "aw"
  refine kForR_i (n := 12) (by decide) (fun i σ' H' => ∃ (y5 y10 : Option V) (vus : List V), σ' = [some (.ref a), some (.ref st), some (.int (M : Nat)), some (.ref nl), some (.ref ut), y5, some (.ref sd), some (.ref md), some wv, some (.ref vl), y10] ∧ Go st cs H1 H' ∧ TK H14 H' ∧ H' vl = some (.lst vus) ∧ AllDat 40 H' vus ∧ vus.length ≤ 1000 + i)
    ⟨_, _, vus, rfl, g1E, fun _ _ h => h, evl, dvl, by omega⟩ (fun i σ' H' hi pp => ?_) fun σ' H' pp => ?_
  · obtain ⟨y5, y10, vus, rfl, g, tk, evl, dvl, lvl⟩ := pp
    walk_at "aw"
    refine w_app rfl evl ?_
    walk_at "aw"
    obtain ⟨t, ws, ds, rfl, et, hws, hsm, hr⟩ := hw14.up tk
    refine ⟨st, .ref t, 4, rfl, cs, .tuple ds, 4, g.ok, .tup et hws, hsm, by decide, by decide, fun v H15 g15 dv => ?_⟩
    have evl15 := g15.keep ovl evl
    walk_at "aw"
    refine w_append evl15 (by omega) ?_
    walk_at "aw"
    have kk : TK H15 (upd H15 vl (.lst (vus ++ [v]))) := (Adv.lst evl15).tup
    refine ⟨_, _, vus ++ [v], rfl, (g.trans g15).mutL ok nvl0 evl15, TK.trans tk (TK.trans g15.tk kk), upd_same, fun w hw => ?_, by rw [List.length_append]; simp; omega⟩
    rcases List.mem_append.mp hw with hw | hw
    · exact (dvl w hw).up (TK.trans g15.tk kk)
    · rw [List.mem_singleton.mp hw]
      exact (dv.mono (by decide)).up kk
  · obtain ⟨y5, y10, vus, rfl, g, tk, evl, dvl, lvl⟩ := pp
    walk_at "aw"
    refine w_lenL (SqL.of evl) ?_
    walk_at "aw"
    refine kForR_i (n := vus.length) (by omega) (fun i σ' H'' => ∃ (y5 y10 : Option V), σ' = [some (.ref a), some (.ref st), some (.int (M : Nat)), some (.ref nl), some (.ref ut), y5, some (.ref sd), some (.ref md), some wv, some (.ref vl), y10] ∧ Adv [] H' H'') ⟨_, _, rfl, .refl _ _⟩ (fun i σ' H'' hi pp => ?_) fun σ' H'' pp => ?_
    · obtain ⟨y5, y10, rfl, g2⟩ := pp
      have evl2 := g2.keep _ _ (fun z => nomatch z) evl
      obtain ⟨u, hu⟩ := get_some (xs := vus) (i := i) hi
      obtain ⟨D, hD, nD⟩ := (dvl u (List.mem_of_getElem? hu)).up g2.tup
      have mdx := hmd14.up (TK.trans tk g2.tup)
      walk_at "aw"
      refine w_ixL (SqL.of evl2) (at_of (j := i) rfl hu) ?_
      walk_at "aw"
      refine ⟨.ref md, u, rfl, xs, [hn], zs, D, 40, mdx, xl, NM.lo, hD, nD, by decide, fun H16 a16 => ?_⟩
      walk_at "aw"
      have fin : ∀ (due : V), due = (if rghB xs D = true then .non else .str "wish") → ∀ H18, Adv [] H'' H18 → ∃ y5 y10, [some (V.ref a), some (V.ref st), some (V.int (M : Nat)), some (V.ref nl), some (V.ref ut), some (V.int (i : Nat)), some (V.ref sd), some (V.ref md), some wv, some (V.ref vl), some due] = [some (.ref a), some (.ref st), some (.int (M : Nat)), some (.ref nl), some (.ref ut), y5, some (.ref sd), some (.ref md), some wv, some (.ref vl), y10] ∧ Adv [] H' H18 := fun due _ H18 a18 => ⟨_, _, rfl, g2.trans a18⟩
      cases hr : rghB xs D with
      | true =>
        refine iteT'' rfl ?_
        walk_at "aw"
        refine w_ixL (SqL.of (a16.keep _ _ (fun z => nomatch z) evl2)) (at_of (j := i) rfl hu) ?_
        walk_at "aw"
        refine ⟨.ref md, u, _, rfl, xs, [hn], zs, D, 40, mdx.up a16.tup, xl, hD.up a16.tup, nD, by decide, fun H17 a17 => ?_⟩
        rw [hr, if_pos rfl]
        walk_at "aw"
        exact ⟨_, _, rfl, g2.trans (a16.trans a17)⟩
      | false =>
        refine iteF'' rfl ?_
        walk_at "aw"
        refine w_ixL (SqL.of (a16.keep _ _ (fun z => nomatch z) evl2)) (at_of (j := i) rfl hu) ?_
        walk_at "aw"
        refine ⟨.ref md, u, _, rfl, xs, [hn], zs, D, 40, mdx.up a16.tup, xl, hD.up a16.tup, nD, by decide, fun H17 a17 => ?_⟩
        rw [hr, if_neg (by decide)]
        walk_at "aw"
        exact ⟨_, _, rfl, g2.trans (a16.trans a17)⟩
    · obtain ⟨y5, y10, rfl, g2⟩ := pp
      have k2 : TK H14 H'' := TK.trans tk g2.tup
      walk_at "aw"
      refine told _ _ _ _ _ (hmd14.up k2) (hw14.up k2) fun H16 a16 => ?_
      walk_at "aw"
      refine iteT'' (by simp) ?_
      walk_at "aw"
      have g1F : Go st cs H1 H16 := (g.new g2).new a16
      refine ⟨st, .ref md, rfl, cs, xs, [hn], zs, g1F.ok, (hmd14.up k2).up a16.tup, NM, fun wv2 H17 g17 hw2 => ?_⟩
      walk_at "aw"
      refine told _ _ _ _ _ (((hmd14.up k2).up a16.tup).up g17.tk) hw2 fun H18 a18 => ?_
      walk_at "aw"
      exact q _
end AW
namespace AW
open PySem PySem.Spec PyProof.Rows L2 RZ
open StX
def topS (i : Nat) : Stmt := PySem.Challenge.pw_aswritten_k11_wishes_checked.main.body.getD i (.Pass ⟨0, 0, 0, 0⟩)
abbrev s__law_bag : Stmt := topS 29
abbrev n__law_bag : List Str := ["script", "cells", "cell", "great"]
theorem sc__law_bag : FnScope n__law_bag ["script"] (defScope s__law_bag) := ⟨rfl, rfl, rfl, by decide +kernel, rfl, by decide +kernel, by decide +kernel⟩
theorem ok__law_bag {P : Program} {w : World} {K : PySem.W.Frag} {mg : Str → Option Value} {base : Heap} {f : Addr} {fd : FuncData} (F : Fun K "_law_bag" "_law_bag" s__law_bag f fd) (gf : mg "_law_bag" = some (.ref f))   (m_abs : mg "abs" = none) (m_int : mg "int" = none)  : Cal P w K mg base "_law_bag" 1 ["script"] (sp__law_bag K) := by
  refine ⟨f, fd, F.ok sc__law_bag len__law_bag (fun cdv A outer s H vs Q E hr h => ⟨t__law_bag K, PSs.nox ?_, pure__law_bag vs H Q E h⟩), F.kp, F.binds (fun _ _ _ _ _ _ us hl => match us, hl with | [_], _ => rfl), gf⟩
  exact (pss_cons (ps_set (i := 1) sc__law_bag.nd rfl (by first | exact .inl rfl | exact .inr rfl) (pe_op op_cat (pe_lc (own := [("cell", 2)]) rfl sc__law_bag.nd (pi_list (pv 0)) (blkOk_by (own := [("cell", 2)]) (N := n__law_bag) (sc := defScope s__law_bag) (by decide +kernel)) (fun _ _ _ _ _ => (pg_name (i := 2) sc__law_bag.nd rfl (by first | exact .inl rfl | exact .inr rfl))) (fun _ _ _ _ _ => pts_nil) (fun _ _ _ _ _ => (pe_callB call_abs1 (by rfl) m_abs (by decide +kernel) (pa_cons (pe_callTy call_int1 (by rfl) m_int (by decide +kernel) (pa_cons (pv 2) pa_nil)) pa_nil)))) (pe_lst (pa_cons pe_int pa_nil))))
  (pss_cons (ps_set (i := 3) sc__law_bag.nd rfl (by first | exact .inl rfl | exact .inr rfl) (pe_lst pa_nil))
  (pss_cons (ps_if (pt_cmpR op_eq (pe_op op_mod (pe_callTy call_int1 (by rfl) m_int (by decide +kernel) (pa_cons (pe_ix ix_list (pv 1) pe_int (fun _ _ => rfl)) pa_nil)) pe_int) pe_int (nomark _)) (pss_cons (ps_setLc (i := 3) (own := [("cell", 2)]) rfl sc__law_bag.nd rfl rfl (sw_true rfl rfl rfl (by decide +kernel)) (pi_list (pv 1)) (blkOk_by (own := [("cell", 2)]) (N := n__law_bag) (sc := defScope s__law_bag) (by decide +kernel)) (fun _ _ _ _ _ => (pg_name (i := 2) sc__law_bag.nd rfl (by first | exact .inl rfl | exact .inr rfl))) (fun _ _ _ _ _ => (pts_one (pt_cmpR op_ge (pv 2) (pe_op op_pow pe_int pe_int) (nomark _)))) (fun _ _ _ _ _ => (pe_op op_fdiv (pv 2) pe_int)))
  (pss_one (ps_expr (pe_bm0 PySem.F.plainAttrs_list PySem.F.slot_list_reverse PySem.F.type_list_reverse mt_reverse (pv 3))))) pss_nil)
  (pss_one (ps_ret (pe_lst (pa_cons pe_int (pa_cons pe_int (pa_cons (pv 3) (pa_cons (pe_lc (own := [("cell", 2)]) rfl sc__law_bag.nd (pi_list (pv 1)) (blkOk_by (own := [("cell", 2)]) (N := n__law_bag) (sc := defScope s__law_bag) (by decide +kernel)) (fun _ _ _ _ _ => (pg_name (i := 2) sc__law_bag.nd rfl (by first | exact .inl rfl | exact .inr rfl))) (fun _ _ _ _ _ => pts_nil) (fun _ _ _ _ _ => (pe_op op_mod (pe_callTy call_int1 (by rfl) m_int (by decide +kernel) (pa_cons (pv 2) pa_nil)) pe_int))) pa_nil))))))))))
abbrev s__law_draw : Stmt := topS 30
abbrev n__law_draw : List Str := ["bag", "many", "digit", "cell", "mixed"]
theorem sc__law_draw : FnScope n__law_draw ["bag", "many"] (defScope s__law_draw) := ⟨rfl, rfl, rfl, by decide +kernel, rfl, by decide +kernel, by decide +kernel⟩
theorem ok__law_draw {P : Program} {w : World} {K : PySem.W.Frag} {mg : Str → Option Value} {base : Heap} {f : Addr} {fd : FuncData} (F : Fun K "_law_draw" "_law_draw" s__law_draw f fd) (gf : mg "_law_draw" = some (.ref f))   (m_int : mg "int" = none) (m_len : mg "len" = none)  : Cal P w K mg base "_law_draw" 1 ["bag", "many"] (sp__law_draw K) := by
  refine ⟨f, fd, F.ok sc__law_draw len__law_draw (fun cdv A outer s H vs Q E hr h => ⟨t__law_draw K, PSs.nox ?_, pure__law_draw vs H Q E h⟩), F.kp, F.binds (fun _ _ _ _ _ _ us hl => match us, hl with | [_, _], _ => rfl), gf⟩
  exact (pss_cons (ps_asg (pe_op op_add (pe_ix ix_list (pv 0) pe_int (fun _ _ => rfl)) pe_int) (pg_sub (pv 0) pe_int set_list))
  (pss_cons (ps_if (PW.pt (pw_and (pt_cmpR op_eq (pe_ix ix_list (pv 0) pe_int (fun _ _ => rfl)) pe_int (nomark _)) (pw_and1 (pt_cmpR op_gt (pe_callB call_len1 (by rfl) m_len (by decide +kernel) (pa_cons (pe_ix ix_list (pv 0) pe_int (fun _ _ => rfl)) pa_nil)) pe_int (nomark _))))) (pss_one (ps_asg (pe_bm0 PySem.F.plainAttrs_list PySem.F.slot_list_pop PySem.F.type_list_pop mt_pop (pe_ix ix_list (pv 0) pe_int (fun _ _ => rfl))) (pg_sub (pv 0) pe_int set_list))) pss_nil)
  (pss_cons (ps_if (pt_cmpR op_gt (pe_ix ix_list (pv 0) pe_int (fun _ _ => rfl)) pe_int (nomark _)) (pss_cons (ps_set (i := 2) sc__law_draw.nd rfl (by first | exact .inl rfl | exact .inr rfl) (pe_op op_mod (pe_callTy call_int1 (by rfl) m_int (by decide +kernel) (pa_cons (pe_ix ix_list (pv 0) pe_int (fun _ _ => rfl)) pa_nil)) (pv 1)))
  (pss_cons (ps_asg (pe_op op_fdiv (pe_ix ix_list (pv 0) pe_int (fun _ _ => rfl)) (pv 1)) (pg_sub (pv 0) pe_int set_list))
  (pss_one (ps_ret (pv 2))))) pss_nil)
  (pss_cons (ps_set (i := 3) sc__law_draw.nd rfl (by first | exact .inl rfl | exact .inr rfl) (pe_ix ix_list (pe_ix ix_list (pv 0) pe_int (fun _ _ => rfl)) (pe_op op_mod (pe_callTy call_int1 (by rfl) m_int (by decide +kernel) (pa_cons (pe_ix ix_list (pv 0) pe_int (fun _ _ => rfl)) pa_nil)) (pe_callB call_len1 (by rfl) m_len (by decide +kernel) (pa_cons (pe_ix ix_list (pv 0) pe_int (fun _ _ => rfl)) pa_nil))) (fun _ _ => rfl)))
  (pss_cons (ps_set (i := 4) sc__law_draw.nd rfl (by first | exact .inl rfl | exact .inr rfl) (pe_op op_mod (pe_callTy call_int1 (by rfl) m_int (by decide +kernel) (pa_cons (pe_op op_add (pe_op op_add (pe_op op_mul (pv 3) pe_int) (pe_op op_mul (pe_ix ix_list (pv 0) pe_int (fun _ _ => rfl)) pe_int)) pe_int) pa_nil)) pe_int))
  (pss_one (ps_ret (pe_op op_mod (pe_op op_fdiv (pe_op op_mod (pe_callTy call_int1 (by rfl) m_int (by decide +kernel) (pa_cons (pe_op op_add (pe_op op_add (pe_op op_mul (pv 4) (pv 4)) (pe_op op_mul (pv 4) pe_int)) (pe_op op_mul (pe_ix ix_list (pv 0) pe_int (fun _ _ => rfl)) pe_int)) pa_nil)) pe_int) pe_int) (pv 1)))))))))
abbrev s__law_pick : Stmt := topS 31
abbrev n__law_pick : List Str := ["bag", "some"]
theorem sc__law_pick : FnScope n__law_pick ["bag", "some"] (defScope s__law_pick) := ⟨rfl, rfl, rfl, by decide +kernel, rfl, by decide +kernel, by decide +kernel⟩
theorem ok__law_pick {P : Program} {w : World} {K : PySem.W.Frag} {mg : Str → Option Value} {base : Heap} {f : Addr} {fd : FuncData} (F : Fun K "_law_pick" "_law_pick" s__law_pick f fd) (gf : mg "_law_pick" = some (.ref f)) (C__law_draw : Cal P w K mg base "_law_draw" 1 ["bag", "many"] (sp__law_draw K))  (m_len : mg "len" = none)  : Cal P w K mg base "_law_pick" 2 ["bag", "some"] (sp__law_pick K) := by
  refine ⟨f, fd, F.ok sc__law_pick len__law_pick (fun cdv A outer s H vs Q E hr h => ⟨t__law_pick K, PSs.nox ?_, pure__law_pick vs H Q E h⟩), F.kp, F.binds (fun _ _ _ _ _ _ us hl => match us, hl with | [_, _], _ => rfl), gf⟩
  exact (pss_one (ps_ret (pe_ix ix_any (pv 1) (pe_cal C__law_draw (hr.mono (by decide)) rfl (pa_cons (pv 0) (pa_cons (pe_callB call_len1 (by rfl) m_len (by decide +kernel) (pa_cons (pv 1) pa_nil)) pa_nil))) (fun _ _ => rfl))))
abbrev s__law_domain : Stmt := topS 34
abbrev n__law_domain : List Str := ["bag", "size", "way", "start", "first", "made", "k"]
theorem sc__law_domain : FnScope n__law_domain ["bag", "size"] (defScope s__law_domain) := ⟨rfl, rfl, rfl, by decide +kernel, rfl, by decide +kernel, by decide +kernel⟩
theorem ok__law_domain {P : Program} {w : World} {K : PySem.W.Frag} {mg : Str → Option Value} {base : Heap} {f : Addr} {fd : FuncData} (F : Fun K "_law_domain" "_law_domain" s__law_domain f fd) (gf : mg "_law_domain" = some (.ref f)) (C__law_draw : Cal P w K mg base "_law_draw" 1 ["bag", "many"] (sp__law_draw K)) (C__law_pick : Cal P w K mg base "_law_pick" 2 ["bag", "some"] (sp__law_pick K))  (m_range : mg "range" = none) (m_tuple : mg "tuple" = none)  : Cal P w K mg base "_law_domain" 3 ["bag", "size"] (sp__law_domain K) := by
  refine ⟨f, fd, F.ok sc__law_domain len__law_domain (fun cdv A outer s H vs Q E hr h => ⟨t__law_domain K, PSs.nox ?_, pure__law_domain vs H Q E h⟩), F.kp, F.binds (fun _ _ _ _ _ _ us hl => match us, hl with | [_, _], _ => rfl), gf⟩
  exact (pss_cons (ps_set (i := 2) sc__law_domain.nd rfl (by first | exact .inl rfl | exact .inr rfl) (pe_cal C__law_draw (hr.mono (by decide)) rfl (pa_cons (pv 0) (pa_cons pe_int pa_nil))))
  (pss_cons (ps_if (pt_cmpR op_lt (pv 2) pe_int (nomark _)) (pss_cons (ps_set (i := 3) sc__law_domain.nd rfl (by first | exact .inl rfl | exact .inr rfl) (pe_cal C__law_pick (hr.mono (by decide)) rfl (pa_cons (pv 0) (pa_cons (pe_lst (pa_cons pe_int (pa_cons pe_int (pa_cons pe_int (pa_cons pe_int (pa_cons (pe_un un_neg pe_int) (pa_cons (pe_un un_neg pe_int) pa_nil))))))) pa_nil))))
  (pss_one (ps_ret (pe_tupRg rfl (by rfl) m_tuple (prg_2 (by rfl) m_range (pv 3) (pe_op op_add (pv 3) (pv 1))))))) pss_nil)
  (pss_cons (ps_set (i := 4) sc__law_domain.nd rfl (by first | exact .inl rfl | exact .inr rfl) (pe_ix ix_list (pe_lst (pa_cons (pe_op op_sub (pe_cal C__law_draw (hr.mono (by decide)) rfl (pa_cons (pv 0) (pa_cons pe_int pa_nil))) pe_int) (pa_cons (pe_op op_sub (pe_cal C__law_draw (hr.mono (by decide)) rfl (pa_cons (pv 0) (pa_cons pe_int pa_nil))) pe_int) pa_nil))) (pe_op op_sub (pv 2) pe_int) (fun _ _ => rfl)))
  (pss_cons (ps_set (i := 5) sc__law_domain.nd rfl (by first | exact .inl rfl | exact .inr rfl) (pe_lst (pa_cons (pv 4) pa_nil)))
  (pss_cons (ps_for PassesOwn.never rfl (pi_range1 (by rfl) m_range (pa_cons (pe_op op_sub (pv 1) pe_int) pa_nil)) (pg_name (i := 6) sc__law_domain.nd rfl (by first | exact .inl rfl | exact .inr rfl))
  (pss_one (ps_expr (pe_bm PySem.F.plainAttrs_list PySem.F.slot_list_append PySem.F.type_list_append mt_append (pv 5) (pa_cons (pe_op op_add (pe_op op_add (pe_ix ix_list (pv 5) (pv 6) (fun _ _ => rfl)) pe_int) (pe_cal C__law_draw (hr.mono (by decide)) rfl (pa_cons (pv 0) (pa_cons (pe_ix ix_list (pe_lst (pa_cons pe_int (pa_cons pe_int pa_nil))) (pe_op op_sub (pv 2) pe_int) (fun _ _ => rfl)) pa_nil)))) pa_nil)))))
  (pss_one (ps_ret (pe_tupleOf (by rfl) m_tuple (pv 5)))))))))
abbrev s__law_edges : Stmt := topS 41
abbrev n__law_edges : List Str := ["model", "wishes", "names", "pair", "others", "one", "x", "y", "made", "n", "w", "p", "name", "many", "deep", "k"]
theorem sc__law_edges : FnScope n__law_edges ["model", "wishes"] (defScope s__law_edges) := ⟨rfl, rfl, rfl, by decide +kernel, rfl, by decide +kernel, by decide +kernel⟩
theorem ok__law_edges {P : Program} {w : World} {K : PySem.W.Frag} {mg : Str → Option Value} {base : Heap} {f : Addr} {fd : FuncData} (F : Fun K "_law_edges" "_law_edges" s__law_edges f fd) (gf : mg "_law_edges" = some (.ref f))   (m_range : mg "range" = none) (m_sorted : mg "sorted" = none) (m_tuple : mg "tuple" = none)  : Cal P w K mg base "_law_edges" 1 ["model", "wishes"] (sp__law_edges K) := by
  refine ⟨f, fd, F.ok sc__law_edges len__law_edges (fun cdv A outer s H vs Q E hr h => ⟨t__law_edges K, PSs.nox ?_, pure__law_edges vs H Q E h⟩), F.kp, F.binds (fun _ _ _ _ _ _ us hl => match us, hl with | [_, _], _ => rfl), gf⟩
  exact (pss_cons (ps_set (i := 2) sc__law_edges.nd rfl (by first | exact .inl rfl | exact .inr rfl) (pe_callB cr_sortedS (by rfl) m_sorted (by decide +kernel) (pa_cons (pe_lc (own := [("pair", 3)]) rfl sc__law_edges.nd (pi_tup (pe_ix ix_tup (pv 0) pe_int (fun _ _ => rfl))) (blkOk_by (own := [("pair", 3)]) (N := n__law_edges) (sc := defScope s__law_edges) (by decide +kernel)) (fun _ _ _ _ _ => (pg_name (i := 3) sc__law_edges.nd rfl (by first | exact .inl rfl | exact .inr rfl))) (fun _ _ _ _ _ => pts_nil) (fun _ _ _ _ _ => (pe_ix ix_tup (pv 3) pe_int (fun _ _ => rfl)))) pa_nil)))
  (pss_cons (ps_set (i := 4) sc__law_edges.nd rfl (by first | exact .inl rfl | exact .inr rfl) (pe_op op_cat (pe_op op_cat (pe_lc (own := [("one", 5)]) rfl sc__law_edges.nd (pi_tup (pe_ix ix_tup (pv 0) pe_int (fun _ _ => rfl))) (blkOk_by (own := [("one", 5)]) (N := n__law_edges) (sc := defScope s__law_edges) (by decide +kernel)) (fun _ _ _ _ _ => (pg_name (i := 5) sc__law_edges.nd rfl (by first | exact .inl rfl | exact .inr rfl))) (fun _ _ _ _ _ => pts_nil) (fun _ _ _ _ _ => (pe_ix ix_tup (pv 5) pe_int (fun _ _ => rfl)))) (pe_lc (own := [("one", 5)]) rfl sc__law_edges.nd (pi_tup (pe_ix ix_tup (pv 0) pe_int (fun _ _ => rfl))) (blkOk_by (own := [("one", 5)]) (N := n__law_edges) (sc := defScope s__law_edges) (by decide +kernel)) (fun _ _ _ _ _ => (pg_name (i := 5) sc__law_edges.nd rfl (by first | exact .inl rfl | exact .inr rfl))) (fun _ _ _ _ _ => pts_nil) (fun _ _ _ _ _ => (pe_ix ix_tup (pv 5) pe_int (fun _ _ => rfl))))) (pe_lst (pa_cons pe_str (pa_cons (pe_op op_addS (pe_ix ix_list (pv 2) pe_int (fun _ _ => rfl)) (pe_op op_repS pe_str pe_int)) pa_nil)))))
  (pss_cons (ps_asg (pe_tup (pa_cons (pe_ix ix_list (pv 2) pe_int (fun _ _ => rfl)) (pa_cons (pe_ix ix_list (pv 2) pe_int (fun _ _ => rfl)) pa_nil))) (pg_tup rfl (pgs_cons (pg_name (i := 6) sc__law_edges.nd rfl (by first | exact .inl rfl | exact .inr rfl)) (pgs_cons (pg_name (i := 7) sc__law_edges.nd rfl (by first | exact .inl rfl | exact .inr rfl)) pgs_nil))))
  (pss_cons (ps_set (i := 8) sc__law_edges.nd rfl (by first | exact .inl rfl | exact .inr rfl) (pe_lst (pa_cons (pe_tup pa_nil) (pa_cons (pe_op op_repW (pe_slice sl_tupA (pv 1) po_none (po_some pe_int)) pe_int) (pa_cons (pe_op op_repW (pe_slice sl_tupA (pv 1) po_none (po_some pe_int)) pe_int) (pa_cons (pe_ix ix_tup (pv 1) pe_int (fun _ _ => rfl)) (pa_cons pe_non (pa_cons pe_int (pa_cons pe_str (pa_cons pe_bl (pa_cons (pe_tup (pa_cons (pe_tup pa_nil) pa_nil)) (pa_cons (pe_tup (pa_cons (pv 1) pa_nil)) (pa_cons (pe_tup (pa_cons (pe_op op_catA (pe_ix ix_tup (pv 1) pe_int (fun _ _ => rfl)) (pe_tup (pa_cons pe_int pa_nil))) pa_nil)) (pa_cons (pe_tup (pa_cons (pe_slice sl_tupA (pe_ix ix_tup (pv 1) pe_int (fun _ _ => rfl)) po_none (po_some pe_int)) pa_nil)) pa_nil))))))))))))))
  (pss_cons (ps_set (i := 8) sc__law_edges.nd rfl (by first | exact .inl rfl | exact .inr rfl) (pe_op op_cat (pv 8) (pe_lc (own := [("n", 9)]) rfl sc__law_edges.nd (pi_list (pe_lst (pa_cons pe_int (pa_cons pe_int (pa_cons (pe_un un_neg pe_int) (pa_cons (pe_un un_neg pe_int) (pa_cons pe_bl (pa_cons pe_bl (pa_cons pe_non (pa_cons pe_str (pa_cons (pe_tup pa_nil) pa_nil))))))))))) (blkOk_by (own := [("n", 9)]) (N := n__law_edges) (sc := defScope s__law_edges) (by decide +kernel)) (fun _ _ _ _ _ => (pg_name (i := 9) sc__law_edges.nd rfl (by first | exact .inl rfl | exact .inr rfl))) (fun _ _ _ _ _ => pts_nil) (fun _ _ _ _ _ => (pe_tup (pa_cons (pe_tup (pa_cons (pv 9) (pa_cons (pe_tup pa_nil) (pa_cons pe_int pa_nil)))) pa_nil))))))
  (pss_cons (ps_set (i := 8) sc__law_edges.nd rfl (by first | exact .inl rfl | exact .inr rfl) (pe_op op_cat (pv 8) (pe_lc (own := [("w", 10)]) rfl sc__law_edges.nd (pi_list (pe_lst (pa_cons pe_int (pa_cons pe_int (pa_cons (pe_un un_neg pe_int) (pa_cons (pe_un un_neg pe_int) (pa_cons pe_int (pa_cons pe_int (pa_cons pe_bl (pa_cons pe_str (pa_cons pe_non (pa_cons (pe_tup (pa_cons pe_int pa_nil)) pa_nil)))))))))))) (blkOk_by (own := [("w", 10)]) (N := n__law_edges) (sc := defScope s__law_edges) (by decide +kernel)) (fun _ _ _ _ _ => (pg_name (i := 10) sc__law_edges.nd rfl (by first | exact .inl rfl | exact .inr rfl))) (fun _ _ _ _ _ => pts_nil) (fun _ _ _ _ _ => (pe_tup (pa_cons (pe_tup (pa_cons pe_int (pa_cons (pe_tup (pa_cons (pe_tup (pa_cons (pv 6) (pa_cons (pv 10) pa_nil))) pa_nil)) (pa_cons pe_int pa_nil)))) pa_nil))))))
  (pss_cons (ps_set (i := 8) sc__law_edges.nd rfl (by first | exact .inl rfl | exact .inr rfl) (pe_op op_cat (pv 8) (pe_lc (own := [("p", 11)]) rfl sc__law_edges.nd (pi_list (pe_lst (pa_cons pe_int (pa_cons pe_int (pa_cons pe_int (pa_cons (pe_un un_neg pe_int) (pa_cons pe_bl (pa_cons pe_bl (pa_cons pe_non (pa_cons pe_str pa_nil)))))))))) (blkOk_by (own := [("p", 11)]) (N := n__law_edges) (sc := defScope s__law_edges) (by decide +kernel)) (fun _ _ _ _ _ => (pg_name (i := 11) sc__law_edges.nd rfl (by first | exact .inl rfl | exact .inr rfl))) (fun _ _ _ _ _ => pts_nil) (fun _ _ _ _ _ => (pe_tup (pa_cons (pe_tup (pa_cons pe_int (pa_cons (pe_tup pa_nil) (pa_cons (pv 11) pa_nil)))) pa_nil))))))
  (pss_cons (ps_set (i := 8) sc__law_edges.nd rfl (by first | exact .inl rfl | exact .inr rfl) (pe_op op_cat (pv 8) (pe_lst (pa_cons (pe_tup (pa_cons (pe_tup (pa_cons pe_int (pa_cons (pe_tup (pa_cons (pe_tup (pa_cons (pv 6) (pa_cons pe_int pa_nil))) (pa_cons (pe_tup (pa_cons (pv 7) (pa_cons pe_int pa_nil))) pa_nil))) (pa_cons pe_int pa_nil)))) pa_nil)) (pa_cons (pe_tup (pa_cons (pe_tup (pa_cons pe_int (pa_cons (pe_tup (pa_cons (pe_tup (pa_cons (pv 7) (pa_cons pe_int pa_nil))) (pa_cons (pe_tup (pa_cons (pv 6) (pa_cons pe_int pa_nil))) pa_nil))) (pa_cons pe_int pa_nil)))) pa_nil)) (pa_cons (pe_tup (pa_cons (pe_tup (pa_cons pe_int (pa_cons (pe_tup (pa_cons (pe_tup (pa_cons (pv 6) (pa_cons pe_int pa_nil))) (pa_cons (pe_tup (pa_cons (pv 6) (pa_cons pe_int pa_nil))) pa_nil))) (pa_cons pe_int pa_nil)))) pa_nil)) pa_nil))))))
  (pss_cons (ps_set (i := 8) sc__law_edges.nd rfl (by first | exact .inl rfl | exact .inr rfl) (pe_op op_cat (pv 8) (pe_lst (pa_cons (pe_tup (pa_cons (pe_tup (pa_cons pe_int (pa_cons (pe_tup (pa_cons (pe_tup (pa_cons (pv 6) (pa_cons pe_int (pa_cons pe_int pa_nil)))) pa_nil)) (pa_cons pe_int pa_nil)))) pa_nil)) (pa_cons (pe_tup (pa_cons (pe_tup (pa_cons pe_int (pa_cons (pe_tup (pa_cons (pe_tup (pa_cons (pv 6) pa_nil)) pa_nil)) (pa_cons pe_int pa_nil)))) pa_nil)) (pa_cons (pe_tup (pa_cons (pe_tup (pa_cons pe_int (pa_cons (pe_tup (pa_cons (pv 6) (pa_cons pe_int pa_nil))) (pa_cons pe_int pa_nil)))) pa_nil)) (pa_cons (pe_tup (pa_cons (pe_tup (pa_cons pe_int (pa_cons pe_non (pa_cons pe_int pa_nil)))) pa_nil)) (pa_cons (pe_tup (pa_cons (pe_tup (pa_cons pe_int (pa_cons pe_str (pa_cons pe_int pa_nil)))) pa_nil)) (pa_cons (pe_tup (pa_cons (pe_tup (pa_cons pe_int (pa_cons (pe_tup (pa_cons (pe_tup (pa_cons pe_int (pa_cons pe_int pa_nil))) pa_nil)) (pa_cons pe_int pa_nil)))) pa_nil)) pa_nil)))))))))
  (pss_cons (ps_set (i := 8) sc__law_edges.nd rfl (by first | exact .inl rfl | exact .inr rfl) (pe_op op_cat (pv 8) (pe_lc (own := [("name", 12)]) rfl sc__law_edges.nd (pi_list (pv 4)) (blkOk_by (own := [("name", 12)]) (N := n__law_edges) (sc := defScope s__law_edges) (by decide +kernel)) (fun _ _ _ _ _ => (pg_name (i := 12) sc__law_edges.nd rfl (by first | exact .inl rfl | exact .inr rfl))) (fun _ _ _ _ _ => pts_nil) (fun _ _ _ _ _ => (pe_tup (pa_cons (pe_tup (pa_cons pe_int (pa_cons (pe_tup (pa_cons (pe_tup (pa_cons (pv 12) (pa_cons pe_int pa_nil))) pa_nil)) (pa_cons pe_int pa_nil)))) pa_nil))))))
  (pss_cons (ps_for PassesOwn.never rfl (pi_list (pe_lst (pa_cons pe_int (pa_cons pe_int (pa_cons pe_int (pa_cons pe_int pa_nil)))))) (pg_name (i := 13) sc__law_edges.nd rfl (by first | exact .inl rfl | exact .inr rfl))
  (pss_one (ps_expr (pe_bm PySem.F.plainAttrs_list PySem.F.slot_list_append PySem.F.type_list_append mt_append (pv 8) (pa_cons (pe_tup (pa_cons (pe_tup (pa_cons pe_int (pa_cons (pe_tupleOf (by rfl) m_tuple (pe_lc (own := [("name", 12)]) rfl sc__law_edges.nd (pi_list (pe_slice sl_list (pv 2) po_none (po_some (pv 13)))) (blkOk_by (own := [("name", 12)]) (N := n__law_edges) (sc := defScope s__law_edges) (by decide +kernel)) (fun _ _ _ _ _ => (pg_name (i := 12) sc__law_edges.nd rfl (by first | exact .inl rfl | exact .inr rfl))) (fun _ _ _ _ _ => pts_nil) (fun _ _ _ _ _ => (pe_tup (pa_cons (pv 12) (pa_cons pe_int pa_nil)))))) (pa_cons pe_int pa_nil)))) pa_nil)) pa_nil)))))
  (pss_cons (ps_set (i := 14) sc__law_edges.nd rfl (by first | exact .inl rfl | exact .inr rfl) (pe_tup pa_nil))
  (pss_cons (ps_for PassesOwn.never rfl (pi_range1 (by rfl) m_range (pa_cons pe_int pa_nil)) (pg_name (i := 15) sc__law_edges.nd rfl (by first | exact .inl rfl | exact .inr rfl))
  (pss_one (ps_set (i := 14) sc__law_edges.nd rfl (by first | exact .inl rfl | exact .inr rfl) (pe_tup (pa_cons (pv 14) pa_nil)))))
  (pss_cons (ps_set (i := 8) sc__law_edges.nd rfl (by first | exact .inl rfl | exact .inr rfl) (pe_op op_cat (pv 8) (pe_lst (pa_cons (pv 14) (pa_cons (pe_op op_repW (pe_tup (pa_cons (pe_tup (pa_cons pe_int (pa_cons (pe_tup pa_nil) (pa_cons pe_int pa_nil)))) pa_nil)) pe_int) (pa_cons (pe_tup (pa_cons (pe_tup (pa_cons pe_int (pa_cons (pe_op op_repW (pe_tup (pa_cons (pe_tup (pa_cons (pv 6) (pa_cons pe_int pa_nil))) pa_nil)) pe_int) (pa_cons pe_int pa_nil)))) pa_nil)) (pa_cons (pe_op op_repS pe_str pe_int) pa_nil)))))))
  (pss_one (ps_ret (pe_op op_cat (pv 8) (pe_lst (pa_cons (pe_tup (pa_cons (pe_ix ix_tup (pv 1) pe_int (fun _ _ => rfl)) (pa_cons (pe_tup (pa_cons pe_int (pa_cons (pe_tup pa_nil) (pa_cons pe_int pa_nil)))) pa_nil))) (pa_cons (pe_tup (pa_cons (pe_tup (pa_cons pe_int (pa_cons (pe_tup pa_nil) (pa_cons pe_int pa_nil)))) (pa_cons (pe_ix ix_tup (pv 1) pe_int (fun _ _ => rfl)) pa_nil))) (pa_cons (pe_tup (pa_cons (pe_ix ix_tup (pv 1) pe_int (fun _ _ => rfl)) (pa_cons (pe_ix ix_tup (pv 1) pe_int (fun _ _ => rfl)) (pa_cons (pe_tup (pa_cons pe_int (pa_cons (pe_tup (pa_cons (pe_tup (pa_cons (pv 7) (pa_cons pe_int pa_nil))) pa_nil)) (pa_cons pe_int pa_nil)))) pa_nil)))) pa_nil)))))))))))))))))))))
abbrev s__law_is_int : Stmt := topS 36
abbrev n__law_is_int : List Str := ["value", "low", "high"]
theorem sc__law_is_int : FnScope n__law_is_int ["value", "low", "high"] (defScope s__law_is_int) := ⟨rfl, rfl, rfl, by decide +kernel, rfl, by decide +kernel, by decide +kernel⟩
theorem ok__law_is_int {P : Program} {w : World} {K : PySem.W.Frag} {mg : Str → Option Value} {base : Heap} {f : Addr} {fd : FuncData} (F : Fun K "_law_is_int" "_law_is_int" s__law_is_int f fd) (gf : mg "_law_is_int" = some (.ref f))   (m_bool : mg "bool" = none) (m_int : mg "int" = none) (m_isinstance : mg "isinstance" = none)  : Cal P w K mg base "_law_is_int" 1 ["value", "low", "high"] (sp__law_is_int K) := by
  refine ⟨f, fd, F.ok sc__law_is_int len__law_is_int (fun cdv A outer s H vs Q E hr h => ⟨t__law_is_int K, PSs.nox ?_, pure__law_is_int vs H Q E h⟩), F.kp, F.binds (fun _ _ _ _ _ _ us hl => match us, hl with | [_, _, _], _ => rfl), gf⟩
  exact (pss_one (ps_ret (pe_and (pe_callB call_isi (by rfl) m_isinstance (by decide +kernel) (pa_cons (pv 0) (pa_cons (pe_bltn (by rfl) m_int (by decide +kernel) rfl) pa_nil))) (pe_and (pe_not (pe_callB call_isi (by rfl) m_isinstance (by decide +kernel) (pa_cons (pv 0) (pa_cons (pe_bltn (by rfl) m_bool (by decide +kernel) rfl) pa_nil)))) (pe_one (pe_chain op_le op_le (pv 1) (pv 0) (pv 2)))))))
abbrev s__law_is_wish : Stmt := topS 37
abbrev n__law_is_wish : List Str := ["names", "value", "before", "pair"]
theorem sc__law_is_wish : FnScope n__law_is_wish ["names", "value"] (defScope s__law_is_wish) := ⟨rfl, rfl, rfl, by decide +kernel, rfl, by decide +kernel, by decide +kernel⟩
theorem ok__law_is_wish {P : Program} {w : World} {K : PySem.W.Frag} {mg : Str → Option Value} {base : Heap} {f : Addr} {fd : FuncData} (F : Fun K "_law_is_wish" "_law_is_wish" s__law_is_wish f fd) (gf : mg "_law_is_wish" = some (.ref f)) (C__law_is_int : Cal P w K mg base "_law_is_int" 1 ["value", "low", "high"] (sp__law_is_int K))  (m_isinstance : mg "isinstance" = none) (m_len : mg "len" = none) (m_str : mg "str" = none) (m_tuple : mg "tuple" = none)  : Cal P w K mg base "_law_is_wish" 2 ["names", "value"] (sp__law_is_wish K) := by
  refine ⟨f, fd, F.ok sc__law_is_wish len__law_is_wish (fun cdv A outer s H vs Q E hr h => ⟨t__law_is_wish K, PSs.nox ?_, pure__law_is_wish vs H Q E h⟩), F.kp, F.binds (fun _ _ _ _ _ _ us hl => match us, hl with | [_, _], _ => rfl), gf⟩
  exact (pss_cons (ps_if (PW.pt (pw_or (pt_not (pt_val (pe_callB call_isi (by rfl) m_isinstance (by decide +kernel) (pa_cons (pv 1) (pa_cons (pe_bltn (by rfl) m_tuple (by decide +kernel) rfl) pa_nil))))) (pw_or (pt_cmpR op_ne (pe_callB call_len1 (by rfl) m_len (by decide +kernel) (pa_cons (pv 1) pa_nil)) pe_int (nomark _)) (pw_or1 (pt_not (pt_val (pe_cal C__law_is_int (hr.mono (by decide)) rfl (pa_cons (pe_ix ix_tup (pv 1) pe_int (fun _ _ => rfl)) (pa_cons (pe_un un_neg pe_int) (pa_cons pe_int pa_nil)))))))))) (pss_one (ps_ret pe_bl)) pss_nil)
  (pss_cons (ps_if (PW.pt (pw_or (pt_not (pt_val (pe_callB call_isi (by rfl) m_isinstance (by decide +kernel) (pa_cons (pe_ix ix_tup (pv 1) pe_int (fun _ _ => rfl)) (pa_cons (pe_bltn (by rfl) m_tuple (by decide +kernel) rfl) pa_nil))))) (pw_or (pt_cmpR op_gt (pe_callB call_len1 (by rfl) m_len (by decide +kernel) (pa_cons (pe_ix ix_tup (pv 1) pe_int (fun _ _ => rfl)) pa_nil)) pe_int (nomark _)) (pw_or1 (pt_not (pt_val (pe_cal C__law_is_int (hr.mono (by decide)) rfl (pa_cons (pe_ix ix_tup (pv 1) pe_int (fun _ _ => rfl)) (pa_cons pe_int (pa_cons pe_int pa_nil)))))))))) (pss_one (ps_ret pe_bl)) pss_nil)
  (pss_cons (ps_set (i := 2) sc__law_is_wish.nd rfl (by first | exact .inl rfl | exact .inr rfl) pe_str)
  (pss_cons (ps_for PassesOwn.never rfl (pi_tup (pe_ix ix_tup (pv 1) pe_int (fun _ _ => rfl))) (pg_name (i := 3) sc__law_is_wish.nd rfl (by first | exact .inl rfl | exact .inr rfl))
  (pss_cons (ps_if (PW.pt (pw_or (pt_not (pt_val (pe_callB call_isi (by rfl) m_isinstance (by decide +kernel) (pa_cons (pv 3) (pa_cons (pe_bltn (by rfl) m_tuple (by decide +kernel) rfl) pa_nil))))) (pw_or (pt_cmpR op_ne (pe_callB call_len1 (by rfl) m_len (by decide +kernel) (pa_cons (pv 3) pa_nil)) pe_int (nomark _)) (pw_or (pt_not (pt_val (pe_callB call_isi (by rfl) m_isinstance (by decide +kernel) (pa_cons (pe_ix ix_tup (pv 3) pe_int (fun _ _ => rfl)) (pa_cons (pe_bltn (by rfl) m_str (by decide +kernel) rfl) pa_nil))))) (pw_or1 (pt_cmpR op_notIn_seq (pe_ix ix_tup (pv 3) pe_int (fun _ _ => rfl)) (pv 0) (by rfl))))))) (pss_one (ps_ret pe_bl)) pss_nil)
  (pss_cons (ps_if (PW.pt (pw_or (pt_not (pt_cmpR op_ltS (pv 2) (pe_ix ix_tup (pv 3) pe_int (fun _ _ => rfl)) (nomark _))) (pw_or (pt_not (pt_val (pe_cal C__law_is_int (hr.mono (by decide)) rfl (pa_cons (pe_ix ix_tup (pv 3) pe_int (fun _ _ => rfl)) (pa_cons (pe_un un_neg pe_int) (pa_cons pe_int pa_nil)))))) (pw_or1 (pt_cmpR op_eq (pe_ix ix_tup (pv 3) pe_int (fun _ _ => rfl)) pe_int (nomark _)))))) (pss_one (ps_ret pe_bl)) pss_nil)
  (pss_one (ps_set (i := 2) sc__law_is_wish.nd rfl (by first | exact .inl rfl | exact .inr rfl) (pe_ix ix_tup (pv 3) pe_int (fun _ _ => rfl)))))))
  (pss_one (ps_ret pe_bl))))))
abbrev s__law_is_right : Stmt := topS 38
abbrev n__law_is_right : List Str := ["model", "value", "names", "pair", "one"]
theorem sc__law_is_right : FnScope n__law_is_right ["model", "value"] (defScope s__law_is_right) := ⟨rfl, rfl, rfl, by decide +kernel, rfl, by decide +kernel, by decide +kernel⟩
theorem ok__law_is_right {P : Program} {w : World} {K : PySem.W.Frag} {mg : Str → Option Value} {base : Heap} {f : Addr} {fd : FuncData} (F : Fun K "_law_is_right" "_law_is_right" s__law_is_right f fd) (gf : mg "_law_is_right" = some (.ref f)) (C__law_is_wish : Cal P w K mg base "_law_is_wish" 2 ["names", "value"] (sp__law_is_wish K))  (m_isinstance : mg "isinstance" = none) (m_len : mg "len" = none) (m_tuple : mg "tuple" = none)  : Cal P w K mg base "_law_is_right" 3 ["model", "value"] (sp__law_is_right K) := by
  refine ⟨f, fd, F.ok sc__law_is_right len__law_is_right (fun cdv A outer s H vs Q E hr h => ⟨t__law_is_right K, PSs.nox ?_, pure__law_is_right vs H Q E h⟩), F.kp, F.binds (fun _ _ _ _ _ _ us hl => match us, hl with | [_, _], _ => rfl), gf⟩
  exact (pss_cons (ps_if (PW.pt (pw_or (pt_not (pt_val (pe_callB call_isi (by rfl) m_isinstance (by decide +kernel) (pa_cons (pv 1) (pa_cons (pe_bltn (by rfl) m_tuple (by decide +kernel) rfl) pa_nil))))) (pw_or1 (pt_not (pt_chain op_le op_le pe_int (pe_callB call_len1 (by rfl) m_len (by decide +kernel) (pa_cons (pv 1) pa_nil)) pe_int))))) (pss_one (ps_ret pe_bl)) pss_nil)
  (pss_cons (ps_set (i := 2) sc__law_is_right.nd rfl (by first | exact .inl rfl | exact .inr rfl) (pe_lc (own := [("pair", 3)]) rfl sc__law_is_right.nd (pi_tup (pe_ix ix_tup (pv 0) pe_int (fun _ _ => rfl))) (blkOk_by (own := [("pair", 3)]) (N := n__law_is_right) (sc := defScope s__law_is_right) (by decide +kernel)) (fun _ _ _ _ _ => (pg_name (i := 3) sc__law_is_right.nd rfl (by first | exact .inl rfl | exact .inr rfl))) (fun _ _ _ _ _ => pts_nil) (fun _ _ _ _ _ => (pe_ix ix_tup (pv 3) pe_int (fun _ _ => rfl)))))
  (pss_one (ps_ret (pe_cmpR (op_eqD (units64 hr)) (pe_lc (own := [("one", 4)]) rfl sc__law_is_right.nd (pi_tup (pv 1)) (blkOk_by (own := [("one", 4)]) (N := n__law_is_right) (sc := defScope s__law_is_right) (by decide +kernel)) (fun _ _ _ _ _ => (pg_name (i := 4) sc__law_is_right.nd rfl (by first | exact .inl rfl | exact .inr rfl))) (fun _ _ _ _ _ => (pts_one (pt_not (pt_val (pe_cal C__law_is_wish (hr.mono (by decide)) rfl (pa_cons (pv 2) (pa_cons (pv 4) pa_nil))))))) (fun _ _ _ _ _ => (pv 4))) (pe_lst pa_nil) (nomark _))))))
abbrev s__law_some : Stmt := topS 32
abbrev n__law_some : List Str := ["bag", "things", "many", "left", "made", "k"]
theorem sc__law_some : FnScope n__law_some ["bag", "things", "many"] (defScope s__law_some) := ⟨rfl, rfl, rfl, by decide +kernel, rfl, by decide +kernel, by decide +kernel⟩
theorem ok__law_some {P : Program} {w : World} {K : PySem.W.Frag} {mg : Str → Option Value} {base : Heap} {f : Addr} {fd : FuncData} (F : Fun K "_law_some" "_law_some" s__law_some f fd) (gf : mg "_law_some" = some (.ref f)) (C__law_draw : Cal P w K mg base "_law_draw" 1 ["bag", "many"] (sp__law_draw K))  (m_len : mg "len" = none) (m_list : mg "list" = none) (m_range : mg "range" = none)  : Cal P w K mg base "_law_some" 2 ["bag", "things", "many"] (sp__law_some K) := by
  refine ⟨f, fd, F.ok sc__law_some len__law_some (fun cdv A outer s H vs Q E hr h => ⟨t__law_some K, PSs.nox ?_, pure__law_some vs H Q E h⟩), F.kp, F.binds (fun _ _ _ _ _ _ us hl => match us, hl with | [_, _, _], _ => rfl), gf⟩
  exact (pss_cons (ps_set (i := 3) sc__law_some.nd rfl (by first | exact .inl rfl | exact .inr rfl) (pe_callTy (call_listOfA rfl) (by rfl) m_list (by decide +kernel) (pa_cons (pv 1) pa_nil)))
  (pss_cons (ps_set (i := 4) sc__law_some.nd rfl (by first | exact .inl rfl | exact .inr rfl) (pe_lst pa_nil))
  (pss_cons (ps_for PassesOwn.never rfl (pi_range1 (by rfl) m_range (pa_cons (pv 2) pa_nil)) (pg_name (i := 5) sc__law_some.nd rfl (by first | exact .inl rfl | exact .inr rfl))
  (pss_one (ps_expr (pe_bm PySem.F.plainAttrs_list PySem.F.slot_list_append PySem.F.type_list_append mt_append (pv 4) (pa_cons (pe_bm PySem.F.plainAttrs_list PySem.F.slot_list_pop PySem.F.type_list_pop mt_popAt (pv 3) (pa_cons (pe_cal C__law_draw (hr.mono (by decide)) rfl (pa_cons (pv 0) (pa_cons (pe_callB call_len1 (by rfl) m_len (by decide +kernel) (pa_cons (pv 3) pa_nil)) pa_nil))) pa_nil)) pa_nil)))))
  (pss_one (ps_ret (pv 4))))))
abbrev s__law_names : Stmt := topS 33
abbrev n__law_names : List Str := ["bag", "many", "signs", "size", "at", "first", "k", "row", "alike", "made", "one", "name", "j"]
theorem sc__law_names : FnScope n__law_names ["bag", "many"] (defScope s__law_names) := ⟨rfl, rfl, rfl, by decide +kernel, rfl, by decide +kernel, by decide +kernel⟩
theorem ok__law_names {P : Program} {w : World} {K : PySem.W.Frag} {mg : Str → Option Value} {base : Heap} {f : Addr} {fd : FuncData} (F : Fun K "_law_names" "_law_names" s__law_names f fd) (gf : mg "_law_names" = some (.ref f)) (C__law_draw : Cal P w K mg base "_law_draw" 1 ["bag", "many"] (sp__law_draw K)) (C__law_pick : Cal P w K mg base "_law_pick" 2 ["bag", "some"] (sp__law_pick K)) (C__law_some : Cal P w K mg base "_law_some" 2 ["bag", "things", "many"] (sp__law_some K))  (m_int : mg "int" = none) (m_list : mg "list" = none) (m_range : mg "range" = none) (m_str : mg "str" = none)  : Cal P w K mg base "_law_names" 3 ["bag", "many"] (sp__law_names K) := by
  refine ⟨f, fd, F.ok sc__law_names len__law_names (fun cdv A outer s H vs Q E hr h => ⟨t__law_names K, PSs.nox ?_, pure__law_names vs H Q E h⟩), F.kp, F.binds (fun _ _ _ _ _ _ us hl => match us, hl with | [_, _], _ => rfl), gf⟩
  exact (pss_cons (ps_set (i := 2) sc__law_names.nd rfl (by first | exact .inl rfl | exact .inr rfl) pe_str)
  (pss_cons (ps_set (i := 3) sc__law_names.nd rfl (by first | exact .inl rfl | exact .inr rfl) (pe_cal C__law_pick (hr.mono (by decide)) rfl (pa_cons (pv 0) (pa_cons (pe_lst (pa_cons pe_int (pa_cons pe_int (pa_cons pe_int (pa_cons pe_int (pa_cons pe_int (pa_cons pe_int pa_nil))))))) pa_nil))))
  (pss_cons (ps_set (i := 4) sc__law_names.nd rfl (by first | exact .inl rfl | exact .inr rfl) (pe_cal C__law_draw (hr.mono (by decide)) rfl (pa_cons (pv 0) (pa_cons (pv 3) pa_nil))))
  (pss_cons (ps_setLc (i := 5) (own := [("k", 6)]) rfl sc__law_names.nd rfl rfl (sw_true rfl rfl rfl (by decide +kernel)) (pi_range1 (by rfl) m_range (pa_cons (pv 3) pa_nil)) (blkOk_by (own := [("k", 6)]) (N := n__law_names) (sc := defScope s__law_names) (by decide +kernel)) (fun _ _ _ _ _ => (pg_name (i := 6) sc__law_names.nd rfl (by first | exact .inl rfl | exact .inr rfl))) (fun _ _ _ _ _ => pts_nil) (fun _ _ _ _ _ => (pe_ix ix_str (pv 2) (pe_cal C__law_draw (hr.mono (by decide)) rfl (pa_cons (pv 0) (pa_cons pe_int pa_nil))) (fun _ _ => rfl))))
  (pss_cons (ps_set (i := 7) sc__law_names.nd rfl (by first | exact .inl rfl | exact .inr rfl) (pe_cal C__law_some (hr.mono (by decide)) rfl (pa_cons (pv 0) (pa_cons (pv 2) (pa_cons pe_int pa_nil)))))
  (pss_cons (ps_set (i := 8) sc__law_names.nd rfl (by first | exact .inl rfl | exact .inr rfl) (pe_cmpR op_eq (pe_cal C__law_draw (hr.mono (by decide)) rfl (pa_cons (pv 0) (pa_cons pe_int pa_nil))) pe_int (nomark _)))
  (pss_cons (ps_set (i := 9) sc__law_names.nd rfl (by first | exact .inl rfl | exact .inr rfl) (pe_lst pa_nil))
  (pss_cons (ps_for PassesOwn.never rfl (pi_range1 (by rfl) m_range (pa_cons (pv 1) pa_nil)) (pg_name (i := 6) sc__law_names.nd rfl (by first | exact .inl rfl | exact .inr rfl))
  (pss_cons (ps_set (i := 10) sc__law_names.nd rfl (by first | exact .inl rfl | exact .inr rfl) (pe_callTy call_listOf (by rfl) m_list (by decide +kernel) (pa_cons (pv 5) pa_nil)))
  (pss_cons (ps_asg (pe_ix ix_list (pv 7) (pe_op op_mod (pe_callTy call_int1 (by rfl) m_int (by decide +kernel) (pa_cons (pv 6) pa_nil)) pe_int) (fun _ _ => rfl)) (pg_sub (pv 10) (pv 4) set_list))
  (pss_cons (ps_set (i := 11) sc__law_names.nd rfl (by first | exact .inl rfl | exact .inr rfl) (pe_joinK pe_str (pv 10)))
  (pss_cons (ps_if (PW.pt (pw_or (pt_cmpR op_gt (pv 6) pe_int (nomark _)) (pw_or1 (pt_not (pt_val (pv 8)))))) (pss_one (ps_set (i := 11) sc__law_names.nd rfl (by first | exact .inl rfl | exact .inr rfl) (pe_slice sl_str (pe_op op_addS (pe_joinK pe_str (pe_lc (own := [("j", 12)]) rfl sc__law_names.nd (pi_range1 (by rfl) m_range (pa_cons (pe_cal C__law_draw (hr.mono (by decide)) rfl (pa_cons (pv 0) (pa_cons pe_int pa_nil))) pa_nil)) (blkOk_by (own := [("j", 12)]) (N := n__law_names) (sc := defScope s__law_names) (by decide +kernel)) (fun _ _ _ _ _ => (pg_name (i := 12) sc__law_names.nd rfl (by first | exact .inl rfl | exact .inr rfl))) (fun _ _ _ _ _ => pts_nil) (fun _ _ _ _ _ => (pe_ix ix_str (pv 2) (pe_cal C__law_draw (hr.mono (by decide)) rfl (pa_cons (pv 0) (pa_cons pe_int pa_nil))) (fun _ _ => rfl))))) (pv 11)) (po_some (pe_un un_neg pe_int)) po_none))) pss_nil)
  (pss_cons (ps_for PassesOwn.never rfl (pi_range1 (by rfl) m_range (pa_cons pe_int pa_nil)) (pg_name (i := 12) sc__law_names.nd rfl (by first | exact .inl rfl | exact .inr rfl))
  (pss_cons (ps_if (pt_cmpR op_notIn_seq (pv 11) (pv 9) (by rfl)) (pss_one ps_break) pss_nil)
  (pss_one (ps_set (i := 11) sc__law_names.nd rfl (by first | exact .inl rfl | exact .inr rfl) (pe_op op_addS pe_str (pe_callTy call_str_int (by rfl) m_str (by decide +kernel) (pa_cons (pv 12) pa_nil)))))))
  (pss_one (ps_expr (pe_bm PySem.F.plainAttrs_list PySem.F.slot_list_append PySem.F.type_list_append mt_append (pv 9) (pa_cons (pv 11) pa_nil))))))))))
  (pss_one (ps_ret (pv 9)))))))))))
abbrev s__law_spoilt : Stmt := topS 35
abbrev n__law_spoilt : List Str := ["bag", "value", "deep", "at", "made", "near"]
theorem sc__law_spoilt : FnScope n__law_spoilt ["bag", "value", "deep"] (defScope s__law_spoilt) := ⟨rfl, rfl, rfl, by decide +kernel, rfl, by decide +kernel, by decide +kernel⟩
theorem ok__law_spoilt_step (m : Nat) {P : Program} {w : World} {K : PySem.W.Frag} {mg : Str → Option Value} {base : Heap} {f : Addr} {fd : FuncData} (F : Fun K "_law_spoilt" "_law_spoilt" s__law_spoilt f fd) (gf : mg "_law_spoilt" = some (.ref f)) (C__law_draw : Cal P w K mg base "_law_draw" 1 ["bag", "many"] (sp__law_draw K)) (C__law_pick : Cal P w K mg base "_law_pick" 2 ["bag", "some"] (sp__law_pick K)) (m_abs : mg "abs" = none) (m_bool : mg "bool" = none) (m_isinstance : mg "isinstance" = none) (m_len : mg "len" = none) (m_str : mg "str" = none) (m_tuple : mg "tuple" = none)  (C__law_spoilt : Cal P w K mg base "_law_spoilt" (3 + m) ["bag", "value", "deep"] (sp__law_spoilt K m)) : Cal P w K mg base "_law_spoilt" (3 + m + 1) ["bag", "value", "deep"] (sp__law_spoilt K (m + 1)) := by
  refine ⟨f, fd, F.ok (k := 3 + m) sc__law_spoilt len__law_spoilt (fun cdv A outer s H vs Q E hr h => ⟨t__law_spoilt K m, PSs.nox ?_, pure__law_spoilt vs H Q E h⟩), F.kp, F.binds (fun _ _ _ _ _ _ us hl => match us, hl with | [_, _, _], _ => rfl), gf⟩
  exact (pss_cons (ps_if (pt_val (pe_callB call_isi (by rfl) m_isinstance (by decide +kernel) (pa_cons (pv 1) (pa_cons (pe_bltn (by rfl) m_tuple (by decide +kernel) rfl) pa_nil)))) (pss_cons (ps_if (PW.pt (pw_and (pt_cmpR (op_neD (units64 hr)) (pv 1) (pe_tup pa_nil) (nomark _)) (pw_and (pt_cmpR op_gt (pv 2) pe_int (nomark _)) (pw_and1 (pt_cmpR op_gt (pe_cal C__law_draw (hr.mono (by omega)) rfl (pa_cons (pv 0) (pa_cons pe_int pa_nil))) pe_int (nomark _)))))) (pss_cons (ps_set (i := 3) sc__law_spoilt.nd rfl (by first | exact .inl rfl | exact .inr rfl) (pe_cal C__law_draw (hr.mono (by omega)) rfl (pa_cons (pv 0) (pa_cons (pe_callB call_len1 (by rfl) m_len (by decide +kernel) (pa_cons (pv 1) pa_nil)) pa_nil))))
  (pss_one (ps_ret (pe_op op_catA (pe_op op_catA (pe_slice sl_any (pv 1) po_none (po_some (pv 3))) (pe_tup (pa_cons (pe_cal C__law_spoilt (hr.mono (by omega)) rfl (pa_cons (pv 0) (pa_cons (pe_ix ix_any (pv 1) (pv 3) (fun _ _ => rfl)) (pa_cons (pe_op op_sub (pv 2) pe_int) pa_nil)))) pa_nil))) (pe_slice sl_any (pv 1) (po_some (pe_op op_add (pv 3) pe_int)) po_none))))) pss_nil)
  (pss_cons (ps_set (i := 3) sc__law_spoilt.nd rfl (by first | exact .inl rfl | exact .inr rfl) (pe_cal C__law_draw (hr.mono (by omega)) rfl (pa_cons (pv 0) (pa_cons (pe_op op_add (pe_callB call_len1 (by rfl) m_len (by decide +kernel) (pa_cons (pv 1) pa_nil)) pe_int) pa_nil))))
  (pss_cons (ps_set (i := 4) sc__law_spoilt.nd rfl (by first | exact .inl rfl | exact .inr rfl) (pe_lst (pa_cons (pe_op op_catA (pv 1) (pe_slice sl_any (pv 1) po_none (po_some pe_int))) (pa_cons (pe_op op_catA (pe_slice sl_any (pv 1) po_none (po_some (pv 3))) (pe_slice sl_any (pv 1) (po_some (pe_op op_add (pv 3) pe_int)) po_none)) (pa_cons (pe_op op_catA (pe_op op_catA (pe_slice sl_any (pv 1) po_none (po_some (pv 3))) (pe_slice sl_any (pv 1) (po_some (pv 3)) (po_some (pe_op op_add (pv 3) pe_int)))) (pe_slice sl_any (pv 1) (po_some (pv 3)) po_none)) (pa_cons (pe_revT (pv 1)) (pa_cons (pe_op op_catA (pv 1) (pe_tup (pa_cons (pe_tup pa_nil) pa_nil))) pa_nil)))))))
  (pss_one (ps_ret (pe_cal C__law_pick (hr.mono (by omega)) rfl (pa_cons (pv 0) (pa_cons (pe_op op_cat (pv 4) (pe_lst (pa_cons (pe_op op_catA (pe_op op_catA (pe_slice sl_any (pv 1) po_none (po_some (pv 3))) (pe_tup (pa_cons pe_int pa_nil))) (pe_slice sl_any (pv 1) (po_some (pv 3)) po_none)) (pa_cons (pe_op op_catA (pe_slice sl_any (pv 1) (po_some pe_int) po_none) (pe_slice sl_any (pv 1) po_none (po_some pe_int))) (pa_cons pe_non (pa_cons (pe_tup (pa_cons (pv 1) pa_nil)) (pa_cons (pe_slice sl_any (pv 1) po_none (po_some (pe_un un_neg pe_int))) pa_nil))))))) pa_nil)))))))) pss_nil)
  (pss_cons (ps_if (PW.pt (pw_or (pt_val (pe_callB call_isi (by rfl) m_isinstance (by decide +kernel) (pa_cons (pv 1) (pa_cons (pe_bltn (by rfl) m_bool (by decide +kernel) rfl) pa_nil)))) (pw_or1 (pt_cmpR op_isN1 (pv 1) pe_non (nomark _))))) (pss_one (ps_ret (pe_cal C__law_pick (hr.mono (by omega)) rfl (pa_cons (pv 0) (pa_cons (pe_lst (pa_cons pe_bl (pa_cons pe_bl (pa_cons pe_int (pa_cons pe_int (pa_cons pe_non (pa_cons (pe_tup pa_nil) pa_nil))))))) pa_nil))))) pss_nil)
  (pss_cons (ps_if (pt_val (pe_callB call_isi (by rfl) m_isinstance (by decide +kernel) (pa_cons (pv 1) (pa_cons (pe_bltn (by rfl) m_str (by decide +kernel) rfl) pa_nil)))) (pss_one (ps_ret (pe_cal C__law_pick (hr.mono (by omega)) rfl (pa_cons (pv 0) (pa_cons (pe_lst (pa_cons (pe_op op_addS (pv 1) pe_str) (pa_cons (pe_slice sl_any (pv 1) (po_some pe_int) po_none) (pa_cons pe_str (pa_cons (pe_op op_addS (pv 1) pe_str) (pa_cons pe_int (pa_cons pe_non (pa_cons (pe_tup (pa_cons (pv 1) pa_nil)) (pa_cons (pe_op op_addS pe_str (pv 1)) pa_nil))))))))) pa_nil))))) pss_nil)
  (pss_cons (ps_set (i := 5) sc__law_spoilt.nd rfl (by first | exact .inl rfl | exact .inr rfl) (pe_ifExp (pt_cmpR op_lt (pe_callB call_abs1 (by rfl) m_abs (by decide +kernel) (pa_cons (pv 1) pa_nil)) (pe_op op_pow pe_int pe_int) (nomark _)) (pv 1) pe_int))
  (pss_one (ps_ret (pe_cal C__law_pick (hr.mono (by omega)) rfl (pa_cons (pv 0) (pa_cons (pe_lst (pa_cons (pe_op op_add (pv 5) pe_int) (pa_cons (pe_op op_sub (pv 5) pe_int) (pa_cons (pe_op op_sub pe_int (pv 1)) (pa_cons (pe_cmpR op_eq (pv 1) pe_int (nomark _)) (pa_cons pe_non (pa_cons pe_str (pa_cons (pe_tup (pa_cons (pv 1) pa_nil)) (pa_cons (pe_op op_add (pv 5) (pe_op op_pow pe_int pe_int)) (pa_cons pe_int pa_nil)))))))))) pa_nil)))))))))
theorem ok__law_spoilt_all {P : Program} {w : World} {K : PySem.W.Frag} {mg : Str → Option Value} {base : Heap} {f : Addr} {fd : FuncData} (F : Fun K "_law_spoilt" "_law_spoilt" s__law_spoilt f fd) (gf : mg "_law_spoilt" = some (.ref f)) (C__law_draw : Cal P w K mg base "_law_draw" 1 ["bag", "many"] (sp__law_draw K)) (C__law_pick : Cal P w K mg base "_law_pick" 2 ["bag", "some"] (sp__law_pick K)) (m_abs : mg "abs" = none) (m_bool : mg "bool" = none) (m_isinstance : mg "isinstance" = none) (m_len : mg "len" = none) (m_str : mg "str" = none) (m_tuple : mg "tuple" = none)  : ∀ m, Cal P w K mg base "_law_spoilt" (3 + m) ["bag", "value", "deep"] (sp__law_spoilt K m)
  | 0 => ⟨f, fd, F.ok (k := 2) sc__law_spoilt len__law_spoilt (fun cdv A outer s H vs Q E hr h => (no__law_spoilt h).elim), F.kp, F.binds (fun _ _ _ _ _ _ us hl => match us, hl with | [_, _, _], _ => rfl), gf⟩
  | m + 1 => ok__law_spoilt_step m F gf C__law_draw C__law_pick m_abs m_bool m_isinstance m_len m_str m_tuple (ok__law_spoilt_all F gf C__law_draw C__law_pick m_abs m_bool m_isinstance m_len m_str m_tuple m)
theorem ok__law_spoilt {P : Program} {w : World} {K : PySem.W.Frag} {mg : Str → Option Value} {base : Heap} {f : Addr} {fd : FuncData} (F : Fun K "_law_spoilt" "_law_spoilt" s__law_spoilt f fd) (gf : mg "_law_spoilt" = some (.ref f)) (C__law_draw : Cal P w K mg base "_law_draw" 1 ["bag", "many"] (sp__law_draw K)) (C__law_pick : Cal P w K mg base "_law_pick" 2 ["bag", "some"] (sp__law_pick K)) (m_abs : mg "abs" = none) (m_bool : mg "bool" = none) (m_isinstance : mg "isinstance" = none) (m_len : mg "len" = none) (m_str : mg "str" = none) (m_tuple : mg "tuple" = none)  : Cal P w K mg base "_law_spoilt" 8 ["bag", "value", "deep"] (sp__law_spoilt K 5) := ok__law_spoilt_all F gf C__law_draw C__law_pick m_abs m_bool m_isinstance m_len m_str m_tuple 5
abbrev s_is_number : Stmt := topS 15
abbrev n_is_number : List Str := ["value", "low", "high"]
theorem sc_is_number : FnScope n_is_number ["value", "low", "high"] (defScope s_is_number) := ⟨rfl, rfl, rfl, by decide +kernel, rfl, by decide +kernel, by decide +kernel⟩
theorem ok_is_number {P : Program} {w : World} {K : PySem.W.Frag} {mg : Str → Option Value} {base : Heap} {f : Addr} {fd : FuncData} (F : Fun K "is_number" "is_number" s_is_number f fd) (gf : mg "is_number" = some (.ref f))   (m_int : mg "int" = none) (m_type : mg "type" = none)  : Cal P w K mg base "is_number" 1 ["value", "low", "high"] (sp_is_number K) := by
  refine ⟨f, fd, F.ok sc_is_number len_is_number (fun cdv A outer s H vs Q E hr h => ⟨t_is_number K, PSs.nox ?_, pure_is_number vs H Q E h⟩), F.kp, F.binds (fun _ _ _ _ _ _ us hl => match us, hl with | [_, _, _], _ => rfl), gf⟩
  exact (pss_one (ps_ret (pe_and (pe_cmpR op_isTyB1 (pe_callTy L2.call_type1 (by rfl) m_type (by decide +kernel) (pa_cons (pv 0) pa_nil)) (pe_bltn (by rfl) m_int (by decide +kernel) rfl) (nomark _)) (pe_one (pe_chain op_le op_le (pv 1) (pv 0) (pv 2))))))
abbrev s_is_tuple : Stmt := topS 14
abbrev n_is_tuple : List Str := ["value", "fewest", "most"]
theorem sc_is_tuple : FnScope n_is_tuple ["value", "fewest", "most"] (defScope s_is_tuple) := ⟨rfl, rfl, rfl, by decide +kernel, rfl, by decide +kernel, by decide +kernel⟩
theorem ok_is_tuple {P : Program} {w : World} {K : PySem.W.Frag} {mg : Str → Option Value} {base : Heap} {f : Addr} {fd : FuncData} (F : Fun K "is_tuple" "is_tuple" s_is_tuple f fd) (gf : mg "is_tuple" = some (.ref f))   (m_len : mg "len" = none) (m_tuple : mg "tuple" = none) (m_type : mg "type" = none)  : Cal P w K mg base "is_tuple" 1 ["value", "fewest", "most"] (sp_is_tuple K) := by
  refine ⟨f, fd, F.ok sc_is_tuple len_is_tuple (fun cdv A outer s H vs Q E hr h => ⟨t_is_tuple K, PSs.nox ?_, pure_is_tuple vs H Q E h⟩), F.kp, F.binds (fun _ _ _ _ _ _ us hl => match us, hl with | [_, _, _], _ => rfl), gf⟩
  exact (pss_one (ps_ret (pe_and (pe_cmpR op_isTyB1 (pe_callTy L2.call_type1 (by rfl) m_type (by decide +kernel) (pa_cons (pv 0) pa_nil)) (pe_bltn (by rfl) m_tuple (by decide +kernel) rfl) (nomark _)) (pe_one (pe_chain op_le op_le (pv 1) (pe_callB call_len1 (by rfl) m_len (by decide +kernel) (pa_cons (pv 0) pa_nil)) (pv 2))))))
abbrev s__is_term : Stmt := topS 21
abbrev n__is_term : List Str := ["value"]
theorem sc__is_term : FnScope n__is_term ["value"] (defScope s__is_term) := ⟨rfl, rfl, rfl, by decide +kernel, rfl, by decide +kernel, by decide +kernel⟩
theorem ok__is_term {P : Program} {w : World} {K : PySem.W.Frag} {mg : Str → Option Value} {base : Heap} {f : Addr} {fd : FuncData} (F : Fun K "_is_term" "_is_term" s__is_term f fd) (gf : mg "_is_term" = some (.ref f)) (C_is_number : Cal P w K mg base "is_number" 1 ["value", "low", "high"] (sp_is_number K)) (C_is_tuple : Cal P w K mg base "is_tuple" 1 ["value", "fewest", "most"] (sp_is_tuple K))   {u_WEIGHT_BOUND : Value} (g_WEIGHT_BOUND : mg "WEIGHT_BOUND" = some u_WEIGHT_BOUND) (r_WEIGHT_BOUND : RelV v_WEIGHT_BOUND u_WEIGHT_BOUND) : Cal P w K mg base "_is_term" 2 ["value"] (sp__is_term K) := by
  refine ⟨f, fd, F.ok sc__is_term len__is_term (fun cdv A outer s H vs Q E hr h => ⟨t__is_term K, PSs.nox ?_, pure__is_term vs H Q E h⟩), F.kp, F.binds (fun _ _ _ _ _ _ us hl => match us, hl with | [_], _ => rfl), gf⟩
  exact (pss_one (ps_ret (pe_and (pe_cal C_is_tuple (hr.mono (by decide)) rfl (pa_cons (pv 0) (pa_cons pe_int (pa_cons pe_int pa_nil)))) (pe_and (pe_cal C_is_number (hr.mono (by decide)) rfl (pa_cons (pe_ix ix_tup (pv 0) pe_int (fun _ _ => rfl)) (pa_cons (pe_un un_neg (pe_glob rfl g_WEIGHT_BOUND r_WEIGHT_BOUND)) (pa_cons (pe_glob rfl g_WEIGHT_BOUND r_WEIGHT_BOUND) pa_nil)))) (pe_one (pe_cmpR op_ne (pe_ix ix_tup (pv 0) pe_int (fun _ _ => rfl)) pe_int (nomark _)))))))
abbrev s_is_unknown : Stmt := topS 18
abbrev n_is_unknown : List Str := ["domains", "value"]
theorem sc_is_unknown : FnScope n_is_unknown ["domains", "value"] (defScope s_is_unknown) := ⟨rfl, rfl, rfl, by decide +kernel, rfl, by decide +kernel, by decide +kernel⟩
theorem ok_is_unknown {P : Program} {w : World} {K : PySem.W.Frag} {mg : Str → Option Value} {base : Heap} {f : Addr} {fd : FuncData} (F : Fun K "is_unknown" "is_unknown" s_is_unknown f fd) (gf : mg "is_unknown" = some (.ref f))   (m_str : mg "str" = none) (m_type : mg "type" = none)  : Cal P w K mg base "is_unknown" 1 ["domains", "value"] (sp_is_unknown K) := by
  refine ⟨f, fd, F.ok sc_is_unknown len_is_unknown (fun cdv A outer s H vs Q E hr h => ⟨t_is_unknown K, PSs.nox ?_, pure_is_unknown vs H Q E h⟩), F.kp, F.binds (fun _ _ _ _ _ _ us hl => match us, hl with | [_, _], _ => rfl), gf⟩
  exact (pss_one (ps_ret (pe_and (pe_cmpR op_isTyB1 (pe_callTy L2.call_type1 (by rfl) m_type (by decide +kernel) (pa_cons (pv 1) pa_nil)) (pe_bltn (by rfl) m_str (by decide +kernel) rfl) (nomark _)) (pe_one (pe_cmp (pc_din (hu_of hr) (pv 1) (pv 0)))))))
abbrev s_are_unknowns : Stmt := topS 19
abbrev n_are_unknowns : List Str := ["domains", "value", "most", "x"]
theorem sc_are_unknowns : FnScope n_are_unknowns ["domains", "value", "most"] (defScope s_are_unknowns) := ⟨rfl, rfl, rfl, by decide +kernel, rfl, by decide +kernel, by decide +kernel⟩
theorem ok_are_unknowns {P : Program} {w : World} {K : PySem.W.Frag} {mg : Str → Option Value} {base : Heap} {f : Addr} {fd : FuncData} (F : Fun K "are_unknowns" "are_unknowns" s_are_unknowns f fd) (gf : mg "are_unknowns" = some (.ref f)) (C_is_tuple : Cal P w K mg base "is_tuple" 1 ["value", "fewest", "most"] (sp_is_tuple K)) (C_is_unknown : Cal P w K mg base "is_unknown" 1 ["domains", "value"] (sp_is_unknown K))  (m_all : mg "all" = none) (m_len : mg "len" = none) (m_set : mg "set" = none)  : Cal P w K mg base "are_unknowns" 2 ["domains", "value", "most"] (sp_are_unknowns K) := by
  refine ⟨f, fd, F.ok sc_are_unknowns len_are_unknowns (fun cdv A outer s H vs Q E hr h => ⟨t_are_unknowns K, PSs.nox ?_, pure_are_unknowns vs H Q E h⟩), F.kp, F.binds (fun _ _ _ _ _ _ us hl => match us, hl with | [_, _, _], _ => rfl), gf⟩
  exact (pss_cons (ps_if (PW.pt (pw_or (pt_not (pt_val (pe_cal C_is_tuple (hr.mono (by decide)) rfl (pa_cons (pv 1) (pa_cons pe_int (pa_cons (pv 2) pa_nil)))))) (pw_or1 (pt_not (pt_val (pe_callB (cr_all rfl) (by rfl) m_all (by decide +kernel) (pa_cons (pe_lc (own := [("x", 3)]) rfl sc_are_unknowns.nd (pi_tup (pv 1)) (blkOk_by (own := [("x", 3)]) (N := n_are_unknowns) (sc := defScope s_are_unknowns) (by decide +kernel)) (fun _ _ _ _ _ => (pg_name (i := 3) sc_are_unknowns.nd rfl (by first | exact .inl rfl | exact .inr rfl))) (fun _ _ _ _ _ => pts_nil) (fun _ _ _ _ _ => (pe_cal C_is_unknown (hr.mono (by decide)) rfl (pa_cons (pv 0) (pa_cons (pv 3) pa_nil))))) pa_nil))))))) (pss_one (ps_ret pe_bl)) pss_nil)
  (pss_one (ps_ret (pe_cmpR op_eq (pe_lenSetS rfl (by rfl) m_len (by rfl) m_set (pv 1)) (pe_callB call_len1 (by rfl) m_len (by decide +kernel) (pa_cons (pv 1) pa_nil)) (nomark _)))))
abbrev s_are_terms : Stmt := topS 20
abbrev n_are_terms : List Str := ["domains", "value", "term", "x", "weight"]
theorem sc_are_terms : FnScope n_are_terms ["domains", "value"] (defScope s_are_terms) := ⟨rfl, rfl, rfl, by decide +kernel, rfl, by decide +kernel, by decide +kernel⟩
theorem ok_are_terms {P : Program} {w : World} {K : PySem.W.Frag} {mg : Str → Option Value} {base : Heap} {f : Addr} {fd : FuncData} (F : Fun K "are_terms" "are_terms" s_are_terms f fd) (gf : mg "are_terms" = some (.ref f)) (C__is_term : Cal P w K mg base "_is_term" 2 ["value"] (sp__is_term K)) (C_are_unknowns : Cal P w K mg base "are_unknowns" 2 ["domains", "value", "most"] (sp_are_unknowns K)) (C_is_tuple : Cal P w K mg base "is_tuple" 1 ["value", "fewest", "most"] (sp_is_tuple K))  (m_all : mg "all" = none) (m_tuple : mg "tuple" = none) {u_MOST_NAMES : Value} (g_MOST_NAMES : mg "MOST_NAMES" = some u_MOST_NAMES) (r_MOST_NAMES : RelV v_MOST_NAMES u_MOST_NAMES) : Cal P w K mg base "are_terms" 3 ["domains", "value"] (sp_are_terms K) := by
  refine ⟨f, fd, F.ok sc_are_terms len_are_terms (fun cdv A outer s H vs Q E hr h => ⟨t_are_terms K, PSs.nox ?_, pure_are_terms vs H Q E h⟩), F.kp, F.binds (fun _ _ _ _ _ _ us hl => match us, hl with | [_, _], _ => rfl), gf⟩
  exact (pss_cons (ps_if (PW.pt (pw_or (pt_not (pt_val (pe_cal C_is_tuple (hr.mono (by decide)) rfl (pa_cons (pv 1) (pa_cons pe_int (pa_cons (pe_glob rfl g_MOST_NAMES r_MOST_NAMES) pa_nil)))))) (pw_or1 (pt_not (pt_val (pe_callB (cr_all rfl) (by rfl) m_all (by decide +kernel) (pa_cons (pe_lc (own := [("term", 2)]) rfl sc_are_terms.nd (pi_tup (pv 1)) (blkOk_by (own := [("term", 2)]) (N := n_are_terms) (sc := defScope s_are_terms) (by decide +kernel)) (fun _ _ _ _ _ => (pg_name (i := 2) sc_are_terms.nd rfl (by first | exact .inl rfl | exact .inr rfl))) (fun _ _ _ _ _ => pts_nil) (fun _ _ _ _ _ => (pe_cal C__is_term (hr.mono (by decide)) rfl (pa_cons (pv 2) pa_nil)))) pa_nil))))))) (pss_one (ps_ret pe_bl)) pss_nil)
  (pss_one (ps_ret (pe_cal C_are_unknowns (hr.mono (by decide)) rfl (pa_cons (pv 0) (pa_cons (pe_tupleOf (by rfl) m_tuple (pe_lc (own := [("x", 3), ("weight", 4)]) rfl sc_are_terms.nd (pi_tup (pv 1)) (blkOk_by (own := [("x", 3), ("weight", 4)]) (N := n_are_terms) (sc := defScope s_are_terms) (by decide +kernel)) (fun _ _ _ _ _ => (pg_tup rfl (pgs_cons (pg_name (i := 3) sc_are_terms.nd rfl (by first | exact .inl rfl | exact .inr rfl)) (pgs_cons (pg_name (i := 4) sc_are_terms.nd rfl (by first | exact .inl rfl | exact .inr rfl)) pgs_nil)))) (fun _ _ _ _ _ => pts_nil) (fun _ _ _ _ _ => (pv 3)))) (pa_cons (pe_glob rfl g_MOST_NAMES r_MOST_NAMES) pa_nil)))))))
abbrev s_ascends : Stmt := topS 17
abbrev n_ascends : List Str := ["items", "k"]
theorem sc_ascends : FnScope n_ascends ["items"] (defScope s_ascends) := ⟨rfl, rfl, rfl, by decide +kernel, rfl, by decide +kernel, by decide +kernel⟩
theorem ok_ascends {P : Program} {w : World} {K : PySem.W.Frag} {mg : Str → Option Value} {base : Heap} {f : Addr} {fd : FuncData} (F : Fun K "ascends" "ascends" s_ascends f fd) (gf : mg "ascends" = some (.ref f))   (m_all : mg "all" = none) (m_len : mg "len" = none) (m_range : mg "range" = none)  : Cal P w K mg base "ascends" 1 ["items"] (sp_ascends K) := by
  refine ⟨f, fd, F.ok sc_ascends len_ascends (fun cdv A outer s H vs Q E hr h => ⟨t_ascends K, PSs.nox ?_, pure_ascends vs H Q E h⟩), F.kp, F.binds (fun _ _ _ _ _ _ us hl => match us, hl with | [_], _ => rfl), gf⟩
  exact (pss_one (ps_ret (pe_callB (cr_all rfl) (by rfl) m_all (by decide +kernel) (pa_cons (pe_lc (own := [("k", 1)]) rfl sc_ascends.nd (pi_range1 (by rfl) m_range (pa_cons (pe_op op_sub (pe_callB call_len1 (by rfl) m_len (by decide +kernel) (pa_cons (pv 0) pa_nil)) pe_int) pa_nil)) (blkOk_by (own := [("k", 1)]) (N := n_ascends) (sc := defScope s_ascends) (by decide +kernel)) (fun _ _ _ _ _ => (pg_name (i := 1) sc_ascends.nd rfl (by first | exact .inl rfl | exact .inr rfl))) (fun _ _ _ _ _ => pts_nil) (fun _ _ _ _ _ => (pe_cmpR op_ltS (pe_ix ix_list (pv 0) (pv 1) (fun _ _ => rfl)) (pe_ix ix_list (pv 0) (pe_op op_add (pv 1) pe_int) (fun _ _ => rfl)) (nomark _)))) pa_nil))))
abbrev s_is_free_number : Stmt := topS 16
abbrev n_is_free_number : List Str := ["value"]
theorem sc_is_free_number : FnScope n_is_free_number ["value"] (defScope s_is_free_number) := ⟨rfl, rfl, rfl, by decide +kernel, rfl, by decide +kernel, by decide +kernel⟩
theorem ok_is_free_number {P : Program} {w : World} {K : PySem.W.Frag} {mg : Str → Option Value} {base : Heap} {f : Addr} {fd : FuncData} (F : Fun K "is_free_number" "is_free_number" s_is_free_number f fd) (gf : mg "is_free_number" = some (.ref f)) (C_is_number : Cal P w K mg base "is_number" 1 ["value", "low", "high"] (sp_is_number K))   {u_NUMBER_BOUND : Value} (g_NUMBER_BOUND : mg "NUMBER_BOUND" = some u_NUMBER_BOUND) (r_NUMBER_BOUND : RelV v_NUMBER_BOUND u_NUMBER_BOUND) : Cal P w K mg base "is_free_number" 2 ["value"] (sp_is_free_number K) := by
  refine ⟨f, fd, F.ok sc_is_free_number len_is_free_number (fun cdv A outer s H vs Q E hr h => ⟨t_is_free_number K, PSs.nox ?_, pure_is_free_number vs H Q E h⟩), F.kp, F.binds (fun _ _ _ _ _ _ us hl => match us, hl with | [_], _ => rfl), gf⟩
  exact (pss_one (ps_ret (pe_cal C_is_number (hr.mono (by decide)) rfl (pa_cons (pv 0) (pa_cons (pe_un un_neg (pe_glob rfl g_NUMBER_BOUND r_NUMBER_BOUND)) (pa_cons (pe_glob rfl g_NUMBER_BOUND r_NUMBER_BOUND) pa_nil))))))
abbrev s__is_wish : Stmt := topS 27
abbrev n__is_wish : List Str := ["domains", "value", "x", "weight"]
theorem sc__is_wish : FnScope n__is_wish ["domains", "value"] (defScope s__is_wish) := ⟨rfl, rfl, rfl, by decide +kernel, rfl, by decide +kernel, by decide +kernel⟩
theorem ok__is_wish {P : Program} {w : World} {K : PySem.W.Frag} {mg : Str → Option Value} {base : Heap} {f : Addr} {fd : FuncData} (F : Fun K "_is_wish" "_is_wish" s__is_wish f fd) (gf : mg "_is_wish" = some (.ref f)) (C_are_terms : Cal P w K mg base "are_terms" 3 ["domains", "value"] (sp_are_terms K)) (C_ascends : Cal P w K mg base "ascends" 1 ["items"] (sp_ascends K)) (C_is_free_number : Cal P w K mg base "is_free_number" 2 ["value"] (sp_is_free_number K)) (C_is_number : Cal P w K mg base "is_number" 1 ["value", "low", "high"] (sp_is_number K)) (C_is_tuple : Cal P w K mg base "is_tuple" 1 ["value", "fewest", "most"] (sp_is_tuple K))    : Cal P w K mg base "_is_wish" 4 ["domains", "value"] (sp__is_wish K) := by
  refine ⟨f, fd, F.ok sc__is_wish len__is_wish (fun cdv A outer s H vs Q E hr h => ⟨t__is_wish K, PSs.nox ?_, pure__is_wish vs H Q E h⟩), F.kp, F.binds (fun _ _ _ _ _ _ us hl => match us, hl with | [_, _], _ => rfl), gf⟩
  exact (pss_cons (ps_if (PW.pt (pw_or (pt_not (pt_val (pe_cal C_is_tuple (hr.mono (by decide)) rfl (pa_cons (pv 1) (pa_cons pe_int (pa_cons pe_int pa_nil)))))) (pw_or (pt_not (pt_val (pe_cal C_is_free_number (hr.mono (by decide)) rfl (pa_cons (pe_ix ix_tup (pv 1) pe_int (fun _ _ => rfl)) pa_nil)))) (pw_or1 (pt_not (pt_val (pe_cal C_is_number (hr.mono (by decide)) rfl (pa_cons (pe_ix ix_tup (pv 1) pe_int (fun _ _ => rfl)) (pa_cons pe_int (pa_cons pe_int pa_nil)))))))))) (pss_one (ps_ret pe_bl)) pss_nil)
  (pss_one (ps_ret (pe_or (pe_cmpR (op_eqD (units64 hr)) (pe_ix ix_tup (pv 1) pe_int (fun _ _ => rfl)) (pe_tup pa_nil) (nomark _)) (pe_one (pe_and (pe_cal C_are_terms (hr.mono (by decide)) rfl (pa_cons (pv 0) (pa_cons (pe_ix ix_tup (pv 1) pe_int (fun _ _ => rfl)) pa_nil))) (pe_one (pe_cal C_ascends (hr.mono (by decide)) rfl (pa_cons (pe_lc (own := [("x", 2), ("weight", 3)]) rfl sc__is_wish.nd (pi_tup (pe_ix ix_tup (pv 1) pe_int (fun _ _ => rfl))) (blkOk_by (own := [("x", 2), ("weight", 3)]) (N := n__is_wish) (sc := defScope s__is_wish) (by decide +kernel)) (fun _ _ _ _ _ => (pg_tup rfl (pgs_cons (pg_name (i := 2) sc__is_wish.nd rfl (by first | exact .inl rfl | exact .inr rfl)) (pgs_cons (pg_name (i := 3) sc__is_wish.nd rfl (by first | exact .inl rfl | exact .inr rfl)) pgs_nil)))) (fun _ _ _ _ _ => pts_nil) (fun _ _ _ _ _ => (pv 2))) pa_nil)))))))))
abbrev s_domains_of : Stmt := topS 23
abbrev n_domains_of : List Str := ["model", "name", "domain"]
theorem sc_domains_of : FnScope n_domains_of ["model"] (defScope s_domains_of) := ⟨rfl, rfl, rfl, by decide +kernel, rfl, by decide +kernel, by decide +kernel⟩
theorem ok_domains_of {P : Program} {w : World} {K : PySem.W.Frag} {mg : Str → Option Value} {base : Heap} {f : Addr} {fd : FuncData} (F : Fun K "domains_of" "domains_of" s_domains_of f fd) (gf : mg "domains_of" = some (.ref f))     : Cal P w K mg base "domains_of" 1 ["model"] (sp_domains_of K) := by
  refine ⟨f, fd, F.ok sc_domains_of len_domains_of (fun cdv A outer s H vs Q E hr h => ⟨t_domains_of K, PSs.nox ?_, pure_domains_of vs H Q E h⟩), F.kp, F.binds (fun _ _ _ _ _ _ us hl => match us, hl with | [_], _ => rfl), gf⟩
  exact (pss_one (ps_ret (pe_dc (own := [("name", 1), ("domain", 2)]) rfl sc_domains_of.nd (pi_tup (pe_ix ix_tup (pv 0) pe_int (fun _ _ => rfl))) (blkOk_by (own := [("name", 1), ("domain", 2)]) (N := n_domains_of) (sc := defScope s_domains_of) (by decide +kernel)) (fun _ _ _ _ _ => (pg_tup rfl (pgs_cons (pg_name (i := 1) sc_domains_of.nd rfl (by first | exact .inl rfl | exact .inr rfl)) (pgs_cons (pg_name (i := 2) sc_domains_of.nd rfl (by first | exact .inl rfl | exact .inr rfl)) pgs_nil)))) (fun _ _ _ _ _ => pts_nil) (fun _ _ _ _ _ => (pv 1)) (fun _ _ _ _ _ => (pv 2)))))
abbrev s__law_wishes : Stmt := topS 40
abbrev n__law_wishes : List Str := ["bag", "model", "made", "k", "some", "weights", "pair", "names", "constant", "j"]
theorem sc__law_wishes : FnScope n__law_wishes ["bag", "model"] (defScope s__law_wishes) := ⟨rfl, rfl, rfl, by decide +kernel, rfl, by decide +kernel, by decide +kernel⟩
theorem ok__law_wishes {P : Program} {w : World} {K : PySem.W.Frag} {mg : Str → Option Value} {base : Heap} {f : Addr} {fd : FuncData} (F : Fun K "_law_wishes" "_law_wishes" s__law_wishes f fd) (gf : mg "_law_wishes" = some (.ref f)) (C__law_draw : Cal P w K mg base "_law_draw" 1 ["bag", "many"] (sp__law_draw K)) (C__law_pick : Cal P w K mg base "_law_pick" 2 ["bag", "some"] (sp__law_pick K)) (C__law_some : Cal P w K mg base "_law_some" 2 ["bag", "things", "many"] (sp__law_some K))  (m_len : mg "len" = none) (m_min : mg "min" = none) (m_range : mg "range" = none) (m_sorted : mg "sorted" = none) (m_tuple : mg "tuple" = none)  : Cal P w K mg base "_law_wishes" 3 ["bag", "model"] (sp__law_wishes K) := by
  refine ⟨f, fd, F.ok sc__law_wishes len__law_wishes (fun cdv A outer s H vs Q E hr h => ⟨t__law_wishes K, PSs.nox ?_, pure__law_wishes vs H Q E h⟩), F.kp, F.binds (fun _ _ _ _ _ _ us hl => match us, hl with | [_, _], _ => rfl), gf⟩
  exact (pss_cons (ps_set (i := 2) sc__law_wishes.nd rfl (by first | exact .inl rfl | exact .inr rfl) (pe_lst pa_nil))
  (pss_cons (ps_for PassesOwn.never rfl (pi_range1 (by rfl) m_range (pa_cons (pe_op op_add pe_int (pe_cal C__law_draw (hr.mono (by decide)) rfl (pa_cons (pv 0) (pa_cons pe_int pa_nil)))) pa_nil)) (pg_name (i := 3) sc__law_wishes.nd rfl (by first | exact .inl rfl | exact .inr rfl))
  (pss_cons (ps_set (i := 4) sc__law_wishes.nd rfl (by first | exact .inl rfl | exact .inr rfl) (pe_cal C__law_some (hr.mono (by decide)) rfl (pa_cons (pv 0) (pa_cons (pe_ix ix_tup (pv 1) pe_int (fun _ _ => rfl)) (pa_cons (pe_cal C__law_pick (hr.mono (by decide)) rfl (pa_cons (pv 0) (pa_cons (pe_lst (pa_cons pe_int (pa_cons pe_int (pa_cons pe_int (pa_cons (pe_callB (call_min2 rfl) (by rfl) m_min (by decide +kernel) (pa_cons pe_int (pa_cons (pe_callB call_len1 (by rfl) m_len (by decide +kernel) (pa_cons (pe_ix ix_tup (pv 1) pe_int (fun _ _ => rfl)) pa_nil)) pa_nil))) pa_nil))))) pa_nil))) pa_nil)))))
  (pss_cons (ps_set (i := 5) sc__law_wishes.nd rfl (by first | exact .inl rfl | exact .inr rfl) (pe_lc (own := [("pair", 6)]) rfl sc__law_wishes.nd (pi_list (pv 4)) (blkOk_by (own := [("pair", 6)]) (N := n__law_wishes) (sc := defScope s__law_wishes) (by decide +kernel)) (fun _ _ _ _ _ => (pg_name (i := 6) sc__law_wishes.nd rfl (by first | exact .inl rfl | exact .inr rfl))) (fun _ _ _ _ _ => pts_nil) (fun _ _ _ _ _ => (pe_cal C__law_pick (hr.mono (by decide)) rfl (pa_cons (pv 0) (pa_cons (pe_lst (pa_cons pe_int (pa_cons (pe_un un_neg pe_int) (pa_cons pe_int (pa_cons (pe_un un_neg pe_int) (pa_cons (pe_op op_add pe_int (pe_cal C__law_draw (hr.mono (by decide)) rfl (pa_cons (pv 0) (pa_cons pe_int pa_nil)))) pa_nil)))))) pa_nil))))))
  (pss_cons (ps_set (i := 7) sc__law_wishes.nd rfl (by first | exact .inl rfl | exact .inr rfl) (pe_callB cr_sortedS (by rfl) m_sorted (by decide +kernel) (pa_cons (pe_lc (own := [("pair", 6)]) rfl sc__law_wishes.nd (pi_list (pv 4)) (blkOk_by (own := [("pair", 6)]) (N := n__law_wishes) (sc := defScope s__law_wishes) (by decide +kernel)) (fun _ _ _ _ _ => (pg_name (i := 6) sc__law_wishes.nd rfl (by first | exact .inl rfl | exact .inr rfl))) (fun _ _ _ _ _ => pts_nil) (fun _ _ _ _ _ => (pe_ix ix_tup (pv 6) pe_int (fun _ _ => rfl)))) pa_nil)))
  (pss_cons (ps_set (i := 8) sc__law_wishes.nd rfl (by first | exact .inl rfl | exact .inr rfl) (pe_cal C__law_pick (hr.mono (by decide)) rfl (pa_cons (pv 0) (pa_cons (pe_lst (pa_cons pe_int (pa_cons pe_int (pa_cons (pe_un un_neg pe_int) (pa_cons (pe_op op_sub (pe_cal C__law_draw (hr.mono (by decide)) rfl (pa_cons (pv 0) (pa_cons pe_int pa_nil))) pe_int) pa_nil))))) pa_nil))))
  (pss_one (ps_expr (pe_bm PySem.F.plainAttrs_list PySem.F.slot_list_append PySem.F.type_list_append mt_append (pv 2) (pa_cons (pe_tup (pa_cons (pv 8) (pa_cons (pe_tupleOf (by rfl) m_tuple (pe_lc (own := [("j", 9)]) rfl sc__law_wishes.nd (pi_range1 (by rfl) m_range (pa_cons (pe_callB call_len1 (by rfl) m_len (by decide +kernel) (pa_cons (pv 7) pa_nil)) pa_nil)) (blkOk_by (own := [("j", 9)]) (N := n__law_wishes) (sc := defScope s__law_wishes) (by decide +kernel)) (fun _ _ _ _ _ => (pg_name (i := 9) sc__law_wishes.nd rfl (by first | exact .inl rfl | exact .inr rfl))) (fun _ _ _ _ _ => pts_nil) (fun _ _ _ _ _ => (pe_tup (pa_cons (pe_ix ix_list (pv 7) (pv 9) (fun _ _ => rfl)) (pa_cons (pe_ix ix_list (pv 5) (pv 9) (fun _ _ => rfl)) pa_nil)))))) (pa_cons (pe_cal C__law_draw (hr.mono (by decide)) rfl (pa_cons (pv 0) (pa_cons pe_int pa_nil))) pa_nil)))) pa_nil)))))))))
  (pss_one (ps_ret (pe_tupleOf (by rfl) m_tuple (pv 2))))))
abbrev s_law : Stmt := topS 42
abbrev n_law : List Str := ["script", "bag", "many", "names", "unknowns", "k", "soft", "model", "wishes", "values", "due"]
theorem sc_law : FnScope n_law ["script"] (defScope s_law) := ⟨rfl, rfl, rfl, by decide +kernel, rfl, by decide +kernel, by decide +kernel⟩
theorem ok_law {P : Program} {w : World} {K : PySem.W.Frag} {mg : Str → Option Value} {base : Heap} {f : Addr} {fd : FuncData} (F : Fun K "law" "law" s_law f fd) (gf : mg "law" = some (.ref f)) (C__law_bag : Cal P w K mg base "_law_bag" 1 ["script"] (sp__law_bag K)) (C__law_domain : Cal P w K mg base "_law_domain" 3 ["bag", "size"] (sp__law_domain K)) (C__law_draw : Cal P w K mg base "_law_draw" 1 ["bag", "many"] (sp__law_draw K)) (C__law_edges : Cal P w K mg base "_law_edges" 1 ["model", "wishes"] (sp__law_edges K)) (C__law_is_right : Cal P w K mg base "_law_is_right" 3 ["model", "value"] (sp__law_is_right K)) (C__law_names : Cal P w K mg base "_law_names" 3 ["bag", "many"] (sp__law_names K)) (C__law_pick : Cal P w K mg base "_law_pick" 2 ["bag", "some"] (sp__law_pick K)) (C__law_spoilt : Cal P w K mg base "_law_spoilt" 8 ["bag", "value", "deep"] (sp__law_spoilt K 5)) (C__law_told : Cal P w K mg base "_law_told" 6 ["model", "value", "by_name"] (sp__law_told K)) (C__law_wishes : Cal P w K mg base "_law_wishes" 3 ["bag", "model"] (sp__law_wishes K))  (m_int : mg "int" = none) (m_len : mg "len" = none) (m_range : mg "range" = none) (m_tuple : mg "tuple" = none)  : FnOk P w K mg base CX0 9 f fd ["script"] (sp_law K) := by
  refine F.ok sc_law len_law (fun cdv A outer s H vs Q E hr h => ⟨t_law K, PSs.nox ?_, pure_law vs H Q E h⟩)
  exact (pss_cons (ps_set (i := 1) sc_law.nd rfl (by first | exact .inl rfl | exact .inr rfl) (pe_cal C__law_bag (hr.mono (by decide)) rfl (pa_cons (pv 0) pa_nil)))
  (pss_cons (ps_set (i := 2) sc_law.nd rfl (by first | exact .inl rfl | exact .inr rfl) (pe_cal C__law_pick (hr.mono (by decide)) rfl (pa_cons (pv 1) (pa_cons (pe_lst (pa_cons pe_int (pa_cons pe_int (pa_cons pe_int (pa_cons pe_int (pa_cons pe_int (pa_cons pe_int pa_nil))))))) pa_nil))))
  (pss_cons (ps_set (i := 3) sc_law.nd rfl (by first | exact .inl rfl | exact .inr rfl) (pe_cal C__law_names (hr.mono (by decide)) rfl (pa_cons (pv 1) (pa_cons (pe_op op_add (pv 2) pe_int) pa_nil))))
  (pss_cons (ps_set (i := 4) sc_law.nd rfl (by first | exact .inl rfl | exact .inr rfl) (pe_tupleOf (by rfl) m_tuple (pe_lc (own := [("k", 5)]) rfl sc_law.nd (pi_range1 (by rfl) m_range (pa_cons (pv 2) pa_nil)) (blkOk_by (own := [("k", 5)]) (N := n_law) (sc := defScope s_law) (by decide +kernel)) (fun _ _ _ _ _ => (pg_name (i := 5) sc_law.nd rfl (by first | exact .inl rfl | exact .inr rfl))) (fun _ _ _ _ _ => pts_nil) (fun _ _ _ _ _ => (pe_tup (pa_cons (pe_ix ix_list (pv 3) (pv 5) (fun _ _ => rfl)) (pa_cons (pe_cal C__law_domain (hr.mono (by decide)) rfl (pa_cons (pv 1) (pa_cons (pe_op op_add pe_int (pe_cal C__law_draw (hr.mono (by decide)) rfl (pa_cons (pv 1) (pa_cons pe_int pa_nil)))) pa_nil))) pa_nil)))))))
  (pss_cons (ps_set (i := 6) sc_law.nd rfl (by first | exact .inl rfl | exact .inr rfl) (pe_ifExp (pt_cmpR op_eq (pe_cal C__law_draw (hr.mono (by decide)) rfl (pa_cons (pv 1) (pa_cons pe_int pa_nil))) pe_int (nomark _)) (pe_tup (pa_cons (pe_tup (pa_cons (pe_ix ix_list (pv 3) (pe_op op_add (pv 2) pe_int) (fun _ _ => rfl)) (pa_cons (pe_tup (pa_cons pe_str (pa_cons (pe_tup (pa_cons (pe_ix ix_list (pv 3) pe_int (fun _ _ => rfl)) pa_nil)) pa_nil))) (pa_cons pe_int pa_nil)))) pa_nil)) (pe_tup pa_nil)))
  (pss_cons (ps_set (i := 7) sc_law.nd rfl (by first | exact .inl rfl | exact .inr rfl) (pe_tup (pa_cons (pv 4) (pa_cons (pe_tup (pa_cons (pe_tup (pa_cons (pe_ix ix_list (pv 3) (pv 2) (fun _ _ => rfl)) (pa_cons (pe_tup (pa_cons pe_str (pa_cons (pe_tup (pa_cons (pe_ix ix_list (pv 3) pe_int (fun _ _ => rfl)) (pa_cons (pe_ix ix_list (pv 3) pe_int (fun _ _ => rfl)) pa_nil))) pa_nil))) pa_nil))) pa_nil)) (pa_cons (pv 6) pa_nil)))))
  (pss_cons (ps_set (i := 8) sc_law.nd rfl (by first | exact .inl rfl | exact .inr rfl) (pe_cal C__law_wishes (hr.mono (by decide)) rfl (pa_cons (pv 1) (pa_cons (pv 7) pa_nil))))
  (pss_cons (ps_if (pt_cmpR op_notN1 (pe_cal C__law_told (hr.mono (by decide)) rfl (pa_cons (pv 7) (pa_cons (pv 8) (pa_cons pe_bl pa_nil)))) pe_non (nomark _)) (pss_one (ps_ret pe_bl)) pss_nil)
  (pss_cons (ps_set (i := 9) sc_law.nd rfl (by first | exact .inl rfl | exact .inr rfl) (pe_cal C__law_edges (hr.mono (by decide)) rfl (pa_cons (pv 7) (pa_cons (pv 8) pa_nil))))
  (pss_cons (ps_for PassesOwn.never rfl (pi_range1 (by rfl) m_range (pa_cons pe_int pa_nil)) (pg_name (i := 5) sc_law.nd rfl (by first | exact .inl rfl | exact .inr rfl))
  (pss_one (ps_expr (pe_bm PySem.F.plainAttrs_list PySem.F.slot_list_append PySem.F.type_list_append mt_append (pv 9) (pa_cons (pe_cal C__law_spoilt (hr.mono (by decide)) rfl (pa_cons (pv 1) (pa_cons (pv 8) (pa_cons pe_int pa_nil)))) pa_nil)))))
  (pss_cons (ps_for PassesOwn.never rfl (pi_range1 (by rfl) m_range (pa_cons (pe_callB call_len1 (by rfl) m_len (by decide +kernel) (pa_cons (pv 9) pa_nil)) pa_nil)) (pg_name (i := 5) sc_law.nd rfl (by first | exact .inl rfl | exact .inr rfl))
  (pss_cons (ps_set (i := 10) sc_law.nd rfl (by first | exact .inl rfl | exact .inr rfl) (pe_ifExp (pt_val (pe_cal C__law_is_right (hr.mono (by decide)) rfl (pa_cons (pv 7) (pa_cons (pe_ix ix_list (pv 9) (pv 5) (fun _ _ => rfl)) pa_nil)))) pe_non pe_str))
  (pss_one (ps_if (pt_cmpR op_ne (pe_cal C__law_told (hr.mono (by decide)) rfl (pa_cons (pv 7) (pa_cons (pe_ix ix_list (pv 9) (pv 5) (fun _ _ => rfl)) (pa_cons (pe_cmpR op_eq (pe_op op_mod (pe_callTy call_int1 (by rfl) m_int (by decide +kernel) (pa_cons (pv 5) pa_nil)) pe_int) pe_int (nomark _)) pa_nil)))) (pv 10) (nomark _)) (pss_one (ps_ret pe_bl)) pss_nil))))
  (pss_one (ps_ret (pe_and (pe_cmpR op_isN1 (pe_cal C__law_told (hr.mono (by decide)) rfl (pa_cons (pv 7) (pa_cons (pv 8) (pa_cons pe_bl pa_nil)))) pe_non (nomark _)) (pe_one (pe_cmpR op_isN1 (pe_cal C__law_told (hr.mono (by decide)) rfl (pa_cons (pv 7) (pa_cons (pe_cal C__law_wishes (hr.mono (by decide)) rfl (pa_cons (pv 1) (pa_cons (pv 7) pa_nil))) (pa_cons pe_bl pa_nil)))) pe_non (nomark _)))))))))))))))))
theorem FunD.plain {K : PySem.W.Frag} {x qual : Str} {st : Stmt} {f : Addr} {fd : FuncData} (F : FunD K x qual (defArgs st) (defBody st) (defScope st) [] [] f fd) : Fun K x qual st f fd := by
  obtain ⟨⟨oc, od, dV, kV, doc, pm, an, cdv, ct, osl, rfl, lk, hcd, hD, _⟩, kp⟩ := F
  rcases hD with ⟨_, rfl⟩ | ⟨e, _⟩
  · exact ⟨⟨oc, od, kV, doc, pm, an, cdv, ct, osl, rfl, lk, hcd⟩, kp⟩
  · exact absurd rfl e
theorem Fun.kb {K : PySem.W.Frag} {x qual : Str} {st : Stmt} {f : Addr} {fd : FuncData} {ps : List Str} (F : Fun K x qual st f fd) (h0 : 0 < ps.length)
    (h : ∀ (kV doc pm : Value) (an : Option Addr) (cdv ct : Value) (us : List Value), us.length = ps.length → bindArgs (PySem.W.fnOf x qual (defArgs st) (defBody st) (defScope st) .none kV doc pm an cdv ct) ⟨[], ps.zip us⟩ = pure (ps.zip us)) : KBinds K fd ps ps gK gK := by
  obtain ⟨oc, od, kV, doc, pm, an, cdv, ct, osl, rfl, lk, hcd⟩ := F.ex
  refine ⟨fun s us ws _ hl => ?_, fun {vs us zs ws} r rz => ?_⟩
  · cases us with
    | nil => exact .of_eq (h kV doc pm an cdv ct ws hl)
    | cons a r =>
      have : (0 : Nat) = ps.length := hl
      omega
  · cases r with
    | nil => exact rz
    | cons _ _ => exact .nil

def clsBody : Stmt → List Stmt
  | .ClassDef _ _ _ b _ _ _ _ _ _ _ => b
  | _ => []
abbrev s_init : Stmt := (clsBody (topS 7)).getD 0 (.Pass ⟨0, 0, 0, 0⟩)
abbrev n_init : List Str := ["self"]
theorem sc_init : FnScope n_init ["self"] (defScope s_init) := ⟨rfl, rfl, rfl, by decide +kernel, rfl, by decide +kernel, by decide +kernel⟩
def t_init (K : PySem.W.Frag) : TS := tDrop (tVeI K (tCons (tVar 0) (tCons (tC (.str "no right wishes")) tNil)))
theorem ok_init {P : Program} {w : World} {K : PySem.W.Frag} {mg : Str → Option Value} {base : Heap} {f : Addr} {fd : FuncData} {cW : Addr} (F : Fun K "__init__" "BadWish.__init__" s_init f fd) (gW : mg "WrittenError" = some (.ref cW)) (TW : WiC K cW) : FnOk P w K mg base CX0 1 f fd ["self"] (spInitN K) := by
  refine F.ok sc_init (fun vs H Q E h => by obtain ⟨_, _, rfl, _⟩ := h; rfl) (fun cdv A outer s H vs Q E hr h => ⟨t_init K, PSs.nox ?_, ?_⟩)
  · exact pss_one (ps_expr (pe_weinit rfl gW TW (pa_cons (pv 0) (pa_cons pe_str pa_nil))))
  · obtain ⟨a, C, rfl, hC, ha, q⟩ := h
    exact ⟨.ref a, rfl, ⟨a, C, _, rfl, (by decide : 1 ≤ 1000), hC, ha, q⟩⟩
abbrev s_check_wishes : Stmt := topS 26
abbrev n_check_wishes : List Str := ["model", "value", "domains", "wish"]
theorem sc_check_wishes : FnScope n_check_wishes ["model", "value"] (defScope s_check_wishes) := ⟨rfl, rfl, rfl, by decide +kernel, rfl, by decide +kernel, by decide +kernel⟩
theorem ok_check_wishes {P : Program} {w : World} {K : PySem.W.Frag} {mg : Str → Option Value} {base : Heap} {f : Addr} {fd : FuncData} {c_BadWish fI : Addr} {fdI : FuncData} (F : Fun K "check_wishes" "check_wishes" s_check_wishes f fd) (C__is_wish : Cal P w K mg base "_is_wish" 4 ["domains", "value"] (sp__is_wish K)) (C_domains_of : Cal P w K mg base "domains_of" 1 ["model"] (sp_domains_of K)) (C_is_tuple : Cal P w K mg base "is_tuple" 1 ["value", "fewest", "most"] (sp_is_tuple K)) (m_all : mg "all" = none) {u_MOST_WISHES : Value} (g_MOST_WISHES : mg "MOST_WISHES" = some u_MOST_WISHES) (r_MOST_WISHES : RelV v_MOST_WISHES u_MOST_WISHES)
    (OX_BadWish : OexC K c_BadWish) (I_BadWish : PySem.W.findIn K (.ref c_BadWish) "__init__" = some (some (.ref fI))) (T_BadWish : PySem.W.typeIn K (.ref fI) = some (.type "function")) (N_BadWish : FnOk P w K mg base CX0 1 fI fdI ["self"] (spInitN K)) (B_BadWish : Binds K fdI ["self"] []) (g_BadWish : mg "BadWish" = some (.ref c_BadWish)) :
    FnOk P w K mg base (L2.CX P w) 5 f fd ["model", "value"] (sp_check_wishes K c_BadWish) := by
  refine F.okX sc_check_wishes len_check_wishes (fun cdv A outer s H vs Q E hr h => ⟨t_check_wishes K c_BadWish E, ?_, pure_check_wishes vs H Q E h⟩)
  exact (pss_cons (ps_set (i := 2) sc_check_wishes.nd rfl (by first | exact .inl rfl | exact .inr rfl) (pe_cal C_domains_of (hr.mono (by decide)) rfl (pa_cons (pv 0) pa_nil)))
  (pss_one (ps_if (PW.pt (pw_or (pt_not (pt_val (pe_cal C_is_tuple (hr.mono (by decide)) rfl (pa_cons (pv 1) (pa_cons pe_int (pa_cons (pe_glob rfl g_MOST_WISHES r_MOST_WISHES) pa_nil)))))) (pw_or1 (pt_not (pt_val (pe_callB (cr_all rfl) (by rfl) m_all (by decide +kernel) (pa_cons (pe_lc (own := [("wish", 3)]) rfl sc_check_wishes.nd (pi_tup (pv 1)) (blkOk_by (own := [("wish", 3)]) (N := n_check_wishes) (sc := defScope s_check_wishes) (by decide +kernel)) (fun _ _ _ _ _ => (pg_name (i := 3) sc_check_wishes.nd rfl (by first | exact .inl rfl | exact .inr rfl))) (fun _ _ _ _ _ => pts_nil) (fun _ _ _ _ _ => (pe_cal C__is_wish (hr.mono (by decide)) rfl (pa_cons (pv 2) (pa_cons (pv 3) pa_nil))))) pa_nil))))))) (pss_one (ps_raise rfl (takes_of rfl rfl rfl rfl) (pmk_oexN OX_BadWish I_BadWish T_BadWish N_BadWish (hr.mono (by decide)) B_BadWish pass0 (by rfl) g_BadWish))) pss_nil)))
abbrev s__law_told : Stmt := topS 39
abbrev n__law_told : List Str := ["model", "value", "by_name", "found", "e", "others"]
theorem sc__law_told : FnScope n__law_told ["model", "value", "by_name"] (defScope s__law_told) := ⟨rfl, rfl, rfl, by decide +kernel, rfl, by decide +kernel, by decide +kernel⟩
theorem ok__law_told {P : Program} {w : World} {K : PySem.W.Frag} {mg : Str → Option Value} {base : Heap} {f : Addr} {fd : FuncData} {c_BadModel c_BadView c_BadText c_UnknownName c_BadRow c_BadWish c_NothingLeft c_TooFar c_WrittenError : Addr} (FF : ExF K c_BadModel c_BadView c_BadText c_UnknownName c_BadRow c_BadWish c_NothingLeft c_TooFar c_WrittenError) (TE : ExI K c_BadWish) (F : Fun K "_law_told" "_law_told" s__law_told f fd) (gf : mg "_law_told" = some (.ref f)) (X_check_wishes : CalX P w K mg base "check_wishes" 5 ["model", "value"] (sp_check_wishes K c_BadWish)) (XK_check_wishes : CalXK P w K mg base "check_wishes" 5 ["model", "value"] ["model", "value"] gK (sp_check_wishes K c_BadWish)) (m_ValueError : mg "ValueError" = none) (m_isinstance : mg "isinstance" = none)
    (g_BadModel : mg "BadModel" = some (.ref c_BadModel)) (g_BadView : mg "BadView" = some (.ref c_BadView)) (g_BadText : mg "BadText" = some (.ref c_BadText)) (g_UnknownName : mg "UnknownName" = some (.ref c_UnknownName)) (g_BadRow : mg "BadRow" = some (.ref c_BadRow)) (g_BadWish : mg "BadWish" = some (.ref c_BadWish)) (g_NothingLeft : mg "NothingLeft" = some (.ref c_NothingLeft)) (g_TooFar : mg "TooFar" = some (.ref c_TooFar)) (g_WrittenError : mg "WrittenError" = some (.ref c_WrittenError)) : Cal P w K mg base "_law_told" 6 ["model", "value", "by_name"] (sp__law_told K) := by
  refine ⟨f, fd, F.ok sc__law_told len__law_told (fun cdv A outer s H vs Q E hr h => ⟨t__law_told K c_BadModel c_BadView c_BadText c_UnknownName c_BadRow c_BadWish c_NothingLeft c_TooFar c_WrittenError, PSs.nox ?_, pure__law_told FF vs H Q E h⟩), F.kp, F.binds (fun _ _ _ _ _ _ us hl => match us, hl with | [_, _, _], _ => rfl), gf⟩
  exact (pss_cons (ps_try_as (i := 4) (tb := fun W => (tAsg (tIf (tB (tVar 2)) (tCallSK (sp_check_wishes K c_BadWish) gK (WE W) (tCons (tVar 0) (tCons (tVar 1) tNil))) (tCallS (sp_check_wishes K c_BadWish) (WE W) (tCons (tVar 0) (tCons (tVar 1) tNil)))) (gName 3))) (ts := fun a cls d D σ H => (cls = .ref c_BadWish ∧ d = none) ∧ ((tSeq (tAsg (tOrV (tCB (rIsiE K a c_BadWish) (tCons (tVar 4) (tCons (tC (.ref c_BadModel)) tNil))) (tOrV (tCB (rIsiE K a c_BadWish) (tCons (tVar 4) (tCons (tC (.ref c_BadRow)) tNil))) (tOrV (tCB (rIsiE K a c_BadWish) (tCons (tVar 4) (tCons (tC (.ref c_NothingLeft)) tNil))) (tCB (rIsiE K a c_BadWish) (tCons (tVar 4) (tCons (tC (.ref c_TooFar)) tNil)))))) (gName 5))
  (tSeq (tAsg (tOrV (tVar 5) (tOrV (tCB (rIsiE K a c_BadWish) (tCons (tVar 4) (tCons (tC (.ref c_BadText)) tNil))) (tOrV (tCB (rIsiE K a c_BadWish) (tCons (tVar 4) (tCons (tC (.ref c_BadView)) tNil))) (tCB (rIsiE K a c_BadWish) (tCons (tVar 4) (tCons (tC (.ref c_UnknownName)) tNil)))))) (gName 5))
  (tRet (tIf (tAnd (tB (tCB (rIsiE K a c_BadWish) (tCons (tVar 4) (tCons (tC (.ref c_WrittenError)) tNil)))) (tAnd (tB (tCB (rIsiE K a c_BadWish) (tCons (tVar 4) (tCons (tC (.ty "ValueError")) tNil)))) (tNot (tB (tVar 5))))) (tC (.str "wish")) (tC (.str "else"))))))) D σ H) (Wout := fun _ _ _ _ => False) rfl rfl sc__law_told.nd rfl rfl ⟨rfl, by decide, .inl g_BadWish⟩ takes0 (fun W pn xe tk _ => (pss_one (ps_set (i := 3) sc__law_told.nd rfl (by first | exact .inl rfl | exact .inr rfl) (pe_ifExp (pt_val (pv 2)) (pe_calXK XK_check_wishes (hr.mono (by decide)) rfl (fun σ => passAt tk σ) (pk_cons (pv 0) (pk_cons (pv 1) pk_nil))) (pe_calX X_check_wishes (hr.mono (by decide)) rfl (fun σ => passAt tk σ) (pa_cons (pv 0) (pa_cons (pv 1) pa_nil))))))) (fun a oe cls d pn hz hf => pss_known (fun hz => (pss_cons (ps_set (i := 5) sc__law_told.nd rfl (by first | exact .inl rfl | exact .inr rfl) (pe_or (pe_callB (call_isiE TE hz hf) (by rfl) m_isinstance (by decide +kernel) (pa_cons (pv 4) (pa_cons (pe_glob rfl g_BadModel rfl) pa_nil))) (pe_or (pe_callB (call_isiE TE hz hf) (by rfl) m_isinstance (by decide +kernel) (pa_cons (pv 4) (pa_cons (pe_glob rfl g_BadRow rfl) pa_nil))) (pe_or (pe_callB (call_isiE TE hz hf) (by rfl) m_isinstance (by decide +kernel) (pa_cons (pv 4) (pa_cons (pe_glob rfl g_NothingLeft rfl) pa_nil))) (pe_one (pe_callB (call_isiE TE hz hf) (by rfl) m_isinstance (by decide +kernel) (pa_cons (pv 4) (pa_cons (pe_glob rfl g_TooFar rfl) pa_nil))))))))
  (pss_cons (ps_set (i := 5) sc__law_told.nd rfl (by first | exact .inl rfl | exact .inr rfl) (pe_or (pv 5) (pe_or (pe_callB (call_isiE TE hz hf) (by rfl) m_isinstance (by decide +kernel) (pa_cons (pv 4) (pa_cons (pe_glob rfl g_BadText rfl) pa_nil))) (pe_or (pe_callB (call_isiE TE hz hf) (by rfl) m_isinstance (by decide +kernel) (pa_cons (pv 4) (pa_cons (pe_glob rfl g_BadView rfl) pa_nil))) (pe_one (pe_callB (call_isiE TE hz hf) (by rfl) m_isinstance (by decide +kernel) (pa_cons (pv 4) (pa_cons (pe_glob rfl g_UnknownName rfl) pa_nil))))))))
  (pss_one (ps_ret (pe_ifExp (PW.pt (pw_and (pt_val (pe_callB (call_isiE TE hz hf) (by rfl) m_isinstance (by decide +kernel) (pa_cons (pv 4) (pa_cons (pe_glob rfl g_WrittenError rfl) pa_nil)))) (pw_and (pt_val (pe_callB (call_isiE TE hz hf) (by rfl) m_isinstance (by decide +kernel) (pa_cons (pv 4) (pa_cons (pe_bltn (by rfl) m_ValueError (by decide +kernel) rfl) pa_nil)))) (pw_and1 (pt_not (pt_val (pv 5))))))) pe_str pe_str)))))) hz))
  (pss_one (ps_ret (pe_ifExp (pt_cmpR op_isN1 (pv 3) pe_non (nomark _)) pe_non pe_str))))

end AW
namespace AW
open PySem PySem.Spec PyProof.Rows L2 RZ
open StX
theorem facts7 {P : Program} {w : World} {K : PySem.W.Frag} {h : Heap} {mg : Str → Option Value} {fa : Addr} (X : K.In h) (G : h.Ns mainGlobals mg) (hfa : mg "law" = some (.ref fa))
    {f0 : Addr} {od0 an0 : Option Addr} {sl0 : Array (Option Value)} {oc0 kV0 dc0 pm0 cd0 ct0 : Value} (a0 : PySem.W.nsIn K mainGlobals "_law_bag" = some (some (.ref f0))) (l0 : K.lookup f0 = some ⟨oc0, od0, .func (PySem.W.fnOf "_law_bag" "_law_bag" (defArgs (topS 29)) (defBody (topS 29)) (defScope (topS 29)) .none kV0 dc0 pm0 an0 cd0 ct0), sl0⟩) (c0 : PySem.W.codeIn K cd0 "_law_bag" = true) (k0 : PySem.W.keepIn K (.ref f0) = true)
    {f1 : Addr} {od1 an1 : Option Addr} {sl1 : Array (Option Value)} {oc1 kV1 dc1 pm1 cd1 ct1 : Value} (a1 : PySem.W.nsIn K mainGlobals "_law_draw" = some (some (.ref f1))) (l1 : K.lookup f1 = some ⟨oc1, od1, .func (PySem.W.fnOf "_law_draw" "_law_draw" (defArgs (topS 30)) (defBody (topS 30)) (defScope (topS 30)) .none kV1 dc1 pm1 an1 cd1 ct1), sl1⟩) (c1 : PySem.W.codeIn K cd1 "_law_draw" = true) (k1 : PySem.W.keepIn K (.ref f1) = true)
    {f2 : Addr} {od2 an2 : Option Addr} {sl2 : Array (Option Value)} {oc2 kV2 dc2 pm2 cd2 ct2 : Value} (a2 : PySem.W.nsIn K mainGlobals "_law_pick" = some (some (.ref f2))) (l2 : K.lookup f2 = some ⟨oc2, od2, .func (PySem.W.fnOf "_law_pick" "_law_pick" (defArgs (topS 31)) (defBody (topS 31)) (defScope (topS 31)) .none kV2 dc2 pm2 an2 cd2 ct2), sl2⟩) (c2 : PySem.W.codeIn K cd2 "_law_pick" = true) (k2 : PySem.W.keepIn K (.ref f2) = true)
    {f3 : Addr} {od3 an3 : Option Addr} {sl3 : Array (Option Value)} {oc3 kV3 dc3 pm3 cd3 ct3 : Value} (a3 : PySem.W.nsIn K mainGlobals "_law_domain" = some (some (.ref f3))) (l3 : K.lookup f3 = some ⟨oc3, od3, .func (PySem.W.fnOf "_law_domain" "_law_domain" (defArgs (topS 34)) (defBody (topS 34)) (defScope (topS 34)) .none kV3 dc3 pm3 an3 cd3 ct3), sl3⟩) (c3 : PySem.W.codeIn K cd3 "_law_domain" = true) (k3 : PySem.W.keepIn K (.ref f3) = true)
    {f4 : Addr} {od4 an4 : Option Addr} {sl4 : Array (Option Value)} {oc4 kV4 dc4 pm4 cd4 ct4 : Value} (a4 : PySem.W.nsIn K mainGlobals "_law_edges" = some (some (.ref f4))) (l4 : K.lookup f4 = some ⟨oc4, od4, .func (PySem.W.fnOf "_law_edges" "_law_edges" (defArgs (topS 41)) (defBody (topS 41)) (defScope (topS 41)) .none kV4 dc4 pm4 an4 cd4 ct4), sl4⟩) (c4 : PySem.W.codeIn K cd4 "_law_edges" = true) (k4 : PySem.W.keepIn K (.ref f4) = true)
    {f5 : Addr} {od5 an5 : Option Addr} {sl5 : Array (Option Value)} {oc5 kV5 dc5 pm5 cd5 ct5 : Value} (a5 : PySem.W.nsIn K mainGlobals "_law_is_int" = some (some (.ref f5))) (l5 : K.lookup f5 = some ⟨oc5, od5, .func (PySem.W.fnOf "_law_is_int" "_law_is_int" (defArgs (topS 36)) (defBody (topS 36)) (defScope (topS 36)) .none kV5 dc5 pm5 an5 cd5 ct5), sl5⟩) (c5 : PySem.W.codeIn K cd5 "_law_is_int" = true) (k5 : PySem.W.keepIn K (.ref f5) = true)
    {f6 : Addr} {od6 an6 : Option Addr} {sl6 : Array (Option Value)} {oc6 kV6 dc6 pm6 cd6 ct6 : Value} (a6 : PySem.W.nsIn K mainGlobals "_law_is_wish" = some (some (.ref f6))) (l6 : K.lookup f6 = some ⟨oc6, od6, .func (PySem.W.fnOf "_law_is_wish" "_law_is_wish" (defArgs (topS 37)) (defBody (topS 37)) (defScope (topS 37)) .none kV6 dc6 pm6 an6 cd6 ct6), sl6⟩) (c6 : PySem.W.codeIn K cd6 "_law_is_wish" = true) (k6 : PySem.W.keepIn K (.ref f6) = true)
    {f7 : Addr} {od7 an7 : Option Addr} {sl7 : Array (Option Value)} {oc7 kV7 dc7 pm7 cd7 ct7 : Value} (a7 : PySem.W.nsIn K mainGlobals "_law_is_right" = some (some (.ref f7))) (l7 : K.lookup f7 = some ⟨oc7, od7, .func (PySem.W.fnOf "_law_is_right" "_law_is_right" (defArgs (topS 38)) (defBody (topS 38)) (defScope (topS 38)) .none kV7 dc7 pm7 an7 cd7 ct7), sl7⟩) (c7 : PySem.W.codeIn K cd7 "_law_is_right" = true) (k7 : PySem.W.keepIn K (.ref f7) = true)
    {f8 : Addr} {od8 an8 : Option Addr} {sl8 : Array (Option Value)} {oc8 kV8 dc8 pm8 cd8 ct8 : Value} (a8 : PySem.W.nsIn K mainGlobals "_law_some" = some (some (.ref f8))) (l8 : K.lookup f8 = some ⟨oc8, od8, .func (PySem.W.fnOf "_law_some" "_law_some" (defArgs (topS 32)) (defBody (topS 32)) (defScope (topS 32)) .none kV8 dc8 pm8 an8 cd8 ct8), sl8⟩) (c8 : PySem.W.codeIn K cd8 "_law_some" = true) (k8 : PySem.W.keepIn K (.ref f8) = true)
    {f9 : Addr} {od9 an9 : Option Addr} {sl9 : Array (Option Value)} {oc9 kV9 dc9 pm9 cd9 ct9 : Value} (a9 : PySem.W.nsIn K mainGlobals "_law_names" = some (some (.ref f9))) (l9 : K.lookup f9 = some ⟨oc9, od9, .func (PySem.W.fnOf "_law_names" "_law_names" (defArgs (topS 33)) (defBody (topS 33)) (defScope (topS 33)) .none kV9 dc9 pm9 an9 cd9 ct9), sl9⟩) (c9 : PySem.W.codeIn K cd9 "_law_names" = true) (k9 : PySem.W.keepIn K (.ref f9) = true)
    {f10 : Addr} {od10 an10 : Option Addr} {sl10 : Array (Option Value)} {oc10 kV10 dc10 pm10 cd10 ct10 : Value} (a10 : PySem.W.nsIn K mainGlobals "_law_spoilt" = some (some (.ref f10))) (l10 : K.lookup f10 = some ⟨oc10, od10, .func (PySem.W.fnOf "_law_spoilt" "_law_spoilt" (defArgs (topS 35)) (defBody (topS 35)) (defScope (topS 35)) .none kV10 dc10 pm10 an10 cd10 ct10), sl10⟩) (c10 : PySem.W.codeIn K cd10 "_law_spoilt" = true) (k10 : PySem.W.keepIn K (.ref f10) = true)
    {f11 : Addr} {od11 an11 : Option Addr} {sl11 : Array (Option Value)} {oc11 kV11 dc11 pm11 cd11 ct11 : Value} (a11 : PySem.W.nsIn K mainGlobals "is_number" = some (some (.ref f11))) (l11 : K.lookup f11 = some ⟨oc11, od11, .func (PySem.W.fnOf "is_number" "is_number" (defArgs (topS 15)) (defBody (topS 15)) (defScope (topS 15)) .none kV11 dc11 pm11 an11 cd11 ct11), sl11⟩) (c11 : PySem.W.codeIn K cd11 "is_number" = true) (k11 : PySem.W.keepIn K (.ref f11) = true)
    {f12 : Addr} {od12 an12 : Option Addr} {sl12 : Array (Option Value)} {oc12 kV12 dc12 pm12 cd12 ct12 : Value} (a12 : PySem.W.nsIn K mainGlobals "is_tuple" = some (some (.ref f12))) (l12 : K.lookup f12 = some ⟨oc12, od12, .func (PySem.W.fnOf "is_tuple" "is_tuple" (defArgs (topS 14)) (defBody (topS 14)) (defScope (topS 14)) .none kV12 dc12 pm12 an12 cd12 ct12), sl12⟩) (c12 : PySem.W.codeIn K cd12 "is_tuple" = true) (k12 : PySem.W.keepIn K (.ref f12) = true)
    {f13 : Addr} {od13 an13 : Option Addr} {sl13 : Array (Option Value)} {oc13 kV13 dc13 pm13 cd13 ct13 : Value} (a13 : PySem.W.nsIn K mainGlobals "_is_term" = some (some (.ref f13))) (l13 : K.lookup f13 = some ⟨oc13, od13, .func (PySem.W.fnOf "_is_term" "_is_term" (defArgs (topS 21)) (defBody (topS 21)) (defScope (topS 21)) .none kV13 dc13 pm13 an13 cd13 ct13), sl13⟩) (c13 : PySem.W.codeIn K cd13 "_is_term" = true) (k13 : PySem.W.keepIn K (.ref f13) = true)
    {f14 : Addr} {od14 an14 : Option Addr} {sl14 : Array (Option Value)} {oc14 kV14 dc14 pm14 cd14 ct14 : Value} (a14 : PySem.W.nsIn K mainGlobals "is_unknown" = some (some (.ref f14))) (l14 : K.lookup f14 = some ⟨oc14, od14, .func (PySem.W.fnOf "is_unknown" "is_unknown" (defArgs (topS 18)) (defBody (topS 18)) (defScope (topS 18)) .none kV14 dc14 pm14 an14 cd14 ct14), sl14⟩) (c14 : PySem.W.codeIn K cd14 "is_unknown" = true) (k14 : PySem.W.keepIn K (.ref f14) = true)
    {f15 : Addr} {od15 an15 : Option Addr} {sl15 : Array (Option Value)} {oc15 kV15 dc15 pm15 cd15 ct15 : Value} (a15 : PySem.W.nsIn K mainGlobals "are_unknowns" = some (some (.ref f15))) (l15 : K.lookup f15 = some ⟨oc15, od15, .func (PySem.W.fnOf "are_unknowns" "are_unknowns" (defArgs (topS 19)) (defBody (topS 19)) (defScope (topS 19)) .none kV15 dc15 pm15 an15 cd15 ct15), sl15⟩) (c15 : PySem.W.codeIn K cd15 "are_unknowns" = true) (k15 : PySem.W.keepIn K (.ref f15) = true)
    {f16 : Addr} {od16 an16 : Option Addr} {sl16 : Array (Option Value)} {oc16 kV16 dc16 pm16 cd16 ct16 : Value} (a16 : PySem.W.nsIn K mainGlobals "are_terms" = some (some (.ref f16))) (l16 : K.lookup f16 = some ⟨oc16, od16, .func (PySem.W.fnOf "are_terms" "are_terms" (defArgs (topS 20)) (defBody (topS 20)) (defScope (topS 20)) .none kV16 dc16 pm16 an16 cd16 ct16), sl16⟩) (c16 : PySem.W.codeIn K cd16 "are_terms" = true) (k16 : PySem.W.keepIn K (.ref f16) = true)
    {f17 : Addr} {od17 an17 : Option Addr} {sl17 : Array (Option Value)} {oc17 kV17 dc17 pm17 cd17 ct17 : Value} (a17 : PySem.W.nsIn K mainGlobals "ascends" = some (some (.ref f17))) (l17 : K.lookup f17 = some ⟨oc17, od17, .func (PySem.W.fnOf "ascends" "ascends" (defArgs (topS 17)) (defBody (topS 17)) (defScope (topS 17)) .none kV17 dc17 pm17 an17 cd17 ct17), sl17⟩) (c17 : PySem.W.codeIn K cd17 "ascends" = true) (k17 : PySem.W.keepIn K (.ref f17) = true)
    {f18 : Addr} {od18 an18 : Option Addr} {sl18 : Array (Option Value)} {oc18 kV18 dc18 pm18 cd18 ct18 : Value} (a18 : PySem.W.nsIn K mainGlobals "is_free_number" = some (some (.ref f18))) (l18 : K.lookup f18 = some ⟨oc18, od18, .func (PySem.W.fnOf "is_free_number" "is_free_number" (defArgs (topS 16)) (defBody (topS 16)) (defScope (topS 16)) .none kV18 dc18 pm18 an18 cd18 ct18), sl18⟩) (c18 : PySem.W.codeIn K cd18 "is_free_number" = true) (k18 : PySem.W.keepIn K (.ref f18) = true)
    {f19 : Addr} {od19 an19 : Option Addr} {sl19 : Array (Option Value)} {oc19 kV19 dc19 pm19 cd19 ct19 : Value} (a19 : PySem.W.nsIn K mainGlobals "_is_wish" = some (some (.ref f19))) (l19 : K.lookup f19 = some ⟨oc19, od19, .func (PySem.W.fnOf "_is_wish" "_is_wish" (defArgs (topS 27)) (defBody (topS 27)) (defScope (topS 27)) .none kV19 dc19 pm19 an19 cd19 ct19), sl19⟩) (c19 : PySem.W.codeIn K cd19 "_is_wish" = true) (k19 : PySem.W.keepIn K (.ref f19) = true)
    {f20 : Addr} {od20 an20 : Option Addr} {sl20 : Array (Option Value)} {oc20 kV20 dc20 pm20 cd20 ct20 : Value} (a20 : PySem.W.nsIn K mainGlobals "domains_of" = some (some (.ref f20))) (l20 : K.lookup f20 = some ⟨oc20, od20, .func (PySem.W.fnOf "domains_of" "domains_of" (defArgs (topS 23)) (defBody (topS 23)) (defScope (topS 23)) .none kV20 dc20 pm20 an20 cd20 ct20), sl20⟩) (c20 : PySem.W.codeIn K cd20 "domains_of" = true) (k20 : PySem.W.keepIn K (.ref f20) = true)
    {f21 : Addr} {od21 an21 : Option Addr} {sl21 : Array (Option Value)} {oc21 kV21 dc21 pm21 cd21 ct21 : Value} (a21 : PySem.W.nsIn K mainGlobals "check_wishes" = some (some (.ref f21))) (l21 : K.lookup f21 = some ⟨oc21, od21, .func (PySem.W.fnOf "check_wishes" "check_wishes" (defArgs (topS 26)) (defBody (topS 26)) (defScope (topS 26)) .none kV21 dc21 pm21 an21 cd21 ct21), sl21⟩) (c21 : PySem.W.codeIn K cd21 "check_wishes" = true) (k21 : PySem.W.keepIn K (.ref f21) = true)
    {f22 : Addr} {od22 an22 : Option Addr} {sl22 : Array (Option Value)} {oc22 kV22 dc22 pm22 cd22 ct22 : Value} (a22 : PySem.W.nsIn K mainGlobals "_law_told" = some (some (.ref f22))) (l22 : K.lookup f22 = some ⟨oc22, od22, .func (PySem.W.fnOf "_law_told" "_law_told" (defArgs (topS 39)) (defBody (topS 39)) (defScope (topS 39)) .none kV22 dc22 pm22 an22 cd22 ct22), sl22⟩) (c22 : PySem.W.codeIn K cd22 "_law_told" = true) (k22 : PySem.W.keepIn K (.ref f22) = true)
    {f23 : Addr} {od23 an23 : Option Addr} {sl23 : Array (Option Value)} {oc23 kV23 dc23 pm23 cd23 ct23 : Value} (a23 : PySem.W.nsIn K mainGlobals "_law_wishes" = some (some (.ref f23))) (l23 : K.lookup f23 = some ⟨oc23, od23, .func (PySem.W.fnOf "_law_wishes" "_law_wishes" (defArgs (topS 40)) (defBody (topS 40)) (defScope (topS 40)) .none kV23 dc23 pm23 an23 cd23 ct23), sl23⟩) (c23 : PySem.W.codeIn K cd23 "_law_wishes" = true) (k23 : PySem.W.keepIn K (.ref f23) = true)
    {f24 : Addr} {od24 an24 : Option Addr} {sl24 : Array (Option Value)} {oc24 kV24 dc24 pm24 cd24 ct24 : Value} (a24 : PySem.W.nsIn K mainGlobals "law" = some (some (.ref f24))) (l24 : K.lookup f24 = some ⟨oc24, od24, .func (PySem.W.fnOf "law" "law" (defArgs (topS 42)) (defBody (topS 42)) (defScope (topS 42)) .none kV24 dc24 pm24 an24 cd24 ct24), sl24⟩) (c24 : PySem.W.codeIn K cd24 "law" = true) (k24 : PySem.W.keepIn K (.ref f24) = true)
    (z_ValueError : PySem.W.nsIn K mainGlobals "ValueError" = some none)
    (z_abs : PySem.W.nsIn K mainGlobals "abs" = some none)
    (z_all : PySem.W.nsIn K mainGlobals "all" = some none)
    (z_bool : PySem.W.nsIn K mainGlobals "bool" = some none)
    (z_int : PySem.W.nsIn K mainGlobals "int" = some none)
    (z_isinstance : PySem.W.nsIn K mainGlobals "isinstance" = some none)
    (z_len : PySem.W.nsIn K mainGlobals "len" = some none)
    (z_list : PySem.W.nsIn K mainGlobals "list" = some none)
    (z_min : PySem.W.nsIn K mainGlobals "min" = some none)
    (z_range : PySem.W.nsIn K mainGlobals "range" = some none)
    (z_set : PySem.W.nsIn K mainGlobals "set" = some none)
    (z_sorted : PySem.W.nsIn K mainGlobals "sorted" = some none)
    (z_str : PySem.W.nsIn K mainGlobals "str" = some none)
    (z_tuple : PySem.W.nsIn K mainGlobals "tuple" = some none)
    (z_type : PySem.W.nsIn K mainGlobals "type" = some none)
    {tk_WEIGHT_BOUND : Tok} (a_WEIGHT_BOUND : PySem.W.nsIn K mainGlobals "WEIGHT_BOUND" = some (some (.int 100 tk_WEIGHT_BOUND)))
    {tk_MOST_NAMES : Tok} (a_MOST_NAMES : PySem.W.nsIn K mainGlobals "MOST_NAMES" = some (some (.int 12 tk_MOST_NAMES)))
    {tk_NUMBER_BOUND : Tok} (a_NUMBER_BOUND : PySem.W.nsIn K mainGlobals "NUMBER_BOUND" = some (some (.int 1000000 tk_NUMBER_BOUND)))
    {tk_MOST_WISHES : Tok} (a_MOST_WISHES : PySem.W.nsIn K mainGlobals "MOST_WISHES" = some (some (.int 3 tk_MOST_WISHES)))
    {c_BadModel c_BadView c_BadText c_UnknownName c_BadRow c_BadWish c_NothingLeft c_TooFar c_WrittenError fI : Addr} {nm q_ : Str} {Nn : Addr} {bs : List Value} {sn : List Str} {sub : List Value} {ab : Bool} {col : Option Bool} {dd : Option Addr} {x0 x1 x2 x3 x5 : Option Value} {gt : Option Value} {odI anI : Option Addr} {slI : Array (Option Value)} {ocI kVI dcI pmI cdI ctI : Value}
    (b_BadModel : PySem.W.nsIn K mainGlobals "BadModel" = some (some (.ref c_BadModel)))
    (b_BadView : PySem.W.nsIn K mainGlobals "BadView" = some (some (.ref c_BadView)))
    (b_BadText : PySem.W.nsIn K mainGlobals "BadText" = some (some (.ref c_BadText)))
    (b_UnknownName : PySem.W.nsIn K mainGlobals "UnknownName" = some (some (.ref c_UnknownName)))
    (b_BadRow : PySem.W.nsIn K mainGlobals "BadRow" = some (some (.ref c_BadRow)))
    (b_BadWish : PySem.W.nsIn K mainGlobals "BadWish" = some (some (.ref c_BadWish)))
    (b_NothingLeft : PySem.W.nsIn K mainGlobals "NothingLeft" = some (some (.ref c_NothingLeft)))
    (b_TooFar : PySem.W.nsIn K mainGlobals "TooFar" = some (some (.ref c_TooFar)))
    (b_WrittenError : PySem.W.nsIn K mainGlobals "WrittenError" = some (some (.ref c_WrittenError)))
    (xL : K.lookup c_BadWish = some (excClassObj nm q_ c_BadWish Nn bs [.ref c_WrittenError, .type "ValueError", .type "Exception", .type "BaseException", .type "object"] true sn sub ab col dd x0 x1 x2 x3 x5 "ValueError.__new__"))
    (sa : PySem.W.findIn K (.ref c_BadWish) "__setattr__" = some (some (.builtin "object.__setattr__")))
    (eC : PySem.W.subIn K (.ref c_BadWish) (.type "BaseException") = some true)
    (tC : PySem.W.typeIn K (.ref c_BadWish) = some (.type "type"))
    (kC : PySem.W.keepIn K (.ref c_BadWish) = true)
    (i1 : PySem.W.findIn K (.ref c_BadWish) "__init__" = some (some (.ref fI)))
    (t1 : PySem.W.typeIn K (.ref fI) = some (.type "function"))
    (lI : K.lookup fI = some ⟨ocI, odI, .func (PySem.W.fnOf "__init__" "BadWish.__init__" (defArgs s_init) (defBody s_init) (defScope s_init) .none kVI dcI pmI anI cdI ctI), slI⟩)
    (cI : PySem.W.codeIn K cdI "BadWish.__init__" = true)
    (kI : PySem.W.keepIn K (.ref fI) = true)
    (cl : PySem.W.isClsIn K c_BadWish = true)
    (ga : PySem.W.findIn K (.ref c_BadWish) "__getattribute__" = some (some (.builtin "BaseException.__getattribute__")))
    (gg : PySem.W.findIn K (.ref c_BadWish) "__getattr__" = some gt)
    (cf : PySem.W.findIn K (.ref c_BadWish) "__class__" = some (some (.builtin "object.__class__")))
    (tk : PySem.W.takesIn K (.builtin "object.__class__") = some true)
    (ob : PySem.W.mroIn K c_BadWish (.type "object") = some true)
    (sC : PySem.W.subIn K (.ref c_BadWish) (.ref c_BadWish) = some true)
    (sV : PySem.W.subIn K (.ref c_BadWish) (.type "ValueError") = some true)
    (wr : PySem.W.readsIn K c_WrittenError (.type "type") = true)
    (wg : PySem.W.specialIn K (.ref c_WrittenError) "__getattribute__" = some (some (.builtin "type.__getattribute__")))
    (wf : PySem.W.findCls K (.ref c_WrittenError) (.type "type") "__init__" = some (.val (.builtin "ValueError.__init__")))
    (n_BadModel : PySem.W.isClsIn K c_BadModel = true)
    (y_BadModel : PySem.W.typeIn K (.ref c_BadModel) = some (.type "type"))
    (s_BadModel : PySem.W.subIn K (.ref c_BadWish) (.ref c_BadModel) = some false)
    (n_BadView : PySem.W.isClsIn K c_BadView = true)
    (y_BadView : PySem.W.typeIn K (.ref c_BadView) = some (.type "type"))
    (s_BadView : PySem.W.subIn K (.ref c_BadWish) (.ref c_BadView) = some false)
    (n_BadText : PySem.W.isClsIn K c_BadText = true)
    (y_BadText : PySem.W.typeIn K (.ref c_BadText) = some (.type "type"))
    (s_BadText : PySem.W.subIn K (.ref c_BadWish) (.ref c_BadText) = some false)
    (n_UnknownName : PySem.W.isClsIn K c_UnknownName = true)
    (y_UnknownName : PySem.W.typeIn K (.ref c_UnknownName) = some (.type "type"))
    (s_UnknownName : PySem.W.subIn K (.ref c_BadWish) (.ref c_UnknownName) = some false)
    (n_BadRow : PySem.W.isClsIn K c_BadRow = true)
    (y_BadRow : PySem.W.typeIn K (.ref c_BadRow) = some (.type "type"))
    (s_BadRow : PySem.W.subIn K (.ref c_BadWish) (.ref c_BadRow) = some false)
    (n_NothingLeft : PySem.W.isClsIn K c_NothingLeft = true)
    (y_NothingLeft : PySem.W.typeIn K (.ref c_NothingLeft) = some (.type "type"))
    (s_NothingLeft : PySem.W.subIn K (.ref c_BadWish) (.ref c_NothingLeft) = some false)
    (n_TooFar : PySem.W.isClsIn K c_TooFar = true)
    (y_TooFar : PySem.W.typeIn K (.ref c_TooFar) = some (.type "type"))
    (s_TooFar : PySem.W.subIn K (.ref c_BadWish) (.ref c_TooFar) = some false)
    (n_WrittenError : PySem.W.isClsIn K c_WrittenError = true)
    (y_WrittenError : PySem.W.typeIn K (.ref c_WrittenError) = some (.type "type"))
    (s_WrittenError : PySem.W.subIn K (.ref c_BadWish) (.ref c_WrittenError) = some true) :
    ∃ fd : FuncData, (∀ (s : Shared) (v : Value), BindsTo s fd ⟨[v], []⟩ [("script", v)]) ∧ ∀ base : Heap, K.In base → base.Ns mainGlobals mg → FnOk P w K mg base CX0 9 fa fd ["script"] (sp_law K) := by
  have F__law_bag := fun_mk (st := topS 29) l0 c0 k0
  have G__law_bag := PySem.W.mg_of X G a0
  have F__law_draw := fun_mk (st := topS 30) l1 c1 k1
  have G__law_draw := PySem.W.mg_of X G a1
  have F__law_pick := fun_mk (st := topS 31) l2 c2 k2
  have G__law_pick := PySem.W.mg_of X G a2
  have F__law_domain := fun_mk (st := topS 34) l3 c3 k3
  have G__law_domain := PySem.W.mg_of X G a3
  have F__law_edges := fun_mk (st := topS 41) l4 c4 k4
  have G__law_edges := PySem.W.mg_of X G a4
  have F__law_is_int := fun_mk (st := topS 36) l5 c5 k5
  have G__law_is_int := PySem.W.mg_of X G a5
  have F__law_is_wish := fun_mk (st := topS 37) l6 c6 k6
  have G__law_is_wish := PySem.W.mg_of X G a6
  have F__law_is_right := fun_mk (st := topS 38) l7 c7 k7
  have G__law_is_right := PySem.W.mg_of X G a7
  have F__law_some := fun_mk (st := topS 32) l8 c8 k8
  have G__law_some := PySem.W.mg_of X G a8
  have F__law_names := fun_mk (st := topS 33) l9 c9 k9
  have G__law_names := PySem.W.mg_of X G a9
  have F__law_spoilt := fun_mk (st := topS 35) l10 c10 k10
  have G__law_spoilt := PySem.W.mg_of X G a10
  have F_is_number := fun_mk (st := topS 15) l11 c11 k11
  have G_is_number := PySem.W.mg_of X G a11
  have F_is_tuple := fun_mk (st := topS 14) l12 c12 k12
  have G_is_tuple := PySem.W.mg_of X G a12
  have F__is_term := fun_mk (st := topS 21) l13 c13 k13
  have G__is_term := PySem.W.mg_of X G a13
  have F_is_unknown := fun_mk (st := topS 18) l14 c14 k14
  have G_is_unknown := PySem.W.mg_of X G a14
  have F_are_unknowns := fun_mk (st := topS 19) l15 c15 k15
  have G_are_unknowns := PySem.W.mg_of X G a15
  have F_are_terms := fun_mk (st := topS 20) l16 c16 k16
  have G_are_terms := PySem.W.mg_of X G a16
  have F_ascends := fun_mk (st := topS 17) l17 c17 k17
  have G_ascends := PySem.W.mg_of X G a17
  have F_is_free_number := fun_mk (st := topS 16) l18 c18 k18
  have G_is_free_number := PySem.W.mg_of X G a18
  have F__is_wish := fun_mk (st := topS 27) l19 c19 k19
  have G__is_wish := PySem.W.mg_of X G a19
  have F_domains_of := fun_mk (st := topS 23) l20 c20 k20
  have G_domains_of := PySem.W.mg_of X G a20
  have F_check_wishes := fun_mk (st := topS 26) l21 c21 k21
  have G_check_wishes := PySem.W.mg_of X G a21
  have F__law_told := fun_mk (st := topS 39) l22 c22 k22
  have G__law_told := PySem.W.mg_of X G a22
  have F__law_wishes := fun_mk (st := topS 40) l23 c23 k23
  have G__law_wishes := PySem.W.mg_of X G a23
  have F_law := fun_mk (st := topS 42) l24 c24 k24
  have G_law := PySem.W.mg_of X G a24
  have m_ValueError := PySem.W.mg_none_of X G z_ValueError
  have m_abs := PySem.W.mg_none_of X G z_abs
  have m_all := PySem.W.mg_none_of X G z_all
  have m_bool := PySem.W.mg_none_of X G z_bool
  have m_int := PySem.W.mg_none_of X G z_int
  have m_isinstance := PySem.W.mg_none_of X G z_isinstance
  have m_len := PySem.W.mg_none_of X G z_len
  have m_list := PySem.W.mg_none_of X G z_list
  have m_min := PySem.W.mg_none_of X G z_min
  have m_range := PySem.W.mg_none_of X G z_range
  have m_set := PySem.W.mg_none_of X G z_set
  have m_sorted := PySem.W.mg_none_of X G z_sorted
  have m_str := PySem.W.mg_none_of X G z_str
  have m_tuple := PySem.W.mg_none_of X G z_tuple
  have m_type := PySem.W.mg_none_of X G z_type
  have G_WEIGHT_BOUND := PySem.W.mg_of X G a_WEIGHT_BOUND
  have G_MOST_NAMES := PySem.W.mg_of X G a_MOST_NAMES
  have G_NUMBER_BOUND := PySem.W.mg_of X G a_NUMBER_BOUND
  have G_MOST_WISHES := PySem.W.mg_of X G a_MOST_WISHES
  have G_BadModel := PySem.W.mg_of X G b_BadModel
  have G_BadView := PySem.W.mg_of X G b_BadView
  have G_BadText := PySem.W.mg_of X G b_BadText
  have G_UnknownName := PySem.W.mg_of X G b_UnknownName
  have G_BadRow := PySem.W.mg_of X G b_BadRow
  have G_BadWish := PySem.W.mg_of X G b_BadWish
  have G_NothingLeft := PySem.W.mg_of X G b_NothingLeft
  have G_TooFar := PySem.W.mg_of X G b_TooFar
  have G_WrittenError := PySem.W.mg_of X G b_WrittenError
  have OX : OexC K c_BadWish := ⟨⟨nm, q_, Nn, bs, _, sn, sub, ab, col, dd, x0, x1, x2, x3, x5, xL, rfl⟩, sa, eC, tC, kC⟩
  have TE : ExI K c_BadWish := ⟨cl, ga, ⟨gt, gg⟩, eC, cf, sp_class, tk, ob⟩
  have TW : WiC K c_WrittenError := ⟨wr, wg, wf⟩
  have FF : ExF K c_BadModel c_BadView c_BadText c_UnknownName c_BadRow c_BadWish c_NothingLeft c_TooFar c_WrittenError := ⟨exm_me eC cl tC sC, kit_no sC n_BadModel y_BadModel s_BadModel, kit_no sC n_BadView y_BadView s_BadView, kit_no sC n_BadText y_BadText s_BadText, kit_no sC n_UnknownName y_UnknownName s_UnknownName, kit_no sC n_BadRow y_BadRow s_BadRow, kit_no sC n_NothingLeft y_NothingLeft s_NothingLeft, kit_no sC n_TooFar y_TooFar s_TooFar, kit_yes n_WrittenError y_WrittenError s_WrittenError, kit_ve sV⟩
  have F_init := fun_mk (st := s_init) lI cI kI
  have e := hfa.symm.trans G_law
  cases e
  refine ⟨PySem.W.fnOf "law" "law" (defArgs (topS 42)) (defBody (topS 42)) (defScope (topS 42)) .none kV24 dc24 pm24 an24 cd24 ct24, fun s v => .of_eq rfl, fun base _ _ => ?_⟩
  have C__law_bag := ok__law_bag (P := P) (w := w) (base := base) F__law_bag G__law_bag  m_abs m_int 
  have C__law_draw := ok__law_draw (P := P) (w := w) (base := base) F__law_draw G__law_draw  m_int m_len 
  have C__law_pick := ok__law_pick (P := P) (w := w) (base := base) F__law_pick G__law_pick C__law_draw m_len 
  have C__law_domain := ok__law_domain (P := P) (w := w) (base := base) F__law_domain G__law_domain C__law_draw C__law_pick m_range m_tuple 
  have C__law_edges := ok__law_edges (P := P) (w := w) (base := base) F__law_edges G__law_edges  m_range m_sorted m_tuple 
  have C__law_is_int := ok__law_is_int (P := P) (w := w) (base := base) F__law_is_int G__law_is_int  m_bool m_int m_isinstance 
  have C__law_is_wish := ok__law_is_wish (P := P) (w := w) (base := base) F__law_is_wish G__law_is_wish C__law_is_int m_isinstance m_len m_str m_tuple 
  have C__law_is_right := ok__law_is_right (P := P) (w := w) (base := base) F__law_is_right G__law_is_right C__law_is_wish m_isinstance m_len m_tuple 
  have C__law_some := ok__law_some (P := P) (w := w) (base := base) F__law_some G__law_some C__law_draw m_len m_list m_range 
  have C__law_names := ok__law_names (P := P) (w := w) (base := base) F__law_names G__law_names C__law_draw C__law_pick C__law_some m_int m_list m_range m_str 
  have C__law_spoilt := ok__law_spoilt (P := P) (w := w) (base := base) F__law_spoilt G__law_spoilt C__law_draw C__law_pick m_abs m_bool m_isinstance m_len m_str m_tuple 
  have C_is_number := ok_is_number (P := P) (w := w) (base := base) F_is_number G_is_number  m_int m_type 
  have C_is_tuple := ok_is_tuple (P := P) (w := w) (base := base) F_is_tuple G_is_tuple  m_len m_tuple m_type 
  have C__is_term := ok__is_term (P := P) (w := w) (base := base) F__is_term G__is_term C_is_number C_is_tuple  G_WEIGHT_BOUND ⟨_, rfl⟩
  have C_is_unknown := ok_is_unknown (P := P) (w := w) (base := base) F_is_unknown G_is_unknown  m_str m_type 
  have C_are_unknowns := ok_are_unknowns (P := P) (w := w) (base := base) F_are_unknowns G_are_unknowns C_is_tuple C_is_unknown m_all m_len m_set 
  have C_are_terms := ok_are_terms (P := P) (w := w) (base := base) F_are_terms G_are_terms C__is_term C_are_unknowns C_is_tuple m_all m_tuple G_MOST_NAMES ⟨_, rfl⟩
  have C_ascends := ok_ascends (P := P) (w := w) (base := base) F_ascends G_ascends  m_all m_len m_range 
  have C_is_free_number := ok_is_free_number (P := P) (w := w) (base := base) F_is_free_number G_is_free_number C_is_number  G_NUMBER_BOUND ⟨_, rfl⟩
  have C__is_wish := ok__is_wish (P := P) (w := w) (base := base) F__is_wish G__is_wish C_are_terms C_ascends C_is_free_number C_is_number C_is_tuple  
  have C_domains_of := ok_domains_of (P := P) (w := w) (base := base) F_domains_of G_domains_of   
  have N_init := ok_init (P := P) (w := w) (base := base) F_init G_WrittenError TW
  have N_check_wishes := ok_check_wishes (P := P) (w := w) (base := base) F_check_wishes C__is_wish C_domains_of C_is_tuple m_all G_MOST_WISHES ⟨_, rfl⟩ OX i1 t1 N_init (F_init.binds (fun _ _ _ _ _ _ us hl => match us, hl with | [_], _ => rfl)) G_BadWish
  have X_check_wishes : CalX P w K mg base "check_wishes" 5 ["model", "value"] (sp_check_wishes K c_BadWish) := ⟨_, _, N_check_wishes, F_check_wishes.kp, F_check_wishes.binds (fun _ _ _ _ _ _ us hl => match us, hl with | [_, _], _ => rfl), G_check_wishes⟩
  have XK_check_wishes : CalXK P w K mg base "check_wishes" 5 ["model", "value"] ["model", "value"] gK (sp_check_wishes K c_BadWish) := ⟨_, _, gK, N_check_wishes, F_check_wishes.kp, AW.Fun.kb F_check_wishes (by decide) (fun _ _ _ _ _ _ us hl => match us, hl with | [_, _], _ => rfl), G_check_wishes⟩
  have C__law_told := ok__law_told (P := P) (w := w) (base := base) FF TE F__law_told G__law_told X_check_wishes XK_check_wishes m_ValueError m_isinstance G_BadModel G_BadView G_BadText G_UnknownName G_BadRow G_BadWish G_NothingLeft G_TooFar G_WrittenError
  have C__law_wishes := ok__law_wishes (P := P) (w := w) (base := base) F__law_wishes G__law_wishes C__law_draw C__law_pick C__law_some m_len m_min m_range m_sorted m_tuple 
  exact ok_law F_law G_law C__law_bag C__law_domain C__law_draw C__law_edges C__law_is_right C__law_names C__law_pick C__law_spoilt C__law_told C__law_wishes m_int m_len m_range m_tuple 
end AW
open PySem PySem.W PyProof.Rows
set_option maxHeartbeats 0 in
theorem PySem.Challenge.cw_aswritten_k11_wishes_checked_holds : PySem.Challenge.rw_aswritten_k11_wishes_checked.Holds := by
  w_on; o_law; k_head; (case hw => w_witness2)
  k_fill
  refine L2.walk_of (l := PySem.Challenge.rw_aswritten_k11_wishes_checked) (n := 63) (k := 9) (x := "script") (CX := fun _ => L2.CX0) (sp := fun w => AW.sp_law _) rfl (by decide) rfl ⟨rfl, by decide, by decide⟩ (fun w h Y => PySem.W.kIn_of Y) ?F (fun _ _ a ns hl _ hS => ⟨a, ns, rfl, hS, hl, fun _ => rfl⟩) (fun _ _ _ _ _ h => h)
  case F =>
    intro w mg fa h KX G hmg
    refine' AW.facts7 KX G hmg ?a0 ?l0 ?c0 ?k0 ?a1 ?l1 ?c1 ?k1 ?a2 ?l2 ?c2 ?k2 ?a3 ?l3 ?c3 ?k3 ?a4 ?l4 ?c4 ?k4 ?a5 ?l5 ?c5 ?k5 ?a6 ?l6 ?c6 ?k6 ?a7 ?l7 ?c7 ?k7 ?a8 ?l8 ?c8 ?k8 ?a9 ?l9 ?c9 ?k9 ?a10 ?l10 ?c10 ?k10 ?a11 ?l11 ?c11 ?k11 ?a12 ?l12 ?c12 ?k12 ?a13 ?l13 ?c13 ?k13 ?a14 ?l14 ?c14 ?k14 ?a15 ?l15 ?c15 ?k15 ?a16 ?l16 ?c16 ?k16 ?a17 ?l17 ?c17 ?k17 ?a18 ?l18 ?c18 ?k18 ?a19 ?l19 ?c19 ?k19 ?a20 ?l20 ?c20 ?k20 ?a21 ?l21 ?c21 ?k21 ?a22 ?l22 ?c22 ?k22 ?a23 ?l23 ?c23 ?k23 ?a24 ?l24 ?c24 ?k24 ?z_ValueError ?z_abs ?z_all ?z_bool ?z_int ?z_isinstance ?z_len ?z_list ?z_min ?z_range ?z_set ?z_sorted ?z_str ?z_tuple ?z_type ?a_WEIGHT_BOUND ?a_MOST_NAMES ?a_NUMBER_BOUND ?a_MOST_WISHES ?b_BadModel ?b_BadView ?b_BadText ?b_UnknownName ?b_BadRow ?b_BadWish ?b_NothingLeft ?b_TooFar ?b_WrittenError ?xL ?sa ?eC ?tC ?kC ?i1 ?t1 ?lI ?cI ?kI ?cl ?ga ?gg ?cf ?tk ?ob ?sC ?sV ?wr ?wg ?wf ?n_BadModel ?y_BadModel ?s_BadModel ?n_BadView ?y_BadView ?s_BadView ?n_BadText ?y_BadText ?s_BadText ?n_UnknownName ?y_UnknownName ?s_UnknownName ?n_BadRow ?y_BadRow ?s_BadRow ?n_NothingLeft ?y_NothingLeft ?s_NothingLeft ?n_TooFar ?y_TooFar ?s_TooFar ?n_WrittenError ?y_WrittenError ?s_WrittenError
    (case a0 => k_is); (case l0 => k_is); (case c0 => k_is); (case k0 => k_is); (case a1 => k_is); (case l1 => k_is); (case c1 => k_is); (case k1 => k_is); (case a2 => k_is); (case l2 => k_is); (case c2 => k_is); (case k2 => k_is); (case a3 => k_is); (case l3 => k_is); (case c3 => k_is); (case k3 => k_is); (case a4 => k_is); (case l4 => k_is); (case c4 => k_is); (case k4 => k_is); (case a5 => k_is); (case l5 => k_is); (case c5 => k_is); (case k5 => k_is); (case a6 => k_is); (case l6 => k_is); (case c6 => k_is); (case k6 => k_is); (case a7 => k_is); (case l7 => k_is); (case c7 => k_is); (case k7 => k_is); (case a8 => k_is); (case l8 => k_is); (case c8 => k_is); (case k8 => k_is); (case a9 => k_is); (case l9 => k_is); (case c9 => k_is); (case k9 => k_is); (case a10 => k_is); (case l10 => k_is); (case c10 => k_is); (case k10 => k_is); (case a11 => k_is); (case l11 => k_is); (case c11 => k_is); (case k11 => k_is); (case a12 => k_is); (case l12 => k_is); (case c12 => k_is); (case k12 => k_is); (case a13 => k_is); (case l13 => k_is); (case c13 => k_is); (case k13 => k_is); (case a14 => k_is); (case l14 => k_is); (case c14 => k_is); (case k14 => k_is); (case a15 => k_is); (case l15 => k_is); (case c15 => k_is); (case k15 => k_is); (case a16 => k_is); (case l16 => k_is); (case c16 => k_is); (case k16 => k_is); (case a17 => k_is); (case l17 => k_is); (case c17 => k_is); (case k17 => k_is); (case a18 => k_is); (case l18 => k_is); (case c18 => k_is); (case k18 => k_is); (case a19 => k_is); (case l19 => k_is); (case c19 => k_is); (case k19 => k_is); (case a20 => k_is); (case l20 => k_is); (case c20 => k_is); (case k20 => k_is); (case a21 => k_is); (case l21 => k_is); (case c21 => k_is); (case k21 => k_is); (case a22 => k_is); (case l22 => k_is); (case c22 => k_is); (case k22 => k_is); (case a23 => k_is); (case l23 => k_is); (case c23 => k_is); (case k23 => k_is); (case a24 => k_is); (case l24 => k_is); (case c24 => k_is); (case k24 => k_is); (case z_ValueError => k_is); (case z_abs => k_is); (case z_all => k_is); (case z_bool => k_is); (case z_int => k_is); (case z_isinstance => k_is); (case z_len => k_is); (case z_list => k_is); (case z_min => k_is); (case z_range => k_is); (case z_set => k_is); (case z_sorted => k_is); (case z_str => k_is); (case z_tuple => k_is); (case z_type => k_is); (case a_WEIGHT_BOUND => k_is); (case a_MOST_NAMES => k_is); (case a_NUMBER_BOUND => k_is); (case a_MOST_WISHES => k_is); (case b_BadModel => k_is); (case b_BadView => k_is); (case b_BadText => k_is); (case b_UnknownName => k_is); (case b_BadRow => k_is); (case b_BadWish => k_is); (case b_NothingLeft => k_is); (case b_TooFar => k_is); (case b_WrittenError => k_is); (case xL => k_is); (case sa => k_is); (case eC => k_is); (case tC => k_is); (case kC => k_is); (case i1 => k_is); (case t1 => k_is); (case lI => k_is); (case cI => k_is); (case kI => k_is); (case cl => k_is); (case ga => k_is); (case gg => k_is); (case cf => k_is); (case tk => k_is); (case ob => k_is); (case sC => k_is); (case sV => k_is); (case wr => k_is); (case wg => k_is); (case wf => k_is); (case n_BadModel => k_is); (case y_BadModel => k_is); (case s_BadModel => k_is); (case n_BadView => k_is); (case y_BadView => k_is); (case s_BadView => k_is); (case n_BadText => k_is); (case y_BadText => k_is); (case s_BadText => k_is); (case n_UnknownName => k_is); (case y_UnknownName => k_is); (case s_UnknownName => k_is); (case n_BadRow => k_is); (case y_BadRow => k_is); (case s_BadRow => k_is); (case n_NothingLeft => k_is); (case y_NothingLeft => k_is); (case s_NothingLeft => k_is); (case n_TooFar => k_is); (case y_TooFar => k_is); (case s_TooFar => k_is); (case n_WrittenError => k_is); (case y_WrittenError => k_is); (case s_WrittenError => k_is)
