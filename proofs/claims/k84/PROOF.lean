import PyProof.Rows.All
import Wide.All
import OpenK.AllK
import Wide.FinOn
import HandS.ForMost
import HandS.DictComp
import HandS.Zip
import HandS.TupAny
import HandS.Style
import HandS.Deep
import HandS.CallLocal
import HandS.More
import HandS.Conv
import HandS.SortInts
import HandS.SortRule
import KE.KRevSl
import HandS.Strs
import HandS.SetFor
import PyProof.Rows.SetFrom
import HandS.ExcInit
import HandS.ExcOwn
import HandS.IsInst
import KE.KExcIs
import KE.KIsAll
import HandS.TupMul
import HandS.Walk
import KE.GoesMore
import KE.KEqDeep
import HandS.Star
import HandS.WordsDict
import HandS.Steps
import PyProof.Rows.StrMeet
import PyProof.TypeEq
import KE.KDictPairs
import HandS.Text
import HandS.Defaults
import HandS.Ends
import PySem.Challenge.RW_aswritten_k84_exchanges_and_turned
set_option Elab.async false
set_option linter.all false
set_option maxRecDepth 100000
set_option maxHeartbeats 4000000
/-! own words over the hand layer: names of readings, calls by a bundle, the lists' in-place store, text times number, keywords alone. -/
namespace AW
open PySem PySem.Spec PyProof.Rows L2

abbrev rAddI : R2 := rI0 fun i j => .int (i + j)
abbrev rSubI : R2 := rI0 fun i j => .int (i - j)
abbrev rMulI : R2 := rI CMul fun i j => .int (i * j)
abbrev rDivI : R2 := rI CDiv fun i j => .int (i / j)
abbrev rModI : R2 := rI (fun _ j => 0 < j) fun i j => .int (i % j)
abbrev rPowI : R2 := rI CPow fun i j => .int (i ^ j.toNat)
abbrev rLtI : R2 := rI0 fun i j => .bl (decide (i < j))
abbrev rLeI : R2 := rI0 fun i j => .bl (decide (i ≤ j))
abbrev rGtI : R2 := rI0 fun i j => .bl (decide (j < i))
abbrev rGeI : R2 := rI0 fun i j => .bl (decide (j ≤ i))
abbrev rNeg : V → Hp → VK → Prop := rU fun i => .int (-i)
def rAddS : R2 := fun x y H Q => ∃ i j, x = .str i ∧ y = .str j ∧ i.length + j.length ≤ sizeLine ∧ Q (.str (i ++ j)) H
theorem op_addS {X : Cx} : OpR X (binaryOp .Add) rAddS := op_add_str
def rLen1 (K : PySem.W.Frag) : List V → Hp → VK → Prop := fun xs H Q => ∃ x n, xs = [x] ∧ LenV K x H n ∧ Q (.int n) H
theorem call_len1 {X : Cx} : CallR X (.builtin "len") (rLen1 X.K) := call_len
def rAbs : List V → Hp → VK → Prop := fun xs H Q => ∃ i, xs = [.int i] ∧ Q (.int (if i < 0 then -i else i)) H
def rInt1 : List V → Hp → VK → Prop := fun xs H Q => (∃ i, xs = [.int i] ∧ Q (.int i) H) ∨ ∃ k, xs = [.bl k] ∧ Q (.int (if k then 1 else 0)) H
def rStr1 : List V → Hp → VK → Prop := fun xs H Q => ∃ i, xs = [.int i] ∧ i.natAbs.log2 < 1920 ∧ Q (.str (toString i)) H
def rMax2 : List V → Hp → VK → Prop := fun xs H Q => ∃ i j, xs = [.int i, .int j] ∧ Q (.int (if j > i then j else i)) H
def rMin2 : List V → Hp → VK → Prop := fun xs H Q => ∃ i j, xs = [.int i, .int j] ∧ Q (.int (if j < i then j else i)) H
def rListOf (K : PySem.W.Frag) : List V → Hp → VK → Prop := fun xs H Q => ∃ p ys, xs = [.ref p] ∧ (SqL K H p ys ∨ SqT K H p ys) ∧ ∀ l, H l = none → Q (.ref l) (upd H l (.lst ys))
theorem call_listOf {X : Cx} : CallR X (.type "list") (rListOf X.K) := call_list_of
def rIxA (K : PySem.W.Frag) : R2 := fun x y H Q => rIxL K x y H Q ∨ rIxT K x y H Q
theorem ix_any {X : Cx} : IxR X (rIxA X.K) := ix_list.or ix_tup
def rIsN : R2 := fun x y H Q => y = .non ∧ Q (.bl (decide (x = .non))) H
theorem op_isN1 {X : Cx} : OpR X (compareOp .Is) rIsN := op_isN
def rJoin (K : PySem.W.Frag) : V → List V → Hp → VK → Prop := fun x xs H Q => ∃ a p, ∃ ys : List Str, x = .str a ∧ xs = [.ref p] ∧ (SqL K H p (ys.map V.str) ∨ SqT K H p (ys.map V.str)) ∧
  (ys.map (·.length)).sum + ys.length * a.length ≤ 16777216 ∧ Q (.str (Txt.join a ys)) H
theorem units64 {A : Around} {k : Nat} (hr : Room k A) : A.units + 64 < cLine := hr.units
section
variable {X : Cx}
theorem pe_joinK {o e : Expr} {to te : TE} {apos pos : Pos} (ho : PE X o to) (he : PE X e te) (hs : starEach [e] X.env = [(false, eval e X.env)] := by rfl) (hbase : attributeBase o "join" X.env (eval o X.env) = eval o X.env := by rfl) (hline : (apos.endLine == pos.line) = true := by rfl) :
    PE X (.Call (.Attribute o "join" apos) [e] [] pos) (tM1 (rJoin X.K) to te) := pe_join ho he hs hbase hline

/-! ### a def by name, with all that a call asks of it -/
structure Cal (P : Program) (w : World) (K : PySem.W.Frag) (mg : Str → Option Value) (base : Heap) (x : Str) (k : Nat) (ps : List Str) (sp : Sp) : Prop where
  ex : ∃ (f : Addr) (fd : FuncData), FnOk P w K mg base CX0 k f fd ps sp ∧ PySem.W.keepIn K (.ref f) = true ∧ Binds K fd ps [] ∧ mg x = some (.ref f)
theorem pe_cal {x : Str} {k : Nat} {ps : List Str} {sp : Sp} {e : Expr} {es : List Expr} {t : TA} {p pos : Pos} (C : Cal X.prog X.w X.K X.mg X.base x k ps sp) (hr : Room k X.A) (hg : Gl X x) (ha : PA X (e :: es) t)
    (hdb : (x == ("__debug__" : Str)) = false := by decide) (he : starEach (e :: es) X.env = (false, eval e X.env) :: starEach es X.env := by rfl) (hpl : (backTo pos (starEach es X.env)).any (·.1) = false := by rfl) :
    PE X (.Call (.Name x p) (e :: es) [] pos) (tCall sp [] E0 t) := by
  refine ⟨fun pins s σ H Q I h => ?_⟩
  obtain ⟨f, fd, F, hk, hb, hm⟩ := C.ex
  exact (pe_call F hr hg hm hk hb .nil pass0 ha hdb he hpl).run pins s σ H Q I h
/-- how keywords alone bind -/
structure CalK (P : Program) (w : World) (K : PySem.W.Frag) (mg : Str → Option Value) (base : Heap) (x : Str) (k : Nat) (ps ks : List Str) (gV : List V → List V → List V) (sp : Sp) : Prop where
  ex : ∃ (f : Addr) (fd : FuncData) (g : List Value → List Value → List Value), FnOk P w K mg base CX0 k f fd ps sp ∧ PySem.W.keepIn K (.ref f) = true ∧ KBinds K fd ps ks g gV ∧ mg x = some (.ref f)
end
end AW
/-! tuple(d): a dict's keys -/
namespace AW
open PySem PySem.Spec PyProof.Rows L2
section
variable {prog : Program} {w : World} {A : Around} {E : Value → Shared → Prop} {s : Shared} {T : String} {r d : Addr} {n : Nat} {P : Nat → Value → Prop} {OK : Heap → Prop}
end
end AW
/-! sorted(t), t a tuple of texts -/
namespace AW
open PySem PySem.Spec PyProof.Rows L2
end AW
/-! list(x), x a text -/
namespace AW
open PySem PySem.Spec PyProof.Rows L2
section
variable {prog : Program} {w : World} {A : Around} {E : Value → Shared → Prop} {s : Shared}
theorem init_list_str {R : Result → Shared → Prop} (hh : A.handled = none) (x : Str) (t : Tok) (S : Addr) (hS : s.heap.get? S = some { cls := .type "list", data := .seq #[] })
    (hR : ∀ h' tk acc' c', (∀ b o, b ≠ S → s.heap.get? b = some o → h'.get? b = some o) → h'.get? S = some { cls := .type "list", dict := none, data := .seq acc' c', slots := #[] } → ItemsOf (SignAt x) acc' x.cps.size → R (.ok (.ret .none)) { s with heap := h', toks := tk }) (hn : x.cps.size ≤ sizeLine) :
    wpAny (model prog w) A.in1 (Builtin.«list.__init__» ⟨[.ref S, .str x t], []⟩)
      (fun fin s' => match fin with | .done f => R (.ok f) s' | .again c' => c'.quiet = true ∧ codeAny (model prog w) A c' R s') (fun e s' => R (.error e) s') s := by
  show wpAny _ _ (do let old ← Builtin.List.listItems (.ref S); Builtin.List.listUpdate (.ref S) (fun _ => #[]); letGo old.toList.reverse; Builtin.List.listExtendWith (.ref S) (.str x t) .none) _ _ s
  refine wpAny_bind ?_
  unfold Builtin.List.listItems
  refine wpAny_bind (wpAny_seqItems hS rfl (wpAny_pure ?_))
  show wpAny _ _ (updateSeq S (fun _ => #[]) >>= fun _ => letGo (#[] : Array Value).toList.reverse >>= fun _ => Builtin.List.listExtendWith (.ref S) (.str x t) .none) _ _ s
  refine wpAny_bind (wpAny_updateSeq hS rfl ?_)
  have hS₂ := Heap.get?_update_self (Obj.mapSeq (fun _ => (#[] : Array Value))) hS rfl
  have oth : ∀ b o, b ≠ S → s.heap.get? b = some o → (s.heap.update S (Obj.mapSeq (fun _ => (#[] : Array Value)))).get? b = some o :=
    fun b o hb e => (Heap.get?_update_other _ _ (Ne.symm hb)).trans e
  refine wpAny_bind (wpAny_letGo ?_)
  unfold Builtin.List.listExtendWith
  refine wpAny_bind (wpAny_typeOf (T := "str") (v := .str x t) rfl ?_)
  have h1 : Builtin.List.listSameRef (.ref S) (.str x t) = false := rfl
  have h2 : (Value.type "str" == Value.type "list") = false := by decide
  have h3 : (Value.type "str" == Value.type "tuple") = false := by decide
  simp only [h1, h2, h3, Bool.or_false, Bool.false_eq_true, if_false]
  refine wpAny_bind (wpAny_pyIter_str fun o St W hst => ?_)
  refine wpAny_bind (wpAny_holding ?_)
  unfold Builtin.List.listLengthHint
  refine wpAny_bind (wpAny_specialOf (T := "str") (v := .str x t) rfl PySem.F.str_len ?_)
  wp_delta
  refine wpAny_bind (wpAny_isInstance (T := "str") (v := .str x t) (b := true) rfl (by rw [isSubtype_type]; kernel_rfl) ?_)
  show wpAny _ A.in1 (typeOf (Value.str x t) >>= _) _ _ _
  refine wpAny_bind (wpAny_typeOf (T := "str") (v := .str x t) rfl ?_)
  refine wpAny_pure ?_
  rw [if_neg (by decide)]
  generalize hH : s.heap.update S (Obj.mapSeq (fun _ => (#[] : Array Value))) = H at W hst hS₂ oth ⊢
  have hSlt := Heap.lt_size hS₂
  have hSf : S ∉ [H.objs.size] := fun hm => by rw [List.mem_singleton.mp hm] at hSlt; exact Nat.lt_irrefl _ hSlt
  have hS3 : (H.push o).get? S = _ := Heap.get?_push_of_some _ hS₂
  refine wpAny_pure ⟨plainId_quiet PySem.F.plain_extend_loop _, codeAny_extend_loopS (W A.in1 hh).toS hn S hSf .none x.cps.size 0 _ #[] _ rfl (Nat.zero_le _) hst hS3 (ItemsOf.nil _) fun s' acc' c' hm hS' hacc => ?_⟩
  rw [Moved.eq_with hm]
  refine hR s'.heap s'.toks acc' c' (fun b ob hb e => hm.heap b ob (fun hmem => ?_) (Heap.get?_push_of_some _ (oth b ob hb e))) hS' hacc
  rcases List.mem_cons.mp hmem with e' | hmem
  · exact hb e'
  · have e3 := Heap.lt_size (oth b ob hb e)
    rw [List.mem_singleton.mp hmem] at e3
    exact Nat.lt_irrefl _ e3
theorem call_list_str {Q : Value → Shared → Prop} (hh : A.handled = none) (x : Str) (t : Tok) (hn : x.cps.size ≤ sizeLine)
    (hQ : ∀ h' tk acc' c', (∀ b o, s.heap.get? b = some o → h'.get? b = some o) → h'.get? s.heap.objs.size = some { cls := .type "list", dict := none, data := .seq acc' c', slots := #[] } → ItemsOf (SignAt x) acc' x.cps.size → Q (.ref s.heap.objs.size) { s with heap := h', toks := tk }) :
    wpAny (model prog w) A (call (.type "list") [.str x t]) Q E s := by
  refine callType_codes (Q₁ := fun obj s₁ => obj = .ref s.heap.objs.size ∧ s₁ = { s with heap := s.heap.push { cls := .type "list", data := .seq #[] } }) PySem.F.called_list (PySem.F.typeCall_list_1 _) PySem.F.entry_list_init
    (code_list_new _ ⟨rfl, rfl⟩) fun obj s₁ h₁ => ?_
  obtain ⟨rfl, rfl⟩ := h₁
  have hS : (s.heap.push { cls := .type "list", data := .seq #[] }).get? s.heap.objs.size = some { cls := .type "list", data := .seq #[] } := Heap.get?_push_size _ rfl
  refine ⟨⟨_, hS, rfl⟩, PySem.F.args_list_init_2 _ _, init_list_str (A := A.in1) hh x t _ hS (fun h' tk acc' c' hk hS' hacc => ?_) hn⟩
  exact ⟨rfl, hQ h' tk acc' c' (fun b o e => hk b o (Nat.ne_of_lt (Heap.lt_size e)) (Heap.get?_push_of_some _ e)) hS' hacc⟩
end
/-- the signs of a text, each as a text -/
def signsOf (x : Str) : List Str := x.cps.toList.map fun c => ⟨#[c]⟩
def rListS : List V → Hp → VK → Prop := fun xs H Q => ∃ x, xs = [.str x] ∧ x.cps.size ≤ sizeLine ∧ ∀ l, H l = none → Q (.ref l) (upd H l (.lst ((signsOf x).map V.str)))
theorem call_listS {X : Cx} (hc : X.calm = true) : CallR X (.type "list") rListS := by
  rintro pins s σ H _ us Q I r ⟨x, rfl, hz, q⟩
  obtain ⟨u, rfl, rx⟩ := vals1 r
  obtain ⟨t, rfl⟩ := rx
  refine call_list_str (I.ok.hd hc) x t hz fun h' tk acc' c' hkeep hS hacc => ?_
  refine ⟨.ref s.heap.objs.size, upd H s.heap.objs.size (.lst ((signsOf x).map V.str)), I.laid hkeep (Nat.le_refl _) (show ObjOk X.prog X.w _ _ _ (.lst ((signsOf x).map V.str)) from ⟨?_, acc'.toList, c', ?_, ?_⟩), rfl, q _ (I.hok.fresh (Nat.le_refl _))⟩
  · unfold signsOf
    rw [List.length_map, List.length_map, Array.length_toList]
    exact hz
  · have el : acc'.toList.length = acc'.size := by simp
    refine vals_of_at (by unfold signsOf; rw [List.length_map, List.length_map, Array.length_toList, el]; exact hacc.1.symm) fun j v w' h1 h2 => ?_
    obtain ⟨c, u, h3, rfl⟩ := hacc.2 j w' (by rw [← Array.getElem?_toList]; exact h2)
    unfold signsOf at h1
    rw [List.getElem?_map, List.getElem?_map, Array.getElem?_toList, h3] at h1
    cases h1
    exact ⟨u, rfl⟩
  · rw [Array.toArray_toList]; exact hS
def rListOfA (K : PySem.W.Frag) : List V → Hp → VK → Prop := fun xs H Q => rListOf K xs H Q ∨ rListS xs H Q
theorem call_listOfA {X : Cx} (hc : X.calm = true) : CallR X (.type "list") (rListOfA X.K) := (call_list_of).or (call_listS hc)
end AW
/-! sorted(l), l a list of tuples whose first items are texts, all different -/
namespace AW
open PySem PySem.Spec PyProof.Rows L2
theorem swo_txt {α : Type} (k : α → Str) : SrtO.Swo fun v u => decide ((k v).cps.toList < (k u).cps.toList) := by
  refine ⟨fun x y h => ?_, fun x y z h1 h2 => ?_⟩
  · exact decide_eq_false fun z => List.lt_asymm (of_decide_eq_true h) z
  · have a := of_decide_eq_false h1
    have b := of_decide_eq_false h2
    refine decide_eq_false fun c => ?_
    have a' := List.not_lt.mp a
    have b' := List.not_lt.mp b
    exact (List.not_lt.mpr (List.le_trans a' b')) c
section
variable {prog : Program} {w : World} {A : Around} {s : Shared}
/-- a tuple whose first item is this text -/
def HeadIs (h : Heap) (v : Value) (x : Str) : Prop := ∃ a o t its n, v = .ref a ∧ h.get? a = some o ∧ o.cls = .type "tuple" ∧ o.data = .seq (Value.str x t :: its).toArray n
theorem kat_selves {b fin : Bool} {Q : Bool → Shared → Prop} (h : Q fin s) : ∀ (vs : List Value) (i : Nat), PySem.W.KatLex prog w A b fin Q (vs.zip vs) i s
  | [], i => PySem.W.kat_nil h
  | v :: vs, i => PySem.W.kat_cons (SeqAt.EqAt.same v prog w _ _ (PySem.W.kat_yes (kat_selves h vs (i + 1))))
theorem head_cmp {vs : List Value} {k : Value → Str} (hp : ∀ v ∈ vs, HeadIs s.heap v (k v)) (hi : ∀ v ∈ vs, ∀ u ∈ vs, k v = k u → v = u) : SrtO.Cmp prog w A s (tuples' true) (fun p => p.1 ∈ vs) (SrtO.lt2 fun v u => decide ((k v).cps.toList < (k u).cps.toList)) := by
  intro p q hm hm'
  have h1 := hp _ hm
  have h2 := hp _ hm'
  have h3 := hi _ hm _ hm'
  show wpAny (model prog w) A (keyLt' (tuples' true) p.1 q.1) (fun r s' => s' = s ∧ r = decide ((k p.1).cps.toList < (k q.1).cps.toList)) (fun _ _ => False) s
  generalize k p.1 = x at h1 h3 ⊢
  generalize k q.1 = y at h2 h3 ⊢
  by_cases e : x = y
  · have epq := h3 e
    subst e
    rw [← epq]
    obtain ⟨a, o, t, its, n, e1, ho, hc, hd⟩ := h1
    rw [e1]
    refine PySem.W.kat_lt ho hd ho hd ?_
    have irr : decide (x.cps.toList < x.cps.toList) = false := decide_eq_false (List.lt_irrefl _)
    rw [irr, show decide (((Value.str x t :: its).toArray).size < ((Value.str x t :: its).toArray).size) = false from decide_eq_false (Nat.lt_irrefl _)]
    exact kat_selves ⟨rfl, rfl⟩ _ 0
  · obtain ⟨a, o, t, its, n, e1, ho, hc, hd⟩ := h1
    obtain ⟨a', o', t', its', n', e1', ho', hc', hd'⟩ := h2
    rw [e1, e1']
    refine PySem.W.kat_lt ho hd ho' hd' ?_
    show PySem.W.KatLex prog w A true _ _ ((Value.str x t, Value.str y t') :: its.zip its') 0 s
    refine PySem.W.kat_cons (wpAny_eqBool_str ?_)
    rw [decide_eq_false e]
    refine PySem.W.kat_no ?_
    exact oneLt_str ⟨rfl, rfl⟩
theorem heads_sortable {a : Addr} {vs : List Value} {k : Value → Str} (h0 : 0 < vs.length) (hp : ∀ v ∈ vs, HeadIs s.heap v (k v)) (hi : ∀ v ∈ vs, ∀ u ∈ vs, k v = k u → v = u) (ha : ∀ o, s.heap.get? a = some o → o.cls ≠ .type "tuple") : SrtO.SortableO prog w A s a vs fun v u => decide ((k v).cps.toList < (k u).cps.toList) := by
  intro h' keep
  have hp' : ∀ v ∈ vs, HeadIs h' v (k v) := fun v hm => by
    obtain ⟨b, o, t, its, n, e, ho, hc, hd⟩ := hp v hm
    exact ⟨b, o, t, its, n, e, keep b o (fun z => by subst z; exact ha o ho hc) ho, hc, hd⟩
  have hf : ∀ us : List Value, (∀ v ∈ us, HeadIs h' v (k v)) → ∃ fs, PySem.W.KatTups h' us fs ∧ fs.length = us.length ∧ ∀ f ∈ fs, ∃ x t, f = Value.str x t := by
    intro us
    induction us with
    | nil => exact fun _ => ⟨[], .nil, rfl, fun f h => nomatch h⟩
    | cons v us ih =>
      intro h
      obtain ⟨fs, h1, h2, h3⟩ := ih fun u hu => h u (List.mem_cons_of_mem _ hu)
      obtain ⟨b, o, t, its, n, e, ho, hc, hd⟩ := h v (List.mem_cons_self ..)
      refine ⟨.str (k v) t :: fs, ?_, by simp [h2], fun f hf => ?_⟩
      · subst e
        exact .cons ho hc hd (by simp) h1
      · rcases List.mem_cons.mp hf with rfl | hf
        · exact ⟨_, _, rfl⟩
        · exact h3 f hf
  obtain ⟨fs, h1, h2, h3⟩ := hf vs hp'
  refine ⟨tuples' true, fun Q E hq => ?_, head_cmp hp' hi⟩
  refine PySem.W.kat_kind (T := .type "str") h1 (by omega) (fun f hm => ?_) (by rfl) ?_
  · obtain ⟨x, t, rfl⟩ := h3 f hm
    exact PySem.W.Looks.now
  · have e : (Value.type "str" != Value.type "tuple") = true := by first | decide +kernel | rfl | decide
    rw [e]
    exact hq
end
/-- sorted(l), l a list of tuples with different texts in front: a new list of the same items -/
def rSortedTN (K : PySem.W.Frag) : List V → Hp → VK → Prop := fun vs H Q => ∃ (a : Addr) (xs : List V) (k : V → Str), vs = [V.ref a] ∧ SqL K H a xs ∧ (∀ x ∈ xs, ∃ t r, x = V.ref t ∧ H t = some (.tup (.str (k x) :: r))) ∧ (∀ x ∈ xs, ∀ y ∈ xs, k x = k y → x = y) ∧ ∀ ys p, ys.Perm xs → H p = none → Q (.ref p) (upd H p (.lst ys))
theorem call_sortedTN {X : Cx} : CallR X (.builtin "sorted") (rSortedTN X.K) := by
  intro pins s σ H vs us Q I r h
  obtain ⟨a, xs, k, rfl, hs, hx, hinj, q⟩ := h
  obtain ⟨its, rv, hl, hz⟩ := I.list hs
  obtain ⟨u, rfl, ru⟩ := vals1 r
  obtain rfl : u = Value.ref a := ru
  obtain ⟨e1, e2⟩ := refs_back rv fun x m => by
    obtain ⟨t, _, e, _⟩ := hx x m
    exact ⟨t, e⟩
  have hmem : ∀ v ∈ its, backV v ∈ xs := fun v hv => by rw [e1]; exact List.mem_map.mpr ⟨_, hv, rfl⟩
  refine SrtO.sorted_ord (swo_txt fun u => k (backV u)) hl.isList (by rw [← rv.length]; exact hz) (fun h2 h₁ a' ha kk => ?_) fun out h1 h2 => ?_
  · refine heads_sortable (s := { s with heap := h₁ }) (k := fun u => k (backV u)) (by omega) (fun v hm => ?_) (fun v hv u hu e => ?_) fun o e => ?_
    · obtain ⟨t, rfl⟩ := e2 v hm
      obtain ⟨t', r', e, ht⟩ := hx _ (hmem _ hm)
      cases e
      obtain ⟨_, its2, r2, o, ho, hc, n, hd⟩ := I.hok _ _ ht
      cases r2 with
      | cons rx rr =>
        obtain ⟨tk, rfl⟩ := rx
        exact ⟨t, o, tk, _, n, rfl, (kk _ _ ho).2, hc, hd⟩
    · have e3 := hinj _ (hmem v hv) _ (hmem u hu) e
      obtain ⟨t, rfl⟩ := e2 v hv
      obtain ⟨t', rfl⟩ := e2 u hu
      have e3 : V.ref t = V.ref t' := e3
      rw [V.ref.inj e3]
    · have e' : some o = some (seqObj "list" its.toArray 0) := e.symm.trans ha
      cases e'
      intro c
      exact absurd (Value.type.inj c) (by decide)
  · have h3 : ∀ u ∈ out, ∃ a, u = Value.ref a := fun u hu => e2 u (h2.perm.mem_iff.mp hu)
    have hperm : (out.map backV).Perm xs := by
      rw [e1]
      exact h2.perm.map backV
    obtain ⟨ep, he'⟩ := PyProof.Rows.sortedAll_at s.heap its out.toArray
    refine ⟨.ref _, upd H (s.heap.objs.size + 1) (.lst (out.map backV)), I.laid (t' := s.toks) (fun _ _ => PyProof.Rows.sortedAll_old) (Nat.le_succ _) ⟨?_, out, ep, vals_back h3, he'⟩, rfl, q _ _ hperm (I.hok.fresh (Nat.le_succ _))⟩
    rw [hperm.length_eq]
    exact hz
end AW
/-! t[::-1] of a tuple; slices and sums of tuples and texts alike -/
namespace AW
open PySem PySem.Spec PyProof.Rows L2 HT
section
variable {prog : Program} {w : World} {A : Around} {E : Value → Shared → Prop} {s : Shared}
end
section
variable {X : Cx}
end
end AW
namespace PySem
namespace STT
open PyProof.Rows
/-! set(t) of a tuple of texts: how many it has -/
section
variable {P : Program} {w : World} {A : Around} {E : Value → Shared → Prop} {s : Shared}
/-- what is told of a set while the first i texts have been put in -/
def Told (P : Program) (w : World) (S : Addr) (xs : List Str) (i : Nat) (h : Heap) : Prop :=
  ∃ c, h.SetOf (strKind P w) S (fun k => decide (k ∈ xs.take i)) c ∧ c ≤ i ∧ (c = i ↔ (xs.take i).Nodup)
theorem Told.at {S : Addr} {xs : List Str} {i : Nat} {h h' : Heap} (x : Told P w S xs i h) (k : ∀ o, h.get? S = some o → h'.get? S = some o) : Told P w S xs i h' := by
  obtain ⟨c, ⟨o, es, ep, tb, ho, r⟩, y⟩ := x
  exact ⟨c, ⟨o, es, ep, tb, k o ho, r⟩, y⟩
end
end STT
end PySem
namespace L2
open PySem PySem.Spec PyProof.Rows
section
variable {X : Cx}
end
end L2
namespace L2
open PySem PySem.Spec PyProof.Rows
/-! exceptions of classes over a class of the program over ValueError -/
/-- the class at W that has no __init__ of its own, above it ValueError -/
structure WiC (K : PySem.W.Frag) (W : Addr) : Prop where
  reads : PySem.W.readsIn K W (.type "type") = true
  ga : PySem.W.specialIn K (.ref W) "__getattribute__" = some (some (.builtin "type.__getattribute__"))
  fi : PySem.W.findCls K (.ref W) (.type "type") "__init__" = some (.val (.builtin "ValueError.__init__"))
section
variable {X : Cx} {o e : Expr} {es : List Expr} {to te : TE} {ta : TA} {f : Str} {p p' p1 p2 pos : Pos}
end
/-! isinstance(e, T) of a caught exception without fields -/
structure ExI (K : PySem.W.Frag) (C : Addr) : Prop where
  cl : (PySem.W.clsIn K C).isSome = true
  ga : PySem.W.findIn K (.ref C) "__getattribute__" = some (some (.builtin "BaseException.__getattribute__"))
  gt : ∃ gt, PySem.W.findIn K (.ref C) "__getattr__" = some gt
  sub : PySem.W.subIn K (.ref C) (.type "BaseException") = some true
  cf : PySem.W.findIn K (.ref C) "__class__" = some (some (.builtin "object.__class__"))
  sp : PySem.W.specialIn K (.builtin "object.__class__") "__get__" = some (some (.builtin "getset_descriptor.__get__"))
  tk : PySem.W.takesIn K (.builtin "object.__class__") = some true
  ob : PySem.W.mroIn K C (.type "object") = some true
end L2
namespace AW
open PySem PySem.Spec PyProof.Rows L2
/-! tuple * number, many times; text < text -/
def rLtS : R2 := fun x y H Q => ∃ i j, x = .str i ∧ y = .str j ∧ Q (.bl (decide (i.cps.toList < j.cps.toList))) H
theorem op_ltS {X : Cx} : OpR X (compareOp .Lt) rLtS := op_lt_str
end AW
/-! heaps that go on, the law's state, readings of one def at a time -/
namespace AW
open PySem PySem.Spec PyProof.Rows L2

/-- what goes on: all but the objects of S; tuples and locked things always -/
structure Adv (S : List Addr) (H H' : Hp) : Prop where
  keep : ∀ a o, a ∉ S → H a = some o → H' a = some o
  tup : ∀ a xs, H a = some (.tup xs) → H' a = some (.tup xs)
theorem Adv.refl (S : List Addr) (H : Hp) : Adv S H H := ⟨fun _ _ _ h => h, fun _ _ h => h⟩
theorem Adv.trans {S : List Addr} {H H1 H2 : Hp} (a : Adv S H H1) (b : Adv S H1 H2) : Adv S H H2 := ⟨fun c o n h => b.keep c o n (a.keep c o n h), fun c xs h => b.tup c xs (a.tup c xs h)⟩
theorem Adv.mono {S S' : List Addr} {H H' : Hp} (a : Adv S H H') (h : ∀ b ∈ S, b ∈ S') : Adv S' H H' := ⟨fun c o n q => a.keep c o (fun m => n (h c m)) q, a.tup⟩
theorem Adv.any {S : List Addr} {H H' : Hp} (a : Adv [] H H') : Adv S H H' := a.mono fun _ h => nomatch h
theorem Adv.new {H : Hp} {p : Addr} {o : HO} (h : H p = none) : Adv [] H (upd H p o) :=
  ⟨fun a u _ e => by rw [upd_ne (ne_of_none e h)]; exact e, fun a xs e => by rw [upd_ne (ne_of_none e h)]; exact e⟩
/-- an object that is no tuple is changed -/
theorem Adv.set {H : Hp} {f : Addr} {o u : HO} (e : H f = some u) (nt : ∀ xs, u ≠ .tup xs) : Adv [f] H (upd H f o) :=
  ⟨fun a v n q => by rw [upd_ne (fun z => n (by rw [z]; exact List.mem_singleton.mpr rfl))]; exact q, fun a xs q => by rw [upd_ne (ne_of q e (nt xs).symm)]; exact q⟩
theorem Adv.lst {H : Hp} {f : Addr} {o : HO} {ys : List V} (e : H f = some (.lst ys)) : Adv [f] H (upd H f o) := Adv.set e (fun _ z => by cases z)
/-- what H does not know yet need not be named -/
theorem Adv.drop {S : List Addr} {f : Addr} {H H' : Hp} (a : Adv (f :: S) H H') (h : H f = none) : Adv S H H' :=
  ⟨fun b o n e => a.keep b o (fun m => by
    rcases List.mem_cons.mp m with z | z
    · rw [z] at e; rw [h] at e; cases e
    · exact n z) e, a.tup⟩
/-- f is new, the rest goes on, f is changed -/
theorem Adv.mut {S : List Addr} {f : Addr} {H H' : Hp} {o u : HO} (a : Adv S H H') (h : H f = none) (e : H' f = some u) (nt : ∀ xs, u ≠ .tup xs) : Adv S H (upd H' f o) :=
  ⟨fun b v n q => by rw [upd_ne (ne_of_none q h)]; exact a.keep b v n q, fun b xs q => by rw [upd_ne (ne_of_none q h)]; exact a.tup b xs q⟩
theorem Adv.free {S : List Addr} {H H' : Hp} {p : Addr} (a : Adv S H H') (hS : p ∉ S) (h : H' p = none) : H p = none := by
  cases q : H p with
  | none => rfl
  | some o =>
    rw [a.keep p o hS q] at h
    cases h
section
variable {K : PySem.W.Frag} {S : List Addr} {H H' : Hp} {a : Addr} {xs : List V}
theorem Adv.sql (e : Adv S H H') (hn : a ∉ S) (h : SqL K H a xs) : SqL K H' a xs := by
  rcases h with (h | ⟨o, h⟩) | h
  · exact .inl (.inl (e.keep _ _ hn h))
  · exact .inl (.inr ⟨o, e.keep _ _ hn h⟩)
  · exact .inr h
end
theorem w_new {H : Hp} {o : HO} {Q : V → Hp → Prop} (h : ∀ p H', H p = none → Adv [] H H' → H' p = some o → Q (.ref p) H') : ∀ p, H p = none → Q (.ref p) (upd H p o) := fun p hp => h p _ hp (Adv.new hp) upd_same

/-! ### the law's pool at st: its cells at cs.1 -/
def StOk (st : Addr) (cs : Addr × Addr) (H : Hp) : Prop := ∃ (i r m l : Int) (ns : List Int),
  H st = some (.lst [.ref cs.1, .int i, .int r, .int m, .int l]) ∧ H cs.1 = some (.lst (ns.map V.int)) ∧ ns.length ≤ 63 ∧ cs.1 ≠ st ∧ cs.2 = cs.1 ∧ 0 ≤ i ∧ 0 ≤ r ∧ 0 ≤ m
def Off (p st : Addr) (cs : Addr × Addr) : Prop := p ≠ st ∧ p ≠ cs.1
theorem Off.not {p st : Addr} {cs : Addr × Addr} (h : Off p st cs) : p ∉ [st, cs.1] := fun z => by
  rcases List.mem_cons.mp z with e | e
  · exact h.1 e
  · exact h.2 (List.mem_singleton.mp e)
/-- a new object is none of them -/
theorem StOk.ne {st : Addr} {cs : Addr × Addr} {p : Addr} {H : Hp} (h : StOk st cs H) (hp : H p = none) : Off p st cs ∧ p ≠ cs.2 := by
  obtain ⟨_, _, _, _, _, h1, h2, _, _, h3, _⟩ := h
  exact ⟨⟨(ne_of_none h1 hp).symm, (ne_of_none h2 hp).symm⟩, by rw [h3]; exact (ne_of_none h2 hp).symm⟩
theorem StOk.keep {st : Addr} {cs : Addr × Addr} {H H' : Hp} {S : List Addr} (h : StOk st cs H) (e : Adv S H H') (h1 : st ∉ S) (h2 : cs.1 ∉ S) (h3 : cs.2 ∉ S) : StOk st cs H' := by
  obtain ⟨i, r, m, l, ns, a, b, d⟩ := h
  exact ⟨i, r, m, l, ns, e.keep _ _ h1 a, e.keep _ _ h2 b, d⟩
/-- the run goes on: the bag alone is changed -/
structure Go (st : Addr) (cs : Addr × Addr) (H H' : Hp) : Prop where
  adv : Adv [st, cs.1] H H'
  ok : StOk st cs H'
section
variable {st : Addr} {cs : Addr × Addr}
theorem Go.refl {H : Hp} (h : StOk st cs H) : Go st cs H H := ⟨.refl _ _, h⟩
theorem Go.trans {H H1 H2 : Hp} (a : Go st cs H H1) (b : Go st cs H1 H2) : Go st cs H H2 := ⟨a.adv.trans b.adv, b.ok⟩
theorem Go.of {H H' : Hp} (h : StOk st cs H) (e : Adv [] H H') : Go st cs H H' := ⟨e.any, h.keep e (fun z => nomatch z) (fun z => nomatch z) fun z => nomatch z⟩
theorem Go.new {H H' : Hp} (a : Go st cs H H') {H2 : Hp} (e : Adv [] H' H2) : Go st cs H H2 := a.trans (.of a.ok e)
theorem Go.mut {f : Addr} {H H' : Hp} {o u : HO} (a : Go st cs H H') (h : H f = none) (e : H' f = some u) (nt : ∀ xs, u ≠ .tup xs) (n1 : Off f st cs) (n2 : f ≠ cs.2) : Go st cs H (upd H' f o) :=
  ⟨a.adv.mut h e nt, a.ok.keep (Adv.set e nt) (fun z => n1.1 (List.mem_singleton.mp z).symm) (fun z => n1.2 (List.mem_singleton.mp z).symm) fun z => n2 (List.mem_singleton.mp z).symm⟩
theorem Go.mutL {f : Addr} {H H' : Hp} {o : HO} {xs : List V} (a : Go st cs H H') (hs : StOk st cs H) (h : H f = none) (e : H' f = some (.lst xs)) : Go st cs H (upd H' f o) :=
  a.mut h e (fun _ z => by cases z) (hs.ne h).1 (hs.ne h).2
theorem Go.mutD {f : Addr} {H H' : Hp} {o : HO} {xs : List (Key × V)} (a : Go st cs H H') (hs : StOk st cs H) (h : H f = none) (e : H' f = some (.dK xs)) : Go st cs H (upd H' f o) :=
  a.mut h e (fun _ z => by cases z) (hs.ne h).1 (hs.ne h).2
theorem Go.mutT {f : Addr} {H H' : Hp} {o : HO} {xs : List (List L2.Key × V)} (a : Go st cs H H') (hs : StOk st cs H) (h : H f = none) (e : H' f = some (.dT xs)) : Go st cs H (upd H' f o) :=
  a.mut h e (fun _ z => by cases z) (hs.ne h).1 (hs.ne h).2
theorem Go.keep {a : Addr} {H H' : Hp} {o : HO} (g : Go st cs H H') (n : Off a st cs) (h : H a = some o) : H' a = some o := g.adv.keep a o n.not h
theorem Go.sql {a : Addr} {K : PySem.W.Frag} {H H' : Hp} {xs : List V} (g : Go st cs H H') (n : Off a st cs) (h : SqL K H a xs) : SqL K H' a xs := g.adv.sql n.not h
theorem Go.free {p : Addr} {H H' : Hp} (g : Go st cs H H') (hs : StOk st cs H) (h : H' p = none) : H p = none := g.adv.free (g.ok.ne h).1.not h
theorem StOk.notD {a : Addr} {H : Hp} {o : HO} (h : StOk st cs H) (e : H a = some o) (no : ∀ xs, o ≠ .lst xs) : Off a st cs := by
  obtain ⟨_, _, _, _, _, h1, h2, _⟩ := h
  exact ⟨ne_of e h1 (no _), ne_of e h2 (no _)⟩
end
end AW
/-! one step of a reading at a time -/
namespace AW
open PySem PySem.Spec PyProof.Rows L2
section
variable {σ : L2.St} {H : Hp} {Q : VK} {ta tb te : TE} {t u : TT} {D : Ends} {t1 t2 : TS} {K : PySem.W.Frag}
theorem w_var {i : Nat} {v : V} (h : σ[i]? = some (some v)) (q : Q v H) : tVar i σ H Q := ⟨v, h, q⟩
theorem w_c {v : V} (q : Q v H) : tC v σ H Q := q
theorem w_op {r : R2} (h : ta σ H fun x H1 => tb σ H1 fun y H2 => r x y H2 Q) : tOp r ta tb σ H Q := h
theorem w_un {r : V → Hp → VK → Prop} (h : ta σ H fun x H1 => r x H1 Q) : tUn r ta σ H Q := h
theorem w_I0 {g : Int → Int → V} {i j : Int} (q : Q (g i j) H) : rI0 g (.int i) (.int j) H Q := ⟨i, j, rfl, rfl, q⟩
theorem w_I {C : Int → Int → Prop} {g : Int → Int → V} {i j : Int} (c : C i j) (q : Q (g i j) H) : rI C g (.int i) (.int j) H Q := ⟨i, j, rfl, rfl, c, q⟩
theorem w_U {g : Int → V} {i : Int} (q : Q (g i) H) : rU g (.int i) H Q := ⟨i, rfl, q⟩
theorem w_cb {r : List V → Hp → VK → Prop} {a : TA} (h : a σ H fun vs H1 => r vs H1 Q) : tCB r a σ H Q := h
theorem w_nil {Q : List V → Hp → Prop} (q : Q [] H) : tNil σ H Q := q
theorem w_cons {Q : List V → Hp → Prop} {a : TA} (h : ta σ H fun x H1 => a σ H1 fun xs H2 => Q (x :: xs) H2) : tCons ta a σ H Q := h
theorem w_call {sp : Sp} {E : XK} {a : TA} (h : a σ H fun vs H1 => sp vs H1 Q E) : tCall sp [] E a σ H Q := by
  show a σ H fun vs H1 => sp (vs ++ []) H1 Q E
  have e : (fun (vs : List V) (H1 : Hp) => sp (vs ++ []) H1 Q E) = fun vs H1 => sp vs H1 Q E := by
    funext vs H1
    rw [List.append_nil]
  rw [e]
  exact h
theorem w_test {Q : Bool → Hp → Prop} (h : te σ H fun x H1 => ∃ k, x = .bl k ∧ Q k H1) : tTest te σ H Q := h
theorem w_B {Q : Bool → Hp → Prop} (h : te σ H fun x H1 => ∃ k, x = .bl k ∧ Q k H1) : tB te σ H Q := h
theorem w_bl {k : Bool} {P : Bool → Prop} (q : P k) : ∃ k', V.bl k = .bl k' ∧ P k' := ⟨k, rfl, q⟩
theorem w_yes {Q : Bool → Hp → Prop} (q : Q true H) : tYes σ H Q := q
theorem w_not {Q : Bool → Hp → Prop} (h : t σ H fun c H1 => Q (!c) H1) : tNot t σ H Q := h
theorem w_and {Q : Bool → Hp → Prop} (h : t σ H fun c H1 => if c = true then u σ H1 Q else Q false H1) : tAnd t u σ H Q := h
theorem w_or {Q : Bool → Hp → Prop} (h : t σ H fun c H1 => if c = true then Q true H1 else u σ H1 Q) : tOr t u σ H Q := h
theorem w_andV (h : ta σ H fun x H1 => ∃ c, x = .bl c ∧ if c = true then tb σ H1 Q else Q (.bl false) H1) : tAndV ta tb σ H Q := h
theorem w_orV (h : ta σ H fun x H1 => ∃ c, x = .bl c ∧ if c = true then Q (.bl true) H1 else tb σ H1 Q) : tOrV ta tb σ H Q := h
theorem w_notV (h : ta σ H fun x H1 => ∃ c, x = .bl c ∧ Q (.bl (!c)) H1) : tNotV ta σ H Q := h
theorem w_if (h : t σ H fun c H1 => if c = true then ta σ H1 Q else tb σ H1 Q) : tIf t ta tb σ H Q := h
def kTupD (xs : List V) (H : Hp) (Q : VK) : Prop := xs.length ≤ sizeLine ∧ ∀ p, H p = none → Q (.ref p) (upd H p (.tup xs))
theorem w_tup {a : TA} (h : a σ H fun xs H1 => kTupD xs H1 Q) : tTup a σ H Q := h
def kLstD (xs : List V) (H : Hp) (Q : VK) : Prop := xs.length ≤ sizeLine ∧ ∀ p, H p = none → Q (.ref p) (upd H p (.lst xs))
theorem w_lst {a : TA} (h : a σ H fun xs H1 => kLstD xs H1 Q) : tLst a σ H Q := h
theorem w_int1 {i : Int} (q : Q (.int i) H) : rInt1 [.int i] H Q := .inl ⟨i, rfl, q⟩
theorem w_int1b {k : Bool} (q : Q (.int (if k then 1 else 0)) H) : rInt1 [.bl k] H Q := .inr ⟨k, rfl, q⟩
theorem w_abs {i : Int} (q : Q (.int (if i < 0 then -i else i)) H) : rAbs [.int i] H Q := ⟨i, rfl, q⟩
theorem w_max2 {i j : Int} (q : Q (.int (if j > i then j else i)) H) : rMax2 [.int i, .int j] H Q := ⟨i, j, rfl, q⟩
theorem w_min2 {i j : Int} (q : Q (.int (if j < i then j else i)) H) : rMin2 [.int i, .int j] H Q := ⟨i, j, rfl, q⟩
theorem w_eq {x y : V} (h : scal x y = true) (q : Q (.bl (decide (x = y))) H) : rEq x y H Q := ⟨h, q⟩
theorem w_ne {x y : V} (h : scal x y = true) (q : Q (.bl (!decide (x = y))) H) : rNe x y H Q := ⟨h, q⟩
theorem w_isN {x : V} (q : Q (.bl (decide (x = .non))) H) : rIsN x .non H Q := ⟨rfl, q⟩
theorem w_isB {a b : Bool} (q : Q (.bl (decide (a = b))) H) : rIsB (.bl a) (.bl b) H Q := ⟨a, b, rfl, rfl, q⟩
theorem w_chain {r r' : R2} {tc : TE} (h : ta σ H fun x H1 => tb σ H1 fun y H2 => r x y H2 fun z H3 => ∃ k, z = .bl k ∧ (if k = true then tc σ H3 fun w' H4 => r' y w' H4 Q else Q (.bl false) H3)) : tChain r r' ta tb tc σ H Q := h
/-- a list's item at a place -/
theorem w_ixL {p : Addr} {xs : List V} {i : Int} {v : V} (h : SqL K H p xs) (e : atI xs i = some v) (q : Q v H) : rIxL K (.ref p) (.int i) H Q := ⟨p, xs, i, v, rfl, rfl, h, e, q⟩
theorem w_ixT {p : Addr} {xs : List V} {i : Int} {v : V} (h : SqT K H p xs) (e : atI xs i = some v) (q : Q v H) : rIxT K (.ref p) (.int i) H Q := ⟨p, xs, i, v, rfl, rfl, h, e, q⟩
theorem w_lenL {p : Addr} {xs : List V} (h : SqL K H p xs) (q : Q (.int (xs.length : Nat)) H) : rLen1 K [.ref p] H Q := ⟨.ref p, xs.length, rfl, .inl ⟨xs, h, rfl⟩, q⟩
theorem w_lenT {p : Addr} {xs : List V} (h : SqT K H p xs) (q : Q (.int (xs.length : Nat)) H) : rLen1 K [.ref p] H Q := ⟨.ref p, xs.length, rfl, .inr ⟨xs, h, rfl⟩, q⟩
/-! statements -/
theorem w_seq (h : t1 { D with nx := t2 D } σ H) : tSeq t1 t2 D σ H := h
theorem w_next (q : D.nx σ H) : tNext D σ H := q
theorem w_ret (h : te σ H D.rt) : tRet te D σ H := h
theorem w_drop (h : te σ H fun _ H1 => D.nx σ H1) : tDrop te D σ H := h
theorem w_asg {g : TG} (h : te σ H fun x H1 => g x σ H1 D.nx) : tAsg te g D σ H := h
theorem w_gname {i : Nat} {v : V} {Q : L2.St → Hp → Prop} (q : Q (σ.set i (some v)) H) : gName i v σ H Q := q
theorem w_ifS (h : t σ H fun b H1 => if b = true then t1 D σ H1 else t2 D σ H1) : tIfS t t1 t2 D σ H := h
theorem w_gsub {s : TSet} {v : V} {Q : L2.St → Hp → Prop} (h : ta σ H fun o H1 => tb σ H1 fun i H2 => s o i v H2 fun H3 => Q σ H3) : gSub ta tb s v σ H Q := h
theorem w_setL {p : Addr} {xs : List V} {k : Int} {j : Nat} {v : V} {Q : Hp → Prop} (h : H p = some (.lst xs)) (e : ixN xs.length k = some j) (q : Q (upd H p (.lst (xs.set j v)))) : rSetL (.ref p) (.int k) v H Q := ⟨p, xs, k, j, rfl, rfl, h, e, q⟩
theorem w_augS {to ti : TE} {tget : V → V → Hp → VK → Prop} {tip : TIp} {tset : TSet} (h : to σ H fun o H1 => ti σ H1 fun i H2 => tget o i H2 fun x H3 => te σ H3 fun y H4 => tip x y H4 fun z H5 => tset o i z H5 fun H6 => D.nx σ H6) : tAugS to ti te tget tip tset D σ H := h
theorem w_ipI {f : Int → Int → Int} {i j : Int} (q : Q (.int (f i j)) H) : ipI f (.int i) (.int j) H Q := ⟨i, j, rfl, rfl, q⟩
theorem w_iteB {c : Prop} [Decidable c] {A B : Prop} (h1 : c → A) (h2 : ¬c → B) : if (decide c) = true then A else B := ite2 (fun h => h1 (of_decide_eq_true h)) fun h => h2 fun z => h (decide_eq_true z)
/-! slices, lists joined, append -/
theorem w_sl {r : V → Option Int → Option Int → Hp → VK → Prop} {tl th : TO} (h : te σ H fun x H1 => tl σ H1 fun l H2 => th σ H2 fun u H3 => r x l u H3 Q) : tSl r te tl th σ H Q := h
theorem w_part {Q : Option Int → Hp → Prop} (h : te σ H fun x H1 => ∃ i, x = .int i ∧ Q (some i) H1) : tPart te σ H Q := h
theorem w_noPart {Q : Option Int → Hp → Prop} (q : Q none H) : tNoPart σ H Q := q
theorem w_in {i : Int} {P : Int → Prop} (q : P i) : ∃ k, V.int i = .int k ∧ P k := ⟨i, rfl, q⟩
theorem w_cat {a b : Addr} {xs ys : List V} (h1 : H a = some (.lst xs)) (h2 : H b = some (.lst ys)) (hz : xs.length + ys.length ≤ 100000) (q : ∀ r H', H r = none → Adv [] H H' → H' r = some (.lst (xs ++ ys)) → Q (.ref r) H') : rCat (.ref a) (.ref b) H Q :=
  ⟨a, b, xs, ys, rfl, rfl, h1, h2, Nat.le_trans hz (by decide), w_new q⟩
theorem w_listOf {p : Addr} {xs : List V} (h : SqL K H p xs ∨ SqT K H p xs) (q : ∀ r H', H r = none → Adv [] H H' → H' r = some (.lst xs) → Q (.ref r) H') : rListOf K [.ref p] H Q := ⟨p, xs, rfl, h, w_new q⟩
theorem w_app {i : Nat} {l : Addr} {xs0 : List V} {a : TA} (hσ : σ[i]? = some (some (.ref l))) (h0 : H l = some (.lst xs0)) (h : a σ H fun vs H2 => rAppend (.ref l) vs H2 Q) : tBM K "list" rAppend (tVar i) a σ H Q :=
  ⟨.ref l, hσ, .inl ⟨rfl, xs0, SqL.of h0⟩, h⟩
theorem w_append {l : Addr} {xs : List V} {y : V} (h : H l = some (.lst xs)) (hz : xs.length < 100000) (q : Q .non (upd H l (.lst (xs ++ [y])))) : rAppend (.ref l) [y] H Q :=
  ⟨l, xs, y, rfl, rfl, h, Nat.lt_of_lt_of_le hz (by decide), q⟩
theorem w_lstD {xs : List V} (hz : xs.length ≤ 100000) (q : ∀ r H', H r = none → Adv [] H H' → H' r = some (.lst xs) → Q (.ref r) H') : kLstD xs H Q := ⟨Nat.le_trans hz (by decide), w_new q⟩
theorem w_tupD {xs : List V} (hz : xs.length ≤ 100000) (q : ∀ r H', H r = none → Adv [] H H' → H' r = some (.tup xs) → Q (.ref r) H') : kTupD xs H Q := ⟨Nat.le_trans hz (by decide), w_new q⟩
/-! loops -/
def kFor (J : It) (g : TG) (tb : TS) (D : Ends) (σ : L2.St) (H1 : Hp) : Prop := ∃ W : Nat → Nat → L2.St → Hp → Prop, (∃ m, W 0 m σ H1) ∧ ∀ i m σ H, W i m σ H →
  (J.stop i H ∧ D.nx σ H) ∨ (J.go i H ∧ ∃ N : L2.St → Hp → Prop, (∀ σ' H', N σ' H' → ∃ m', m' < m ∧ W (i + 1) m' σ' H') ∧ ∀ v H', J.yld i H v H' → g v σ H' fun σ2 H2 => tb { D with nx := N, ct := N, bk := D.nx } σ2 H2)
def kForR (g : TG) (tb : TS) (D : Ends) (σ : L2.St) (vs : List V) (H1 : Hp) : Prop := ∃ j : Int, vs = [.int j] ∧ -(2 ^ 62) ≤ j ∧ j < 2 ^ 62 ∧ kFor (Itr 0 j.toNat) g tb D σ H1
theorem w_forR {a : TA} {g : TG} {tb : TS} (h : a σ H (kForR g tb D σ)) : tFor (iRng1 a) g tb D σ H := h
theorem kForR_i {n : Nat} {j : Nat} {tb : TS} (hn : n ≤ 1000000) (Pv : Nat → L2.St → Hp → Prop) (h0 : Pv 0 σ H) (hs : ∀ i σ' H', i < n → Pv i σ' H' → tb { D with nx := Pv (i + 1), ct := Pv (i + 1), bk := D.nx } (σ'.set j (some (.int (i : Nat)))) H')
    (hd : ∀ σ' H', Pv n σ' H' → D.nx σ' H') : kForR (gName j) tb D σ [.int (n : Nat)] H := by
  refine ⟨n, rfl, by omega, by omega, ?_⟩
  have e : ((n : Nat) : Int).toNat = n := by omega
  rw [e]
  refine for_range (lo := 0) (n := n) Pv h0 (fun i σ' H' hi p => ?_) hd
  show tb { D with nx := Pv (i + 1), ct := Pv (i + 1), bk := D.nx } (σ'.set j (some (.int ((0 : Int) + (i : Nat))))) H'
  rw [Int.zero_add]
  exact hs i σ' H' hi p
def kForR2 (g : TG) (tb : TS) (D : Ends) (σ : L2.St) (vs : List V) (H1 : Hp) : Prop := ∃ i j : Int, vs = [.int i, .int j] ∧ (-(2 ^ 62) ≤ i ∧ i < 2 ^ 62 ∧ -(2 ^ 62) ≤ j ∧ j < 2 ^ 62) ∧ kFor (Itr i (j - i).toNat) g tb D σ H1
theorem w_forR2 {a : TA} {g : TG} {tb : TS} (h : a σ H (kForR2 g tb D σ)) : tFor (iRng2 a) g tb D σ H := h
def kForL (K : PySem.W.Frag) (g : TG) (tb : TS) (D : Ends) (σ : L2.St) (x : V) (H1 : Hp) : Prop := ∃ a, x = .ref a ∧ (∃ xs, SqL K H1 a xs) ∧ kFor (Itl K a) g tb D σ H1
theorem w_forL {tl : TE} {g : TG} {tb : TS} (h : tl σ H (kForL K g tb D σ)) : tFor (iList K tl) g tb D σ H := h
theorem kForL_i {p : Addr} {xs : List V} {g : TG} {tb : TS} (Pv : Nat → L2.St → Hp → Prop) (hp : SqL K H p xs) (h0 : Pv 0 σ H) (hl : ∀ i σ' H', i ≤ xs.length → Pv i σ' H' → SqL K H' p xs)
    (hs : ∀ i v σ' H', xs[i]? = some v → Pv i σ' H' → g v σ' H' fun σ2 H2 => tb { D with nx := Pv (i + 1), ct := Pv (i + 1), bk := D.nx } σ2 H2) (hd : ∀ σ' H', Pv xs.length σ' H' → D.nx σ' H') : kForL K g tb D σ (.ref p) H :=
  ⟨p, rfl, ⟨xs, hp⟩, for_list Pv h0 hl hs hd⟩
def kForT (K : PySem.W.Frag) (g : TG) (tb : TS) (D : Ends) (σ : L2.St) (x : V) (H1 : Hp) : Prop := ∃ a, x = .ref a ∧ (∃ xs, SqT K H1 a xs) ∧ kFor (Itt K a) g tb D σ H1
theorem w_forT {tl : TE} {g : TG} {tb : TS} (h : tl σ H (kForT K g tb D σ)) : tFor (iTup K tl) g tb D σ H := h
theorem kForT_i {p : Addr} {xs : List V} {g : TG} {tb : TS} (Pv : Nat → L2.St → Hp → Prop) (hp : SqT K H p xs) (h0 : Pv 0 σ H) (hl : ∀ i σ' H', i ≤ xs.length → Pv i σ' H' → SqT K H' p xs)
    (hs : ∀ i v σ' H', xs[i]? = some v → Pv i σ' H' → g v σ' H' fun σ2 H2 => tb { D with nx := Pv (i + 1), ct := Pv (i + 1), bk := D.nx } σ2 H2) (hd : ∀ σ' H', Pv xs.length σ' H' → D.nx σ' H') : kForT K g tb D σ (.ref p) H :=
  ⟨p, rfl, ⟨xs, hp⟩, for_tup Pv h0 hl hs hd⟩
/-! comprehensions -/
def kLc (J : It) (g : TG) (tt : TT) (te : TE) (vs : List Nat) (σ : L2.St) (Q : VK) (H1 : Hp) : Prop := ∀ D, H1 D = none → ∃ W : Nat → Nat → Hp → Prop, (∃ m, W 0 m (upd H1 D (.lst []))) ∧ ∀ i m H, W i m H →
  (J.stop i H ∧ Q (.ref D) H) ∨ (J.go i H ∧ ∃ Nx : Hp → Prop, (∀ H', Nx H' → ∃ m', m' < m ∧ W (i + 1) m' H') ∧ ∀ x H', J.yld i H x H' → g x (wipe σ vs) H' fun σ2 H2 => wipe σ2 vs = wipe σ vs ∧ tt σ2 H2 fun b H3 =>
    if b = true then te σ2 H3 fun y H4 => ∃ acc, H4 D = some (.lst acc) ∧ acc.length < sizeLine ∧ Nx (upd H4 D (.lst (acc ++ [y]))) else Nx H3)
def kLcR (g : TG) (tt : TT) (te : TE) (vs : List Nat) (σ : L2.St) (Q : VK) (ws : List V) (H1 : Hp) : Prop := ∃ j : Int, ws = [.int j] ∧ -(2 ^ 62) ≤ j ∧ j < 2 ^ 62 ∧ kLc (Itr 0 j.toNat) g tt te vs σ Q H1
def kLcL (K : PySem.W.Frag) (g : TG) (tt : TT) (te : TE) (vs : List Nat) (σ : L2.St) (Q : VK) (x : V) (H1 : Hp) : Prop := ∃ a, x = .ref a ∧ (∃ xs, SqL K H1 a xs) ∧ kLc (Itl K a) g tt te vs σ Q H1
def kLcT (K : PySem.W.Frag) (g : TG) (tt : TT) (te : TE) (vs : List Nat) (σ : L2.St) (Q : VK) (x : V) (H1 : Hp) : Prop := ∃ a, x = .ref a ∧ (∃ xs, SqT K H1 a xs) ∧ kLc (Itt K a) g tt te vs σ Q H1
theorem w_lcR {a : TA} {g : TG} {vs : List Nat} (h : a σ H (kLcR g t te vs σ Q)) : tLc (iRng1 a) g t te vs σ H Q := h
theorem w_lcL {tl : TE} {g : TG} {vs : List Nat} (h : tl σ H (kLcL K g t te vs σ Q)) : tLc (iList K tl) g t te vs σ H Q := h
theorem w_lcT {tl : TE} {g : TG} {vs : List Nat} (h : tl σ H (kLcT K g t te vs σ Q)) : tLc (iTup K tl) g t te vs σ H Q := h
/-- a list is made, turn by turn, while the run goes on: R tells of each item that is given, at the places that are taken -/
structure Mk (st : Addr) (cs : Addr × Addr) (H0 : Hp) (R : Nat → V → Hp → Prop) (l : Addr) (i : Nat) (H : Hp) : Prop where
  go : Go st cs H0 H
  new : H0 l = none
  ok0 : StOk st cs H0
  at_ : ∃ (ks : List Nat) (ys : List V), H l = some (.lst ys) ∧ ks.length = ys.length ∧ ks.Pairwise (· < ·) ∧ (∀ k ∈ ks, k < i) ∧ ∀ (m : Nat) k v, ks[m]? = some k → ys[m]? = some v → R k v H
end
end AW
/-! data that stand in tuples; lists made by comprehensions while the run goes on -/
namespace AW
open PySem PySem.Spec PyProof.Rows L2

/-- tuples are kept -/
def TK (H H' : Hp) : Prop := ∀ a xs, H a = some (.tup xs) → H' a = some (.tup xs)
theorem TK.refl (H : Hp) : TK H H := fun _ _ h => h
theorem TK.trans {H H1 H2 : Hp} (a : TK H H1) (b : TK H1 H2) : TK H H2 := fun c xs h => b c xs (a c xs h)
theorem Go.tk {st : Addr} {cs : Addr × Addr} {H H' : Hp} (g : Go st cs H H') : TK H H' := g.adv.tup
mutual
/-- the value stands for the datum: scalars, and tuples of such -/
inductive Is (H : Hp) : PyData → V → Prop where
  | non : Is H .none .non
  | bl (b : Bool) : Is H (.bool b) (.bl b)
  | int (i : Int) : Is H (.int i) (.int i)
  | str (x : Str) : Is H (.str x) (.str x)
  | tup {a : Addr} {xs : List V} {ds : List PyData} : H a = some (.tup xs) → IsAll H ds xs → Is H (.tuple ds) (.ref a)
inductive IsAll (H : Hp) : List PyData → List V → Prop where
  | nil : IsAll H [] []
  | cons {d : PyData} {ds : List PyData} {v : V} {vs : List V} : Is H d v → IsAll H ds vs → IsAll H (d :: ds) (v :: vs)
end
mutual
theorem Is.up {H H' : Hp} (k : TK H H') : ∀ {d : PyData} {v : V}, Is H d v → Is H' d v
  | _, _, .non => .non
  | _, _, .bl b => .bl b
  | _, _, .int i => .int i
  | _, _, .str x => .str x
  | _, _, .tup e h => .tup (k _ _ e) (IsAll.up k h)
theorem IsAll.up {H H' : Hp} (k : TK H H') : ∀ {ds : List PyData} {vs : List V}, IsAll H ds vs → IsAll H' ds vs
  | _, _, .nil => .nil
  | _, _, .cons h t => .cons (Is.up k h) (IsAll.up k t)
end
mutual
theorem Is.dp {K : PySem.W.Frag} {H : Hp} : ∀ {d : PyData} {v : V}, Is H d v → Dp K H v d
  | _, _, .non => .non
  | _, _, .bl b => .bl b
  | _, _, .int i => .int i
  | _, _, .str x => .str x
  | _, _, .tup e h => .tup (SqT.of e) (IsAll.dp h)
theorem IsAll.dp {K : PySem.W.Frag} {H : Hp} : ∀ {ds : List PyData} {vs : List V}, IsAll H ds vs → DpAll K H vs ds
  | _, _, .nil => .nil
  | _, _, .cons h t => .cons (Is.dp h) (IsAll.dp t)
end
theorem IsAll.length {H : Hp} : ∀ {ds : List PyData} {vs : List V}, IsAll H ds vs → vs.length = ds.length
  | _, _, .nil => rfl
  | _, _, .cons _ t => congrArg (· + 1) t.length
theorem IsAll.get {H : Hp} : ∀ {ds : List PyData} {vs : List V} {i : Nat} {v : V}, IsAll H ds vs → vs[i]? = some v → ∃ d, ds[i]? = some d ∧ Is H d v
  | _, _, _, _, .nil, e => by simp at e
  | _, _, 0, _, .cons h _, e => by
    simp at e
    subst e
    exact ⟨_, rfl, h⟩
  | _, _, i + 1, v, .cons _ t, e => by
    obtain ⟨d, h1, h2⟩ := IsAll.get (i := i) (v := v) t (by simpa using e)
    exact ⟨d, by simpa using h1, h2⟩
theorem IsAll.get' {H : Hp} : ∀ {ds : List PyData} {vs : List V} {i : Nat} {d : PyData}, IsAll H ds vs → ds[i]? = some d → ∃ v, vs[i]? = some v ∧ Is H d v
  | _, _, _, _, .nil, e => by simp at e
  | _, _, 0, _, .cons h _, e => by
    simp at e
    subst e
    exact ⟨_, rfl, h⟩
  | _, _, i + 1, d, .cons _ t, e => by
    obtain ⟨v, h1, h2⟩ := IsAll.get' (i := i) (d := d) t (by simpa using e)
    exact ⟨v, by simpa using h1, h2⟩
theorem IsAll.of {H : Hp} : ∀ (ds : List PyData) (vs : List V), vs.length = ds.length → (∀ (i : Nat) d v, ds[i]? = some d → vs[i]? = some v → Is H d v) → IsAll H ds vs
  | [], [], _, _ => .nil
  | d :: ds, v :: vs, hl, h => .cons (h 0 d v rfl rfl) (IsAll.of ds vs (Nat.succ.inj hl) fun i d' v' h1 h2 => h (i + 1) d' v' (by simpa using h1) (by simpa using h2))
  | [], _ :: _, hl, _ => by simp at hl
  | _ :: _, [], hl, _ => by simp at hl
theorem IsAll.append {H : Hp} : ∀ {ds es : List PyData} {vs ws : List V}, IsAll H ds vs → IsAll H es ws → IsAll H (ds ++ es) (vs ++ ws)
  | _, _, _, _, .nil, h => h
  | _, _, _, _, .cons a t, h => .cons a (IsAll.append t h)
theorem Is.tup_inv {H : Hp} {ds : List PyData} {v : V} (h : Is H (.tuple ds) v) : ∃ a xs, v = .ref a ∧ H a = some (.tup xs) ∧ IsAll H ds xs := by
  cases h with
  | tup e t => exact ⟨_, _, rfl, e, t⟩
theorem IsAll.perm {H : Hp} {ds : List PyData} {vs ws : List V} (h : IsAll H ds vs) (p : ws.Perm vs) : ∃ es, es.Perm ds ∧ IsAll H es ws := by
  induction p generalizing ds with
  | nil => cases h; exact ⟨[], .refl _, .nil⟩
  | cons x p ih =>
    cases h with
    | cons a t =>
      obtain ⟨es, h1, h2⟩ := ih t
      exact ⟨_ :: es, h1.cons _, .cons a h2⟩
  | swap x y l =>
    cases h with
    | cons a t =>
      cases t with
      | cons b t => exact ⟨_, List.Perm.swap .., .cons b (.cons a t)⟩
  | trans p q ih1 ih2 =>
    obtain ⟨es, h1, h2⟩ := ih2 h
    obtain ⟨fs, h3, h4⟩ := ih1 h2
    exact ⟨fs, h3.trans h1, h4⟩

section
variable {K : PySem.W.Frag} {st : Addr} {cs : Addr × Addr} {J : It} {n : Nat} {G : Hp → Prop} {Y : Nat → Hp → V → Hp → Prop} {g : TG} {tt : TT} {te : TE} {vs : List Nat} {σ : L2.St} {Q : VK} {H1 : Hp}
/-- a comprehension without a test -/
theorem kLc_all (wk : Walk J n G Y) (hn : n ≤ 100000) (ok : StOk st cs H1) (hG : ∀ H', Go st cs H1 H' → G H') (R : Nat → V → Hp → Prop) (mono : ∀ i v H H', TK H H' → R i v H → R i v H')
    (step : ∀ i x H H' (Kt : V → Hp → Prop), i < n → Go st cs H1 H → Y i H x H' → (∀ y H4, Go st cs H H4 → R i y H4 → Kt y H4) → g x (wipe σ vs) H' fun σ2 H2 => wipe σ2 vs = wipe σ vs ∧ te σ2 H2 Kt)
    (k : ∀ p H' ys, H1 p = none → Go st cs H1 H' → H' p = some (.lst ys) → ys.length = n → (∀ (i : Nat) v, ys[i]? = some v → R i v H') → Q (.ref p) H') : kLc J g tYes te vs σ Q H1 := by
  intro D hD
  have nD := ok.ne hD
  refine lc_it wk (fun i H => Go st cs H1 H ∧ ∃ ys, H D = some (.lst ys) ∧ ys.length = i ∧ ∀ (m : Nat) v, ys[m]? = some v → R m v H) ⟨.of ok (Adv.new hD), [], upd_same, rfl, fun m v e => by simp at e⟩ (fun i H _ p => hG H p.1)
    (fun i x H H' hi p y => ?_) fun H p => ?_
  · obtain ⟨g1, ys, e1, hl, hr⟩ := p
    refine step i x H H' _ hi g1 y fun v H4 g4 r4 => ?_
    have e4 : H4 D = some (.lst ys) := g4.keep nD.1 e1
    have t5 : TK H4 (upd H4 D (.lst (ys ++ [v]))) := (Adv.lst e4).tup
    refine ⟨ys, e4, Nat.lt_of_lt_of_le (show ys.length < 100001 by omega) (by decide), (g1.trans g4).mutL ok hD e4, ys ++ [v], upd_same, by rw [List.length_append, hl]; rfl, fun m w e => ?_⟩
    by_cases hm : m < ys.length
    · rw [List.getElem?_append_left hm] at e
      exact mono _ _ _ _ (g4.tk.trans t5) (hr m w e)
    · have hm2 : m = ys.length := by
        have := (List.getElem?_eq_some_iff.mp e).1
        rw [List.length_append] at this
        simp at this
        omega
      subst hm2
      rw [List.getElem?_append_right (Nat.le_refl _), Nat.sub_self] at e
      simp at e
      subst e
      rw [hl]
      exact mono _ _ _ _ t5 r4
  · obtain ⟨g1, ys, e1, hl, hr⟩ := p
    exact k D H ys hD g1 e1 hl hr
theorem kLcR_all {n : Nat} (hn : n ≤ 100000) (ok : StOk st cs H1) (R : Nat → V → Hp → Prop) (mono : ∀ i v H H', TK H H' → R i v H → R i v H')
    (step : ∀ i H (Kt : V → Hp → Prop), i < n → Go st cs H1 H → (∀ y H4, Go st cs H H4 → R i y H4 → Kt y H4) → g (.int (i : Nat)) (wipe σ vs) H fun σ2 H2 => wipe σ2 vs = wipe σ vs ∧ te σ2 H2 Kt)
    (k : ∀ p H' ys, H1 p = none → Go st cs H1 H' → H' p = some (.lst ys) → ys.length = n → (∀ (i : Nat) v, ys[i]? = some v → R i v H') → Q (.ref p) H') : kLcR g tYes te vs σ Q [.int (n : Nat)] H1 := by
  refine ⟨n, rfl, by omega, by omega, ?_⟩
  have e : ((n : Nat) : Int).toNat = n := by omega
  rw [e]
  refine kLc_all walk_range hn ok (fun _ _ => trivial) R mono (fun i x H H' Kt hi g1 y kt => ?_) k
  obtain ⟨rfl, rfl⟩ := y
  show g (.int ((0 : Int) + (i : Nat))) _ _ _
  rw [Int.zero_add]
  exact step i H' Kt hi g1 kt
theorem kLcL_all {p : Addr} {xs : List V} (hp : SqL K H1 p xs) (np : Off p st cs) (hn : xs.length ≤ 100000) (ok : StOk st cs H1) (R : Nat → V → Hp → Prop) (mono : ∀ i v H H', TK H H' → R i v H → R i v H')
    (step : ∀ i x H (Kt : V → Hp → Prop), xs[i]? = some x → Go st cs H1 H → (∀ y H4, Go st cs H H4 → R i y H4 → Kt y H4) → g x (wipe σ vs) H fun σ2 H2 => wipe σ2 vs = wipe σ vs ∧ te σ2 H2 Kt)
    (k : ∀ p H' ys, H1 p = none → Go st cs H1 H' → H' p = some (.lst ys) → ys.length = xs.length → (∀ (i : Nat) v, ys[i]? = some v → R i v H') → Q (.ref p) H') : kLcL K g tYes te vs σ Q (.ref p) H1 :=
  ⟨p, rfl, ⟨xs, hp⟩, kLc_all walk_list hn ok (fun _ g => g.sql np hp) R mono (fun i x H H' Kt hi g1 y kt => by
    obtain ⟨rfl, e⟩ := y
    exact step i x H' Kt e g1 kt) k⟩
end
theorem at_nat {xs : List V} {n : Int} {v : V} (h0 : 0 ≤ n) (h : xs[n.toNat]? = some v) : atI xs n = some v := at_of (j := n.toNat) (by omega) h
theorem get_some {α : Type} {xs : List α} {i : Nat} (h : i < xs.length) : ∃ v, xs[i]? = some v := ⟨xs[i], List.getElem?_eq_getElem h⟩
theorem SqL.upd {K : PySem.W.Frag} {H : Hp} {a : Addr} {xs : List V} : SqL K (upd H a (.lst xs)) a xs := SqL.of upd_same
theorem getD_of {α : Type} {xs : List α} {i : Nat} {d v : α} (h : xs[i]? = some v) : xs.getD i d = v := by rw [List.getD_eq_getElem?_getD, h]; rfl
end AW
/-! zip of three tuples of one length; zip of two tuples as a walk; dicts made by comprehensions -/
namespace AW
open PySem PySem.Spec PyProof.Rows L2 RZ

/-- three tuples beside one another, of one length -/
def Itz3 (K : PySem.W.Frag) (a b c : Addr) : It where
  go i H := ∃ xs ys zs : List V, SqT K H a xs ∧ SqT K H b ys ∧ SqT K H c zs ∧ i < xs.length ∧ i < ys.length ∧ i < zs.length
  yld i H v H' := ∃ (T : Addr) (x y u : V), v = .ref T ∧ H T = none ∧ H' = upd H T (.tup [x, y, u]) ∧ (∀ xs, SqT K H a xs → xs[i]? = some x) ∧ (∀ ys, SqT K H b ys → ys[i]? = some y) ∧ ∀ zs, SqT K H c zs → zs[i]? = some u
  stop i H := ∃ xs ys zs : List V, SqT K H a xs ∧ SqT K H b ys ∧ SqT K H c zs ∧ i = xs.length ∧ i = ys.length ∧ i = zs.length

/-- what stands within zip(a, b, c) -/
def iZip3 (K : PySem.W.Frag) (ta : TA) : TI := fun σ H R => ta σ H fun vs H1 => ∃ (a b c : Addr) (xs ys zs : List V), vs = [.ref a, .ref b, .ref c] ∧ SqT K H1 a xs ∧ SqT K H1 b ys ∧ SqT K H1 c zs ∧ R (Itz3 K a b c) H1
section
variable {K : PySem.W.Frag} {a b c : Addr} {xs ys zs : List V}
end

/-! ### comprehensions that leave the state alone: a pure one; a dict -/
section
variable {J : It} {n : Nat} {G : Hp → Prop} {Y : Nat → Hp → V → Hp → Prop} {g : TG} {tt : TT} {te tk tv : TE} {vs : List Nat} {σ : L2.St} {Q : VK} {H1 : Hp} {K : PySem.W.Frag} {ta : TA}
/-- a comprehension with a test, nothing changed but new objects; B tells the test's word at each turn, v the item's value -/
theorem kLc_pure (wk : Walk J n G Y) (hn : n ≤ 100000) (hG : ∀ H', Adv [] H1 H' → G H') (B : Nat → Bool) (v : Nat → V)
    (step : ∀ i x H H' (Kt : V → Hp → Prop) (Kf : Hp → Prop), i < n → Adv [] H1 H → Y i H x H' → (B i = true → ∀ H4, Adv [] H H4 → Kt (v i) H4) → (B i = false → ∀ H3, Adv [] H H3 → Kf H3) →
      g x (wipe σ vs) H' fun σ2 H2 => wipe σ2 vs = wipe σ vs ∧ tt σ2 H2 fun b H3 => if b = true then te σ2 H3 Kt else Kf H3)
    (k : ∀ p H', H1 p = none → Adv [] H1 H' → H' p = some (.lst (((List.range n).filter B).map v)) → Q (.ref p) H') : kLc J g tt te vs σ Q H1 := by
  intro D hD
  refine lc_it wk (fun i H => i ≤ n ∧ Adv [] H1 H ∧ H D = some (.lst (((List.range i).filter B).map v))) ⟨Nat.zero_le _, Adv.new hD, upd_same⟩ (fun i H _ p => hG H p.2.1) (fun i x H H' hi p y => ?_) fun H p => k D H hD p.2.1 p.2.2
  obtain ⟨_, g1, e1⟩ := p
  have hlen : (((List.range i).filter B).map v).length ≤ 100000 := by
    rw [List.length_map]
    refine Nat.le_trans (List.length_filter_le ..) ?_
    rw [List.length_range]
    omega
  refine step i x H H' _ _ hi g1 y (fun hb H4 g4 => ?_) fun hb H3 g3 => ?_
  · have e4 := g4.keep _ _ (fun z => nomatch z) e1
    refine ⟨_, e4, Nat.lt_of_lt_of_le (Nat.lt_succ_of_le hlen) (by decide), hi, (g1.trans g4).mut hD e4 (fun _ z => by cases z), ?_⟩
    rw [upd_same, List.range_succ, List.filter_append, List.map_append]
    simp [hb]
  · refine ⟨hi, g1.trans g3, ?_⟩
    rw [g3.keep _ _ (fun z => nomatch z) e1, List.range_succ, List.filter_append, List.map_append]
    simp [hb]
theorem kLcR_pure {n : Nat} (hn : n ≤ 100000) (B : Nat → Bool) (v : Nat → V)
    (step : ∀ i H (Kt : V → Hp → Prop) (Kf : Hp → Prop), i < n → Adv [] H1 H → (B i = true → ∀ H4, Adv [] H H4 → Kt (v i) H4) → (B i = false → ∀ H3, Adv [] H H3 → Kf H3) →
      g (.int (i : Nat)) (wipe σ vs) H fun σ2 H2 => wipe σ2 vs = wipe σ vs ∧ tt σ2 H2 fun b H3 => if b = true then te σ2 H3 Kt else Kf H3)
    (k : ∀ p H', H1 p = none → Adv [] H1 H' → H' p = some (.lst (((List.range n).filter B).map v)) → Q (.ref p) H') : kLcR g tt te vs σ Q [.int (n : Nat)] H1 := by
  refine ⟨(n : Nat), rfl, by omega, by omega, ?_⟩
  rw [show ((n : Nat) : Int).toNat = n by omega]
  refine kLc_pure walk_range hn (fun _ _ => trivial) B v (fun i x H H' Kt Kf hi g1 y kt kf => ?_) k
  obtain ⟨rfl, rfl⟩ := y
  show g (.int ((0 : Int) + (i : Nat))) _ _ _
  rw [Int.zero_add]
  exact step i H' Kt Kf hi g1 kt kf
/-- over three tuples of one length -/
def kLc3 (K : PySem.W.Frag) (g : TG) (tt : TT) (te : TE) (vs : List Nat) (σ : L2.St) (Q : VK) (ws : List V) (H1 : Hp) : Prop := ∃ (a b c : Addr) (xs ys zs : List V), ws = [.ref a, .ref b, .ref c] ∧ SqT K H1 a xs ∧ SqT K H1 b ys ∧ SqT K H1 c zs ∧ kLc (Itz3 K a b c) g tt te vs σ Q H1
theorem w_lc3 (h : ta σ H1 (kLc3 K g tt te vs σ Q)) : tLc (iZip3 K ta) g tt te vs σ H1 Q := h
/-- a dict is made, turn by turn -/
def kDc (J : It) (g : TG) (tt : TT) (tk tv : TE) (vs : List Nat) (σ : L2.St) (Q : VK) (H1 : Hp) : Prop := ∀ D, H1 D = none → ∃ W : Nat → Nat → Hp → Prop, (∃ m, W 0 m (upd H1 D (.dK []))) ∧ ∀ i m H, W i m H →
  (J.stop i H ∧ Q (.ref D) H) ∨ (J.go i H ∧ ∃ Nx : Hp → Prop, (∀ H', Nx H' → ∃ m', m' < m ∧ W (i + 1) m' H') ∧ ∀ x H', J.yld i H x H' → g x (wipe σ vs) H' fun σ2 H2 => wipe σ2 vs = wipe σ vs ∧ tt σ2 H2 fun b H3 =>
    if b = true then tk σ2 H3 fun y H4 => tv σ2 H4 fun z H5 => ∃ kvs k, y = kV k ∧ H5 D = some (.dK kvs) ∧ kvs.length < sizeLine ∧ Nx (upd H5 D (.dK (putK kvs k z))) else Nx H3)
/-- all turns give: the dict holds the last of each key -/
def dictOf (key : Nat → Key) (val : Nat → V) : Nat → List (Key × V)
  | 0 => []
  | i + 1 => putK (dictOf key val i) (key i) (val i)
theorem dictOf_len (key : Nat → Key) (val : Nat → V) : ∀ n, (dictOf key val n).length ≤ n
  | 0 => Nat.le_refl _
  | i + 1 => Nat.le_trans (length_putK ..) (Nat.succ_le_succ (dictOf_len key val i))
theorem kDc_pure (wk : Walk J n G Y) (hn : n ≤ 100000) (hG : ∀ H', Adv [] H1 H' → G H') (key : Nat → Key) (val : Nat → V)
    (step : ∀ i x H H' (Kt : V → V → Hp → Prop), i < n → Adv [] H1 H → Y i H x H' → (∀ H4, Adv [] H H4 → Kt (kV (key i)) (val i) H4) → g x (wipe σ vs) H' fun σ2 H2 => wipe σ2 vs = wipe σ vs ∧ tk σ2 H2 fun y H4 => tv σ2 H4 (Kt y))
    (k : ∀ p H', H1 p = none → Adv [] H1 H' → H' p = some (.dK (dictOf key val n)) → Q (.ref p) H') : kDc J g tYes tk tv vs σ Q H1 := by
  intro D hD
  refine ⟨fun i m H => m = n - i ∧ i ≤ n ∧ Adv [] H1 H ∧ H D = some (.dK (dictOf key val i)), ⟨n, by simp, Nat.zero_le _, Adv.new hD, upd_same⟩, ?_⟩
  rintro i m H ⟨rfl, hi, g1, e1⟩
  have q := hG H g1
  by_cases hlt : i < n
  · refine .inr ⟨wk.goes i H hlt q, fun H' => i + 1 ≤ n ∧ Adv [] H1 H' ∧ H' D = some (.dK (dictOf key val (i + 1))), fun H' p' => ⟨n - (i + 1), by omega, rfl, p'⟩, fun x H' y => ?_⟩
    refine step i x H H' (fun y z H5 => ∃ kvs k, y = kV k ∧ H5 D = some (.dK kvs) ∧ kvs.length < sizeLine ∧ (fun H' => i + 1 ≤ n ∧ Adv [] H1 H' ∧ H' D = some (.dK (dictOf key val (i + 1)))) (upd H5 D (.dK (putK kvs k z)))) hlt g1 (wk.yields i H x H' hlt q y) fun H4 g4 => ?_
    have e4 := g4.keep _ _ (fun z => nomatch z) e1
    exact ⟨_, key i, rfl, e4, Nat.lt_of_le_of_lt (dictOf_len key val i) (Nat.lt_of_lt_of_le (show i < 100001 by omega) (by decide)), hlt, (g1.trans g4).mut hD e4 (fun _ z => by cases z), upd_same⟩
  · have e : i = n := by omega
    subst e
    exact .inl ⟨wk.stops H q, k D H hD g1 e1⟩
/-- a dict over zip(a, b) of tuples; over a tuple -/
def kDcZ (K : PySem.W.Frag) (g : TG) (tt : TT) (tk tv : TE) (vs : List Nat) (σ : L2.St) (Q : VK) (ws : List V) (H1 : Hp) : Prop := ∃ a b xs ys, ws = [.ref a, .ref b] ∧ ((SqL K H1 a xs ∧ SqL K H1 b ys ∧ kDc (Itz K a b) g tt tk tv vs σ Q H1) ∨ (SqT K H1 a xs ∧ SqT K H1 b ys ∧ kDc (ItzT K a b) g tt tk tv vs σ Q H1))
theorem w_dcZ (h : ta σ H1 (kDcZ K g tt tk tv vs σ Q)) : tDc (iZipA K ta) g tt tk tv vs σ H1 Q := h
def kDcT (K : PySem.W.Frag) (g : TG) (tt : TT) (tk tv : TE) (vs : List Nat) (σ : L2.St) (Q : VK) (x : V) (H1 : Hp) : Prop := ∃ a, x = .ref a ∧ (∃ xs, SqT K H1 a xs) ∧ kDc (Itt K a) g tt tk tv vs σ Q H1
theorem w_dcT {tl : TE} (h : tl σ H1 (kDcT K g tt tk tv vs σ Q)) : tDc (iTup K tl) g tt tk tv vs σ H1 Q := h
/-! pairs and triples taken apart -/
theorem w_gtup {n : Nat} {t : TGs} {a : Addr} {xs : List V} {σ : L2.St} {H : Hp} {Q : L2.St → Hp → Prop} (h : SqT K H a xs) (hl : xs.length = n) (q : t xs σ H Q) : gTup K n t (.ref a) σ H Q := ⟨a, xs, rfl, h, hl, q⟩
theorem w_gcons {t : TG} {u : TGs} {v : V} {r : List V} {σ : L2.St} {H : Hp} {Q : L2.St → Hp → Prop} (q : t v σ H fun σ' H' => u r σ' H' Q) : gCons t u (v :: r) σ H Q := ⟨v, r, rfl, q⟩
theorem w_gnil {σ : L2.St} {H : Hp} {Q : L2.St → Hp → Prop} (q : Q σ H) : gNil [] σ H Q := ⟨rfl, q⟩
end
end AW
/-! dicts asked, tuple(..), slices of tuples; what the law speaks of: sayings, worlds, models -/
namespace AW
open PySem PySem.Spec PyProof.Rows L2 RZ
section
variable {σ : L2.St} {H : Hp} {Q : VK} {ta tb te td ty : TE} {K : PySem.W.Frag}
/-- keywords alone, in the parameters' order -/
def gK {α : Type} : List α → List α → List α
  | [], zs => zs
  | _ :: _, _ => []
theorem w_callK {sp : Sp} {E : XK} {tk : TA} (h : tk σ H fun zs H2 => sp zs H2 Q E) : tCallK sp gK E tNil tk σ H Q := h
def kDGet (x y : V) (H : Hp) (Q : VK) : Prop := ∃ a v, x = .ref a ∧ DGet H a y (some v) ∧ Q v H
theorem w_dg (h : td σ H fun x H1 => ty σ H1 fun y H2 => kDGet x y H2 Q) : tDGet td ty σ H Q := h
theorem kDGet_i {d : Addr} {kvs : List (Key × V)} {k : Key} {v : V} (h : H d = some (.dK kvs)) (e : valV kvs k = some v) (q : Q v H) : kDGet (.ref d) (kV k) H Q := ⟨d, v, rfl, e ▸ DGet.k h, q⟩
def kDPut (x y v : V) (H : Hp) (N : Hp → Prop) : Prop := ∃ a H4, x = .ref a ∧ DPut H a y v H4 ∧ N H4
theorem w_dput {D : Ends} {tv : TE} (h : tv σ H fun v H1 => td σ H1 fun x H2 => ty σ H2 fun y H3 => kDPut x y v H3 (D.nx σ)) : sDPut td ty tv D σ H := h
theorem kDPut_i {d : Addr} {kvs : List (Key × V)} {k : Key} {v : V} {N : Hp → Prop} (h : H d = some (.dK kvs)) (hl : kvs.length < 100000) (q : N (upd H d (.dK (putK kvs k v)))) : kDPut (.ref d) (kV k) v H N :=
  ⟨d, _, rfl, DPut.k h (Nat.lt_of_lt_of_le hl (by decide)), q⟩
/-- tuple(x) -/
theorem w_tup1 (h : ta σ H fun x H1 => kTup K x H1 Q) : tThen ta (kTup K) σ H Q := h
theorem w_tupL {p : Addr} {xs : List V} (h : SqL K H p xs) (q : ∀ r H', H r = none → Adv [] H H' → H' r = some (.tup xs) → Q (.ref r) H') : kTup K (.ref p) H Q := .inl ⟨p, xs, rfl, h, w_new q⟩
/-- tuples joined, none of them empty -/
theorem w_catT {a b : Addr} {xs ys : List V} (h1 : H a = some (.tup xs)) (h2 : H b = some (.tup ys)) (hz : xs.length + ys.length ≤ 100000) (q0 : xs = [] → Q (.ref b) H) (q1 : xs ≠ [] → ys = [] → Q (.ref a) H)
    (q : ∀ r H', H r = none → Adv [] H H' → H' r = some (.tup (xs ++ ys)) → Q (.ref r) H') : rCatA K (.ref a) (.ref b) H Q :=
  ⟨a, b, xs, ys, rfl, rfl, SqT.of h1, SqT.of h2, Nat.le_trans hz (by decide), q0, q1, fun _ _ => w_new q⟩
/-- joined, whatever they are: a tuple that holds both -/
theorem w_catT' {a b : Addr} {xs ys : List V} (h1 : H a = some (.tup xs)) (h2 : H b = some (.tup ys)) (hz : xs.length + ys.length ≤ 100000) (q : ∀ r H', Adv [] H H' → H' r = some (.tup (xs ++ ys)) → Q (.ref r) H') : rCatA K (.ref a) (.ref b) H Q :=
  w_catT h1 h2 hz (fun e => q _ _ (.refl _ _) (by rw [e]; exact h2)) (fun _ e => q _ _ (.refl _ _) (by rw [e, List.append_nil]; exact h1)) fun r H' _ a e => q r H' a e
end
/-- the dict at d tells the value of each of these names -/
def WD (H : Hp) (d : Addr) (names : List Str) (w : Str → Int) : Prop := ∃ kvs, H d = some (.dK kvs) ∧ ∀ x ∈ names, valV kvs (Sum.inr x) = some (.int (w x))
theorem WD.up {H H' : Hp} {d : Addr} {names : List Str} {w : Str → Int} (h : WD H d names w) (e : Adv [] H H') : WD H' d names w := by
  obtain ⟨kvs, h1, h2⟩ := h
  exact ⟨kvs, e.keep _ _ (fun z => nomatch z) h1, h2⟩
theorem WD.go {st : Addr} {cs : Addr × Addr} {H H' : Hp} {d : Addr} {names : List Str} {w : Str → Int} (h : WD H d names w) (hs : StOk st cs H) (e : Go st cs H H') : WD H' d names w := by
  obtain ⟨kvs, h1, h2⟩ := h
  exact ⟨kvs, e.keep (hs.notD h1 fun _ z => by cases z) h1, h2⟩
theorem WD.get {H : Hp} {Q : VK} {d : Addr} {names : List Str} {w : Str → Int} {x : Str} (h : WD H d names w) (hx : x ∈ names) (q : Q (.int (w x)) H) : kDGet (.ref d) (.str x) H Q := by
  obtain ⟨kvs, h1, h2⟩ := h
  exact kDGet_i (k := Sum.inr x) h1 (h2 x hx) q

/-! ### sayings -/
def okS (x : Str) : Prop := x.cps.all (· < 0x110000) = true
abbrev Wd := Str → Int
def atW (b : Bool) : Str := if b = true then "from" else "is"
def manyW (b : Bool) : Str := if b = true then "and" else "or"
/-- a claim, as data: of so many levels, what it tells of a world, and its names as they stand -/
inductive ClD : Nat → PyData → (Wd → Bool) → List Str → Prop
  | one {m : Nat} {x : Str} {v : Int} (b : Bool) : ClD (m + 1) (.tuple [.str (atW b), .str x, .int v]) (fun w => if b = true then decide (v ≤ w x) else decide (w x = v)) [x]
  | neg {m : Nat} {d : PyData} {f : Wd → Bool} {ns : List Str} (h : ClD m d f ns) : ClD (m + 1) (.tuple [.str "not", d]) (fun w => !f w) ns
  | many {m : Nat} (b : Bool) (ds : List PyData) (fs : List (Wd → Bool)) (nss : List (List Str)) (hl : ds.length = fs.length) (hl2 : ds.length = nss.length) (h1 : ds.length ≤ 100)
      (h : ∀ (i : Nat) d f ns, ds[i]? = some d → fs[i]? = some f → nss[i]? = some ns → ClD m d f ns) :
      ClD (m + 1) (.tuple [.str (manyW b), .tuple ds]) (fun w => if b = true then fs.all (· w) else fs.any (· w)) nss.flatten
theorem ClD.le {m : Nat} {d : PyData} {f : Wd → Bool} {ns : List Str} (h : ClD m d f ns) : ∀ {n : Nat}, m ≤ n → ClD n d f ns := by
  induction h with
  | one b =>
    intro n hn
    obtain ⟨k, rfl⟩ : ∃ k, n = k + 1 := ⟨n - 1, by omega⟩
    exact .one b
  | neg h ih =>
    intro n hn
    obtain ⟨k, rfl⟩ : ∃ k, n = k + 1 := ⟨n - 1, by omega⟩
    exact .neg (ih (by omega))
  | many b ds fs nss hl hl2 h1 h ih =>
    intro n hn
    obtain ⟨k, rfl⟩ : ∃ k, n = k + 1 := ⟨n - 1, by omega⟩
    exact .many b ds fs nss hl hl2 h1 fun i d f ns e1 e2 e3 => ih i d f ns e1 e2 e3 (by omega)
inductive Say where
  | sums (least : Bool) (ts : List (Str × Int)) (n : Int)
  | unlike (xs : List Str)
  | counts (xs : List Str) (ts : List (Int × Int × Int))
  | tab (b : Bool) (xs : List Str) (rows : List (List Int))
  | pick (i : Str) (xs : List Str) (r : Str)
  | top (xs : List Str) (r : Str)
  | prod (x y z : Str)
  | ahead (xs ys : List Str)
  | mach (xs : List Str) (s : Int) (mv : List (Int × Int × Int)) (en : List Int)
  | works (xs : List Str) (ls ns : List Int) (room : Int)
  | round (xs : List Str)
  | claim (d : PyData) (f : Wd → Bool) (ns : List Str)
  | when (d : PyData) (f : Wd → Bool) (ns : List Str) (s : Say)
/-- the names of a saying as they stand -/
def Say.names : Say → List Str
  | .sums _ ts _ => ts.map (·.1)
  | .unlike xs => xs
  | .counts xs _ => xs
  | .tab _ xs _ => xs
  | .pick i xs r => i :: (xs ++ [r])
  | .top xs r => xs ++ [r]
  | .prod x y z => [x, y, z]
  | .ahead xs ys => xs ++ ys
  | .mach xs _ _ _ => xs
  | .works xs _ _ _ => xs
  | .round xs => xs
  | .claim _ _ ns => ns
  | .when _ _ ns s => ns ++ s.names
def wt (n : Int) : Prop := -(2 ^ 64) < n ∧ n < 2 ^ 64
def Say.isWhen : Say → Bool
  | .when .. => true
  | _ => false
def Say.ok : Say → Prop
  | .sums _ ts _ => ts.length ≤ 100 ∧ ∀ t ∈ ts, wt t.2
  | .unlike xs => xs.length ≤ 100
  | .counts xs ts => xs.length ≤ 100 ∧ ts.length ≤ 100
  | .tab _ xs rows => xs.length ≤ 100 ∧ rows.length ≤ 1000
  | .pick _ xs _ => xs.length ≤ 100
  | .top xs _ => 0 < xs.length ∧ xs.length ≤ 100 ∧ ∀ x ∈ xs, okS x
  | .prod _ _ _ => True
  | .ahead xs ys => xs.length = ys.length ∧ xs.length ≤ 100
  | .mach xs _ mv en => xs.length ≤ 100 ∧ mv.length ≤ 1000 ∧ (mv.map fun m => (m.1, m.2.1)).Nodup ∧ en.length ≤ 100
  | .works xs ls ns room => ls.length = xs.length ∧ ns.length = xs.length ∧ 0 ≤ room ∧ xs.length ≤ 100
  | .round xs => 0 < xs.length ∧ xs.length ≤ 100
  | .claim d f ns => ClD 8 d f ns ∧ ns.length ≤ 1000
  | .when d f ns s => ClD 8 d f ns ∧ ns.length ≤ 1000 ∧ s.isWhen = false ∧ s.ok
/-- outside of claims no name comes twice -/
def Say.nd : Say → Prop
  | .claim _ _ _ => True
  | .when _ _ _ s => s.nd
  | s => s.names.Nodup
/-! ### x in t, t a tuple of data -/
end AW
/-! a dict comprehension that is given to a name -/
namespace AW
open PySem PySem.Spec PyProof.Rows L2 RZ
section
variable {X : Cx}
end
/-! ### models -/
theorem nodup_inj {α : Type} {l : List α} (h : l.Nodup) {i j : Nat} {x : α} (a : l[i]? = some x) (b : l[j]? = some x) : i = j := L2.nd_ix h a b
end AW
/-! steps that were not there: isinstance, pop, tuple(d), sorted, a comprehension with two fors -/
namespace AW
open PySem PySem.Spec PyProof.Rows L2 RZ StX
def rDictP (K : PySem.W.Frag) : List V → Hp → VK → Prop := fun xs H Q => ∃ (a : Addr) (ps : List Addr) (kvs : List (Key × V)), xs = [.ref a] ∧ SqL K H a (ps.map V.ref) ∧ Paired (fun p kv => SqT K H p [kV kv.1, kv.2]) ps kvs ∧ ∀ p, H p = none → Q (.ref p) (upd H p (.dK (mergeK [] kvs)))
theorem call_dictP1 {X : Cx} (hc : X.calm = true) : CallR X (.type "dict") (rDictP X.K) := call_dictP hc
section
variable {σ : L2.St} {H : Hp} {Q : VK} {ta tb te td ty : TE} {K : PySem.W.Frag}
theorem w_listOfS {x : Str} (hz : x.cps.size ≤ 100000) (q : ∀ r H', H r = none → Adv [] H H' → H' r = some (.lst ((signsOf x).map V.str)) → Q (.ref r) H') : rListOfA K [.str x] H Q :=
  .inr ⟨x, rfl, Nat.le_trans hz (by decide), fun l hl => q l _ hl (Adv.new hl) upd_same⟩
theorem w_listOfL {p : Addr} {xs : List V} (h : SqL K H p xs ∨ SqT K H p xs) (q : ∀ r H', H r = none → Adv [] H H' → H' r = some (.lst xs) → Q (.ref r) H') : rListOfA K [.ref p] H Q := .inl (w_listOf h q)
theorem w_isi {x : V} {a b : String} {r : Bool} (ty : TyX K H x (.type a)) (e : kitB a b = some r) (q : Q (.bl r) H) : rIsi K [x, .ty b] H Q := ⟨x, .ty b, _, _, r, rfl, .ty b, ty, kit_ty e, q⟩
theorem w_popAt {i : Nat} {l : Addr} {xs : List V} {a : TA} (hσ : σ[i]? = some (some (.ref l))) (h0 : H l = some (.lst xs)) (h : a σ H fun vs H2 => rPopAt (.ref l) vs H2 Q) : tBM K "list" rPopAt (tVar i) a σ H Q :=
  ⟨.ref l, hσ, .inl ⟨rfl, xs, SqL.of h0⟩, h⟩
end
end AW
/-! keys of dicts, sorted texts -/
namespace AW
open PySem PySem.Spec PyProof.Rows L2 RZ
theorem lt_trans_cps {a b c : List Nat} (h1 : ¬ b < a) (h2 : ¬ c < b) : ¬ c < a := fun h => by
  have h1' : a ≤ b := List.not_lt.mp h1
  have h2' : b ≤ c := List.not_lt.mp h2
  exact List.not_lt.mpr (List.le_trans h1' h2') h
theorem cps_inj {a b : Str} (h : a.cps.toList = b.cps.toList) : a = b := by
  cases a
  cases b
  simp only [Str.mk.injEq]
  exact Array.toList_inj.mp h
theorem rising_pw : ∀ (xs : List Str) (p : Str), risingS p xs = true → (p :: xs).Pairwise fun a b => ¬ b.cps.toList < a.cps.toList
  | [], p, _ => by simp
  | x :: xs, p, h => by
    rw [risingS, Bool.and_eq_true, ltCps_eq, Bool.not_eq_true', decide_eq_false_iff_not] at h
    have ih := rising_pw xs x h.2
    refine List.pairwise_cons.mpr ⟨fun y hy => ?_, ih⟩
    rcases List.mem_cons.mp hy with rfl | hy
    · exact h.1
    · exact lt_trans_cps h.1 ((List.pairwise_cons.mp ih).1 y hy)
theorem sorted_pw {xs : List Str} (h : sortedS xs = true) : xs.Pairwise fun a b => ¬ b.cps.toList < a.cps.toList := by
  cases xs with
  | nil => exact List.Pairwise.nil
  | cons x xs => exact rising_pw xs x h
theorem filter_true {α : Type} (l : List α) : l.filter (fun _ => true) = l := List.filter_eq_self.mpr fun _ _ => rfl
section
variable {σ : L2.St} {H1 : Hp} {Q : VK} {K : PySem.W.Frag} {g : TG} {tt : TT} {tk tv : TE} {vs : List Nat}
end
end AW
/-! type(x) in (T, U) -/
namespace AW
open PySem PySem.Spec PyProof.Rows L2 RZ
def MetaT (T : String) : Prop := ∀ s : Shared, s.TypeIs (.type T) "type"
theorem metaT_of {T : String} (h : T ∈ ["NoneType", "bool", "int", "str", "tuple", "list"]) : MetaT T := by
  simp only [List.mem_cons, List.not_mem_nil, or_false] at h
  rcases h with rfl | rfl | rfl | rfl | rfl | rfl
  · exact TypeEq.meta_NoneType
  · exact TypeEq.meta_bool
  · exact TypeEq.meta_int
  · exact TypeEq.meta_str
  · exact TypeEq.meta_tuple
  · exact TypeEq.meta_list
theorem eqAt_ty {A : Around} {s : Shared} {T U : String} (hT : MetaT T) (hU : MetaT U) : SeqAt.EqAt A s (.type T) (.type U) (decide (T = U)) := fun prog w E Q h => by
  unfold eqBool
  refine wpAny_holding ?_
  by_cases e : T = U
  · subst e
    rw [if_pos (by simp)]
    rw [decide_eq_true rfl] at h
    exact wpAny_bind (wpAny_rule (wpAny_pure h))
  · have hne : (Value.type T == Value.type U) = false := beq_eq_false_iff_ne.mpr fun z => e (Value.type.inj z)
    rw [if_neg (by rw [hne]; exact Bool.false_ne_true)]
    rw [decide_eq_false e] at h
    exact wpAny_bind (TypeEq.eq_type_other hT hU hne (wpAny_truthy_bool h))
theorem vals_ty : ∀ {Ts : List String} {us : List Value}, Vals (Ts.map V.ty) us → us = Ts.map Value.type
  | [], _, r => by cases r; rfl
  | T :: Ts, _, r => by
    cases r with
    | cons h t =>
      rw [vals_ty t]
      cases h
      rfl
def rInTy (K : PySem.W.Frag) : R2 := fun x y H Q => ∃ (p : Addr) (T : String) (Ts : List String), x = .ty T ∧ y = .ref p ∧ H p = some (.tup (Ts.map V.ty)) ∧ MetaT T ∧ (∀ U ∈ Ts, MetaT U) ∧ Q (.bl (decide (T ∈ Ts))) H
theorem op_inTy {X : Cx} : OpR X (compareOp .In) (rInTy X.K) := by
  intro pins s σ H x y v u Q I rx ry h
  obtain ⟨p, T, Ts, rfl, rfl, hq, hT, hTs, q⟩ := h
  cases (show v = Value.type T from rx)
  cases ry
  obtain ⟨its, r, pl, hz⟩ := I.tuple (SqT.of (K := X.K) hq)
  have e := vals_ty r
  subst e
  refine SeqAt.in_tupleAt (fun u => u == Value.type T) pl (fun w hw => ?_) ⟨.bl _, H, I, rfl, ?_⟩
  · obtain ⟨U, hU, rfl⟩ := List.mem_map.mp (by simpa using hw)
    have := eqAt_ty (A := X.A.in1) (s := s) (hTs U hU) hT
    rwa [show decide (U = T) = (Value.type U == Value.type T) by rw [Bool.eq_iff_iff]; simp] at this
  · rw [show ((Ts.map Value.type).toArray.any fun u => u == Value.type T) = decide (T ∈ Ts) by rw [Bool.eq_iff_iff]; simp]
    exact q
end AW
/-! tuple(l), the new object known (so that it has no dict of its own); dict(t) of such a tuple of pairs -/
namespace AW
open PySem PySem.Spec PyProof.Rows L2 RZ
/-- tuple(l) of a list: a new tuple, its object known -/
def kTupF (K : PySem.W.Frag) (x : V) (H : Hp) (Q : VK) : Prop := ∃ p xs, x = .ref p ∧ SqL K H p xs ∧ ∀ q o, H q = none → o.dict = none → Q (.ref q) (upd H q (.frz o (.tup xs)))
section
variable {X : Cx} {a : Expr} {ta : TE}
theorem rl_tupleF (pins : List (Addr × Obj)) (s : Shared) (σ : L2.St) (H : Hp) (x : V) (v : Value) (Q : VK) (I : Inv X pins σ H s) (r : RelV x v) (h : kTupF X.K x H Q) :
    wpAny (model X.prog X.w) X.A (call (.type "tuple") [v]) (EP X pins σ Q) X.xe s := by
  obtain ⟨p, xs, rfl, hs, q⟩ := h
  obtain rfl : v = .ref p := r
  obtain ⟨its, rv, pl, hz⟩ := I.list hs
  refine call_tuple_list pl.isList (fun h' hk => ?_) (by rw [List.size_toArray, ← rv.length]; exact hz)
  have I1 : Inv X pins σ H { s with heap := h' } := I.kept (t' := s.toks) hk
  have I2 : Inv X pins σ (upd H h'.objs.size (.frz { cls := .type "tuple", data := .seq its.toArray } (.tup xs))) { s with heap := h'.push { cls := .type "tuple", data := .seq its.toArray } } :=
    I1.laid (t' := s.toks) (fun b o e => Heap.get?_push_of_some _ e) (Nat.le_refl _) (show ObjOk X.prog X.w _ _ _ (.frz _ (.tup xs)) from ⟨Heap.get?_push_size _ rfl, hz, its, rv, IsTup.new _ _⟩)
  exact ⟨.ref h'.objs.size, _, I2, rfl, q _ _ (I1.hok.fresh (Nat.le_refl _)) rfl⟩
theorem pe_tupleOfF {p pos : Pos} (hg : Gl X "tuple") (hm : X.mg "tuple" = none) (ha : PE X a ta) (na : starEach [a] X.env = (false, eval a X.env) :: starEach [] X.env := by rfl) :
    PE X (.Call (.Name "tuple" p) [a] [] pos) (tThen ta (kTupF X.K)) := by
  refine ⟨fun pins s σ H Q I h => ?_⟩
  exact Call_ (ld_blt I hg hm boot_tuple (PyProof.Rows.callWith_type1 (one_arg ha I h (fun v s2 x H2 I2 r q => rl_tupleF pins s2 σ H2 x v Q I2 r q) na) na))
end
theorem pairs_v {X : Cx} {pins : List (Addr × Obj)} {σ : L2.St} {H : Hp} {s : Shared} (I : Inv X pins σ H s) : ∀ {ps : List Addr} {kvs : List (Key × V)}, Paired (fun p kv => SqT X.K H p [kV kv.1, kv.2]) ps kvs →
    ∃ (prs : List (Key × Value)) (us : List (Value × Value)), KV kvs prs ∧ prs.length = ps.length ∧ us.length = ps.length ∧ ∀ (j : Nat) (u v : Value), us[j]? = some (u, v) → ∃ (b : Addr) (k : Key), ps[j]? = some b ∧ prs[j]? = some (k, v) ∧ IsTup s.heap b #[u, v] ∧ (mixKind X.prog X.w).is k u = true
  | _, _, .nil => ⟨[], [], .nil, rfl, rfl, fun j u v e => by simp at e⟩
  | _, _, .cons (a := p) (b := kv) h t => by
    obtain ⟨prs, vs, r, hl, hl2, hp⟩ := pairs_v I t
    obtain ⟨its, rv, ht, _⟩ := I.tuple h
    obtain ⟨u, y, ei, ru, ry⟩ := vals2 rv
    subst ei
    refine ⟨(kv.1, y) :: prs, (u, y) :: vs, .cons ⟨rfl, ry⟩ r, by rw [List.length_cons, List.length_cons, hl], by rw [List.length_cons, List.length_cons, hl2], fun j u' v' e => ?_⟩
    cases j with
    | zero =>
      have e' : (u, y) = (u', v') := Option.some.inj e
      obtain ⟨rfl, rfl⟩ := Prod.mk.inj e'
      exact ⟨p, kv.1, rfl, rfl, ht, kV_is (P := X.prog) (w := X.w) ru⟩
    | succ j =>
      obtain ⟨b, k, e1, e2, e3, e4⟩ := hp j u' v' (by simpa using e)
      exact ⟨b, k, by simpa using e1, by simpa using e2, e3, e4⟩
/-- dict(t) of a tuple of pairs -/
def rDictPT (K : PySem.W.Frag) : List V → Hp → VK → Prop := fun xs H Q => ∃ (a : Addr) (o : Obj) (ps : List Addr) (kvs : List (Key × V)), xs = [.ref a] ∧ H a = some (.frz o (.tup (ps.map V.ref))) ∧ o.dict = none ∧ Paired (fun p kv => SqT K H p [kV kv.1, kv.2]) ps kvs ∧ ∀ p, H p = none → Q (.ref p) (upd H p (.dK (mergeK [] kvs)))
theorem call_dictPT {X : Cx} (hcalm : X.calm = true) : CallR X (.type "dict") (rDictPT X.K) := by
  intro pins s σ H xs us Q I r q
  obtain ⟨a, o, ps, kvs, ex, hq, hd, hp, q⟩ := q
  subst ex
  obtain ⟨u, eu, rx⟩ := vals1 r
  subst eu
  cases rx
  obtain ⟨ho, hz, its, rv, ho2⟩ := I.hok a _ hq
  obtain ⟨o2, ho3, hc, n, hdat⟩ := ho2
  rw [ho] at ho3
  cases ho3
  have ei := refs_at rv
  subst ei
  rw [List.length_map] at hz
  obtain ⟨prs, vs, rel, hl, hl2, hpr⟩ := pairs_v I hp
  refine PySem.call_dict_pairs (knd := mixKind X.prog X.w) (kvs := prs) (PairArg.tuple a (ps.map Value.ref).toArray (fun j => ps.getD j 0) vs) (I.ok.hd hcalm) ⟨⟨o, n, ho, hc, hd, hdat⟩, by simp [hl2], fun j k v e => ?_⟩ ⟨by rw [hl, hl2], fun j k v e => ?_⟩ (by rw [hl2]; exact hz) fun h' tk hd' k => ?_
  · obtain ⟨b, key, e1, e2, e3, e4⟩ := hpr j k v e
    have e5 : ps.getD j 0 = b := by rw [List.getD_eq_getElem?_getD, e1]; rfl
    refine ⟨by simp [e1], .inl ?_⟩
    show s.heap.IsTuple (ps.getD j 0) #[k, v]
    rw [e5]
    exact e3
  · obtain ⟨b, key, e1, e2, e3, e4⟩ := hpr j k v e
    exact ⟨key, e2, e4⟩
  · have hm : (s.heap.objs.size == sysModules) = false := beq_eq_false_iff_ne.mpr (Nat.ne_of_gt I.big)
    have hlen : (mergeK [] kvs).length ≤ sizeLine := by
      refine Nat.le_trans (length_mergeK kvs []) ?_
      rw [List.length_nil, Nat.zero_add, rel.length, hl]
      exact hz
    exact ⟨.ref s.heap.objs.size, upd H s.heap.objs.size (.dK (mergeK [] kvs)), I.laid (t' := tk) (fun b o e => k b o (fun z => nomatch z) e) (Nat.le_refl _) (show ObjOk X.prog X.w _ _ _ (.dK (mergeK [] kvs)) from ⟨hlen, hm, merged [] prs, KV.merge rel .nil, hd'⟩), rfl, q _ (I.hok.fresh (Nat.le_refl _))⟩
end AW
namespace AW
open PySem PySem.Spec PyProof.Rows L2 RZ
open StX
local macro_rules | `(tactic| walk_at "aw1") => `(tactic| first
  | (with_reducible refine w_seq ?_) | (with_reducible refine w_asg ?_) | (with_reducible refine w_gname ?_) | (with_reducible refine w_op ?_) | (with_reducible refine w_un ?_)
  | ((with_reducible refine' w_var ?h ?_); (case h => rfl)) | (with_reducible refine w_c ?_)
  | (with_reducible refine w_I0 ?_) | (with_reducible refine w_U ?_) | (with_reducible refine w_cb ?_) | (with_reducible refine w_nil ?_) | (with_reducible refine w_cons ?_) | (with_reducible refine w_call ?_)
  | (with_reducible refine w_test ?_) | (with_reducible refine w_B ?_) | (with_reducible refine w_bl ?_) | (with_reducible refine w_not ?_) | (with_reducible refine w_yes ?_) | (with_reducible refine iteT ?_) | (with_reducible refine iteF ?_) | (with_reducible refine w_and ?_) | (with_reducible refine w_or ?_)
  | (with_reducible refine w_andV ?_) | (with_reducible refine w_orV ?_) | (with_reducible refine w_notV ?_) | (with_reducible refine w_if ?_)
  | (with_reducible refine w_int1 ?_) | (with_reducible refine w_int1b ?_) | (with_reducible refine w_abs ?_) | (with_reducible refine w_max2 ?_) | (with_reducible refine w_min2 ?_)
  | ((with_reducible refine w_eq ?h ?_); (case h => rfl)) | ((with_reducible refine w_ne ?h ?_); (case h => rfl)) | (with_reducible refine w_isN ?_) | (with_reducible refine w_isB ?_) | (with_reducible refine w_chain ?_)
  | (with_reducible refine w_ret ?_) | (with_reducible refine w_drop ?_) | (with_reducible refine w_ifS ?_) | (with_reducible refine w_gsub ?_) | (with_reducible refine w_augS ?_) | (with_reducible refine w_ipI ?_) | (with_reducible refine w_next ?_)
  | (with_reducible refine w_forR ?_) | (with_reducible refine w_forR2 ?_) | (with_reducible refine w_forL ?_) | (with_reducible refine w_forT ?_) | (with_reducible refine w_lcR ?_) | (with_reducible refine w_lcL ?_) | (with_reducible refine w_lcT ?_) | (with_reducible refine w_sl ?_) | (with_reducible refine w_part ?_) | (with_reducible refine w_noPart ?_) | (with_reducible refine w_in ?_)
  | (with_reducible refine w_gcons ?_) | (with_reducible refine w_gnil ?_) | (with_reducible refine w_lc3 ?_) | (with_reducible refine w_dcZ ?_) | (with_reducible refine w_dcT ?_) | (with_reducible refine w_dg ?_) | (with_reducible refine w_callK ?_) | (with_reducible refine w_dput ?_) | (with_reducible refine w_tup1 ?_)
  | (with_reducible refine w_tup ?_) | (with_reducible refine w_lst ?_)
  | ((with_reducible refine w_I ?h ?_); (case h => first | (exact Or.inr ⟨by decide, by decide⟩) | (exact Or.inl ⟨by decide, by decide⟩) | (show (0 : Int) < _; decide) | (exact ⟨by decide, by decide, by decide⟩) | assumption)))
local macro_rules | `(tactic| walk_at "aw") => `(tactic| repeat (walk_at "aw1"))
def sp__law_mixed (_ : PySem.W.Frag) : Sp := fun vs H Q _ => ∃ a b : Int, vs = [.int a, .int b] ∧ ∀ n : Int, 0 ≤ n → n < 2147483647 → Q (.int n) H
def sp__law_pool (K : PySem.W.Frag) : Sp := fun vs H Q _ => ∃ (a : Addr) (ns : List Int), vs = [.ref a] ∧ SqL K H a (ns.map V.int) ∧ ns.length ≤ 63 ∧ ∀ st cs H', StOk st cs H' → Adv [] H H' → H st = none → Q (.ref st) H'
def sp__law_draw (_ : PySem.W.Frag) : Sp := fun vs H Q _ => ∃ (st : Addr) (lim : Int), vs = [.ref st, .int lim] ∧ ∃ cs, StOk st cs H ∧ 0 < lim ∧ lim < 1073741824 ∧ ∀ n H', 0 ≤ n → n < lim → Go st cs H H' → Q (.int n) H'
def sp__law_pick (K : PySem.W.Frag) : Sp := fun vs H Q _ => ∃ (st p : Addr), vs = [.ref st, .ref p] ∧ ∃ cs xs, StOk st cs H ∧ ((SqL K H p xs ∧ Off p st cs) ∨ H p = some (.tup xs)) ∧ 0 < xs.length ∧ xs.length < 1000000 ∧ ∀ (i : Nat) v H', xs[i]? = some v → Go st cs H H' → Q v H'
def sp__law_shuffled (K : PySem.W.Frag) : Sp := fun vs H Q _ => ∃ (st p : Addr), vs = [.ref st, .ref p] ∧ ∃ cs xs, StOk st cs H ∧ SqL K H p xs ∧ Off p st cs ∧ xs.length ≤ 1000 ∧ ∀ q made H', made.Perm xs → H q = none → Go st cs H H' → H' q = some (.lst made) → Q (.ref q) H'
def t__law_mixed  : TS := (tSeq (tAsg (tOp rModI (tOp rAddI (tOp rAddI (tOp rMulI (tOp rModI (tCB rInt1 (tCons (tVar 0) tNil)) (tC (.int 1000003))) (tC (.int 48271))) (tOp rMulI (tOp rModI (tCB rInt1 (tCons (tVar 1) tNil)) (tC (.int 999983))) (tC (.int 69621)))) (tC (.int 12345))) (tC (.int 2147483647))) (gName 2))
  (tSeq (tAsg (tOp rModI (tOp rAddI (tOp rAddI (tOp rAddI (tOp rMulI (tVar 2) (tVar 2)) (tOp rMulI (tVar 2) (tC (.int 40692)))) (tOp rMulI (tOp rModI (tCB rInt1 (tCons (tVar 1) tNil)) (tC (.int 65537))) (tC (.int 16807)))) (tC (.int 7))) (tC (.int 2147483629))) (gName 3))
  (tRet (tOp rModI (tOp rAddI (tOp rMulI (tVar 3) (tC (.int 48271))) (tOp rDivI (tVar 2) (tC (.int 127)))) (tC (.int 2147483647))))))
def t__law_pool (K : PySem.W.Frag) : TS := (tRet (tLst (tCons (tCB (rListOf K) (tCons (tVar 0) tNil)) (tCons (tC (.int 0)) (tCons (tC (.int 0)) (tCons (tC (.int 0)) (tCons (tC (.int 0)) tNil)))))))
def t__law_draw (K : PySem.W.Frag) : TS := (tSeq (tAsg (tOp (rIxL K) (tVar 0) (tC (.int 2))) (gName 2))
  (tSeq (tIfS (tAnd (tTest (tOp rLtI (tVar 2) (tC (.int 2)))) (tTest (tOp rLtI (tOp (rIxL K) (tVar 0) (tC (.int 1))) (tCB (rLen1 K) (tCons (tOp (rIxL K) (tVar 0) (tC (.int 0))) tNil))))) (tSeq (tAsg (tOp (rIxL K) (tOp (rIxL K) (tVar 0) (tC (.int 0))) (tOp (rIxL K) (tVar 0) (tC (.int 1)))) (gName 3))
  (tSeq (tAsg (tOp rAddI (tOp (rIxL K) (tVar 0) (tC (.int 1))) (tC (.int 1))) (gSub (tVar 0) (tC (.int 1)) rSetL))
  (tSeq (tIfS (tTest (tOp rGeI (tVar 3) (tOp rPowI (tC (.int 10)) (tC (.int 18))))) (tSeq (tAsg (tOp rSubI (tVar 3) (tOp rPowI (tC (.int 10)) (tC (.int 18)))) (gName 2))
  (tSeq (tAsg (tOp rDivI (tVar 2) (tVar 1)) (gSub (tVar 0) (tC (.int 2)) rSetL))
  (tSeq (tAsg (tC (.int 60)) (gSub (tVar 0) (tC (.int 4)) rSetL))
  (tRet (tOp rModI (tCB rInt1 (tCons (tVar 2) tNil)) (tVar 1)))))) tNext)
  (tAsg (tCall (sp__law_mixed K) [] E0 (tCons (tOp rAddI (tOp (rIxL K) (tVar 0) (tC (.int 3))) (tVar 3)) (tCons (tOp (rIxL K) (tVar 0) (tC (.int 1))) tNil))) (gSub (tVar 0) (tC (.int 3)) rSetL))))) (tIfS (tTest (tOp rLtI (tVar 2) (tC (.int 2)))) (tSeq (tAsg (tOp rAddI (tOp (rIxL K) (tVar 0) (tC (.int 1))) (tC (.int 1))) (gSub (tVar 0) (tC (.int 1)) rSetL))
  (tAsg (tCall (sp__law_mixed K) [] E0 (tCons (tOp (rIxL K) (tVar 0) (tC (.int 3))) (tCons (tOp rAddI (tC (.int 77)) (tOp (rIxL K) (tVar 0) (tC (.int 1)))) tNil))) (gSub (tVar 0) (tC (.int 3)) rSetL))) (tSeq (tAsg (tOp rSubI (tOp (rIxL K) (tVar 0) (tC (.int 4))) (tC (.int 1))) (gSub (tVar 0) (tC (.int 4)) rSetL))
  (tSeq (tAsg (tOp rMulI (tOp rDivI (tVar 2) (tVar 1)) (tCB rInt1 (tCons (tOp rGtI (tOp (rIxL K) (tVar 0) (tC (.int 4))) (tC (.int 0))) tNil))) (gSub (tVar 0) (tC (.int 2)) rSetL))
  (tRet (tOp rModI (tCB rInt1 (tCons (tVar 2) tNil)) (tVar 1)))))))
  (tSeq (tAsg (tC (.int 0)) (gSub (tVar 0) (tC (.int 2)) rSetL))
  (tRet (tOp rModI (tCB rInt1 (tCons (tOp (rIxL K) (tVar 0) (tC (.int 3))) tNil)) (tVar 1))))))
theorem len__law_mixed {K : PySem.W.Frag} : ∀ (vs : List V) (H : Hp) (Q : VK) (E : XK), sp__law_mixed K vs H Q E → vs.length = 2 := fun vs H Q E h => by
  obtain ⟨_, _, rfl, _⟩ := h
  rfl
theorem pure__law_mixed {K : PySem.W.Frag} (vs : List V) (H : Hp) (Q : VK) (E : XK) (h : sp__law_mixed K vs H Q E) : t__law_mixed { nx := fun _ H' => Q .non H', rt := Q } (start ["a", "b", "one", "two"] vs) H := by
  obtain ⟨a, b, rfl, q⟩ := h
  show t__law_mixed _ [some (.int a), some (.int b), none, none] H
  unfold t__law_mixed
  walk_at "aw"
  generalize h1 : (a % 1000003 * 48271 + b % 999983 * 69621 + 12345) % 2147483647 = one
  have o0 : 0 ≤ one ∧ one < 2147483647 := by rw [← h1]; omega
  walk_at "aw"
  refine w_I (.inl ⟨by omega, by omega⟩) ?_
  walk_at "aw"
  refine w_I ⟨by decide, by decide⟩ ?_
  walk_at "aw"
  exact q _ (Int.emod_nonneg _ (by decide)) (Int.emod_lt_of_pos _ (by decide))
theorem len__law_pool {K : PySem.W.Frag} : ∀ (vs : List V) (H : Hp) (Q : VK) (E : XK), sp__law_pool K vs H Q E → vs.length = 1 := fun vs H Q E h => by
  obtain ⟨_, _, rfl, _⟩ := h
  rfl
theorem pure__law_pool {K : PySem.W.Frag} (vs : List V) (H : Hp) (Q : VK) (E : XK) (h : sp__law_pool K vs H Q E) : t__law_pool K { nx := fun _ H' => Q .non H', rt := Q } (start ["script"] vs) H := by
  obtain ⟨a, ns, rfl, hs, hl, q⟩ := h
  show t__law_pool K _ [some (.ref a)] H
  unfold t__law_pool
  walk_at "aw"
  refine w_listOf (.inl hs) fun c H1 nc a1 ec => ?_
  walk_at "aw"
  refine w_lstD (by simp) fun st H2 nst a2 est => ?_
  have ne : c ≠ st := ne_of_none ec nst
  exact q st (c, c) H2 ⟨0, 0, 0, 0, ns, est, a2.keep _ _ (fun z => nomatch z) ec, hl, ne, rfl, by decide, by decide, by decide⟩ (a1.trans a2) (a1.free (fun z => nomatch z) nst)
/-- the pool at st: cells at c -/
structure PAt (st c : Addr) (ns : List Int) (H : Hp) (i r m l : Int) : Prop where
  e : H st = some (.lst [.ref c, .int i, .int r, .int m, .int l])
  ec : H c = some (.lst (ns.map V.int))
  hl : ns.length ≤ 63
  ne : c ≠ st
theorem PAt.ok {st c : Addr} {ns : List Int} {H : Hp} {i r m l : Int} (p : PAt st c ns H i r m l) (hi : 0 ≤ i) (hr : 0 ≤ r) (hm : 0 ≤ m) : StOk st (c, c) H := ⟨i, r, m, l, ns, p.e, p.ec, p.hl, p.ne, rfl, hi, hr, hm⟩
theorem PAt.set {st c : Addr} {ns : List Int} {H : Hp} {i r m l : Int} (p : PAt st c ns H i r m l) (i' r' m' l' : Int) : PAt st c ns (upd H st (.lst [.ref c, .int i', .int r', .int m', .int l'])) i' r' m' l' ∧ Adv [st, c] H (upd H st (.lst [.ref c, .int i', .int r', .int m', .int l'])) :=
  ⟨⟨upd_same, by rw [upd_ne p.ne]; exact p.ec, p.hl, p.ne⟩, (Adv.lst p.e).mono (fun b hb => by rw [List.mem_singleton.mp hb]; exact List.mem_cons_self ..)⟩
theorem len__law_draw {K : PySem.W.Frag} : ∀ (vs : List V) (H : Hp) (Q : VK) (E : XK), sp__law_draw K vs H Q E → vs.length = 2 := fun vs H Q E h => by
  obtain ⟨_, _, rfl, _⟩ := h
  rfl
theorem pure__law_draw {K : PySem.W.Frag} (vs : List V) (H : Hp) (Q : VK) (E : XK) (h : sp__law_draw K vs H Q E) : t__law_draw K { nx := fun _ H' => Q .non H', rt := Q } (start ["pool", "many", "rest", "cell"] vs) H := by
  obtain ⟨st, lim, rfl, ⟨c, c2⟩, ⟨i, r, m, l, ns, e, ec, hl, ne, e2, hi, hr, hm⟩, h0, h1, q⟩ := h
  dsimp only at e ec ne e2
  have e3 := e2.symm
  subst e3
  have P : PAt st c ns H i r m l := ⟨e, ec, hl, ne⟩
  show t__law_draw K _ [some (.ref st), some (.int lim), none, none] H
  unfold t__law_draw
  have fin : ∀ (H' : Hp) (i r m l n : Int), PAt st c ns H' i r m l → Adv [st, c] H H' → 0 ≤ i → 0 ≤ r → 0 ≤ m → Q (.int (n % lim)) H' := fun H' i r m l n p a hi hr hm => q _ _ (Int.emod_nonneg _ (by omega)) (Int.emod_lt_of_pos _ h0) ⟨a, p.ok hi hr hm⟩
  walk_at "aw"
  refine w_ixL (SqL.of e) rfl ?_
  walk_at "aw1"
  walk_at "aw1"
  have tail : ∀ (H' : Hp) (y2 y3 : Option V) (i r m l : Int), PAt st c ns H' i r m l → Adv [st, c] H H' → 0 ≤ i → 0 ≤ m → (tSeq (tAsg (tC (.int 0)) (gSub (tVar 0) (tC (.int 2)) rSetL))
  (tRet (tOp rModI (tCB rInt1 (tCons (tOp (rIxL K) (tVar 0) (tC (.int 3))) tNil)) (tVar 1)))) { nx := fun _ H' => Q .non H', rt := Q } [some (.ref st), some (.int lim), y2, y3] H' := fun H' y2 y3 i r m l p a hi hm => by
    walk_at "aw"
    refine w_setL p.e rfl ?_
    obtain ⟨p2, a2⟩ := p.set i 0 m l
    walk_at "aw"
    refine w_ixL (SqL.of p2.e) rfl ?_
    walk_at "aw"
    exact fin _ i 0 m l m p2 (a.trans a2) hi (by decide) hm
  with_reducible refine w_ifS ?_
  have right : 0 ≤ r → ¬ r < 2 → (tIfS (tTest (tOp rLtI (tVar 2) (tC (.int 2)))) (tSeq (tAsg (tOp rAddI (tOp (rIxL K) (tVar 0) (tC (.int 1))) (tC (.int 1))) (gSub (tVar 0) (tC (.int 1)) rSetL))
  (tAsg (tCall (sp__law_mixed K) [] E0 (tCons (tOp (rIxL K) (tVar 0) (tC (.int 3))) (tCons (tOp rAddI (tC (.int 77)) (tOp (rIxL K) (tVar 0) (tC (.int 1)))) tNil))) (gSub (tVar 0) (tC (.int 3)) rSetL))) (tSeq (tAsg (tOp rSubI (tOp (rIxL K) (tVar 0) (tC (.int 4))) (tC (.int 1))) (gSub (tVar 0) (tC (.int 4)) rSetL))
  (tSeq (tAsg (tOp rMulI (tOp rDivI (tVar 2) (tVar 1)) (tCB rInt1 (tCons (tOp rGtI (tOp (rIxL K) (tVar 0) (tC (.int 4))) (tC (.int 0))) tNil))) (gSub (tVar 0) (tC (.int 2)) rSetL))
  (tRet (tOp rModI (tCB rInt1 (tCons (tVar 2) tNil)) (tVar 1)))))) { nx := fun σ' H' => (tSeq (tAsg (tC (.int 0)) (gSub (tVar 0) (tC (.int 2)) rSetL))
  (tRet (tOp rModI (tCB rInt1 (tCons (tOp (rIxL K) (tVar 0) (tC (.int 3))) tNil)) (tVar 1)))) { nx := fun _ H' => Q .non H', rt := Q } σ' H', rt := Q } [some (.ref st), some (.int lim), some (.int r), none] H := fun _ hr2 => by
    walk_at "aw"
    refine w_iteB (fun h => absurd h hr2) fun _ => ?_
    walk_at "aw"
    refine w_ixL (SqL.of e) rfl ?_
    walk_at "aw"
    refine w_setL e rfl ?_
    obtain ⟨p2, a2⟩ := P.set i r m (l - 1)
    walk_at "aw"
    refine w_I ⟨h0, h1⟩ ?_
    walk_at "aw"
    refine w_ixL (SqL.of p2.e) rfl ?_
    walk_at "aw"
    generalize hk : decide (l - 1 > 0) = k
    cases k with
    | true =>
      walk_at "aw"
      refine w_setL p2.e rfl ?_
      obtain ⟨p3, a3⟩ := p2.set i (r / lim * 1) m (l - 1)
      walk_at "aw"
      exact fin _ i _ m (l - 1) r p3 (a2.trans a3) hi (by rw [Int.mul_one]; exact Int.ediv_nonneg hr (by omega)) hm
    | false =>
      walk_at "aw"
      refine w_setL p2.e rfl ?_
      obtain ⟨p3, a3⟩ := p2.set i (r / lim * 0) m (l - 1)
      walk_at "aw"
      exact fin _ i _ m (l - 1) r p3 (a2.trans a3) hi (by rw [Int.mul_zero]; decide) hm
  have middle : r < 2 → (tIfS (tTest (tOp rLtI (tVar 2) (tC (.int 2)))) (tSeq (tAsg (tOp rAddI (tOp (rIxL K) (tVar 0) (tC (.int 1))) (tC (.int 1))) (gSub (tVar 0) (tC (.int 1)) rSetL))
  (tAsg (tCall (sp__law_mixed K) [] E0 (tCons (tOp (rIxL K) (tVar 0) (tC (.int 3))) (tCons (tOp rAddI (tC (.int 77)) (tOp (rIxL K) (tVar 0) (tC (.int 1)))) tNil))) (gSub (tVar 0) (tC (.int 3)) rSetL))) (tSeq (tAsg (tOp rSubI (tOp (rIxL K) (tVar 0) (tC (.int 4))) (tC (.int 1))) (gSub (tVar 0) (tC (.int 4)) rSetL))
  (tSeq (tAsg (tOp rMulI (tOp rDivI (tVar 2) (tVar 1)) (tCB rInt1 (tCons (tOp rGtI (tOp (rIxL K) (tVar 0) (tC (.int 4))) (tC (.int 0))) tNil))) (gSub (tVar 0) (tC (.int 2)) rSetL))
  (tRet (tOp rModI (tCB rInt1 (tCons (tVar 2) tNil)) (tVar 1)))))) { nx := fun σ' H' => (tSeq (tAsg (tC (.int 0)) (gSub (tVar 0) (tC (.int 2)) rSetL))
  (tRet (tOp rModI (tCB rInt1 (tCons (tOp (rIxL K) (tVar 0) (tC (.int 3))) tNil)) (tVar 1)))) { nx := fun _ H' => Q .non H', rt := Q } σ' H', rt := Q } [some (.ref st), some (.int lim), some (.int r), none] H := fun hr2 => by
    walk_at "aw"
    refine w_iteB (fun _ => ?_) fun h => absurd hr2 h
    walk_at "aw"
    refine w_ixL (SqL.of e) rfl ?_
    walk_at "aw"
    refine w_setL e rfl ?_
    obtain ⟨p2, a2⟩ := P.set (i + 1) r m l
    walk_at "aw"
    refine w_ixL (SqL.of p2.e) rfl ?_
    walk_at "aw"
    refine w_ixL (SqL.of p2.e) rfl ?_
    walk_at "aw"
    refine ⟨_, _, rfl, fun n n0 n1 => ?_⟩
    walk_at "aw"
    refine w_setL p2.e rfl ?_
    obtain ⟨p3, a3⟩ := p2.set (i + 1) r n l
    walk_at "aw1"
    walk_at "aw1"
    exact tail _ _ _ _ _ _ _ p3 (a2.trans a3) (by omega) n0
  walk_at "aw"
  refine w_iteB (fun hr2 => ?_) fun hr2 => right hr hr2
  walk_at "aw"
  refine w_ixL (SqL.of e) rfl ?_
  walk_at "aw"
  refine w_ixL (SqL.of e) rfl ?_
  walk_at "aw"
  refine w_lenL (SqL.of ec) ?_
  rw [List.length_map]
  walk_at "aw"
  refine w_iteB (fun hin => ?_) fun _ => middle hr2
  walk_at "aw"
  refine w_ixL (SqL.of e) rfl ?_
  walk_at "aw"
  refine w_ixL (SqL.of e) rfl ?_
  have hit : i.toNat < ns.length := by omega
  refine w_ixL (SqL.of ec) (v := .int ns[i.toNat]) (at_of (j := i.toNat) (by omega) (by rw [List.getElem?_map, List.getElem?_eq_getElem hit]; rfl)) ?_
  walk_at "aw"
  refine w_ixL (SqL.of e) rfl ?_
  walk_at "aw"
  refine w_setL e rfl ?_
  obtain ⟨p2, a2⟩ := P.set (i + 1) r m l
  walk_at "aw"
  refine w_iteB (fun hc => ?_) fun _ => ?_
  · walk_at "aw"
    refine w_I ⟨h0, h1⟩ ?_
    walk_at "aw"
    refine w_setL p2.e rfl ?_
    obtain ⟨p3, a3⟩ := p2.set (i + 1) ((ns[i.toNat] - 10 ^ 18) / lim) m l
    walk_at "aw"
    refine w_setL p3.e rfl ?_
    obtain ⟨p4, a4⟩ := p3.set (i + 1) ((ns[i.toNat] - 10 ^ 18) / lim) m 60
    walk_at "aw"
    have hc' : (10 : Int) ^ 18 ≤ ns[i.toNat] := hc
    exact fin _ _ _ _ _ _ p4 (a2.trans (a3.trans a4)) (by omega) (Int.ediv_nonneg (by omega) (by omega)) hm
  · walk_at "aw"
    refine w_ixL (SqL.of p2.e) rfl ?_
    walk_at "aw"
    refine w_ixL (SqL.of p2.e) rfl ?_
    walk_at "aw"
    refine ⟨_, _, rfl, fun n n0 n1 => ?_⟩
    walk_at "aw"
    refine w_setL p2.e rfl ?_
    obtain ⟨p3, a3⟩ := p2.set (i + 1) r n l
    walk_at "aw1"
    walk_at "aw1"
    exact tail _ _ _ _ _ _ _ p3 (a2.trans a3) (by omega) n0
end AW
namespace AW
open PySem PySem.Spec PyProof.Rows L2 RZ
open StX
local macro_rules | `(tactic| walk_at "aw1") => `(tactic| first
  | (with_reducible refine w_seq ?_) | (with_reducible refine w_asg ?_) | (with_reducible refine w_gname ?_) | (with_reducible refine w_op ?_) | (with_reducible refine w_un ?_)
  | ((with_reducible refine' w_var ?h ?_); (case h => rfl)) | (with_reducible refine w_c ?_)
  | (with_reducible refine w_I0 ?_) | (with_reducible refine w_U ?_) | (with_reducible refine w_cb ?_) | (with_reducible refine w_nil ?_) | (with_reducible refine w_cons ?_) | (with_reducible refine w_call ?_)
  | (with_reducible refine w_test ?_) | (with_reducible refine w_B ?_) | (with_reducible refine w_bl ?_) | (with_reducible refine w_not ?_) | (with_reducible refine w_yes ?_) | (with_reducible refine iteT ?_) | (with_reducible refine iteF ?_) | (with_reducible refine w_and ?_) | (with_reducible refine w_or ?_)
  | (with_reducible refine w_andV ?_) | (with_reducible refine w_orV ?_) | (with_reducible refine w_notV ?_) | (with_reducible refine w_if ?_)
  | (with_reducible refine w_int1 ?_) | (with_reducible refine w_int1b ?_) | (with_reducible refine w_abs ?_) | (with_reducible refine w_max2 ?_) | (with_reducible refine w_min2 ?_)
  | ((with_reducible refine w_eq ?h ?_); (case h => rfl)) | ((with_reducible refine w_ne ?h ?_); (case h => rfl)) | (with_reducible refine w_isN ?_) | (with_reducible refine w_isB ?_) | (with_reducible refine w_chain ?_)
  | (with_reducible refine w_ret ?_) | (with_reducible refine w_drop ?_) | (with_reducible refine w_ifS ?_) | (with_reducible refine w_gsub ?_) | (with_reducible refine w_augS ?_) | (with_reducible refine w_ipI ?_) | (with_reducible refine w_next ?_)
  | (with_reducible refine w_forR ?_) | (with_reducible refine w_forR2 ?_) | (with_reducible refine w_forL ?_) | (with_reducible refine w_forT ?_) | (with_reducible refine w_lcR ?_) | (with_reducible refine w_lcL ?_) | (with_reducible refine w_lcT ?_) | (with_reducible refine w_sl ?_) | (with_reducible refine w_part ?_) | (with_reducible refine w_noPart ?_) | (with_reducible refine w_in ?_)
  | (with_reducible refine w_gcons ?_) | (with_reducible refine w_gnil ?_) | (with_reducible refine w_lc3 ?_) | (with_reducible refine w_dcZ ?_) | (with_reducible refine w_dcT ?_) | (with_reducible refine w_dg ?_) | (with_reducible refine w_callK ?_) | (with_reducible refine w_dput ?_) | (with_reducible refine w_tup1 ?_)
  | (with_reducible refine w_tup ?_) | (with_reducible refine w_lst ?_)
  | ((with_reducible refine w_I ?h ?_); (case h => first | (exact Or.inr ⟨by decide, by decide⟩) | (exact Or.inl ⟨by decide, by decide⟩) | (show (0 : Int) < _; decide) | (exact ⟨by decide, by decide, by decide⟩) | assumption)))
local macro_rules | `(tactic| walk_at "aw") => `(tactic| repeat (walk_at "aw1"))
def t__law_pick (K : PySem.W.Frag) : TS := (tRet (tOp (rIxA K) (tVar 1) (tCall (sp__law_draw K) [] E0 (tCons (tVar 0) (tCons (tCB (rLen1 K) (tCons (tVar 1) tNil)) tNil)))))
def t__law_shuffled (K : PySem.W.Frag) : TS := (tSeq (tAsg (tCB (rListOfA K) (tCons (tVar 1) tNil)) (gName 2))
  (tRet (tLc (iRng1 (tCons (tCB (rLen1 K) (tCons (tVar 1) tNil)) tNil)) (gName 3) tYes (tBM K "list" rPopAt (tVar 2) (tCons (tCall (sp__law_draw K) [] E0 (tCons (tVar 0) (tCons (tCB (rLen1 K) (tCons (tVar 2) tNil)) tNil))) tNil)) [3])))
theorem len__law_pick {K : PySem.W.Frag} : ∀ (vs : List V) (H : Hp) (Q : VK) (E : XK), sp__law_pick K vs H Q E → vs.length = 2 := fun vs H Q E h => by
  obtain ⟨_, _, rfl, _⟩ := h
  rfl
theorem pure__law_pick {K : PySem.W.Frag} (vs : List V) (H : Hp) (Q : VK) (E : XK) (h : sp__law_pick K vs H Q E) : t__law_pick K { nx := fun _ H' => Q .non H', rt := Q } (start ["pool", "some"] vs) H := by
  obtain ⟨st, p, rfl, cs, xs, ok, hp, h0, hl, q⟩ := h
  show t__law_pick K _ [some (.ref st), some (.ref p)] H
  unfold t__law_pick
  walk_at "aw"
  rcases hp with ⟨hp, np⟩ | hp
  · refine w_lenL hp ?_
    walk_at "aw"
    refine ⟨st, _, rfl, cs, ok, by omega, by omega, fun n H' h1 h2 g => ?_⟩
    obtain ⟨v, hv⟩ := get_some (xs := xs) (i := n.toNat) (by omega)
    exact .inl (w_ixL (g.sql np hp) (at_nat h1 hv) (q _ _ _ hv g))
  · refine w_lenT (SqT.of hp) ?_
    walk_at "aw"
    refine ⟨st, _, rfl, cs, ok, by omega, by omega, fun n H' h1 h2 g => ?_⟩
    obtain ⟨v, hv⟩ := get_some (xs := xs) (i := n.toNat) (by omega)
    exact .inr (w_ixT (SqT.of (g.tk _ _ hp)) (at_nat h1 hv) (q _ _ _ hv g))
theorem ixN_at {n j : Nat} (hj : j < n) : ixN n (j : Int) = some j := by
  unfold ixN
  rw [if_pos (by omega), if_pos (by omega)]
  simp
theorem perm_erase {α : Type} {xs : List α} {k : Nat} {v : α} (h : xs[k]? = some v) : (v :: xs.eraseIdx k).Perm xs := by
  have hlt : k < xs.length := (List.getElem?_eq_some_iff.mp h).1
  have hd : xs = xs.take k ++ (v :: xs.drop (k + 1)) := by
    have e := List.take_append_drop k xs
    rw [List.drop_eq_getElem_cons hlt, (List.getElem?_eq_some_iff.mp h).2] at e
    exact e.symm
  rw [List.eraseIdx_eq_take_drop_succ]
  have hm := List.perm_middle (a := v) (l₁ := xs.take k) (l₂ := xs.drop (k + 1))
  rw [← hd] at hm
  exact hm.symm
theorem len__law_shuffled {K : PySem.W.Frag} : ∀ (vs : List V) (H : Hp) (Q : VK) (E : XK), sp__law_shuffled K vs H Q E → vs.length = 2 := fun vs H Q E h => by
  obtain ⟨_, _, rfl, _⟩ := h
  rfl
theorem pure__law_shuffled {K : PySem.W.Frag} (vs : List V) (H : Hp) (Q : VK) (E : XK) (h : sp__law_shuffled K vs H Q E) : t__law_shuffled K { nx := fun _ H' => Q .non H', rt := Q } (start ["pool", "some", "left", "k"] vs) H := by
  obtain ⟨st, p, rfl, cs, xs, ok, hp, np, hl, q⟩ := h
  show t__law_shuffled K _ [some (.ref st), some (.ref p), none, none] H
  unfold t__law_shuffled
  walk_at "aw"
  refine w_listOfL (.inl hp) fun l H1 nl a1 el => ?_
  walk_at "aw"
  refine w_lenL (a1.sql (fun z => nomatch z) hp) ?_
  walk_at "aw"
  have nlst : Off l st cs := (ok.ne nl).1
  refine ⟨(xs.length : Nat), rfl, by omega, by omega, ?_⟩
  rw [show ((xs.length : Nat) : Int).toNat = xs.length by omega]
  intro D hD
  have nD0 : H D = none := a1.free (fun z => nomatch z) hD
  have nDst : Off D st cs := (ok.ne nD0).1
  have hlD : l ≠ D := ne_of_none el hD
  refine lc_it walk_range (fun i H' => i ≤ xs.length ∧ Go st cs H H' ∧ ∃ made left, H' D = some (.lst made) ∧ H' l = some (.lst left) ∧ made.length = i ∧ (made ++ left).Perm xs) ⟨Nat.zero_le _, (Go.of ok a1).new (Adv.new hD), [], xs, upd_same, by rw [upd_ne hlD]; exact el, rfl, .refl _⟩ (fun i H' _ _ => trivial) (fun i x H' H'' hi pp y => ?_) fun H' pp => ?_
  · obtain ⟨hi', g, made, left, e1, e2, hm, hperm⟩ := pp
    obtain ⟨rfl, rfl⟩ := y
    have hll : left.length = xs.length - i := by
      have := hperm.length_eq
      rw [List.length_append] at this
      omega
    walk_at "aw"
    refine ⟨rfl, ?_⟩
    walk_at "aw"
    refine w_popAt rfl e2 ?_
    walk_at "aw"
    refine w_lenL (SqL.of e2) ?_
    walk_at "aw"
    refine ⟨st, _, rfl, cs, g.ok, by omega, by omega, fun n H3 n0 n1 g3 => ?_⟩
    walk_at "aw"
    obtain ⟨v, hv⟩ := get_some (xs := left) (i := n.toNat) (by omega)
    have e13 := g3.keep nDst e1
    have e23 := g3.keep nlst e2
    have hsx : seqIndex? n left.length = some n.toNat := (ixN_seq (by
      have := ixN_at (n := left.length) (j := n.toNat) (by omega)
      rw [show ((n.toNat : Nat) : Int) = n by omega] at this
      exact this)).1
    refine ⟨l, left, n, n.toNat, v, rfl, rfl, e23, by omega, by omega, hsx, hv, ?_⟩
    have e14 : (upd H3 l (.lst (left.eraseIdx n.toNat))) D = some (.lst made) := by rw [upd_ne hlD.symm]; exact e13
    have g4 := (g.trans g3).mutL (o := .lst (left.eraseIdx n.toNat)) ok nl e23
    refine ⟨made, e14, Nat.lt_of_lt_of_le (show made.length < 100001 by omega) (by decide), by omega, g4.mutL ok nD0 e14, made ++ [v], left.eraseIdx n.toNat, upd_same, by rw [upd_ne hlD, upd_same], by rw [List.length_append, hm]; rfl, ?_⟩
    refine List.Perm.trans ?_ hperm
    rw [List.append_assoc]
    exact List.Perm.append_left made (perm_erase hv)
  · obtain ⟨_, g, made, left, e1, e2, hm, hperm⟩ := pp
    have hlen := hperm.length_eq
    rw [List.length_append] at hlen
    have : left = [] := List.eq_nil_of_length_eq_zero (by omega)
    rw [this, List.append_nil] at hperm
    exact q D made H' hperm nD0 g e1
end AW
namespace AW
open PySem PySem.Spec PyProof.Rows L2 RZ
open StX
local macro_rules | `(tactic| walk_at "aw1") => `(tactic| first
  | (with_reducible refine w_seq ?_) | (with_reducible refine w_asg ?_) | (with_reducible refine w_gname ?_) | (with_reducible refine w_op ?_) | (with_reducible refine w_un ?_)
  | ((with_reducible refine' w_var ?h ?_); (case h => rfl)) | (with_reducible refine w_c ?_)
  | (with_reducible refine w_I0 ?_) | (with_reducible refine w_U ?_) | (with_reducible refine w_cb ?_) | (with_reducible refine w_nil ?_) | (with_reducible refine w_cons ?_) | (with_reducible refine w_call ?_)
  | (with_reducible refine w_test ?_) | (with_reducible refine w_B ?_) | (with_reducible refine w_bl ?_) | (with_reducible refine w_not ?_) | (with_reducible refine w_yes ?_) | (with_reducible refine iteT ?_) | (with_reducible refine iteF ?_) | (with_reducible refine w_and ?_) | (with_reducible refine w_or ?_)
  | (with_reducible refine w_andV ?_) | (with_reducible refine w_orV ?_) | (with_reducible refine w_notV ?_) | (with_reducible refine w_if ?_)
  | (with_reducible refine w_int1 ?_) | (with_reducible refine w_int1b ?_) | (with_reducible refine w_abs ?_) | (with_reducible refine w_max2 ?_) | (with_reducible refine w_min2 ?_)
  | ((with_reducible refine w_eq ?h ?_); (case h => rfl)) | ((with_reducible refine w_ne ?h ?_); (case h => rfl)) | (with_reducible refine w_isN ?_) | (with_reducible refine w_isB ?_) | (with_reducible refine w_chain ?_)
  | (with_reducible refine w_ret ?_) | (with_reducible refine w_drop ?_) | (with_reducible refine w_ifS ?_) | (with_reducible refine w_gsub ?_) | (with_reducible refine w_augS ?_) | (with_reducible refine w_ipI ?_) | (with_reducible refine w_next ?_)
  | (with_reducible refine w_forR ?_) | (with_reducible refine w_forR2 ?_) | (with_reducible refine w_forL ?_) | (with_reducible refine w_forT ?_) | (with_reducible refine w_lcR ?_) | (with_reducible refine w_lcL ?_) | (with_reducible refine w_lcT ?_) | (with_reducible refine w_sl ?_) | (with_reducible refine w_part ?_) | (with_reducible refine w_noPart ?_) | (with_reducible refine w_in ?_)
  | (with_reducible refine w_gcons ?_) | (with_reducible refine w_gnil ?_) | (with_reducible refine w_lc3 ?_) | (with_reducible refine w_dcZ ?_) | (with_reducible refine w_dcT ?_) | (with_reducible refine w_dg ?_) | (with_reducible refine w_callK ?_) | (with_reducible refine w_dput ?_) | (with_reducible refine w_tup1 ?_)
  | (with_reducible refine w_tup ?_) | (with_reducible refine w_lst ?_)
  | ((with_reducible refine w_I ?h ?_); (case h => first | (exact Or.inr ⟨by decide, by decide⟩) | (exact Or.inl ⟨by decide, by decide⟩) | (show (0 : Int) < _; decide) | (exact ⟨by decide, by decide, by decide⟩) | assumption)))
local macro_rules | `(tactic| walk_at "aw") => `(tactic| repeat (walk_at "aw1"))
theorem w_draw {K : PySem.W.Frag} {st : Addr} {cs : Addr × Addr} {lim : Int} {H : Hp} {Q : VK} {E : XK} (ok : StOk st cs H) (h1 : 0 < lim) (h2 : lim < 1073741824) (q : ∀ n H', 0 ≤ n → n < lim → Go st cs H H' → Q (.int n) H') : sp__law_draw K [.ref st, .int lim] H Q E := ⟨st, lim, rfl, cs, ok, h1, h2, q⟩
/-- one of some numbers, the list is made for it -/
theorem w_pickL {K : PySem.W.Frag} {st : Addr} {cs : Addr × Addr} {ns : List Int} {H : Hp} {Q : VK} (ok : StOk st cs H) (h0 : 0 < ns.length) (h1 : ns.length < 100000) (q : ∀ n, n ∈ ns → ∀ H', Go st cs H H' → Q (.int n) H') : kLstD (ns.map V.int) H fun x H2 => sp__law_pick K [.ref st, x] H2 Q E0 :=
  w_lstD (by rw [List.length_map]; omega) fun p H2 np a2 e2 => ⟨st, p, rfl, cs, _, ok.keep a2 (fun z => nomatch z) (fun z => nomatch z) (fun z => nomatch z), .inl ⟨SqL.of e2, (ok.ne np).1⟩, by rw [List.length_map]; exact h0, by rw [List.length_map]; omega, fun i v H' e g => by
    rw [List.getElem?_map] at e
    obtain ⟨n, hn, rfl⟩ := Option.map_eq_some_iff.mp e
    exact q n (List.mem_of_getElem? hn) H' ((Go.of ok a2).trans g)⟩
theorem strs_of : ∀ {ys : List V}, (∀ (i : Nat) v, ys[i]? = some v → ∃ n : Str, v = .str n) → ∃ ps : List Str, ys = ps.map V.str
  | [], _ => ⟨[], rfl⟩
  | y :: ys, h => by
    obtain ⟨n, rfl⟩ := h 0 y rfl
    obtain ⟨ps, rfl⟩ := strs_of (ys := ys) fun i v e => h (i + 1) v (by simpa using e)
    exact ⟨n :: ps, rfl⟩
def SG : Str := "abcdefghijklmnopqrstuvwxyz0123456789."
def SGl : List Nat := SG.cps.toList
theorem SG_len : SGl.length = 37 := by decide +kernel
theorem SG_ok : ∀ c ∈ SGl, c < 0x110000 := by decide +kernel
theorem SG_size : SG.length ≤ sizeLine := by decide +kernel
theorem w_sign {i : Int} {H : Hp} {Q : VK} (h0 : 0 ≤ i) (h1 : i < 37) (q : ∀ c, SGl[i.toNat]? = some c → Q (.str ⟨#[c]⟩) H) : rIxS (.str SG) (.int i) H Q := by
  obtain ⟨c, hc⟩ := get_some (xs := SGl) (i := i.toNat) (by rw [SG_len]; omega)
  refine ⟨SG, i, c, rfl, rfl, SG_size, ?_, q c hc⟩
  have e : SG.cps.toList.length = 37 := SG_len
  unfold atI ixN
  rw [e, if_pos h0, if_pos (show i < ((37 : Nat) : Int) from h1), Option.bind_some]
  exact hc
theorem w_addS {x y : Str} {H : Hp} {Q : VK} (h : x.length + y.length ≤ 100000) (q : Q (.str (x ++ y)) H) : rAddS (.str x) (.str y) H Q := ⟨x, y, rfl, rfl, Nat.le_trans h (by decide), q⟩
theorem w_str {i : Int} {H : Hp} {Q : VK} (h : i.natAbs < 1000) (q : Q (.str (Str.ofString (toString i))) H) : rStr1 [.int i] H Q := ⟨i, rfl, by have := Nat.log2_le_self i.natAbs; omega, q⟩
theorem okS_app {x y : Str} (h1 : okS x) (h2 : okS y) : okS (x ++ y) := by
  unfold okS at *
  show ((x.cps ++ y.cps).all _) = true
  rw [Array.all_append, h1, h2]
  rfl
theorem okS_iff {x : Str} : okS x ↔ ∀ c ∈ x.cps.toList, c < 0x110000 := by
  unfold okS
  rw [← Array.all_toList, List.all_eq_true]
  simp
theorem okS_one {c : Nat} (h : c < 0x110000) : okS ⟨#[c]⟩ := by
  rw [okS_iff]
  intro d hd
  rw [List.mem_singleton.mp hd]
  exact h
theorem len_app {x y : Str} : (x ++ y).length = x.length + y.length := Array.size_append
theorem len_one {c : Nat} : (⟨#[c]⟩ : Str).length = 1 := rfl
theorem lst_app {x y : Str} : (x ++ y).cps.toList = x.cps.toList ++ y.cps.toList := Array.toList_append
theorem lst_one {c : Nat} : (⟨#[c]⟩ : Str).cps.toList = [c] := rfl
theorem join_ok : ∀ ws : List Str, (∀ x ∈ ws, okS x ∧ x.length = 1) → okS (Str.join "" ws) ∧ (Str.join "" ws).length = ws.length
  | [], _ => ⟨by unfold okS; decide +kernel, by decide +kernel⟩
  | [x], h => ⟨(h x (List.mem_singleton.mpr rfl)).1, by rw [show Str.join "" [x] = x from rfl, (h x (List.mem_singleton.mpr rfl)).2]; rfl⟩
  | x :: y :: ws, h => by
    obtain ⟨h1, h2⟩ := join_ok (y :: ws) fun z hz => h z (List.mem_cons_of_mem _ hz)
    have hx := h x (List.mem_cons_self ..)
    have e : Str.join "" (x :: y :: ws) = x ++ "" ++ Str.join "" (y :: ws) := rfl
    rw [e]
    refine ⟨okS_app (okS_app hx.1 (by unfold okS; decide +kernel)) h1, ?_⟩
    rw [len_app, len_app, hx.2, show (Str.ofString "").length = 0 from by decide +kernel, List.length_cons]
    omega
theorem w_m1 {r : V → List V → Hp → VK → Prop} {to te : TE} {σ : L2.St} {H : Hp} {Q : VK} (h : to σ H fun x H1 => (∃ a, x = .str a) ∧ te σ H1 fun y H2 => r x [y] H2 Q) : tM1 r to te σ H Q := h
theorem w_ifJ {c : TT} {A B : TS} {D : Ends} {σ : L2.St} {H : Hp} (R : L2.St → Hp → Prop) (h1 : ∀ D' : Ends, (∀ σ' H', R σ' H' → D'.nx σ' H') → tIfS c A B D' σ H) (h2 : ∀ σ' H', R σ' H' → D.nx σ' H') : tIfS c A B D σ H := h1 D h2
theorem w_ifEJ {c : TT} {a b : TE} {σ : L2.St} {H : Hp} {Q : VK} (R : V → Hp → Prop) (h1 : ∀ Q' : VK, (∀ v H', R v H' → Q' v H') → tIf c a b σ H Q') (h2 : ∀ v H', R v H' → Q v H') : tIf c a b σ H Q := h1 Q h2
theorem join1 {K : PySem.W.Frag} {p : Addr} {ws : List Str} {H : Hp} {Q : VK} (h : H p = some (.lst (ws.map V.str))) (hw : ∀ x ∈ ws, okS x ∧ x.length = 1) (hl : ws.length ≤ 1000) (q : ∀ nm : Str, okS nm → nm.length = ws.length → Q (.str nm) H) : rJoin K (.str "") [.ref p] H Q := by
  obtain ⟨h1, h2⟩ := join_ok ws hw
  rw [← TL.join_eq] at h1 h2
  have hsum : ∀ l : List Str, (∀ x ∈ l, okS x ∧ x.length = 1) → (l.map (·.length)).sum = l.length := fun l => by
    induction l with
    | nil => exact fun _ => rfl
    | cons a l ih =>
      intro h
      rw [List.map_cons, List.sum_cons, ih fun x hx => h x (List.mem_cons_of_mem _ hx), (h a (List.mem_cons_self ..)).2, List.length_cons]
      omega
  exact ⟨Str.ofString "", p, ws, rfl, rfl, .inl (SqL.of h), by rw [hsum ws hw, show (Str.ofString "").length = 0 from by decide +kernel]; omega, q _ h1 h2⟩
theorem signs_list {ys : List V} (h : ∀ (i : Nat) v, ys[i]? = some v → ∃ x : Str, v = .str x ∧ okS x ∧ x.length = 1) : ∃ ws : List Str, ys = ws.map V.str ∧ ∀ x ∈ ws, okS x ∧ x.length = 1 := by
  obtain ⟨ws, rfl⟩ := strs_of (ys := ys) fun i v e => by
    obtain ⟨x, rfl, _⟩ := h i v e
    exact ⟨x, rfl⟩
  refine ⟨ws, rfl, fun x hx => ?_⟩
  obtain ⟨i, hi, rfl⟩ := List.mem_iff_getElem.mp hx
  obtain ⟨y, e, h⟩ := h i (.str ws[i]) (by rw [List.getElem?_map, List.getElem?_eq_getElem hi]; rfl)
  rw [V.str.inj e]
  exact h
def SH : Str := "abcdefghijklmnopqrstuvwxyz0123456789"
def SHl : List Nat := SH.cps.toList
def sp__law_names (_ : PySem.W.Frag) : Sp := fun vs H Q _ => ∃ (st : Addr) (n : Nat), vs = [.ref st, .int (n : Nat)] ∧ ∃ cs, StOk st cs H ∧ n ≤ 30 ∧ ∀ r (names : List Str) H', Go st cs H H' → H r = none → H' r = some (.lst (names.map V.str)) → names.length = n → names.Nodup → (∀ x ∈ names, okS x) → (∀ x ∈ names, x.length ≤ 100) → (∀ x ∈ names, 0 < x.length) → Q (.ref r) H'
def t__law_names (K : PySem.W.Frag) : TS := (tSeq (tAsg (tC (.str "abcdefghijklmnopqrstuvwxyz0123456789")) (gName 2))
  (tSeq (tAsg (tM1 (rJoin K) (tC (.str "")) (tLc (iRng1 (tCons (tOp rMulI (tCall (sp__law_draw K) [] E0 (tCons (tVar 0) (tCons (tC (.int 4)) tNil))) (tCall (sp__law_draw K) [] E0 (tCons (tVar 0) (tCons (tC (.int 2)) tNil)))) tNil)) (gName 4) tYes (tOp rIxS (tOp rAddS (tVar 2) (tC (.str "."))) (tCall (sp__law_draw K) [] E0 (tCons (tVar 0) (tCons (tC (.int 37)) tNil)))) [4])) (gName 3))
  (tSeq (tAsg (tM1 (rJoin K) (tC (.str "")) (tLc (iRng1 (tCons (tOp rMulI (tCall (sp__law_draw K) [] E0 (tCons (tVar 0) (tCons (tC (.int 4)) tNil))) (tCall (sp__law_draw K) [] E0 (tCons (tVar 0) (tCons (tC (.int 2)) tNil)))) tNil)) (gName 4) tYes (tOp rIxS (tOp rAddS (tVar 2) (tC (.str "."))) (tCall (sp__law_draw K) [] E0 (tCons (tVar 0) (tCons (tC (.int 37)) tNil)))) [4])) (gName 5))
  (tSeq (tAsg (tCall (sp__law_draw K) [] E0 (tCons (tVar 0) (tCons (tC (.int 36)) tNil))) (gName 6))
  (tSeq (tAsg (tOp rCat (tLst (tCons (tC (.str "")) tNil)) (tCB (rListOfA K) (tCons (tVar 2) tNil))) (gName 7))
  (tRet (tLc (iRng1 (tCons (tVar 1) tNil)) (gName 4) tYes (tOp rAddS (tOp rAddS (tOp rAddS (tVar 3) (tOp rIxS (tVar 2) (tOp rModI (tCB rInt1 (tCons (tOp rAddI (tVar 6) (tVar 4)) tNil)) (tC (.int 36))))) (tOp (rIxL K) (tVar 7) (tOp rDivI (tVar 4) (tC (.int 36))))) (tVar 5)) [4])))))))
theorem SH_len : SHl.length = 36 := by decide +kernel
theorem SH_nd : SHl.Nodup := by decide +kernel
theorem SH_ok : ∀ c ∈ SHl, c < 0x110000 := by decide +kernel
theorem SH_size : SH.length ≤ sizeLine := by decide +kernel
theorem SH_dot : SH ++ Str.ofString "." = SG := by decide +kernel
theorem w_signH {i : Int} {H : Hp} {Q : VK} (h0 : 0 ≤ i) (h1 : i < 36) (q : Q (.str ⟨#[SHl.getD i.toNat 0]⟩) H) : rIxS (.str SH) (.int i) H Q := by
  obtain ⟨c, hc⟩ := get_some (xs := SHl) (i := i.toNat) (by rw [SH_len]; omega)
  rw [getD_of hc] at q
  refine ⟨SH, i, c, rfl, rfl, SH_size, ?_, q⟩
  have e : SH.cps.toList.length = 36 := SH_len
  unfold atI ixN
  rw [e, if_pos h0, if_pos (show i < ((36 : Nat) : Int) from h1), Option.bind_some]
  exact hc
def nmH (a b : Str) (f i : Nat) : Str := a ++ ⟨#[SHl.getD ((f + i) % 36) 0]⟩ ++ Str.ofString "" ++ b
theorem nmH_inj {a b : Str} {f i j : Nat} (hi : i < 36) (hj : j < 36) (h : nmH a b f i = nmH a b f j) : i = j := by
  have h1 := congrArg (fun x : Str => x.cps.toList) h
  simp only [nmH, lst_app, lst_one] at h1
  have h2 := List.append_cancel_right (List.append_cancel_right h1)
  have h3 := List.append_cancel_left h2
  have h4 := (List.cons.inj h3).1
  have li : (f + i) % 36 < SHl.length := by rw [SH_len]; omega
  have lj : (f + j) % 36 < SHl.length := by rw [SH_len]; omega
  rw [getD_of (List.getElem?_eq_getElem li), getD_of (List.getElem?_eq_getElem lj)] at h4
  have pw := List.pairwise_iff_getElem.mp SH_nd
  have e : (f + i) % 36 = (f + j) % 36 := by
    rcases Nat.lt_trichotomy ((f + i) % 36) ((f + j) % 36) with z | z | z
    · exact absurd h4 (pw _ _ li lj z)
    · exact z
    · exact absurd h4.symm (pw _ _ lj li z)
  omega
theorem nmH_ok {a b : Str} {f i : Nat} (ha : okS a) (hb : okS b) (la : a.length ≤ 3) (lb : b.length ≤ 3) : okS (nmH a b f i) ∧ (nmH a b f i).length ≤ 100 ∧ 0 < (nmH a b f i).length := by
  have li : (f + i) % 36 < SHl.length := by rw [SH_len]; omega
  have hc : SHl.getD ((f + i) % 36) 0 < 0x110000 := by
    rw [getD_of (List.getElem?_eq_getElem li)]
    exact SH_ok _ (List.getElem_mem li)
  have l0 : (Str.ofString "").length = 0 := by decide +kernel
  refine ⟨okS_app (okS_app (okS_app ha (okS_one hc)) (by unfold okS; decide +kernel)) hb, ?_, ?_⟩
  · unfold nmH
    rw [len_app, len_app, len_app, len_one, l0]
    omega
  · unfold nmH
    rw [len_app, len_app, len_app, len_one, l0]
    omega
theorem len__law_names {K : PySem.W.Frag} : ∀ (vs : List V) (H : Hp) (Q : VK) (E : XK), sp__law_names K vs H Q E → vs.length = 2 := fun vs H Q E h => by
  obtain ⟨_, _, rfl, _⟩ := h
  rfl
theorem few {K : PySem.W.Frag} {st : Addr} {cs : Addr × Addr} {σ : L2.St} {H : Hp} {Q : VK} (ok : StOk st cs H) (h0 : (wipe σ [4])[0]? = some (some (.ref st))) (h2 : (wipe σ [4])[2]? = some (some (.str SH)))
    (hw : ∀ x : V, wipe ((wipe σ [4]).set 4 (some x)) [4] = wipe σ [4]) (g0 : σ[0]? = some (some (.ref st))) (s0 : ∀ x : V, ((wipe σ [4]).set 4 (some x))[0]? = some (some (.ref st))) (s2 : ∀ x : V, ((wipe σ [4]).set 4 (some x))[2]? = some (some (.str SH)))
    (q : ∀ (x : Str) H', okS x → x.length ≤ 3 → Go st cs H H' → Q (.str x) H') :
    tM1 (rJoin K) (tC (.str "")) (tLc (iRng1 (tCons (tOp rMulI (tCall (sp__law_draw K) [] E0 (tCons (tVar 0) (tCons (tC (.int 4)) tNil))) (tCall (sp__law_draw K) [] E0 (tCons (tVar 0) (tCons (tC (.int 2)) tNil)))) tNil)) (gName 4) tYes (tOp rIxS (tOp rAddS (tVar 2) (tC (.str "."))) (tCall (sp__law_draw K) [] E0 (tCons (tVar 0) (tCons (tC (.int 37)) tNil)))) [4]) σ H Q := by
  refine w_m1 ?_
  walk_at "aw"
  refine ⟨⟨_, rfl⟩, ?_⟩
  walk_at "aw"
  refine ⟨_, g0, ?_⟩
  walk_at "aw"
  refine w_draw ok (by decide) (by decide) fun a H1 a0 a1 g1 => ?_
  walk_at "aw"
  refine ⟨_, g0, ?_⟩
  walk_at "aw"
  refine w_draw g1.ok (by decide) (by decide) fun b H2 b0 b1 g2 => ?_
  walk_at "aw"
  refine w_I (.inr ⟨by omega, by omega⟩) ?_
  obtain ⟨N, hN, hN3⟩ : ∃ N : Nat, a * b = (N : Int) ∧ N ≤ 3 := by
    have hb : b = 0 ∨ b = 1 := by omega
    rcases hb with rfl | rfl
    · exact ⟨0, by simp, by decide⟩
    · exact ⟨a.toNat, by rw [Int.mul_one]; omega, by omega⟩
  rw [hN]
  walk_at "aw"
  refine kLcR_all (n := N) (by omega) g2.ok (fun _ v _ => ∃ x : Str, v = .str x ∧ okS x ∧ x.length = 1) (fun _ _ _ _ _ h => h) (fun k H4 Kt hk g4 kt => ?_) fun fa H3 ys nfa g3 efa hyl hyr => ?_
  · refine ⟨hw _, ?_⟩
    walk_at "aw"
    refine ⟨_, s2 _, ?_⟩
    walk_at "aw"
    refine w_addS (by decide +kernel) ?_
    walk_at "aw"
    refine ⟨_, s0 _, ?_⟩
    walk_at "aw"
    refine w_draw g4.ok (by decide) (by decide) fun m H5 hm0 hm1 g5 => ?_
    rw [SH_dot]
    refine w_sign hm0 hm1 fun c hc => ?_
    exact kt _ _ g5 ⟨_, rfl, okS_one (SG_ok c (List.mem_of_getElem? hc)), rfl⟩
  obtain ⟨ws, rfl, hws⟩ := signs_list hyr
  rw [List.length_map] at hyl
  refine join1 efa hws (by omega) fun nm hnm hnml => ?_
  exact q nm _ hnm (by omega) ((g1.trans g2).trans g3)
theorem pure__law_names {K : PySem.W.Frag} (vs : List V) (H : Hp) (Q : VK) (E : XK) (h : sp__law_names K vs H Q E) : t__law_names K { nx := fun _ H' => Q .non H', rt := Q } (start ["pool", "many", "signs", "ahead", "k", "behind", "first", "ends"] vs) H := by
  obtain ⟨st, n, rfl, cs, ok, hn, q⟩ := h
  show t__law_names K _ [some (.ref st), some (.int (n : Nat)), none, none, none, none, none, none] H
  unfold t__law_names
  with_reducible refine w_seq ?_
  with_reducible refine w_asg ?_
  refine w_c ?_
  with_reducible refine w_gname ?_
  with_reducible refine w_seq ?_
  with_reducible refine w_asg ?_
  refine few ok rfl rfl (fun _ => rfl) rfl (fun _ => rfl) (fun _ => rfl) fun a H1 oka la g1 => ?_
  with_reducible refine w_gname ?_
  with_reducible refine w_seq ?_
  with_reducible refine w_asg ?_
  refine few g1.ok rfl rfl (fun _ => rfl) rfl (fun _ => rfl) (fun _ => rfl) fun b H2 okb lb g2 => ?_
  walk_at "aw"
  refine w_draw g2.ok (by decide) (by decide) fun f H3 f0 f1 g3 => ?_
  obtain ⟨F, rfl⟩ : ∃ F : Nat, f = (F : Int) := ⟨f.toNat, by omega⟩
  walk_at "aw"
  refine w_lstD (by simp) fun l1 H4 nl1 a4 el1 => ?_
  walk_at "aw"
  refine w_listOfS (by decide +kernel) fun l2 H5 nl2 a5 el2 => ?_
  refine w_cat (a5.keep _ _ (fun z => nomatch z) el1) el2 (by rw [List.length_map]; decide +kernel) fun l3 H6 nl3 a6 el3 => ?_
  have g6 : Go st cs H H6 := ((g1.trans (g2.trans g3)).new (a4.trans (a5.trans a6)))
  walk_at "aw"
  refine kLcR_pure (n := n) (by omega) (fun _ => true) (fun i => .str (nmH a b F i)) (fun i H7 Kt Kf hi g7 kt kf => ?_) fun p H7 np g7 ep => ?_
  · walk_at "aw"
    refine ⟨rfl, ?_⟩
    walk_at "aw"
    refine w_signH (i := ((F : Int) + (i : Nat)) % 36) (by omega) (by omega) ?_
    rw [show (((F : Int) + (i : Nat)) % 36).toNat = (F + i) % 36 by omega]
    refine w_addS (by rw [len_one]; omega) ?_
    walk_at "aw"
    refine w_I ⟨by decide, by decide⟩ ?_
    rw [show ((i : Nat) : Int) / 36 = 0 by omega]
    refine w_ixL (SqL.of (g7.keep _ _ (fun z => nomatch z) el3)) (v := .str "") (at_of (j := 0) rfl rfl) ?_
    have l0 : (Str.ofString "").length = 0 := by decide +kernel
    refine w_addS (by rw [len_app, len_one, l0]; omega) ?_
    walk_at "aw"
    refine w_addS (by rw [len_app, len_app, len_one, l0]; omega) ?_
    exact kt rfl _ (.refl _ _)
  · have e2 : ((List.range n).filter fun _ => true).map (fun i => V.str (nmH a b F i)) = ((List.range n).map (nmH a b F)).map V.str := by
      rw [List.filter_eq_self.mpr fun _ _ => rfl, List.map_map]
      rfl
    rw [e2] at ep
    refine q p _ H7 (g6.new g7) (g6.free ok np) ep (by simp) ?_ (fun x hx => ?_) (fun x hx => ?_) (fun x hx => ?_)
    · refine List.pairwise_map.mpr (List.Pairwise.imp_of_mem (fun {i j} hi hj hij e => ?_) (List.nodup_range (n := n)))
      exact hij (nmH_inj (by have := List.mem_range.mp hi; omega) (by have := List.mem_range.mp hj; omega) e)
    all_goals
      obtain ⟨i, hi, rfl⟩ := List.mem_map.mp hx
      have := nmH_ok (f := F) (i := i) oka okb la lb
      first | exact this.1 | exact this.2.1 | exact this.2.2
end AW
namespace AW
open PySem PySem.Spec PyProof.Rows L2 RZ
open StX
local macro_rules | `(tactic| walk_at "aw1") => `(tactic| first
  | (with_reducible refine w_seq ?_) | (with_reducible refine w_asg ?_) | (with_reducible refine w_gname ?_) | (with_reducible refine w_op ?_) | (with_reducible refine w_un ?_)
  | ((with_reducible refine' w_var ?h ?_); (case h => rfl)) | (with_reducible refine w_c ?_)
  | (with_reducible refine w_I0 ?_) | (with_reducible refine w_U ?_) | (with_reducible refine w_cb ?_) | (with_reducible refine w_nil ?_) | (with_reducible refine w_cons ?_) | (with_reducible refine w_call ?_)
  | (with_reducible refine w_test ?_) | (with_reducible refine w_B ?_) | (with_reducible refine w_bl ?_) | (with_reducible refine w_not ?_) | (with_reducible refine w_yes ?_) | (with_reducible refine iteT ?_) | (with_reducible refine iteF ?_) | (with_reducible refine w_and ?_) | (with_reducible refine w_or ?_)
  | (with_reducible refine w_andV ?_) | (with_reducible refine w_orV ?_) | (with_reducible refine w_notV ?_) | (with_reducible refine w_if ?_)
  | (with_reducible refine w_int1 ?_) | (with_reducible refine w_int1b ?_) | (with_reducible refine w_abs ?_) | (with_reducible refine w_max2 ?_) | (with_reducible refine w_min2 ?_)
  | ((with_reducible refine w_eq ?h ?_); (case h => rfl)) | ((with_reducible refine w_ne ?h ?_); (case h => rfl)) | (with_reducible refine w_isN ?_) | (with_reducible refine w_isB ?_) | (with_reducible refine w_chain ?_)
  | (with_reducible refine w_ret ?_) | (with_reducible refine w_drop ?_) | (with_reducible refine w_ifS ?_) | (with_reducible refine w_gsub ?_) | (with_reducible refine w_augS ?_) | (with_reducible refine w_ipI ?_) | (with_reducible refine w_next ?_)
  | (with_reducible refine w_forR ?_) | (with_reducible refine w_forR2 ?_) | (with_reducible refine w_forL ?_) | (with_reducible refine w_forT ?_) | (with_reducible refine w_lcR ?_) | (with_reducible refine w_lcL ?_) | (with_reducible refine w_lcT ?_) | (with_reducible refine w_sl ?_) | (with_reducible refine w_part ?_) | (with_reducible refine w_noPart ?_) | (with_reducible refine w_in ?_)
  | (with_reducible refine w_gcons ?_) | (with_reducible refine w_gnil ?_) | (with_reducible refine w_lc3 ?_) | (with_reducible refine w_dcZ ?_) | (with_reducible refine w_dcT ?_) | (with_reducible refine w_dg ?_) | (with_reducible refine w_callK ?_) | (with_reducible refine w_dput ?_) | (with_reducible refine w_tup1 ?_)
  | (with_reducible refine w_tup ?_) | (with_reducible refine w_lst ?_)
  | ((with_reducible refine w_I ?h ?_); (case h => first | (exact Or.inr ⟨by decide, by decide⟩) | (exact Or.inl ⟨by decide, by decide⟩) | (show (0 : Int) < _; decide) | (exact ⟨by decide, by decide, by decide⟩) | assumption)))
local macro_rules | `(tactic| walk_at "aw") => `(tactic| repeat (walk_at "aw1"))
structure DomOk (fl : List Int) : Prop where
  l1 : 1 ≤ fl.length
  l2 : fl.length ≤ 12
  asc : fl.Pairwise (· < ·)
  bd : ∀ x ∈ fl, -100 ≤ x ∧ x ≤ 100
def sp__law_drawn_domain (_ : PySem.W.Frag) : Sp := fun vs H Q _ => ∃ (st : Addr) (n : Nat), vs = [.ref st, .int (n : Nat)] ∧ ∃ cs, StOk st cs H ∧ 1 ≤ n ∧ n ≤ 12 ∧ ∀ t (fl : List Int) H', Go st cs H H' → H' t = some (.tup (fl.map V.int)) → DomOk fl → Q (.ref t) H'
/-- pairs of a name and its domain -/
def UnkAt (H : Hp) (us : List V) (doms : List (Str × List Int)) : Prop := us.length = doms.length ∧ ∀ (i : Nat) u, us[i]? = some u → ∃ p q d, u = .ref p ∧ doms[i]? = some d ∧ H p = some (.tup [.str d.1, .ref q]) ∧ H q = some (.tup (d.2.map V.int))
theorem UnkAt.up {H H' : Hp} {us : List V} {doms : List (Str × List Int)} (h : UnkAt H us doms) (k : TK H H') : UnkAt H' us doms := ⟨h.1, fun i u e => by
  obtain ⟨p, q, d, h1, h2, h3, h4⟩ := h.2 i u e
  exact ⟨p, q, d, h1, h2, k _ _ h3, k _ _ h4⟩⟩
/-- tuples are kept, also those whose object is known -/
structure K2 (H H' : Hp) : Prop where
  t : TK H H'
  f : ∀ a o xs, H a = some (.frz o (.tup xs)) → H' a = some (.frz o (.tup xs))
theorem K2.refl (H : Hp) : K2 H H := ⟨fun _ _ h => h, fun _ _ _ h => h⟩
theorem K2.trans {H H' H2 : Hp} (a : K2 H H') (b : K2 H' H2) : K2 H H2 := ⟨TK.trans a.t b.t, fun _ _ _ h => b.f _ _ _ (a.f _ _ _ h)⟩
theorem k2_of {H H' : Hp} (a : Adv [] H H') : K2 H H' := ⟨a.tup, fun _ _ _ h => a.keep _ _ (fun z => nomatch z) h⟩
theorem k2_go {st : Addr} {cs : Addr × Addr} {H H' : Hp} (ok : StOk st cs H) (g : Go st cs H H') : K2 H H' := ⟨g.tk, fun _ _ _ h => g.keep (ok.notD h (fun _ z => nomatch z)) h⟩
theorem w_tupF {K : PySem.W.Frag} {H : Hp} {Q : VK} {p : Addr} {xs : List V} (h : SqL K H p xs) (q : ∀ r o H', H r = none → o.dict = none → Adv [] H H' → H' r = some (.frz o (.tup xs)) → Q (.ref r) H') : kTupF K (.ref p) H Q := ⟨p, xs, rfl, h, fun r o hr ho => q r o _ hr ho (Adv.new hr) upd_same⟩
theorem w_thenF {K : PySem.W.Frag} {ta : TE} {σ : L2.St} {H : Hp} {Q : VK} (h : ta σ H fun x H1 => kTupF K x H1 Q) : tThen ta (kTupF K) σ H Q := h
/-- the model at m -/
def MdlAt (H : Hp) (m : V) (doms : List (Str × List Int)) : Prop := ∃ (a b : Addr) (o : Obj) (r us : List V), m = .ref a ∧ H a = some (.tup (.ref b :: r)) ∧ H b = some (.frz o (.tup us)) ∧ o.dict = none ∧ UnkAt H us doms
theorem MdlAt.up {H H' : Hp} {m : V} {doms : List (Str × List Int)} (h : MdlAt H m doms) (k : K2 H H') : MdlAt H' m doms := by
  obtain ⟨a, b, o, r, us, h1, h2, h3, h5, h4⟩ := h
  exact ⟨a, b, o, r, us, h1, k.t _ _ h2, k.f _ _ _ h3, h5, h4.up k.t⟩
structure NmsOk (names : List Str) : Prop where
  nd : names.Nodup
  l1 : 1 ≤ names.length
  l2 : names.length ≤ 24
  ok : ∀ x ∈ names, okS x
  le : ∀ x ∈ names, x.length ≤ 100
  lo : ∀ x ∈ names, 0 < x.length
structure MdlOk (doms : List (Str × List Int)) : Prop where
  nm : NmsOk (doms.map (·.1))
  dm : ∀ d ∈ doms, DomOk d.2
def sp__law_unknowns (_ : PySem.W.Frag) : Sp := fun vs H Q _ => ∃ (st p : Addr), vs = [.ref st, .ref p] ∧ ∃ cs names, StOk st cs H ∧ H p = some (.lst (names.map V.str)) ∧ Off p st cs ∧ NmsOk names ∧ ∀ t o us doms H', Go st cs H H' → H' t = some (.frz o (.tup us)) → o.dict = none → UnkAt H' us doms → MdlOk doms → Q (.ref t) H'
def sp__law_model (_ : PySem.W.Frag) : Sp := fun vs H Q _ => ∃ (st : Addr), vs = [.ref st] ∧ ∃ cs, StOk st cs H ∧ ∀ m doms H', Go st cs H H' → MdlAt H' m doms → MdlOk doms → Q m H'
def t__law_drawn_domain (K : PySem.W.Frag) : TS := (tSeq (tAsg (tCall (sp__law_pick K) [] E0 (tCons (tVar 0) (tCons (tLst (tCons (tC (.int 0)) (tCons (tC (.int 0)) (tCons (tC (.int 0)) (tCons (tC (.int 0)) (tCons (tC (.int 1)) (tCons (tUn rNeg (tC (.int 2))) (tCons (tC (.int 5)) tNil)))))))) tNil))) (gName 2))
  (tSeq (tAsg (tLst (tCons (tVar 2) tNil)) (gName 3))
  (tSeq (tFor (iRng1 (tCons (tOp rSubI (tVar 1) (tC (.int 1))) tNil)) (gName 4)
  (tDrop (tBM K "list" rAppend (tVar 3) (tCons (tOp rAddI (tOp (rIxL K) (tVar 3) (tUn rNeg (tC (.int 1)))) (tCall (sp__law_pick K) [] E0 (tCons (tVar 0) (tCons (tLst (tCons (tC (.int 1)) (tCons (tC (.int 1)) (tCons (tC (.int 1)) (tCons (tC (.int 2)) (tCons (tC (.int 4)) tNil)))))) tNil)))) tNil))))
  (tRet (tThen (tVar 3) (kTup K))))))
theorem len__law_drawn_domain {K : PySem.W.Frag} : ∀ (vs : List V) (H : Hp) (Q : VK) (E : XK), sp__law_drawn_domain K vs H Q E → vs.length = 2 := fun vs H Q E h => by
  obtain ⟨_, _, rfl, _⟩ := h
  rfl
theorem pure__law_drawn_domain {K : PySem.W.Frag} (vs : List V) (H : Hp) (Q : VK) (E : XK) (h : sp__law_drawn_domain K vs H Q E) : t__law_drawn_domain K { nx := fun _ H' => Q .non H', rt := Q } (start ["pool", "size", "first", "domain", "k"] vs) H := by
  obtain ⟨st, n, rfl, cs, ok, hn1, hn2, q⟩ := h
  show t__law_drawn_domain K _ [some (.ref st), some (.int (n : Nat)), none, none, none] H
  unfold t__law_drawn_domain
  walk_at "aw"
  refine w_pickL (ns := [0, 0, 0, 0, 1, -2, 5]) ok (by simp) (by simp) fun f hf H1 g1 => ?_
  have hf2 : -2 ≤ f ∧ f ≤ 5 := by
    simp only [List.mem_cons, List.not_mem_nil, or_false] at hf
    omega
  walk_at "aw"
  refine w_lstD (by simp) fun l H2 nl a2 el => ?_
  have nl0 := g1.free ok nl
  have nlst := (ok.ne nl0).1
  walk_at "aw"
  rw [show ((n : Nat) : Int) - 1 = ((n - 1 : Nat) : Int) by omega]
  refine kForR_i (n := n - 1) (by omega) (fun i σ' H' => ∃ (y4 : Option V) (fl : List Int), σ' = [some (.ref st), some (.int (n : Nat)), some (.int f), some (.ref l), y4] ∧ Go st cs H H' ∧ H' l = some (.lst (fl.map V.int)) ∧ fl.length = i + 1 ∧ fl.Pairwise (· < ·) ∧ ∀ x ∈ fl, -2 ≤ x ∧ x ≤ 5 + 4 * (i : Int))
    ⟨_, [f], rfl, g1.new a2, el, rfl, List.pairwise_singleton _ _, fun x hx => by rw [List.mem_singleton.mp hx]; omega⟩ (fun i σ' H' hi pp => ?_) fun σ' H' pp => ?_
  · obtain ⟨y4, fl, rfl, g, el, hfl, hp, hb⟩ := pp
    walk_at "aw"
    refine w_app rfl el ?_
    walk_at "aw"
    have hlast : (fl.map V.int)[i]? = some (.int (fl.getD i 0)) := by
      rw [List.getElem?_map, List.getElem?_eq_getElem (show i < fl.length by omega), getD_of (List.getElem?_eq_getElem (show i < fl.length by omega))]
      rfl
    refine w_ixL (SqL.of el) (v := .int (fl.getD i 0)) ?_ ?_
    · unfold atI ixN
      rw [if_neg (by decide), if_pos (by rw [List.length_map]; omega), List.length_map, Option.bind_some, show (-1 + ((fl.length : Nat) : Int)).toNat = i by omega]
      exact hlast
    walk_at "aw"
    refine w_pickL (ns := [1, 1, 1, 2, 4]) g.ok (by simp) (by simp) fun s hs H3 g3 => ?_
    have hs2 : 1 ≤ s ∧ s ≤ 4 := by
      simp only [List.mem_cons, List.not_mem_nil, or_false] at hs
      omega
    have el3 := g3.keep nlst el
    walk_at "aw"
    refine w_append el3 (by rw [List.length_map]; omega) ?_
    walk_at "aw"
    have hx : fl.getD i 0 ∈ fl := by
      rw [getD_of (List.getElem?_eq_getElem (show i < fl.length by omega))]
      exact List.getElem_mem _
    refine ⟨_, fl ++ [fl.getD i 0 + s], rfl, (g.trans g3).mutL ok nl0 el3, by rw [upd_same, List.map_append]; rfl, by rw [List.length_append, hfl]; rfl, ?_, fun x hx' => ?_⟩
    · rw [List.pairwise_append]
      refine ⟨hp, List.pairwise_singleton _ _, fun a ha b hb' => ?_⟩
      rw [List.mem_singleton.mp hb']
      obtain ⟨j, hj, rfl⟩ := List.mem_iff_getElem.mp ha
      rw [getD_of (List.getElem?_eq_getElem (show i < fl.length by omega))]
      by_cases z : j = i
      · subst z
        omega
      · have := List.pairwise_iff_getElem.mp hp j i hj (by omega) (by omega)
        omega
    · rcases List.mem_append.mp hx' with h | h
      · have := hb x h
        omega
      · have := hb _ hx
        rw [List.mem_singleton.mp h]
        omega
  · obtain ⟨y4, fl, rfl, g, el, hfl, hp, hb⟩ := pp
    walk_at "aw"
    refine w_tupL (SqL.of el) fun t H3 nt a3 et => ?_
    exact q t fl H3 (g.new a3) et ⟨by omega, by omega, hp, fun x hx => by have := hb x hx; omega⟩
end AW
namespace AW
open PySem PySem.Spec PyProof.Rows L2 RZ
open StX
local macro_rules | `(tactic| walk_at "aw1") => `(tactic| first
  | (with_reducible refine w_seq ?_) | (with_reducible refine w_asg ?_) | (with_reducible refine w_gname ?_) | (with_reducible refine w_op ?_) | (with_reducible refine w_un ?_)
  | ((with_reducible refine' w_var ?h ?_); (case h => rfl)) | (with_reducible refine w_c ?_)
  | (with_reducible refine w_I0 ?_) | (with_reducible refine w_U ?_) | (with_reducible refine w_cb ?_) | (with_reducible refine w_nil ?_) | (with_reducible refine w_cons ?_) | (with_reducible refine w_call ?_)
  | (with_reducible refine w_test ?_) | (with_reducible refine w_B ?_) | (with_reducible refine w_bl ?_) | (with_reducible refine w_not ?_) | (with_reducible refine w_yes ?_) | (with_reducible refine iteT ?_) | (with_reducible refine iteF ?_) | (with_reducible refine w_and ?_) | (with_reducible refine w_or ?_)
  | (with_reducible refine w_andV ?_) | (with_reducible refine w_orV ?_) | (with_reducible refine w_notV ?_) | (with_reducible refine w_if ?_)
  | (with_reducible refine w_int1 ?_) | (with_reducible refine w_int1b ?_) | (with_reducible refine w_abs ?_) | (with_reducible refine w_max2 ?_) | (with_reducible refine w_min2 ?_)
  | ((with_reducible refine w_eq ?h ?_); (case h => rfl)) | ((with_reducible refine w_ne ?h ?_); (case h => rfl)) | (with_reducible refine w_isN ?_) | (with_reducible refine w_isB ?_) | (with_reducible refine w_chain ?_)
  | (with_reducible refine w_ret ?_) | (with_reducible refine w_drop ?_) | (with_reducible refine w_ifS ?_) | (with_reducible refine w_gsub ?_) | (with_reducible refine w_augS ?_) | (with_reducible refine w_ipI ?_) | (with_reducible refine w_next ?_)
  | (with_reducible refine w_forR ?_) | (with_reducible refine w_forR2 ?_) | (with_reducible refine w_forL ?_) | (with_reducible refine w_forT ?_) | (with_reducible refine w_lcR ?_) | (with_reducible refine w_lcL ?_) | (with_reducible refine w_lcT ?_) | (with_reducible refine w_sl ?_) | (with_reducible refine w_part ?_) | (with_reducible refine w_noPart ?_) | (with_reducible refine w_in ?_)
  | (with_reducible refine w_gcons ?_) | (with_reducible refine w_gnil ?_) | (with_reducible refine w_lc3 ?_) | (with_reducible refine w_dcZ ?_) | (with_reducible refine w_dcT ?_) | (with_reducible refine w_dg ?_) | (with_reducible refine w_callK ?_) | (with_reducible refine w_dput ?_) | (with_reducible refine w_tup1 ?_)
  | (with_reducible refine w_tup ?_) | (with_reducible refine w_lst ?_)
  | ((with_reducible refine w_I ?h ?_); (case h => first | (exact Or.inr ⟨by decide, by decide⟩) | (exact Or.inl ⟨by decide, by decide⟩) | (show (0 : Int) < _; decide) | (exact ⟨by decide, by decide, by decide⟩) | assumption)))
local macro_rules | `(tactic| walk_at "aw") => `(tactic| repeat (walk_at "aw1"))
def t__law_unknowns (K : PySem.W.Frag) : TS := (tSeq (tAsg (tCall (sp__law_draw K) [] E0 (tCons (tVar 0) (tCons (tC (.int 4)) tNil))) (gName 2))
  (tSeq (tAsg (tOp rAddI (tC (.int 2)) (tCall (sp__law_draw K) [] E0 (tCons (tVar 0) (tCons (tC (.int 2)) tNil)))) (gName 3))
  (tSeq (tAsg (tCall (sp__law_drawn_domain K) [] E0 (tCons (tVar 0) (tCons (tVar 3) tNil))) (gName 4))
  (tSeq (tAsg (tLst tNil) (gName 5))
  (tSeq (tFor (iList K (tVar 1)) (gName 6)
  (tSeq (tAsg (tVar 4) (gName 7))
  (tSeq (tIfS (tAnd (tTest (tOp rEq (tVar 2) (tC (.int 1)))) (tTest (tOp rEq (tCall (sp__law_draw K) [] E0 (tCons (tVar 0) (tCons (tC (.int 2)) tNil))) (tC (.int 0))))) (tAsg (tCall (sp__law_drawn_domain K) [] E0 (tCons (tVar 0) (tCons (tVar 3) tNil))) (gName 7)) tNext)
  (tSeq (tIfS (tTest (tOp rEq (tVar 2) (tC (.int 2)))) (tAsg (tCall (sp__law_drawn_domain K) [] E0 (tCons (tVar 0) (tCons (tVar 3) tNil))) (gName 7)) tNext)
  (tSeq (tIfS (tAnd (tTest (tOp rEq (tVar 2) (tC (.int 3)))) (tTest (tOp rEq (tCall (sp__law_draw K) [] E0 (tCons (tVar 0) (tCons (tC (.int 3)) tNil))) (tC (.int 0))))) (tAsg (tCall (sp__law_drawn_domain K) [] E0 (tCons (tVar 0) (tCons (tOp rAddI (tC (.int 1)) (tCall (sp__law_draw K) [] E0 (tCons (tVar 0) (tCons (tC (.int 4)) tNil)))) tNil))) (gName 7)) tNext)
  (tDrop (tBM K "list" rAppend (tVar 5) (tCons (tTup (tCons (tVar 6) (tCons (tVar 7) tNil))) tNil))))))))
  (tRet (tThen (tVar 5) (kTupF K))))))))
theorem len__law_unknowns {K : PySem.W.Frag} : ∀ (vs : List V) (H : Hp) (Q : VK) (E : XK), sp__law_unknowns K vs H Q E → vs.length = 2 := fun vs H Q E h => by
  obtain ⟨_, _, rfl, _⟩ := h
  rfl
theorem pure__law_unknowns {K : PySem.W.Frag} (vs : List V) (H : Hp) (Q : VK) (E : XK) (h : sp__law_unknowns K vs H Q E) : t__law_unknowns K { nx := fun _ H' => Q .non H', rt := Q } (start ["pool", "names", "style", "size", "base", "row", "x", "domain"] vs) H := by
  obtain ⟨st, p, rfl, cs, names, ok, ep, np, nm, q⟩ := h
  have n1 := nm.l1
  have n2 := nm.l2
  show t__law_unknowns K _ [some (.ref st), some (.ref p), none, none, none, none, none, none] H
  unfold t__law_unknowns
  walk_at "aw"
  refine w_draw ok (by decide) (by decide) fun style H1 s0 s1 g1 => ?_
  walk_at "aw"
  refine w_draw g1.ok (by decide) (by decide) fun z H2 z0 z1 g2 => ?_
  obtain ⟨sz, hsz, hs2⟩ : ∃ sz : Nat, 2 + z = (sz : Int) ∧ 2 ≤ sz ∧ sz ≤ 3 := ⟨(2 + z).toNat, by omega, by omega, by omega⟩
  walk_at "aw1"
  walk_at "aw1"
  walk_at "aw1"
  rw [hsz]
  walk_at "aw"
  refine ⟨st, sz, rfl, cs, g2.ok, by omega, by omega, fun bt bfl H3 g3 ebt hbt => ?_⟩
  have g13 := (g1.trans g2).trans g3
  walk_at "aw"
  refine w_lstD (by simp) fun l H4 nl a4 el => ?_
  have nl0 := g13.free ok nl
  have nlst := (ok.ne nl0).1
  have hpl : p ≠ l := ne_of_none ep nl0
  walk_at "aw"
  refine kForL_i (fun i σ' H' => ∃ (y6 y7 : Option V) (us : List V) (doms : List (Str × List Int)), σ' = [some (.ref st), some (.ref p), some (.int style), some (.int (sz : Nat)), some (.ref bt), some (.ref l), y6, y7] ∧ Go st cs H H' ∧ H' l = some (.lst us) ∧ H' bt = some (.tup (bfl.map V.int)) ∧ us.length = i ∧ UnkAt H' us doms ∧ doms.map (·.1) = names.take i ∧ ∀ d ∈ doms, DomOk d.2) (SqL.of (a4.keep _ _ (fun z => nomatch z) (g13.keep np ep)))
    ⟨_, _, [], [], rfl, g13.new a4, el, a4.tup _ _ ebt, rfl, ⟨rfl, fun i u e => by simp at e⟩, rfl, fun _ h => nomatch h⟩ (fun i σ' H' _ pp => by obtain ⟨_, _, _, _, _, g, _⟩ := pp; exact SqL.of (g.keep np ep)) (fun i u σ' H' hu pp => ?_) fun σ' H' pp => ?_
  · obtain ⟨y6, y7, us, doms, rfl, g, el, ebt', hul, hus, hdn, hdm⟩ := pp
    have hil := (List.getElem?_eq_some_iff.mp hu).1
    rw [List.length_map] at hil
    obtain ⟨x, hx⟩ := get_some (xs := names) (i := i) hil
    rw [List.getElem?_map, hx] at hu
    cases hu
    -- the domain that is taken
    have fin : ∀ (H'' : Hp) (dt : Addr) (dfl : List Int), Go st cs H' H'' → H'' dt = some (.tup (dfl.map V.int)) → DomOk dfl → ∀ (D' : Ends), (∀ σ2 H2, (∃ (y6 y7 : Option V) (us : List V) (doms : List (Str × List Int)), σ2 = [some (.ref st), some (.ref p), some (.int style), some (.int (sz : Nat)), some (.ref bt), some (.ref l), y6, y7] ∧ Go st cs H H2 ∧ H2 l = some (.lst us) ∧ H2 bt = some (.tup (bfl.map V.int)) ∧ us.length = i + 1 ∧ UnkAt H2 us doms ∧ doms.map (·.1) = names.take (i + 1) ∧ ∀ d ∈ doms, DomOk d.2) → D'.nx σ2 H2) →
        tDrop (tBM K "list" rAppend (tVar 5) (tCons (tTup (tCons (tVar 6) (tCons (tVar 7) tNil))) tNil)) D' [some (.ref st), some (.ref p), some (.int style), some (.int (sz : Nat)), some (.ref bt), some (.ref l), some (.str x), some (.ref dt)] H'' := fun H'' dt dfl g' edt hdf D' hD => by
      have el2 := g'.keep nlst el
      walk_at "aw"
      refine w_app rfl el2 ?_
      walk_at "aw"
      refine w_tupD (by show 2 ≤ 100000; decide) fun pr H5 npr a5 epr => ?_
      walk_at "aw"
      have el5 := a5.keep _ _ (fun z => nomatch z) el2
      refine w_append el5 (by omega) ?_
      walk_at "aw"
      have kk : TK H5 (upd H5 l (.lst (us ++ [.ref pr]))) := (Adv.lst el5).tup
      refine hD _ _ ⟨_, _, us ++ [.ref pr], doms ++ [(x, dfl)], rfl, ((g.trans g').new a5).mutL ok nl0 el5, upd_same, kk _ _ (a5.tup _ _ (g'.tk _ _ ebt')), by rw [List.length_append, hul]; rfl, ⟨by rw [List.length_append, List.length_append, hus.1]; rfl, fun j u hj => ?_⟩, ?_, fun d hd => ?_⟩
      · by_cases hjl : j < us.length
        · rw [List.getElem?_append_left hjl] at hj
          obtain ⟨p', q', d', e1, e2, e3, e4⟩ := (hus.up (TK.trans g'.tk (TK.trans a5.tup kk))).2 j u hj
          exact ⟨p', q', d', e1, by rw [List.getElem?_append_left (by rw [← hus.1]; exact hjl)]; exact e2, e3, e4⟩
        · have hj2 := (List.getElem?_eq_some_iff.mp hj).1
          rw [List.length_append] at hj2
          simp at hj2
          have hj3 : j = us.length := by omega
          subst hj3
          rw [List.getElem?_append_right (Nat.le_refl _), Nat.sub_self] at hj
          simp at hj
          subst hj
          exact ⟨pr, dt, (x, dfl), rfl, by rw [hus.1, List.getElem?_append_right (Nat.le_refl _), Nat.sub_self]; rfl, kk _ _ epr, kk _ _ (a5.tup _ _ edt)⟩
      · rw [List.map_append, hdn, List.take_add_one, hx]
        rfl
      · rcases List.mem_append.mp hd with hd | hd
        · exact hdm d hd
        · rw [List.mem_singleton.mp hd]
          exact hdf
    let R : L2.St → Hp → Prop := fun σ2 H2 => ∃ dt dfl, σ2 = [some (.ref st), some (.ref p), some (.int style), some (.int (sz : Nat)), some (.ref bt), some (.ref l), some (.str x), some (.ref dt)] ∧ Go st cs H' H2 ∧ H2 dt = some (.tup (dfl.map V.int)) ∧ DomOk dfl
    have dd : ∀ (D' : Ends) (dt : Addr) (dfl : List Int) (H2 : Hp), Go st cs H' H2 → H2 dt = some (.tup (dfl.map V.int)) → DomOk dfl → (∀ σ' H', R σ' H' → D'.nx σ' H') → D'.nx [some (.ref st), some (.ref p), some (.int style), some (.int (sz : Nat)), some (.ref bt), some (.ref l), some (.str x), some (.ref dt)] H2 := fun D' dt dfl H2 g2 e2 d2 hD => hD _ _ ⟨dt, dfl, rfl, g2, e2, d2⟩
    walk_at "aw1"
    walk_at "aw1"
    walk_at "aw1"
    walk_at "aw1"
    walk_at "aw1"
    walk_at "aw1"
    refine w_ifJ R (fun D' hD => ?_) fun σ2 H2 z => ?_
    · walk_at "aw"
      generalize decide (V.int style = V.int 1) = k
      cases k with
      | true =>
        walk_at "aw"
        refine w_draw g.ok (by decide) (by decide) fun n H3 n0 n1 g3 => ?_
        walk_at "aw"
        generalize decide (V.int n = V.int 0) = k
        cases k with
        | true =>
          walk_at "aw"
          refine ⟨st, sz, rfl, cs, g3.ok, by omega, by omega, fun dt dfl H4 g4 edt hdt => ?_⟩
          walk_at "aw"
          exact dd D' dt dfl H4 (g3.trans g4) edt hdt hD
        | false =>
          walk_at "aw"
          exact dd D' bt bfl H3 g3 (g3.tk _ _ ebt') hbt hD
      | false =>
        walk_at "aw"
        exact dd D' bt bfl H' (Go.refl g.ok) ebt' hbt hD
    obtain ⟨dt, dfl, rfl, g2, e2, d2⟩ := z
    walk_at "aw1"
    refine w_ifJ R (fun D' hD => ?_) fun σ2 H2 z => ?_
    · walk_at "aw"
      generalize decide (V.int style = V.int 2) = k
      cases k with
      | true =>
        walk_at "aw"
        refine ⟨st, sz, rfl, cs, g2.ok, by omega, by omega, fun dt dfl H4 g4 edt hdt => ?_⟩
        walk_at "aw"
        exact dd D' dt dfl H4 (g2.trans g4) edt hdt hD
      | false =>
        walk_at "aw"
        exact dd D' dt dfl _ g2 e2 d2 hD
    obtain ⟨dt, dfl, rfl, g2, e2, d2⟩ := z
    walk_at "aw1"
    refine w_ifJ R (fun D' hD => ?_) fun σ2 H2 z => ?_
    · walk_at "aw"
      generalize decide (V.int style = V.int 3) = k
      cases k with
      | true =>
        walk_at "aw"
        refine w_draw g2.ok (by decide) (by decide) fun n H3 n0 n1 g3 => ?_
        walk_at "aw"
        generalize decide (V.int n = V.int 0) = k
        cases k with
        | true =>
          walk_at "aw"
          refine w_draw g3.ok (by decide) (by decide) fun m H4 m0 m1 g4 => ?_
          obtain ⟨mz, hmz, hm2⟩ : ∃ mz : Nat, 1 + m = (mz : Int) ∧ 1 ≤ mz ∧ mz ≤ 4 := ⟨(1 + m).toNat, by omega, by omega, by omega⟩
          walk_at "aw"
          rw [hmz]
          refine ⟨st, mz, rfl, cs, g4.ok, by omega, by omega, fun dt dfl H5 g5 edt hdt => ?_⟩
          walk_at "aw"
          exact dd D' dt dfl H5 (((g2.trans g3).trans g4).trans g5) edt hdt hD
        | false =>
          walk_at "aw"
          exact dd D' dt dfl H3 (g2.trans g3) (g3.tk _ _ e2) d2 hD
      | false =>
        walk_at "aw"
        exact dd D' dt dfl _ g2 e2 d2 hD
    obtain ⟨dt, dfl, rfl, g2, e2, d2⟩ := z
    exact fin _ dt dfl g2 e2 d2 _ fun σ2 H2 z => z
  · obtain ⟨y6, y7, us, doms, rfl, g, el, ebt', hul, hus, hdn, hdm⟩ := pp
    walk_at "aw"
    with_reducible refine w_thenF ?_
    walk_at "aw"
    refine w_tupF (SqL.of el) fun t o H5 nt ho a5 et => ?_
    rw [List.length_map, List.take_length] at hdn
    exact q t o us doms H5 (g.new a5) et ho (hus.up a5.tup) ⟨by rw [hdn]; exact nm, hdm⟩
end AW
namespace AW
open PySem PySem.Spec PyProof.Rows L2 RZ
open StX
local macro_rules | `(tactic| walk_at "aw1") => `(tactic| first
  | (with_reducible refine w_seq ?_) | (with_reducible refine w_asg ?_) | (with_reducible refine w_gname ?_) | (with_reducible refine w_op ?_) | (with_reducible refine w_un ?_)
  | ((with_reducible refine' w_var ?h ?_); (case h => rfl)) | (with_reducible refine w_c ?_)
  | (with_reducible refine w_I0 ?_) | (with_reducible refine w_U ?_) | (with_reducible refine w_cb ?_) | (with_reducible refine w_nil ?_) | (with_reducible refine w_cons ?_) | (with_reducible refine w_call ?_)
  | (with_reducible refine w_test ?_) | (with_reducible refine w_B ?_) | (with_reducible refine w_bl ?_) | (with_reducible refine w_not ?_) | (with_reducible refine w_yes ?_) | (with_reducible refine iteT ?_) | (with_reducible refine iteF ?_) | (with_reducible refine w_and ?_) | (with_reducible refine w_or ?_)
  | (with_reducible refine w_andV ?_) | (with_reducible refine w_orV ?_) | (with_reducible refine w_notV ?_) | (with_reducible refine w_if ?_)
  | (with_reducible refine w_int1 ?_) | (with_reducible refine w_int1b ?_) | (with_reducible refine w_abs ?_) | (with_reducible refine w_max2 ?_) | (with_reducible refine w_min2 ?_)
  | ((with_reducible refine w_eq ?h ?_); (case h => rfl)) | ((with_reducible refine w_ne ?h ?_); (case h => rfl)) | (with_reducible refine w_isN ?_) | (with_reducible refine w_isB ?_) | (with_reducible refine w_chain ?_)
  | (with_reducible refine w_ret ?_) | (with_reducible refine w_drop ?_) | (with_reducible refine w_ifS ?_) | (with_reducible refine w_gsub ?_) | (with_reducible refine w_augS ?_) | (with_reducible refine w_ipI ?_) | (with_reducible refine w_next ?_)
  | (with_reducible refine w_forR ?_) | (with_reducible refine w_forR2 ?_) | (with_reducible refine w_forL ?_) | (with_reducible refine w_forT ?_) | (with_reducible refine w_lcR ?_) | (with_reducible refine w_lcL ?_) | (with_reducible refine w_lcT ?_) | (with_reducible refine w_sl ?_) | (with_reducible refine w_part ?_) | (with_reducible refine w_noPart ?_) | (with_reducible refine w_in ?_)
  | (with_reducible refine w_gcons ?_) | (with_reducible refine w_gnil ?_) | (with_reducible refine w_lc3 ?_) | (with_reducible refine w_dcZ ?_) | (with_reducible refine w_dcT ?_) | (with_reducible refine w_dg ?_) | (with_reducible refine w_callK ?_) | (with_reducible refine w_dput ?_) | (with_reducible refine w_tup1 ?_)
  | (with_reducible refine w_tup ?_) | (with_reducible refine w_lst ?_)
  | ((with_reducible refine w_I ?h ?_); (case h => first | (exact Or.inr ⟨by decide, by decide⟩) | (exact Or.inl ⟨by decide, by decide⟩) | (show (0 : Int) < _; decide) | (exact ⟨by decide, by decide, by decide⟩) | assumption)))
local macro_rules | `(tactic| walk_at "aw") => `(tactic| repeat (walk_at "aw1"))
def t__law_model (K : PySem.W.Frag) : TS := (tSeq (tIfS (tTest (tOp rEq (tCall (sp__law_draw K) [] E0 (tCons (tVar 0) (tCons (tC (.int 8)) tNil))) (tC (.int 0)))) (tSeq (tAsg (tCall (sp__law_drawn_domain K) [] E0 (tCons (tVar 0) (tCons (tC (.int 12)) tNil))) (gName 1))
  (tRet (tTup (tCons (tThen (tLc (iList K (tCall (sp__law_names K) [] E0 (tCons (tVar 0) (tCons (tC (.int 24)) tNil)))) (gName 2) tYes (tTup (tCons (tVar 2) (tCons (tVar 1) tNil))) [2]) (kTupF K)) (tCons (tTup tNil) (tCons (tTup tNil) tNil)))))) tNext)
  (tSeq (tAsg (tCall (sp__law_unknowns K) [] E0 (tCons (tVar 0) (tCons (tCall (sp__law_shuffled K) [] E0 (tCons (tVar 0) (tCons (tCall (sp__law_names K) [] E0 (tCons (tVar 0) (tCons (tOp rAddI (tC (.int 1)) (tCall (sp__law_draw K) [] E0 (tCons (tVar 0) (tCons (tC (.int 6)) tNil)))) tNil))) tNil))) tNil))) (gName 3))
  (tSeq (tAsg (tTup tNil) (gName 4))
  (tSeq (tIfS (tTest (tOp rEq (tCall (sp__law_draw K) [] E0 (tCons (tVar 0) (tCons (tC (.int 3)) tNil))) (tC (.int 0)))) (tAsg (tTup (tCons (tTup (tCons (tC (.str "soft..soft..soft..soft..")) (tCons (tTup (tCons (tC (.str "least")) (tCons (tTup (tCons (tTup (tCons (tOp (rIxT K) (tOp (rIxT K) (tVar 3) (tC (.int 0))) (tC (.int 0))) (tCons (tC (.int 1)) tNil))) tNil)) (tCons (tC (.int 0)) tNil)))) (tCons (tC (.int 3)) tNil)))) tNil)) (gName 4)) tNext)
  (tRet (tTup (tCons (tVar 3) (tCons (tTup tNil) (tCons (tVar 4) tNil)))))))))
theorem sqt_f {K : PySem.W.Frag} {H : Hp} {a : Addr} {o : Obj} {xs : List V} (h : H a = some (.frz o (.tup xs))) : SqT K H a xs := .inl (.inr ⟨o, h⟩)
theorem perm_inj {xs ys : List Str} (h : (xs.map V.str).Perm (ys.map V.str)) : xs.Perm ys := by
  have := h.map (fun v : V => match v with | .str s => s | _ => "")
  rw [List.map_map, List.map_map] at this
  simpa [Function.comp_def] using this
theorem len__law_model {K : PySem.W.Frag} : ∀ (vs : List V) (H : Hp) (Q : VK) (E : XK), sp__law_model K vs H Q E → vs.length = 1 := fun vs H Q E h => by
  obtain ⟨_, rfl, _⟩ := h
  rfl
theorem pure__law_model {K : PySem.W.Frag} (vs : List V) (H : Hp) (Q : VK) (E : XK) (h : sp__law_model K vs H Q E) : t__law_model K { nx := fun _ H' => Q .non H', rt := Q } (start ["pool", "domain", "x", "unknowns", "soft"] vs) H := by
  obtain ⟨st, rfl, cs, ok, q⟩ := h
  show t__law_model K _ [some (.ref st), none, none, none, none] H
  unfold t__law_model
  walk_at "aw"
  refine w_draw ok (by decide) (by decide) fun n H1 n0 n1 g1 => ?_
  walk_at "aw"
  generalize decide (V.int n = V.int 0) = k
  cases k with
  | true =>
    walk_at "aw"
    refine ⟨st, 12, rfl, cs, g1.ok, by decide, by decide, fun dt dfl H2 g2 edt hdt => ?_⟩
    walk_at "aw"
    with_reducible refine w_thenF ?_
    walk_at "aw"
    refine ⟨st, 24, rfl, cs, g2.ok, by decide, fun l names H3 g3 nl el hln hnd hok hle hlo => ?_⟩
    walk_at "aw"
    have g23 := (g1.trans g2).trans g3
    have edt3 := g3.tk _ _ edt
    refine kLcL_all (st := st) (cs := cs) (SqL.of el) (g2.ok.ne nl).1 (by rw [List.length_map]; omega) g3.ok (fun i v H4 => ∃ p x, v = .ref p ∧ names[i]? = some x ∧ H4 p = some (.tup [.str x, .ref dt])) (fun i v H4 H5 kk hh => by
      obtain ⟨p, x, e1, e2, e3⟩ := hh
      exact ⟨p, x, e1, e2, kk _ _ e3⟩) (fun i x H4 Kt hx g4 kt => ?_) fun b H4 us nb g4 eb hlu hus => ?_
    · rw [List.getElem?_map] at hx
      obtain ⟨y, hy, rfl⟩ := Option.map_eq_some_iff.mp hx
      walk_at "aw"
      refine ⟨rfl, ?_⟩
      walk_at "aw"
      refine w_tupD (by show 2 ≤ 100000; decide) fun p H5 np a5 ep => ?_
      exact kt _ _ (Go.of g4.ok a5) ⟨p, y, rfl, hy, ep⟩
    · walk_at "aw"
      refine w_tupF (SqL.of eb) fun b2 o2 H5 nb2 ho2 a5 eb2 => ?_
      walk_at "aw"
      refine w_tupD (by show 0 ≤ 100000; decide) fun z1 H6 nz1 a6 ez1 => ?_
      walk_at "aw"
      refine w_tupD (by show 0 ≤ 100000; decide) fun z2 H7 nz2 a7 ez2 => ?_
      walk_at "aw"
      refine w_tupD (by show 3 ≤ 100000; decide) fun m H8 nm a8 em => ?_
      have k57 : K2 H5 H8 := (k2_of a6).trans ((k2_of a7).trans (k2_of a8))
      have gg := ((((g23.trans g4).new a5).new a6).new a7).new a8
      have k38 : TK H4 H8 := TK.trans a5.tup k57.t
      refine q (.ref m) (names.map fun x => (x, dfl)) H8 gg ⟨m, b2, o2, _, us, rfl, em, k57.f _ _ _ eb2, ho2, by rw [hlu, List.length_map, List.length_map], fun i u hu => ?_⟩ ⟨?_, fun d hd => ?_⟩
      · obtain ⟨p, x, rfl, hx, e⟩ := hus i u hu
        exact ⟨p, dt, (x, dfl), rfl, by rw [List.getElem?_map, hx]; rfl, k38 _ _ e, k38 _ _ (g4.tk _ _ edt3)⟩
      · rw [List.map_map, show (fun p : Str × List Int => p.1) ∘ (fun x : Str => (x, dfl)) = id from rfl, List.map_id]
        exact ⟨hnd, by omega, by omega, hok, hle, hlo⟩
      · obtain ⟨x, _, rfl⟩ := List.mem_map.mp hd
        exact hdt
  | false =>
    walk_at "aw"
    refine w_draw g1.ok (by decide) (by decide) fun n2 H2 n20 n21 g2 => ?_
    obtain ⟨sz, hsz, hs2⟩ : ∃ sz : Nat, 1 + n2 = (sz : Int) ∧ 1 ≤ sz ∧ sz ≤ 6 := ⟨(1 + n2).toNat, by omega, by omega, by omega⟩
    walk_at "aw1"
    walk_at "aw1"
    rw [hsz]
    walk_at "aw"
    refine ⟨st, sz, rfl, cs, g2.ok, by omega, fun l names H3 g3 nl el hln hnd hok hle hlo => ?_⟩
    walk_at "aw"
    have nlst := (g2.ok.ne nl).1
    refine ⟨st, l, rfl, cs, names.map V.str, g3.ok, SqL.of el, nlst, by rw [List.length_map]; omega, fun l2 made H4 hperm nl2 g4 el2 => ?_⟩
    obtain ⟨names2, rfl⟩ := strs_of (ys := made) fun i v e => by
      have := hperm.subset (List.mem_of_getElem? e)
      obtain ⟨x, _, rfl⟩ := List.mem_map.mp this
      exact ⟨x, rfl⟩
    have hp2 : names2.Perm names := perm_inj hperm
    walk_at "aw"
    refine ⟨st, l2, rfl, cs, names2, g4.ok, el2, (g3.ok.ne nl2).1, ⟨hp2.nodup_iff.mpr hnd, by rw [hp2.length_eq]; omega, by rw [hp2.length_eq]; omega, fun x hx => hok x (hp2.subset hx), fun x hx => hle x (hp2.subset hx), fun x hx => hlo x (hp2.subset hx)⟩, fun t o us doms H5 g5 et ho hus hdm => ?_⟩
    have g15 := (((g1.trans g2).trans g3).trans g4).trans g5
    have fin : ∀ (y1 y2 y4 : Option V) (s : Addr) (H6 : Hp), Go st cs H H6 → K2 H5 H6 → y4 = some (.ref s) → ∀ D : Ends, D.rt = Q → (tRet (tTup (tCons (tVar 3) (tCons (tTup tNil) (tCons (tVar 4) tNil))))) D [some (.ref st), y1, y2, some (.ref t), y4] H6 := fun y1 y2 y4 s H6 g6 k6 e4 D hD => by
      subst e4
      walk_at "aw"
      refine w_tupD (by show 0 ≤ 100000; decide) fun z1 H7 nz1 a7 ez1 => ?_
      walk_at "aw"
      refine w_tupD (by show 3 ≤ 100000; decide) fun m H8 nm a8 em => ?_
      rw [hD]
      have k8 : K2 H5 H8 := k6.trans ((k2_of a7).trans (k2_of a8))
      exact q (.ref m) doms H8 ((g6.new a7).new a8) ⟨m, t, o, _, us, rfl, em, k8.f _ _ _ et, ho, hus.up k8.t⟩ hdm
    walk_at "aw"
    refine w_tupD (by show 0 ≤ 100000; decide) fun s H6 ns a6 es => ?_
    walk_at "aw1"
    walk_at "aw1"
    have g6 := g15.new a6
    refine w_ifJ (fun σ2 H2 => ∃ s, σ2 = [some (.ref st), none, none, some (.ref t), some (.ref s)] ∧ Go st cs H H2 ∧ K2 H5 H2) (fun D' hD => ?_) fun σ2 H2 z => ?_
    · walk_at "aw"
      refine w_draw g6.ok (by decide) (by decide) fun n3 H7 n30 n31 g7 => ?_
      walk_at "aw"
      generalize decide (V.int n3 = V.int 0) = k
      have k57 : K2 H5 H7 := (k2_of a6).trans (k2_go g6.ok g7)
      cases k with
      | false =>
        walk_at "aw"
        exact hD _ _ ⟨s, rfl, g6.trans g7, k57⟩
      | true =>
        walk_at "aw"
        have hl0 : 0 < us.length := by
          rw [hus.1]
          have := hdm.nm.l1
          rw [List.length_map] at this
          omega
        obtain ⟨p0, q0, d0, hu0, hd0, ep0, eq0⟩ := (hus.up k57.t).2 0 us[0] (List.getElem?_eq_getElem hl0)
        refine w_ixT (sqt_f (k57.f _ _ _ et)) (at_nat (by decide) (List.getElem?_eq_getElem hl0)) ?_
        rw [show us[0]'hl0 = .ref p0 from hu0]
        walk_at "aw"
        refine w_ixT (SqT.of ep0) rfl ?_
        walk_at "aw"
        refine w_tupD (by show 2 ≤ 100000; decide) fun z1 H8 nz1 a8 ez1 => ?_
        walk_at "aw"
        refine w_tupD (by show 1 ≤ 100000; decide) fun z2 H9 nz2 a9 ez2 => ?_
        walk_at "aw"
        refine w_tupD (by show 3 ≤ 100000; decide) fun z3 H10 nz3 a10 ez3 => ?_
        walk_at "aw"
        refine w_tupD (by show 3 ≤ 100000; decide) fun z4 H11 nz4 a11 ez4 => ?_
        walk_at "aw"
        refine w_tupD (by show 1 ≤ 100000; decide) fun z5 H12 nz5 a12 ez5 => ?_
        walk_at "aw"
        exact hD _ _ ⟨z5, rfl, (((((g6.trans g7).new a8).new a9).new a10).new a11).new a12, k57.trans ((k2_of a8).trans ((k2_of a9).trans ((k2_of a10).trans ((k2_of a11).trans (k2_of a12)))))⟩
    · obtain ⟨s2, rfl, g2', k2'⟩ := z
      exact fin _ _ _ s2 H2 g2' k2' rfl _ rfl
end AW
namespace AW
open PySem PySem.Spec PyProof.Rows L2 RZ
open StX
local macro_rules | `(tactic| walk_at "aw1") => `(tactic| first
  | (with_reducible refine w_seq ?_) | (with_reducible refine w_asg ?_) | (with_reducible refine w_gname ?_) | (with_reducible refine w_op ?_) | (with_reducible refine w_un ?_)
  | ((with_reducible refine' w_var ?h ?_); (case h => rfl)) | (with_reducible refine w_c ?_)
  | (with_reducible refine w_I0 ?_) | (with_reducible refine w_U ?_) | (with_reducible refine w_cb ?_) | (with_reducible refine w_nil ?_) | (with_reducible refine w_cons ?_) | (with_reducible refine w_call ?_)
  | (with_reducible refine w_test ?_) | (with_reducible refine w_B ?_) | (with_reducible refine w_bl ?_) | (with_reducible refine w_not ?_) | (with_reducible refine w_yes ?_) | (with_reducible refine iteT ?_) | (with_reducible refine iteF ?_) | (with_reducible refine w_and ?_) | (with_reducible refine w_or ?_)
  | (with_reducible refine w_andV ?_) | (with_reducible refine w_orV ?_) | (with_reducible refine w_notV ?_) | (with_reducible refine w_if ?_)
  | (with_reducible refine w_int1 ?_) | (with_reducible refine w_int1b ?_) | (with_reducible refine w_abs ?_) | (with_reducible refine w_max2 ?_) | (with_reducible refine w_min2 ?_)
  | ((with_reducible refine w_eq ?h ?_); (case h => rfl)) | ((with_reducible refine w_ne ?h ?_); (case h => rfl)) | (with_reducible refine w_isN ?_) | (with_reducible refine w_isB ?_) | (with_reducible refine w_chain ?_)
  | (with_reducible refine w_ret ?_) | (with_reducible refine w_drop ?_) | (with_reducible refine w_ifS ?_) | (with_reducible refine w_gsub ?_) | (with_reducible refine w_augS ?_) | (with_reducible refine w_ipI ?_) | (with_reducible refine w_next ?_)
  | (with_reducible refine w_forR ?_) | (with_reducible refine w_forR2 ?_) | (with_reducible refine w_forL ?_) | (with_reducible refine w_forT ?_) | (with_reducible refine w_lcR ?_) | (with_reducible refine w_lcL ?_) | (with_reducible refine w_lcT ?_) | (with_reducible refine w_sl ?_) | (with_reducible refine w_part ?_) | (with_reducible refine w_noPart ?_) | (with_reducible refine w_in ?_)
  | (with_reducible refine w_gcons ?_) | (with_reducible refine w_gnil ?_) | (with_reducible refine w_lc3 ?_) | (with_reducible refine w_dcZ ?_) | (with_reducible refine w_dcT ?_) | (with_reducible refine w_dg ?_) | (with_reducible refine w_callK ?_) | (with_reducible refine w_dput ?_) | (with_reducible refine w_tup1 ?_)
  | (with_reducible refine w_tup ?_) | (with_reducible refine w_lst ?_)
  | ((with_reducible refine w_I ?h ?_); (case h => first | (exact Or.inr ⟨by decide, by decide⟩) | (exact Or.inl ⟨by decide, by decide⟩) | (show (0 : Int) < _; decide) | (exact ⟨by decide, by decide, by decide⟩) | assumption)))
local macro_rules | `(tactic| walk_at "aw") => `(tactic| repeat (walk_at "aw1"))
/-- tuples and dicts are kept -/
structure K3 (H H' : Hp) : Prop where
  k : K2 H H'
  d : ∀ a kvs, H a = some (.dK kvs) → H' a = some (.dK kvs)
theorem K3.refl (H : Hp) : K3 H H := ⟨.refl _, fun _ _ h => h⟩
theorem K3.trans {H H' H2 : Hp} (a : K3 H H') (b : K3 H' H2) : K3 H H2 := ⟨a.k.trans b.k, fun _ _ h => b.d _ _ (a.d _ _ h)⟩
theorem k3_of {H H' : Hp} (a : Adv [] H H') : K3 H H' := ⟨k2_of a, fun _ _ h => a.keep _ _ (fun z => nomatch z) h⟩
theorem k3_go {st : Addr} {cs : Addr × Addr} {H H' : Hp} (ok : StOk st cs H) (g : Go st cs H H') : K3 H H' := ⟨k2_go ok g, fun _ _ h => g.keep (ok.notD h (fun _ z => nomatch z)) h⟩
/-- pairs of numbers as a dict -/
def pD (ps : List (Int × Int)) : List (Key × V) := ps.map fun ab => (.inl ab.1, .int ab.2)
theorem nodup_map_inj {α β : Type} {f : α → β} (hf : ∀ a b, f a = f b → a = b) {xs : List α} (h : xs.Nodup) : (xs.map f).Nodup := List.Pairwise.map f (fun a b z e => z (hf a b e)) h
/-- one way: a name, the name that it leads to, the pairs of values -/
abbrev Way := Str × Str × List (Int × Int)
def RowAt (H : Hp) (r : Way) (kv : Key × V) : Prop := kv.1 = .inr r.1 ∧ ∃ p q, kv.2 = .ref p ∧ H p = some (.tup [.str r.2.1, .ref q]) ∧ H q = some (.dK (pD r.2.2))
def WaysAt (H : Hp) (w : Addr) (W : List Way) : Prop := ∃ kvs, H w = some (.dK kvs) ∧ Paired (RowAt H) W kvs
theorem RowAt.up {H H' : Hp} {r : Way} {kv : Key × V} (h : RowAt H r kv) (k : K3 H H') : RowAt H' r kv := by
  obtain ⟨h1, p, q, h2, h3, h4⟩ := h
  exact ⟨h1, p, q, h2, k.k.t _ _ h3, k.d _ _ h4⟩
theorem WaysAt.up {H H' : Hp} {w : Addr} {W : List Way} (h : WaysAt H w W) (k : K3 H H') : WaysAt H' w W := by
  obtain ⟨kvs, h1, h2⟩ := h
  exact ⟨kvs, k.d _ _ h1, L2.Paired.mapP h2 fun _ _ z => z.up k⟩
def idW (doms : List (Str × List Int)) : List Way := doms.map fun d => (d.1, d.1, d.2.map fun v => (v, v))
def sp__law_ways (_ : PySem.W.Frag) : Sp := fun vs H Q _ => ∃ (m : V) (e : Addr), vs = [m, .ref e] ∧ ∃ doms, MdlAt H m doms ∧ MdlOk doms ∧ H e = some (.tup []) ∧ ∀ w H', H w = none → Adv [] H H' → WaysAt H' w (idW doms) → Q (.ref w) H'
theorem merge_nd : ∀ (more kvs : List (Key × V)), ((kvs ++ more).map (·.1)).Nodup → mergeK kvs more = kvs ++ more
  | [], kvs, _ => by rw [List.append_nil]; rfl
  | m :: more, kvs, h => by
    have e : valV kvs m.1 = none := by
      unfold valV
      rw [List.find?_eq_none.mpr fun x hx => ?_]
      · rfl
      · rw [List.map_append, List.nodup_append] at h
        intro z
        have z2 : x.1 = m.1 := by simpa using z
        exact h.2.2 x.1 (List.mem_map_of_mem hx) m.1 (List.mem_map_of_mem (List.mem_cons_self ..)) z2
    show mergeK (putK kvs m.1 m.2) more = _
    rw [putK_new _ e, merge_nd more (kvs ++ [(m.1, m.2)]) (by rw [List.append_assoc]; exact h), List.append_assoc]
    rfl
theorem paired_of {α β : Type} {F : α → β → Prop} : ∀ {xs : List α} {ys : List β}, xs.length = ys.length → (∀ (i : Nat) x y, xs[i]? = some x → ys[i]? = some y → F x y) → Paired F xs ys
  | [], [], _, _ => .nil
  | [], _ :: _, h, _ => by simp at h
  | _ :: _, [], h, _ => by simp at h
  | x :: xs, y :: ys, h, f => .cons (f 0 x y rfl rfl) (paired_of (by simpa using h) fun i a b ha hb => f (i + 1) a b (by simpa using ha) (by simpa using hb))
theorem refs_of : ∀ {ys : List V}, (∀ (i : Nat) v, ys[i]? = some v → ∃ n : Addr, v = .ref n) → ∃ ps : List Addr, ys = ps.map V.ref
  | [], _ => ⟨[], rfl⟩
  | y :: ys, h => by
    obtain ⟨n, rfl⟩ := h 0 y rfl
    obtain ⟨ps, rfl⟩ := refs_of (ys := ys) fun i v e => h (i + 1) v (by simpa using e)
    exact ⟨n :: ps, rfl⟩
/-- dict(l), l a list of pairs whose first items differ -/
theorem w_dictPl {K : PySem.W.Frag} {H : Hp} {Q : VK} {l : Addr} {us : List V} {kvs : List (Key × V)} (h : H l = some (.lst us)) (hl : us.length = kvs.length) (hr : ∀ (i : Nat) u, us[i]? = some u → ∃ p kv, u = .ref p ∧ kvs[i]? = some kv ∧ H p = some (.tup [kV kv.1, kv.2])) (nd : (kvs.map (·.1)).Nodup)
    (q : ∀ d H', H d = none → Adv [] H H' → H' d = some (.dK kvs) → Q (.ref d) H') : rDictP K [.ref l] H Q := by
  obtain ⟨ps, rfl⟩ := refs_of fun i v e => by
    obtain ⟨p, _, h1, _⟩ := hr i v e
    exact ⟨p, h1⟩
  refine ⟨l, ps, kvs, rfl, SqL.of h, paired_of (by rw [← hl, List.length_map]) fun i p kv e1 e2 => ?_, fun d hd => ?_⟩
  · obtain ⟨p', kv', h1, h2, h3⟩ := hr i (.ref p) (by rw [List.getElem?_map, e1]; rfl)
    cases h1
    rw [e2] at h2
    cases h2
    exact SqT.of h3
  · rw [merge_nd kvs [] nd]
    exact q d _ hd (Adv.new hd) upd_same
/-- .. of a tuple whose object is known -/
theorem w_dictPt {K : PySem.W.Frag} {H : Hp} {Q : VK} {l : Addr} {o : Obj} {us : List V} {kvs : List (Key × V)} (h : H l = some (.frz o (.tup us))) (ho : o.dict = none) (hl : us.length = kvs.length) (hr : ∀ (i : Nat) u, us[i]? = some u → ∃ p kv, u = .ref p ∧ kvs[i]? = some kv ∧ H p = some (.tup [kV kv.1, kv.2])) (nd : (kvs.map (·.1)).Nodup)
    (q : ∀ d H', H d = none → Adv [] H H' → H' d = some (.dK kvs) → Q (.ref d) H') : rDictPT K [.ref l] H Q := by
  obtain ⟨ps, rfl⟩ := refs_of fun i v e => by
    obtain ⟨p, _, h1, _⟩ := hr i v e
    exact ⟨p, h1⟩
  refine ⟨l, o, ps, kvs, rfl, h, ho, paired_of (by rw [← hl, List.length_map]) fun i p kv e1 e2 => ?_, fun d hd => ?_⟩
  · obtain ⟨p', kv', h1, h2, h3⟩ := hr i (.ref p) (by rw [List.getElem?_map, e1]; rfl)
    cases h1
    rw [e2] at h2
    cases h2
    exact SqT.of h3
  · rw [merge_nd kvs [] nd]
    exact q d _ hd (Adv.new hd) upd_same
theorem kLc_rel {J : It} {n : Nat} {G : Hp → Prop} {Y : Nat → Hp → V → Hp → Prop} {g : TG} {te : TE} {vs : List Nat} {σ : L2.St} {Q : VK} {H1 : Hp} (wk : Walk J n G Y) (hn : n ≤ 100000) (hG : ∀ H', Adv [] H1 H' → G H') (R : Nat → V → Hp → Prop) (mono : ∀ i v H H', TK H H' → R i v H → R i v H')
    (step : ∀ i x H H' (Kt : V → Hp → Prop), i < n → Adv [] H1 H → Y i H x H' → (∀ y H4, Adv [] H H4 → R i y H4 → Kt y H4) → g x (wipe σ vs) H' fun σ2 H2 => wipe σ2 vs = wipe σ vs ∧ te σ2 H2 Kt)
    (k : ∀ p H' ys, H1 p = none → Adv [] H1 H' → H' p = some (.lst ys) → ys.length = n → (∀ (i : Nat) v, ys[i]? = some v → R i v H') → Q (.ref p) H') : kLc J g tYes te vs σ Q H1 := by
  intro D hD
  refine lc_it wk (fun i H => Adv [] H1 H ∧ ∃ ys, H D = some (.lst ys) ∧ ys.length = i ∧ ∀ (m : Nat) v, ys[m]? = some v → R m v H) ⟨Adv.new hD, [], upd_same, rfl, fun m v e => by simp at e⟩ (fun i H _ p => hG H p.1)
    (fun i x H H' hi p y => ?_) fun H p => ?_
  · obtain ⟨g1, ys, e1, hl, hr⟩ := p
    refine step i x H H' _ hi g1 y fun v H4 g4 r4 => ?_
    have e4 : H4 D = some (.lst ys) := g4.keep _ _ (fun z => nomatch z) e1
    have t5 : TK H4 (upd H4 D (.lst (ys ++ [v]))) := (Adv.lst e4).tup
    refine ⟨ys, e4, Nat.lt_of_lt_of_le (show ys.length < 100001 by omega) (by decide), (g1.trans g4).mut hD e4 (fun _ z => by cases z), ys ++ [v], upd_same, by rw [List.length_append, hl]; rfl, fun m w e => ?_⟩
    by_cases hm : m < ys.length
    · rw [List.getElem?_append_left hm] at e
      exact mono _ _ _ _ (TK.trans g4.tup t5) (hr m w e)
    · have hm2 : m = ys.length := by
        have := (List.getElem?_eq_some_iff.mp e).1
        rw [List.length_append] at this
        simp at this
        omega
      subst hm2
      rw [List.getElem?_append_right (Nat.le_refl _), Nat.sub_self] at e
      simp at e
      subst e
      rw [hl]
      exact mono _ _ _ _ t5 r4
  · obtain ⟨g1, ys, e1, hl, hr⟩ := p
    exact k D H ys hD g1 e1 hl hr
/-- dict([(a, b) for ..]) of numbers, drawn from anything that is walked -/
theorem pd_of {H : Hp} {us : List V} {ps : List (Int × Int)} (h : ∀ (i : Nat) v, us[i]? = some v → ∃ a ab, v = .ref a ∧ ps[i]? = some ab ∧ H a = some (.tup [.int ab.1, .int ab.2])) : ∀ (i : Nat) u, us[i]? = some u → ∃ p kv, u = .ref p ∧ (pD ps)[i]? = some kv ∧ H p = some (.tup [kV kv.1, kv.2]) := fun i u e => by
  obtain ⟨a, ab, h1, h2, h3⟩ := h i u e
  exact ⟨a, (.inl ab.1, .int ab.2), h1, by unfold pD; rw [List.getElem?_map, h2]; rfl, h3⟩
theorem pd_nd {ps : List (Int × Int)} (h : (ps.map (·.1)).Nodup) : ((pD ps).map (·.1)).Nodup := by
  unfold pD
  rw [List.map_map]
  have e : ((·.1) ∘ fun ab : Int × Int => ((.inl ab.1 : Key), V.int ab.2)) = (Sum.inl : Int → Key) ∘ (·.1) := rfl
  rw [e, ← List.map_map]
  exact nodup_map_inj (fun a b z => Sum.inl.inj z) h
theorem paired_snoc {α β : Type} {F : α → β → Prop} : ∀ {xs : List α} {ys : List β} {x : α} {y : β}, Paired F xs ys → F x y → Paired F (xs ++ [x]) (ys ++ [y])
  | _, _, _, _, .nil, h => .cons h .nil
  | _, _, _, _, .cons a t, h => .cons a (paired_snoc t h)
theorem keys_of {H : Hp} : ∀ {W : List Way} {kvs : List (Key × V)}, Paired (RowAt H) W kvs → kvs.map (·.1) = W.map fun r => (Sum.inr r.1 : Key)
  | _, _, .nil => rfl
  | _, _, .cons h t => by rw [List.map_cons, List.map_cons, keys_of t, h.1]
theorem val_none {kvs : List (Key × V)} {k : Key} (h : k ∉ kvs.map (·.1)) : valV kvs k = none := by
  unfold valV
  rw [List.find?_eq_none.mpr fun x hx => ?_]
  · rfl
  · intro z
    have z2 : x.1 = k := by simpa using z
    exact h (z2 ▸ List.mem_map_of_mem hx)
theorem RowAt.put {H : Hp} {w : Addr} {kvs kvs' : List (Key × V)} {kv : Key × V} {r : Way} {x : Str} (ew : H w = some (.dK kvs)) (hm : Sum.inr x ∈ kvs.map (·.1)) (h : RowAt H r kv) : RowAt (upd H w (.dK kvs')) r kv := by
  obtain ⟨h1, p, q, h2, h3, h4⟩ := h
  refine ⟨h1, p, q, h2, ?_, ?_⟩
  · rw [upd_ne (ne_of h3 ew fun z => nomatch z)]
    exact h3
  · rw [upd_ne (fun z => ?_)]
    · exact h4
    · rw [z, ew] at h4
      have e : kvs = pD r.2.2 := by injection h4 with h5; injection h5
      rw [e] at hm
      unfold pD at hm
      rw [List.map_map] at hm
      obtain ⟨ab, _, e2⟩ := List.mem_map.mp hm
      exact nomatch e2
def t__law_ways (K : PySem.W.Frag) : TS := (tSeq (tAsg tDNewK (gName 2))
  (tSeq (tFor (iTup K (tOp (rIxT K) (tVar 0) (tC (.int 0)))) (gTup K 2 (gCons (gName 3) (gCons (gName 4) gNil)))
  (sDPut (tVar 2) (tVar 3) (tTup (tCons (tVar 3) (tCons (tCB (rDictP K) (tCons (tLc (iTup K (tVar 4)) (gName 5) tYes (tTup (tCons (tVar 5) (tCons (tVar 5) tNil))) [5]) tNil)) tNil)))))
  (tSeq (tFor (iTup K (tVar 1)) (gTup K 3 (gCons (gName 3) (gCons (gName 6) (gCons (gName 7) gNil))))
  (sDPut (tVar 2) (tVar 3) (tTup (tCons (tVar 6) (tCons (tCB (rDictP K) (tCons (tVar 7) tNil)) tNil)))))
  (tRet (tVar 2)))))
theorem len__law_ways {K : PySem.W.Frag} : ∀ (vs : List V) (H : Hp) (Q : VK) (E : XK), sp__law_ways K vs H Q E → vs.length = 2 := fun vs H Q E h => by
  obtain ⟨_, _, rfl, _⟩ := h
  rfl
theorem w_dnewK {σ : L2.St} {H : Hp} {Q : VK} (q : ∀ r H', H r = none → Adv [] H H' → H' r = some (.dK []) → Q (.ref r) H') : tDNewK σ H Q := w_new q
theorem pure__law_ways {K : PySem.W.Frag} (vs : List V) (H : Hp) (Q : VK) (E : XK) (h : sp__law_ways K vs H Q E) : t__law_ways K { nx := fun _ H' => Q .non H', rt := Q } (start ["model", "exchange", "ways", "x", "domain", "v", "y", "pairs"] vs) H := by
  obtain ⟨m, e, rfl, doms, hm, ok, ee, q⟩ := h
  obtain ⟨ma, mb, o, r, us, rfl, e1, e2, ho, hus⟩ := id hm
  show t__law_ways K _ [some (.ref ma), some (.ref e), none, none, none, none, none, none] H
  unfold t__law_ways
  walk_at "aw"
  refine w_dnewK fun w H1 nw a1 ew => ?_
  walk_at "aw"
  refine w_ixT (SqT.of (a1.tup _ _ e1)) (at_nat (by decide) rfl) ?_
  walk_at "aw"
  have hul := hus.1
  have n2 : doms.length ≤ 24 := by have := ok.nm.l2; rw [List.length_map] at this; exact this
  refine kForT_i (fun i σ' H' => ∃ y3 y4, σ' = [some (.ref ma), some (.ref e), some (.ref w), y3, y4, none, none, none] ∧ Adv [] H H' ∧ WaysAt H' w ((idW doms).take i)) (sqt_f ((k2_of a1).f _ _ _ e2))
    ⟨_, _, rfl, a1, [], ew, .nil⟩ (fun i σ' H' _ pp => by obtain ⟨_, _, _, a, _⟩ := pp; exact sqt_f ((k2_of a).f _ _ _ e2)) (fun i u σ' H' hu pp => ?_) fun σ' H' pp => ?_
  · obtain ⟨y3, y4, rfl, a, kvs, ew', hW⟩ := pp
    obtain ⟨p, p2, d, rfl, hd, ep, ep2⟩ := (hus.up a.tup).2 i u hu
    have hil := (List.getElem?_eq_some_iff.mp hd).1
    have hdm := ok.dm d (List.mem_of_getElem? hd)
    refine w_gtup (SqT.of ep) rfl ?_
    walk_at "aw"
    refine ⟨p2, rfl, ⟨_, SqT.of ep2⟩, kLc_rel (walk_tup (xs := d.2.map V.int)) (by rw [List.length_map]; have := hdm.l2; omega) (fun H2 g => SqT.of (g.tup _ _ ep2)) (fun i v H2 => ∃ a ab, v = .ref a ∧ (d.2.map fun v => (v, v))[i]? = some ab ∧ H2 a = some (.tup [.int ab.1, .int ab.2])) (fun i v H2 H3 kk hh => by
      obtain ⟨a, ab, h1, h2, h3⟩ := hh
      exact ⟨a, ab, h1, h2, kk _ _ h3⟩) (fun j x H2 H3 Kt hj g2 y kt => ?_) fun l H2 ys nl a2 el hyl hr => ?_⟩
    · obtain ⟨rfl, hx⟩ := y
      rw [List.getElem?_map] at hx
      obtain ⟨z, hz, rfl⟩ := Option.map_eq_some_iff.mp hx
      walk_at "aw"
      refine ⟨rfl, ?_⟩
      walk_at "aw"
      refine w_tupD (by show 2 ≤ 100000; decide) fun t H4 nt a4 et => ?_
      exact kt _ _ a4 ⟨t, (z, z), rfl, by rw [List.getElem?_map, hz]; rfl, et⟩
    · walk_at "aw"
      refine w_dictPl el (by rw [hyl]; unfold pD; rw [List.length_map, List.length_map, List.length_map]) (pd_of hr) (pd_nd ?_) fun d2 H3 nd2 a3 ed2 => ?_
      · rw [List.map_map]
        have e5 : ((·.1) ∘ fun v : Int => (v, v)) = id := rfl
        rw [e5, List.map_id]
        exact hdm.asc.imp fun {a b} z e => by omega
      walk_at "aw"
      refine w_tupD (by show 2 ≤ 100000; decide) fun p4 H4 np4 a4 ep4 => ?_
      walk_at "aw"
      have k24 : K3 H' H4 := (k3_of a2).trans ((k3_of a3).trans (k3_of a4))
      have ew4 := k24.d _ _ ew'
      have hkl : kvs.length = i := by
        rw [← hW.length, List.length_take]
        unfold idW
        rw [List.length_map]
        omega
      refine kDPut_i ew4 (k := .inr d.1) (by omega) ?_
      have ew2 := (k3_of a2).d _ _ ew'
      have ew3 := (k3_of a3).d _ _ ew2
      have hkeys := keys_of hW
      have hni : (Sum.inr d.1 : Key) ∉ kvs.map (·.1) := by
        rw [hkeys]
        intro z
        obtain ⟨r', hr', e'⟩ := List.mem_map.mp z
        have e'' : r'.1 = d.1 := Sum.inr.inj e'
        unfold idW at hr'
        rw [← List.map_take] at hr'
        obtain ⟨d', hd', rfl⟩ := List.mem_map.mp hr'
        obtain ⟨j, hj, hdj⟩ := List.mem_iff_getElem.mp hd'
        rw [List.length_take] at hj
        rw [List.getElem_take] at hdj
        have e1' : (doms.map (·.1))[j]? = some d.1 := by rw [List.getElem?_map, List.getElem?_eq_getElem (by omega), Option.map_some, hdj, ← e'']
        have e2' : (doms.map (·.1))[i]? = some d.1 := by rw [List.getElem?_map, hd]; rfl
        have := nodup_inj ok.nm.nd e1' e2'
        omega
      rw [putK_new _ (val_none hni)]
      refine ⟨_, _, rfl, ((a.trans a2).trans (a3.trans a4)).mut nw ew4 (fun _ z => by cases z), _, upd_same, ?_⟩
      have hWt : (idW doms).take (i + 1) = (idW doms).take i ++ [(d.1, d.1, d.2.map fun v => (v, v))] := by
        rw [List.take_add_one]
        unfold idW
        rw [List.getElem?_map, hd]
        rfl
      rw [hWt]
      refine paired_snoc ?_ ⟨rfl, p4, d2, rfl, ?_, ?_⟩
      · cases hi0 : kvs with
        | nil =>
          rw [hi0] at hW
          rw [List.eq_nil_of_length_eq_zero hW.length]
          exact .nil
        | cons kv0 kvr =>
          have hx : ∃ x : Str, (Sum.inr x : Key) ∈ kvs.map (·.1) := by
            rw [hkeys]
            have h0 : 0 < ((idW doms).take i).length := by rw [hW.length, hi0]; exact Nat.succ_pos _
            exact ⟨_, List.mem_map_of_mem (List.getElem_mem h0)⟩
          obtain ⟨x, hx⟩ := hx
          rw [← hi0]
          exact L2.Paired.mapP hW fun _ _ z => (z.up k24).put ew4 hx
      · rw [upd_ne (ne_of_none ew3 np4).symm]
        exact ep4
      · rw [upd_ne (ne_of_none ew2 nd2).symm]
        exact (k3_of a4).d _ _ ed2
  · obtain ⟨y3, y4, rfl, a, hW⟩ := pp
    have hWl : (idW doms).take us.length = idW doms := List.take_of_length_le (by unfold idW; rw [List.length_map]; omega)
    rw [hWl] at hW
    walk_at "aw"
    refine kForT_i (fun i σ' H2 => σ' = [some (.ref ma), some (.ref e), some (.ref w), y3, y4, none, none, none] ∧ H2 = H') (SqT.of (a.tup _ _ ee)) ⟨rfl, rfl⟩ (fun i σ' H2 _ pp => by obtain ⟨_, rfl⟩ := pp; exact SqT.of (a.tup _ _ ee)) (fun i u σ' H2 hu pp => by simp at hu) fun σ' H2 pp => ?_
    obtain ⟨rfl, rfl⟩ := pp
    walk_at "aw"
    exact q w H2 nw a hW
end AW
namespace AW
open PySem PySem.Spec PyProof.Rows L2 RZ
open StX
local macro_rules | `(tactic| walk_at "aw1") => `(tactic| first
  | (with_reducible refine w_seq ?_) | (with_reducible refine w_asg ?_) | (with_reducible refine w_gname ?_) | (with_reducible refine w_op ?_) | (with_reducible refine w_un ?_)
  | ((with_reducible refine' w_var ?h ?_); (case h => rfl)) | (with_reducible refine w_c ?_)
  | (with_reducible refine w_I0 ?_) | (with_reducible refine w_U ?_) | (with_reducible refine w_cb ?_) | (with_reducible refine w_nil ?_) | (with_reducible refine w_cons ?_) | (with_reducible refine w_call ?_)
  | (with_reducible refine w_test ?_) | (with_reducible refine w_B ?_) | (with_reducible refine w_bl ?_) | (with_reducible refine w_not ?_) | (with_reducible refine w_yes ?_) | (with_reducible refine iteT ?_) | (with_reducible refine iteF ?_) | (with_reducible refine w_and ?_) | (with_reducible refine w_or ?_)
  | (with_reducible refine w_andV ?_) | (with_reducible refine w_orV ?_) | (with_reducible refine w_notV ?_) | (with_reducible refine w_if ?_)
  | (with_reducible refine w_int1 ?_) | (with_reducible refine w_int1b ?_) | (with_reducible refine w_abs ?_) | (with_reducible refine w_max2 ?_) | (with_reducible refine w_min2 ?_)
  | ((with_reducible refine w_eq ?h ?_); (case h => rfl)) | ((with_reducible refine w_ne ?h ?_); (case h => rfl)) | (with_reducible refine w_isN ?_) | (with_reducible refine w_isB ?_) | (with_reducible refine w_chain ?_)
  | (with_reducible refine w_ret ?_) | (with_reducible refine w_drop ?_) | (with_reducible refine w_ifS ?_) | (with_reducible refine w_gsub ?_) | (with_reducible refine w_augS ?_) | (with_reducible refine w_ipI ?_) | (with_reducible refine w_next ?_)
  | (with_reducible refine w_forR ?_) | (with_reducible refine w_forR2 ?_) | (with_reducible refine w_forL ?_) | (with_reducible refine w_forT ?_) | (with_reducible refine w_lcR ?_) | (with_reducible refine w_lcL ?_) | (with_reducible refine w_lcT ?_) | (with_reducible refine w_sl ?_) | (with_reducible refine w_part ?_) | (with_reducible refine w_noPart ?_) | (with_reducible refine w_in ?_)
  | (with_reducible refine w_gcons ?_) | (with_reducible refine w_gnil ?_) | (with_reducible refine w_lc3 ?_) | (with_reducible refine w_dcZ ?_) | (with_reducible refine w_dcT ?_) | (with_reducible refine w_dg ?_) | (with_reducible refine w_callK ?_) | (with_reducible refine w_dput ?_) | (with_reducible refine w_tup1 ?_)
  | (with_reducible refine w_tup ?_) | (with_reducible refine w_lst ?_)
  | ((with_reducible refine w_I ?h ?_); (case h => first | (exact Or.inr ⟨by decide, by decide⟩) | (exact Or.inl ⟨by decide, by decide⟩) | (show (0 : Int) < _; decide) | (exact ⟨by decide, by decide, by decide⟩) | assumption)))
local macro_rules | `(tactic| walk_at "aw") => `(tactic| repeat (walk_at "aw1"))
def keyOf (s : Int) (d : List Int) : List Key := if s < 2 then d.map Sum.inl else [Sum.inl (d.length : Int)]
/-- names that have one key -/
abbrev Grp := List Key × List Str
def GrpRow (H0 H : Hp) (g : Grp) (kv : List Key × V) : Prop := kv.1 = g.1 ∧ ∃ r, kv.2 = .ref r ∧ H0 r = none ∧ H r = some (.lst (g.2.map V.str))
open Classical in
noncomputable def putG (G : List Grp) (k : List Key) (x : Str) : List Grp := if k ∈ G.map (·.1) then G.map (fun g => if g.1 = k then (g.1, g.2 ++ [x]) else g) else G ++ [(k, [x])]
structure GOk (s : Int) (doms : List (Str × List Int)) (xs : List Str) (G : List Grp) : Prop where
  nk : (G.map (·.1)).Nodup
  pm : (G.map (·.2)).flatten.Perm xs
  ky : ∀ g ∈ G, ∀ x ∈ g.2, ∃ d, (x, d) ∈ doms ∧ keyOf s d = g.1
  ne : ∀ g ∈ G, g.2 ≠ []
theorem flat_put : ∀ {G : List Grp} {k : List Key} (x : Str), (G.map (·.1)).Nodup → k ∈ G.map (·.1) → ((G.map (fun g => if g.1 = k then (g.1, g.2 ++ [x]) else g)).map (·.2)).flatten.Perm ((G.map (·.2)).flatten ++ [x])
  | [], _, _, _, h => by simp at h
  | g :: G, k, x, nd, h => by
    rw [List.map_cons, List.nodup_cons] at nd
    by_cases e : g.1 = k
    · have hn : G.map (fun g => if g.1 = k then (g.1, g.2 ++ [x]) else g) = G := by
        conv => rhs; rw [← List.map_id G]
        refine List.map_congr_left fun a ha => ?_
        rw [if_neg fun z => nd.1 (by rw [e, ← z]; exact List.mem_map_of_mem ha)]
        rfl
      rw [List.map_cons, if_pos e, hn, List.map_cons, List.flatten_cons, List.map_cons, List.flatten_cons]
      show (g.2 ++ [x] ++ _).Perm _
      rw [List.append_assoc, List.append_assoc]
      exact List.Perm.append_left _ List.perm_append_comm
    · rw [List.map_cons, if_neg e, List.map_cons, List.flatten_cons, List.map_cons, List.flatten_cons, List.append_assoc]
      refine List.Perm.append_left _ (flat_put x nd.2 ?_)
      rw [List.map_cons] at h
      rcases List.mem_cons.mp h with h | h
      · exact absurd h.symm e
      · exact h
theorem GOk.put {s : Int} {doms : List (Str × List Int)} {xs : List Str} {G : List Grp} (h : GOk s doms xs G) {x : Str} {d : List Int} (hx : (x, d) ∈ doms) : GOk s doms (xs ++ [x]) (putG G (keyOf s d) x) := by
  unfold putG
  by_cases hk : keyOf s d ∈ G.map (·.1)
  · rw [if_pos hk]
    refine ⟨?_, (flat_put x h.nk hk).trans (h.pm.append_right _), fun g hg y hy => ?_, fun g hg => ?_⟩
    · rw [List.map_map]
      have e : (fun g : Grp => ((fun g : Grp => if g.1 = keyOf s d then (g.1, g.2 ++ [x]) else g) g).1) = (·.1) := by
        funext g
        show (if g.1 = keyOf s d then (g.1, g.2 ++ [x]) else g).1 = g.1
        split <;> rfl
      show (G.map fun g : Grp => ((fun g : Grp => if g.1 = keyOf s d then (g.1, g.2 ++ [x]) else g) g).1).Nodup
      rw [e]
      exact h.nk
    · obtain ⟨g0, hg0, rfl⟩ := List.mem_map.mp hg
      by_cases e : g0.1 = keyOf s d
      · rw [if_pos e] at hy ⊢
        rcases List.mem_append.mp hy with hy | hy
        · exact h.ky g0 hg0 y hy
        · rw [List.mem_singleton.mp hy]
          exact ⟨d, hx, e.symm⟩
      · rw [if_neg e] at hy ⊢
        exact h.ky g0 hg0 y hy
    · obtain ⟨g0, hg0, rfl⟩ := List.mem_map.mp hg
      split
      · simp
      · exact h.ne g0 hg0
  · rw [if_neg hk]
    refine ⟨?_, ?_, fun g hg y hy => ?_, fun g hg => ?_⟩
    · rw [List.map_append, List.nodup_append]
      refine ⟨h.nk, by simp, fun a ha b hb e => hk ?_⟩
      have hb' : b = keyOf s d := by simpa using hb
      rw [← hb', ← e]
      exact ha
    · rw [List.map_append, List.flatten_append]
      exact h.pm.append (.refl _)
    · rcases List.mem_append.mp hg with hg | hg
      · exact h.ky g hg y hy
      · rw [List.mem_singleton.mp hg] at hy ⊢
        rw [List.mem_singleton.mp hy]
        exact ⟨d, hx, rfl⟩
    · rcases List.mem_append.mp hg with hg | hg
      · exact h.ne g hg
      · rw [List.mem_singleton.mp hg]
        simp
theorem grp_keys {H0 H : Hp} : ∀ {G : List Grp} {kvs : List (List Key × V)}, Paired (GrpRow H0 H) G kvs → kvs.map (·.1) = G.map (·.1)
  | _, _, .nil => rfl
  | _, _, .cons h t => by rw [List.map_cons, List.map_cons, grp_keys t, h.1]
theorem valT_none {kvs : List (List Key × V)} {k : List Key} (h : k ∉ kvs.map (·.1)) : valV kvs k = none := by
  unfold valV
  rw [List.find?_eq_none.mpr fun x hx => ?_]
  · rfl
  · intro z
    have z2 : x.1 = k := by simpa using z
    exact h (z2 ▸ List.mem_map_of_mem hx)
theorem grp_get {H0 H : Hp} : ∀ {G : List Grp} {kvs : List (List Key × V)}, Paired (GrpRow H0 H) G kvs → (G.map (·.1)).Nodup → ∀ g ∈ G, ∃ r, valV kvs g.1 = some (.ref r) ∧ H0 r = none ∧ H r = some (.lst (g.2.map V.str))
  | _, _, .nil, _, g, h => by simp at h
  | g0 :: G, kv :: kvs, .cons a t, nd, g, h => by
    rw [List.map_cons, List.nodup_cons] at nd
    rcases List.mem_cons.mp h with h | h
    · subst h
      obtain ⟨h1, r, h2, h3, h4⟩ := a
      exact ⟨r, by rw [valV_pos h1, h2], h3, h4⟩
    · obtain ⟨r, h2, h3, h4⟩ := grp_get t nd.2 g h
      refine ⟨r, ?_, h3, h4⟩
      rw [valV_neg fun z => nd.1 (by rw [← a.1, z]; exact List.mem_map_of_mem h)]
      exact h2
theorem grp_put {H0 H H' : Hp} {G : List Grp} {kvs : List (List Key × V)} (h : Paired (GrpRow H0 H) G kvs) {k : List Key} {x : Str} {r : Addr} (up : ∀ g kv, GrpRow H0 H g kv → GrpRow H0 H' g kv) (hr : H0 r = none) (h1 : ∀ g ∈ G, g.1 = k → H' r = some (.lst ((g.2 ++ [x]).map V.str))) (h2 : k ∉ G.map (·.1) → H' r = some (.lst ([x].map V.str))) :
    Paired (GrpRow H0 H') (putG G k x) (putK kvs k (.ref r)) := by
  unfold putG
  by_cases hk : k ∈ G.map (·.1)
  · rw [if_pos hk]
    have e : (kvs.any fun kv => decide (kv.1 = k)) = true := by
      rw [List.any_eq_true]
      rw [← grp_keys h] at hk
      obtain ⟨kv, h3, h4⟩ := List.mem_map.mp hk
      exact ⟨kv, h3, decide_eq_true h4⟩
    unfold putK
    rw [if_pos e]
    clear e hk h2
    induction h with
    | nil => exact .nil
    | cons a t ih =>
      rename_i g kv G2 kvs2
      refine .cons ?_ (ih fun g hg => h1 g (List.mem_cons_of_mem _ hg))
      dsimp only
      by_cases e : g.1 = k
      · rw [if_pos e, if_pos (a.1.trans e)]
        exact ⟨a.1, r, rfl, hr, h1 g (List.mem_cons_self ..) e⟩
      · rw [if_neg e, if_neg fun z => e (a.1.symm.trans z)]
        exact up _ _ a
  · rw [if_neg hk, putK_new _ (valT_none (by rw [grp_keys h]; exact hk))]
    exact paired_snoc (L2.Paired.mapP h up) ⟨rfl, r, rfl, hr, h2 hk⟩

end AW
namespace AW
open PySem PySem.Spec PyProof.Rows L2 RZ
open StX
local macro_rules | `(tactic| walk_at "aw1") => `(tactic| first
  | (with_reducible refine w_seq ?_) | (with_reducible refine w_asg ?_) | (with_reducible refine w_gname ?_) | (with_reducible refine w_op ?_) | (with_reducible refine w_un ?_)
  | ((with_reducible refine' w_var ?h ?_); (case h => rfl)) | (with_reducible refine w_c ?_)
  | (with_reducible refine w_I0 ?_) | (with_reducible refine w_U ?_) | (with_reducible refine w_cb ?_) | (with_reducible refine w_nil ?_) | (with_reducible refine w_cons ?_) | (with_reducible refine w_call ?_)
  | (with_reducible refine w_test ?_) | (with_reducible refine w_B ?_) | (with_reducible refine w_bl ?_) | (with_reducible refine w_not ?_) | (with_reducible refine w_yes ?_) | (with_reducible refine iteT ?_) | (with_reducible refine iteF ?_) | (with_reducible refine w_and ?_) | (with_reducible refine w_or ?_)
  | (with_reducible refine w_andV ?_) | (with_reducible refine w_orV ?_) | (with_reducible refine w_notV ?_) | (with_reducible refine w_if ?_)
  | (with_reducible refine w_int1 ?_) | (with_reducible refine w_int1b ?_) | (with_reducible refine w_abs ?_) | (with_reducible refine w_max2 ?_) | (with_reducible refine w_min2 ?_)
  | ((with_reducible refine w_eq ?h ?_); (case h => rfl)) | ((with_reducible refine w_ne ?h ?_); (case h => rfl)) | (with_reducible refine w_isN ?_) | (with_reducible refine w_isB ?_) | (with_reducible refine w_chain ?_)
  | (with_reducible refine w_ret ?_) | (with_reducible refine w_drop ?_) | (with_reducible refine w_ifS ?_) | (with_reducible refine w_gsub ?_) | (with_reducible refine w_augS ?_) | (with_reducible refine w_ipI ?_) | (with_reducible refine w_next ?_)
  | (with_reducible refine w_forR ?_) | (with_reducible refine w_forR2 ?_) | (with_reducible refine w_forL ?_) | (with_reducible refine w_forT ?_) | (with_reducible refine w_lcR ?_) | (with_reducible refine w_lcL ?_) | (with_reducible refine w_lcT ?_) | (with_reducible refine w_sl ?_) | (with_reducible refine w_part ?_) | (with_reducible refine w_noPart ?_) | (with_reducible refine w_in ?_)
  | (with_reducible refine w_gcons ?_) | (with_reducible refine w_gnil ?_) | (with_reducible refine w_lc3 ?_) | (with_reducible refine w_dcZ ?_) | (with_reducible refine w_dcT ?_) | (with_reducible refine w_dg ?_) | (with_reducible refine w_callK ?_) | (with_reducible refine w_dput ?_) | (with_reducible refine w_tup1 ?_)
  | (with_reducible refine w_tup ?_) | (with_reducible refine w_lst ?_)
  | ((with_reducible refine w_I ?h ?_); (case h => first | (exact Or.inr ⟨by decide, by decide⟩) | (exact Or.inl ⟨by decide, by decide⟩) | (show (0 : Int) < _; decide) | (exact ⟨by decide, by decide, by decide⟩) | assumption)))
local macro_rules | `(tactic| walk_at "aw") => `(tactic| repeat (walk_at "aw1"))
def RowOk (doms : List (Str × List Int)) (x : Str) (r : Str × List (Int × Int)) : Prop := ∃ dx dy, (x, dx) ∈ doms ∧ (r.1, dy) ∈ doms ∧ r.2.map (·.1) = dx ∧ (r.2.map (·.2)).Perm dy
/-- ways over all names: names onto names, values onto values -/
structure WayOk (doms : List (Str × List Int)) (τ : Str → Str × List (Int × Int)) : Prop where
  pm : ((doms.map (·.1)).map fun x => (τ x).1).Perm (doms.map (·.1))
  row : ∀ x ∈ doms.map (·.1), RowOk doms x (τ x)
def wof (doms : List (Str × List Int)) (τ : Str → Str × List (Int × Int)) : List Way := doms.map fun d => (d.1, τ d.1)
def sp__law_drawn_ways (_ : PySem.W.Frag) : Sp := fun vs H Q _ => ∃ (st : Addr) (m : V) (s : Int), vs = [.ref st, m, .int s] ∧ ∃ cs doms, StOk st cs H ∧ MdlAt H m doms ∧ MdlOk doms ∧ ∀ w H' τ, Go st cs H H' → H w = none → WaysAt H' w (wof doms τ) → WayOk doms τ → Q (.ref w) H'
def DomAt (H : Hp) (d : Str × List Int) (kv : Key × V) : Prop := kv.1 = .inr d.1 ∧ ∃ q, kv.2 = .ref q ∧ H q = some (.tup (d.2.map V.int))
theorem unk_kvs {H : Hp} {us : List V} {doms : List (Str × List Int)} (h : UnkAt H us doms) : ∃ kvs : List (Key × V), us.length = kvs.length ∧ (∀ (i : Nat) u, us[i]? = some u → ∃ p kv, u = .ref p ∧ kvs[i]? = some kv ∧ H p = some (.tup [kV kv.1, kv.2])) ∧ Paired (DomAt H) doms kvs := by
  obtain ⟨hl, hr⟩ := h
  induction us generalizing doms with
  | nil =>
    cases doms with
    | nil => exact ⟨[], rfl, fun i u e => by simp at e, .nil⟩
    | cons d doms => simp at hl
  | cons u us ih =>
    cases doms with
    | nil => simp at hl
    | cons d doms =>
      obtain ⟨kvs, h1, h2, h3⟩ := ih (doms := doms) (by simpa using hl) fun i v e => by
        obtain ⟨p, q, d', e1, e2, e3, e4⟩ := hr (i + 1) v (by simpa using e)
        exact ⟨p, q, d', e1, by simpa using e2, e3, e4⟩
      obtain ⟨p, q, d', e1, e2, e3, e4⟩ := hr 0 u rfl
      cases e2
      refine ⟨(.inr d.1, .ref q) :: kvs, by rw [List.length_cons, List.length_cons, h1], fun i v e => ?_, .cons ⟨rfl, q, rfl, e4⟩ h3⟩
      cases i with
      | zero =>
        cases e
        exact ⟨p, (.inr d.1, .ref q), e1, rfl, e3⟩
      | succ i =>
        obtain ⟨p', kv', e5, e6, e7⟩ := h2 i v (by simpa using e)
        exact ⟨p', kv', e5, by simpa using e6, e7⟩
theorem dom_keys {H : Hp} : ∀ {doms : List (Str × List Int)} {kvs : List (Key × V)}, Paired (DomAt H) doms kvs → kvs.map (·.1) = (doms.map (·.1)).map Sum.inr
  | _, _, .nil => rfl
  | _, _, .cons h t => by rw [List.map_cons, List.map_cons, List.map_cons, dom_keys t, h.1]
theorem dom_get {H : Hp} : ∀ {doms : List (Str × List Int)} {kvs : List (Key × V)}, Paired (DomAt H) doms kvs → (doms.map (·.1)).Nodup → ∀ d ∈ doms, ∃ q, valV kvs (.inr d.1) = some (.ref q) ∧ H q = some (.tup (d.2.map V.int))
  | _, _, .nil, _, g, h => by simp at h
  | d0 :: G, kv :: kvs, .cons a t, nd, d, h => by
    rw [List.map_cons, List.nodup_cons] at nd
    rcases List.mem_cons.mp h with h | h
    · subst h
      obtain ⟨h1, r, h2, h3⟩ := a
      exact ⟨r, by rw [valV_pos h1, h2], h3⟩
    · obtain ⟨r, h2, h3⟩ := dom_get t nd.2 d h
      refine ⟨r, ?_, h3⟩
      rw [valV_neg fun z => nd.1 (by
        have := a.1.symm.trans z
        rw [Sum.inr.inj this]
        exact List.mem_map_of_mem h)]
      exact h2
theorem dom_up {H H' : Hp} {doms : List (Str × List Int)} {kvs : List (Key × V)} (h : Paired (DomAt H) doms kvs) (k : TK H H') : Paired (DomAt H') doms kvs := L2.Paired.mapP h fun _ _ ⟨h1, q, h2, h3⟩ => ⟨h1, q, h2, k _ _ h3⟩
theorem grp_up {H0 H H' : Hp} {g : Grp} {kv : List Key × V} (h : GrpRow H0 H g kv) (k : ∀ a xs, H0 a = none → H a = some (.lst xs) → H' a = some (.lst xs)) : GrpRow H0 H' g kv := by
  obtain ⟨h1, r, h2, h3, h4⟩ := h
  exact ⟨h1, r, h2, h3, k _ _ h3 h4⟩
theorem key_map (s : Int) (d : List Int) : (keyOf s d).map kV = if s < 2 then d.map V.int else [V.int (d.length : Int)] := by
  unfold keyOf
  split
  · rw [List.map_map]; rfl
  · rfl
theorem w_dnewT {σ : L2.St} {H : Hp} {Q : VK} (q : ∀ r H', H r = none → Adv [] H H' → H' r = some (.dT []) → Q (.ref r) H') : tDNewT σ H Q := w_new q
theorem kDPutT_i {d b : Addr} {kvs : List (List L2.Key × V)} {k : List L2.Key} {v : V} {H : Hp} {N : Hp → Prop} (h : H d = some (.dT kvs)) (hb : H b = some (.tup (k.map kV))) (hl : kvs.length < 100000) (q : N (upd H d (.dT (putK kvs k v)))) : kDPut (.ref d) (.ref b) v H N :=
  ⟨d, _, rfl, DPut.t h hb (Nat.lt_of_lt_of_le hl (by decide)), q⟩
theorem w_dg2 {td ty tx : TE} {σ : L2.St} {H : Hp} {Q : VK} (h : td σ H fun x H1 => ∃ a, x = .ref a ∧ IsD H1 a ∧ ty σ H1 fun y H2 => tx σ H2 fun z H3 => ∃ o, DGet H3 a y o ∧ Q (o.getD z) H3) : tDGet2 td ty tx σ H Q := h
theorem nd_same {G : List Grp} (nd : (G.map (·.1)).Nodup) {a b : Grp} (ha : a ∈ G) (hb : b ∈ G) (e : a.1 = b.1) : a = b := by
  obtain ⟨i, hi, rfl⟩ := List.mem_iff_getElem.mp ha
  obtain ⟨j, hj, rfl⟩ := List.mem_iff_getElem.mp hb
  have h1 : (G.map (·.1))[i]? = some G[i].1 := by rw [List.getElem?_map, List.getElem?_eq_getElem hi]; rfl
  have h2 : (G.map (·.1))[j]? = some G[i].1 := by rw [List.getElem?_map, List.getElem?_eq_getElem hj, e]; rfl
  have := nodup_inj nd h1 h2
  subst this
  rfl

end AW
namespace AW
open PySem PySem.Spec PyProof.Rows L2 RZ
open StX
local macro_rules | `(tactic| walk_at "aw1") => `(tactic| first
  | (with_reducible refine w_seq ?_) | (with_reducible refine w_asg ?_) | (with_reducible refine w_gname ?_) | (with_reducible refine w_op ?_) | (with_reducible refine w_un ?_)
  | ((with_reducible refine' w_var ?h ?_); (case h => rfl)) | (with_reducible refine w_c ?_)
  | (with_reducible refine w_I0 ?_) | (with_reducible refine w_U ?_) | (with_reducible refine w_cb ?_) | (with_reducible refine w_nil ?_) | (with_reducible refine w_cons ?_) | (with_reducible refine w_call ?_)
  | (with_reducible refine w_test ?_) | (with_reducible refine w_B ?_) | (with_reducible refine w_bl ?_) | (with_reducible refine w_not ?_) | (with_reducible refine w_yes ?_) | (with_reducible refine iteT ?_) | (with_reducible refine iteF ?_) | (with_reducible refine w_and ?_) | (with_reducible refine w_or ?_)
  | (with_reducible refine w_andV ?_) | (with_reducible refine w_orV ?_) | (with_reducible refine w_notV ?_) | (with_reducible refine w_if ?_)
  | (with_reducible refine w_int1 ?_) | (with_reducible refine w_int1b ?_) | (with_reducible refine w_abs ?_) | (with_reducible refine w_max2 ?_) | (with_reducible refine w_min2 ?_)
  | ((with_reducible refine w_eq ?h ?_); (case h => rfl)) | ((with_reducible refine w_ne ?h ?_); (case h => rfl)) | (with_reducible refine w_isN ?_) | (with_reducible refine w_isB ?_) | (with_reducible refine w_chain ?_)
  | (with_reducible refine w_ret ?_) | (with_reducible refine w_drop ?_) | (with_reducible refine w_ifS ?_) | (with_reducible refine w_gsub ?_) | (with_reducible refine w_augS ?_) | (with_reducible refine w_ipI ?_) | (with_reducible refine w_next ?_)
  | (with_reducible refine w_forR ?_) | (with_reducible refine w_forR2 ?_) | (with_reducible refine w_forL ?_) | (with_reducible refine w_forT ?_) | (with_reducible refine w_lcR ?_) | (with_reducible refine w_lcL ?_) | (with_reducible refine w_lcT ?_) | (with_reducible refine w_sl ?_) | (with_reducible refine w_part ?_) | (with_reducible refine w_noPart ?_) | (with_reducible refine w_in ?_)
  | (with_reducible refine w_gcons ?_) | (with_reducible refine w_gnil ?_) | (with_reducible refine w_lc3 ?_) | (with_reducible refine w_dcZ ?_) | (with_reducible refine w_dcT ?_) | (with_reducible refine w_dg ?_) | (with_reducible refine w_callK ?_) | (with_reducible refine w_dput ?_) | (with_reducible refine w_tup1 ?_)
  | (with_reducible refine w_tup ?_) | (with_reducible refine w_lst ?_)
  | ((with_reducible refine w_I ?h ?_); (case h => first | (exact Or.inr ⟨by decide, by decide⟩) | (exact Or.inl ⟨by decide, by decide⟩) | (show (0 : Int) < _; decide) | (exact ⟨by decide, by decide, by decide⟩) | assumption)))
local macro_rules | `(tactic| walk_at "aw") => `(tactic| repeat (walk_at "aw1"))
theorem GOk.len {s : Int} {doms : List (Str × List Int)} {xs : List Str} {G : List Grp} (h : GOk s doms xs G) {g : Grp} (hg : g ∈ G) : g.2.length ≤ xs.length := by
  rw [← h.pm.length_eq]
  exact List.Sublist.length_le (List.sublist_flatten_of_mem (List.mem_map_of_mem hg))
theorem w_forK {td : TE} {g : TG} {tb : TS} {D : Ends} {σ : L2.St} {H : Hp} (h : td σ H fun x H1 => ∃ d o, x = .ref d ∧ ((∃ kvs, H1 d = some (.frz o (.dK kvs)) ∧ kFor (Itk d o kvs) g tb D σ H1) ∨ ∃ kvs, H1 d = some (.frz o (.dT kvs)) ∧ kFor (Itkt d o kvs) g tb D σ H1)) : tFor (iKeys td) g tb D σ H := h
theorem kForKT_i {d : Addr} {o : Obj} {kvs : List (List Key × V)} {g : TG} {tb : TS} {D : Ends} {σ : L2.St} {H : Hp} (Pv : Nat → L2.St → Hp → Prop) (h0 : Pv 0 σ H) (hl : ∀ i σ' H', i ≤ kvs.length → Pv i σ' H' → H' d = some (.frz o (.dT kvs)))
    (hs : ∀ i k v q σ' H', kvs[i]? = some (k, v) → H' q = some (.tup (k.map kV)) → Pv i σ' H' → g (.ref q) σ' H' fun σ2 H2 => tb { D with nx := Pv (i + 1), ct := Pv (i + 1), bk := D.nx } σ2 H2) (hd : ∀ σ' H', Pv kvs.length σ' H' → D.nx σ' H') : kFor (Itkt d o kvs) g tb D σ H := by
  refine ⟨fun i m σ H => i + m = kvs.length ∧ Pv i σ H, ⟨kvs.length, Nat.zero_add _, h0⟩, fun i m σ H ⟨e, p⟩ => ?_⟩
  cases m with
  | zero =>
    refine .inl ⟨⟨hl i _ _ (by omega) p, by omega⟩, hd _ _ ?_⟩
    have : i = kvs.length := by omega
    rw [← this]
    exact p
  | succ m =>
    refine .inr ⟨⟨hl i _ _ (by omega) p, by omega⟩, Pv (i + 1), fun σ' H' z => ⟨m, by omega, by omega, z⟩, fun v H' y => ?_⟩
    obtain ⟨rfl, k, v', q, e1, rfl, e2⟩ := y
    exact hs i k v' q _ _ e1 e2 p
/-- what stays while the ways are drawn -/
structure Bd (st : Addr) (cs : Addr × Addr) (doms : List (Str × List Int)) (H : Hp) (g dd : Addr) (od : Obj) (kd : List (Key × V)) (G : List Grp) (kvs : List (List Key × V)) (H2 : Hp) : Prop where
  go : Go st cs H H2
  eg : H2 g = some (.frz od (.dT kvs))
  ed : H2 dd = some (.dK kd)
  hd : Paired (DomAt H2) doms kd
  hg : Paired (GrpRow H H2) G kvs
section
variable {st : Addr} {cs : Addr × Addr} {doms : List (Str × List Int)} {H : Hp} {g dd : Addr} {od : Obj} {kd : List (Key × V)} {G : List Grp} {kvs : List (List Key × V)} {H2 H3 : Hp}
theorem Bd.on (b : Bd st cs doms H g dd od kd G kvs H2) (ok : StOk st cs H) (ng : H g = none) (nd : H dd = none) (h : Go st cs H2 H3) : Bd st cs doms H g dd od kd G kvs H3 :=
  ⟨b.go.trans h, h.keep (ok.ne ng).1 b.eg, h.keep (ok.ne nd).1 b.ed, dom_up b.hd h.tk, L2.Paired.mapP b.hg fun _ _ z => grp_up z fun a xs na e => h.keep (ok.ne na).1 e⟩
theorem Bd.put {w : Addr} {kw kw' : List (Key × V)} (b : Bd st cs doms H g dd od kd G kvs H2) (ok : StOk st cs H) (nw : H w = none) (ew : H2 w = some (.dK kw)) (ne : dd ≠ w) : Bd st cs doms H g dd od kd G kvs (upd H2 w (.dK kw')) :=
  ⟨b.go.mutD ok nw ew, by rw [upd_ne (ne_of b.eg ew fun z => nomatch z)]; exact b.eg, by rw [upd_ne ne]; exact b.ed,
    L2.Paired.mapP b.hd fun _ _ ⟨h1, q, h2, h3⟩ => ⟨h1, q, h2, by rw [upd_ne (ne_of h3 ew fun z => nomatch z)]; exact h3⟩,
    L2.Paired.mapP b.hg fun _ _ z => grp_up z fun a xs na e => by rw [upd_ne (ne_of e ew fun z => nomatch z)]; exact e⟩
end
theorem kDGet_f {d b : Addr} {o : Obj} {kvs : List (List L2.Key × V)} {k : List L2.Key} {v : V} {H : Hp} {Q : VK} (h : H d = some (.frz o (.dT kvs))) (hb : H b = some (.tup (k.map kV))) (e : valV kvs k = some v) (q : Q v H) : kDGet (.ref d) (.ref b) H Q := ⟨d, v, rfl, .inr ⟨kvs, k, b, .inr ⟨o, h⟩, rfl, hb, e.symm⟩, q⟩
theorem wof_put {doms : List (Str × List Int)} (nd : (doms.map (·.1)).Nodup) {τ : Str → Str × List (Int × Int)} {H : Hp} {w p q : Addr} {x y : Str} {ps : List (Int × Int)} (hx : x ∈ doms.map (·.1)) (hW : WaysAt H w (wof doms τ)) (ep : H p = some (.tup [.str y, .ref q])) (eq : H q = some (.dK (pD ps))) (hqw : q ≠ w) :
    ∃ kw, H w = some (.dK kw) ∧ kw.length = doms.length ∧ WaysAt (upd H w (.dK (putK kw (.inr x) (.ref p)))) w (wof doms fun z => if z = x then (y, ps) else τ z) := by
  obtain ⟨kw, ew, hp⟩ := hW
  have hlen : kw.length = doms.length := by rw [← hp.length]; unfold wof; rw [List.length_map]
  have hkeys : kw.map (·.1) = (doms.map (·.1)).map Sum.inr := by
    rw [keys_of hp]
    unfold wof
    rw [List.map_map, List.map_map]
    rfl
  have hxk : (Sum.inr x : Key) ∈ kw.map (·.1) := by rw [hkeys]; exact List.mem_map_of_mem hx
  refine ⟨kw, ew, hlen, _, upd_same, ?_⟩
  have up : ∀ r kv, RowAt H r kv → RowAt (upd H w (.dK (putK kw (.inr x) (.ref p)))) r kv := fun r kv z => z.put ew hxk
  have hnew : RowAt (upd H w (.dK (putK kw (.inr x) (.ref p)))) (x, y, ps) (.inr x, .ref p) := ⟨rfl, p, q, rfl, by rw [upd_ne (ne_of ep ew fun z => nomatch z)]; exact ep, by rw [upd_ne hqw]; exact eq⟩
  have e : (kw.any fun kv => decide (kv.1 = Sum.inr x)) = true := by
    rw [List.any_eq_true]
    obtain ⟨kv, h3, h4⟩ := List.mem_map.mp hxk
    exact ⟨kv, h3, decide_eq_true h4⟩
  generalize upd H w (.dK (putK kw (.inr x) (.ref p))) = H' at up hnew ⊢
  unfold putK
  rw [if_pos e]
  clear e hlen hkeys hxk hx ew nd
  unfold wof at hp ⊢
  induction doms generalizing kw with
  | nil => cases hp; exact .nil
  | cons d doms ih =>
    rw [List.map_cons] at hp
    cases hp with
    | cons a t =>
      rename_i kv kw2
      rw [List.map_cons, List.map_cons]
      refine .cons ?_ (ih _ t)
      dsimp only
      by_cases hd : d.1 = x
      · have h1 : kv.1 = Sum.inr x := by rw [a.1, hd]
        rw [if_pos hd, if_pos h1, hd, h1]
        exact hnew
      · rw [if_neg hd, if_neg fun z => hd (Sum.inr.inj (a.1.symm.trans z))]
        exact up _ _ a
/-- at the end: names onto names -/
theorem perm_groups {τ : Str → Str × List (Int × Int)} : ∀ {G : List Grp}, (∀ g ∈ G, (g.2.map fun x => (τ x).1).Perm g.2) → ((G.map (·.2)).flatten.map fun x => (τ x).1).Perm (G.map (·.2)).flatten
  | [], _ => .refl _
  | g :: G, h => by
    rw [List.map_cons, List.flatten_cons, List.map_append]
    exact (h g (List.mem_cons_self ..)).append (perm_groups fun g' hg' => h g' (List.mem_cons_of_mem _ hg'))
abbrev nV (k : Nat) : V := .int (k : Nat)
theorem nats_of : ∀ {ys : List V}, (∀ (i : Nat) v, ys[i]? = some v → ∃ n : Nat, v = nV n) → ∃ ps : List Nat, ys = ps.map nV
  | [], _ => ⟨[], rfl⟩
  | y :: ys, h => by
    obtain ⟨n, rfl⟩ := h 0 y rfl
    obtain ⟨ps, rfl⟩ := nats_of (ys := ys) fun i v e => h (i + 1) v (by simpa using e)
    exact ⟨n :: ps, rfl⟩
theorem perm_injN {xs ys : List Nat} (h : (xs.map nV).Perm (ys.map nV)) : xs.Perm ys := by
  have := h.map (fun v : V => match v with | .int i => i.toNat | _ => 0)
  rw [List.map_map, List.map_map] at this
  simpa [Function.comp_def] using this
theorem rgv_n (n : Nat) : rgV 0 (n : Nat) = (List.range n).map nV := by
  unfold rgV
  rw [show ((n : Nat) - (0 : Int)).toNat = n by omega]
  refine List.map_congr_left fun i _ => ?_
  show V.int (0 + (i : Nat)) = V.int (i : Nat)
  rw [Int.zero_add]
theorem w_lstRg1 {ta : TE} {σ : L2.St} {H : Hp} {Q : VK} (h : ta σ H fun x H1 => ∃ n, x = .int n ∧ RgOk 0 n ∧ ∀ q, H1 q = none → Q (.ref q) (upd H1 q (.lst (rgV 0 n)))) : tLstRg (tRg1 ta) σ H Q := h
theorem key_len {s : Int} {d d' : List Int} (h : keyOf s d = keyOf s d') : d.length = d'.length := by
  unfold keyOf at h
  split at h
  · have := congrArg List.length h
    rw [List.length_map, List.length_map] at this
    exact this
  · have h2 := List.cons.inj h
    have h3 := Sum.inl.inj h2.1
    omega
/-- the pairs of one way -/
def psOf (dx dy : List Int) (ks : List Nat) : List (Int × Int) := (List.range dx.length).map fun j => (dx.getD j 0, dy.getD (ks.getD j 0) 0)
theorem psOf_fst (dx dy : List Int) (ks : List Nat) : (psOf dx dy ks).map (·.1) = dx := by
  unfold psOf
  rw [List.map_map]
  apply List.ext_getElem?
  intro i
  rw [List.getElem?_map]
  by_cases hi : i < dx.length
  · rw [List.getElem?_range hi, Option.map_some, List.getElem?_eq_getElem hi]
    show some (dx.getD i 0) = _
    rw [getD_of (List.getElem?_eq_getElem hi)]
  · rw [List.getElem?_eq_none (by simpa using hi), List.getElem?_eq_none (by omega)]
    rfl
theorem range_getD {α : Type} (xs : List α) (z : α) : (List.range xs.length).map (fun j => xs.getD j z) = xs := by
  apply List.ext_getElem?
  intro i
  rw [List.getElem?_map]
  by_cases hi : i < xs.length
  · rw [List.getElem?_range hi, Option.map_some, List.getElem?_eq_getElem hi, getD_of (List.getElem?_eq_getElem hi)]
  · rw [List.getElem?_eq_none (by simpa using hi), List.getElem?_eq_none (by omega)]
    rfl
theorem psOf_snd {dx dy : List Int} {ks : List Nat} (h1 : dx.length = dy.length) (h : ks.Perm (List.range dx.length)) : ((psOf dx dy ks).map (·.2)).Perm dy := by
  unfold psOf
  rw [List.map_map]
  have hl : ks.length = dx.length := by rw [h.length_eq, List.length_range]
  have e : (List.range dx.length).map ((·.2) ∘ fun j => (dx.getD j 0, dy.getD (ks.getD j 0) 0)) = ks.map fun j => dy.getD j 0 := by
    conv => rhs; rw [← range_getD ks 0]
    rw [List.map_map, hl]
    rfl
  rw [e]
  refine (h.map _).trans ?_
  rw [h1, range_getD]
theorem flat_disj : ∀ {G : List Grp}, (G.map (·.2)).flatten.Nodup → ∀ {i j : Nat} {a b : Grp} {x : Str}, i < j → G[i]? = some a → G[j]? = some b → x ∈ a.2 → x ∈ b.2 → False
  | [], _, _, _, _, _, _, _, h, _, _, _ => by simp at h
  | g :: G, nd, i, j, a, b, x, hij, h1, h2, h3, h4 => by
    rw [List.map_cons, List.flatten_cons, List.nodup_append] at nd
    obtain ⟨j', rfl⟩ : ∃ j', j = j' + 1 := ⟨j - 1, by omega⟩
    have h2' : G[j']? = some b := by simpa using h2
    cases i with
    | zero =>
      cases h1
      exact nd.2.2 x h3 x (List.mem_flatten.mpr ⟨b.2, List.mem_map_of_mem (List.mem_of_getElem? h2'), h4⟩) rfl
    | succ i' => exact flat_disj nd.2.1 (i := i') (j := j') (by omega) (by simpa using h1) h2' h3 h4
def idT (doms : List (Str × List Int)) (x : Str) : Str × List (Int × Int) := (x, (((doms.find? fun d => decide (d.1 = x)).map (·.2)).getD []).map fun v => (v, v))
theorem find_dom : ∀ {doms : List (Str × List Int)}, (doms.map (·.1)).Nodup → ∀ {d}, d ∈ doms → doms.find? (fun e => decide (e.1 = d.1)) = some d
  | [], _, _, h => by simp at h
  | d0 :: doms, nd, d, h => by
    rw [List.map_cons, List.nodup_cons] at nd
    by_cases e : d0.1 = d.1
    · rw [List.find?_cons_of_pos (by rw [e]; exact decide_eq_true rfl)]
      rcases List.mem_cons.mp h with h | h
      · rw [h]
      · exact absurd (e ▸ List.mem_map_of_mem (f := (·.1)) h) nd.1
    · rw [List.find?_cons_of_neg (by rw [decide_eq_true_iff]; exact e)]
      rcases List.mem_cons.mp h with h | h
      · exact absurd (by rw [h]) e
      · exact find_dom nd.2 h
theorem idT_at {doms : List (Str × List Int)} (nd : (doms.map (·.1)).Nodup) {d : Str × List Int} (h : d ∈ doms) : idT doms d.1 = (d.1, d.2.map fun v => (v, v)) := by
  unfold idT
  rw [find_dom nd h]
  rfl
theorem idT_wof {doms : List (Str × List Int)} (nd : (doms.map (·.1)).Nodup) : wof doms (idT doms) = idW doms := by
  unfold wof idW
  refine List.map_congr_left fun d hd => ?_
  rw [idT_at nd hd]

end AW
namespace AW
open PySem PySem.Spec PyProof.Rows L2 RZ
open StX
local macro_rules | `(tactic| walk_at "aw1") => `(tactic| first
  | (with_reducible refine w_seq ?_) | (with_reducible refine w_asg ?_) | (with_reducible refine w_gname ?_) | (with_reducible refine w_op ?_) | (with_reducible refine w_un ?_)
  | ((with_reducible refine' w_var ?h ?_); (case h => rfl)) | (with_reducible refine w_c ?_)
  | (with_reducible refine w_I0 ?_) | (with_reducible refine w_U ?_) | (with_reducible refine w_cb ?_) | (with_reducible refine w_nil ?_) | (with_reducible refine w_cons ?_) | (with_reducible refine w_call ?_)
  | (with_reducible refine w_test ?_) | (with_reducible refine w_B ?_) | (with_reducible refine w_bl ?_) | (with_reducible refine w_not ?_) | (with_reducible refine w_yes ?_) | (with_reducible refine iteT ?_) | (with_reducible refine iteF ?_) | (with_reducible refine w_and ?_) | (with_reducible refine w_or ?_)
  | (with_reducible refine w_andV ?_) | (with_reducible refine w_orV ?_) | (with_reducible refine w_notV ?_) | (with_reducible refine w_if ?_)
  | (with_reducible refine w_int1 ?_) | (with_reducible refine w_int1b ?_) | (with_reducible refine w_abs ?_) | (with_reducible refine w_max2 ?_) | (with_reducible refine w_min2 ?_)
  | ((with_reducible refine w_eq ?h ?_); (case h => rfl)) | ((with_reducible refine w_ne ?h ?_); (case h => rfl)) | (with_reducible refine w_isN ?_) | (with_reducible refine w_isB ?_) | (with_reducible refine w_chain ?_)
  | (with_reducible refine w_ret ?_) | (with_reducible refine w_drop ?_) | (with_reducible refine w_ifS ?_) | (with_reducible refine w_gsub ?_) | (with_reducible refine w_augS ?_) | (with_reducible refine w_ipI ?_) | (with_reducible refine w_next ?_)
  | (with_reducible refine w_forR ?_) | (with_reducible refine w_forR2 ?_) | (with_reducible refine w_forL ?_) | (with_reducible refine w_forT ?_) | (with_reducible refine w_lcR ?_) | (with_reducible refine w_lcL ?_) | (with_reducible refine w_lcT ?_) | (with_reducible refine w_sl ?_) | (with_reducible refine w_part ?_) | (with_reducible refine w_noPart ?_) | (with_reducible refine w_in ?_)
  | (with_reducible refine w_gcons ?_) | (with_reducible refine w_gnil ?_) | (with_reducible refine w_lc3 ?_) | (with_reducible refine w_dcZ ?_) | (with_reducible refine w_dcT ?_) | (with_reducible refine w_dg ?_) | (with_reducible refine w_callK ?_) | (with_reducible refine w_dput ?_) | (with_reducible refine w_tup1 ?_)
  | (with_reducible refine w_tup ?_) | (with_reducible refine w_lst ?_)
  | ((with_reducible refine w_I ?h ?_); (case h => first | (exact Or.inr ⟨by decide, by decide⟩) | (exact Or.inl ⟨by decide, by decide⟩) | (show (0 : Int) < _; decide) | (exact ⟨by decide, by decide, by decide⟩) | assumption)))
local macro_rules | `(tactic| walk_at "aw") => `(tactic| repeat (walk_at "aw1"))
def t__law_drawn_ways (K : PySem.W.Frag) : TS := (tSeq (tAsg (tCB (rDictPT K) (tCons (tOp (rIxT K) (tVar 1) (tC (.int 0))) tNil)) (gName 3))
  (tSeq (tAsg (tCall (sp__law_ways K) [] E0 (tCons (tVar 1) (tCons (tTup tNil) tNil))) (gName 4))
  (tSeq (tAsg tDNewT (gName 5))
  (tSeq (tFor (iTup K (tOp (rIxT K) (tVar 1) (tC (.int 0)))) (gTup K 2 (gCons (gName 6) (gCons (gName 7) gNil)))
  (tSeq (tAsg (tIf (tTest (tOp rLtI (tVar 2) (tC (.int 2)))) (tVar 7) (tTup (tCons (tCB (rLen1 K) (tCons (tVar 7) tNil)) tNil))) (gName 8))
  (sDPut (tVar 5) (tVar 8) (tOp rCat (tDGet2 (tVar 5) (tVar 8) (tLst tNil)) (tLst (tCons (tVar 6) tNil))))))
  (tSeq (tLock (tFor (iKeys (tVar 5)) (gName 8)
  (tSeq (tAsg (tDGet (tVar 5) (tVar 8)) (gName 9))
  (tSeq (tIfS (tTest (tOp rGtI (tCall (sp__law_draw K) [] E0 (tCons (tVar 0) (tCons (tC (.int 4)) tNil))) (tC (.int 0)))) (tAsg (tCall (sp__law_shuffled K) [] E0 (tCons (tVar 0) (tCons (tVar 9) tNil))) (gName 9)) tNext)
  (tSeq (tAsg (tLstRg (tRg1 (tCB (rLen1 K) (tCons (tDGet (tVar 3) (tOp (rIxL K) (tVar 9) (tC (.int 0)))) tNil)))) (gName 10))
  (tSeq (tIfS (tTest (tOp rEq (tVar 2) (tC (.int 1)))) (tAsg (tCall (sp__law_shuffled K) [] E0 (tCons (tVar 0) (tCons (tVar 10) tNil))) (gName 10)) tNext)
  (tFor (iRng1 (tCons (tCB (rLen1 K) (tCons (tVar 9) tNil)) tNil)) (gName 11)
  (tSeq (tAsg (tTup (tCons (tOp (rIxL K) (tDGet (tVar 5) (tVar 8)) (tVar 11)) (tCons (tOp (rIxL K) (tVar 9) (tVar 11)) tNil))) (gTup K 2 (gCons (gName 6) (gCons (gName 12) gNil))))
  (tSeq (tIfS (tTest (tOp rEq (tVar 2) (tC (.int 2)))) (tAsg (tCall (sp__law_shuffled K) [] E0 (tCons (tVar 0) (tCons (tVar 10) tNil))) (gName 10)) tNext)
  (sDPut (tVar 4) (tVar 6) (tTup (tCons (tVar 12) (tCons (tCB (rDictP K) (tCons (tLc (iRng1 (tCons (tCB (rLen1 K) (tCons (tVar 10) tNil)) tNil)) (gName 13) tYes (tTup (tCons (tOp (rIxT K) (tDGet (tVar 3) (tVar 6)) (tVar 13)) (tCons (tOp (rIxT K) (tDGet (tVar 3) (tVar 12)) (tOp (rIxL K) (tVar 10) (tVar 13))) tNil))) [13]) tNil)) tNil)))))))))))))
  (tRet (tVar 4)))))))
theorem len__law_drawn_ways {K : PySem.W.Frag} : ∀ (vs : List V) (H : Hp) (Q : VK) (E : XK), sp__law_drawn_ways K vs H Q E → vs.length = 3 := fun vs H Q E h => by
  obtain ⟨_, _, _, rfl, _⟩ := h
  rfl
theorem pure__law_drawn_ways {K : PySem.W.Frag} (vs : List V) (H : Hp) (Q : VK) (E : XK) (h : sp__law_drawn_ways K vs H Q E) : t__law_drawn_ways K { nx := fun _ H' => Q .non H', rt := Q } (start ["pool", "model", "style", "domains", "ways", "groups", "x", "domain", "key", "aims", "alike", "k", "y", "j"] vs) H := by
  obtain ⟨st, m, s, rfl, cs, doms, ok, hm, mok, q⟩ := h
  obtain ⟨ma, mb, o, r, us, rfl, e1, e2, ho, hus⟩ := id hm
  have hul := hus.1
  have n2 : doms.length ≤ 24 := by have := mok.nm.l2; rw [List.length_map] at this; exact this
  have n1 : 1 ≤ doms.length := by have := mok.nm.l1; rw [List.length_map] at this; exact this
  obtain ⟨kd, hk1, hk2, hk3⟩ := unk_kvs hus
  show t__law_drawn_ways K _ [some (.ref st), some (.ref ma), some (.int s), none, none, none, none, none, none, none, none, none, none, none] H
  unfold t__law_drawn_ways
  walk_at "aw"
  refine w_ixT (SqT.of e1) (at_nat (by decide) rfl) ?_
  walk_at "aw"
  refine w_dictPt e2 ho hk1 hk2 (by rw [dom_keys hk3]; exact nodup_map_inj (fun a b z => Sum.inr.inj z) mok.nm.nd) fun dd H1 ndd a1 edd => ?_
  walk_at "aw"
  refine w_tupD (by show 0 ≤ 100000; decide) fun e0 H2 ne0 a2 ee0 => ?_
  walk_at "aw"
  have a02 := a1.trans a2
  refine ⟨.ref ma, e0, rfl, doms, hm.up (k2_of a02), mok, ee0, fun w H3 nw a3 hW => ?_⟩
  have a03 := a02.trans a3
  walk_at "aw"
  refine w_dnewT fun g H4 ng a4 eg => ?_
  have a04 := a03.trans a4
  have k04 := k3_of a04
  walk_at "aw"
  refine w_ixT (SqT.of (k04.k.t _ _ e1)) (at_nat (by decide) rfl) ?_
  walk_at "aw"
  refine kForT_i (fun i σ' H' => ∃ y6 y7 y8 G kvs, σ' = [some (.ref st), some (.ref ma), some (.int s), some (.ref dd), some (.ref w), some (.ref g), y6, y7, y8, none, none, none, none, none] ∧ Adv [] H3 H' ∧ H' g = some (.dT kvs) ∧ Paired (GrpRow H H') G kvs ∧ GOk s doms ((doms.map (·.1)).take i) G ∧ kvs.length ≤ i) (sqt_f (k04.k.f _ _ _ e2))
    ⟨_, _, _, [], [], rfl, a4, eg, .nil, ⟨.nil, .refl _, fun g h => (nomatch h), fun g h => (nomatch h)⟩, Nat.le_refl _⟩ (fun i σ' H' _ pp => by obtain ⟨_, _, _, _, _, _, a, _⟩ := pp; exact sqt_f ((k2_of (a03.trans a)).f _ _ _ e2)) (fun i u σ' H' hu pp => ?_) fun σ' H' pp => ?_
  · obtain ⟨y6, y7, y8, G, kvs, rfl, a, eg', hG, gok, hkl⟩ := pp
    have k0 := k3_of (a03.trans a)
    obtain ⟨p, p2, d, rfl, hd, ep, ep2⟩ := (hus.up k0.k.t).2 i u hu
    have hil := (List.getElem?_eq_some_iff.mp hd).1
    have hdmem : (d.1, d.2) ∈ doms := List.mem_of_getElem? hd
    have hdm := mok.dm d hdmem
    refine w_gtup (SqT.of ep) rfl ?_
    iterate 7 (walk_at "aw1")
    refine w_ifEJ (fun v H5 => ∃ b, v = .ref b ∧ Adv [] H' H5 ∧ H5 b = some (.tup ((keyOf s d.2).map kV))) (fun Q' hQ => ?_) fun v H5 z => ?_
    · walk_at "aw"
      rw [key_map] at hQ
      refine w_iteB (fun hs => ?_) fun hs => ?_
      · rw [if_pos hs] at hQ
        walk_at "aw"
        exact hQ _ _ ⟨p2, rfl, .refl _ _, ep2⟩
      · rw [if_neg hs] at hQ
        walk_at "aw"
        refine w_lenT (SqT.of ep2) ?_
        rw [List.length_map]
        walk_at "aw"
        refine w_tupD (by show 1 ≤ 100000; decide) fun b H5 nb a5 eb => ?_
        exact hQ _ _ ⟨b, rfl, a5, eb⟩
    obtain ⟨b, rfl, a5, eb⟩ := z
    have eg5 := a5.keep _ _ (fun z => nomatch z) eg'
    walk_at "aw"
    refine w_dg2 ?_
    walk_at "aw"
    refine ⟨g, rfl, .inr ⟨kvs, .inl eg5⟩, ?_⟩
    walk_at "aw"
    refine w_lstD (by simp) fun l0 H6 nl0 a6 el0 => ?_
    have eg6 := a6.keep _ _ (fun z => nomatch z) eg5
    have eb6 := a6.tup _ _ eb
    refine ⟨_, DGet.t eg6 eb6, ?_⟩
    have a36 := (a.trans a5).trans a6
    have hG6 : Paired (GrpRow H H6) G kvs := L2.Paired.mapP hG fun _ _ z => grp_up z fun a' xs _ e => (a5.trans a6).keep _ _ (fun z => nomatch z) e
    obtain ⟨lo, old, elo, eold, hold1, hold2⟩ : ∃ lo old, (valV kvs (keyOf s d.2)).getD (.ref l0) = .ref lo ∧ H6 lo = some (.lst (old.map V.str)) ∧ (∀ g ∈ G, g.1 = keyOf s d.2 → g.2 = old) ∧ (keyOf s d.2 ∉ G.map (·.1) → old = []) := by
      by_cases hk : keyOf s d.2 ∈ G.map (·.1)
      · obtain ⟨g0, hg0, e0⟩ := List.mem_map.mp hk
        obtain ⟨r0, h1, h2, h3⟩ := grp_get hG6 gok.nk g0 hg0
        rw [e0] at h1
        refine ⟨r0, g0.2, by rw [h1]; rfl, h3, fun g1 hg1 e1' => ?_, fun z => absurd hk z⟩
        have := nd_same gok.nk hg0 hg1 (e0.trans e1'.symm)
        rw [this]
      · refine ⟨l0, [], by rw [valT_none (by rw [grp_keys hG]; exact hk)]; rfl, el0, fun g1 hg1 e1' => absurd (List.mem_map_of_mem (f := (·.1)) hg1) (by rw [show g1.1 = keyOf s d.2 from e1']; exact hk), fun _ => rfl⟩
    rw [elo]
    walk_at "aw"
    refine w_lstD (by simp) fun l1 H7 nl1 a7 el1 => ?_
    have hold : old.length ≤ 24 := by
      by_cases hk : keyOf s d.2 ∈ G.map (·.1)
      · obtain ⟨g0, hg0, e0⟩ := List.mem_map.mp hk
        have := gok.len hg0
        rw [hold1 g0 hg0 e0, List.length_take, List.length_map] at this
        omega
      · rw [hold2 hk]
        exact Nat.zero_le _
    refine w_cat (xs := old.map V.str) (ys := [.str d.1]) (a7.keep _ _ (fun z => nomatch z) eold) el1 (by rw [List.length_map]; show old.length + 1 ≤ 100000; omega) fun l2 H8 nl2 a8 el2 => ?_
    walk_at "aw"
    have a68 := a7.trans a8
    have eg8 := a68.keep _ _ (fun z => nomatch z) eg6
    have eb8 := a68.tup _ _ eb6
    refine kDPutT_i eg8 eb8 (by omega) ?_
    have nl2H : H l2 = none := (a03.trans (a36.trans a7)).free (fun z => nomatch z) nl2
    refine ⟨_, _, _, putG G (keyOf s d.2) d.1, _, rfl, (a36.trans a68).mut ng eg8 (fun _ z => by cases z), upd_same, ?_, ?_, ?_⟩
    · refine grp_put (H' := upd H8 g (.dT (putK kvs (keyOf s d.2) (.ref l2)))) hG6 (fun g1 kv1 z => grp_up z fun a' xs na e => ?_) nl2H (fun g1 hg1 e1' => ?_) fun hk => ?_
      · rw [upd_ne (ne_of (a68.keep _ _ (fun z => nomatch z) e) eg8 fun z => nomatch z)]
        exact a68.keep _ _ (fun z => nomatch z) e
      · rw [upd_ne (ne_of el2 eg8 fun z => nomatch z), hold1 g1 hg1 e1', List.map_append]
        exact el2
      · rw [upd_ne (ne_of el2 eg8 fun z => nomatch z), el2, hold2 hk]
        rfl
    · rw [List.take_add_one, show (doms.map (·.1))[i]? = some d.1 by rw [List.getElem?_map, hd]; rfl]
      exact gok.put hdmem
    · have := length_putK kvs (keyOf s d.2) (.ref l2)
      omega
  · obtain ⟨y6, y7, y8, G, kvs, rfl, a, eg', hG, gok, hkl⟩ := pp
    have hnt : (doms.map (·.1)).take us.length = doms.map (·.1) := List.take_of_length_le (by rw [List.length_map]; omega)
    rw [hnt] at gok
    have a0 := a03.trans a
    have ndd' : H dd = none := ndd
    have nwH : H w = none := a02.free (fun z => nomatch z) nw
    have ngH : H g = none := a03.free (fun z => nomatch z) ng
    have ew' : WaysAt H' w (idW doms) := hW.up (k3_of a)
    have edd' : H' dd = some (.dK kd) := (k3_of ((a2.trans a3).trans a)).d _ _ edd
    have hdw : dd ≠ w := ne_of_none ((k3_of a2).d _ _ edd) nw
    walk_at "aw1"
    refine ⟨g, _, eg', True.intro, fun od => ?_⟩
    refine w_forK ?_
    walk_at "aw"
    refine ⟨g, od, rfl, .inr ⟨kvs, upd_same, ?_⟩⟩
    have bd0 : Bd st cs doms H g dd od kd G kvs (upd H' g (.frz od (.dT kvs))) :=
      ⟨((Go.of ok a0).mutT ok ngH eg'), upd_same, by rw [upd_ne (ne_of edd' eg' fun z => nomatch z)]; exact edd',
        L2.Paired.mapP (dom_up hk3 (k3_of a0).k.t) fun _ _ ⟨h1, q, h2, h3⟩ => ⟨h1, q, h2, by rw [upd_ne (ne_of h3 eg' fun z => nomatch z)]; exact h3⟩,
        L2.Paired.mapP hG fun _ _ z => grp_up z fun b xs nb e => by rw [upd_ne (ne_of e eg' fun z => nomatch z)]; exact e⟩
    have W0 : WaysAt (upd H' g (.frz od (.dT kvs))) w (wof doms (idT doms)) := by
      rw [idT_wof mok.nm.nd]
      obtain ⟨kw, h1, h2⟩ := ew'
      refine ⟨kw, by rw [upd_ne (ne_of h1 eg' fun z => nomatch z)]; exact h1, L2.Paired.mapP h2 fun _ _ z => ?_⟩
      obtain ⟨h1, p, q, h2, h3, h4⟩ := z
      exact ⟨h1, p, q, h2, by rw [upd_ne (ne_of h3 eg' fun z => nomatch z)]; exact h3, by rw [upd_ne (ne_of h4 eg' fun z => nomatch z)]; exact h4⟩
    have hGl : G.length = kvs.length := hG.length
    refine kForKT_i (fun i σ2 H2 => ∃ y6 y7 y8 y9 y10 y11 y12 τ, σ2 = [some (.ref st), some (.ref ma), some (.int s), some (.ref dd), some (.ref w), some (.ref g), y6, y7, y8, y9, y10, y11, y12, none] ∧ Bd st cs doms H g dd od kd G kvs H2 ∧ WaysAt H2 w (wof doms τ) ∧ (∀ x ∈ doms.map (·.1), RowOk doms x (τ x)) ∧ ∀ g' ∈ G.take i, (g'.2.map fun x => (τ x).1).Perm g'.2)
      ⟨_, _, _, _, _, _, _, _, rfl, bd0, W0, ?_, fun g' h => by simp at h⟩ (fun i σ2 H2 _ pp => by obtain ⟨_, _, _, _, _, _, _, _, _, b, _⟩ := pp; exact b.eg) (fun i k v qk σ2 H2 hik hqk pp => ?_) fun σ2 H2 pp => ?_
    · intro x hx
      obtain ⟨d, hd, rfl⟩ := List.mem_map.mp hx
      refine ⟨d.2, d.2, hd, by rw [idT_at mok.nm.nd hd]; exact hd, ?_, ?_⟩ <;> rw [idT_at mok.nm.nd hd, List.map_map]
      · exact List.map_id _
      · rw [show ((·.2) ∘ fun v : Int => (v, v)) = id from rfl, List.map_id]
    · obtain ⟨y6, y7, y8, y9, y10, y11, y12, τ, rfl, bd, hWt, hrow, hperm⟩ := pp
      have hil : i < G.length := by rw [hGl]; exact (List.getElem?_eq_some_iff.mp hik).1
      obtain ⟨g', hg'⟩ : ∃ g', G[i]? = some g' := ⟨_, List.getElem?_eq_getElem hil⟩
      have hgm := List.mem_of_getElem? hg'
      have hk : g'.1 = k := by
        have h1 : (kvs.map (·.1))[i]? = some k := by rw [List.getElem?_map, hik]; rfl
        rw [grp_keys hG, List.getElem?_map, hg'] at h1
        exact Option.some.inj h1
      obtain ⟨rg, hrg1, hrg2, hrg3⟩ := grp_get bd.hg gok.nk g' hgm
      rw [hk] at hrg1
      walk_at "aw"
      refine kDGet_f bd.eg hqk hrg1 ?_
      walk_at "aw1"
      walk_at "aw1"
      have hgl : g'.2.length ≤ 24 := by
        have := gok.len hgm
        rw [List.length_map] at this
        omega
      have hg0 : 0 < g'.2.length := List.length_pos_iff.mpr (gok.ne g' hgm)
      refine w_ifJ (fun σ3 H3 => ∃ (al : Addr) (aims : List Str), σ3 = [some (.ref st), some (.ref ma), some (.int s), some (.ref dd), some (.ref w), some (.ref g), y6, y7, some (.ref qk), some (.ref al), y10, y11, y12, none] ∧ Bd st cs doms H g dd od kd G kvs H3 ∧ K3 H2 H3 ∧ H al = none ∧ H3 al = some (.lst (aims.map V.str)) ∧ aims.Perm g'.2) (fun D' hD => ?_) fun σ3 H3 z => ?_
      · walk_at "aw"
        refine w_draw bd.go.ok (by decide) (by decide) fun n H3 n0 n1' g3 => ?_
        have bd3 := bd.on ok ngH ndd' g3
        have e3 := g3.keep (ok.ne hrg2).1 hrg3
        walk_at "aw"
        generalize decide (_ < n) = kk
        cases kk with
        | true =>
          walk_at "aw"
          refine ⟨st, rg, rfl, cs, _, bd3.go.ok, SqL.of e3, (ok.ne hrg2).1, by rw [List.length_map]; omega, fun al made H4 hp nal g4 eal => ?_⟩
          obtain ⟨aims, rfl⟩ := strs_of (ys := made) fun i v e => by
            obtain ⟨x, _, rfl⟩ := List.mem_map.mp (hp.subset (List.mem_of_getElem? e))
            exact ⟨x, rfl⟩
          walk_at "aw"
          exact hD _ _ ⟨al, aims, rfl, bd3.on ok ngH ndd' g4, (k3_go bd.go.ok g3).trans (k3_go bd3.go.ok g4), bd3.go.free ok nal, eal, perm_inj hp⟩
        | false =>
          walk_at "aw"
          exact hD _ _ ⟨rg, g'.2, rfl, bd3, k3_go bd.go.ok g3, hrg2, e3, .refl _⟩
      obtain ⟨al, aims, rfl, bd3, k23, nal, eal, hap⟩ := z
      have hal := hap.length_eq
      obtain ⟨x0, hx0⟩ : ∃ x0, aims[0]? = some x0 := ⟨_, List.getElem?_eq_getElem (by omega)⟩
      obtain ⟨d0, hd0, hky0⟩ := gok.ky g' hgm x0 (hap.subset (List.mem_of_getElem? hx0))
      obtain ⟨q0, hq0, eq0⟩ := dom_get bd3.hd mok.nm.nd (x0, d0) hd0
      have hdl0 := mok.dm (x0, d0) hd0
      walk_at "aw1"
      walk_at "aw1"
      refine w_lstRg1 ?_
      walk_at "aw"
      refine w_ixL (SqL.of eal) (at_nat (v := .str x0) (by decide) (by rw [List.getElem?_map]; show Option.map _ aims[0]? = _; rw [hx0]; rfl)) ?_
      refine kDGet_i (k := .inr x0) bd3.ed hq0 ?_
      walk_at "aw"
      refine w_lenT (SqT.of eq0) ?_
      rw [List.length_map]
      have hd12 : d0.length ≤ 12 := hdl0.l2
      have hd13 := hdl0.l2
      refine ⟨_, rfl, RgOk.of_le (by decide) (by omega) (by decide) (by omega), fun kl nkl => ?_⟩
      rw [rgv_n]
      have nklH : H kl = none := bd3.go.free ok nkl
      have bd4 := bd3.on ok ngH ndd' (Go.of bd3.go.ok (Adv.new (o := .lst ((List.range d0.length).map nV)) nkl))
      have k34 : K3 H3 (upd H3 kl (.lst ((List.range d0.length).map nV))) := k3_of (Adv.new nkl)
      have eal4 : (upd H3 kl (.lst ((List.range d0.length).map nV))) al = some (.lst (aims.map V.str)) := by rw [upd_ne (ne_of_none eal nkl)]; exact eal
      have ekl4 : (upd H3 kl (.lst ((List.range d0.length).map nV))) kl = some (.lst ((List.range d0.length).map nV)) := upd_same
      generalize upd H3 kl (.lst ((List.range d0.length).map nV)) = H4 at bd4 k34 eal4 ekl4 ⊢
      walk_at "aw1"
      walk_at "aw1"
      have shuf : ∀ (D' : Ends) (kl : Addr) (ks : List Nat) (H4 : Hp) (y6 y7 y11 y12 : Option V), Bd st cs doms H g dd od kd G kvs H4 → H kl = none → H4 kl = some (.lst (ks.map nV)) → ks.length ≤ 12 →
          (∀ (kl2 : Addr) (ks2 : List Nat) (H5 : Hp), H kl2 = none → H5 kl2 = some (.lst (ks2.map nV)) → ks2.Perm ks → Go st cs H4 H5 → D'.nx [some (.ref st), some (.ref ma), some (.int s), some (.ref dd), some (.ref w), some (.ref g), y6, y7, some (.ref qk), some (.ref al), some (.ref kl2), y11, y12, none] H5) →
          tAsg (tCall (sp__law_shuffled K) [] E0 (tCons (tVar 0) (tCons (tVar 10) tNil))) (gName 10) D' [some (.ref st), some (.ref ma), some (.int s), some (.ref dd), some (.ref w), some (.ref g), y6, y7, some (.ref qk), some (.ref al), some (.ref kl), y11, y12, none] H4 := fun D' kl ks H4 y6 y7 y11 y12 b nk ek hkl hD => by
        walk_at "aw"
        refine ⟨st, kl, rfl, cs, _, b.go.ok, SqL.of ek, (ok.ne nk).1, by rw [List.length_map]; omega, fun kl2 made H5 hp nk2 g5 ek2 => ?_⟩
        obtain ⟨ks2, rfl⟩ := nats_of (ys := made) fun i v e => by
          obtain ⟨x, _, rfl⟩ := List.mem_map.mp (hp.subset (List.mem_of_getElem? e))
          exact ⟨x, rfl⟩
        walk_at "aw"
        exact hD kl2 ks2 H5 (b.go.free ok nk2) ek2 (perm_injN hp) g5
      refine w_ifJ (fun σ5 H5 => ∃ (kl : Addr) (ks : List Nat), σ5 = [some (.ref st), some (.ref ma), some (.int s), some (.ref dd), some (.ref w), some (.ref g), y6, y7, some (.ref qk), some (.ref al), some (.ref kl), y11, y12, none] ∧ Bd st cs doms H g dd od kd G kvs H5 ∧ K3 H4 H5 ∧ H5 al = some (.lst (aims.map V.str)) ∧ H kl = none ∧ H5 kl = some (.lst (ks.map nV)) ∧ ks.Perm (List.range d0.length)) (fun D' hD => ?_) fun σ5 H5 z => ?_
      · walk_at "aw"
        generalize decide (V.int s = V.int 1) = kk
        cases kk with
        | true =>
          walk_at "aw1"
          refine shuf D' kl (List.range d0.length) H4 _ _ _ _ bd4 nklH ekl4 (by rw [List.length_range]; omega) fun kl2 ks2 H5 nk2 ek2 hp2 g5 => ?_
          exact hD _ _ ⟨kl2, ks2, rfl, bd4.on ok ngH ndd' g5, k3_go bd4.go.ok g5, g5.keep (ok.ne nal).1 eal4, nk2, ek2, hp2⟩
        | false =>
          walk_at "aw"
          exact hD _ _ ⟨kl, _, rfl, bd4, .refl _, eal4, nklH, ekl4, .refl _⟩
      clear ekl4 nklH nkl
      obtain ⟨kl, ks, rfl, bd5, k45, eal5, nklH, ekl5, hks⟩ := z
      have k25 : K3 H2 H5 := (k23.trans k34).trans k45
      walk_at "aw"
      refine w_lenL (SqL.of eal5) ?_
      rw [List.length_map]
      refine kForR_i (n := aims.length) (by omega) (fun k' σ6 H6 => ∃ (y6 y11 y12 : Option V) (kl : Addr) (ks : List Nat) (τ' : Str → Str × List (Int × Int)), σ6 = [some (.ref st), some (.ref ma), some (.int s), some (.ref dd), some (.ref w), some (.ref g), y6, y7, some (.ref qk), some (.ref al), some (.ref kl), y11, y12, none] ∧ Bd st cs doms H g dd od kd G kvs H6 ∧ H6 qk = some (.tup (k.map kV)) ∧ H6 al = some (.lst (aims.map V.str)) ∧ H kl = none ∧ H6 kl = some (.lst (ks.map nV)) ∧ ks.Perm (List.range d0.length) ∧
          WaysAt H6 w (wof doms τ') ∧ (∀ x ∈ doms.map (·.1), RowOk doms x (τ' x)) ∧ (∀ j x y, j < k' → g'.2[j]? = some x → aims[j]? = some y → (τ' x).1 = y) ∧ ∀ x, x ∉ g'.2 → τ' x = τ x)
        ⟨_, _, _, kl, ks, τ, rfl, bd5, k25.k.t _ _ hqk, eal5, nklH, ekl5, hks, hWt.up k25, hrow, fun j x y h => (by omega), fun _ _ => rfl⟩ (fun k' σ6 H6 hk' pp => ?_) fun σ6 H6 pp => ?_
      · obtain ⟨y6, y11, y12, kl, ks, τ', rfl, bd6, hqk6, eal6, nklH, ekl6, hks, hW6, hrow6, hset, hsame⟩ := pp
        obtain ⟨x, hx⟩ : ∃ x, g'.2[k']? = some x := ⟨_, List.getElem?_eq_getElem (by omega)⟩
        obtain ⟨y, hy⟩ : ∃ y, aims[k']? = some y := ⟨_, List.getElem?_eq_getElem (by omega)⟩
        have hxm := List.mem_of_getElem? hx
        have hym := hap.subset (List.mem_of_getElem? hy)
        obtain ⟨dx, hdx, hkx⟩ := gok.ky g' hgm x hxm
        obtain ⟨dy, hdy, hky⟩ := gok.ky g' hgm y hym
        have hlx : dx.length = d0.length := key_len (s := s) (hkx.trans hky0.symm)
        have hly : dy.length = d0.length := key_len (s := s) (hky.trans hky0.symm)
        have hdox := mok.dm (x, dx) hdx
        have hxn : x ∈ doms.map (·.1) := List.mem_map_of_mem (f := (·.1)) hdx
        obtain ⟨rg6, hr1, hr2, hr3⟩ := grp_get bd6.hg gok.nk g' hgm
        rw [hk] at hr1
        walk_at "aw"
        refine kDGet_f bd6.eg hqk6 hr1 ?_
        walk_at "aw"
        refine w_ixL (SqL.of hr3) (at_nat (v := .str x) (by omega) (by rw [List.getElem?_map, show ((k' : Nat) : Int).toNat = k' by omega, hx]; rfl)) ?_
        walk_at "aw"
        refine w_ixL (SqL.of eal6) (at_nat (v := .str y) (by omega) (by rw [List.getElem?_map, show ((k' : Nat) : Int).toNat = k' by omega, hy]; rfl)) ?_
        walk_at "aw"
        refine w_tupD (by show 2 ≤ 100000; decide) fun pt H7 npt a7 ept => ?_
        walk_at "aw"
        refine w_gtup (SqT.of ept) rfl ?_
        iterate 6 (walk_at "aw1")
        have bd7 := bd6.on ok ngH ndd' (Go.of bd6.go.ok a7)
        have k67 := k3_of a7
        refine w_ifJ (fun σ8 H8 => ∃ (kl : Addr) (ks : List Nat), σ8 = [some (.ref st), some (.ref ma), some (.int s), some (.ref dd), some (.ref w), some (.ref g), some (.str x), y7, some (.ref qk), some (.ref al), some (.ref kl), some (.int (k' : Nat)), some (.str y), none] ∧ Bd st cs doms H g dd od kd G kvs H8 ∧ K3 H7 H8 ∧ H8 al = some (.lst (aims.map V.str)) ∧ H kl = none ∧ H8 kl = some (.lst (ks.map nV)) ∧ ks.Perm (List.range d0.length)) (fun D' hD => ?_) fun σ8 H8 z => ?_
        · walk_at "aw"
          have ekl7 := a7.keep _ _ (fun z => nomatch z) ekl6
          have eal7 := a7.keep _ _ (fun z => nomatch z) eal6
          generalize decide (V.int s = V.int 2) = kk
          cases kk with
          | true =>
            walk_at "aw1"
            refine shuf D' kl ks H7 _ _ _ _ bd7 nklH ekl7 (by rw [hks.length_eq, List.length_range]; omega) fun kl2 ks2 H8 nk2 ek2 hp2 g8 => ?_
            exact hD _ _ ⟨kl2, ks2, rfl, bd7.on ok ngH ndd' g8, k3_go bd7.go.ok g8, g8.keep (ok.ne nal).1 eal7, nk2, ek2, hp2.trans hks⟩
          | false =>
            walk_at "aw"
            exact hD _ _ ⟨kl, ks, rfl, bd7, .refl _, eal7, nklH, ekl7, hks⟩
        clear nklH ekl6 hks
        obtain ⟨kl, ks, rfl, bd8, k78, eal8, nklH, ekl8, hks⟩ := z
        have k68 := k67.trans k78
        have hkl : ks.length = d0.length := by rw [hks.length_eq, List.length_range]
        obtain ⟨qx, hqx, eqx⟩ := dom_get bd8.hd mok.nm.nd (x, dx) hdx
        obtain ⟨qy, hqy, eqy⟩ := dom_get bd8.hd mok.nm.nd (y, dy) hdy
        walk_at "aw"
        refine w_lenL (SqL.of ekl8) ?_
        rw [List.length_map]
        walk_at "aw"
        refine ⟨(ks.length : Nat), rfl, by omega, by omega, ?_⟩
        rw [show ((ks.length : Nat) : Int).toNat = ks.length by omega]
        refine kLc_rel walk_range (by omega) (fun _ _ => trivial) (fun i v H2 => ∃ a ab, v = .ref a ∧ (psOf dx dy ks)[i]? = some ab ∧ H2 a = some (.tup [.int ab.1, .int ab.2])) (fun i v H2 H3 kk hh => by
          obtain ⟨a, ab, h1, h2, h3⟩ := hh
          exact ⟨a, ab, h1, h2, kk _ _ h3⟩) (fun j v H9 H10 Kt hj a9 yy kt => ?_) fun l H9 ys nl a9 el hyl hr => ?_
        · obtain ⟨rfl, rfl⟩ := yy
          obtain ⟨vx, hvx⟩ : ∃ v, dx[j]? = some v := ⟨_, List.getElem?_eq_getElem (by omega)⟩
          obtain ⟨kj, hkj⟩ : ∃ v, ks[j]? = some v := ⟨_, List.getElem?_eq_getElem (by omega)⟩
          have hkj2 : kj < dy.length := by
            have := List.mem_range.mp (hks.subset (List.mem_of_getElem? hkj))
            omega
          obtain ⟨vy, hvy⟩ : ∃ v, dy[kj]? = some v := ⟨_, List.getElem?_eq_getElem hkj2⟩
          walk_at "aw"
          refine ⟨rfl, ?_⟩
          walk_at "aw"
          refine kDGet_i (k := .inr x) ((k3_of a9).d _ _ bd8.ed) hqx ?_
          walk_at "aw"
          refine w_ixT (SqT.of (a9.tup _ _ eqx)) (at_nat (v := .int vx) (by omega) (by rw [List.getElem?_map, show ((0 : Int) + (j : Nat)).toNat = j by omega, hvx]; rfl)) ?_
          walk_at "aw"
          refine kDGet_i (k := .inr y) ((k3_of a9).d _ _ bd8.ed) hqy ?_
          walk_at "aw"
          refine w_ixL (SqL.of (a9.keep _ _ (fun z => nomatch z) ekl8)) (at_nat (v := nV kj) (by omega) (by rw [List.getElem?_map, show ((0 : Int) + (j : Nat)).toNat = j by omega, hkj]; rfl)) ?_
          walk_at "aw"
          refine w_ixT (SqT.of (a9.tup _ _ eqy)) (at_nat (v := .int vy) (by omega) (by rw [List.getElem?_map, show ((kj : Nat) : Int).toNat = kj by omega, hvy]; rfl)) ?_
          walk_at "aw"
          refine w_tupD (by show 2 ≤ 100000; decide) fun t H11 nt a11 et => ?_
          refine kt _ _ a11 ⟨t, (vx, vy), rfl, ?_, et⟩
          unfold psOf
          rw [List.getElem?_map, List.getElem?_range (by omega), Option.map_some, getD_of hvx, getD_of hkj, getD_of hvy]
        walk_at "aw"
        have hdo := hdox.asc
        refine w_dictPl el (by rw [hyl]; unfold pD psOf; rw [List.length_map, List.length_map, List.length_range]; omega) (pd_of hr) (pd_nd (by rw [psOf_fst]; exact hdo.imp fun {a b} z e => by omega)) fun d2 H11 nd2 a11 ed2 => ?_
        walk_at "aw"
        refine w_tupD (by show 2 ≤ 100000; decide) fun p4 H12 np4 a12 ep4 => ?_
        walk_at "aw"
        have g812 : Go st cs H8 H12 := Go.of bd8.go.ok (a9.trans (a11.trans a12))
        have bd12 := bd8.on ok ngH ndd' g812
        have k812 : K3 H8 H12 := (k3_of a9).trans ((k3_of a11).trans (k3_of a12))
        have hW12 := hW6.up (k68.trans k812)
        have ed12 := (k3_of a12).d _ _ ed2
        have hqw : d2 ≠ w := by
          obtain ⟨kw, h1, _⟩ := hW6.up (k68.trans (k3_of a9))
          exact (ne_of_none h1 nd2).symm
        obtain ⟨kw, hkw1, hkw2, hkw3⟩ := wof_put mok.nm.nd hxn hW12 ep4 ed12 hqw
        refine kDPut_i (k := .inr x) hkw1 (by omega) ?_
        have ekl12 := g812.keep (ok.ne nklH).1 ekl8
        have eal12 := g812.keep (ok.ne nal).1 eal8
        refine ⟨_, _, _, kl, ks, _, rfl, bd12.put ok nwH hkw1 hdw, ?_, ?_, nklH, ?_, hks, hkw3, fun z hz => ?_, fun j x' y' hj hx' hy' => ?_, fun z hz => ?_⟩
        · rw [upd_ne (ne_of ((k68.trans k812).k.t _ _ hqk6) hkw1 fun z => nomatch z)]
          exact (k68.trans k812).k.t _ _ hqk6
        · rw [upd_ne (ne_of eal12 hkw1 fun z => nomatch z)]
          exact eal12
        · rw [upd_ne (ne_of ekl12 hkw1 fun z => nomatch z)]
          exact ekl12
        · try dsimp only
          by_cases hzx : z = x
          · rw [if_pos hzx, hzx]
            exact ⟨dx, dy, hdx, hdy, psOf_fst .., psOf_snd (by omega) (by rw [hlx]; exact hks)⟩
          · rw [if_neg hzx]
            exact hrow6 z hz
        · try dsimp only
          have hnd : g'.2.Nodup := by
            have nd : (G.map (·.2)).flatten.Nodup := gok.pm.nodup_iff.mpr mok.nm.nd
            exact nd.sublist (List.sublist_flatten_of_mem (List.mem_map_of_mem hgm))
          by_cases hjk : j = k'
          · subst hjk
            rw [hx] at hx'
            cases hx'
            rw [if_pos rfl]
            rw [hy] at hy'
            cases hy'
            rfl
          · rw [if_neg (show ¬ x' = x from fun z => hjk (nodup_inj hnd (z ▸ hx') hx))]
            exact hset j x' y' (by omega) hx' hy'
        · try dsimp only
          rw [if_neg (show ¬ z = x from fun h => hz (h.symm ▸ hxm))]
          exact hsame z hz
      · obtain ⟨y6, y11, y12, kl, ks, τ', rfl, bd6, hqk6, eal6, nklH, ekl6, hks, hW6, hrow6, hset, hsame⟩ := pp
        refine ⟨_, _, _, _, _, _, _, τ', rfl, bd6, hW6, hrow6, fun g1 hg1 => ?_⟩
        rw [List.take_add_one, hg'] at hg1
        have hmap : (g'.2.map fun x => (τ' x).1) = aims := by
          apply List.ext_getElem?
          intro j
          rw [List.getElem?_map]
          by_cases hj : j < g'.2.length
          · obtain ⟨x, hx⟩ : ∃ x, g'.2[j]? = some x := ⟨_, List.getElem?_eq_getElem hj⟩
            obtain ⟨y, hy⟩ : ∃ y, aims[j]? = some y := ⟨_, List.getElem?_eq_getElem (by omega)⟩
            rw [hx, hy, Option.map_some, hset j x y (by omega) hx hy]
          · rw [List.getElem?_eq_none (by omega), List.getElem?_eq_none (by omega)]
            rfl
        rcases List.mem_append.mp hg1 with hg1 | hg1
        · have hdis : ∀ x ∈ g1.2, x ∉ g'.2 := fun x hx1 hx2 => by
            have nd : (G.map (·.2)).flatten.Nodup := gok.pm.nodup_iff.mpr mok.nm.nd
            obtain ⟨j, hj, hgj⟩ := List.mem_iff_getElem.mp hg1
            rw [List.length_take] at hj
            rw [List.getElem_take] at hgj
            refine flat_disj nd (i := j) (j := i) (a := g1) (b := g') (by omega) (by rw [List.getElem?_eq_getElem (by omega), hgj]) hg' hx1 hx2
          have e : (g1.2.map fun x => (τ' x).1) = g1.2.map fun x => (τ x).1 := List.map_congr_left fun x hx1 => by rw [hsame x (hdis x hx1)]
          rw [e]
          exact hperm g1 hg1
        · have : g1 = g' := by simpa using hg1
          rw [this, hmap]
          exact hap
    · obtain ⟨y6, y7, y8, y9, y10, y11, y12, τ, rfl, bd, hWt, hrow, hperm⟩ := pp
      refine ⟨bd.eg, ?_⟩
      walk_at "aw"
      have ew2 := hWt
      refine q w _ τ (bd.go.mut ngH bd.eg (fun _ z => by cases z) (ok.ne ngH).1 (ok.ne ngH).2) nwH ?_ ⟨?_, hrow⟩
      · obtain ⟨kw, h1, h2⟩ := hWt
        refine ⟨kw, by rw [upd_ne (ne_of h1 bd.eg fun z => nomatch z)]; exact h1, L2.Paired.mapP h2 fun _ _ z => ?_⟩
        obtain ⟨h1, p, q, h2, h3, h4⟩ := z
        exact ⟨h1, p, q, h2, by rw [upd_ne (ne_of h3 bd.eg fun z => nomatch z)]; exact h3, by rw [upd_ne (ne_of h4 bd.eg fun z => nomatch z)]; exact h4⟩
      · have h1 := gok.pm
        rw [← hGl, List.take_length] at hperm
        exact ((h1.symm.map fun x => (τ x).1).trans (perm_groups hperm)).trans h1
end AW
namespace AW
open PySem PySem.Spec PyProof.Rows L2 RZ
open StX
local macro_rules | `(tactic| walk_at "aw1") => `(tactic| first
  | (with_reducible refine w_seq ?_) | (with_reducible refine w_asg ?_) | (with_reducible refine w_gname ?_) | (with_reducible refine w_op ?_) | (with_reducible refine w_un ?_)
  | ((with_reducible refine' w_var ?h ?_); (case h => rfl)) | (with_reducible refine w_c ?_)
  | (with_reducible refine w_I0 ?_) | (with_reducible refine w_U ?_) | (with_reducible refine w_cb ?_) | (with_reducible refine w_nil ?_) | (with_reducible refine w_cons ?_) | (with_reducible refine w_call ?_)
  | (with_reducible refine w_test ?_) | (with_reducible refine w_B ?_) | (with_reducible refine w_bl ?_) | (with_reducible refine w_not ?_) | (with_reducible refine w_yes ?_) | (with_reducible refine iteT ?_) | (with_reducible refine iteF ?_) | (with_reducible refine w_and ?_) | (with_reducible refine w_or ?_)
  | (with_reducible refine w_andV ?_) | (with_reducible refine w_orV ?_) | (with_reducible refine w_notV ?_) | (with_reducible refine w_if ?_)
  | (with_reducible refine w_int1 ?_) | (with_reducible refine w_int1b ?_) | (with_reducible refine w_abs ?_) | (with_reducible refine w_max2 ?_) | (with_reducible refine w_min2 ?_)
  | ((with_reducible refine w_eq ?h ?_); (case h => rfl)) | ((with_reducible refine w_ne ?h ?_); (case h => rfl)) | (with_reducible refine w_isN ?_) | (with_reducible refine w_isB ?_) | (with_reducible refine w_chain ?_)
  | (with_reducible refine w_ret ?_) | (with_reducible refine w_drop ?_) | (with_reducible refine w_ifS ?_) | (with_reducible refine w_gsub ?_) | (with_reducible refine w_augS ?_) | (with_reducible refine w_ipI ?_) | (with_reducible refine w_next ?_)
  | (with_reducible refine w_forR ?_) | (with_reducible refine w_forR2 ?_) | (with_reducible refine w_forL ?_) | (with_reducible refine w_forT ?_) | (with_reducible refine w_lcR ?_) | (with_reducible refine w_lcL ?_) | (with_reducible refine w_lcT ?_) | (with_reducible refine w_sl ?_) | (with_reducible refine w_part ?_) | (with_reducible refine w_noPart ?_) | (with_reducible refine w_in ?_)
  | (with_reducible refine w_gcons ?_) | (with_reducible refine w_gnil ?_) | (with_reducible refine w_lc3 ?_) | (with_reducible refine w_dcZ ?_) | (with_reducible refine w_dcT ?_) | (with_reducible refine w_dg ?_) | (with_reducible refine w_callK ?_) | (with_reducible refine w_dput ?_) | (with_reducible refine w_tup1 ?_)
  | (with_reducible refine w_tup ?_) | (with_reducible refine w_lst ?_)
  | ((with_reducible refine w_I ?h ?_); (case h => first | (exact Or.inr ⟨by decide, by decide⟩) | (exact Or.inl ⟨by decide, by decide⟩) | (show (0 : Int) < _; decide) | (exact ⟨by decide, by decide, by decide⟩) | assumption)))
local macro_rules | `(tactic| walk_at "aw") => `(tactic| repeat (walk_at "aw1"))
def sp__law_named (_ : PySem.W.Frag) : Sp := fun vs H Q _ => ∃ (st w : Addr), vs = [.ref st, .ref w] ∧ ∃ cs doms τ, StOk st cs H ∧ MdlOk doms ∧ WaysAt H w (wof doms τ) ∧ WayOk doms τ ∧ ∀ (r : Addr) (ns : List Str) H', Go st cs H H' → H r = none → H' r = some (.lst (ns.map V.str)) → ns.Nodup → (∀ x ∈ ns, x ∈ doms.map (·.1)) → (∀ x ∈ doms.map (·.1), x ∉ ns → (τ x).1 = x ∧ ∀ ab ∈ (τ x).2, ab.1 = ab.2) → Q (.ref r) H'
section
variable {st : Addr} {cs : Addr × Addr}
theorem ok_lock {H1 : Hp} {d : Addr} {u o : HO} (ok : StOk st cs H1) (e : H1 d = some u) (nl : ∀ xs, u ≠ .lst xs) : StOk st cs (upd H1 d o) := by
  have h := ok.notD e nl
  obtain ⟨i, r, m, l, ns, h1, h2, h3⟩ := ok
  exact ⟨i, r, m, l, ns, by rw [upd_ne h.1.symm]; exact h1, by rw [upd_ne h.2.symm]; exact h2, h3⟩
theorem go_lock {H1 H2 : Hp} {d : Addr} {u : HO} {od : Obj} (ok : StOk st cs H1) (e : H1 d = some u) (nt : ∀ xs, u ≠ .tup xs) (nl : ∀ xs, u ≠ .lst xs) (g : Go st cs (upd H1 d (.frz od u)) H2) : Go st cs H1 (upd H2 d u) := by
  have h := ok.notD e nl
  refine ⟨⟨fun a o n q => ?_, fun a xs q => ?_⟩, ?_⟩
  · by_cases z : a = d
    · rw [z, upd_same, ← e, ← z]; exact q
    · rw [upd_ne z]
      exact g.adv.keep a o n (by rw [upd_ne z]; exact q)
  · by_cases z : a = d
    · rw [z, e] at q
      exact absurd (Option.some.inj q) (nt xs)
    · rw [upd_ne z]
      exact g.adv.tup a xs (by rw [upd_ne z]; exact q)
  · obtain ⟨i, r, m, l, ns, h1, h2, h3⟩ := g.ok
    exact ⟨i, r, m, l, ns, by rw [upd_ne h.1.symm]; exact h1, by rw [upd_ne h.2.symm]; exact h2, h3⟩
end
theorem kDGet_fk {d : Addr} {o : Obj} {kvs : List (Key × V)} {k : Key} {v : V} {H : Hp} {Q : VK} (h : H d = some (.frz o (.dK kvs))) (e : valV kvs k = some v) (q : Q v H) : kDGet (.ref d) (kV k) H Q := ⟨d, v, rfl, .inl ⟨kvs, k, .inr ⟨o, h⟩, rfl, e.symm⟩, q⟩
theorem w_lcK {td : TE} {g : TG} {tt : TT} {te : TE} {vs : List Nat} {σ : L2.St} {H : Hp} {Q : VK} (h : td σ H fun x H1 => ∃ d o, x = .ref d ∧ ((∃ kvs, H1 d = some (.frz o (.dK kvs)) ∧ kLc (Itk d o kvs) g tt te vs σ Q H1) ∨ ∃ kvs, H1 d = some (.frz o (.dT kvs)) ∧ kLc (Itkt d o kvs) g tt te vs σ Q H1)) : tLc (iKeys td) g tt te vs σ H Q := h
theorem pd_keys {ps : List (Int × Int)} : (pD ps).map (·.1) = (ps.map (·.1)).map Sum.inl := by unfold pD; rw [List.map_map, List.map_map]; rfl
theorem pd_get {ps : List (Int × Int)} (nd : (ps.map (·.1)).Nodup) {ab : Int × Int} (h : ab ∈ ps) : valV (pD ps) (.inl ab.1) = some (.int ab.2) := by
  induction ps with
  | nil => simp at h
  | cons p ps ih =>
    rw [List.map_cons, List.nodup_cons] at nd
    show valV ((.inl p.1, .int p.2) :: pD ps) _ = _
    rcases List.mem_cons.mp h with h | h
    · subst h
      exact valV_pos rfl
    · rw [valV_neg fun z => nd.1 (by rw [Sum.inl.inj z]; exact List.mem_map_of_mem (f := (·.1)) h)]
      exact ih nd.2 h
/-- a row of the ways, by its name -/
theorem way_get {H : Hp} {doms : List (Str × List Int)} {τ : Str → Str × List (Int × Int)} : ∀ {kvs : List (Key × V)}, Paired (RowAt H) (wof doms τ) kvs → (doms.map (·.1)).Nodup → ∀ x ∈ doms.map (·.1), ∃ p q, valV kvs (.inr x) = some (.ref p) ∧ H p = some (.tup [.str (τ x).1, .ref q]) ∧ H q = some (.dK (pD (τ x).2)) := by
  induction doms with
  | nil => exact fun _ _ x h => by simp at h
  | cons d doms ih =>
    intro kvs hp nd x hx
    cases hp with
    | cons a t =>
      rw [List.map_cons, List.nodup_cons] at nd
      rw [List.map_cons] at hx
      rcases List.mem_cons.mp hx with hx | hx
      · obtain ⟨h1, p, q, h2, h3, h4⟩ := a
        rw [hx]
        exact ⟨p, q, by rw [valV_pos h1, h2], h3, h4⟩
      · obtain ⟨p, q, h2, h3, h4⟩ := ih t nd.2 x hx
        exact ⟨p, q, by rw [valV_neg fun z => nd.1 (by rw [Sum.inr.inj (a.1.symm.trans z)]; exact hx)]; exact h2, h3, h4⟩
theorem w_ifB {c : TT} {A B : TS} {D : Ends} {σ : L2.St} {H : Hp} (P : Bool → Hp → Prop) (h1 : ∀ Q' : Bool → Hp → Prop, (∀ b H', P b H' → Q' b H') → c σ H Q') (h2 : ∀ b H', P b H' → if b = true then A D σ H' else B D σ H') : tIfS c A B D σ H := h1 _ h2
theorem q_ne {H : Hp} {w q : Addr} {kw : List (Key × V)} {x : Str} {ps : List (Int × Int)} (ew : H w = some (.dK kw)) (hm : Sum.inr x ∈ kw.map (·.1)) (eq : H q = some (.dK (pD ps))) : q ≠ w := fun z => by
  rw [z, ew] at eq
  have e : kw = pD ps := by injection eq with h5; injection h5
  rw [e, pd_keys] at hm
  obtain ⟨ab, _, e2⟩ := List.mem_map.mp hm
  exact nomatch e2
theorem adv_lock {H H1 : Hp} {w : Addr} {o : HO} (a : Adv [] H H1) (ht : ∀ xs, o ≠ .tup xs) : Adv [] (upd H w o) (upd H1 w o) := by
  refine ⟨fun b u n e => ?_, fun b xs e => ?_⟩
  · by_cases z : b = w
    · rw [z, upd_same] at e ⊢; exact e
    · rw [upd_ne z] at e ⊢; exact a.keep b u n e
  · by_cases z : b = w
    · rw [z, upd_same] at e; exact absurd (Option.some.inj e) (ht xs)
    · rw [upd_ne z] at e ⊢; exact a.tup b xs e
def t__law_named (K : PySem.W.Frag) : TS := (tSeq (tAsg (tLst tNil) (gName 2))
  (tSeq (tLock (tFor (iKeys (tVar 1)) (gName 3)
  (tSeq (tAsg (tDGet (tVar 1) (tVar 3)) (gTup K 2 (gCons (gName 4) (gCons (gName 5) gNil))))
  (tIfS (tOr (tTest (tOp rNe (tVar 4) (tVar 3))) (tOr (tB (tCB (rAny K) (tCons (tLockE (tLc (iKeys (tVar 5)) (gName 6) tYes (tOp rNe (tDGet (tVar 5) (tVar 6)) (tVar 6)) [6])) tNil))) (tTest (tOp rEq (tCall (sp__law_draw K) [] E0 (tCons (tVar 0) (tCons (tC (.int 4)) tNil))) (tC (.int 0)))))) (tDrop (tBM K "list" rAppend (tVar 2) (tCons (tVar 3) tNil))) tNext))))
  (tRet (tVar 2))))
theorem len__law_named {K : PySem.W.Frag} : ∀ (vs : List V) (H : Hp) (Q : VK) (E : XK), sp__law_named K vs H Q E → vs.length = 2 := fun vs H Q E h => by
  obtain ⟨_, _, rfl, _⟩ := h
  rfl
theorem pure__law_named {K : PySem.W.Frag} (vs : List V) (H : Hp) (Q : VK) (E : XK) (h : sp__law_named K vs H Q E) : t__law_named K { nx := fun _ H' => Q .non H', rt := Q } (start ["pool", "ways", "names", "x", "y", "led", "v"] vs) H := by
  obtain ⟨st, w, rfl, cs, doms, τ, ok, mok, hW, wok, q⟩ := h
  have n2 := mok.nm.l2
  show t__law_named K _ [some (.ref st), some (.ref w), none, none, none, none, none] H
  unfold t__law_named
  walk_at "aw"
  refine w_lstD (by simp) fun r H1 nr a1 er => ?_
  obtain ⟨kw, ewH, hp⟩ := id hW
  have ew : H1 w = some (.dK kw) := (k3_of a1).d _ _ ewH
  have hkeys : kw.map (·.1) = (doms.map (·.1)).map Sum.inr := by
    rw [keys_of hp]
    unfold wof
    rw [List.map_map, List.map_map]
    rfl
  have hkl : kw.length = doms.length := by
    have := congrArg List.length hkeys
    rw [List.length_map, List.length_map, List.length_map] at this
    exact this
  rw [List.length_map] at n2
  walk_at "aw1"
  walk_at "aw1"
  refine ⟨w, _, ew, True.intro, fun od => ?_⟩
  refine w_forK ?_
  walk_at "aw"
  refine ⟨w, od, rfl, .inl ⟨kw, upd_same, ?_⟩⟩
  have okb := ok_lock (o := .frz od (.dK kw)) ok ewH (fun _ z => nomatch z)
  have hrw : r ≠ w := (ne_of_none ewH nr).symm
  have nrb : upd H w (.frz od (.dK kw)) r = none := by rw [upd_ne hrw]; exact nr
  have ewb : upd H w (.frz od (.dK kw)) w = some (.frz od (.dK kw)) := upd_same
  have woff := okb.notD ewb (fun _ z => nomatch z)
  have kb : ∀ a o, a ≠ w → H a = some o → upd H w (.frz od (.dK kw)) a = some o := fun a o z e => by rw [upd_ne z]; exact e
  have gend : ∀ H2, Go st cs (upd H w (.frz od (.dK kw))) H2 → Go st cs H (upd H2 w (.dK kw)) := fun H2 g => go_lock ok ewH (fun _ z => nomatch z) (fun _ z => nomatch z) g
  have g0 : Go st cs (upd H w (.frz od (.dK kw))) (upd H1 w (.frz od (.dK kw))) := Go.of okb (adv_lock a1 fun _ z => nomatch z)
  generalize upd H w (.frz od (.dK kw)) = Hb at *
  refine for_it (walk_keys (kvs := kw)) (fun i σ2 H2 => ∃ (y3 y4 y5 : Option V) (ns : List Str), σ2 = [some (.ref st), some (.ref w), some (.ref r), y3, y4, y5, none] ∧ Go st cs Hb H2 ∧ H2 r = some (.lst (ns.map V.str)) ∧ ns.length ≤ i ∧ ns.Nodup ∧ (∀ x ∈ ns, x ∈ (doms.map (·.1)).take i) ∧ (∀ x ∈ (doms.map (·.1)).take i, x ∉ ns → (τ x).1 = x ∧ ∀ ab ∈ (τ x).2, ab.1 = ab.2))
    ⟨_, _, _, [], rfl, g0, by rw [upd_ne hrw]; exact er, Nat.le_refl _, .nil, fun x h => (nomatch h), fun x h => by simp at h⟩ (fun i σ2 H2 _ pp => ?_) (fun i v σ2 H2 H2' hi pp yy => ?_) fun σ2 H2 pp => ?_
  · obtain ⟨_, _, _, _, _, g, _⟩ := pp
    exact g.keep woff ewb
  · obtain ⟨rfl, k, v', hik, rfl⟩ := yy
    obtain ⟨y3, y4, y5, ns, rfl, g, er2, hnl, hnd, hin, hout⟩ := pp
    obtain ⟨x, hx⟩ : ∃ x, (doms.map (·.1))[i]? = some x := ⟨_, List.getElem?_eq_getElem (by rw [List.length_map]; omega)⟩
    have hk : k = .inr x := by
      have h1 : (kw.map (·.1))[i]? = some k := by rw [List.getElem?_map, hik]; rfl
      rw [hkeys, List.getElem?_map, hx] at h1
      exact (Option.some.inj h1).symm
    subst hk
    have hxm := List.mem_of_getElem? hx
    obtain ⟨p, qd, hv, ep, eq⟩ := way_get hp mok.nm.nd x hxm
    obtain ⟨dx, dy, hdx, hdy, hps, hps2⟩ := wok.row x hxm
    have hqw : qd ≠ w := q_ne ewH (x := x) (by rw [hkeys]; exact List.mem_map_of_mem hxm) eq
    have ep2 : H2' p = some (.tup [.str (τ x).1, .ref qd]) := g.tk _ _ (kb _ _ (ne_of ep ewH fun z => nomatch z) ep)
    have eqb := kb _ _ hqw eq
    have eq2 : H2' qd = some (.dK (pD (τ x).2)) := g.keep (okb.notD eqb fun _ z => nomatch z) eqb
    have hpnd : ((τ x).2.map (·.1)).Nodup := by
      rw [hps]
      exact (mok.dm (x, dx) hdx).asc.imp fun {a b} z e => by omega
    have hpl : (τ x).2.length ≤ 12 := by
      have := congrArg List.length hps
      rw [List.length_map] at this
      rw [this]
      exact (mok.dm (x, dx) hdx).l2
    walk_at "aw"
    refine kDGet_fk (k := .inr x) (g.keep woff ewb) hv ?_
    walk_at "aw"
    refine w_gtup (SqT.of ep2) rfl ?_
    iterate 5 (walk_at "aw1")
    with_reducible refine w_ifB (fun b H3 => Go st cs H2' H3 ∧ (b = false → (τ x).1 = x ∧ ∀ ab ∈ (τ x).2, ab.1 = ab.2)) (fun Q' hQ => ?_) fun b H3 z => ?_
    · walk_at "aw"
      generalize hyx : decide (V.str (τ x).1 = kV (.inr x)) = c1
      cases c1 with
      | false =>
        walk_at "aw"
        exact hQ true _ ⟨Go.refl g.ok, fun z => nomatch z⟩
      | true =>
        have hyx2 : (τ x).1 = x := V.str.inj (of_decide_eq_true hyx)
        walk_at "aw"
        refine ⟨qd, _, eq2, True.intro, fun oq => ?_⟩
        refine w_lcK ?_
        walk_at "aw"
        refine ⟨qd, oq, rfl, .inl ⟨_, upd_same, ?_⟩⟩
        have okq := ok_lock (o := .frz oq (.dK (pD (τ x).2))) g.ok eq2 (fun _ z => nomatch z)
        refine kLc_pure (walk_keys (kvs := pD (τ x).2)) (by unfold pD; rw [List.length_map]; omega) (fun H4 a4 => a4.keep _ _ (fun z => nomatch z) upd_same) (fun _ => true) (fun i => .bl (!decide (((τ x).2.getD i (0, 0)).2 = ((τ x).2.getD i (0, 0)).1))) (fun j v H4 H5 Kt Kf hj a4 yy kt kf => ?_) fun l H4 nl a4 el => ?_
        · obtain ⟨rfl, k2, v2, hj2, rfl⟩ := yy
          obtain ⟨ab, hab⟩ : ∃ ab, (τ x).2[j]? = some ab := ⟨_, List.getElem?_eq_getElem (by unfold pD at hj; rw [List.length_map] at hj; exact hj)⟩
          have hk2 : k2 = .inl ab.1 := by
            unfold pD at hj2
            rw [List.getElem?_map, hab] at hj2
            cases hj2
            rfl
          subst hk2
          rw [getD_of hab] at kt
          walk_at "aw"
          refine ⟨rfl, ?_⟩
          walk_at "aw"
          refine kDGet_fk (k := .inl ab.1) (a4.keep _ _ (fun z => nomatch z) upd_same) (pd_get hpnd (List.mem_of_getElem? hab)) ?_
          walk_at "aw"
          have e : decide (V.int ab.2 = kV (.inl ab.1)) = decide (ab.2 = ab.1) := by
            rw [Bool.eq_iff_iff, decide_eq_true_iff, decide_eq_true_iff]
            exact ⟨fun z => V.int.inj z, fun z => by rw [z]; rfl⟩
          rw [e]
          exact kt rfl _ (.refl _ _)
        · refine ⟨a4.keep _ _ (fun z => nomatch z) upd_same, ?_⟩
          have g6 : Go st cs H2' (upd H4 qd (.dK (pD (τ x).2))) := go_lock g.ok eq2 (fun _ z => nomatch z) (fun _ z => nomatch z) (Go.of okq a4)
          have hlq : l ≠ qd := ne_of el (a4.keep qd _ (fun z => nomatch z) upd_same) fun z => nomatch z
          have el6 : (upd H4 qd (.dK (pD (τ x).2))) l = _ := (upd_ne hlq).trans el
          generalize upd H4 qd (.dK (pD (τ x).2)) = H6 at g6 el6 ⊢
          walk_at "aw"
          refine ⟨l, (List.range (pD (τ x).2).length).map fun i => !decide (((τ x).2.getD i (0, 0)).2 = ((τ x).2.getD i (0, 0)).1), rfl, SqL.of (by rw [el6, List.map_map, List.filter_eq_self.mpr fun _ _ => rfl]; rfl), ?_⟩
          generalize hany : List.any _ id = c2
          cases c2 with
          | true =>
            walk_at "aw"
            exact hQ true _ ⟨g6, fun z => nomatch z⟩
          | false =>
            have hid : ∀ ab ∈ (τ x).2, ab.1 = ab.2 := fun ab hm => by
              obtain ⟨j, hj, hjx⟩ := List.mem_iff_getElem.mp hm
              rw [List.any_map, List.any_eq_false] at hany
              have h1 := hany j (List.mem_range.mpr (by unfold pD; rw [List.length_map]; exact hj))
              have h2 : (τ x).2.getD j (0, 0) = ab := getD_of (by rw [List.getElem?_eq_getElem hj, hjx])
              simp only [Function.comp_apply, id, h2] at h1
              have h3 : decide (ab.2 = ab.1) = true := by
                cases h4 : decide (ab.2 = ab.1) with
                | true => rfl
                | false => rw [h4] at h1; exact absurd rfl h1
              exact (of_decide_eq_true h3).symm
            walk_at "aw"
            refine w_draw g6.ok (by decide) (by decide) fun n H7 n0 n1 g7 => ?_
            walk_at "aw"
            generalize decide (V.int n = V.int 0) = c3
            cases c3 <;> (walk_at "aw"; exact hQ _ _ ⟨g6.trans g7, fun _ => ⟨hyx2, hid⟩⟩)
    · obtain ⟨g3, hb⟩ := z
      have er3 := g3.keep (okb.ne nrb).1 er2
      have hxt : (doms.map (·.1)).take (i + 1) = (doms.map (·.1)).take i ++ [x] := by rw [List.take_add_one, hx]; rfl
      cases b with
      | true =>
        walk_at "aw"
        refine w_app rfl er3 ?_
        walk_at "aw"
        refine w_append er3 (by rw [List.length_map]; omega) ?_
        walk_at "aw"
        have hxn : x ∉ ns := fun z => by
          have h1 := hin x z
          obtain ⟨j, hj, hjx⟩ := List.mem_iff_getElem.mp h1
          rw [List.length_take] at hj
          rw [List.getElem_take] at hjx
          have := nodup_inj mok.nm.nd (i := j) (j := i) (x := x) (by rw [List.getElem?_eq_getElem (by omega), hjx]) hx
          omega
        refine ⟨_, _, _, ns ++ [x], rfl, (g.trans g3).mutL okb nrb er3, by rw [upd_same, List.map_append]; rfl, by rw [List.length_append]; show ns.length + 1 ≤ i + 1; omega, ?_, fun z hz => ?_, fun z hz hn => ?_⟩
        · rw [List.nodup_append]
          refine ⟨hnd, by simp, fun a ha b hb e => hxn ?_⟩
          have : b = x := by simpa using hb
          rw [← this, ← e]
          exact ha
        · rw [hxt]
          rcases List.mem_append.mp hz with hz | hz
          · exact List.mem_append_left _ (hin z hz)
          · exact List.mem_append_right _ hz
        · rw [hxt] at hz
          rcases List.mem_append.mp hz with hz | hz
          · exact hout z hz fun h => hn (List.mem_append_left _ h)
          · exact absurd (List.mem_append_right _ hz) hn
      | false =>
        walk_at "aw"
        refine ⟨_, _, _, ns, rfl, g.trans g3, er3, by omega, hnd, fun z hz => ?_, fun z hz hn => ?_⟩
        · rw [hxt]
          exact List.mem_append_left _ (hin z hz)
        · rw [hxt] at hz
          rcases List.mem_append.mp hz with hz | hz
          · exact hout z hz hn
          · rw [List.mem_singleton.mp hz]
            exact hb rfl
  · obtain ⟨y3, y4, y5, ns, rfl, g, er2, hnl, hnd, hin, hout⟩ := pp
    have ht : (doms.map (·.1)).take kw.length = doms.map (·.1) := List.take_of_length_le (by rw [List.length_map]; omega)
    rw [ht] at hin hout
    refine ⟨g.keep woff ewb, ?_⟩
    walk_at "aw"
    exact q r ns _ (gend _ g) nr (by rw [upd_ne hrw]; exact er2) hnd hin hout
end AW
namespace AW
open PySem PySem.Spec PyProof.Rows L2 RZ
open StX
local macro_rules | `(tactic| walk_at "aw1") => `(tactic| first
  | (with_reducible refine w_seq ?_) | (with_reducible refine w_asg ?_) | (with_reducible refine w_gname ?_) | (with_reducible refine w_op ?_) | (with_reducible refine w_un ?_)
  | ((with_reducible refine' w_var ?h ?_); (case h => rfl)) | (with_reducible refine w_c ?_)
  | (with_reducible refine w_I0 ?_) | (with_reducible refine w_U ?_) | (with_reducible refine w_cb ?_) | (with_reducible refine w_nil ?_) | (with_reducible refine w_cons ?_) | (with_reducible refine w_call ?_)
  | (with_reducible refine w_test ?_) | (with_reducible refine w_B ?_) | (with_reducible refine w_bl ?_) | (with_reducible refine w_not ?_) | (with_reducible refine w_yes ?_) | (with_reducible refine iteT ?_) | (with_reducible refine iteF ?_) | (with_reducible refine w_and ?_) | (with_reducible refine w_or ?_)
  | (with_reducible refine w_andV ?_) | (with_reducible refine w_orV ?_) | (with_reducible refine w_notV ?_) | (with_reducible refine w_if ?_)
  | (with_reducible refine w_int1 ?_) | (with_reducible refine w_int1b ?_) | (with_reducible refine w_abs ?_) | (with_reducible refine w_max2 ?_) | (with_reducible refine w_min2 ?_)
  | ((with_reducible refine w_eq ?h ?_); (case h => rfl)) | ((with_reducible refine w_ne ?h ?_); (case h => rfl)) | (with_reducible refine w_isN ?_) | (with_reducible refine w_isB ?_) | (with_reducible refine w_chain ?_)
  | (with_reducible refine w_ret ?_) | (with_reducible refine w_drop ?_) | (with_reducible refine w_ifS ?_) | (with_reducible refine w_gsub ?_) | (with_reducible refine w_augS ?_) | (with_reducible refine w_ipI ?_) | (with_reducible refine w_next ?_)
  | (with_reducible refine w_forR ?_) | (with_reducible refine w_forR2 ?_) | (with_reducible refine w_forL ?_) | (with_reducible refine w_forT ?_) | (with_reducible refine w_lcR ?_) | (with_reducible refine w_lcL ?_) | (with_reducible refine w_lcT ?_) | (with_reducible refine w_sl ?_) | (with_reducible refine w_part ?_) | (with_reducible refine w_noPart ?_) | (with_reducible refine w_in ?_)
  | (with_reducible refine w_gcons ?_) | (with_reducible refine w_gnil ?_) | (with_reducible refine w_lc3 ?_) | (with_reducible refine w_dcZ ?_) | (with_reducible refine w_dcT ?_) | (with_reducible refine w_dg ?_) | (with_reducible refine w_callK ?_) | (with_reducible refine w_dput ?_) | (with_reducible refine w_tup1 ?_)
  | (with_reducible refine w_tup ?_) | (with_reducible refine w_lst ?_)
  | ((with_reducible refine w_I ?h ?_); (case h => first | (exact Or.inr ⟨by decide, by decide⟩) | (exact Or.inl ⟨by decide, by decide⟩) | (show (0 : Int) < _; decide) | (exact ⟨by decide, by decide, by decide⟩) | assumption)))
local macro_rules | `(tactic| walk_at "aw") => `(tactic| repeat (walk_at "aw1"))
theorem w_sortS' {K : PySem.W.Frag} {H : Hp} {Q : VK} {a : Addr} {xs : List Str} (h : H a = some (.lst (xs.map V.str))) (hl : xs.length < 64) (q : ∀ (ys : List Str) r H', ys.Perm xs → sortedS ys = true → H r = none → Adv [] H H' → H' r = some (.lst (ys.map V.str)) → Q (.ref r) H') : rSortedS K [.ref a] H Q :=
  ⟨a, xs, rfl, SqL.of h, hl, fun ys p h1 h2 h3 => q ys p _ h1 h2 h3 (Adv.new h3) upd_same⟩
/-- the items are tuples of two numbers -/
def PairsAt (H : Hp) (vs : List V) (ps : List (Int × Int)) : Prop := vs.length = ps.length ∧ ∀ (i : Nat) v, vs[i]? = some v → ∃ a ab, v = .ref a ∧ ps[i]? = some ab ∧ H a = some (.tup [.int ab.1, .int ab.2])
theorem PairsAt.up {H H' : Hp} {vs : List V} {ps : List (Int × Int)} (h : PairsAt H vs ps) (k : TK H H') : PairsAt H' vs ps := ⟨h.1, fun i v e => by
  obtain ⟨a, ab, h1, h2, h3⟩ := h.2 i v e
  exact ⟨a, ab, h1, h2, k _ _ h3⟩⟩
def ExRow (H : Hp) (u : V) (r : Way) : Prop := ∃ p q vs, u = .ref p ∧ H p = some (.tup [.str r.1, .str r.2.1, .ref q]) ∧ H q = some (.tup vs) ∧ PairsAt H vs r.2.2
theorem ExRow.up {H H' : Hp} {u : V} {r : Way} (h : ExRow H u r) (k : TK H H') : ExRow H' u r := by
  obtain ⟨p, q, vs, h1, h2, h3, h4⟩ := h
  exact ⟨p, q, vs, h1, k _ _ h2, k _ _ h3, h4.up k⟩
/-- an exchange: rows of two names and pairs -/
def ExAt (H : Hp) (t : Addr) (L : List Way) : Prop := ∃ us, H t = some (.tup us) ∧ Paired (fun u r => ExRow H u r) us L
def sp__law_exchange_of (_ : PySem.W.Frag) : Sp := fun vs H Q _ => ∃ (w r : Addr), vs = [.ref w, .ref r] ∧ ∃ doms τ ns, MdlOk doms ∧ WaysAt H w (wof doms τ) ∧ WayOk doms τ ∧ H r = some (.lst (ns.map V.str)) ∧ ns.Nodup ∧ (∀ x ∈ ns, x ∈ doms.map (·.1)) ∧ ∀ (t : Addr) (ms : List Str) H', Adv [] H H' → ms.Perm ns → sortedS ms = true → ExAt H' t (ms.map fun x => (x, τ x)) → Q (.ref t) H'
theorem adv_unlock {H1 H2 : Hp} {d : Addr} {u : HO} {od : Obj} (e : H1 d = some u) (nt : ∀ xs, u ≠ .tup xs) (g : Adv [] (upd H1 d (.frz od u)) H2) : Adv [] H1 (upd H2 d u) := by
  refine ⟨fun a o n q => ?_, fun a xs q => ?_⟩
  · by_cases z : a = d
    · rw [z, upd_same, ← e, ← z]; exact q
    · rw [upd_ne z]
      exact g.keep a o n (by rw [upd_ne z]; exact q)
  · by_cases z : a = d
    · rw [z, e] at q
      exact absurd (Option.some.inj q) (nt xs)
    · rw [upd_ne z]
      exact g.tup a xs (by rw [upd_ne z]; exact q)
/-- sorted(xs) of pairs that stand in their order: a new list of the same items -/
theorem w_sortPO {K : PySem.W.Frag} {H : Hp} {Q : VK} {a : Addr} {vs : List V} {ps : List (Int × Int)} (h : H a = some (.lst vs)) (hp : PairsAt H vs ps) (asc : (ps.map (·.1)).Pairwise (· < ·)) (q : ∀ r H', H r = none → Adv [] H H' → H' r = some (.lst vs) → Q (.ref r) H') : rSortedPO K [.ref a] H Q := by
  have hk : ∀ (i : Nat) v, vs[i]? = some v → ∀ ab, ps[i]? = some ab → ∃ t, v = .ref t ∧ H t = some (.tup [.int ab.1, .int ab.2]) := fun i v e ab e2 => by
    obtain ⟨t, ab', h1, h2, h3⟩ := hp.2 i v e
    rw [e2] at h2
    cases h2
    exact ⟨t, h1, h3⟩
  let k : V → Int × Int := fun v => match v with | .ref t => (match H t with | some (.tup [.int i, .int j]) => (i, j) | _ => (0, 0)) | _ => (0, 0)
  have hkv : ∀ (t : Addr) (i j : Int), H t = some (.tup [.int i, .int j]) → k (.ref t) = (i, j) := fun t i j e => by
    show (match H t with | some (.tup [.int i, .int j]) => (i, j) | _ => (0, 0)) = (i, j)
    rw [e]
  have hat : ∀ (i : Nat) (h1 : i < vs.length), k vs[i] = ps[i]'(by rw [← hp.1]; exact h1) := fun i h1 => by
    obtain ⟨t, ab, e1, e2, e3⟩ := hp.2 i vs[i] (List.getElem?_eq_getElem h1)
    rw [e1, hkv t _ _ e3]
    rw [List.getElem?_eq_getElem (by rw [← hp.1]; exact h1)] at e2
    exact (Option.some.inj e2).symm
  have hs : SrtO.Srtd (ltP k) vs := by
    rw [SrtO.Srtd, List.pairwise_iff_getElem]
    intro i j hi hj hij
    show SrtO.lexB (k vs[j]) (k vs[i]) = false
    rw [hat i hi, hat j hj]
    refine SrtO.lexB_no.mpr ?_
    have := List.pairwise_iff_getElem.mp asc i j (by rw [List.length_map, ← hp.1]; exact hi) (by rw [List.length_map, ← hp.1]; exact hj) hij
    rw [List.getElem_map, List.getElem_map] at this
    omega
  refine ⟨a, vs, k, rfl, SqL.of h, fun x hx => ?_, fun ys p h1 h2 h3 => ?_⟩
  · obtain ⟨i, hi, rfl⟩ := List.mem_iff_getElem.mp hx
    obtain ⟨t, ab, e1, e2, e3⟩ := hp.2 i vs[i] (List.getElem?_eq_getElem hi)
    rw [e1]
    refine ⟨t, rfl, ?_⟩
    rw [hkv t _ _ e3]
    exact e3
  · rw [SrtO.stb_uniq (ltP_swo k) h1 hs h2]
    exact q p _ h3 (Adv.new h3) upd_same
def t__law_exchange_of (K : PySem.W.Frag) : TS := (tSeq (tAsg (tLst tNil) (gName 2))
  (tSeq (tFor (iList K (tCB (rSortedS K) (tCons (tVar 1) tNil))) (gName 3)
  (tDrop (tBM K "list" rAppend (tVar 2) (tCons (tTup (tCons (tVar 3) (tCons (tOp (rIxT K) (tDGet (tVar 0) (tVar 3)) (tC (.int 0))) (tCons (tThen (tCB (rSortedPO K) (tCons (tLockE (tLc (iKeys (tOp (rIxT K) (tDGet (tVar 0) (tVar 3)) (tC (.int 1)))) (gName 4) tYes (tTup (tCons (tVar 4) (tCons (tDGet (tOp (rIxT K) (tDGet (tVar 0) (tVar 3)) (tC (.int 1))) (tVar 4)) tNil))) [4])) tNil)) (kTup K)) tNil)))) tNil))))
  (tRet (tThen (tVar 2) (kTup K)))))
theorem len__law_exchange_of {K : PySem.W.Frag} : ∀ (vs : List V) (H : Hp) (Q : VK) (E : XK), sp__law_exchange_of K vs H Q E → vs.length = 2 := fun vs H Q E h => by
  obtain ⟨_, _, rfl, _⟩ := h
  rfl
theorem pure__law_exchange_of {K : PySem.W.Frag} (vs : List V) (H : Hp) (Q : VK) (E : XK) (h : sp__law_exchange_of K vs H Q E) : t__law_exchange_of K { nx := fun _ H' => Q .non H', rt := Q } (start ["ways", "names", "row", "x", "v"] vs) H := by
  obtain ⟨w, nm, rfl, doms, τ, ns, mok, hW, wok, enm, hnd, hin, q⟩ := h
  have n2 := mok.nm.l2
  show t__law_exchange_of K _ [some (.ref w), some (.ref nm), none, none, none] H
  unfold t__law_exchange_of
  walk_at "aw"
  refine w_lstD (by simp) fun r H1 nr a1 er => ?_
  walk_at "aw"
  have hnl : ns.length ≤ 24 := by
    have : ns.length ≤ (doms.map (·.1)).length := hnd.length_le_of_subset hin
    omega
  refine w_sortS' (a1.keep _ _ (fun z => nomatch z) enm) (by omega) fun ms l H2 hms hsrt nl a2 el => ?_
  have hml := hms.length_eq
  have er2 := a2.keep _ _ (fun z => nomatch z) er
  have hrl : l ≠ r := fun z => by rw [z, er] at nl; exact nomatch nl
  refine kForL_i (fun i σ' H' => ∃ (y3 : Option V) (us : List V), σ' = [some (.ref w), some (.ref nm), some (.ref r), y3, none] ∧ Adv [] H H' ∧ H' l = some (.lst (ms.map V.str)) ∧ H' r = some (.lst us) ∧ us.length = i ∧ Paired (fun u r => ExRow H' u r) us ((ms.take i).map fun x => (x, τ x))) (SqL.of el)
    ⟨_, [], rfl, a1.trans a2, el, er2, rfl, .nil⟩ (fun i σ' H' _ pp => by obtain ⟨_, _, _, _, el, _⟩ := pp; exact SqL.of el) (fun i u σ' H' hu pp => ?_) fun σ' H' pp => ?_
  · obtain ⟨y3, us, rfl, a, el', er', hul, hus⟩ := pp
    obtain ⟨x, hx⟩ : ∃ x, ms[i]? = some x := ⟨_, List.getElem?_eq_getElem (by have := (List.getElem?_eq_some_iff.mp hu).1; rw [List.length_map] at this; exact this)⟩
    rw [List.getElem?_map, hx] at hu
    cases hu
    have hil := (List.getElem?_eq_some_iff.mp hx).1
    have hxm := hin x (hms.subset (List.mem_of_getElem? hx))
    have hxk : (Sum.inr x : Key) ∈ (doms.map (·.1)).map Sum.inr := List.mem_map_of_mem hxm
    obtain ⟨kw, ewH, hp⟩ := id hW
    have hkeys : kw.map (·.1) = (doms.map (·.1)).map Sum.inr := by
      rw [keys_of hp]
      unfold wof
      rw [List.map_map, List.map_map]
      rfl
    obtain ⟨p, qd, hv, epH, eqH⟩ := way_get hp mok.nm.nd x hxm
    have hqw : qd ≠ w := q_ne ewH (x := x) (by rw [hkeys]; exact hxk) eqH
    obtain ⟨dx, dy, hdx, hdy, hps, hps2⟩ := wok.row x hxm
    have hasc : ((τ x).2.map (·.1)).Pairwise (· < ·) := by
      rw [hps]
      exact (mok.dm (x, dx) hdx).asc
    have hpnd : ((τ x).2.map (·.1)).Nodup := hasc.imp fun {a b} z e => by omega
    have hpl : (τ x).2.length ≤ 12 := by
      have := congrArg List.length hps
      rw [List.length_map] at this
      rw [this]
      exact (mok.dm (x, dx) hdx).l2
    have ew := (k3_of a).d _ _ ewH
    have eq := (k3_of a).d _ _ eqH
    have ep := a.tup _ _ epH
    walk_at "aw"
    refine w_app rfl er' ?_
    walk_at "aw"
    refine kDGet_i (k := .inr x) ew hv ?_
    walk_at "aw"
    refine w_ixT (SqT.of ep) rfl ?_
    walk_at "aw"
    refine ⟨qd, _, eq, True.intro, fun oq => ?_⟩
    have ewL : upd H' qd (.frz oq (.dK (pD (τ x).2))) w = some (.dK kw) := by rw [upd_ne hqw.symm]; exact ew
    have epL : upd H' qd (.frz oq (.dK (pD (τ x).2))) p = some (.tup [.str (τ x).1, .ref qd]) := by rw [upd_ne (ne_of ep eq fun z => nomatch z)]; exact ep
    have eqL : upd H' qd (.frz oq (.dK (pD (τ x).2))) qd = some (.frz oq (.dK (pD (τ x).2))) := upd_same
    have unl := fun H2 => adv_unlock (H1 := H') (H2 := H2) (od := oq) eq (fun _ z => nomatch z)
    generalize upd H' qd (.frz oq (.dK (pD (τ x).2))) = HL at *
    refine w_lcK ?_
    walk_at "aw"
    refine kDGet_i (k := .inr x) ewL hv ?_
    walk_at "aw"
    refine w_ixT (SqT.of epL) rfl ?_
    refine ⟨qd, oq, rfl, .inl ⟨_, eqL, ?_⟩⟩
    refine kLc_rel (walk_keys (kvs := pD (τ x).2)) (by unfold pD; rw [List.length_map]; omega) (fun H4 a4 => a4.keep _ _ (fun z => nomatch z) eqL) (fun i v H2 => ∃ a ab, v = .ref a ∧ (τ x).2[i]? = some ab ∧ H2 a = some (.tup [.int ab.1, .int ab.2])) (fun i v H2 H3 kk hh => by
      obtain ⟨a, ab, h1, h2, h3⟩ := hh
      exact ⟨a, ab, h1, h2, kk _ _ h3⟩) (fun j v H4 H5 Kt hj a4 yy kt => ?_) fun l2 H4 ys nl2 a4 el2 hyl hr => ?_
    · obtain ⟨rfl, k2, v2, hj2, rfl⟩ := yy
      obtain ⟨ab, hab⟩ : ∃ ab, (τ x).2[j]? = some ab := ⟨_, List.getElem?_eq_getElem (by unfold pD at hj; rw [List.length_map] at hj; exact hj)⟩
      have hk2 : k2 = .inl ab.1 := by
        unfold pD at hj2
        rw [List.getElem?_map, hab] at hj2
        cases hj2
        rfl
      subst hk2
      walk_at "aw"
      refine ⟨rfl, ?_⟩
      walk_at "aw"
      refine kDGet_i (k := .inr x) (a4.keep _ _ (fun z => nomatch z) ewL) hv ?_
      walk_at "aw"
      refine w_ixT (SqT.of (a4.tup _ _ epL)) rfl ?_
      walk_at "aw"
      refine kDGet_fk (k := .inl ab.1) (a4.keep _ _ (fun z => nomatch z) eqL) (pd_get hpnd (List.mem_of_getElem? hab)) ?_
      walk_at "aw"
      refine w_tupD (by show 2 ≤ 100000; decide) fun t H6 nt a6 et => ?_
      exact kt _ _ a6 ⟨t, ab, rfl, hab, et⟩
    · have eqL4 := a4.keep _ _ (fun z => nomatch z) eqL
      refine ⟨eqL4, ?_⟩
      have a5 := unl H4 a4
      have hlq : l2 ≠ qd := ne_of el2 eqL4 fun z => nomatch z
      have el5 : (upd H4 qd (.dK (pD (τ x).2))) l2 = _ := (upd_ne hlq).trans el2
      have hr5 : PairsAt (upd H4 qd (.dK (pD (τ x).2))) ys (τ x).2 := ⟨by rw [hyl]; unfold pD; rw [List.length_map], fun i v e => by
        obtain ⟨a, ab, h1, h2, h3⟩ := hr i v e
        exact ⟨a, ab, h1, h2, by rw [upd_ne (ne_of h3 eqL4 fun z => nomatch z)]; exact h3⟩⟩
      generalize upd H4 qd (.dK (pD (τ x).2)) = H6 at a5 el5 hr5 ⊢
      walk_at "aw"
      refine w_sortPO el5 hr5 hasc fun s H7 ns7 a7 es => ?_
      walk_at "aw"
      refine w_tupL (SqL.of es) fun t H8 nt a8 et => ?_
      walk_at "aw"
      refine w_tupD (by show 3 ≤ 100000; decide) fun p9 H9 np9 a9 ep9 => ?_
      walk_at "aw"
      have a59 := a5.trans (a7.trans (a8.trans a9))
      have er9 := a59.keep _ _ (fun z => nomatch z) er'
      have el9 := a59.keep _ _ (fun z => nomatch z) el'
      refine w_append er9 (by omega) ?_
      walk_at "aw"
      have kk : TK H9 (upd H9 r (.lst (us ++ [.ref p9]))) := (Adv.lst er9).tup
      refine ⟨_, us ++ [.ref p9], rfl, (a.trans a59).mut nr er9 (fun _ z => by cases z), by rw [upd_ne hrl]; exact el9, upd_same, by rw [List.length_append, hul]; rfl, ?_⟩
      rw [List.take_add_one, hx, List.map_append]
      exact paired_snoc (L2.Paired.mapP hus fun _ _ z => (z.up a59.tup).up kk) ⟨p9, t, ys, rfl, kk _ _ ep9, kk _ _ (a9.tup _ _ et), (hr5.up (a7.trans (a8.trans a9)).tup).up kk⟩
  · obtain ⟨y3, us, rfl, a, el', er', hul, hus⟩ := pp
    rw [List.length_map, List.take_length] at hus
    walk_at "aw"
    refine w_tupL (SqL.of er') fun t H3 nt a3 et => ?_
    exact q t ms H3 (a.trans a3) hms hsrt ⟨us, et, L2.Paired.mapP hus fun _ _ z => z.up a3.tup⟩
end AW
namespace AW
open PySem PySem.Spec PyProof.Rows L2 RZ
open StX
local macro_rules | `(tactic| walk_at "aw1") => `(tactic| first
  | (with_reducible refine w_seq ?_) | (with_reducible refine w_asg ?_) | (with_reducible refine w_gname ?_) | (with_reducible refine w_op ?_) | (with_reducible refine w_un ?_)
  | ((with_reducible refine' w_var ?h ?_); (case h => rfl)) | (with_reducible refine w_c ?_)
  | (with_reducible refine w_I0 ?_) | (with_reducible refine w_U ?_) | (with_reducible refine w_cb ?_) | (with_reducible refine w_nil ?_) | (with_reducible refine w_cons ?_) | (with_reducible refine w_call ?_)
  | (with_reducible refine w_test ?_) | (with_reducible refine w_B ?_) | (with_reducible refine w_bl ?_) | (with_reducible refine w_not ?_) | (with_reducible refine w_yes ?_) | (with_reducible refine iteT ?_) | (with_reducible refine iteF ?_) | (with_reducible refine w_and ?_) | (with_reducible refine w_or ?_)
  | (with_reducible refine w_andV ?_) | (with_reducible refine w_orV ?_) | (with_reducible refine w_notV ?_) | (with_reducible refine w_if ?_)
  | (with_reducible refine w_int1 ?_) | (with_reducible refine w_int1b ?_) | (with_reducible refine w_abs ?_) | (with_reducible refine w_max2 ?_) | (with_reducible refine w_min2 ?_)
  | ((with_reducible refine w_eq ?h ?_); (case h => rfl)) | ((with_reducible refine w_ne ?h ?_); (case h => rfl)) | (with_reducible refine w_isN ?_) | (with_reducible refine w_isB ?_) | (with_reducible refine w_chain ?_)
  | (with_reducible refine w_ret ?_) | (with_reducible refine w_drop ?_) | (with_reducible refine w_ifS ?_) | (with_reducible refine w_gsub ?_) | (with_reducible refine w_augS ?_) | (with_reducible refine w_ipI ?_) | (with_reducible refine w_next ?_)
  | (with_reducible refine w_forR ?_) | (with_reducible refine w_forR2 ?_) | (with_reducible refine w_forL ?_) | (with_reducible refine w_forT ?_) | (with_reducible refine w_lcR ?_) | (with_reducible refine w_lcL ?_) | (with_reducible refine w_lcT ?_) | (with_reducible refine w_sl ?_) | (with_reducible refine w_part ?_) | (with_reducible refine w_noPart ?_) | (with_reducible refine w_in ?_)
  | (with_reducible refine w_gcons ?_) | (with_reducible refine w_gnil ?_) | (with_reducible refine w_lc3 ?_) | (with_reducible refine w_dcZ ?_) | (with_reducible refine w_dcT ?_) | (with_reducible refine w_dg ?_) | (with_reducible refine w_callK ?_) | (with_reducible refine w_dput ?_) | (with_reducible refine w_tup1 ?_)
  | (with_reducible refine w_tup ?_) | (with_reducible refine w_lst ?_)
  | ((with_reducible refine w_I ?h ?_); (case h => first | (exact Or.inr ⟨by decide, by decide⟩) | (exact Or.inl ⟨by decide, by decide⟩) | (show (0 : Int) < _; decide) | (exact ⟨by decide, by decide, by decide⟩) | assumption)))
local macro_rules | `(tactic| walk_at "aw") => `(tactic| repeat (walk_at "aw1"))
/-- where a value goes -/
def ledT (τ : Str → Str × List (Int × Int)) (φ : Str → Int) (x : Str) : Int := (((τ x).2.find? fun ab => decide (ab.1 = φ x)).map (·.2)).getD 0
def FilAt (H : Hp) (f : Addr) (doms : List (Str × List Int)) (φ : Str → Int) : Prop := H f = some (.tup ((doms.map (·.1)).map fun x => .int (φ x)))
def FilOk (doms : List (Str × List Int)) (φ : Str → Int) : Prop := ∀ d ∈ doms, φ d.1 ∈ d.2
def sp__law_turned (_ : PySem.W.Frag) : Sp := fun vs H Q _ => ∃ (m : V) (w f : Addr), vs = [m, .ref w, .ref f] ∧ ∃ doms τ φ, MdlAt H m doms ∧ MdlOk doms ∧ WaysAt H w (wof doms τ) ∧ WayOk doms τ ∧ FilAt H f doms φ ∧ FilOk doms φ ∧ ∀ (t : Addr) (ψ : Str → Int) H', Adv [] H H' → FilAt H' t doms ψ → (∀ x ∈ doms.map (·.1), ψ (τ x).1 = ledT τ φ x) → Q (.ref t) H'
theorem led_mem {doms : List (Str × List Int)} {τ : Str → Str × List (Int × Int)} {φ : Str → Int} (mok : MdlOk doms) (wok : WayOk doms τ) (fok : FilOk doms φ) {x : Str} (hx : x ∈ doms.map (·.1)) : (φ x, ledT τ φ x) ∈ (τ x).2 := by
  obtain ⟨dx, dy, hdx, _, hps, _⟩ := wok.row x hx
  have h1 : φ x ∈ (τ x).2.map (·.1) := by rw [hps]; exact fok (x, dx) hdx
  obtain ⟨ab, hab, e⟩ := List.mem_map.mp h1
  have h2 : ((τ x).2.find? fun ab => decide (ab.1 = φ x)).isSome = true := by
    rw [List.find?_isSome]
    exact ⟨ab, hab, decide_eq_true e⟩
  obtain ⟨cd, hcd⟩ := Option.isSome_iff_exists.mp h2
  have h3 := List.mem_of_find?_eq_some hcd
  have h4 : cd.1 = φ x := of_decide_eq_true (List.find?_some (p := fun ab : Int × Int => decide (ab.1 = φ x)) hcd)
  have h5 : ledT τ φ x = cd.2 := by unfold ledT; rw [hcd]; rfl
  rw [h5, ← h4]
  exact h3
theorem way_fst_nd {doms : List (Str × List Int)} {τ : Str → Str × List (Int × Int)} (mok : MdlOk doms) (wok : WayOk doms τ) {x : Str} (hx : x ∈ doms.map (·.1)) : ((τ x).2.map (·.1)).Nodup := by
  obtain ⟨dx, dy, hdx, _, hps, _⟩ := wok.row x hx
  rw [hps]
  exact (mok.dm (x, dx) hdx).asc.imp fun {a b} z e => by omega
/-- the dict that is made -/
def madeK (τ : Str → Str × List (Int × Int)) (φ : Str → Int) (xs : List Str) : List (Key × V) := xs.map fun x => (.inr (τ x).1, .int (ledT τ φ x))
theorem made_get {τ : Str → Str × List (Int × Int)} {φ : Str → Int} : ∀ {xs : List Str}, (xs.map fun x => (τ x).1).Nodup → ∀ x ∈ xs, valV (madeK τ φ xs) (.inr (τ x).1) = some (.int (ledT τ φ x))
  | [], _, _, h => by simp at h
  | a :: xs, nd, x, h => by
    rw [List.map_cons, List.nodup_cons] at nd
    show valV ((.inr (τ a).1, .int (ledT τ φ a)) :: madeK τ φ xs) _ = _
    rcases List.mem_cons.mp h with h | h
    · rw [h]
      exact valV_pos rfl
    · rw [valV_neg fun z => nd.1 (by rw [Sum.inr.inj z]; exact List.mem_map_of_mem (f := fun x => (τ x).1) h)]
      exact made_get nd.2 x h
def backT (τ : Str → Str × List (Int × Int)) (φ : Str → Int) (xs : List Str) (y : Str) : Int := ((xs.find? fun x => decide ((τ x).1 = y)).map (ledT τ φ)).getD 0
theorem back_at {τ : Str → Str × List (Int × Int)} {φ : Str → Int} : ∀ {xs : List Str}, (xs.map fun x => (τ x).1).Nodup → ∀ x ∈ xs, backT τ φ xs (τ x).1 = ledT τ φ x
  | [], _, _, h => by simp at h
  | a :: xs, nd, x, h => by
    rw [List.map_cons, List.nodup_cons] at nd
    unfold backT
    by_cases e : (τ a).1 = (τ x).1
    · rw [List.find?_cons_of_pos (by rw [e]; exact decide_eq_true rfl)]
      rcases List.mem_cons.mp h with h | h
      · rw [h]; rfl
      · exact absurd (by rw [e]; exact List.mem_map_of_mem (f := fun x => (τ x).1) h) nd.1
    · rw [List.find?_cons_of_neg (by rw [decide_eq_true_iff]; exact e)]
      rcases List.mem_cons.mp h with h | h
      · exact absurd (by rw [h]) e
      · exact back_at nd.2 x h
def t__law_turned (K : PySem.W.Frag) : TS := (tSeq (tAsg tDNewK (gName 3))
  (tSeq (tFor (iRng1 (tCons (tCB (rLen1 K) (tCons (tVar 2) tNil)) tNil)) (gName 4)
  (tSeq (tAsg (tDGet (tVar 1) (tOp (rIxT K) (tOp (rIxT K) (tOp (rIxT K) (tVar 0) (tC (.int 0))) (tVar 4)) (tC (.int 0)))) (gTup K 2 (gCons (gName 5) (gCons (gName 6) gNil))))
  (sDPut (tVar 3) (tVar 5) (tDGet (tVar 6) (tOp (rIxT K) (tVar 2) (tVar 4))))))
  (tRet (tThen (tLc (iTup K (tOp (rIxT K) (tVar 0) (tC (.int 0)))) (gTup K 2 (gCons (gName 7) (gCons (gName 8) gNil))) tYes (tDGet (tVar 3) (tVar 7)) [7, 8]) (kTup K)))))
theorem len__law_turned {K : PySem.W.Frag} : ∀ (vs : List V) (H : Hp) (Q : VK) (E : XK), sp__law_turned K vs H Q E → vs.length = 3 := fun vs H Q E h => by
  obtain ⟨_, _, _, rfl, _⟩ := h
  rfl
theorem pure__law_turned {K : PySem.W.Frag} (vs : List V) (H : Hp) (Q : VK) (E : XK) (h : sp__law_turned K vs H Q E) : t__law_turned K { nx := fun _ H' => Q .non H', rt := Q } (start ["model", "ways", "filling", "made", "k", "y", "led", "x", "domain"] vs) H := by
  obtain ⟨m, w, f, rfl, doms, τ, φ, hm, mok, hW, wok, ef, fok, q⟩ := h
  obtain ⟨ma, mb, o, r, us, rfl, e1, e2, ho, hus⟩ := id hm
  have n2 := mok.nm.l2
  have hul := hus.1
  have hnt : (doms.map (·.1)).length = doms.length := List.length_map ..
  have hpnd : ((doms.map (·.1)).map fun x => (τ x).1).Nodup := wok.pm.nodup_iff.mpr mok.nm.nd
  show t__law_turned K _ [some (.ref ma), some (.ref w), some (.ref f), none, none, none, none, none, none] H
  unfold t__law_turned
  walk_at "aw"
  refine w_dnewK fun d H1 nd a1 ed => ?_
  walk_at "aw"
  refine w_lenT (SqT.of (a1.tup _ _ ef)) ?_
  rw [List.length_map]
  refine kForR_i (n := (doms.map (·.1)).length) (by omega) (fun i σ' H' => ∃ (y4 y5 y6 : Option V), σ' = [some (.ref ma), some (.ref w), some (.ref f), some (.ref d), y4, y5, y6, none, none] ∧ Adv [] H H' ∧ H' d = some (.dK (madeK τ φ ((doms.map (·.1)).take i))))
    ⟨_, _, _, rfl, a1, ed⟩ (fun i σ' H' hi pp => ?_) fun σ' H' pp => ?_
  · obtain ⟨y4, y5, y6, rfl, a, ed'⟩ := pp
    obtain ⟨x, hx⟩ : ∃ x, (doms.map (·.1))[i]? = some x := ⟨_, List.getElem?_eq_getElem hi⟩
    have hxm := List.mem_of_getElem? hx
    obtain ⟨u, hu⟩ : ∃ u, us[i]? = some u := ⟨_, List.getElem?_eq_getElem (by omega)⟩
    obtain ⟨p, p2, dd, rfl, hdd, ep, ep2⟩ := (hus.up a.tup).2 i u hu
    have hdx : dd.1 = x := by
      rw [List.getElem?_map, hdd] at hx
      exact Option.some.inj hx
    obtain ⟨kw, ewH, hp⟩ := id hW
    obtain ⟨pw, qd, hv, epw, eqd⟩ := way_get hp mok.nm.nd x hxm
    walk_at "aw"
    refine w_ixT (SqT.of (a.tup _ _ e1)) (at_nat (by decide) rfl) ?_
    walk_at "aw"
    refine w_ixT (sqt_f ((k2_of a).f _ _ _ e2)) (at_nat (v := .ref p) (by omega) (by rw [show ((i : Nat) : Int).toNat = i by omega]; exact hu)) ?_
    walk_at "aw"
    refine w_ixT (SqT.of ep) rfl ?_
    rw [hdx]
    refine kDGet_i (k := .inr x) ((k3_of a).d _ _ ewH) hv ?_
    walk_at "aw"
    refine w_gtup (SqT.of (a.tup _ _ epw)) rfl ?_
    walk_at "aw"
    refine w_ixT (SqT.of (a.tup _ _ ef)) (at_nat (v := .int (φ x)) (by omega) (by rw [show ((i : Nat) : Int).toNat = i by omega, List.getElem?_map, hx]; rfl)) ?_
    refine kDGet_i (k := .inl (φ x)) ((k3_of a).d _ _ eqd) (pd_get (way_fst_nd mok wok hxm) (led_mem mok wok fok hxm)) ?_
    walk_at "aw"
    have hml : (madeK τ φ ((doms.map (·.1)).take i)).length ≤ 24 := by
      unfold madeK
      rw [List.length_map, List.length_take]
      omega
    refine kDPut_i (k := .inr (τ x).1) ed' (by omega) ?_
    have hni : (Sum.inr (τ x).1 : Key) ∉ (madeK τ φ ((doms.map (·.1)).take i)).map (·.1) := by
      unfold madeK
      rw [List.map_map]
      intro z
      obtain ⟨x', hx', e'⟩ := List.mem_map.mp z
      have e'' : (τ x').1 = (τ x).1 := Sum.inr.inj e'
      obtain ⟨j, hj, hjx⟩ := List.mem_iff_getElem.mp hx'
      rw [List.length_take] at hj
      rw [List.getElem_take] at hjx
      have h1 : ((doms.map (·.1)).map fun x => (τ x).1)[j]? = some (τ x).1 := by rw [List.getElem?_map, List.getElem?_eq_getElem (by omega), Option.map_some, hjx, e'']
      have h2 : ((doms.map (·.1)).map fun x => (τ x).1)[i]? = some (τ x).1 := by rw [List.getElem?_map, hx]; rfl
      have := nodup_inj hpnd h1 h2
      omega
    rw [putK_new _ (val_none hni)]
    refine ⟨_, _, _, rfl, a.mut nd ed' (fun _ z => by cases z), ?_⟩
    rw [upd_same, List.take_add_one, hx]
    unfold madeK
    rw [List.map_append]
    rfl
  · obtain ⟨y4, y5, y6, rfl, a, ed'⟩ := pp
    rw [List.take_length] at ed'
    walk_at "aw"
    refine w_ixT (SqT.of (a.tup _ _ e1)) (at_nat (by decide) rfl) ?_
    refine ⟨mb, rfl, ⟨_, sqt_f ((k2_of a).f _ _ _ e2)⟩, kLc_pure (walk_tup (xs := us)) (by omega) (fun H2 g => sqt_f ((k2_of (a.trans g)).f _ _ _ e2)) (fun _ => true) (fun i => .int (backT τ φ (doms.map (·.1)) ((doms.map (·.1)).getD i Str.empty))) (fun j v H4 H5 Kt Kf hj a4 yy kt kf => ?_) fun l H4 nl a4 el => ?_⟩
    · obtain ⟨rfl, hu⟩ := yy
      obtain ⟨p, p2, dd, rfl, hdd, ep, ep2⟩ := (hus.up (a.trans a4).tup).2 j v hu
      have hx : (doms.map (·.1))[j]? = some dd.1 := by rw [List.getElem?_map, hdd]; rfl
      rw [getD_of hx] at kt
      have hxm : dd.1 ∈ (doms.map (·.1)).map fun x => (τ x).1 := wok.pm.symm.subset (List.mem_of_getElem? hx)
      obtain ⟨x0, hx0, e0⟩ := List.mem_map.mp hxm
      refine w_gtup (SqT.of ep) rfl ?_
      walk_at "aw"
      refine ⟨rfl, ?_⟩
      walk_at "aw"
      have hg := made_get (φ := φ) hpnd x0 hx0
      rw [e0] at hg
      refine kDGet_i (k := .inr dd.1) ((k3_of a4).d _ _ ed') hg ?_
      have hb := back_at (φ := φ) hpnd x0 hx0
      rw [e0] at hb
      rw [hb] at kt
      exact kt rfl _ (.refl _ _)
    · walk_at "aw"
      refine w_tupL (SqL.of el) fun t H5 nt a5 et => ?_
      refine q t (backT τ φ (doms.map (·.1))) H5 ((a.trans a4).trans a5) ?_ fun x hx => back_at hpnd x hx
      show H5 t = _
      rw [et, List.filter_eq_self.mpr fun _ _ => rfl, hul, ← hnt]
      have e : ∀ ψ : Str → Int, (List.range (doms.map (·.1)).length).map (fun i => V.int (ψ ((doms.map (·.1)).getD i Str.empty))) = (doms.map (·.1)).map fun x => V.int (ψ x) := fun ψ => by
        conv => rhs; rw [← range_getD (doms.map (·.1)) Str.empty]
        rw [List.map_map]
        rfl
      rw [e]
end AW
namespace AW
open PySem PySem.Spec PyProof.Rows L2 RZ
open StX
local macro_rules | `(tactic| walk_at "aw1") => `(tactic| first
  | (with_reducible refine w_seq ?_) | (with_reducible refine w_asg ?_) | (with_reducible refine w_gname ?_) | (with_reducible refine w_op ?_) | (with_reducible refine w_un ?_)
  | ((with_reducible refine' w_var ?h ?_); (case h => rfl)) | (with_reducible refine w_c ?_)
  | (with_reducible refine w_I0 ?_) | (with_reducible refine w_U ?_) | (with_reducible refine w_cb ?_) | (with_reducible refine w_nil ?_) | (with_reducible refine w_cons ?_) | (with_reducible refine w_call ?_)
  | (with_reducible refine w_test ?_) | (with_reducible refine w_B ?_) | (with_reducible refine w_bl ?_) | (with_reducible refine w_not ?_) | (with_reducible refine w_yes ?_) | (with_reducible refine iteT ?_) | (with_reducible refine iteF ?_) | (with_reducible refine w_and ?_) | (with_reducible refine w_or ?_)
  | (with_reducible refine w_andV ?_) | (with_reducible refine w_orV ?_) | (with_reducible refine w_notV ?_) | (with_reducible refine w_if ?_)
  | (with_reducible refine w_int1 ?_) | (with_reducible refine w_int1b ?_) | (with_reducible refine w_abs ?_) | (with_reducible refine w_max2 ?_) | (with_reducible refine w_min2 ?_)
  | ((with_reducible refine w_eq ?h ?_); (case h => rfl)) | ((with_reducible refine w_ne ?h ?_); (case h => rfl)) | (with_reducible refine w_isN ?_) | (with_reducible refine w_isB ?_) | (with_reducible refine w_chain ?_)
  | (with_reducible refine w_ret ?_) | (with_reducible refine w_drop ?_) | (with_reducible refine w_ifS ?_) | (with_reducible refine w_gsub ?_) | (with_reducible refine w_augS ?_) | (with_reducible refine w_ipI ?_) | (with_reducible refine w_next ?_)
  | (with_reducible refine w_forR ?_) | (with_reducible refine w_forR2 ?_) | (with_reducible refine w_forL ?_) | (with_reducible refine w_forT ?_) | (with_reducible refine w_lcR ?_) | (with_reducible refine w_lcL ?_) | (with_reducible refine w_lcT ?_) | (with_reducible refine w_sl ?_) | (with_reducible refine w_part ?_) | (with_reducible refine w_noPart ?_) | (with_reducible refine w_in ?_)
  | (with_reducible refine w_gcons ?_) | (with_reducible refine w_gnil ?_) | (with_reducible refine w_lc3 ?_) | (with_reducible refine w_dcZ ?_) | (with_reducible refine w_dcT ?_) | (with_reducible refine w_dg ?_) | (with_reducible refine w_callK ?_) | (with_reducible refine w_dput ?_) | (with_reducible refine w_tup1 ?_)
  | (with_reducible refine w_tup ?_) | (with_reducible refine w_lst ?_)
  | ((with_reducible refine w_I ?h ?_); (case h => first | (exact Or.inr ⟨by decide, by decide⟩) | (exact Or.inl ⟨by decide, by decide⟩) | (show (0 : Int) < _; decide) | (exact ⟨by decide, by decide, by decide⟩) | assumption)))
local macro_rules | `(tactic| walk_at "aw") => `(tactic| repeat (walk_at "aw1"))
def sp_domains_of (_ : PySem.W.Frag) : Sp := fun vs H Q _ => ∃ m, vs = [m] ∧ ∃ doms, MdlAt H m doms ∧ MdlOk doms ∧ ∀ d kd H', H d = none → Adv [] H H' → H' d = some (.dK kd) → Paired (DomAt H') doms kd → Q (.ref d) H'
theorem dictOf_nd {key : Nat → Key} {val : Nat → V} : ∀ n, (∀ a b, a < n → b < n → key a = key b → a = b) → dictOf key val n = (List.range n).map fun i => (key i, val i)
  | 0, _ => rfl
  | i + 1, h => by
    show putK (dictOf key val i) (key i) (val i) = _
    rw [dictOf_nd i fun a b ha hb => h a b (by omega) (by omega), putK_new _ (val_none fun z => ?_), List.range_succ, List.map_append]
    · rfl
    · rw [List.map_map] at z
      obtain ⟨j, hj, e⟩ := List.mem_map.mp z
      have hj' := List.mem_range.mp hj
      have := h j i (by omega) (by omega) e
      omega
def t_domains_of (K : PySem.W.Frag) : TS := (tRet (tDc (iTup K (tOp (rIxT K) (tVar 0) (tC (.int 0)))) (gTup K 2 (gCons (gName 1) (gCons (gName 2) gNil))) tYes (tVar 1) (tVar 2) [1, 2]))
theorem len_domains_of {K : PySem.W.Frag} : ∀ (vs : List V) (H : Hp) (Q : VK) (E : XK), sp_domains_of K vs H Q E → vs.length = 1 := fun vs H Q E h => by
  obtain ⟨_, rfl, _⟩ := h
  rfl
theorem pure_domains_of {K : PySem.W.Frag} (vs : List V) (H : Hp) (Q : VK) (E : XK) (h : sp_domains_of K vs H Q E) : t_domains_of K { nx := fun _ H' => Q .non H', rt := Q } (start ["model", "name", "domain"] vs) H := by
  obtain ⟨m, rfl, doms, hm, mok, q⟩ := h
  obtain ⟨ma, mb, o, r, us, rfl, e1, e2, ho, hus⟩ := id hm
  have n2 := mok.nm.l2
  rw [List.length_map] at n2
  have hul := hus.1
  obtain ⟨kd, hk1, hk2, hk3⟩ := unk_kvs hus
  show t_domains_of K _ [some (.ref ma), none, none] H
  unfold t_domains_of
  walk_at "aw"
  refine w_ixT (SqT.of e1) (at_nat (by decide) rfl) ?_
  refine ⟨mb, rfl, ⟨_, sqt_f e2⟩, kDc_pure (walk_tup (xs := us)) (by omega) (fun H' g => sqt_f ((k2_of g).f _ _ _ e2)) (fun i => (kd.getD i (.inl 0, .non)).1) (fun i => (kd.getD i (.inl 0, .non)).2) (fun i x H2 H3 Kt hi g2 y kt => ?_) fun p H' np g' ep => ?_⟩
  · obtain ⟨rfl, y1⟩ := y
    obtain ⟨p, kv, rfl, hkv, epp⟩ := hk2 i x y1
    rw [getD_of hkv] at kt
    have h1 := hk3
    walk_at "aw"
    refine w_gtup (SqT.of (g2.tup _ _ epp)) rfl ?_
    walk_at "aw"
    refine ⟨rfl, ?_⟩
    walk_at "aw"
    exact kt _ (.refl _ _)
  · have hkeys := dom_keys hk3
    have hnd : (kd.map (·.1)).Nodup := by
      rw [hkeys]
      exact nodup_map_inj (fun a b z => Sum.inr.inj z) mok.nm.nd
    refine q p kd H' np g' ?_ (dom_up hk3 g'.tup)
    rw [ep, dictOf_nd _ fun a b ha hb e => ?_]
    · rw [hk1]
      congr 2
      exact range_getD kd _
    · have h1 : (kd.map (·.1))[a]? = some (kd.getD a (.inl 0, .non)).1 := by rw [List.getElem?_map, List.getElem?_eq_getElem (by omega), getD_of (List.getElem?_eq_getElem (by omega))]; rfl
      have h2 : (kd.map (·.1))[b]? = some (kd.getD b (.inl 0, .non)).1 := by rw [List.getElem?_map, List.getElem?_eq_getElem (by omega), getD_of (List.getElem?_eq_getElem (by omega))]; rfl
      exact nodup_inj hnd h1 (e ▸ h2)
end AW
namespace AW
open PySem PySem.Spec PyProof.Rows L2 RZ
open StX
local macro_rules | `(tactic| walk_at "aw1") => `(tactic| first
  | (with_reducible refine w_seq ?_) | (with_reducible refine w_asg ?_) | (with_reducible refine w_gname ?_) | (with_reducible refine w_op ?_) | (with_reducible refine w_un ?_)
  | ((with_reducible refine' w_var ?h ?_); (case h => rfl)) | (with_reducible refine w_c ?_)
  | (with_reducible refine w_I0 ?_) | (with_reducible refine w_U ?_) | (with_reducible refine w_cb ?_) | (with_reducible refine w_nil ?_) | (with_reducible refine w_cons ?_) | (with_reducible refine w_call ?_)
  | (with_reducible refine w_test ?_) | (with_reducible refine w_B ?_) | (with_reducible refine w_bl ?_) | (with_reducible refine w_not ?_) | (with_reducible refine w_yes ?_) | (with_reducible refine iteT ?_) | (with_reducible refine iteF ?_) | (with_reducible refine w_and ?_) | (with_reducible refine w_or ?_)
  | (with_reducible refine w_andV ?_) | (with_reducible refine w_orV ?_) | (with_reducible refine w_notV ?_) | (with_reducible refine w_if ?_)
  | (with_reducible refine w_int1 ?_) | (with_reducible refine w_int1b ?_) | (with_reducible refine w_abs ?_) | (with_reducible refine w_max2 ?_) | (with_reducible refine w_min2 ?_)
  | ((with_reducible refine w_eq ?h ?_); (case h => rfl)) | ((with_reducible refine w_ne ?h ?_); (case h => rfl)) | (with_reducible refine w_isN ?_) | (with_reducible refine w_isB ?_) | (with_reducible refine w_chain ?_)
  | (with_reducible refine w_ret ?_) | (with_reducible refine w_drop ?_) | (with_reducible refine w_ifS ?_) | (with_reducible refine w_gsub ?_) | (with_reducible refine w_augS ?_) | (with_reducible refine w_ipI ?_) | (with_reducible refine w_next ?_)
  | (with_reducible refine w_forR ?_) | (with_reducible refine w_forR2 ?_) | (with_reducible refine w_forL ?_) | (with_reducible refine w_forT ?_) | (with_reducible refine w_lcR ?_) | (with_reducible refine w_lcL ?_) | (with_reducible refine w_lcT ?_) | (with_reducible refine w_sl ?_) | (with_reducible refine w_part ?_) | (with_reducible refine w_noPart ?_) | (with_reducible refine w_in ?_)
  | (with_reducible refine w_gcons ?_) | (with_reducible refine w_gnil ?_) | (with_reducible refine w_lc3 ?_) | (with_reducible refine w_dcZ ?_) | (with_reducible refine w_dcT ?_) | (with_reducible refine w_dg ?_) | (with_reducible refine w_callK ?_) | (with_reducible refine w_dput ?_) | (with_reducible refine w_tup1 ?_)
  | (with_reducible refine w_tup ?_) | (with_reducible refine w_lst ?_)
  | ((with_reducible refine w_I ?h ?_); (case h => first | (exact Or.inr ⟨by decide, by decide⟩) | (exact Or.inl ⟨by decide, by decide⟩) | (show (0 : Int) < _; decide) | (exact ⟨by decide, by decide, by decide⟩) | assumption)))
local macro_rules | `(tactic| walk_at "aw") => `(tactic| repeat (walk_at "aw1"))
def sp_turned (_ : PySem.W.Frag) : Sp := fun vs H Q _ => ∃ (m : V) (e f : Addr), vs = [m, .ref e, .ref f] ∧ ∃ doms L φ, MdlAt H m doms ∧ MdlOk doms ∧ ExAt H e L ∧ FilAt H f doms φ ∧ (L.map (·.2.1)).Nodup ∧
  (∀ r ∈ L, r.1 ∈ doms.map (·.1) ∧ r.2.1 ∈ doms.map (·.1) ∧ r.2.2.length ≤ 12 ∧ ∃ b, (φ r.1, b) ∈ r.2.2) ∧ ∀ (t : Addr) (ψ : Str → Int) H', Adv [] H H' → FilAt H' t doms ψ → (∀ r ∈ L, (φ r.1, ψ r.2.1) ∈ r.2.2) → (∀ y, y ∉ L.map (·.2.1) → ψ y = φ y) → Q (.ref t) H'
def nK (φ : Str → Int) (xs : List Str) : List (Key × V) := xs.map fun x => (.inr x, .int (φ x))
theorem nK_get {φ : Str → Int} : ∀ {xs : List Str} {x : Str}, x ∈ xs → valV (nK φ xs) (.inr x) = some (.int (φ x))
  | [], _, h => by simp at h
  | a :: xs, x, h => by
    show valV ((.inr a, .int (φ a)) :: nK φ xs) _ = _
    by_cases e : a = x
    · subst e
      exact valV_pos rfl
    · rw [valV_neg fun z => e (Sum.inr.inj z)]
      rcases List.mem_cons.mp h with h | h
      · exact absurd h.symm e
      · exact nK_get h
theorem nK_put {φ : Str → Int} {xs : List Str} {y : Str} {v : Int} (h : y ∈ xs) : putK (nK φ xs) (.inr y) (.int v) = nK (fun z => if z = y then v else φ z) xs := by
  unfold putK
  have e : ((nK φ xs).any fun kv => decide (kv.1 = Sum.inr y)) = true := by
    rw [List.any_eq_true]
    exact ⟨(.inr y, .int (φ y)), List.mem_map.mpr ⟨y, h, rfl⟩, decide_eq_true rfl⟩
  rw [if_pos e]
  unfold nK
  rw [List.map_map]
  refine List.map_congr_left fun x _ => ?_
  show (if (Sum.inr x : Key) = Sum.inr y then ((Sum.inr x : Key), V.int v) else (Sum.inr x, V.int (φ x))) = (Sum.inr x, V.int (if x = y then v else φ x))
  by_cases z : x = y
  · rw [if_pos (by rw [z]), if_pos z]
  · rw [if_neg (fun h => z (Sum.inr.inj h)), if_neg z]
theorem walk_zipF {K : PySem.W.Frag} {a b : Addr} {xs ys : List V} (h1 : ys.length = xs.length) : Walk (ItzT K a b) xs.length (fun H => (∃ o, H a = some (.frz o (.tup xs))) ∧ H b = some (.tup ys)) (YPair (fun i => xs[i]?) (fun i => ys[i]?)) :=
  ⟨fun i H hi ⟨⟨o, q1⟩, q2⟩ => ⟨xs, ys, xs[i], ys[i], sqt_f q1, SqT.of q2, List.getElem?_eq_getElem hi, List.getElem?_eq_getElem (by omega)⟩, fun H ⟨⟨o, q1⟩, q2⟩ => ⟨xs, ys, sqt_f q1, SqT.of q2, .inl (Nat.le_refl _)⟩,
    fun i H v H' _ ⟨⟨o, q1⟩, q2⟩ ⟨T, x, y, e1, e2, e3, e4, e5⟩ => ⟨T, x, y, e1, e2, e3, e4 _ (sqt_f q1), e5 _ (SqT.of q2)⟩⟩
theorem w_dcI {td : TE} {g : TG} {tt : TT} {tk tv : TE} {vs : List Nat} {σ : L2.St} {H : Hp} {Q : VK} (h : td σ H fun x H1 => ∃ d o kvs, x = .ref d ∧ H1 d = some (.frz o (.dK kvs)) ∧ kDc (Iti d o kvs) g tt tk tv vs σ Q H1) : tDc (iItems td) g tt tk tv vs σ H Q := h
theorem nK_of {φ : Str → Int} {xs : List Str} (nd : xs.Nodup) {n : Nat} (hn : n = xs.length) : dictOf (fun i => (Sum.inr (xs.getD i Str.empty) : Key)) (fun i => .int (φ (xs.getD i Str.empty))) n = nK φ xs := by
  subst hn
  rw [dictOf_nd _ fun a b ha hb e => ?_]
  · unfold nK
    conv => rhs; rw [← range_getD xs Str.empty]
    rw [List.map_map]
    rfl
  · have e2 := Sum.inr.inj e
    rw [getD_of (List.getElem?_eq_getElem ha), getD_of (List.getElem?_eq_getElem hb)] at e2
    exact nodup_inj nd (List.getElem?_eq_getElem ha) (by rw [e2]; exact List.getElem?_eq_getElem hb)
theorem paired_at {α β : Type} {F : α → β → Prop} : ∀ {xs : List α} {ys : List β}, Paired F xs ys → ∀ {i : Nat} {x : α} {y : β}, xs[i]? = some x → ys[i]? = some y → F x y
  | _, _, .nil, _, _, _, h, _ => by simp at h
  | _, _, .cons a t, 0, _, _, h, h2 => by cases h; cases h2; exact a
  | _, _, .cons a t, i + 1, _, _, h, h2 => paired_at t (by simpa using h) (by simpa using h2)
def t_turned (K : PySem.W.Frag) : TS := (tSeq (tAsg (tDc (iZipA K (tCons (tOp (rIxT K) (tVar 0) (tC (.int 0))) (tCons (tVar 2) tNil))) (gTup K 2 (gCons (gName 4) (gCons (gName 5) gNil))) tYes (tOp (rIxT K) (tVar 4) (tC (.int 0))) (tVar 5) [4, 5]) (gName 3))
  (tSeq (tAsg (tLockE (tDc (iItems (tVar 3)) (gTup K 2 (gCons (gName 7) (gCons (gName 5) gNil))) tYes (tVar 7) (tVar 5) [7, 5])) (gName 6))
  (tSeq (tFor (iTup K (tVar 1)) (gTup K 3 (gCons (gName 7) (gCons (gName 8) (gCons (gName 9) gNil))))
  (sDPut (tVar 6) (tVar 8) (tOp (rIxL K) (tLc (iTup K (tVar 9)) (gTup K 2 (gCons (gName 5) (gCons (gName 10) gNil))) (tTest (tOp rEq (tVar 5) (tDGet (tVar 3) (tVar 7)))) (tVar 10) [5, 10]) (tC (.int 0)))))
  (tRet (tThen (tLc (iTup K (tOp (rIxT K) (tVar 0) (tC (.int 0)))) (gName 4) tYes (tDGet (tVar 6) (tOp (rIxT K) (tVar 4) (tC (.int 0)))) [4]) (kTup K))))))
theorem len_turned {K : PySem.W.Frag} : ∀ (vs : List V) (H : Hp) (Q : VK) (E : XK), sp_turned K vs H Q E → vs.length = 3 := fun vs H Q E h => by
  obtain ⟨_, _, _, rfl, _⟩ := h
  rfl
theorem pure_turned {K : PySem.W.Frag} (vs : List V) (H : Hp) (Q : VK) (E : XK) (h : sp_turned K vs H Q E) : t_turned K { nx := fun _ H' => Q .non H', rt := Q } (start ["model", "exchange", "filling", "values", "item", "v", "led", "x", "y", "pairs", "w"] vs) H := by
  obtain ⟨m, e, f, rfl, doms, L, φ, hm, mok, ⟨rs, ers, hrs⟩, ef, hLn, hL, q⟩ := h
  obtain ⟨ma, mb, o, r, us, rfl, e1, e2, ho, hus⟩ := id hm
  have n2 := mok.nm.l2
  have hul := hus.1
  have hnt : (doms.map (·.1)).length = doms.length := List.length_map ..
  show t_turned K _ [some (.ref ma), some (.ref e), some (.ref f), none, none, none, none, none, none, none, none] H
  unfold t_turned
  walk_at "aw"
  refine w_ixT (SqT.of e1) (at_nat (by decide) rfl) ?_
  walk_at "aw"
  refine ⟨mb, f, us, _, rfl, .inr ⟨sqt_f e2, SqT.of ef, kDc_pure (walk_zipF (by rw [List.length_map, hnt, hul])) (by omega) (fun H' g => ⟨⟨o, (k2_of g).f _ _ _ e2⟩, g.tup _ _ ef⟩) (fun i => (Sum.inr ((doms.map (·.1)).getD i Str.empty) : Key)) (fun i => .int (φ ((doms.map (·.1)).getD i Str.empty))) (fun i v H2 H3 Kt hi g2 y kt => ?_) fun d H1 nd a1 ed => ?_⟩⟩
  · obtain ⟨T, u, z, rfl, nT, rfl, hu, hz⟩ := y
    obtain ⟨p, p2, dd, rfl, hdd, ep, ep2⟩ := hus.2 i u hu
    have hx : (doms.map (·.1))[i]? = some dd.1 := by rw [List.getElem?_map, hdd]; rfl
    dsimp only at hz
    rw [List.getElem?_map, hx] at hz
    cases hz
    rw [getD_of hx] at kt
    refine w_gtup (SqT.of upd_same) rfl ?_
    walk_at "aw"
    refine ⟨rfl, ?_⟩
    walk_at "aw"
    have aT : Adv [] H2 (upd H2 T (.tup [.ref p, .int (φ dd.1)])) := Adv.new nT
    refine w_ixT (SqT.of ((g2.trans aT).tup _ _ ep)) rfl ?_
    walk_at "aw"
    exact kt _ aT
  rw [nK_of mok.nm.nd (by rw [hul, hnt])] at ed
  walk_at "aw"
  refine ⟨d, _, ed, True.intro, fun od => ?_⟩
  refine w_dcI ?_
  walk_at "aw"
  have unl := fun H2 => adv_unlock (H1 := H1) (H2 := H2) (od := od) ed (fun _ z => nomatch z)
  have free : ∀ a, upd H1 d (.frz od (.dK (nK φ (doms.map (·.1))))) a = none → H1 a = none := fun a h => by
    by_cases z : a = d
    · rw [z, upd_same] at h; exact nomatch h
    · rw [upd_ne z] at h; exact h
  have edL : upd H1 d (.frz od (.dK (nK φ (doms.map (·.1))))) d = some (.frz od (.dK (nK φ (doms.map (·.1))))) := upd_same
  generalize upd H1 d (.frz od (.dK (nK φ (doms.map (·.1))))) = HL at *
  refine ⟨d, od, _, rfl, edL, kDc_pure (walk_items (kvs := nK φ (doms.map (·.1)))) (by unfold nK; rw [List.length_map]; omega) (fun H' g => g.keep _ _ (fun z => nomatch z) edL) (fun i => (Sum.inr ((doms.map (·.1)).getD i Str.empty) : Key)) (fun i => .int (φ ((doms.map (·.1)).getD i Str.empty))) (fun i v H2 H3 Kt hi g2 y kt => ?_) fun d2 H4 nd2 a4 ed2 => ?_⟩
  · obtain ⟨T, u, z, rfl, nT, rfl, hu, hz⟩ := y
    obtain ⟨x, hx⟩ : ∃ x, (doms.map (·.1))[i]? = some x := ⟨_, List.getElem?_eq_getElem (by unfold nK at hi; rw [List.length_map] at hi; exact hi)⟩
    have hkv : (nK φ (doms.map (·.1)))[i]? = some (.inr x, .int (φ x)) := by unfold nK; rw [List.getElem?_map, hx]; rfl
    dsimp only at hu hz
    rw [hkv] at hu hz
    cases hu
    cases hz
    rw [getD_of hx] at kt
    refine w_gtup (SqT.of upd_same) rfl ?_
    walk_at "aw"
    refine ⟨rfl, ?_⟩
    walk_at "aw"
    exact kt _ (Adv.new nT)
  rw [nK_of mok.nm.nd (by unfold nK; rw [List.length_map])] at ed2
  have edL4 := a4.keep _ _ (fun z => nomatch z) edL
  refine ⟨edL4, ?_⟩
  have a5 := unl H4 a4
  have hd2 : d2 ≠ d := ne_of ed2 edL4 fun z => nomatch z
  have ed5 : (upd H4 d (.dK (nK φ (doms.map (·.1))))) d = some (.dK (nK φ (doms.map (·.1)))) := upd_same
  have ed25 : (upd H4 d (.dK (nK φ (doms.map (·.1))))) d2 = some (.dK (nK φ (doms.map (·.1)))) := (upd_ne hd2).trans ed2
  have nd2H : H d2 = none := a1.free (fun z => nomatch z) (free _ nd2)
  generalize upd H4 d (.dK (nK φ (doms.map (·.1)))) = H5 at *
  have a05 := a1.trans a5
  walk_at "aw"
  refine kForT_i (fun i σ' H' => ∃ (y7 y8 y9 : Option V) (ψ : Str → Int), σ' = [some (.ref ma), some (.ref e), some (.ref f), some (.ref d), none, none, some (.ref d2), y7, y8, y9, none] ∧ Adv [] H H' ∧ H' d = some (.dK (nK φ (doms.map (·.1)))) ∧ H' d2 = some (.dK (nK ψ (doms.map (·.1)))) ∧ (∀ r ∈ L.take i, (φ r.1, ψ r.2.1) ∈ r.2.2) ∧ ∀ y, y ∉ (L.take i).map (·.2.1) → ψ y = φ y)
    (SqT.of (a05.tup _ _ ers)) ⟨_, _, _, φ, rfl, a05, ed5, ed25, fun r h => by simp at h, fun _ _ => rfl⟩ (fun i σ' H' _ pp => by obtain ⟨_, _, _, _, _, a, _⟩ := pp; exact SqT.of (a.tup _ _ ers)) (fun i u σ' H' hu pp => ?_) fun σ' H' pp => ?_
  · obtain ⟨y7, y8, y9, ψ, rfl, a, ed', ed2', hset, hsame⟩ := pp
    obtain ⟨r, hr⟩ : ∃ r, L[i]? = some r := ⟨_, List.getElem?_eq_getElem (by rw [← hrs.length]; exact (List.getElem?_eq_some_iff.mp hu).1)⟩
    obtain ⟨p, qp, vs, rfl, ep, eqp, hps⟩ := paired_at hrs hu hr
    obtain ⟨hx, hy, hl12, b, hb⟩ := hL r (List.mem_of_getElem? hr)
    refine w_gtup (SqT.of (a.tup _ _ ep)) rfl ?_
    walk_at "aw"
    refine ⟨qp, rfl, ⟨_, SqT.of (a.tup _ _ eqp)⟩, kLc_pure (walk_tup (xs := vs)) (by rw [hps.1]; omega) (fun H2 g => SqT.of ((a.trans g).tup _ _ eqp)) (fun j => decide ((r.2.2.getD j (0, 0)).1 = φ r.1)) (fun j => .int (r.2.2.getD j (0, 0)).2) (fun j v H2 H3 Kt Kf hj a2 yy kt kf => ?_) fun l H2 nl a2 el => ?_⟩
    · obtain ⟨rfl, hv⟩ := yy
      obtain ⟨pa, ab, rfl, hab, epa⟩ := hps.2 j v hv
      rw [getD_of hab] at kt kf
      refine w_gtup (SqT.of ((a.trans a2).tup _ _ epa)) rfl ?_
      walk_at "aw"
      refine ⟨rfl, ?_⟩
      walk_at "aw"
      refine kDGet_i (k := .inr r.1) ((k3_of a2).d _ _ ed') (nK_get hx) ?_
      walk_at "aw"
      have e : decide (V.int ab.1 = V.int (φ r.1)) = decide (ab.1 = φ r.1) := by
        rw [Bool.eq_iff_iff, decide_eq_true_iff, decide_eq_true_iff]
        exact ⟨fun z => V.int.inj z, fun z => by rw [z]⟩
      rw [e]
      cases hc : decide (ab.1 = φ r.1) with
      | true =>
        walk_at "aw"
        exact kt hc _ (.refl _ _)
      | false =>
        walk_at "aw"
        exact kf hc _ (.refl _ _)
    · obtain ⟨b', hb', hat⟩ : ∃ b', (φ r.1, b') ∈ r.2.2 ∧ (((List.range vs.length).filter fun j => decide ((r.2.2.getD j (0, 0)).1 = φ r.1)).map fun j => V.int (r.2.2.getD j (0, 0)).2)[0]? = some (.int b') := by
        obtain ⟨j, hj, hjx⟩ := List.mem_iff_getElem.mp hb
        have hjg : r.2.2.getD j (0, 0) = (φ r.1, b) := getD_of (by rw [List.getElem?_eq_getElem hj, hjx])
        generalize hfl : (List.range vs.length).filter (fun j => decide ((r.2.2.getD j (0, 0)).1 = φ r.1)) = fl
        have hjm : j ∈ fl := by
          rw [← hfl, List.mem_filter]
          exact ⟨List.mem_range.mpr (by rw [hps.1]; exact hj), by rw [hjg]; exact decide_eq_true rfl⟩
        cases fl with
        | nil => simp at hjm
        | cons j0 rest =>
          have h0 : j0 ∈ (List.range vs.length).filter (fun j => decide ((r.2.2.getD j (0, 0)).1 = φ r.1)) := by rw [hfl]; exact List.mem_cons_self ..
          rw [List.mem_filter] at h0
          have h1 := of_decide_eq_true h0.2
          have h2 := List.mem_range.mp h0.1
          rw [hps.1] at h2
          refine ⟨(r.2.2.getD j0 (0, 0)).2, ?_, rfl⟩
          rw [← h1]
          have h3 : r.2.2.getD j0 (0, 0) = r.2.2[j0] := getD_of (List.getElem?_eq_getElem h2)
          rw [h3]
          exact List.getElem_mem h2
      walk_at "aw"
      refine w_ixL (SqL.of el) (at_nat (v := .int b') (by decide) hat) ?_
      walk_at "aw"
      have ed22 := (k3_of a2).d _ _ ed2'
      refine kDPut_i (k := .inr r.2.1) ed22 (by unfold nK; rw [List.length_map]; omega) ?_
      rw [nK_put hy]
      have hLt : L.take (i + 1) = L.take i ++ [r] := by rw [List.take_add_one, hr]; rfl
      refine ⟨_, _, _, _, rfl, (a.trans a2).mut nd2H ed22 (fun _ z => by cases z), ?_, upd_same, fun r' hr' => ?_, fun z hz => ?_⟩
      · rw [upd_ne hd2.symm]
        exact (k3_of a2).d _ _ ed'
      · rw [hLt] at hr'
        try dsimp only
        rcases List.mem_append.mp hr' with hr' | hr'
        · have hne : ¬ r'.2.1 = r.2.1 := fun z => by
            obtain ⟨j, hj, hjx⟩ := List.mem_iff_getElem.mp hr'
            rw [List.length_take] at hj
            rw [List.getElem_take] at hjx
            have h1 : (L.map (·.2.1))[j]? = some r.2.1 := by rw [List.getElem?_map, List.getElem?_eq_getElem (by omega), Option.map_some, hjx, z]
            have h2 : (L.map (·.2.1))[i]? = some r.2.1 := by rw [List.getElem?_map, hr]; rfl
            have := nodup_inj hLn h1 h2
            omega
          rw [if_neg hne]
          exact hset r' hr'
        · rw [List.mem_singleton.mp hr', if_pos rfl]
          exact hb'
      · rw [hLt, List.map_append] at hz
        have hne : ¬ z = r.2.1 := fun h => hz (List.mem_append_right _ (by rw [h]; exact List.mem_singleton.mpr rfl))
        try dsimp only
        rw [if_neg hne]
        exact hsame z fun h => hz (List.mem_append_left _ h)
  · obtain ⟨y7, y8, y9, ψ, rfl, a, ed', ed2', hset, hsame⟩ := pp
    have hLl : L.take rs.length = L := List.take_of_length_le (by rw [hrs.length]; exact Nat.le_refl _)
    rw [hLl] at hset hsame
    walk_at "aw"
    refine w_ixT (SqT.of (a.tup _ _ e1)) (at_nat (by decide) rfl) ?_
    refine ⟨mb, rfl, ⟨_, sqt_f ((k2_of a).f _ _ _ e2)⟩, kLc_pure (walk_tup (xs := us)) (by omega) (fun H2 g => sqt_f ((k2_of (a.trans g)).f _ _ _ e2)) (fun _ => true) (fun i => .int (ψ ((doms.map (·.1)).getD i Str.empty))) (fun j v H4 H5 Kt Kf hj a4 yy kt kf => ?_) fun l H4 nl a4 el => ?_⟩
    · obtain ⟨rfl, hu⟩ := yy
      obtain ⟨p, p2, dd, rfl, hdd, ep, ep2⟩ := (hus.up (a.trans a4).tup).2 j v hu
      have hx : (doms.map (·.1))[j]? = some dd.1 := by rw [List.getElem?_map, hdd]; rfl
      rw [getD_of hx] at kt
      walk_at "aw"
      refine ⟨rfl, ?_⟩
      walk_at "aw"
      refine w_ixT (SqT.of ep) rfl ?_
      refine kDGet_i (k := .inr dd.1) ((k3_of a4).d _ _ ed2') (nK_get (List.mem_of_getElem? hx)) ?_
      exact kt rfl _ (.refl _ _)
    · walk_at "aw"
      refine w_tupL (SqL.of el) fun t H5 nt a5 et => ?_
      refine q t ψ H5 ((a.trans a4).trans a5) ?_ hset hsame
      show H5 t = _
      rw [et, List.filter_eq_self.mpr fun _ _ => rfl, hul, ← hnt]
      have e : ∀ ψ : Str → Int, (List.range (doms.map (·.1)).length).map (fun i => V.int (ψ ((doms.map (·.1)).getD i Str.empty))) = (doms.map (·.1)).map fun x => V.int (ψ x) := fun ψ => by
        conv => rhs; rw [← range_getD (doms.map (·.1)) Str.empty]
        rw [List.map_map]
        rfl
      rw [e]
end AW
namespace AW
open PySem PySem.Spec PyProof.Rows L2 RZ
open StX
local macro_rules | `(tactic| walk_at "aw1") => `(tactic| first
  | (with_reducible refine w_seq ?_) | (with_reducible refine w_asg ?_) | (with_reducible refine w_gname ?_) | (with_reducible refine w_op ?_) | (with_reducible refine w_un ?_)
  | ((with_reducible refine' w_var ?h ?_); (case h => rfl)) | (with_reducible refine w_c ?_)
  | (with_reducible refine w_I0 ?_) | (with_reducible refine w_U ?_) | (with_reducible refine w_cb ?_) | (with_reducible refine w_nil ?_) | (with_reducible refine w_cons ?_) | (with_reducible refine w_call ?_)
  | (with_reducible refine w_test ?_) | (with_reducible refine w_B ?_) | (with_reducible refine w_bl ?_) | (with_reducible refine w_not ?_) | (with_reducible refine w_yes ?_) | (with_reducible refine iteT ?_) | (with_reducible refine iteF ?_) | (with_reducible refine w_and ?_) | (with_reducible refine w_or ?_)
  | (with_reducible refine w_andV ?_) | (with_reducible refine w_orV ?_) | (with_reducible refine w_notV ?_) | (with_reducible refine w_if ?_)
  | (with_reducible refine w_int1 ?_) | (with_reducible refine w_int1b ?_) | (with_reducible refine w_abs ?_) | (with_reducible refine w_max2 ?_) | (with_reducible refine w_min2 ?_)
  | ((with_reducible refine w_eq ?h ?_); (case h => rfl)) | ((with_reducible refine w_ne ?h ?_); (case h => rfl)) | (with_reducible refine w_isN ?_) | (with_reducible refine w_isB ?_) | (with_reducible refine w_chain ?_)
  | (with_reducible refine w_ret ?_) | (with_reducible refine w_drop ?_) | (with_reducible refine w_ifS ?_) | (with_reducible refine w_gsub ?_) | (with_reducible refine w_augS ?_) | (with_reducible refine w_ipI ?_) | (with_reducible refine w_next ?_)
  | (with_reducible refine w_forR ?_) | (with_reducible refine w_forR2 ?_) | (with_reducible refine w_forL ?_) | (with_reducible refine w_forT ?_) | (with_reducible refine w_lcR ?_) | (with_reducible refine w_lcL ?_) | (with_reducible refine w_lcT ?_) | (with_reducible refine w_sl ?_) | (with_reducible refine w_part ?_) | (with_reducible refine w_noPart ?_) | (with_reducible refine w_in ?_)
  | (with_reducible refine w_gcons ?_) | (with_reducible refine w_gnil ?_) | (with_reducible refine w_lc3 ?_) | (with_reducible refine w_dcZ ?_) | (with_reducible refine w_dcT ?_) | (with_reducible refine w_dg ?_) | (with_reducible refine w_callK ?_) | (with_reducible refine w_dput ?_) | (with_reducible refine w_tup1 ?_)
  | (with_reducible refine w_tup ?_) | (with_reducible refine w_lst ?_)
  | ((with_reducible refine w_I ?h ?_); (case h => first | (exact Or.inr ⟨by decide, by decide⟩) | (exact Or.inl ⟨by decide, by decide⟩) | (show (0 : Int) < _; decide) | (exact ⟨by decide, by decide, by decide⟩) | assumption)))
local macro_rules | `(tactic| walk_at "aw") => `(tactic| repeat (walk_at "aw1"))
/-- sorted(xs) of pairs of numbers: the same pairs in some order -/
theorem w_sortPP {K : PySem.W.Frag} {H : Hp} {Q : VK} {a : Addr} {vs : List V} {ps : List (Int × Int)} (h : H a = some (.lst vs)) (hp : PairsAt H vs ps) (q : ∀ r H' ys qs, H r = none → Adv [] H H' → H' r = some (.lst ys) → qs.Perm ps → PairsAt H' ys qs → Q (.ref r) H') : rSortedPO K [.ref a] H Q := by
  let k : V → Int × Int := fun v => match v with | .ref t => (match H t with | some (.tup [.int i, .int j]) => (i, j) | _ => (0, 0)) | _ => (0, 0)
  have hkv : ∀ (t : Addr) (i j : Int), H t = some (.tup [.int i, .int j]) → k (.ref t) = (i, j) := fun t i j e => by
    show (match H t with | some (.tup [.int i, .int j]) => (i, j) | _ => (0, 0)) = (i, j)
    rw [e]
  have hat : ∀ (i : Nat) (h1 : i < vs.length), k vs[i] = ps[i]'(by rw [← hp.1]; exact h1) := fun i h1 => by
    obtain ⟨t, ab, e1, e2, e3⟩ := hp.2 i vs[i] (List.getElem?_eq_getElem h1)
    rw [e1, hkv t _ _ e3]
    rw [List.getElem?_eq_getElem (by rw [← hp.1]; exact h1)] at e2
    exact (Option.some.inj e2).symm
  have hm : vs.map k = ps := by
    apply List.ext_getElem (by rw [List.length_map, hp.1])
    intro i h1 h2
    rw [List.getElem_map]
    exact hat i (by rw [List.length_map] at h1; exact h1)
  have hr : ∀ x ∈ vs, ∃ t, x = V.ref t ∧ H t = some (.tup [.int (k x).1, .int (k x).2]) := fun x hx => by
    obtain ⟨i, hi, rfl⟩ := List.mem_iff_getElem.mp hx
    obtain ⟨t, ab, e1, e2, e3⟩ := hp.2 i vs[i] (List.getElem?_eq_getElem hi)
    rw [e1]
    refine ⟨t, rfl, ?_⟩
    rw [hkv t _ _ e3]
    exact e3
  refine ⟨a, vs, k, rfl, SqL.of h, hr, fun ys p h1 h2 h3 => ?_⟩
  have hpm := h2.perm
  refine q p _ ys (ys.map k) h3 (Adv.new h3) upd_same (by rw [← hm]; exact hpm.map k) ⟨by rw [List.length_map], fun i v e => ?_⟩
  obtain ⟨t, e1, e2⟩ := hr v (hpm.mem_iff.mp (List.mem_of_getElem? e))
  exact ⟨t, k v, e1, by rw [List.getElem?_map, e]; rfl, (Adv.new h3).tup _ _ e2⟩
def swap (ab : Int × Int) : Int × Int := (ab.2, ab.1)
def BackOf (m r : Way) : Prop := m.1 = r.2.1 ∧ m.2.1 = r.1 ∧ m.2.2.Perm (r.2.2.map swap)
def sp__law_back (_ : PySem.W.Frag) : Sp := fun vs H Q _ => ∃ (e : Addr), vs = [.ref e] ∧ ∃ L, ExAt H e L ∧ L.length ≤ 100 ∧ (∀ r ∈ L, r.2.2.length ≤ 100) ∧ (L.map (·.2.1)).Nodup ∧ ∀ (t : Addr) (L' M : List Way) H', Adv [] H H' → ExAt H' t L' → L'.Perm M → Paired BackOf M L → Q (.ref t) H'
theorem paired_perm {α β : Type} {R : α → β → Prop} {xs ys : List α} (h : ys.Perm xs) : ∀ {ms : List β}, Paired R xs ms → ∃ ms', ms'.Perm ms ∧ Paired R ys ms' := by
  induction h with
  | nil => intro ms p; cases p; exact ⟨[], .nil, .nil⟩
  | cons x h ih =>
    intro ms p
    cases p with
    | cons a t =>
      obtain ⟨ms', h1, h2⟩ := ih t
      exact ⟨_ :: ms', h1.cons _, .cons a h2⟩
  | swap x y l =>
    intro ms p
    cases p with
    | cons a t =>
      cases t with
      | cons b t => exact ⟨_, .swap .., .cons b (.cons a t)⟩
  | trans h1 h2 ih1 ih2 =>
    intro ms p
    obtain ⟨m1, a1, b1⟩ := ih2 p
    obtain ⟨m2, a2, b2⟩ := ih1 b1
    exact ⟨m2, a2.trans a1, b2⟩
theorem w_sortTN {K : PySem.W.Frag} {H : Hp} {Q : VK} {a : Addr} {us : List V} {M : List Way} (h : H a = some (.lst us)) (hp : Paired (fun u r => ExRow H u r) us M) (nd : (M.map (·.1)).Nodup) (q : ∀ r H' ys M', H r = none → Adv [] H H' → H' r = some (.lst ys) → M'.Perm M → Paired (fun u r => ExRow H' u r) ys M' → Q (.ref r) H') : rSortedTN K [.ref a] H Q := by
  let k : V → Str := fun v => match v with | .ref t => (match H t with | some (.tup (.str x :: _)) => x | _ => Str.empty) | _ => Str.empty
  have hk : ∀ (i : Nat) u m, us[i]? = some u → M[i]? = some m → ∃ t r, u = V.ref t ∧ H t = some (.tup (.str m.1 :: r)) ∧ k u = m.1 := fun i u m e1 e2 => by
    obtain ⟨p, q', vs, rfl, ep, _⟩ := paired_at hp e1 e2
    refine ⟨p, _, rfl, ep, ?_⟩
    show (match H p with | some (.tup (.str x :: _)) => x | _ => Str.empty) = _
    rw [ep]
  have hlen := hp.length
  have hat : ∀ x ∈ us, ∃ (i : Nat) (m : Way), us[i]? = some x ∧ M[i]? = some m := fun x hx => by
    obtain ⟨i, hi, rfl⟩ := List.mem_iff_getElem.mp hx
    exact ⟨i, M[i]'(by omega), List.getElem?_eq_getElem hi, List.getElem?_eq_getElem (by omega)⟩
  refine ⟨a, us, k, rfl, SqL.of h, fun x hx => ?_, fun x hx y hy e => ?_, fun ys p hperm hn => ?_⟩
  · obtain ⟨i, m, e1, e2⟩ := hat x hx
    obtain ⟨t, r, h1, h2, h3⟩ := hk i x m e1 e2
    exact ⟨t, r, h1, by rw [h3]; exact h2⟩
  · obtain ⟨i, m, e1, e2⟩ := hat x hx
    obtain ⟨j, m', e3, e4⟩ := hat y hy
    obtain ⟨_, _, _, _, h3⟩ := hk i x m e1 e2
    obtain ⟨_, _, _, _, h6⟩ := hk j y m' e3 e4
    rw [h3, h6] at e
    have : i = j := nodup_inj nd (by rw [List.getElem?_map, e2]; rfl) (by rw [List.getElem?_map, e4]; exact congrArg some e.symm)
    subst this
    rw [e1] at e3
    exact Option.some.inj e3
  · obtain ⟨M', h1, h2⟩ := paired_perm hperm hp
    exact q p _ ys M' hn (Adv.new hn) upd_same h1 (L2.Paired.mapP h2 fun _ _ z => z.up (Adv.new (o := .lst ys) hn).tup)
def t__law_back (K : PySem.W.Frag) : TS := (tSeq (tAsg (tLst tNil) (gName 1))
  (tSeq (tFor (iTup K (tVar 0)) (gTup K 3 (gCons (gName 2) (gCons (gName 3) (gCons (gName 4) gNil))))
  (tDrop (tBM K "list" rAppend (tVar 1) (tCons (tTup (tCons (tVar 3) (tCons (tVar 2) (tCons (tThen (tCB (rSortedPO K) (tCons (tLc (iTup K (tVar 4)) (gTup K 2 (gCons (gName 5) (gCons (gName 6) gNil))) tYes (tTup (tCons (tVar 6) (tCons (tVar 5) tNil))) [5, 6]) tNil)) (kTup K)) tNil)))) tNil))))
  (tRet (tThen (tCB (rSortedTN K) (tCons (tVar 1) tNil)) (kTup K)))))
theorem len__law_back {K : PySem.W.Frag} : ∀ (vs : List V) (H : Hp) (Q : VK) (E : XK), sp__law_back K vs H Q E → vs.length = 1 := fun vs H Q E h => by
  obtain ⟨_, rfl, _⟩ := h
  rfl
theorem pure__law_back {K : PySem.W.Frag} (vs : List V) (H : Hp) (Q : VK) (E : XK) (h : sp__law_back K vs H Q E) : t__law_back K { nx := fun _ H' => Q .non H', rt := Q } (start ["exchange", "row", "x", "y", "pairs", "v", "w"] vs) H := by
  obtain ⟨e, rfl, L, ⟨rs, ers, hrs⟩, hL, hps, hnd, q⟩ := h
  have hrl := hrs.length
  show t__law_back K _ [some (.ref e), none, none, none, none, none, none] H
  unfold t__law_back
  walk_at "aw"
  refine w_lstD (by simp) fun r H1 nr a1 er => ?_
  walk_at "aw"
  refine kForT_i (fun i σ' H' => ∃ (y2 y3 y4 : Option V) (us : List V) (M : List Way), σ' = [some (.ref e), some (.ref r), y2, y3, y4, none, none] ∧ Adv [] H H' ∧ H' r = some (.lst us) ∧ us.length = i ∧ Paired (fun u r => ExRow H' u r) us M ∧ Paired BackOf M (L.take i)) (SqT.of (a1.tup _ _ ers))
    ⟨_, _, _, [], [], rfl, a1, er, rfl, .nil, .nil⟩ (fun i σ' H' _ pp => by obtain ⟨_, _, _, _, _, _, a, _⟩ := pp; exact SqT.of (a.tup _ _ ers)) (fun i u σ' H' hu pp => ?_) fun σ' H' pp => ?_
  · obtain ⟨y2, y3, y4, us, M, rfl, a, er', hul, hus, hM⟩ := pp
    obtain ⟨rw', hr⟩ : ∃ r, L[i]? = some r := ⟨_, List.getElem?_eq_getElem (by rw [← hrl]; exact (List.getElem?_eq_some_iff.mp hu).1)⟩
    obtain ⟨p, qp, vs, rfl, ep, eqp, hpa⟩ := paired_at hrs hu hr
    have hl := hps _ (List.mem_of_getElem? hr)
    have hil := (List.getElem?_eq_some_iff.mp hr).1
    refine w_gtup (SqT.of (a.tup _ _ ep)) rfl ?_
    walk_at "aw"
    refine w_app rfl er' ?_
    walk_at "aw"
    refine ⟨qp, rfl, ⟨_, SqT.of (a.tup _ _ eqp)⟩, ?_⟩
    refine kLc_rel (walk_tup (xs := vs)) (by rw [hpa.1]; omega) (fun H2 g => SqT.of ((a.trans g).tup _ _ eqp)) (fun i v H2 => ∃ a ab, v = .ref a ∧ rw'.2.2[i]? = some ab ∧ H2 a = some (.tup [.int ab.2, .int ab.1])) (fun i v H2 H3 kk hh => by
      obtain ⟨a, ab, h1, h2, h3⟩ := hh
      exact ⟨a, ab, h1, h2, kk _ _ h3⟩) (fun j v H4 H5 Kt hj a4 yy kt => ?_) fun l2 H4 ys nl2 a4 el2 hyl hr2 => ?_
    · obtain ⟨rfl, hv⟩ := yy
      obtain ⟨pa, ab, rfl, hab, epa⟩ := hpa.2 j v hv
      refine w_gtup (SqT.of ((a.trans a4).tup _ _ epa)) rfl ?_
      walk_at "aw"
      refine ⟨rfl, ?_⟩
      walk_at "aw"
      refine w_tupD (by show 2 ≤ 100000; decide) fun t H6 nt a6 et => ?_
      exact kt _ _ a6 ⟨t, ab, rfl, hab, et⟩
    · have hr5 : PairsAt H4 ys (rw'.2.2.map swap) := ⟨by rw [hyl, List.length_map, hpa.1], fun i v e => by
        obtain ⟨a, ab, h1, h2, h3⟩ := hr2 i v e
        exact ⟨a, swap ab, h1, by rw [List.getElem?_map, h2]; rfl, h3⟩⟩
      walk_at "aw"
      refine w_sortPP el2 hr5 fun s H7 zs qs ns7 a7 es hqs hzs => ?_
      walk_at "aw"
      refine w_tupL (SqL.of es) fun t H8 nt a8 et => ?_
      walk_at "aw"
      refine w_tupD (by show 3 ≤ 100000; decide) fun p9 H9 np9 a9 ep9 => ?_
      walk_at "aw"
      have a59 := a4.trans (a7.trans (a8.trans a9))
      have er9 := a59.keep _ _ (fun z => nomatch z) er'
      refine w_append er9 (by omega) ?_
      walk_at "aw"
      have kk : TK H9 (upd H9 r (.lst (us ++ [.ref p9]))) := (Adv.lst er9).tup
      refine ⟨_, _, _, us ++ [.ref p9], M ++ [(rw'.2.1, rw'.1, qs)], rfl, (a.trans a59).mut nr er9 (fun _ z => by cases z), upd_same, by rw [List.length_append, hul]; rfl, ?_, ?_⟩
      · exact paired_snoc (L2.Paired.mapP hus fun _ _ z => (z.up a59.tup).up kk) ⟨p9, t, zs, rfl, kk _ _ ep9, kk _ _ (a9.tup _ _ et), (hzs.up (a8.trans a9).tup).up kk⟩
      · rw [List.take_add_one, hr]
        exact paired_snoc hM ⟨rfl, rfl, hqs⟩
  · obtain ⟨y2, y3, y4, us, M, rfl, a, er', hul, hus, hM⟩ := pp
    rw [hrl, List.take_length] at hM
    have hMf : M.map (·.1) = L.map (·.2.1) := by
      apply List.ext_getElem (by rw [List.length_map, List.length_map, hM.length])
      intro i h1 h2
      rw [List.getElem_map, List.getElem_map]
      exact (paired_at hM (List.getElem?_eq_getElem _) (List.getElem?_eq_getElem _)).1
    walk_at "aw"
    refine w_sortTN er' hus (by rw [hMf]; exact hnd) fun s H3 ys M' ns a3 es hM' hys => ?_
    walk_at "aw"
    refine w_tupL (SqL.of es) fun t H4 nt a4 et => ?_
    exact q t M' M H4 (a.trans (a3.trans a4)) ⟨ys, et, L2.Paired.mapP hys fun _ _ z => z.up a4.tup⟩ hM' hM
end AW
namespace AW
open PySem PySem.Spec PyProof.Rows L2 RZ
open StX
local macro_rules | `(tactic| walk_at "aw1") => `(tactic| first
  | (with_reducible refine w_seq ?_) | (with_reducible refine w_asg ?_) | (with_reducible refine w_gname ?_) | (with_reducible refine w_op ?_) | (with_reducible refine w_un ?_)
  | ((with_reducible refine' w_var ?h ?_); (case h => rfl)) | (with_reducible refine w_c ?_)
  | (with_reducible refine w_I0 ?_) | (with_reducible refine w_U ?_) | (with_reducible refine w_cb ?_) | (with_reducible refine w_nil ?_) | (with_reducible refine w_cons ?_) | (with_reducible refine w_call ?_)
  | (with_reducible refine w_test ?_) | (with_reducible refine w_B ?_) | (with_reducible refine w_bl ?_) | (with_reducible refine w_not ?_) | (with_reducible refine w_yes ?_) | (with_reducible refine iteT ?_) | (with_reducible refine iteF ?_) | (with_reducible refine w_and ?_) | (with_reducible refine w_or ?_)
  | (with_reducible refine w_andV ?_) | (with_reducible refine w_orV ?_) | (with_reducible refine w_notV ?_) | (with_reducible refine w_if ?_)
  | (with_reducible refine w_int1 ?_) | (with_reducible refine w_int1b ?_) | (with_reducible refine w_abs ?_) | (with_reducible refine w_max2 ?_) | (with_reducible refine w_min2 ?_)
  | ((with_reducible refine w_eq ?h ?_); (case h => rfl)) | ((with_reducible refine w_ne ?h ?_); (case h => rfl)) | (with_reducible refine w_isN ?_) | (with_reducible refine w_isB ?_) | (with_reducible refine w_chain ?_)
  | (with_reducible refine w_ret ?_) | (with_reducible refine w_drop ?_) | (with_reducible refine w_ifS ?_) | (with_reducible refine w_gsub ?_) | (with_reducible refine w_augS ?_) | (with_reducible refine w_ipI ?_) | (with_reducible refine w_next ?_)
  | (with_reducible refine w_forR ?_) | (with_reducible refine w_forR2 ?_) | (with_reducible refine w_forL ?_) | (with_reducible refine w_forT ?_) | (with_reducible refine w_lcR ?_) | (with_reducible refine w_lcL ?_) | (with_reducible refine w_lcT ?_) | (with_reducible refine w_sl ?_) | (with_reducible refine w_part ?_) | (with_reducible refine w_noPart ?_) | (with_reducible refine w_in ?_)
  | (with_reducible refine w_gcons ?_) | (with_reducible refine w_gnil ?_) | (with_reducible refine w_lc3 ?_) | (with_reducible refine w_dcZ ?_) | (with_reducible refine w_dcT ?_) | (with_reducible refine w_dg ?_) | (with_reducible refine w_callK ?_) | (with_reducible refine w_dput ?_) | (with_reducible refine w_tup1 ?_)
  | (with_reducible refine w_tup ?_) | (with_reducible refine w_lst ?_)
  | ((with_reducible refine w_I ?h ?_); (case h => first | (exact Or.inr ⟨by decide, by decide⟩) | (exact Or.inl ⟨by decide, by decide⟩) | (show (0 : Int) < _; decide) | (exact ⟨by decide, by decide, by decide⟩) | assumption)))
local macro_rules | `(tactic| walk_at "aw") => `(tactic| repeat (walk_at "aw1"))
def tyD : PyData → String
  | .none => "NoneType"
  | .bool _ => "bool"
  | .int _ => "int"
  | .str _ => "str"
  | _ => "tuple"
theorem is_ty {K : PySem.W.Frag} {H : Hp} {D : PyData} {v : V} (h : Is H D v) : TyB K H v (tyD D) := by
  cases h with
  | non => exact .non
  | bl b => exact .bl b
  | int i => exact .int i
  | str x => exact .str x
  | tup e _ => exact .tup (SqT.of e)
theorem meta_ty (D : PyData) : MetaT (tyD D) := by
  apply metaT_of
  cases D <;> simp [tyD]
def rIsTyB : R2 := fun x y H Q => ∃ a b, x = .ty a ∧ y = .ty b ∧ Q (.bl (decide (a = b))) H
theorem op_isTyB1 {X : Cx} : OpR X (compareOp .Is) rIsTyB := op_isTyB
theorem w_typ {K : PySem.W.Frag} {H : Hp} {D : PyData} {v : V} {Q : VK} (h : Is H D v) (q : Q (.ty (tyD D)) H) : rTyp K [v] H Q := ⟨v, _, rfl, is_ty h, q⟩
theorem w_isTy {a b : String} {H : Hp} {Q : VK} (q : Q (.bl (decide (a = b))) H) : rIsTyB (.ty a) (.ty b) H Q := ⟨a, b, rfl, rfl, q⟩
def lenIn (D : PyData) (f m : Int) : Bool := match D with
  | .tuple ds => decide (f ≤ (ds.length : Nat)) && decide (((ds.length : Nat) : Int) ≤ m)
  | _ => false
def sp_is_tuple (_ : PySem.W.Frag) : Sp := fun vs H Q _ => ∃ (v : V) (f m : Int), vs = [v, .int f, .int m] ∧ ∃ D, Is H D v ∧ Q (.bl (lenIn D f m)) H
def t_is_tuple (K : PySem.W.Frag) : TS := (tRet (tAndV (tOp rIsTyB (tCB (rTyp K) (tCons (tVar 0) tNil)) (tC (.ty "tuple"))) (tChain rLeI rLeI (tVar 1) (tCB (rLen1 K) (tCons (tVar 0) tNil)) (tVar 2))))
theorem len_is_tuple {K : PySem.W.Frag} : ∀ (vs : List V) (H : Hp) (Q : VK) (E : XK), sp_is_tuple K vs H Q E → vs.length = 3 := fun vs H Q E h => by
  obtain ⟨_, _, _, rfl, _⟩ := h
  rfl
theorem pure_is_tuple {K : PySem.W.Frag} (vs : List V) (H : Hp) (Q : VK) (E : XK) (h : sp_is_tuple K vs H Q E) : t_is_tuple K { nx := fun _ H' => Q .non H', rt := Q } (start ["value", "fewest", "most"] vs) H := by
  obtain ⟨v, f, m, rfl, D, hD, q⟩ := h
  show t_is_tuple K _ [some v, some (.int f), some (.int m)] H
  unfold t_is_tuple
  walk_at "aw"
  refine w_typ hD ?_
  walk_at "aw"
  refine w_isTy ?_
  walk_at "aw"
  cases hD with
  | tup e t =>
    refine w_iteB (fun _ => ?_) fun h => absurd rfl h
    have hl := t.length
    walk_at "aw"
    refine w_lenT (SqT.of e) ?_
    rw [hl]
    walk_at "aw"
    replace q : Q (.bl (decide (f ≤ (_ : Nat)) && decide (((_ : Nat) : Int) ≤ m))) H := q
    refine w_iteB (fun h1 => ?_) fun h1 => ?_
    · walk_at "aw"
      rw [decide_eq_true h1, Bool.true_and] at q
      exact q
    · rw [decide_eq_false h1, Bool.false_and] at q
      exact q
  | non => exact w_iteB (fun h => absurd h (by simp [tyD])) fun _ => q
  | bl b => exact w_iteB (fun h => absurd h (by simp [tyD])) fun _ => q
  | int i => exact w_iteB (fun h => absurd h (by simp [tyD])) fun _ => q
  | str x => exact w_iteB (fun h => absurd h (by simp [tyD])) fun _ => q
def isiD (D : PyData) (T : String) : Bool := decide (tyD D = T) || (decide (tyD D = "bool") && decide (T = "int"))
theorem w_isiD {K : PySem.W.Frag} {H : Hp} {D : PyData} {v : V} {T : String} {Q : VK} (h : Is H D v) (hT : T ∈ ["tuple", "str", "int", "bool"]) (q : Q (.bl (isiD D T)) H) : rIsi K [v, .ty T] H Q := by
  have key : ∃ t, TyX K H v (.type t) ∧ t = tyD D ∧ t ∈ ["NoneType", "bool", "int", "str", "tuple"] := by
    cases h with
    | non => exact ⟨_, .base .non, rfl, by simp⟩
    | bl b => exact ⟨_, .base (.bl b), rfl, by simp⟩
    | int i => exact ⟨_, .base (.int i), rfl, by simp⟩
    | str x => exact ⟨_, .base (.str x), rfl, by simp⟩
    | tup e _ => exact ⟨_, .base (.tup e), rfl, by simp⟩
  obtain ⟨t, ht, e, hm⟩ := key
  refine w_isi ht (r := isiD D T) ?_ q
  unfold isiD
  rw [← e]
  clear e ht q
  simp only [List.mem_cons, List.not_mem_nil, or_false] at hm hT
  rcases hm with rfl | rfl | rfl | rfl | rfl <;> rcases hT with rfl | rfl | rfl | rfl <;> decide +kernel
end AW
/-! expressions that make data of a bounded depth -/
namespace AW
open PySem PySem.Spec PyProof.Rows L2 RZ
theorem w_slA {K : PySem.W.Frag} {p : Addr} {xs : List V} {lo hi : Option Int} {H : Hp} {Q : VK} (h : H p = some (.tup xs)) (q : ∀ t H', Adv [] H H' → H' t = some (.tup (cutV xs lo hi)) → Q (.ref t) H') : rSlA K (.ref p) lo hi H Q := by
  refine ⟨p, xs, rfl, SqT.of h, fun z => q p H (.refl _ _) ?_, fun _ => w_new fun r H' _ a e => q r H' a e⟩
  rw [h]
  unfold cutV
  rw [z.1, z.2]
  simp
def Nc (d : Nat) (D : PyData) : Prop := D.canLay0 = true ∧ D.depth ≤ d
/-- data of at most d levels, its tuples of at most 60 items -/
inductive Sw : Nat → PyData → Prop where
  | int {k : Nat} (n : Int) : Sw k (.int n)
  | bl {k : Nat} (b : Bool) : Sw k (.bool b)
  | non {k : Nat} : Sw k .none
  | str {k : Nat} {x : Str} (h : okS x) : Sw k (.str x)
  | tup {k : Nat} {ds : List PyData} (l : ds.length ≤ 60) (h : ∀ d ∈ ds, Sw k d) : Sw (k + 1) (.tuple ds)
theorem Sw.mono : ∀ {k : Nat} {D : PyData}, Sw k D → ∀ {e : Nat}, k ≤ e → Sw e D
  | _, _, .int n, _, _ => .int n
  | _, _, .bl b, _, _ => .bl b
  | _, _, .non, _, _ => .non
  | _, _, .str h, _, _ => .str h
  | _, _, .tup l h, 0, z => absurd z (by omega)
  | _, _, .tup l h, e + 1, z => .tup l fun d hd => (h d hd).mono (by omega)
def Dat (d : Nat) (H : Hp) (v : V) : Prop := ∃ D, Is H D v ∧ Sw d D
theorem Dat.up {d : Nat} {H H' : Hp} {v : V} (h : Dat d H v) (k : TK H H') : Dat d H' v := by
  obtain ⟨D, h, n⟩ := h
  exact ⟨D, h.up k, n⟩
theorem Dat.mono {d e : Nat} {H : Hp} {v : V} (h : Dat d H v) (z : d ≤ e) : Dat e H v := by
  obtain ⟨D, h, n⟩ := h
  exact ⟨D, h, n.mono z⟩
theorem Nc.int {d : Nat} (n : Int) : Nc d (.int n) := ⟨rfl, by simp [PyData.depth]⟩
theorem Nc.bl {d : Nat} (b : Bool) : Nc d (.bool b) := ⟨rfl, by simp [PyData.depth]⟩
theorem Nc.non {d : Nat} : Nc d .none := ⟨rfl, by simp [PyData.depth]⟩
theorem Nc.str {d : Nat} {x : Str} (h : okS x) : Nc d (.str x) := ⟨h, by simp [PyData.depth]⟩
theorem nc_all {d : Nat} : ∀ {ds : List PyData}, (∀ x ∈ ds, Nc d x) → PyData.canLayAll0 ds = true ∧ PyData.depthAll ds ≤ d
  | [], _ => ⟨rfl, by simp [PyData.depthAll]⟩
  | x :: ds, h => by
    obtain ⟨h1, h2⟩ := h x (List.mem_cons_self ..)
    obtain ⟨h3, h4⟩ := nc_all (ds := ds) fun y hy => h y (List.mem_cons_of_mem _ hy)
    refine ⟨by simp only [PyData.canLayAll0, h1, h3, Bool.and_self], ?_⟩
    simp only [PyData.depthAll]
    omega
theorem Nc.tup {d : Nat} {ds : List PyData} (h : ∀ x ∈ ds, Nc d x) : Nc (d + 1) (.tuple ds) := by
  obtain ⟨h1, h2⟩ := nc_all h
  exact ⟨h1, by simp only [PyData.depth]; omega⟩
theorem Nc.shaped {d : Nat} {D : PyData} (h : Nc d D) (z : d ≤ 64) : SeqAt.shaped D = true := by
  show (D.canLay0 && decide (D.depth ≤ 64)) = true
  rw [h.1, Bool.true_and]
  exact decide_eq_true (Nat.le_trans h.2 z)
theorem Sw.nc : ∀ {k : Nat} {D : PyData}, Sw k D → Nc k D
  | _, _, .int n => .int n
  | _, _, .bl b => .bl b
  | _, _, .non => .non
  | _, _, .str h => .str h
  | _, _, .tup _ h => .tup fun d hd => (h d hd).nc
def AllDat (d : Nat) (H : Hp) (xs : List V) : Prop := ∀ x ∈ xs, Dat d H x
theorem AllDat.up {d : Nat} {H H' : Hp} {xs : List V} (h : AllDat d H xs) (k : TK H H') : AllDat d H' xs := fun x hx => (h x hx).up k
theorem AllDat.mono {d e : Nat} {H : Hp} {xs : List V} (h : AllDat d H xs) (z : d ≤ e) : AllDat e H xs := fun x hx => (h x hx).mono z
theorem AllDat.is {d : Nat} {H : Hp} : ∀ {xs : List V}, AllDat d H xs → ∃ ds, IsAll H ds xs ∧ ∀ x ∈ ds, Sw d x
  | [], _ => ⟨[], .nil, fun _ h => nomatch h⟩
  | x :: xs, h => by
    obtain ⟨D, hd, hn⟩ := h x (List.mem_cons_self ..)
    obtain ⟨ds, hs, hm⟩ := AllDat.is (xs := xs) fun y hy => h y (List.mem_cons_of_mem _ hy)
    exact ⟨D :: ds, .cons hd hs, fun y hy => by
      rcases List.mem_cons.mp hy with rfl | hy
      · exact hn
      · exact hm y hy⟩
theorem Dat.tup {d : Nat} {H : Hp} {a : Addr} {xs : List V} (e : H a = some (.tup xs)) (h : AllDat d H xs) (hl : xs.length ≤ 60) : Dat (d + 1) H (.ref a) := by
  obtain ⟨ds, hs, hn⟩ := h.is
  exact ⟨.tuple ds, .tup e hs, .tup (by rw [← hs.length]; exact hl) hn⟩
section
variable {K : PySem.W.Frag} {σ : L2.St} {H : Hp} {te tf : TE} {ta : TA} {n m d e : Nat}
/-- a whole number comes out -/
def IE (te : TE) (σ : L2.St) (H : Hp) : Prop := ∀ (H' : Hp) (Q : VK), Adv [] H H' → (∀ (k : Int) H'', Adv [] H' H'' → Q (.int k) H'') → te σ H' Q
/-- a datum of at most d levels comes out -/
def DE (d : Nat) (te : TE) (σ : L2.St) (H : Hp) : Prop := ∀ (H' : Hp) (Q : VK), Adv [] H H' → (∀ v H'', Adv [] H' H'' → Dat d H'' v → Q v H'') → te σ H' Q
/-- a tuple of at most n data comes out -/
def TT' (d n : Nat) (te : TE) (σ : L2.St) (H : Hp) : Prop := ∀ (H' : Hp) (Q : VK), Adv [] H H' → (∀ a xs H'', Adv [] H' H'' → H'' a = some (.tup xs) → AllDat d H'' xs → xs.length ≤ n → Q (.ref a) H'') → te σ H' Q
theorem IE.de (h : IE te σ H) : DE d te σ H := fun H' Q a q => h H' Q a fun k H'' a' => q _ H'' a' ⟨_, .int k, .int k⟩
theorem TT'.de (h : TT' d n te σ H) (hn : n ≤ 60) : DE (d + 1) te σ H := fun H' Q a q => h H' Q a fun p xs H'' a' e dd hl => q _ H'' a' (.tup e dd (Nat.le_trans hl hn))
theorem DE.mono (h : DE d te σ H) (z : d ≤ e) : DE e te σ H := fun H' Q a q => h H' Q a fun v H'' a' dd => q v H'' a' (dd.mono z)
theorem TT'.mono (h : TT' d n te σ H) (z : d ≤ e) : TT' e n te σ H := fun H' Q a q => h H' Q a fun p xs H'' a' ee dd l => q p xs H'' a' ee (dd.mono z) l
theorem cut_mem {xs : List V} {lo hi : Option Int} {x : V} (h : x ∈ cutV xs lo hi) : x ∈ xs := List.mem_of_mem_drop (List.mem_of_mem_take h)
/-- a text of at most n signs comes out -/
def SE (n : Nat) (te : TE) (σ : L2.St) (H : Hp) : Prop := ∀ (H' : Hp) (Q : VK), Adv [] H H' → (∀ (x : Str) H'', Adv [] H' H'' → okS x → x.length ≤ n → Q (.str x) H'') → te σ H' Q
theorem SE.de (h : SE n te σ H) : DE d te σ H := fun H' Q a q => h H' Q a fun x H'' a' ok _ => q _ H'' a' ⟨_, .str x, .str ok⟩
end
end AW
namespace AW
open PySem PySem.Spec PyProof.Rows L2 RZ
open StX
local macro_rules | `(tactic| walk_at "aw1") => `(tactic| first
  | (with_reducible refine w_seq ?_) | (with_reducible refine w_asg ?_) | (with_reducible refine w_gname ?_) | (with_reducible refine w_op ?_) | (with_reducible refine w_un ?_)
  | ((with_reducible refine' w_var ?h ?_); (case h => rfl)) | (with_reducible refine w_c ?_)
  | (with_reducible refine w_I0 ?_) | (with_reducible refine w_U ?_) | (with_reducible refine w_cb ?_) | (with_reducible refine w_nil ?_) | (with_reducible refine w_cons ?_) | (with_reducible refine w_call ?_)
  | (with_reducible refine w_test ?_) | (with_reducible refine w_B ?_) | (with_reducible refine w_bl ?_) | (with_reducible refine w_not ?_) | (with_reducible refine w_yes ?_) | (with_reducible refine iteT ?_) | (with_reducible refine iteF ?_) | (with_reducible refine w_and ?_) | (with_reducible refine w_or ?_)
  | (with_reducible refine w_andV ?_) | (with_reducible refine w_orV ?_) | (with_reducible refine w_notV ?_) | (with_reducible refine w_if ?_)
  | (with_reducible refine w_int1 ?_) | (with_reducible refine w_int1b ?_) | (with_reducible refine w_abs ?_) | (with_reducible refine w_max2 ?_) | (with_reducible refine w_min2 ?_)
  | ((with_reducible refine w_eq ?h ?_); (case h => rfl)) | ((with_reducible refine w_ne ?h ?_); (case h => rfl)) | (with_reducible refine w_isN ?_) | (with_reducible refine w_isB ?_) | (with_reducible refine w_chain ?_)
  | (with_reducible refine w_ret ?_) | (with_reducible refine w_drop ?_) | (with_reducible refine w_ifS ?_) | (with_reducible refine w_gsub ?_) | (with_reducible refine w_augS ?_) | (with_reducible refine w_ipI ?_) | (with_reducible refine w_next ?_)
  | (with_reducible refine w_forR ?_) | (with_reducible refine w_forR2 ?_) | (with_reducible refine w_forL ?_) | (with_reducible refine w_forT ?_) | (with_reducible refine w_lcR ?_) | (with_reducible refine w_lcL ?_) | (with_reducible refine w_lcT ?_) | (with_reducible refine w_sl ?_) | (with_reducible refine w_part ?_) | (with_reducible refine w_noPart ?_) | (with_reducible refine w_in ?_)
  | (with_reducible refine w_gcons ?_) | (with_reducible refine w_gnil ?_) | (with_reducible refine w_lc3 ?_) | (with_reducible refine w_dcZ ?_) | (with_reducible refine w_dcT ?_) | (with_reducible refine w_dg ?_) | (with_reducible refine w_callK ?_) | (with_reducible refine w_dput ?_) | (with_reducible refine w_tup1 ?_)
  | (with_reducible refine w_tup ?_) | (with_reducible refine w_lst ?_)
  | ((with_reducible refine w_I ?h ?_); (case h => first | (exact Or.inr ⟨by decide, by decide⟩) | (exact Or.inl ⟨by decide, by decide⟩) | (show (0 : Int) < _; decide) | (exact ⟨by decide, by decide, by decide⟩) | assumption)))
local macro_rules | `(tactic| walk_at "aw") => `(tactic| repeat (walk_at "aw1"))
def rNTyB : R2 := fun x y H Q => ∃ a b, x = .ty a ∧ y = .ty b ∧ Q (.bl (!decide (a = b))) H
theorem op_nTyB1 {X : Cx} : OpR X (compareOp .IsNot) rNTyB := op_isNotTy
def nameIn (names : List Str) (D : PyData) : Bool := match D with
  | .str x => decide (x ∈ names)
  | _ => false
def ltS (x y : Str) : Prop := x.cps.toList < y.cps.toList
instance (x y : Str) : Decidable (ltS x y) := by unfold ltS; infer_instance
def ascB (xs : List Str) : Bool := ((List.range (xs.length - 1)).map fun k => decide (ltS (xs.getD k Str.empty) (xs.getD (k + 1) Str.empty))).all id
def txtD (D : PyData) : Str := match D with
  | .str x => x
  | _ => Str.empty
def fstS (D : PyData) : Str := match D with
  | .tuple (d :: _) => txtD d
  | _ => Str.empty
def sndS (D : PyData) : Str := match D with
  | .tuple (_ :: d :: _) => txtD d
  | _ => Str.empty
def prB : PyData → Bool
  | .tuple [.int _, .int _] => true
  | _ => false
def prI : PyData → Int × Int
  | .tuple [.int a, .int b] => (a, b)
  | _ => (0, 0)
def domF (doms : List (Str × List Int)) (x : Str) : List Int := ((doms.find? fun d => decide (d.1 = x)).map (·.2)).getD []
def ldsB (dx dy : List Int) (P : PyData) : Bool := match P with
  | .tuple ps => ps.all prB && (decide (ps.map (fun p => (prI p).1) = dx) && decide ((ps.map fun p => (prI p).2).Perm dy))
  | _ => false
def ledB (doms : List (Str × List Int)) (D : PyData) : Bool := match D with
  | .tuple [a, b, P] => nameIn (doms.map (·.1)) a && (nameIn (doms.map (·.1)) b && ldsB (domF doms (txtD a)) (domF doms (txtD b)) P)
  | _ => false
def exB (doms : List (Str × List Int)) (D : PyData) : Bool := match D with
  | .tuple ws => ws.all (ledB doms) && (ascB (ws.map fstS) && decide ((ws.map sndS).Perm (ws.map fstS)))
  | _ => false
/-- the dict at d tells the domains -/
def DomD (H : Hp) (d : Addr) (doms : List (Str × List Int)) : Prop := ∃ kd, H d = some (.dK kd) ∧ Paired (DomAt H) doms kd
theorem DomD.up {H H' : Hp} {d : Addr} {doms : List (Str × List Int)} (h : DomD H d doms) (a : Adv [] H H') : DomD H' d doms := by
  obtain ⟨kd, h1, h2⟩ := h
  exact ⟨kd, a.keep _ _ (fun z => nomatch z) h1, dom_up h2 a.tup⟩
theorem domF_mem {doms : List (Str × List Int)} (nd : (doms.map (·.1)).Nodup) {x : Str} (hx : x ∈ doms.map (·.1)) : (x, domF doms x) ∈ doms := by
  induction doms with
  | nil => simp at hx
  | cons d doms ih =>
    rw [List.map_cons, List.nodup_cons] at nd
    unfold domF
    by_cases e : d.1 = x
    · rw [List.find?_cons_of_pos (by rw [e]; exact decide_eq_true rfl), ← e]
      exact List.mem_cons_self ..
    · rw [List.find?_cons_of_neg (by rw [decide_eq_true_iff]; exact e)]
      rcases List.mem_cons.mp hx with h | h
      · exact absurd h.symm e
      · exact List.mem_cons_of_mem _ (ih nd.2 h)
theorem dom_is {H : Hp} : ∀ {doms : List (Str × List Int)} {kd : List (Key × V)}, Paired (DomAt H) doms kd → ∀ x : Str, (valV kd (Sum.inr x)).isSome = decide (x ∈ doms.map (·.1))
  | _, _, .nil, x => by simp [valV]
  | d :: doms, kv :: kd, .cons a t, x => by
    rw [List.map_cons]
    obtain ⟨k0, v0⟩ := kv
    have ha : k0 = .inr d.1 := a.1
    subst ha
    by_cases e : d.1 = x
    · rw [valV_pos (by rw [e])]
      simp [e]
    · rw [valV_neg fun z => e (Sum.inr.inj z), dom_is t x]
      rw [Bool.eq_iff_iff, decide_eq_true_iff, decide_eq_true_iff, List.mem_cons]
      constructor
      · exact .inr
      · rintro (z | z)
        · exact absurd z.symm e
        · exact z
theorem DomD.get {H : Hp} {d : Addr} {doms : List (Str × List Int)} (h : DomD H d doms) (nd : (doms.map (·.1)).Nodup) {x : Str} (hx : x ∈ doms.map (·.1)) : ∃ kd q, H d = some (.dK kd) ∧ valV kd (.inr x) = some (.ref q) ∧ H q = some (.tup ((domF doms x).map V.int)) := by
  obtain ⟨kd, h1, h2⟩ := h
  obtain ⟨q, h3, h4⟩ := dom_get h2 nd _ (domF_mem nd hx)
  exact ⟨kd, q, h1, h3, h4⟩
theorem DomD.has {H : Hp} {d : Addr} {doms : List (Str × List Int)} (h : DomD H d doms) (x : Str) : ∃ kd, H d = some (.dK kd) ∧ (valV kd (Sum.inr x)).isSome = decide (x ∈ doms.map (·.1)) := by
  obtain ⟨kd, h1, h2⟩ := h
  exact ⟨kd, h1, dom_is h2 x⟩
theorem eqv_ints : ∀ xs ys : List Int, PyData.eqvAll (xs.map .int) (ys.map .int) = decide (xs = ys)
  | [], [] => by simp [PyData.eqvAll]
  | [], y :: ys => by simp [PyData.eqvAll]
  | x :: xs, [] => by simp [PyData.eqvAll]
  | x :: xs, y :: ys => by
    rw [List.map_cons, List.map_cons, PyData.eqvAll, eqv_ints xs ys, PyData.eqv, Bool.eq_iff_iff]
    simp
theorem eqv_strs : ∀ xs ys : List Str, PyData.eqvAll (xs.map .str) (ys.map .str) = decide (xs = ys)
  | [], [] => by simp [PyData.eqvAll]
  | [], y :: ys => by simp [PyData.eqvAll]
  | x :: xs, [] => by simp [PyData.eqvAll]
  | x :: xs, y :: ys => by
    rw [List.map_cons, List.map_cons, PyData.eqvAll, eqv_strs xs ys, PyData.eqv, Bool.eq_iff_iff]
    simp
theorem is_ints {H : Hp} : ∀ ns : List Int, IsAll H (ns.map .int) (ns.map V.int)
  | [] => .nil
  | n :: ns => .cons (.int n) (is_ints ns)
theorem is_strs {H : Hp} : ∀ ns : List Str, IsAll H (ns.map .str) (ns.map V.str)
  | [] => .nil
  | n :: ns => .cons (.str n) (is_strs ns)
theorem nc_ints (ns : List Int) : Nc 1 (.tuple (ns.map .int)) := .tup fun x hx => by
  obtain ⟨n, _, rfl⟩ := List.mem_map.mp hx
  exact .int n
theorem nc_strs {ns : List Str} (h : ∀ x ∈ ns, okS x) : SeqAt.shaped (.list (ns.map .str)) = true := by
  have hn : Nc 1 (.tuple (ns.map .str)) := .tup fun x hx => by
    obtain ⟨n, hn, rfl⟩ := List.mem_map.mp hx
    exact .str (h n hn)
  obtain ⟨h1, h2⟩ := hn
  show ((PyData.list (ns.map .str)).canLay0 && decide ((PyData.list (ns.map .str)).depth ≤ 64)) = true
  rw [show (PyData.list (ns.map .str)).canLay0 = true from h1, Bool.true_and]
  refine decide_eq_true ?_
  simp only [PyData.depth] at h2 ⊢
  omega
theorem w_eqI {K : PySem.W.Frag} {H : Hp} {a b : Addr} {xs ys : List Int} {Q : VK} (e1 : SqT K H a (xs.map V.int)) (e2 : H b = some (.tup (ys.map V.int))) (q : Q (.bl (decide (xs = ys))) H) : rEqD K (.ref a) (.ref b) H Q := by
  refine ⟨.tuple (xs.map .int), .tuple (ys.map .int), .tup e1 (is_ints xs).dp, .tup (SqT.of e2) (is_ints ys).dp, (nc_ints xs).shaped (by decide), (nc_ints ys).shaped (by decide), ?_⟩
  rw [show PyData.eqv (.tuple (xs.map .int)) (.tuple (ys.map .int)) = PyData.eqvAll (xs.map .int) (ys.map .int) by simp only [PyData.eqv], eqv_ints]
  exact q
theorem w_eqLS {K : PySem.W.Frag} {H : Hp} {a b : Addr} {xs ys : List Str} {Q : VK} (e1 : H a = some (.lst (xs.map V.str))) (e2 : H b = some (.lst (ys.map V.str))) (h1 : ∀ x ∈ xs, okS x) (h2 : ∀ x ∈ ys, okS x) (q : Q (.bl (decide (xs = ys))) H) : rEqD K (.ref a) (.ref b) H Q := by
  refine ⟨.list (xs.map .str), .list (ys.map .str), .lst (SqL.of e1) (is_strs xs).dp, .lst (SqL.of e2) (is_strs ys).dp, nc_strs h1, nc_strs h2, ?_⟩
  rw [show PyData.eqv (.list (xs.map .str)) (.list (ys.map .str)) = PyData.eqvAll (xs.map .str) (ys.map .str) by simp only [PyData.eqv], eqv_strs]
  exact q
theorem sortI_eq {ns ns' dy : List Int} (hp : ns'.Perm ns) (hs : ns'.Pairwise (· ≤ ·)) (hd : dy.Pairwise (· < ·)) : decide (ns' = dy) = decide (ns.Perm dy) := by
  rw [Bool.eq_iff_iff, decide_eq_true_iff, decide_eq_true_iff]
  constructor
  · intro h
    rw [← h]
    exact hp.symm
  · intro h
    exact (hp.trans h).eq_of_pairwise (le := (· ≤ ·)) (fun a b _ _ h1 h2 => Int.le_antisymm h1 h2) hs (hd.imp fun {a b} z => Int.le_of_lt z)
theorem asc_iff {xs : List Str} : ascB xs = true ↔ ∀ k, k + 1 < xs.length → ltS (xs.getD k Str.empty) (xs.getD (k + 1) Str.empty) := by
  unfold ascB
  rw [List.all_map, List.all_eq_true]
  constructor
  · intro h k hk
    have := h k (List.mem_range.mpr (by omega))
    exact of_decide_eq_true this
  · intro h k hk
    exact decide_eq_true (h k (by have := List.mem_range.mp hk; omega))
theorem asc_at {xs : List Str} (h : ascB xs = true) : ∀ (j i : Nat), i < j → j < xs.length → ltS (xs.getD i Str.empty) (xs.getD j Str.empty)
  | 0, i, h1, _ => absurd h1 (by omega)
  | j + 1, i, h1, h2 => by
    have hl := asc_iff.mp h j h2
    by_cases e : i = j
    · rw [e]; exact hl
    · exact List.lt_trans (asc_at h j i (by omega) (by omega)) hl
theorem asc_pw {xs : List Str} (h : ascB xs = true) : xs.Pairwise ltS := by
  rw [List.pairwise_iff_getElem]
  intro i j hi hj hij
  have := asc_at h j i hij hj
  rwa [getD_of (List.getElem?_eq_getElem hi), getD_of (List.getElem?_eq_getElem hj)] at this
theorem sortS_eq {ns ns' xs : List Str} (hp : ns'.Perm ns) (hs : sortedS ns' = true) (ha : ascB xs = true) : decide (ns' = xs) = decide (ns.Perm xs) := by
  rw [Bool.eq_iff_iff, decide_eq_true_iff, decide_eq_true_iff]
  constructor
  · intro h
    rw [← h]
    exact hp.symm
  · intro h
    refine (hp.trans h).eq_of_pairwise (le := fun a b : Str => ¬ b.cps.toList < a.cps.toList) (fun a b _ _ h1 h2 => cps_inj (List.le_antisymm (List.not_lt.mp h1) (List.not_lt.mp h2))) (sorted_pw hs) ((asc_pw ha).imp fun {a b} z y => List.lt_asymm z y)
def flatD (D : PyData) : Bool := decide (tyD D = "str") || decide (tyD D = "int")
def flatIn (D : PyData) (f m : Int) : Bool := lenIn D f m && match D with
  | .tuple ds => ds.all flatD
  | _ => false
def sp_is_flat (_ : PySem.W.Frag) : Sp := fun vs H Q _ => ∃ (v : V) (f m : Int), vs = [v, .int f, .int m] ∧ ∃ D, Is H D v ∧ m ≤ 1000 ∧ ∀ H', Adv [] H H' → Q (.bl (flatIn D f m)) H'
def sp_ascends (_ : PySem.W.Frag) : Sp := fun vs H Q _ => ∃ (l : Addr), vs = [.ref l] ∧ ∃ xs : List Str, H l = some (.lst (xs.map V.str)) ∧ xs.length ≤ 1000 ∧ ∀ H', Adv [] H H' → Q (.bl (ascB xs)) H'
def sp_is_unknown (_ : PySem.W.Frag) : Sp := fun vs H Q _ => ∃ (d : Addr) (v : V), vs = [.ref d, v] ∧ ∃ doms D, DomD H d doms ∧ Is H D v ∧ Q (.bl (nameIn (doms.map (·.1)) D)) H
def sp__is_number_pair (_ : PySem.W.Frag) : Sp := fun vs H Q _ => ∃ (v : V), vs = [v] ∧ ∃ D, Is H D v ∧ ∀ H', Adv [] H H' → Q (.bl (prB D)) H'
def sp__is_led (_ : PySem.W.Frag) : Sp := fun vs H Q _ => ∃ (d : Addr) (v : V), vs = [.ref d, v] ∧ ∃ doms D n, DomD H d doms ∧ MdlOk doms ∧ Is H D v ∧ Sw n D ∧ n ≤ 60 ∧ ∀ H', Adv [] H H' → Q (.bl (ledB doms D)) H'
def sp_check_exchange (_ : PySem.W.Frag) : Sp := fun vs H Q _ => ∃ (m v : V), vs = [m, v] ∧ ∃ doms D n, MdlAt H m doms ∧ MdlOk doms ∧ Is H D v ∧ Sw n D ∧ n ≤ 60 ∧ ∀ H', Adv [] H H' → Q (.bl (exB doms D)) H'
theorem iteT'' {c : Bool} {A B : Prop} (h : c = true) (a : A) : if c = true then A else B := by rw [if_pos h]; exact a
theorem iteF'' {c : Bool} {A B : Prop} (h : c = false) (a : B) : if c = true then A else B := by rw [if_neg (by rw [h]; decide)]; exact a
def t_is_flat (K : PySem.W.Frag) : TS := (tRet (tAndV (tCall (sp_is_tuple K) [] E0 (tCons (tVar 0) (tCons (tVar 1) (tCons (tVar 2) tNil)))) (tCB (rAll K) (tCons (tLc (iTup K (tVar 0)) (gName 3) tYes (tOp (rInTy K) (tCB (rTyp K) (tCons (tVar 3) tNil)) (tTup (tCons (tC (.ty "str")) (tCons (tC (.ty "int")) tNil)))) [3]) tNil))))
def t_ascends (K : PySem.W.Frag) : TS := (tRet (tCB (rAll K) (tCons (tLc (iRng1 (tCons (tOp rSubI (tCB (rLen1 K) (tCons (tVar 0) tNil)) (tC (.int 1))) tNil)) (gName 1) tYes (tOp rLtS (tOp (rIxL K) (tVar 0) (tVar 1)) (tOp (rIxL K) (tVar 0) (tOp rAddI (tVar 1) (tC (.int 1))))) [1]) tNil)))
def t_is_unknown (K : PySem.W.Frag) : TS := (tRet (tAndV (tOp rIsTyB (tCB (rTyp K) (tCons (tVar 1) tNil)) (tC (.ty "str"))) (tDIn (tVar 1) (tVar 0))))
def t__is_number_pair (K : PySem.W.Frag) : TS := (tRet (tAndV (tCall (sp_is_flat K) [] E0 (tCons (tVar 0) (tCons (tC (.int 2)) (tCons (tC (.int 2)) tNil)))) (tAndV (tOp rIsTyB (tCB (rTyp K) (tCons (tOp (rIxT K) (tVar 0) (tC (.int 0))) tNil)) (tC (.ty "int"))) (tOp rIsTyB (tCB (rTyp K) (tCons (tOp (rIxT K) (tVar 0) (tC (.int 1))) tNil)) (tC (.ty "int"))))))
def t__is_led (K : PySem.W.Frag) : TS := (tSeq (tIfS (tOr (tNot (tB (tCall (sp_is_tuple K) [] E0 (tCons (tVar 1) (tCons (tC (.int 3)) (tCons (tC (.int 3)) tNil)))))) (tOr (tNot (tB (tCall (sp_is_unknown K) [] E0 (tCons (tVar 0) (tCons (tOp (rIxT K) (tVar 1) (tC (.int 0))) tNil))))) (tNot (tB (tCall (sp_is_unknown K) [] E0 (tCons (tVar 0) (tCons (tOp (rIxT K) (tVar 1) (tC (.int 1))) tNil))))))) (tRet (tC (.bl false))) tNext)
  (tSeq (tAsg (tVar 1) (gTup K 3 (gCons (gName 2) (gCons (gName 3) (gCons (gName 4) gNil)))))
  (tSeq (tAsg (tCB (rLen1 K) (tCons (tDGet (tVar 0) (tVar 2)) tNil)) (gName 5))
  (tSeq (tIfS (tOr (tNot (tB (tCall (sp_is_tuple K) [] E0 (tCons (tVar 4) (tCons (tVar 5) (tCons (tVar 5) tNil)))))) (tNot (tB (tCB (rAll K) (tCons (tLc (iTup K (tVar 4)) (gName 6) tYes (tCall (sp__is_number_pair K) [] E0 (tCons (tVar 6) tNil)) [6]) tNil))))) (tRet (tC (.bl false))) tNext)
  (tRet (tAndV (tOp (rEqD K) (tThen (tLc (iTup K (tVar 4)) (gTup K 2 (gCons (gName 7) (gCons (gName 8) gNil))) tYes (tVar 7) [7, 8]) (kTup K)) (tDGet (tVar 0) (tVar 2))) (tOp (rEqD K) (tThen (tCB (rSortedI K) (tCons (tLc (iTup K (tVar 4)) (gTup K 2 (gCons (gName 7) (gCons (gName 8) gNil))) tYes (tVar 8) [7, 8]) tNil)) (kTup K)) (tDGet (tVar 0) (tVar 3)))))))))
def t_check_exchange (K : PySem.W.Frag) : TS := (tSeq (tAsg (tCall (sp_domains_of K) [] E0 (tCons (tVar 0) tNil)) (gName 2))
  (tSeq (tIfS (tOr (tTest (tOp rNTyB (tCB (rTyp K) (tCons (tVar 1) tNil)) (tC (.ty "tuple")))) (tNot (tB (tCB (rAll K) (tCons (tLc (iTup K (tVar 1)) (gName 3) tYes (tCall (sp__is_led K) [] E0 (tCons (tVar 2) (tCons (tVar 3) tNil))) [3]) tNil))))) (tRet (tC (.bl false))) tNext)
  (tSeq (tAsg (tLc (iTup K (tVar 1)) (gTup K 3 (gCons (gName 5) (gCons (gName 6) (gCons (gName 7) gNil)))) tYes (tVar 5) [5, 6, 7]) (gName 4))
  (tRet (tAndV (tCall (sp_ascends K) [] E0 (tCons (tVar 4) tNil)) (tOp (rEqD K) (tCB (rSortedS K) (tCons (tLc (iTup K (tVar 1)) (gTup K 3 (gCons (gName 5) (gCons (gName 6) (gCons (gName 7) gNil)))) tYes (tVar 6) [5, 6, 7]) tNil)) (tVar 4)))))))
theorem kLcR_sub {g : TG} {tt : TT} {te : TE} {vs : List Nat} {σ : L2.St} {Q : VK} {H1 : Hp} {n : Nat} {z : Int} (hz0 : z.toNat = n ∧ -1000 ≤ z ∧ z ≤ 100000) (hn : n ≤ 100000) (B : Nat → Bool) (v : Nat → V)
    (step : ∀ i H (Kt : V → Hp → Prop) (Kf : Hp → Prop), i < n → Adv [] H1 H → (B i = true → ∀ H4, Adv [] H H4 → Kt (v i) H4) → (B i = false → ∀ H3, Adv [] H H3 → Kf H3) →
      g (.int (i : Nat)) (wipe σ vs) H fun σ2 H2 => wipe σ2 vs = wipe σ vs ∧ tt σ2 H2 fun b H3 => if b = true then te σ2 H3 Kt else Kf H3)
    (k : ∀ p H', H1 p = none → Adv [] H1 H' → H' p = some (.lst (((List.range n).filter B).map v)) → Q (.ref p) H') : kLcR g tt te vs σ Q [.int z] H1 := by
  obtain ⟨hz, _, _⟩ := hz0
  refine ⟨z, rfl, by omega, by omega, ?_⟩
  rw [hz]
  refine kLc_pure walk_range hn (fun _ _ => trivial) B v (fun i x H H' Kt Kf hi g1 y kt kf => ?_) k
  obtain ⟨rfl, rfl⟩ := y
  show g (.int ((0 : Int) + (i : Nat))) _ _ _
  rw [Int.zero_add]
  exact step i H' Kt Kf hi g1 kt kf
theorem w_inTy {K : PySem.W.Frag} {H : Hp} {p : Addr} {T : String} {Ts : List String} {Q : VK} (h : H p = some (.tup (Ts.map V.ty))) (hT : MetaT T) (hTs : ∀ U ∈ Ts, MetaT U) (q : Q (.bl (decide (T ∈ Ts))) H) : rInTy K (.ty T) (.ref p) H Q := ⟨p, T, Ts, rfl, rfl, h, hT, hTs, q⟩
theorem bls_map {n : Nat} (f : Nat → Bool) : ((List.range n).filter fun _ => true).map (fun i => V.bl (f i)) = ((List.range n).map f).map V.bl := by
  rw [filter_true, List.map_map]
  rfl
theorem all_range {α : Type} (xs : List α) (f : α → Bool) (d : α) : ((List.range xs.length).map fun i => f (xs.getD i d)).all id = xs.all f := by
  rw [List.all_map, Bool.eq_iff_iff, List.all_eq_true, List.all_eq_true]
  constructor
  · intro h x hx
    obtain ⟨i, hi, rfl⟩ := List.mem_iff_getElem.mp hx
    have := h i (List.mem_range.mpr hi)
    show f xs[i] = true
    rw [← getD_of (d := d) (List.getElem?_eq_getElem hi)]
    exact this
  · intro h i hi
    have hi := List.mem_range.mp hi
    show f (xs.getD i d) = true
    rw [getD_of (List.getElem?_eq_getElem hi)]
    exact h _ (List.getElem_mem hi)
theorem len_is_flat {K : PySem.W.Frag} : ∀ (vs : List V) (H : Hp) (Q : VK) (E : XK), sp_is_flat K vs H Q E → vs.length = 3 := fun vs H Q E h => by
  obtain ⟨_, _, _, rfl, _⟩ := h
  rfl
theorem pure_is_flat {K : PySem.W.Frag} (vs : List V) (H : Hp) (Q : VK) (E : XK) (h : sp_is_flat K vs H Q E) : t_is_flat K { nx := fun _ H' => Q .non H', rt := Q } (start ["value", "fewest", "most", "item"] vs) H := by
  obtain ⟨v, f, m, rfl, D, hD, hm, q⟩ := h
  show t_is_flat K _ [some v, some (.int f), some (.int m), none] H
  unfold t_is_flat
  walk_at "aw"
  refine ⟨v, f, m, rfl, D, hD, ?_⟩
  walk_at "aw"
  by_cases hl : lenIn D f m = true
  · rw [if_pos hl]
    have hD' := hD
    cases hD with
    | @tup a xs ds e t =>
      have hxl := t.length
      have hds : ds.length ≤ 1000 := by
        have : (decide (f ≤ (ds.length : Nat)) && decide (((ds.length : Nat) : Int) ≤ m)) = true := hl
        rw [Bool.and_eq_true, decide_eq_true_iff, decide_eq_true_iff] at this
        omega
      walk_at "aw"
      refine ⟨a, rfl, ⟨_, SqT.of e⟩, kLc_pure (walk_tup (xs := xs)) (by omega) (fun H' g => SqT.of (g.tup _ _ e)) (fun _ => true) (fun i => .bl (flatD (ds.getD i .none))) (fun i x H2 H3 Kt Kf hi g2 y kt kf => ?_) fun l H1 np g1 el => ?_⟩
      · obtain ⟨rfl, y1⟩ := y
        obtain ⟨dt, z1, hdt⟩ := t.get y1
        rw [getD_of z1] at kt
        walk_at "aw"
        refine ⟨rfl, ?_⟩
        walk_at "aw"
        refine w_typ (hdt.up g2.tup) ?_
        walk_at "aw"
        refine w_tupD (by show 2 ≤ 100000; decide) fun u H4 nu a4 eu => ?_
        walk_at "aw"
        refine w_inTy (Ts := ["str", "int"]) eu (meta_ty dt) (fun U hU => metaT_of (by simp at hU; rcases hU with rfl | rfl <;> simp)) ?_
        have := kt rfl H4 a4
        rwa [show flatD dt = decide (tyD dt ∈ ["str", "int"]) by unfold flatD; rw [Bool.eq_iff_iff]; simp] at this
      rw [bls_map fun i => flatD (ds.getD i .none), hxl] at el
      walk_at "aw"
      refine ⟨l, _, rfl, SqL.of el, ?_⟩
      rw [all_range]
      have q1 := q H1 g1
      unfold flatIn at q1
      rw [hl, Bool.true_and] at q1
      exact q1
    | non => cases hl
    | bl b => cases hl
    | int i => cases hl
    | str x => cases hl
  · rw [if_neg hl]
    have q1 := q H (Adv.refl _ _)
    unfold flatIn at q1
    rw [(Bool.not_eq_true _).mp hl, Bool.false_and] at q1
    exact q1
theorem len_ascends {K : PySem.W.Frag} : ∀ (vs : List V) (H : Hp) (Q : VK) (E : XK), sp_ascends K vs H Q E → vs.length = 1 := fun vs H Q E h => by
  obtain ⟨_, rfl, _⟩ := h
  rfl
theorem pure_ascends {K : PySem.W.Frag} (vs : List V) (H : Hp) (Q : VK) (E : XK) (h : sp_ascends K vs H Q E) : t_ascends K { nx := fun _ H' => Q .non H', rt := Q } (start ["items", "k"] vs) H := by
  obtain ⟨l, rfl, xs, e, hl, q⟩ := h
  show t_ascends K _ [some (.ref l), none] H
  unfold t_ascends
  walk_at "aw"
  refine w_lenL (SqL.of e) ?_
  rw [List.length_map]
  walk_at "aw"
  refine kLcR_sub (n := xs.length - 1) (z := ((xs.length : Nat) : Int) - 1) (by omega) (by omega) (fun _ => true) (fun i => .bl (decide (ltS (xs.getD i Str.empty) (xs.getD (i + 1) Str.empty)))) (fun i H3 Kt Kf hi g2 kt kf => ?_) fun l2 H1 nl g1 el => ?_
  · walk_at "aw"
    refine ⟨rfl, ?_⟩
    walk_at "aw"
    have e3 := g2.keep _ _ (fun z => nomatch z) e
    refine w_ixL (SqL.of e3) (v := .str (xs.getD i Str.empty)) (at_of (j := i) (by omega) (by rw [List.getElem?_map, List.getElem?_eq_getElem (show i < xs.length by omega), List.getD_eq_getElem?_getD, List.getElem?_eq_getElem (show i < xs.length by omega)]; rfl)) ?_
    walk_at "aw"
    refine w_ixL (SqL.of e3) (v := .str (xs.getD (i + 1) Str.empty)) (at_of (j := i + 1) (by omega) (by rw [List.getElem?_map, List.getElem?_eq_getElem (show i + 1 < xs.length by omega), List.getD_eq_getElem?_getD, List.getElem?_eq_getElem (show i + 1 < xs.length by omega)]; rfl)) ?_
    exact ⟨_, _, rfl, rfl, kt rfl H3 (.refl _ _)⟩
  · rw [bls_map] at el
    walk_at "aw"
    exact ⟨l2, _, rfl, SqL.of el, q H1 g1⟩
theorem len_is_unknown {K : PySem.W.Frag} : ∀ (vs : List V) (H : Hp) (Q : VK) (E : XK), sp_is_unknown K vs H Q E → vs.length = 2 := fun vs H Q E h => by
  obtain ⟨_, _, rfl, _⟩ := h
  rfl
def kDIn (x y : V) (H : Hp) (Q : VK) : Prop := ∃ a o, x = .ref a ∧ DGet H a y o ∧ Q (.bl o.isSome) H
theorem w_din {ty td : TE} {σ : L2.St} {H : Hp} {Q : VK} (h : ty σ H fun y H1 => td σ H1 fun x H2 => kDIn x y H2 Q) : tDIn ty td σ H Q := h
theorem pure_is_unknown {K : PySem.W.Frag} (vs : List V) (H : Hp) (Q : VK) (E : XK) (h : sp_is_unknown K vs H Q E) : t_is_unknown K { nx := fun _ H' => Q .non H', rt := Q } (start ["domains", "value"] vs) H := by
  obtain ⟨d, v, rfl, doms, D, hd, hD, q⟩ := h
  show t_is_unknown K _ [some (.ref d), some v] H
  unfold t_is_unknown
  walk_at "aw"
  refine w_typ hD ?_
  walk_at "aw"
  refine w_isTy ?_
  walk_at "aw"
  cases hD with
  | str x =>
    refine w_iteB (fun _ => ?_) fun h => absurd rfl h
    obtain ⟨kvs, ed, hk⟩ := hd.has x
    walk_at "aw"
    refine w_din ?_
    walk_at "aw"
    refine ⟨d, _, rfl, DGet.k (k := Sum.inr x) ed, ?_⟩
    rw [hk]
    exact q
  | tup e t => exact w_iteB (fun h => absurd h (by simp [tyD])) fun _ => q
  | non => exact w_iteB (fun h => absurd h (by simp [tyD])) fun _ => q
  | bl b => exact w_iteB (fun h => absurd h (by simp [tyD])) fun _ => q
  | int x => exact w_iteB (fun h => absurd h (by simp [tyD])) fun _ => q
theorem prB_ints {H : Hp} {D : PyData} {v : V} (h : Is H D v) (p : prB D = true) : ∃ a, v = .ref a ∧ H a = some (.tup [.int (prI D).1, .int (prI D).2]) ∧ D = .tuple [.int (prI D).1, .int (prI D).2] := by
  unfold prB at p
  split at p
  · obtain ⟨a, xs, rfl, e, t⟩ := h.tup_inv
    cases t with
    | cons h1 t =>
      cases t with
      | cons h2 t =>
        cases t
        cases h1
        cases h2
        exact ⟨a, rfl, e, rfl⟩
  · exact absurd p (by decide)
theorem prB_flat {D : PyData} (p : flatIn D 2 2 = true) : ∃ a b, D = .tuple [a, b] ∧ flatD a = true ∧ flatD b = true := by
  unfold flatIn lenIn at p
  split at p
  · rename_i ds
    rw [Bool.and_eq_true, Bool.and_eq_true, decide_eq_true_iff, decide_eq_true_iff] at p
    obtain ⟨⟨h1, h2⟩, h3⟩ := p
    match ds, h1, h2, h3 with
    | [], h1, _, _ => simp at h1
    | [a], h1, _, _ => simp at h1
    | [a, b], _, _, h3 =>
      simp only [List.all_cons, List.all_nil, Bool.and_true, Bool.and_eq_true] at h3
      exact ⟨a, b, rfl, h3.1, h3.2⟩
    | a :: b :: c :: ds, _, h2, _ => simp only [List.length_cons] at h2; omega
  · simp at p
theorem prB_no {D : PyData} (p : ¬ flatIn D 2 2 = true) : prB D = false := by
  unfold prB
  split
  · exact absurd (by simp [flatIn, lenIn, flatD, tyD]) p
  · rfl
theorem prB_two (a b : PyData) : prB (.tuple [a, b]) = (decide (tyD a = "int") && decide (tyD b = "int")) := by
  cases a <;> cases b <;> simp [prB, tyD]
theorem len__is_number_pair {K : PySem.W.Frag} : ∀ (vs : List V) (H : Hp) (Q : VK) (E : XK), sp__is_number_pair K vs H Q E → vs.length = 1 := fun vs H Q E h => by
  obtain ⟨_, rfl, _⟩ := h
  rfl
theorem pure__is_number_pair {K : PySem.W.Frag} (vs : List V) (H : Hp) (Q : VK) (E : XK) (h : sp__is_number_pair K vs H Q E) : t__is_number_pair K { nx := fun _ H' => Q .non H', rt := Q } (start ["value"] vs) H := by
  obtain ⟨v, rfl, D, hD, q⟩ := h
  show t__is_number_pair K _ [some v] H
  unfold t__is_number_pair
  walk_at "aw"
  refine ⟨v, 2, 2, rfl, D, hD, by decide, fun H1 a1 => ?_⟩
  walk_at "aw"
  by_cases hf : flatIn D 2 2 = true
  · refine iteT'' hf ?_
    obtain ⟨a, b, rfl, _, _⟩ := prB_flat hf
    have hD1 := hD.up a1.tup
    obtain ⟨p, xs, rfl, e, t⟩ := hD1.tup_inv
    match xs, t with
    | [u, w], .cons h1 (.cons h2 .nil) =>
      walk_at "aw"
      refine w_ixT (SqT.of e) (at_nat (by decide) rfl) ?_
      walk_at "aw"
      refine w_typ h1 ?_
      walk_at "aw"
      refine w_isTy ?_
      walk_at "aw"
      have q1 := q H1 a1
      rw [prB_two] at q1
      refine w_iteB (fun hi => ?_) fun hi => ?_
      · walk_at "aw"
        refine w_ixT (SqT.of e) (at_nat (by decide) rfl) ?_
        walk_at "aw"
        refine w_typ h2 ?_
        walk_at "aw"
        refine w_isTy ?_
        rw [decide_eq_true hi, Bool.true_and] at q1
        exact q1
      · rw [decide_eq_false hi, Bool.false_and] at q1
        exact q1
  · have hf' := (Bool.not_eq_true _).mp hf
    refine iteF'' hf' ?_
    have q1 := q H1 a1
    rw [prB_no hf] at q1
    exact q1
theorem led_three {D : PyData} (p : lenIn D 3 3 = true) : ∃ a b c, D = .tuple [a, b, c] := by
  unfold lenIn at p
  split at p
  · rename_i ds
    rw [Bool.and_eq_true, decide_eq_true_iff, decide_eq_true_iff] at p
    match ds, p with
    | [], p => simp at p
    | [a], p => simp at p
    | [a, b], p => simp at p
    | [a, b, c], _ => exact ⟨a, b, c, rfl⟩
    | a :: b :: c :: d :: ds, p => simp only [List.length_cons] at p; omega
  · simp at p
theorem led_no {doms : List (Str × List Int)} {D : PyData} (p : lenIn D 3 3 = false) : ledB doms D = false := by
  unfold ledB
  split
  · exact absurd p (by simp [lenIn])
  · rfl
theorem name_txt {names : List Str} {D : PyData} (p : nameIn names D = true) : ∃ x, D = .str x ∧ x ∈ names := by
  unfold nameIn at p
  split at p
  · exact ⟨_, rfl, of_decide_eq_true p⟩
  · exact absurd p (by decide)
theorem lds_no {dx dy : List Int} {P : PyData} (h : lenIn P (dx.length : Nat) (dx.length : Nat) = false) : ldsB dx dy P = false := by
  unfold ldsB
  split
  · rename_i ps
    have hl : ps.length ≠ dx.length := fun z => by
      simp [lenIn, z] at h
    rw [decide_eq_false (p := ps.map (fun p => (prI p).1) = dx) fun z => hl (by rw [← z, List.length_map]), Bool.false_and, Bool.and_false]
  · rfl
theorem lds_tup {P : PyData} {n : Int} (h : lenIn P n n = true) : ∃ ps, P = .tuple ps ∧ (ps.length : Int) = n := by
  unfold lenIn at h
  split at h
  · rename_i ps
    rw [Bool.and_eq_true, decide_eq_true_iff, decide_eq_true_iff] at h
    exact ⟨ps, rfl, by omega⟩
  · exact absurd h (by decide)
theorem len__is_led {K : PySem.W.Frag} : ∀ (vs : List V) (H : Hp) (Q : VK) (E : XK), sp__is_led K vs H Q E → vs.length = 2 := fun vs H Q E h => by
  obtain ⟨_, _, rfl, _⟩ := h
  rfl
theorem pure__is_led {K : PySem.W.Frag} (vs : List V) (H : Hp) (Q : VK) (E : XK) (h : sp__is_led K vs H Q E) : t__is_led K { nx := fun _ H' => Q .non H', rt := Q } (start ["domains", "value", "x", "y", "pairs", "many", "pair", "v", "w"] vs) H := by
  obtain ⟨d, v, rfl, doms, D, n, hd, mok, hD, hS, hn, q⟩ := h
  show t__is_led K _ [some (.ref d), some v, none, none, none, none, none, none, none] H
  unfold t__is_led
  walk_at "aw"
  refine ⟨v, 3, 3, rfl, D, hD, ?_⟩
  walk_at "aw"
  cases hl : lenIn D 3 3 with
  | false =>
    have q1 := q H (.refl _ _)
    rw [led_no hl] at q1
    refine iteT'' rfl ?_
    walk_at "aw"
    exact q1
  | true =>
    obtain ⟨a, b, P, rfl⟩ := led_three hl
    obtain ⟨ad, xs, rfl, e, t⟩ := id hD.tup_inv
    match xs, t with
    | [u, w, pv], .cons ha (.cons hb (.cons hP .nil)) =>
    have hSP : ∃ k, Sw k P ∧ k ≤ 60 := by
      cases hS with
      | tup _ h => exact ⟨_, h P (by simp), by omega⟩
    have hqd : ∀ c, ledB doms (.tuple [a, b, P]) = c → ∀ H', Adv [] H H' → Q (.bl c) H' := fun c h H' g => by
      have := q H' g
      rwa [h] at this
    refine iteF'' rfl ?_
    walk_at "aw"
    refine w_ixT (SqT.of e) (at_nat (by decide) rfl) ?_
    walk_at "aw"
    refine ⟨d, u, rfl, doms, a, hd, ha, ?_⟩
    walk_at "aw"
    cases hna : nameIn (doms.map (·.1)) a with
    | false =>
      refine iteT'' rfl ?_
      walk_at "aw"
      exact hqd false (by simp [ledB, hna]) H (.refl _ _)
    | true =>
    refine iteF'' rfl ?_
    walk_at "aw"
    refine w_ixT (SqT.of e) (at_nat (by decide) rfl) ?_
    walk_at "aw"
    refine ⟨d, w, rfl, doms, b, hd, hb, ?_⟩
    walk_at "aw"
    cases hnb : nameIn (doms.map (·.1)) b with
    | false =>
      refine iteT'' rfl ?_
      walk_at "aw"
      exact hqd false (by simp [ledB, hna, hnb]) H (.refl _ _)
    | true =>
    refine iteF'' rfl ?_
    walk_at "aw"
    obtain ⟨x, rfl, hx⟩ := name_txt hna
    obtain ⟨y, rfl, hy⟩ := name_txt hnb
    cases ha
    cases hb
    have hqd : ∀ c, ldsB (domF doms x) (domF doms y) P = c → ∀ H', Adv [] H H' → Q (.bl c) H' := fun c h H' g => hqd c (by simp [ledB, hna, hnb, txtD, h]) H' g
    refine w_gtup (SqT.of e) rfl ?_
    walk_at "aw"
    obtain ⟨kx, qx, ekx, hvx, eqx⟩ := hd.get mok.nm.nd hx
    obtain ⟨ky, qy, eky, hvy, eqy⟩ := hd.get mok.nm.nd hy
    have hdx := mok.dm _ (domF_mem mok.nm.nd hx)
    have hdy := mok.dm _ (domF_mem mok.nm.nd hy)
    refine kDGet_i (k := .inr x) ekx hvx ?_
    walk_at "aw"
    refine w_lenT (SqT.of eqx) ?_
    rw [List.length_map]
    walk_at "aw"
    refine ⟨pv, _, _, rfl, P, hP, ?_⟩
    walk_at "aw"
    cases hlp : lenIn P ((domF doms x).length : Nat) ((domF doms x).length : Nat) with
    | false =>
      refine iteT'' rfl ?_
      walk_at "aw"
      exact hqd false (lds_no hlp) H (.refl _ _)
    | true =>
    refine iteF'' rfl ?_
    walk_at "aw"
    obtain ⟨ps, rfl, hps⟩ := lds_tup hlp
    have hpl : ps.length ≤ 12 := by have : (domF doms x).length ≤ 12 := hdx.l2; omega
    obtain ⟨pa, vs, rfl, ep, tp⟩ := hP.tup_inv
    have hvl := tp.length
    refine ⟨pa, rfl, ⟨_, SqT.of ep⟩, kLc_pure (walk_tup (xs := vs)) (by omega) (fun H' g => SqT.of (g.tup _ _ ep)) (fun _ => true) (fun i => .bl (prB (ps.getD i .none))) (fun i z H2 H3 Kt Kf hi g2 yy kt kf => ?_) fun l H1 np g1 el => ?_⟩
    · obtain ⟨rfl, y1⟩ := yy
      obtain ⟨dt, z1, hdt⟩ := tp.get y1
      rw [getD_of z1] at kt
      walk_at "aw"
      refine ⟨rfl, ?_⟩
      walk_at "aw"
      refine ⟨z, rfl, dt, hdt.up g2.tup, fun H4 g4 => ?_⟩
      exact kt rfl H4 g4
    rw [bls_map fun i => prB (ps.getD i .none), hvl] at el
    walk_at "aw"
    refine ⟨l, _, rfl, SqL.of el, ?_⟩
    rw [all_range]
    walk_at "aw"
    cases hpr : ps.all prB with
    | false =>
      refine iteT'' rfl ?_
      walk_at "aw"
      exact hqd false (by simp only [ldsB, hpr, Bool.false_and]) H1 g1
    | true =>
    refine iteF'' rfl ?_
    walk_at "aw"
    have hqd : ∀ c, (decide (ps.map (fun p => (prI p).1) = domF doms x) && decide ((ps.map fun p => (prI p).2).Perm (domF doms y))) = c → ∀ H', Adv [] H1 H' → Q (.bl c) H' := fun c h H' g => hqd c (by simp only [ldsB, hpr, Bool.true_and, h]) H' (g1.trans g)
    have hall : ∀ (i : Nat) z H2, Adv [] H1 H2 → vs[i]? = some z → ∃ p, z = .ref p ∧ H2 p = some (.tup [.int (prI (ps.getD i .none)).1, .int (prI (ps.getD i .none)).2]) := fun i z H2 g2 y1 => by
      obtain ⟨dt, z1, hdt⟩ := tp.get y1
      obtain ⟨p, h1, h2, _⟩ := prB_ints (hdt.up (g1.trans g2).tup) (List.all_eq_true.mp hpr _ (List.mem_of_getElem? z1))
      rw [getD_of z1]
      exact ⟨p, h1, h2⟩
    have hints : ∀ f : PyData → Int, ((List.range vs.length).filter fun _ => true).map (fun i => V.int (f (ps.getD i .none))) = (ps.map f).map V.int := fun f => by
      rw [filter_true, hvl, List.map_map]
      conv => rhs; rw [← range_getD ps .none]
      rw [List.map_map]
      rfl
    refine ⟨pa, rfl, ⟨_, SqT.of (g1.tup _ _ ep)⟩, kLc_pure (walk_tup (xs := vs)) (by omega) (fun H' g => SqT.of ((g1.trans g).tup _ _ ep)) (fun _ => true) (fun i => .int (prI (ps.getD i .none)).1) (fun i z H2 H3 Kt Kf hi g2 yy kt kf => ?_) fun l2 H2 np2 g2 el2 => ?_⟩
    · obtain ⟨rfl, y1⟩ := yy
      obtain ⟨p, rfl, ep'⟩ := hall i z _ g2 y1
      refine w_gtup (SqT.of ep') rfl ?_
      walk_at "aw"
      refine ⟨rfl, ?_⟩
      walk_at "aw"
      exact kt rfl _ (.refl _ _)
    rw [hints fun p => (prI p).1] at el2
    walk_at "aw"
    refine w_tupL (SqL.of el2) fun t1 H3 nt1 g3 et1 => ?_
    walk_at "aw"
    have g13 := g1.trans (g2.trans g3)
    refine kDGet_i (k := .inr x) (g13.keep _ _ (fun z => nomatch z) ekx) hvx ?_
    refine w_eqI (SqT.of et1) (g13.tup _ _ eqx) ?_
    walk_at "aw"
    cases hc : decide (ps.map (fun p => (prI p).1) = domF doms x) with
    | false =>
      refine iteF'' rfl ?_
      exact hqd false (by rw [hc, Bool.false_and]) H3 (g2.trans g3)
    | true =>
    refine iteT'' rfl ?_
    walk_at "aw"
    refine ⟨pa, rfl, ⟨_, SqT.of (g13.tup _ _ ep)⟩, kLc_pure (walk_tup (xs := vs)) (by omega) (fun H' g => SqT.of ((g13.trans g).tup _ _ ep)) (fun _ => true) (fun i => .int (prI (ps.getD i .none)).2) (fun i z H4 H5 Kt Kf hi g4 yy kt kf => ?_) fun l4 H4 np4 g4 el4 => ?_⟩
    · obtain ⟨rfl, y1⟩ := yy
      obtain ⟨p, rfl, ep'⟩ := hall i z _ ((g2.trans g3).trans g4) y1
      refine w_gtup (SqT.of ep') rfl ?_
      walk_at "aw"
      refine ⟨rfl, ?_⟩
      walk_at "aw"
      exact kt rfl _ (.refl _ _)
    rw [hints fun p => (prI p).2] at el4
    walk_at "aw"
    refine ⟨l4, _, rfl, SqL.of el4, fun ns' s hp hs nsn => ?_⟩
    walk_at "aw"
    have g5 := Adv.new (o := .lst (ns'.map V.int)) nsn
    refine w_tupL (SqL.of upd_same) fun t5 H6 nt5 g6 et5 => ?_
    walk_at "aw"
    have g16 := g13.trans (g4.trans (g5.trans g6))
    refine kDGet_i (k := .inr y) (g16.keep _ _ (fun z => nomatch z) eky) hvy ?_
    refine w_eqI (SqT.of et5) (g16.tup _ _ eqy) ?_
    rw [sortI_eq hp hs hdy.asc]
    exact hqd _ (by rw [hc, Bool.true_and]) H6 ((g2.trans g3).trans (g4.trans (g5.trans g6)))
theorem ex_no {doms : List (Str × List Int)} {D : PyData} (h : tyD D ≠ "tuple") : exB doms D = false := by
  unfold exB
  split
  · exact absurd rfl h
  · rfl
theorem led_txt {H : Hp} {doms : List (Str × List Int)} {D : PyData} {v : V} (h : Is H D v) (p : ledB doms D = true) : ∃ a w, v = .ref a ∧ H a = some (.tup [.str (fstS D), .str (sndS D), w]) ∧ fstS D ∈ doms.map (·.1) ∧ sndS D ∈ doms.map (·.1) := by
  unfold ledB at p
  split at p
  · rename_i x y P
    rw [Bool.and_eq_true, Bool.and_eq_true] at p
    obtain ⟨x, rfl, hx⟩ := name_txt p.1
    obtain ⟨y, rfl, hy⟩ := name_txt p.2.1
    obtain ⟨a, xs, rfl, e, t⟩ := h.tup_inv
    match xs, t with
    | [u, w, pv], .cons ha (.cons hb (.cons hP .nil)) =>
      cases ha
      cases hb
      exact ⟨a, pv, rfl, e, hx, hy⟩
  · exact absurd p (by decide)
theorem len_check_exchange {K : PySem.W.Frag} : ∀ (vs : List V) (H : Hp) (Q : VK) (E : XK), sp_check_exchange K vs H Q E → vs.length = 2 := fun vs H Q E h => by
  obtain ⟨_, _, rfl, _⟩ := h
  rfl
theorem pure_check_exchange {K : PySem.W.Frag} (vs : List V) (H : Hp) (Q : VK) (E : XK) (h : sp_check_exchange K vs H Q E) : t_check_exchange K { nx := fun _ H' => Q .non H', rt := Q } (start ["model", "value", "domains", "item", "firsts", "x", "y", "pairs"] vs) H := by
  obtain ⟨m, v, rfl, doms, D, n, hm, mok, hD, hS, hn, q⟩ := h
  show t_check_exchange K _ [some m, some v, none, none, none, none, none, none] H
  unfold t_check_exchange
  walk_at "aw"
  refine ⟨m, rfl, doms, hm, mok, fun d kd H1 nd a1 ed hkd => ?_⟩
  have hd : DomD H1 d doms := ⟨kd, ed, hkd⟩
  have hD1 := hD.up a1.tup
  walk_at "aw"
  refine w_typ hD1 ?_
  walk_at "aw"
  refine ⟨_, _, rfl, rfl, ?_⟩
  walk_at "aw"
  by_cases ht : tyD D = "tuple"
  case neg =>
    refine iteT'' (by rw [decide_eq_false ht]; rfl) ?_
    walk_at "aw"
    have q1 := q H1 a1
    rw [ex_no ht] at q1
    exact q1
  refine iteF'' (by rw [decide_eq_true ht]; rfl) ?_
  walk_at "aw"
  obtain ⟨ws, rfl⟩ : ∃ ws, D = .tuple ws := by
    cases hD with
    | tup e t => exact ⟨_, rfl⟩
    | non => exact absurd ht (by decide)
    | bl b => exact absurd ht (by simp [tyD])
    | int i => exact absurd ht (by simp [tyD])
    | str x => exact absurd ht (by simp [tyD])
  obtain ⟨k, hwl, hSw, hk⟩ : ∃ k, ws.length ≤ 60 ∧ (∀ w ∈ ws, Sw k w) ∧ k ≤ 60 := by
    cases hS with
    | tup l h => exact ⟨_, l, h, by omega⟩
  obtain ⟨va, vs, rfl, ev, tv⟩ := hD1.tup_inv
  have hvl := tv.length
  refine ⟨va, rfl, ⟨_, SqT.of ev⟩, kLc_pure (walk_tup (xs := vs)) (by omega) (fun H' g => SqT.of (g.tup _ _ ev)) (fun _ => true) (fun i => .bl (ledB doms (ws.getD i .none))) (fun i z H2 H3 Kt Kf hi g2 yy kt kf => ?_) fun l H2 np g2 el => ?_⟩
  · obtain ⟨rfl, y1⟩ := yy
    obtain ⟨dt, z1, hdt⟩ := tv.get y1
    rw [getD_of z1] at kt
    walk_at "aw"
    refine ⟨rfl, ?_⟩
    walk_at "aw"
    refine ⟨d, z, rfl, doms, dt, k, hd.up g2, mok, hdt.up g2.tup, hSw _ (List.mem_of_getElem? z1), hk, fun H4 g4 => ?_⟩
    exact kt rfl H4 g4
  rw [bls_map fun i => ledB doms (ws.getD i .none), hvl] at el
  walk_at "aw"
  refine ⟨l, _, rfl, SqL.of el, ?_⟩
  rw [all_range]
  walk_at "aw"
  have g02 := a1.trans g2
  cases hpr : ws.all (ledB doms) with
  | false =>
    refine iteT'' rfl ?_
    walk_at "aw"
    have q1 := q H2 g02
    rw [show exB doms (.tuple ws) = false by simp only [exB, hpr, Bool.false_and]] at q1
    exact q1
  | true =>
  refine iteF'' rfl ?_
  walk_at "aw"
  have hqd : ∀ c, (ascB (ws.map fstS) && decide ((ws.map sndS).Perm (ws.map fstS))) = c → ∀ H', Adv [] H2 H' → Q (.bl c) H' := fun c h H' g => by
    have := q H' (g02.trans g)
    rwa [show exB doms (.tuple ws) = c by simp only [exB, hpr, Bool.true_and, h]] at this
  have hall : ∀ (i : Nat) z H3, Adv [] H2 H3 → vs[i]? = some z → ∃ p w, z = .ref p ∧ H3 p = some (.tup [.str (fstS (ws.getD i .none)), .str (sndS (ws.getD i .none)), w]) := fun i z H3 g3 y1 => by
    obtain ⟨dt, z1, hdt⟩ := tv.get y1
    obtain ⟨p, w, h1, h2, _⟩ := led_txt (hdt.up (g2.trans g3).tup) (List.all_eq_true.mp hpr _ (List.mem_of_getElem? z1))
    rw [getD_of z1]
    exact ⟨p, w, h1, h2⟩
  have hok : ∀ w ∈ ws, okS (fstS w) ∧ okS (sndS w) := fun w hw => by
    obtain ⟨i, hi, rfl⟩ := List.mem_iff_getElem.mp hw
    obtain ⟨z, _, hz⟩ := tv.get' (List.getElem?_eq_getElem hi)
    obtain ⟨_, _, _, _, h1, h2⟩ := led_txt hz (List.all_eq_true.mp hpr _ hw)
    exact ⟨mok.nm.ok _ h1, mok.nm.ok _ h2⟩
  have htx : ∀ f : PyData → Str, ((List.range vs.length).filter fun _ => true).map (fun i => V.str (f (ws.getD i .none))) = (ws.map f).map V.str := fun f => by
    rw [filter_true, hvl, List.map_map]
    conv => rhs; rw [← range_getD ws .none]
    rw [List.map_map]
    rfl
  refine ⟨va, rfl, ⟨_, SqT.of (g2.tup _ _ ev)⟩, kLc_pure (walk_tup (xs := vs)) (by omega) (fun H' g => SqT.of ((g2.trans g).tup _ _ ev)) (fun _ => true) (fun i => .str (fstS (ws.getD i .none))) (fun i z H3 H4 Kt Kf hi g3 yy kt kf => ?_) fun l3 H3 np3 g3 el3 => ?_⟩
  · obtain ⟨rfl, y1⟩ := yy
    obtain ⟨p, w, rfl, ep'⟩ := hall i z _ g3 y1
    refine w_gtup (SqT.of ep') rfl ?_
    walk_at "aw"
    refine ⟨rfl, ?_⟩
    walk_at "aw"
    exact kt rfl _ (.refl _ _)
  rw [htx fstS] at el3
  walk_at "aw"
  refine ⟨l3, rfl, ws.map fstS, el3, by rw [List.length_map]; omega, fun H4 g4 => ?_⟩
  walk_at "aw"
  cases hc : ascB (ws.map fstS) with
  | false =>
    refine iteF'' rfl ?_
    exact hqd false (by rw [hc, Bool.false_and]) H4 (g3.trans g4)
  | true =>
  refine iteT'' rfl ?_
  walk_at "aw"
  have g24 := g2.trans (g3.trans g4)
  refine ⟨va, rfl, ⟨_, SqT.of (g24.tup _ _ ev)⟩, kLc_pure (walk_tup (xs := vs)) (by omega) (fun H' g => SqT.of ((g24.trans g).tup _ _ ev)) (fun _ => true) (fun i => .str (sndS (ws.getD i .none))) (fun i z H5 H6 Kt Kf hi g5 yy kt kf => ?_) fun l5 H5 np5 g5 el5 => ?_⟩
  · obtain ⟨rfl, y1⟩ := yy
    obtain ⟨p, w, rfl, ep'⟩ := hall i z _ ((g3.trans g4).trans g5) y1
    refine w_gtup (SqT.of ep') rfl ?_
    walk_at "aw"
    refine ⟨rfl, ?_⟩
    walk_at "aw"
    exact kt rfl _ (.refl _ _)
  rw [htx sndS] at el5
  walk_at "aw"
  refine w_sortS' el5 (by rw [List.length_map]; omega) fun ns' s H6 hp hs nsn g6 es => ?_
  walk_at "aw"
  refine w_eqLS es ((g4.trans (g5.trans g6)).keep _ _ (fun z => nomatch z) el3) (fun x hx => ?_) (fun x hx => ?_) ?_
  · obtain ⟨w, hw, rfl⟩ := List.mem_map.mp (hp.subset hx)
    exact (hok w hw).2
  · obtain ⟨w, hw, rfl⟩ := List.mem_map.mp hx
    exact (hok w hw).1
  · rw [sortS_eq hp hs hc]
    exact hqd _ (by rw [hc, Bool.true_and]) H6 ((g3.trans g4).trans (g5.trans g6))
end AW
namespace AW
open PySem PySem.Spec PyProof.Rows L2 RZ
open StX
local macro_rules | `(tactic| walk_at "aw1") => `(tactic| first
  | (with_reducible refine w_seq ?_) | (with_reducible refine w_asg ?_) | (with_reducible refine w_gname ?_) | (with_reducible refine w_op ?_) | (with_reducible refine w_un ?_)
  | ((with_reducible refine' w_var ?h ?_); (case h => rfl)) | (with_reducible refine w_c ?_)
  | (with_reducible refine w_I0 ?_) | (with_reducible refine w_U ?_) | (with_reducible refine w_cb ?_) | (with_reducible refine w_nil ?_) | (with_reducible refine w_cons ?_) | (with_reducible refine w_call ?_)
  | (with_reducible refine w_test ?_) | (with_reducible refine w_B ?_) | (with_reducible refine w_bl ?_) | (with_reducible refine w_not ?_) | (with_reducible refine w_yes ?_) | (with_reducible refine iteT ?_) | (with_reducible refine iteF ?_) | (with_reducible refine w_and ?_) | (with_reducible refine w_or ?_)
  | (with_reducible refine w_andV ?_) | (with_reducible refine w_orV ?_) | (with_reducible refine w_notV ?_) | (with_reducible refine w_if ?_)
  | (with_reducible refine w_int1 ?_) | (with_reducible refine w_int1b ?_) | (with_reducible refine w_abs ?_) | (with_reducible refine w_max2 ?_) | (with_reducible refine w_min2 ?_)
  | ((with_reducible refine w_eq ?h ?_); (case h => rfl)) | ((with_reducible refine w_ne ?h ?_); (case h => rfl)) | (with_reducible refine w_isN ?_) | (with_reducible refine w_isB ?_) | (with_reducible refine w_chain ?_)
  | (with_reducible refine w_ret ?_) | (with_reducible refine w_drop ?_) | (with_reducible refine w_ifS ?_) | (with_reducible refine w_gsub ?_) | (with_reducible refine w_augS ?_) | (with_reducible refine w_ipI ?_) | (with_reducible refine w_next ?_)
  | (with_reducible refine w_forR ?_) | (with_reducible refine w_forR2 ?_) | (with_reducible refine w_forL ?_) | (with_reducible refine w_forT ?_) | (with_reducible refine w_lcR ?_) | (with_reducible refine w_lcL ?_) | (with_reducible refine w_lcT ?_) | (with_reducible refine w_sl ?_) | (with_reducible refine w_part ?_) | (with_reducible refine w_noPart ?_) | (with_reducible refine w_in ?_)
  | (with_reducible refine w_gcons ?_) | (with_reducible refine w_gnil ?_) | (with_reducible refine w_lc3 ?_) | (with_reducible refine w_dcZ ?_) | (with_reducible refine w_dcT ?_) | (with_reducible refine w_dg ?_) | (with_reducible refine w_callK ?_) | (with_reducible refine w_dput ?_) | (with_reducible refine w_tup1 ?_)
  | (with_reducible refine w_tup ?_) | (with_reducible refine w_lst ?_)
  | ((with_reducible refine w_I ?h ?_); (case h => first | (exact Or.inr ⟨by decide, by decide⟩) | (exact Or.inl ⟨by decide, by decide⟩) | (show (0 : Int) < _; decide) | (exact ⟨by decide, by decide, by decide⟩) | assumption)))
local macro_rules | `(tactic| walk_at "aw") => `(tactic| repeat (walk_at "aw1"))
def rGeS : R2 := fun x y H Q => ∃ i j, x = .str i ∧ y = .str j ∧ Q (.bl (!decide (i.cps.toList < j.cps.toList))) H
theorem op_geS {X : Cx} : OpR X (compareOp .GtE) rGeS := op_ge_str
def isN1 : PyData → Bool
  | .int _ => true
  | _ => false
def sp__law_is_number (_ : PySem.W.Frag) : Sp := fun vs H Q _ => ∃ (v : V), vs = [v] ∧ ∃ D, Is H D v ∧ Q (.bl (isN1 D)) H
def sp__law_leads (_ : PySem.W.Frag) : Sp := fun vs H Q _ => ∃ (qx qy : Addr) (v : V), vs = [.ref qx, .ref qy, v] ∧ ∃ dx dy P n, H qx = some (.tup (dx.map V.int)) ∧ H qy = some (.tup (dy.map V.int)) ∧ dy.Pairwise (· < ·) ∧ Is H P v ∧ Sw n P ∧ n ≤ 60 ∧ ∀ H', Adv [] H H' → Q (.bl (ldsB dx dy P)) H'
def sp__law_is_exchange (_ : PySem.W.Frag) : Sp := fun vs H Q _ => ∃ (m v : V), vs = [m, v] ∧ ∃ doms D n, MdlAt H m doms ∧ MdlOk doms ∧ Is H D v ∧ Sw n D ∧ n ≤ 60 ∧ ∀ H', Adv [] H H' → Q (.bl (exB doms D)) H'
def kDNotIn (x y : V) (H : Hp) (Q : VK) : Prop := ∃ a o, x = .ref a ∧ DGet H a y o ∧ Q (.bl (!o.isSome)) H
theorem w_dnin {ty td : TE} {σ : L2.St} {H : Hp} {Q : VK} (h : ty σ H fun y H1 => td σ H1 fun x H2 => kDNotIn x y H2 Q) : tDNotIn ty td σ H Q := h
theorem prB_two' (a b : PyData) : prB (.tuple [a, b]) = (isN1 a && isN1 b) := by
  cases a <;> cases b <;> simp [prB, isN1]
theorem prB_len {ds : List PyData} (h : ds.length ≠ 2) : prB (.tuple ds) = false := by
  unfold prB
  split
  · rename_i e
    cases e
    exact absurd rfl h
  · rfl
theorem prB_tup {D : PyData} (h : isiD D "tuple" = false) : prB D = false := by
  unfold prB
  split
  · exact absurd h (by simp [isiD, tyD])
  · rfl
theorem isi_tup {D : PyData} {H : Hp} {v : V} (hD : Is H D v) (h : isiD D "tuple" = true) : ∃ ds, D = .tuple ds := by
  cases hD with
  | tup e t => exact ⟨_, rfl⟩
  | non => exact absurd h (by decide)
  | bl b => exact absurd h (by simp [isiD, tyD])
  | int i => exact absurd h (by simp [isiD, tyD])
  | str x => exact absurd h (by simp [isiD, tyD])
theorem isi_str {D : PyData} {H : Hp} {v : V} (hD : Is H D v) (h : isiD D "str" = true) : ∃ x, D = .str x := by
  cases hD with
  | tup e t => exact absurd h (by simp [isiD, tyD])
  | non => exact absurd h (by decide)
  | bl b => exact absurd h (by simp [isiD, tyD])
  | int i => exact absurd h (by simp [isiD, tyD])
  | str x => exact ⟨x, rfl⟩
theorem lds_tup' {dx dy : List Int} {D : PyData} (h : isiD D "tuple" = false) : ldsB dx dy D = false := by
  unfold ldsB
  split
  · exact absurd h (by simp [isiD, tyD])
  · rfl
theorem all_no {α : Type} {f : α → Bool} {xs : List α} {x : α} (hx : x ∈ xs) (h : f x = false) : xs.all f = false := by
  rw [List.all_eq_false]
  exact ⟨x, hx, by rw [h]; decide⟩
theorem led_tup {doms : List (Str × List Int)} {D : PyData} (h : isiD D "tuple" = false) : ledB doms D = false := by
  unfold ledB
  split
  · exact absurd h (by simp [isiD, tyD])
  · rfl
theorem led_len {doms : List (Str × List Int)} {ds : List PyData} (h : ds.length ≠ 3) : ledB doms (.tuple ds) = false := by
  unfold ledB
  split
  · rename_i e
    cases e
    exact absurd rfl h
  · rfl
theorem name_no {names : List Str} {D : PyData} (h : isiD D "str" = false) : nameIn names D = false := by
  unfold nameIn
  split
  · exact absurd h (by simp [isiD, tyD])
  · rfl
theorem ex_no' {doms : List (Str × List Int)} {D : PyData} (h : isiD D "tuple" = false) : exB doms D = false := by
  unfold exB
  split
  · exact absurd h (by simp [isiD, tyD])
  · rfl
theorem asc_take {xs : List Str} (h : ascB xs = true) (n : Nat) : ascB (xs.take n) = true := by
  refine asc_iff.mpr fun k hk => ?_
  have hk' := hk
  rw [List.length_take] at hk'
  have := asc_iff.mp h k (by omega)
  rw [List.getD_eq_getElem?_getD, List.getD_eq_getElem?_getD, List.getElem?_take_of_lt (by omega), List.getElem?_take_of_lt (by omega), ← List.getD_eq_getElem?_getD, ← List.getD_eq_getElem?_getD]
  exact this
theorem asc_snoc {xs : List Str} {y : Str} : ascB (xs ++ [y]) = true ↔ ascB xs = true ∧ (0 < xs.length → ltS (xs.getD (xs.length - 1) Str.empty) y) := by
  constructor
  · intro h
    refine ⟨?_, fun h0 => ?_⟩
    · have := asc_take h xs.length
      rwa [List.take_left] at this
    · have := asc_iff.mp h (xs.length - 1) (by rw [List.length_append]; simp; omega)
      rw [List.getD_eq_getElem?_getD, List.getD_eq_getElem?_getD, List.getElem?_append_left (by omega), List.getElem?_append_right (by omega), ← List.getD_eq_getElem?_getD, show xs.length - 1 + 1 - xs.length = 0 by omega] at this
      exact this
  · rintro ⟨h1, h2⟩
    refine asc_iff.mpr fun k hk => ?_
    rw [List.length_append, List.length_singleton] at hk
    rw [List.getD_eq_getElem?_getD, List.getD_eq_getElem?_getD, List.getElem?_append_left (show k < xs.length by omega)]
    by_cases z : k + 1 < xs.length
    · rw [List.getElem?_append_left z, ← List.getD_eq_getElem?_getD, ← List.getD_eq_getElem?_getD]
      exact asc_iff.mp h1 k z
    · have e : k = xs.length - 1 := by omega
      rw [List.getElem?_append_right (by omega), ← List.getD_eq_getElem?_getD, show k + 1 - xs.length = 0 by omega, e]
      exact h2 (by omega)
def t__law_is_number (K : PySem.W.Frag) : TS := (tRet (tAndV (tCB (rIsi K) (tCons (tVar 0) (tCons (tC (.ty "int")) tNil))) (tNotV (tCB (rIsi K) (tCons (tVar 0) (tCons (tC (.ty "bool")) tNil))))))
def t__law_leads (K : PySem.W.Frag) : TS := (tSeq (tIfS (tNot (tB (tCB (rIsi K) (tCons (tVar 2) (tCons (tC (.ty "tuple")) tNil))))) (tRet (tC (.bl false))) tNext)
  (tSeq (tFor (iTup K (tVar 2)) (gName 3)
  (tIfS (tOr (tNot (tB (tCB (rIsi K) (tCons (tVar 3) (tCons (tC (.ty "tuple")) tNil))))) (tOr (tTest (tOp rNe (tCB (rLen1 K) (tCons (tVar 3) tNil)) (tC (.int 2)))) (tOr (tNot (tB (tCall (sp__law_is_number K) [] E0 (tCons (tOp (rIxT K) (tVar 3) (tC (.int 0))) tNil)))) (tNot (tB (tCall (sp__law_is_number K) [] E0 (tCons (tOp (rIxT K) (tVar 3) (tC (.int 1))) tNil))))))) (tRet (tC (.bl false))) tNext))
  (tRet (tAndV (tOp (rEqD K) (tThen (tLc (iTup K (tVar 2)) (gName 3) tYes (tOp (rIxT K) (tVar 3) (tC (.int 0))) [3]) (kTup K)) (tVar 0)) (tOp (rEqD K) (tThen (tCB (rSortedI K) (tCons (tLc (iTup K (tVar 2)) (gName 3) tYes (tOp (rIxT K) (tVar 3) (tC (.int 1))) [3]) tNil)) (kTup K)) (tVar 1))))))
def t__law_is_exchange (K : PySem.W.Frag) : TS := (tSeq (tAsg (tCB (rDictPT K) (tCons (tOp (rIxT K) (tVar 0) (tC (.int 0))) tNil)) (gName 2))
  (tSeq (tIfS (tNot (tB (tCB (rIsi K) (tCons (tVar 1) (tCons (tC (.ty "tuple")) tNil))))) (tRet (tC (.bl false))) tNext)
  (tSeq (tAsg (tLst tNil) (gName 3))
  (tSeq (tFor (iTup K (tVar 1)) (gName 4)
  (tSeq (tIfS (tOr (tNot (tB (tCB (rIsi K) (tCons (tVar 4) (tCons (tC (.ty "tuple")) tNil))))) (tOr (tTest (tOp rNe (tCB (rLen1 K) (tCons (tVar 4) tNil)) (tC (.int 3)))) (tOr (tNot (tB (tCB (rIsi K) (tCons (tOp (rIxT K) (tVar 4) (tC (.int 0))) (tCons (tC (.ty "str")) tNil))))) (tNot (tB (tCB (rIsi K) (tCons (tOp (rIxT K) (tVar 4) (tC (.int 1))) (tCons (tC (.ty "str")) tNil)))))))) (tRet (tC (.bl false))) tNext)
  (tSeq (tIfS (tOr (tB (tDNotIn (tOp (rIxT K) (tVar 4) (tC (.int 0))) (tVar 2))) (tB (tDNotIn (tOp (rIxT K) (tVar 4) (tC (.int 1))) (tVar 2)))) (tRet (tC (.bl false))) tNext)
  (tSeq (tIfS (tNot (tB (tCall (sp__law_leads K) [] E0 (tCons (tDGet (tVar 2) (tOp (rIxT K) (tVar 4) (tC (.int 0)))) (tCons (tDGet (tVar 2) (tOp (rIxT K) (tVar 4) (tC (.int 1)))) (tCons (tOp (rIxT K) (tVar 4) (tC (.int 2))) tNil)))))) (tRet (tC (.bl false))) tNext)
  (tSeq (tIfS (tAnd (tTest (tOp rGtI (tCB (rLen1 K) (tCons (tVar 3) tNil)) (tC (.int 0)))) (tTest (tOp rGeS (tOp (rIxL K) (tVar 3) (tUn rNeg (tC (.int 1)))) (tOp (rIxT K) (tVar 4) (tC (.int 0)))))) (tRet (tC (.bl false))) tNext)
  (tDrop (tBM K "list" rAppend (tVar 3) (tCons (tOp (rIxT K) (tVar 4) (tC (.int 0))) tNil))))))))
  (tRet (tOp (rEqD K) (tCB (rSortedS K) (tCons (tLc (iTup K (tVar 1)) (gName 4) tYes (tOp (rIxT K) (tVar 4) (tC (.int 1))) [4]) tNil)) (tVar 3)))))))
theorem len__law_is_number {K : PySem.W.Frag} : ∀ (vs : List V) (H : Hp) (Q : VK) (E : XK), sp__law_is_number K vs H Q E → vs.length = 1 := fun vs H Q E h => by
  obtain ⟨_, rfl, _⟩ := h
  rfl
theorem pure__law_is_number {K : PySem.W.Frag} (vs : List V) (H : Hp) (Q : VK) (E : XK) (h : sp__law_is_number K vs H Q E) : t__law_is_number K { nx := fun _ H' => Q .non H', rt := Q } (start ["value"] vs) H := by
  obtain ⟨v, rfl, D, hD, q⟩ := h
  show t__law_is_number K _ [some v] H
  unfold t__law_is_number
  walk_at "aw"
  refine w_isiD hD (by simp) ?_
  walk_at "aw"
  cases hD with
  | int n =>
    refine iteT'' rfl ?_
    walk_at "aw"
    refine w_isiD (.int n) (by simp) ?_
    exact ⟨_, rfl, q⟩
  | bl b =>
    refine iteT'' rfl ?_
    walk_at "aw"
    refine w_isiD (.bl b) (by simp) ?_
    exact ⟨_, rfl, q⟩
  | tup e t => exact iteF'' rfl q
  | non => exact iteF'' rfl q
  | str x => exact iteF'' rfl q
theorem len__law_leads {K : PySem.W.Frag} : ∀ (vs : List V) (H : Hp) (Q : VK) (E : XK), sp__law_leads K vs H Q E → vs.length = 3 := fun vs H Q E h => by
  obtain ⟨_, _, _, rfl, _⟩ := h
  rfl
theorem pure__law_leads {K : PySem.W.Frag} (vs : List V) (H : Hp) (Q : VK) (E : XK) (h : sp__law_leads K vs H Q E) : t__law_leads K { nx := fun _ H' => Q .non H', rt := Q } (start ["domain", "other", "pairs", "pair"] vs) H := by
  obtain ⟨qx, qy, v, rfl, dx, dy, P, n, eqx, eqy, hdy, hP, hS, hn, q⟩ := h
  show t__law_leads K _ [some (.ref qx), some (.ref qy), some v, none] H
  unfold t__law_leads
  walk_at "aw"
  refine w_isiD hP (by simp) ?_
  walk_at "aw"
  cases hi : isiD P "tuple" with
  | false =>
    refine iteT'' rfl ?_
    walk_at "aw"
    have q1 := q H (.refl _ _)
    rw [lds_tup' hi] at q1
    exact q1
  | true =>
  refine iteF'' rfl ?_
  walk_at "aw"
  obtain ⟨ps, rfl⟩ := isi_tup hP hi
  have hpl : ps.length ≤ 60 := by cases hS with | tup l h => exact l
  obtain ⟨pa, vs, rfl, ep, tp⟩ := hP.tup_inv
  have hvl := tp.length
  refine kForT_i (fun i σ' H' => ∃ (y3 : Option V), σ' = [some (.ref qx), some (.ref qy), some (.ref pa), y3] ∧ Adv [] H H' ∧ ∀ k, k < i → prB (ps.getD k .none) = true) (SqT.of ep)
    ⟨_, rfl, .refl _ _, fun k h => absurd h (Nat.not_lt_zero _)⟩ (fun i σ' H' _ pp => by obtain ⟨_, _, a, _⟩ := pp; exact SqT.of (a.tup _ _ ep)) (fun i u σ' H' hu pp => ?_) fun σ' H' pp => ?_
  · obtain ⟨y3, rfl, a, hpre⟩ := pp
    obtain ⟨D, hDi, hD0⟩ := tp.get hu
    have hD := hD0.up a.tup
    have hgo : ∀ b, prB D = b → (b = true → ∀ k, k < i + 1 → prB (ps.getD k .none) = true) ∧ (b = false → ∀ H2, Adv [] H' H2 → Q (.bl false) H2) := fun b hb => ⟨fun hbt k hk => by
      by_cases z : k = i
      · rw [z, getD_of hDi, hb, hbt]
      · exact hpre k (by omega), fun hbf H2 g => by
      have q1 := q H2 (a.trans g)
      rwa [show ldsB dx dy (.tuple ps) = false by simp only [ldsB, all_no (List.mem_of_getElem? hDi) (hb.trans hbf), Bool.false_and]] at q1⟩
    walk_at "aw"
    refine w_isiD hD (by simp) ?_
    walk_at "aw"
    cases hit : isiD D "tuple" with
    | false =>
      refine iteT'' rfl ?_
      walk_at "aw"
      exact (hgo false (prB_tup hit)).2 rfl H' (.refl _ _)
    | true =>
    refine iteF'' rfl ?_
    walk_at "aw"
    obtain ⟨ds, rfl⟩ := isi_tup hD hit
    obtain ⟨p, xs, rfl, e, t⟩ := hD.tup_inv
    have hxl := t.length
    refine w_lenT (SqT.of e) ?_
    walk_at "aw"
    by_cases h2 : xs.length = 2
    case neg =>
      refine iteT'' (by rw [decide_eq_false fun y => h2 (by have := V.int.inj y; omega)]; rfl) ?_
      walk_at "aw"
      exact (hgo false (prB_len fun z => h2 (by rw [hxl, z]))).2 rfl H' (.refl _ _)
    refine iteF'' (by rw [h2]; rfl) ?_
    walk_at "aw"
    obtain ⟨d1, d2, rfl⟩ : ∃ d1 d2, ds = [d1, d2] := by
      have hd2 : ds.length = 2 := by omega
      match ds, hd2 with
      | [a, b], _ => exact ⟨a, b, rfl⟩
    match xs, t with
    | [u1, u2], .cons h1 (.cons h2' .nil) =>
    have hgo := fun b h => hgo b ((prB_two' d1 d2).trans h)
    refine w_ixT (SqT.of e) (at_nat (by decide) rfl) ?_
    walk_at "aw"
    refine ⟨u1, rfl, d1, h1, ?_⟩
    walk_at "aw"
    cases hn1 : isN1 d1 with
    | false =>
      refine iteT'' rfl ?_
      walk_at "aw"
      exact (hgo false (by rw [hn1, Bool.false_and])).2 rfl H' (.refl _ _)
    | true =>
    refine iteF'' rfl ?_
    walk_at "aw"
    refine w_ixT (SqT.of e) (at_nat (by decide) rfl) ?_
    walk_at "aw"
    refine ⟨u2, rfl, d2, h2', ?_⟩
    walk_at "aw"
    cases hn2 : isN1 d2 with
    | false =>
      refine iteT'' rfl ?_
      walk_at "aw"
      exact (hgo false (by rw [hn1, hn2]; rfl)).2 rfl H' (.refl _ _)
    | true =>
    refine iteF'' rfl ?_
    walk_at "aw"
    exact ⟨_, rfl, a, (hgo true (by rw [hn1, hn2]; rfl)).1 rfl⟩
  · obtain ⟨y3, rfl, g13, hpre⟩ := pp
    have hpr : ps.all prB = true := List.all_eq_true.mpr fun D hD => by
      obtain ⟨i, hi, rfl⟩ := List.mem_iff_getElem.mp hD
      have := hpre i (by omega)
      rwa [getD_of (List.getElem?_eq_getElem hi)] at this
    have hall : ∀ (i : Nat) z H2, Adv [] H' H2 → vs[i]? = some z → ∃ p, z = .ref p ∧ H2 p = some (.tup [.int (prI (ps.getD i .none)).1, .int (prI (ps.getD i .none)).2]) := fun i z H2 g2 y1 => by
      obtain ⟨dt, z1, hdt⟩ := tp.get y1
      obtain ⟨p, h1, h2, _⟩ := prB_ints (hdt.up (g13.trans g2).tup) (List.all_eq_true.mp hpr _ (List.mem_of_getElem? z1))
      rw [getD_of z1]
      exact ⟨p, h1, h2⟩
    have hints : ∀ f : PyData → Int, ((List.range vs.length).filter fun _ => true).map (fun i => V.int (f (ps.getD i .none))) = (ps.map f).map V.int := fun f => by
      rw [filter_true, hvl, List.map_map]
      conv => rhs; rw [← range_getD ps .none]
      rw [List.map_map]
      rfl
    have hqd : ∀ c, (decide (ps.map (fun p => (prI p).1) = dx) && decide ((ps.map fun p => (prI p).2).Perm dy)) = c → ∀ H2, Adv [] H' H2 → Q (.bl c) H2 := fun c h H2 g => by
      have q1 := q H2 (g13.trans g)
      rwa [show ldsB dx dy (.tuple ps) = c by simp only [ldsB, hpr, Bool.true_and, h]] at q1
    walk_at "aw"
    refine ⟨pa, rfl, ⟨_, SqT.of (g13.tup _ _ ep)⟩, kLc_pure (walk_tup (xs := vs)) (by omega) (fun H' g => SqT.of ((g13.trans g).tup _ _ ep)) (fun _ => true) (fun i => .int (prI (ps.getD i .none)).1) (fun i z H2 H3 Kt Kf hi g2 yy kt kf => ?_) fun l2 H2 np2 g2 el2 => ?_⟩
    · obtain ⟨rfl, y1⟩ := yy
      obtain ⟨p, rfl, ep'⟩ := hall i z _ g2 y1
      walk_at "aw"
      refine ⟨rfl, ?_⟩
      walk_at "aw"
      refine w_ixT (SqT.of ep') (at_nat (by decide) rfl) ?_
      exact kt rfl _ (.refl _ _)
    rw [hints fun p => (prI p).1] at el2
    walk_at "aw"
    refine w_tupL (SqL.of el2) fun t1 H3 nt1 g3 et1 => ?_
    walk_at "aw"
    have g14 := g13.trans (g2.trans g3)
    refine w_eqI (SqT.of et1) (g14.tup _ _ eqx) ?_
    walk_at "aw"
    cases hc : decide (ps.map (fun p => (prI p).1) = dx) with
    | false =>
      refine iteF'' rfl ?_
      exact hqd false (by rw [hc, Bool.false_and]) H3 (g2.trans g3)
    | true =>
    refine iteT'' rfl ?_
    walk_at "aw"
    refine ⟨pa, rfl, ⟨_, SqT.of (g14.tup _ _ ep)⟩, kLc_pure (walk_tup (xs := vs)) (by omega) (fun H' g => SqT.of ((g14.trans g).tup _ _ ep)) (fun _ => true) (fun i => .int (prI (ps.getD i .none)).2) (fun i z H4 H5 Kt Kf hi g4 yy kt kf => ?_) fun l4 H4 np4 g4 el4 => ?_⟩
    · obtain ⟨rfl, y1⟩ := yy
      obtain ⟨p, rfl, ep'⟩ := hall i z _ ((g2.trans g3).trans g4) y1
      walk_at "aw"
      refine ⟨rfl, ?_⟩
      walk_at "aw"
      refine w_ixT (SqT.of ep') (at_nat (by decide) rfl) ?_
      exact kt rfl _ (.refl _ _)
    rw [hints fun p => (prI p).2] at el4
    walk_at "aw"
    refine ⟨l4, _, rfl, SqL.of el4, fun ns' s hp hs nsn => ?_⟩
    walk_at "aw"
    have g5 := Adv.new (o := .lst (ns'.map V.int)) nsn
    refine w_tupL (SqL.of upd_same) fun t5 H6 nt5 g6 et5 => ?_
    walk_at "aw"
    have g16 := g14.trans (g4.trans (g5.trans g6))
    refine w_eqI (SqT.of et5) (g16.tup _ _ eqy) ?_
    rw [sortI_eq hp hs hdy]
    exact hqd _ (by rw [hc, Bool.true_and]) H6 ((g2.trans g3).trans (g4.trans (g5.trans g6)))
theorem len__law_is_exchange {K : PySem.W.Frag} : ∀ (vs : List V) (H : Hp) (Q : VK) (E : XK), sp__law_is_exchange K vs H Q E → vs.length = 2 := fun vs H Q E h => by
  obtain ⟨_, _, rfl, _⟩ := h
  rfl
theorem pure__law_is_exchange {K : PySem.W.Frag} (vs : List V) (H : Hp) (Q : VK) (E : XK) (h : sp__law_is_exchange K vs H Q E) : t__law_is_exchange K { nx := fun _ H' => Q .non H', rt := Q } (start ["model", "value", "domains", "names", "one"] vs) H := by
  obtain ⟨m, v, rfl, doms, D, n, hm, mok, hD, hS, hn, q⟩ := h
  obtain ⟨ma, mb, o, rr, us, rfl, e1, e2, ho, hus⟩ := id hm
  obtain ⟨kd, hk1, hk2, hk3⟩ := unk_kvs hus
  show t__law_is_exchange K _ [some (.ref ma), some v, none, none, none] H
  unfold t__law_is_exchange
  walk_at "aw"
  refine w_ixT (SqT.of e1) (at_nat (by decide) rfl) ?_
  walk_at "aw"
  refine w_dictPt e2 ho hk1 hk2 (by rw [dom_keys hk3]; exact nodup_map_inj (fun a b z => Sum.inr.inj z) mok.nm.nd) fun dd H1 ndd a1 edd => ?_
  have hd1 : DomD H1 dd doms := ⟨kd, edd, dom_up hk3 a1.tup⟩
  have hD1 := hD.up a1.tup
  walk_at "aw"
  refine w_isiD hD1 (by simp) ?_
  walk_at "aw"
  cases hi : isiD D "tuple" with
  | false =>
    refine iteT'' rfl ?_
    walk_at "aw"
    have q1 := q H1 a1
    rw [ex_no' hi] at q1
    exact q1
  | true =>
  refine iteF'' rfl ?_
  walk_at "aw"
  obtain ⟨ws, rfl⟩ := isi_tup hD1 hi
  obtain ⟨k, hwl, hSw, hk⟩ : ∃ k, ws.length ≤ 60 ∧ (∀ w ∈ ws, Sw k w) ∧ k ≤ 60 := by
    cases hS with
    | tup l h => exact ⟨_, l, h, by omega⟩
  obtain ⟨va, vs, rfl, ev, tv⟩ := hD1.tup_inv
  have hvl := tv.length
  refine w_lstD (by simp) fun r H2 nr a2 er => ?_
  walk_at "aw"
  refine kForT_i (fun i σ' H' => ∃ (y4 : Option V), σ' = [some (.ref ma), some (.ref va), some (.ref dd), some (.ref r), y4] ∧ Adv [] H1 H' ∧ H' r = some (.lst (((ws.take i).map fstS).map V.str)) ∧ (∀ k, k < i → ledB doms (ws.getD k .none) = true) ∧ ascB ((ws.take i).map fstS) = true) (SqT.of (a2.tup _ _ ev))
    ⟨_, rfl, a2, er, fun k h => absurd h (Nat.not_lt_zero _), rfl⟩ (fun i σ' H' _ pp => by obtain ⟨_, _, a, _⟩ := pp; exact SqT.of (a.tup _ _ ev)) (fun i u σ' H' hu pp => ?_) fun σ' H' pp => ?_
  · obtain ⟨y4, rfl, a, er', hpre, hasc⟩ := pp
    obtain ⟨D, hDi, hD0⟩ := tv.get hu
    have hiw := (List.getElem?_eq_some_iff.mp hDi).1
    have hD := hD0.up a.tup
    have hd := hd1.up a
    have hgo : ledB doms D = false → ∀ H3, Adv [] H' H3 → Q (.bl false) H3 := fun hb H3 g => by
      have q1 := q H3 (a1.trans (a.trans g))
      rwa [show exB doms (.tuple ws) = false by simp only [exB, all_no (List.mem_of_getElem? hDi) hb, Bool.false_and]] at q1
    walk_at "aw"
    refine w_isiD hD (by simp) ?_
    walk_at "aw"
    cases hit : isiD D "tuple" with
    | false =>
      refine iteT'' rfl ?_
      walk_at "aw"
      exact hgo (led_tup hit) H' (.refl _ _)
    | true =>
    refine iteF'' rfl ?_
    walk_at "aw"
    obtain ⟨ds, rfl⟩ := isi_tup hD hit
    obtain ⟨p, xs, rfl, e, t⟩ := hD.tup_inv
    have hxl := t.length
    refine w_lenT (SqT.of e) ?_
    walk_at "aw"
    by_cases h3 : xs.length = 3
    case neg =>
      refine iteT'' (by rw [decide_eq_false fun y => h3 (by have := V.int.inj y; omega)]; rfl) ?_
      walk_at "aw"
      exact hgo (led_len fun z => h3 (by rw [hxl, z])) H' (.refl _ _)
    refine iteF'' (by rw [h3]; rfl) ?_
    walk_at "aw"
    obtain ⟨d1, d2, P, rfl⟩ : ∃ d1 d2 d3, ds = [d1, d2, d3] := by
      have hd3 : ds.length = 3 := by omega
      match ds, hd3 with
      | [a, b, c], _ => exact ⟨a, b, c, rfl⟩
    match xs, t with
    | [u1, u2, u3], .cons ha (.cons hb (.cons hP .nil)) =>
    refine w_ixT (SqT.of e) (at_nat (by decide) rfl) ?_
    walk_at "aw"
    refine w_isiD ha (by simp) ?_
    walk_at "aw"
    cases hsa : isiD d1 "str" with
    | false =>
      refine iteT'' rfl ?_
      walk_at "aw"
      exact hgo (by simp only [ledB, name_no hsa, Bool.false_and]) H' (.refl _ _)
    | true =>
    refine iteF'' rfl ?_
    walk_at "aw"
    refine w_ixT (SqT.of e) (at_nat (by decide) rfl) ?_
    walk_at "aw"
    refine w_isiD hb (by simp) ?_
    walk_at "aw"
    cases hsb : isiD d2 "str" with
    | false =>
      refine iteT'' rfl ?_
      walk_at "aw"
      exact hgo (by simp only [ledB, name_no hsb, Bool.false_and, Bool.and_false]) H' (.refl _ _)
    | true =>
    refine iteF'' rfl ?_
    walk_at "aw"
    obtain ⟨x, rfl⟩ := isi_str ha hsa
    obtain ⟨y, rfl⟩ := isi_str hb hsb
    cases ha
    cases hb
    refine w_dnin ?_
    walk_at "aw"
    refine w_ixT (SqT.of e) (at_nat (by decide) rfl) ?_
    walk_at "aw"
    obtain ⟨kv, ek, hkx⟩ := hd.has x
    refine ⟨dd, _, rfl, DGet.k (k := Sum.inr x) ek, ?_⟩
    rw [hkx]
    walk_at "aw"
    by_cases hx : x ∈ doms.map (·.1)
    case neg =>
      refine iteT'' (by rw [decide_eq_false hx]; rfl) ?_
      walk_at "aw"
      exact hgo (by simp only [ledB, nameIn, decide_eq_false hx, Bool.false_and]) H' (.refl _ _)
    refine iteF'' (by rw [decide_eq_true hx]; rfl) ?_
    walk_at "aw"
    refine w_dnin ?_
    walk_at "aw"
    refine w_ixT (SqT.of e) (at_nat (by decide) rfl) ?_
    walk_at "aw"
    obtain ⟨kv2, ek2, hky⟩ := hd.has y
    refine ⟨dd, _, rfl, DGet.k (k := Sum.inr y) ek2, ?_⟩
    rw [hky]
    walk_at "aw"
    by_cases hy : y ∈ doms.map (·.1)
    case neg =>
      refine iteT'' (by rw [decide_eq_false hy]; rfl) ?_
      walk_at "aw"
      exact hgo (by simp only [ledB, nameIn, decide_eq_false hy, Bool.false_and, Bool.and_false]) H' (.refl _ _)
    refine iteF'' (by rw [decide_eq_true hy]; rfl) ?_
    walk_at "aw"
    obtain ⟨kx, qx, ekx, hvx, eqx⟩ := hd.get mok.nm.nd hx
    obtain ⟨ky, qy, eky, hvy, eqy⟩ := hd.get mok.nm.nd hy
    have hled : ledB doms (.tuple [.str x, .str y, P]) = ldsB (domF doms x) (domF doms y) P := by
      simp only [ledB, nameIn, decide_eq_true hx, decide_eq_true hy, Bool.true_and, txtD]
    refine w_ixT (SqT.of e) (at_nat (by decide) rfl) ?_
    refine kDGet_i (k := .inr x) ekx hvx ?_
    walk_at "aw"
    refine w_ixT (SqT.of e) (at_nat (by decide) rfl) ?_
    refine kDGet_i (k := .inr y) eky hvy ?_
    walk_at "aw"
    refine w_ixT (SqT.of e) (at_nat (by decide) rfl) ?_
    walk_at "aw"
    have hSP : Sw (k - 1) P ∧ k - 1 ≤ 60 := by
      have h := hSw _ (List.mem_of_getElem? hDi)
      cases h with
      | tup _ h => exact ⟨h P (by simp), by omega⟩
    refine ⟨qx, qy, u3, rfl, domF doms x, domF doms y, P, _, eqx, eqy, (mok.dm _ (domF_mem mok.nm.nd hy)).asc, hP, hSP.1, hSP.2, fun H3 g3 => ?_⟩
    walk_at "aw"
    cases hld : ldsB (domF doms x) (domF doms y) P with
    | false =>
      refine iteT'' rfl ?_
      walk_at "aw"
      exact hgo (hled.trans hld) H3 g3
    | true =>
    refine iteF'' rfl ?_
    walk_at "aw"
    have er3 := g3.keep _ _ (fun z => nomatch z) er'
    have e3 := g3.tup _ _ e
    have hfx : (ws.take (i + 1)).map fstS = (ws.take i).map fstS ++ [x] := by
      rw [List.take_add_one, hDi, List.map_append]
      rfl
    have hlt : ((ws.take i).map fstS).length = i := by rw [List.length_map, List.length_take]; omega
    refine w_lenL (SqL.of er3) ?_
    rw [List.length_map, hlt]
    walk_at "aw"
    have hfin : (ascB ((ws.take (i + 1)).map fstS) = true) → ∃ (y4 : Option V), [some (V.ref ma), some (.ref va), some (.ref dd), some (.ref r), some (.ref p)] = [some (V.ref ma), some (.ref va), some (.ref dd), some (.ref r), y4] ∧ Adv [] H1 (upd H3 r (.lst (((ws.take i).map fstS).map V.str ++ [V.str x]))) ∧ upd H3 r (.lst (((ws.take i).map fstS).map V.str ++ [V.str x])) r = some (.lst (((ws.take (i + 1)).map fstS).map V.str)) ∧ (∀ k, k < i + 1 → ledB doms (ws.getD k .none) = true) ∧ ascB ((ws.take (i + 1)).map fstS) = true := fun hac => by
      refine ⟨_, rfl, (a.trans g3).mut nr er3 (fun _ z => by cases z), by rw [upd_same, hfx, List.map_append]; rfl, fun k hk => ?_, hac⟩
      by_cases z : k = i
      · rw [z, getD_of hDi, hled, hld]
      · exact hpre k (by omega)
    refine w_iteB (fun h0 => ?_) fun h0 => ?_
    · have h0' : 0 < i := by omega
      walk_at "aw"
      refine w_ixL (SqL.of er3) (v := .str (((ws.take i).map fstS).getD (i - 1) Str.empty)) ?_ ?_
      · unfold atI ixN
        rw [if_neg (by decide), if_pos (by rw [List.length_map, hlt]; omega), List.length_map, hlt, Option.bind_some, show (-1 + ((i : Nat) : Int)).toNat = i - 1 by omega, List.getElem?_map, List.getElem?_eq_getElem (by rw [hlt]; omega), getD_of (List.getElem?_eq_getElem (by rw [hlt]; omega))]
        rfl
      walk_at "aw"
      refine w_ixT (SqT.of e3) (at_nat (by decide) rfl) ?_
      refine ⟨_, _, rfl, rfl, ?_⟩
      walk_at "aw"
      by_cases hls : ltS (((ws.take i).map fstS).getD (i - 1) Str.empty) x
      case neg =>
        refine iteT'' (by rw [decide_eq_false (p := _ < _) hls]; rfl) ?_
        walk_at "aw"
        have q1 := q H3 (a1.trans (a.trans g3))
        have hno : ascB (ws.map fstS) = false := by
          rw [← Bool.not_eq_true]
          intro z
          have h1 := asc_take z (i + 1)
          rw [← List.map_take, hfx, asc_snoc] at h1
          rw [hlt] at h1
          exact hls (h1.2 h0')
        rwa [show exB doms (.tuple ws) = false by simp only [exB, hno, Bool.false_and, Bool.and_false]] at q1
      refine iteF'' (by rw [decide_eq_true (p := _ < _) hls]; rfl) ?_
      walk_at "aw"
      refine w_app rfl er3 ?_
      walk_at "aw"
      refine w_ixT (SqT.of e3) (at_nat (by decide) rfl) ?_
      walk_at "aw"
      refine w_append er3 (by rw [List.length_map, hlt]; omega) ?_
      walk_at "aw"
      exact hfin (by rw [hfx, asc_snoc, hlt]; exact ⟨hasc, fun _ => hls⟩)
    · walk_at "aw"
      refine w_app rfl er3 ?_
      walk_at "aw"
      refine w_ixT (SqT.of e3) (at_nat (by decide) rfl) ?_
      walk_at "aw"
      refine w_append er3 (by rw [List.length_map, hlt]; omega) ?_
      walk_at "aw"
      exact hfin (by rw [hfx, asc_snoc, hlt]; exact ⟨hasc, fun z => absurd z (by omega)⟩)
  · obtain ⟨y4, rfl, a, er', hpre, hasc⟩ := pp
    rw [hvl, List.take_length] at er' hasc
    have hpr : ws.all (ledB doms) = true := List.all_eq_true.mpr fun D hD => by
      obtain ⟨i, hi, rfl⟩ := List.mem_iff_getElem.mp hD
      have := hpre i (by omega)
      rwa [getD_of (List.getElem?_eq_getElem hi)] at this
    have hqd : ∀ c, decide ((ws.map sndS).Perm (ws.map fstS)) = c → ∀ H2, Adv [] H' H2 → Q (.bl c) H2 := fun c h H2 g => by
      have q1 := q H2 (a1.trans (a.trans g))
      rwa [show exB doms (.tuple ws) = c by simp only [exB, hpr, hasc, Bool.true_and, h]] at q1
    have hall : ∀ (i : Nat) z H3, Adv [] H' H3 → vs[i]? = some z → ∃ p w, z = .ref p ∧ H3 p = some (.tup [.str (fstS (ws.getD i .none)), .str (sndS (ws.getD i .none)), w]) := fun i z H3 g3 y1 => by
      obtain ⟨dt, z1, hdt⟩ := tv.get y1
      obtain ⟨p, w, h1, h2, _⟩ := led_txt (hdt.up (a.trans g3).tup) (List.all_eq_true.mp hpr _ (List.mem_of_getElem? z1))
      rw [getD_of z1]
      exact ⟨p, w, h1, h2⟩
    have hok : ∀ w ∈ ws, okS (fstS w) ∧ okS (sndS w) := fun w hw => by
      obtain ⟨i, hi, rfl⟩ := List.mem_iff_getElem.mp hw
      obtain ⟨z, _, hz⟩ := tv.get' (List.getElem?_eq_getElem hi)
      obtain ⟨_, _, _, _, h1, h2⟩ := led_txt hz (List.all_eq_true.mp hpr _ hw)
      exact ⟨mok.nm.ok _ h1, mok.nm.ok _ h2⟩
    have htx : ∀ f : PyData → Str, ((List.range vs.length).filter fun _ => true).map (fun i => V.str (f (ws.getD i .none))) = (ws.map f).map V.str := fun f => by
      rw [filter_true, hvl, List.map_map]
      conv => rhs; rw [← range_getD ws .none]
      rw [List.map_map]
      rfl
    walk_at "aw"
    refine ⟨va, rfl, ⟨_, SqT.of (a.tup _ _ ev)⟩, kLc_pure (walk_tup (xs := vs)) (by omega) (fun H' g => SqT.of ((a.trans g).tup _ _ ev)) (fun _ => true) (fun i => .str (sndS (ws.getD i .none))) (fun i z H5 H6 Kt Kf hi g5 yy kt kf => ?_) fun l5 H5 np5 g5 el5 => ?_⟩
    · obtain ⟨rfl, y1⟩ := yy
      obtain ⟨p, w, rfl, ep'⟩ := hall i z _ g5 y1
      walk_at "aw"
      refine ⟨rfl, ?_⟩
      walk_at "aw"
      refine w_ixT (SqT.of ep') (at_nat (by decide) rfl) ?_
      exact kt rfl _ (.refl _ _)
    rw [htx sndS] at el5
    walk_at "aw"
    refine w_sortS' el5 (by rw [List.length_map]; omega) fun ns' s H6 hp hs nsn g6 es => ?_
    walk_at "aw"
    refine w_eqLS es ((g5.trans g6).keep _ _ (fun z => nomatch z) er') (fun x hx => ?_) (fun x hx => ?_) ?_
    · obtain ⟨w, hw, rfl⟩ := List.mem_map.mp (hp.subset hx)
      exact (hok w hw).2
    · obtain ⟨w, hw, rfl⟩ := List.mem_map.mp hx
      exact (hok w hw).1
    · rw [sortS_eq hp hs hasc]
      exact hqd _ rfl H6 (g5.trans g6)
end AW
/-! expressions that make data of a bounded depth, while the pool is drawn from -/
namespace AW
open PySem PySem.Spec PyProof.Rows L2 RZ
section
variable {K : PySem.W.Frag} {st : Addr} {cs : Addr × Addr} {σ : L2.St} {H : Hp} {te tf : TE} {ta : TA} {n m d e : Nat}
def GI (st : Addr) (cs : Addr × Addr) (te : TE) (σ : L2.St) (H : Hp) : Prop := ∀ (H' : Hp) (Q : VK), Go st cs H H' → (∀ (k : Int) H'', Go st cs H' H'' → Q (.int k) H'') → te σ H' Q
/-- a small whole number comes out -/
def GI' (st : Addr) (cs : Addr × Addr) (te : TE) (σ : L2.St) (H : Hp) : Prop := ∀ (H' : Hp) (Q : VK), Go st cs H H' → (∀ (k : Int) H'', Go st cs H' H'' → k.natAbs < 1000 → Q (.int k) H'') → te σ H' Q
def GE (st : Addr) (cs : Addr × Addr) (d : Nat) (te : TE) (σ : L2.St) (H : Hp) : Prop := ∀ (H' : Hp) (Q : VK), Go st cs H H' → (∀ v H'', Go st cs H' H'' → Dat d H'' v → Q v H'') → te σ H' Q
def GT (st : Addr) (cs : Addr × Addr) (d n : Nat) (te : TE) (σ : L2.St) (H : Hp) : Prop := ∀ (H' : Hp) (Q : VK), Go st cs H H' → (∀ a xs H'', Go st cs H' H'' → H'' a = some (.tup xs) → AllDat d H'' xs → xs.length ≤ n → Q (.ref a) H'') → te σ H' Q
def GA (st : Addr) (cs : Addr × Addr) (d n : Nat) (ta : TA) (σ : L2.St) (H : Hp) : Prop := ∀ (H' : Hp) (Q : List V → Hp → Prop), Go st cs H H' → (∀ vs H'', Go st cs H' H'' → AllDat d H'' vs → vs.length = n → Q vs H'') → ta σ H' Q
def GP (st : Addr) (cs : Addr × Addr) (to : TO) (σ : L2.St) (H : Hp) : Prop := ∀ (H' : Hp) (Q : Option Int → Hp → Prop), Go st cs H H' → (∀ o H'', Go st cs H' H'' → Q o H'') → to σ H' Q
def GS (st : Addr) (cs : Addr × Addr) (n : Nat) (te : TE) (σ : L2.St) (H : Hp) : Prop := ∀ (H' : Hp) (Q : VK), Go st cs H H' → (∀ (x : Str) H'', Go st cs H' H'' → okS x → x.length ≤ n → Q (.str x) H'') → te σ H' Q
theorem GI.ge (h : GI st cs te σ H) : GE st cs d te σ H := fun H' Q a q => h H' Q a fun k H'' a' => q _ H'' a' ⟨_, .int k, .int k⟩
theorem GI'.gi (h : GI' st cs te σ H) : GI st cs te σ H := fun H' Q a q => h H' Q a fun k H'' a' _ => q _ H'' a'
theorem GS.ge (h : GS st cs n te σ H) : GE st cs d te σ H := fun H' Q a q => h H' Q a fun x H'' a' ok _ => q _ H'' a' ⟨_, .str x, .str ok⟩
theorem GT.ge (h : GT st cs d n te σ H) (hn : n ≤ 60 := by decide) (z : d + 1 ≤ e := by decide) : GE st cs e te σ H := fun H' Q a q => h H' Q a fun p xs H'' a' ee dd hl => q _ H'' a' (Dat.mono (.tup ee dd (Nat.le_trans hl hn)) z)
theorem gi_c {k : Int} : GI st cs (tC (.int k)) σ H := fun H' Q a q => q k H' (.refl a.ok)
theorem gi_var {i : Nat} {k : Int} (h : σ[i]? = some (some (.int k))) : GI st cs (tVar i) σ H := fun H' Q a q => ⟨_, h, q k H' (.refl a.ok)⟩
theorem gi_add (h : GI st cs te σ H) (g : GI st cs tf σ H) : GI st cs (tOp rAddI te tf) σ H := fun H' Q a q => h H' _ a fun k H1 a1 => g H1 _ (a.trans a1) fun l H2 a2 => ⟨k, l, rfl, rfl, q _ H2 (a1.trans a2)⟩
theorem gi_neg (h : GI st cs te σ H) : GI st cs (tUn rNeg te) σ H := fun H' Q a q => h H' _ a fun k H1 a1 => ⟨k, rfl, q _ H1 a1⟩
theorem gi_pow {a b : Int} (c : CPow a b) : GI st cs (tOp rPowI (tC (.int a)) (tC (.int b))) σ H := fun H' Q g q => ⟨a, b, rfl, rfl, c, q _ H' (.refl g.ok)⟩
theorem ge_c {v : V} (h : Dat d H v) : GE st cs d (tC v) σ H := fun H' Q a q => q v H' (.refl a.ok) (h.up a.tk)
theorem ge_bl {b : Bool} : GE st cs d (tC (.bl b)) σ H := ge_c ⟨_, .bl b, .bl b⟩
theorem ge_non : GE st cs d (tC .non) σ H := ge_c ⟨_, .non, .non⟩
theorem ge_int {k : Int} : GE st cs d (tC (.int k)) σ H := ge_c ⟨_, .int k, .int k⟩
theorem ge_str {x : Str} (ok : okS x) : GE st cs d (tC (.str x)) σ H := ge_c ⟨_, .str x, .str ok⟩
theorem ge_var {i : Nat} {v : V} (h : σ[i]? = some (some v)) (dd : Dat d H v) : GE st cs d (tVar i) σ H := fun H' Q a q => ⟨v, h, q v H' (.refl a.ok) (dd.up a.tk)⟩
theorem gt_var {i : Nat} {a : Addr} {xs : List V} (h : σ[i]? = some (some (.ref a))) (e : H a = some (.tup xs)) (dd : AllDat d H xs) (hl : xs.length ≤ n) : GT st cs d n (tVar i) σ H := fun H' Q g q => ⟨_, h, q a xs H' (.refl g.ok) (g.tk _ _ e) (dd.up g.tk) hl⟩
theorem ge_eq (h : GI st cs te σ H) (g : GI st cs tf σ H) : GE st cs d (tOp rEq te tf) σ H := fun H' Q a q => h H' _ a fun k H1 a1 => g H1 _ (a.trans a1) fun l H2 a2 => ⟨rfl, q _ H2 (a1.trans a2) ⟨_, .bl _, .bl _⟩⟩
theorem ga_nil : GA st cs d 0 tNil σ H := fun H' Q a q => q [] H' (.refl a.ok) (fun _ h => nomatch h) rfl
theorem ga_cons (h : GE st cs d te σ H) (g : GA st cs d n ta σ H) : GA st cs d (n + 1) (tCons te ta) σ H := fun H' Q a q => h H' _ a fun v H1 a1 dd => g H1 _ (a.trans a1) fun vs H2 a2 ds hl => q _ H2 (a1.trans a2) (fun x hx => by
  rcases List.mem_cons.mp hx with rfl | hx
  · exact dd.up a2.tk
  · exact ds x hx) (by rw [List.length_cons, hl])
theorem gt_tup (h : GA st cs d n ta σ H) (hn : n ≤ 100000 := by decide) : GT st cs d n (tTup ta) σ H := fun H' Q a q => h H' _ a fun vs H1 a1 dd hl => w_tupD (by omega) fun t H2 nt a2 e => q t vs H2 (a1.new a2) e (dd.up a2.tup) (by omega)
theorem gt_cat (h : GT st cs d n te σ H) (g : GT st cs d m tf σ H) (hz : n + m ≤ 100000 := by decide) : GT st cs d (n + m) (tOp (rCatA K) te tf) σ H := fun H' Q a q => h H' _ a fun p xs H1 a1 e dd hl => g H1 _ (a.trans a1) fun r ys H2 a2 e2 d2 hl2 =>
  w_catT' (a2.tk _ _ e) e2 (by omega) fun t H3 a3 e3 => q t _ H3 (a1.trans (a2.new a3)) e3 (fun x hx => by
    rcases List.mem_append.mp hx with hx | hx
    · exact ((dd x hx).up a2.tk).up a3.tup
    · exact (d2 x hx).up a3.tup) (by rw [List.length_append]; omega)
theorem gp_no : GP st cs tNoPart σ H := fun H' Q a q => q none H' (.refl a.ok)
theorem gp_int (h : GI st cs te σ H) : GP st cs (tPart te) σ H := fun H' Q a q => h H' _ a fun k H1 a1 => ⟨k, rfl, q _ H1 a1⟩
theorem gt_slA {lo hi : TO} (h : GT st cs d n te σ H) (l : GP st cs lo σ H) (u : GP st cs hi σ H) : GT st cs d n (tSl (rSlA K) te lo hi) σ H := fun H' Q a q => h H' _ a fun p xs H1 a1 e dd hl => l H1 _ (a.trans a1) fun o H2 a2 => u H2 _ (a.trans (a1.trans a2)) fun o2 H3 a3 =>
  w_slA ((a2.trans a3).tk _ _ e) fun t H4 a4 e4 => q t _ H4 (a1.trans ((a2.trans a3).new a4)) e4 (fun x hx => ((dd x (cut_mem hx)).up (a2.trans a3).tk).up a4.tup) (Nat.le_trans (cutV_length xs o o2) hl)
theorem gs_var {i : Nat} {x : Str} (h : σ[i]? = some (some (.str x))) (ok : okS x) (hl : x.length ≤ n) : GS st cs n (tVar i) σ H := fun H' Q a q => ⟨_, h, q x H' (.refl a.ok) ok hl⟩
theorem gs_c {x : Str} (ok : okS x) (hl : x.length ≤ n) : GS st cs n (tC (.str x)) σ H := fun H' Q a q => q x H' (.refl a.ok) ok hl
theorem gs_add (h : GS st cs n te σ H) (g : GS st cs m tf σ H) (hz : n + m ≤ 100000 := by decide) : GS st cs (n + m) (tOp rAddS te tf) σ H := fun H' Q a q => h H' _ a fun x H1 a1 ok hl => g H1 _ (a.trans a1) fun y H2 a2 ok2 hl2 =>
  ⟨x, y, rfl, rfl, Nat.le_trans (show x.length + y.length ≤ 100000 by omega) (by decide), q _ H2 (a1.trans a2) (okS_app ok ok2) (by rw [show (x ++ y).length = x.length + y.length from Array.size_append ..]; omega)⟩
theorem okS_of (s : String) : okS (Str.ofString s) := by
  rw [okS_iff]
  intro c hc
  rw [Str.ofString_eq_toList] at hc
  have hc : c ∈ s.toList.map Char.toNat := by simpa using hc
  obtain ⟨d, _, rfl⟩ := List.mem_map.mp hc
  rcases d.valid with h | h
  · exact Nat.lt_trans h (by decide)
  · exact h.2
theorem okS_num {k : Int} : okS (Str.ofString (toString k)) := okS_of _
theorem ge_str1 (h : GI' st cs te σ H) : GE st cs d (tCB rStr1 (tCons te tNil)) σ H := fun H' Q a q => h H' _ a fun k H1 a1 hk => w_str hk (q _ H1 a1 ⟨_, .str _, .str okS_num⟩)
/-- an item of a tuple -/
theorem ge_ix {i j : Nat} {a : Addr} {xs : List V} {k : Int} (h : σ[i]? = some (some (.ref a))) (e : H a = some (.tup xs)) (dd : AllDat d H xs) (h2 : σ[j]? = some (some (.int k))) (k0 : 0 ≤ k) (k1 : k < xs.length) : GE st cs d (tOp (rIxT K) (tVar i) (tVar j)) σ H := fun H' Q g q => ⟨_, h, _, h2, w_ixT (SqT.of (g.tk _ _ e)) (at_nat (v := xs[k.toNat]'(by omega)) k0 (List.getElem?_eq_getElem (by omega))) (q _ H' (.refl g.ok) ((dd _ (List.getElem_mem _)).up g.tk))⟩
/-- a part of a pair of a tuple of pairs -/
theorem gi_pair0 {i j : Nat} {a : Addr} {vs : List V} {ps : List (Int × Int)} {k : Int} (h : σ[i]? = some (some (.ref a))) (e : H a = some (.tup vs)) (hp : PairsAt H vs ps) (hb : ∀ ab ∈ ps, ab.1.natAbs < 1000 ∧ ab.2.natAbs < 1000) (h2 : σ[j]? = some (some (.int k))) (k0 : 0 ≤ k) (k1 : k < ps.length) : GI' st cs (tOp (rIxT K) (tOp (rIxT K) (tVar i) (tVar j)) (tC (.int 0))) σ H := fun H' Q g q => by
  have hl := hp.1
  obtain ⟨t, ab, h3, h4, h5⟩ := hp.2 k.toNat (vs[k.toNat]'(by omega)) (List.getElem?_eq_getElem (by omega))
  refine ⟨_, h, _, h2, w_ixT (SqT.of (g.tk _ _ e)) (at_nat (v := vs[k.toNat]'(by omega)) k0 (List.getElem?_eq_getElem (by omega))) ?_⟩
  rw [h3]
  exact w_ixT (SqT.of (g.tk _ _ h5)) (at_nat (by decide) rfl) (q _ H' (.refl g.ok) (hb _ (List.mem_of_getElem? h4)).1)
theorem gi_pair1 {i j : Nat} {a : Addr} {vs : List V} {ps : List (Int × Int)} {k : Int} (h : σ[i]? = some (some (.ref a))) (e : H a = some (.tup vs)) (hp : PairsAt H vs ps) (hb : ∀ ab ∈ ps, ab.1.natAbs < 1000 ∧ ab.2.natAbs < 1000) (h2 : σ[j]? = some (some (.int k))) (k0 : 0 ≤ k) (k1 : k < ps.length) : GI' st cs (tOp (rIxT K) (tOp (rIxT K) (tVar i) (tVar j)) (tC (.int 1))) σ H := fun H' Q g q => by
  have hl := hp.1
  obtain ⟨t, ab, h3, h4, h5⟩ := hp.2 k.toNat (vs[k.toNat]'(by omega)) (List.getElem?_eq_getElem (by omega))
  refine ⟨_, h, _, h2, w_ixT (SqT.of (g.tk _ _ e)) (at_nat (v := vs[k.toNat]'(by omega)) k0 (List.getElem?_eq_getElem (by omega))) ?_⟩
  rw [h3]
  exact w_ixT (SqT.of (g.tk _ _ h5)) (at_nat (by decide) rfl) (q _ H' (.refl g.ok) (hb _ (List.mem_of_getElem? h4)).2)
theorem PairsAt.dat {vs : List V} {ps : List (Int × Int)} (h : PairsAt H vs ps) : AllDat 1 H vs := fun x hx => by
  obtain ⟨i, hi, rfl⟩ := List.mem_iff_getElem.mp hx
  obtain ⟨t, ab, h3, h4, h5⟩ := h.2 i _ (List.getElem?_eq_getElem hi)
  rw [h3]
  exact .tup h5 (fun x hx => by
    simp only [List.mem_cons, List.not_mem_nil, or_false] at hx
    rcases hx with rfl | rfl
    · exact ⟨_, .int _, .int _⟩
    · exact ⟨_, .int _, .int _⟩) (by simp)
theorem gt_pair {i j : Nat} {a : Addr} {vs : List V} {ps : List (Int × Int)} {k : Int} (h : σ[i]? = some (some (.ref a))) (e : H a = some (.tup vs)) (hp : PairsAt H vs ps) (h2 : σ[j]? = some (some (.int k))) (k0 : 0 ≤ k) (k1 : k < ps.length) : GT st cs 0 2 (tOp (rIxT K) (tVar i) (tVar j)) σ H := fun H' Q g q => by
  have hl := hp.1
  obtain ⟨t, ab, h3, h4, h5⟩ := hp.2 k.toNat (vs[k.toNat]'(by omega)) (List.getElem?_eq_getElem (by omega))
  refine ⟨_, h, _, h2, w_ixT (SqT.of (g.tk _ _ e)) (at_nat (v := vs[k.toNat]'(by omega)) k0 (List.getElem?_eq_getElem (by omega))) ?_⟩
  rw [h3]
  exact q t _ H' (.refl g.ok) (g.tk _ _ h5) (fun x hx => by
    simp only [List.mem_cons, List.not_mem_nil, or_false] at hx
    rcases hx with rfl | rfl
    · exact ⟨_, .int _, .int _⟩
    · exact ⟨_, .int _, .int _⟩) (by simp)
theorem GT.mono (h : GT st cs d n te σ H) (z : d ≤ e := by decide) : GT st cs e n te σ H := fun H' Q a q => h H' Q a fun p xs H'' a' ee dd l => q p xs H'' a' ee (dd.mono z) l
theorem GE.mono (h : GE st cs d te σ H) (z : d ≤ e := by decide) : GE st cs e te σ H := fun H' Q a q => h H' Q a fun v H'' a' dd => q v H'' a' (dd.mono z)
theorem w_pickD {E : XK} {p : Addr} {xs : List V} {Q : VK} (ok : StOk st cs H) (e : H p = some (.lst xs)) (np : Off p st cs) (dd : AllDat d H xs) (h0 : 0 < xs.length) (h1 : xs.length < 1000000) (q : ∀ v H', Go st cs H H' → Dat d H' v → Q v H') : sp__law_pick K [.ref st, .ref p] H Q E :=
  ⟨st, p, rfl, cs, xs, ok, .inl ⟨SqL.of e, np⟩, h0, h1, fun i v H' hv g => q v H' g ((dd v (List.mem_of_getElem? hv)).up g.tk)⟩
/-- a datum picked from a list of n data -/
theorem ge_pick (h0 : σ[0]? = some (some (.ref st))) (h : GA st cs d n ta σ H) (hn : n ≤ 1000 := by decide) (n0 : 0 < n := by decide) : GE st cs d (tCall (sp__law_pick K) [] E0 (tCons (tVar 0) (tCons (tLst ta) tNil))) σ H := fun H' Q a q =>
  ⟨_, h0, h H' _ a fun vs H1 a1 dd hl => ⟨by rw [sizeLine_eq]; omega, fun l nl => w_pickD (E := E0) (a1.new (Adv.new nl)).ok upd_same (a1.ok.ne nl).1 (dd.up (Adv.new (o := .lst vs) nl).tup) (by omega) (by omega) fun v H3 g3 d3 => q v H3 ((a1.new (Adv.new nl)).trans g3) d3⟩⟩
theorem ge_ret {D : Ends} (ok : StOk st cs H) (h : GE st cs d te σ H) (q : ∀ v H', Go st cs H H' → Dat d H' v → D.rt v H') : tRet te D σ H := h H _ (.refl ok) q
/-- a list of data -/
theorem gl_lst {Q : VK} {H' : Hp} (h : GA st cs d n ta σ H) (hn : n ≤ 100000) (a : Go st cs H H') (q : ∀ l xs H'', H' l = none → Go st cs H' H'' → H'' l = some (.lst xs) → AllDat d H'' xs → xs.length = n → Q (.ref l) H'') : tLst ta σ H' Q :=
  h H' _ a fun vs H1 a1 dd hl => ⟨by rw [sizeLine_eq]; omega, fun l nl => q l vs _ (a1.free a.ok nl) (a1.new (Adv.new nl)) upd_same (dd.up (Adv.new (o := .lst vs) nl).tup) hl⟩
theorem w_catB {a b : Addr} {xs ys : List V} {Q : VK} (h1 : H a = some (.lst xs)) (h2 : H b = some (.lst ys)) (hz : xs.length + ys.length ≤ 16777216) (q : ∀ r H', H r = none → Adv [] H H' → H' r = some (.lst (xs ++ ys)) → Q (.ref r) H') : rCat (.ref a) (.ref b) H Q :=
  ⟨a, b, xs, ys, rfl, rfl, h1, h2, by rw [sizeLine_eq]; omega, w_new q⟩
/-- one of the list that a name holds -/
theorem ge_pickV {i : Nat} {l : Addr} {xs : List V} (h0 : σ[0]? = some (some (.ref st))) (h1 : σ[i]? = some (some (.ref l))) (e : H l = some (.lst xs)) (np : Off l st cs) (dd : AllDat d H xs) (n0 : 0 < xs.length) (n1 : xs.length < 1000000) : GE st cs d (tCall (sp__law_pick K) [] E0 (tCons (tVar 0) (tCons (tVar i) tNil))) σ H := fun H' Q a q =>
  ⟨_, h0, _, h1, w_pickD (E := E0) a.ok (a.keep np e) np (dd.up a.tk) n0 n1 q⟩
end
end AW
namespace AW
open PySem PySem.Spec PyProof.Rows L2 RZ
open StX
local macro_rules | `(tactic| walk_at "aw1") => `(tactic| first
  | (with_reducible refine w_seq ?_) | (with_reducible refine w_asg ?_) | (with_reducible refine w_gname ?_) | (with_reducible refine w_op ?_) | (with_reducible refine w_un ?_)
  | ((with_reducible refine' w_var ?h ?_); (case h => rfl)) | (with_reducible refine w_c ?_)
  | (with_reducible refine w_I0 ?_) | (with_reducible refine w_U ?_) | (with_reducible refine w_cb ?_) | (with_reducible refine w_nil ?_) | (with_reducible refine w_cons ?_) | (with_reducible refine w_call ?_)
  | (with_reducible refine w_test ?_) | (with_reducible refine w_B ?_) | (with_reducible refine w_bl ?_) | (with_reducible refine w_not ?_) | (with_reducible refine w_yes ?_) | (with_reducible refine iteT ?_) | (with_reducible refine iteF ?_) | (with_reducible refine w_and ?_) | (with_reducible refine w_or ?_)
  | (with_reducible refine w_andV ?_) | (with_reducible refine w_orV ?_) | (with_reducible refine w_notV ?_) | (with_reducible refine w_if ?_)
  | (with_reducible refine w_int1 ?_) | (with_reducible refine w_int1b ?_) | (with_reducible refine w_abs ?_) | (with_reducible refine w_max2 ?_) | (with_reducible refine w_min2 ?_)
  | ((with_reducible refine w_eq ?h ?_); (case h => rfl)) | ((with_reducible refine w_ne ?h ?_); (case h => rfl)) | (with_reducible refine w_isN ?_) | (with_reducible refine w_isB ?_) | (with_reducible refine w_chain ?_)
  | (with_reducible refine w_ret ?_) | (with_reducible refine w_drop ?_) | (with_reducible refine w_ifS ?_) | (with_reducible refine w_gsub ?_) | (with_reducible refine w_augS ?_) | (with_reducible refine w_ipI ?_) | (with_reducible refine w_next ?_)
  | (with_reducible refine w_forR ?_) | (with_reducible refine w_forR2 ?_) | (with_reducible refine w_forL ?_) | (with_reducible refine w_forT ?_) | (with_reducible refine w_lcR ?_) | (with_reducible refine w_lcL ?_) | (with_reducible refine w_lcT ?_) | (with_reducible refine w_sl ?_) | (with_reducible refine w_part ?_) | (with_reducible refine w_noPart ?_) | (with_reducible refine w_in ?_)
  | (with_reducible refine w_gcons ?_) | (with_reducible refine w_gnil ?_) | (with_reducible refine w_lc3 ?_) | (with_reducible refine w_dcZ ?_) | (with_reducible refine w_dcT ?_) | (with_reducible refine w_dg ?_) | (with_reducible refine w_callK ?_) | (with_reducible refine w_dput ?_) | (with_reducible refine w_tup1 ?_)
  | (with_reducible refine w_tup ?_) | (with_reducible refine w_lst ?_)
  | ((with_reducible refine w_I ?h ?_); (case h => first | (exact Or.inr ⟨by decide, by decide⟩) | (exact Or.inl ⟨by decide, by decide⟩) | (show (0 : Int) < _; decide) | (exact ⟨by decide, by decide, by decide⟩) | assumption)))
local macro_rules | `(tactic| walk_at "aw") => `(tactic| repeat (walk_at "aw1"))
def smallP (ps : List (Int × Int)) : Prop := ∀ ab ∈ ps, ab.1.natAbs < 1000 ∧ ab.2.natAbs < 1000
def sp__law_spoilt_pairs (_ : PySem.W.Frag) : Sp := fun vs H Q _ => ∃ (st p : Addr), vs = [.ref st, .ref p] ∧ ∃ cs us ps, StOk st cs H ∧ H p = some (.tup us) ∧ PairsAt H us ps ∧ smallP ps ∧ 1 ≤ ps.length ∧ ps.length ≤ 12 ∧ ∀ v H', Go st cs H H' → Dat 4 H' v → Q v H'
def sp__law_spoilt (_ : PySem.W.Frag) : Sp := fun vs H Q _ => ∃ (st e : Addr), vs = [.ref st, .ref e] ∧ ∃ cs L, StOk st cs H ∧ ExAt H e L ∧ L.length ≤ 24 ∧ (∀ r ∈ L, smallP r.2.2 ∧ 1 ≤ r.2.2.length ∧ r.2.2.length ≤ 12 ∧ okS r.1 ∧ okS r.2.1 ∧ r.1.length ≤ 100 ∧ r.2.1.length ≤ 100) ∧ ∀ v H', Go st cs H H' → Dat 8 H' v → Q v H'
theorem w_parD {i j : Nat} {ta : TA} {D : Ends} {σ : L2.St} {H : Hp} (h : ta σ H fun vs H1 => ∃ v w, vs = [v, w] ∧ D.nx ((σ.set i (some v)).set j (some w)) H1) : tPar i j ta D σ H := h
def t__law_spoilt_pairs (K : PySem.W.Frag) : TS := (tSeq (tPar 2 3 (tCons (tCall (sp__law_draw K) [] E0 (tCons (tVar 0) (tCons (tCB (rLen1 K) (tCons (tVar 1) tNil)) tNil))) (tCons (tCall (sp__law_draw K) [] E0 (tCons (tVar 0) (tCons (tCB (rLen1 K) (tCons (tVar 1) tNil)) tNil))) tNil)))
  (tSeq (tAsg (tCall (sp__law_draw K) [] E0 (tCons (tVar 0) (tCons (tC (.int 9)) tNil))) (gName 4))
  (tSeq (tIfS (tTest (tOp rEq (tVar 4) (tC (.int 0)))) (tRet (tOp (rCatA K) (tSl (rSlA K) (tVar 1) tNoPart (tPart (tVar 2))) (tSl (rSlA K) (tVar 1) (tPart (tOp rAddI (tVar 2) (tC (.int 1)))) tNoPart))) tNext)
  (tSeq (tIfS (tTest (tOp rEq (tVar 4) (tC (.int 1)))) (tRet (tOp (rCatA K) (tOp (rCatA K) (tSl (rSlA K) (tVar 1) tNoPart (tPart (tVar 2))) (tTup (tCons (tOp (rIxT K) (tVar 1) (tVar 3)) tNil))) (tSl (rSlA K) (tVar 1) (tPart (tOp rAddI (tVar 2) (tC (.int 1)))) tNoPart))) tNext)
  (tSeq (tIfS (tTest (tOp rEq (tVar 4) (tC (.int 2)))) (tRet (tOp (rCatA K) (tOp (rCatA K) (tSl (rSlA K) (tVar 1) tNoPart (tPart (tVar 2))) (tTup (tCons (tTup (tCons (tOp (rIxT K) (tOp (rIxT K) (tVar 1) (tVar 2)) (tC (.int 0))) (tCons (tOp (rIxT K) (tOp (rIxT K) (tVar 1) (tVar 3)) (tC (.int 1))) tNil))) tNil))) (tSl (rSlA K) (tVar 1) (tPart (tOp rAddI (tVar 2) (tC (.int 1)))) tNoPart))) tNext)
  (tSeq (tIfS (tTest (tOp rEq (tVar 4) (tC (.int 3)))) (tRet (tOp (rCatA K) (tOp (rCatA K) (tSl (rSlA K) (tVar 1) tNoPart (tPart (tVar 2))) (tTup (tCons (tTup (tCons (tOp (rIxT K) (tOp (rIxT K) (tVar 1) (tVar 2)) (tC (.int 0))) (tCons (tCall (sp__law_pick K) [] E0 (tCons (tVar 0) (tCons (tLst (tCons (tC (.int 200)) (tCons (tUn rNeg (tC (.int 7))) (tCons (tOp rPowI (tC (.int 10)) (tC (.int 29))) (tCons (tOp rAddI (tOp (rIxT K) (tOp (rIxT K) (tVar 1) (tVar 2)) (tC (.int 1))) (tC (.int 1))) tNil))))) tNil))) tNil))) tNil))) (tSl (rSlA K) (tVar 1) (tPart (tOp rAddI (tVar 2) (tC (.int 1)))) tNoPart))) tNext)
  (tSeq (tIfS (tTest (tOp rEq (tVar 4) (tC (.int 4)))) (tSeq (tAsg (tCall (sp__law_pick K) [] E0 (tCons (tVar 0) (tCons (tLst (tCons (tTup (tCons (tOp rEq (tOp (rIxT K) (tOp (rIxT K) (tVar 1) (tVar 2)) (tC (.int 0))) (tC (.int 1))) (tCons (tOp (rIxT K) (tOp (rIxT K) (tVar 1) (tVar 2)) (tC (.int 1))) tNil))) (tCons (tTup (tCons (tOp (rIxT K) (tOp (rIxT K) (tVar 1) (tVar 2)) (tC (.int 0))) (tCons (tOp rEq (tOp (rIxT K) (tOp (rIxT K) (tVar 1) (tVar 2)) (tC (.int 1))) (tC (.int 1))) tNil))) tNil))) tNil))) (gName 5))
  (tRet (tOp (rCatA K) (tOp (rCatA K) (tSl (rSlA K) (tVar 1) tNoPart (tPart (tVar 2))) (tTup (tCons (tVar 5) tNil))) (tSl (rSlA K) (tVar 1) (tPart (tOp rAddI (tVar 2) (tC (.int 1)))) tNoPart)))) tNext)
  (tSeq (tIfS (tTest (tOp rEq (tVar 4) (tC (.int 5)))) (tRet (tOp (rCatA K) (tSl (rSlA K) (tVar 1) (tPart (tC (.int 1))) tNoPart) (tSl (rSlA K) (tVar 1) tNoPart (tPart (tC (.int 1)))))) tNext)
  (tSeq (tIfS (tTest (tOp rEq (tVar 4) (tC (.int 6)))) (tRet (tOp (rCatA K) (tVar 1) (tTup (tCons (tTup (tCons (tC (.int 300)) (tCons (tC (.int 300)) tNil))) tNil)))) tNext)
  (tSeq (tIfS (tTest (tOp rEq (tVar 4) (tC (.int 7)))) (tSeq (tAsg (tCall (sp__law_pick K) [] E0 (tCons (tVar 0) (tCons (tLst (tCons (tTup tNil) (tCons (tOp (rCatA K) (tOp (rIxT K) (tVar 1) (tVar 2)) (tTup (tCons (tC (.int 0)) tNil))) (tCons (tC .non) (tCons (tC (.int 3)) (tCons (tC (.str "ab")) (tCons (tTup (tCons (tCB rStr1 (tCons (tOp (rIxT K) (tOp (rIxT K) (tVar 1) (tVar 2)) (tC (.int 0))) tNil)) (tCons (tOp (rIxT K) (tOp (rIxT K) (tVar 1) (tVar 2)) (tC (.int 1))) tNil))) tNil))))))) tNil))) (gName 5))
  (tRet (tOp (rCatA K) (tOp (rCatA K) (tSl (rSlA K) (tVar 1) tNoPart (tPart (tVar 2))) (tTup (tCons (tVar 5) tNil))) (tSl (rSlA K) (tVar 1) (tPart (tOp rAddI (tVar 2) (tC (.int 1)))) tNoPart)))) tNext)
  (tRet (tCall (sp__law_pick K) [] E0 (tCons (tVar 0) (tCons (tLst (tCons (tTup tNil) (tCons (tC .non) (tCons (tC (.str "")) (tCons (tC (.int 0)) (tCons (tC (.bl true)) (tCons (tTup (tCons (tTup tNil) tNil)) tNil))))))) tNil))))))))))))))
def t__law_spoilt (K : PySem.W.Frag) : TS := (tSeq (tIfS (tTest (tOp rEq (tCB (rLen1 K) (tCons (tVar 1) tNil)) (tC (.int 0)))) (tRet (tCall (sp__law_pick K) [] E0 (tCons (tVar 0) (tCons (tLst (tCons (tC .non) (tCons (tC (.int 0)) (tCons (tC (.str "")) (tCons (tTup (tCons (tTup tNil) tNil)) (tCons (tC (.bl false)) (tCons (tTup (tCons (tC (.str "x")) tNil)) tNil))))))) tNil)))) tNext)
  (tSeq (tPar 2 3 (tCons (tCall (sp__law_draw K) [] E0 (tCons (tVar 0) (tCons (tCB (rLen1 K) (tCons (tVar 1) tNil)) tNil))) (tCons (tCall (sp__law_draw K) [] E0 (tCons (tVar 0) (tCons (tCB (rLen1 K) (tCons (tVar 1) tNil)) tNil))) tNil)))
  (tSeq (tAsg (tOp (rIxT K) (tVar 1) (tVar 2)) (gTup K 3 (gCons (gName 4) (gCons (gName 5) (gCons (gName 6) gNil)))))
  (tSeq (tAsg (tCall (sp__law_draw K) [] E0 (tCons (tVar 0) (tCons (tC (.int 10)) tNil))) (gName 7))
  (tSeq (tIfS (tTest (tOp rEq (tVar 7) (tC (.int 0)))) (tRet (tOp (rCatA K) (tSl (rSlA K) (tVar 1) tNoPart (tPart (tVar 2))) (tSl (rSlA K) (tVar 1) (tPart (tOp rAddI (tVar 2) (tC (.int 1)))) tNoPart))) tNext)
  (tSeq (tIfS (tTest (tOp rEq (tVar 7) (tC (.int 1)))) (tRet (tOp (rCatA K) (tOp (rCatA K) (tSl (rSlA K) (tVar 1) tNoPart (tPart (tVar 2))) (tTup (tCons (tOp (rIxT K) (tVar 1) (tVar 2)) tNil))) (tSl (rSlA K) (tVar 1) (tPart (tVar 2)) tNoPart))) tNext)
  (tSeq (tIfS (tTest (tOp rEq (tVar 7) (tC (.int 2)))) (tRet (tOp (rCatA K) (tSl (rSlA K) (tVar 1) (tPart (tC (.int 1))) tNoPart) (tSl (rSlA K) (tVar 1) tNoPart (tPart (tC (.int 1)))))) tNext)
  (tSeq (tIfS (tTest (tOp rEq (tVar 7) (tC (.int 3)))) (tRet (tOp (rCatA K) (tOp (rCatA K) (tSl (rSlA K) (tVar 1) tNoPart (tPart (tVar 2))) (tTup (tCons (tTup (tCons (tVar 4) (tCons (tOp (rIxT K) (tOp (rIxT K) (tVar 1) (tVar 3)) (tC (.int 1))) (tCons (tVar 6) tNil)))) tNil))) (tSl (rSlA K) (tVar 1) (tPart (tOp rAddI (tVar 2) (tC (.int 1)))) tNoPart))) tNext)
  (tSeq (tIfS (tTest (tOp rEq (tVar 7) (tC (.int 4)))) (tRet (tOp (rCatA K) (tOp (rCatA K) (tSl (rSlA K) (tVar 1) tNoPart (tPart (tVar 2))) (tTup (tCons (tTup (tCons (tVar 4) (tCons (tVar 4) (tCons (tVar 6) tNil)))) tNil))) (tSl (rSlA K) (tVar 1) (tPart (tOp rAddI (tVar 2) (tC (.int 1)))) tNoPart))) tNext)
  (tSeq (tIfS (tTest (tOp rEq (tVar 7) (tC (.int 5)))) (tSeq (tAsg (tLst (tCons (tTup (tCons (tOp rAddS (tVar 4) (tC (.str "0"))) (tCons (tVar 5) (tCons (tVar 6) tNil)))) (tCons (tTup (tCons (tVar 4) (tCons (tOp rAddS (tVar 5) (tC (.str "0"))) (tCons (tVar 6) tNil)))) (tCons (tTup (tCons (tC (.int 5)) (tCons (tVar 5) (tCons (tVar 6) tNil)))) (tCons (tTup (tCons (tVar 4) (tCons (tC .non) (tCons (tVar 6) tNil)))) tNil))))) (gName 8))
  (tSeq (tAsg (tOp rCat (tVar 8) (tLst (tCons (tTup (tCons (tVar 4) (tCons (tVar 5) tNil))) (tCons (tTup (tCons (tVar 4) (tCons (tVar 5) (tCons (tVar 6) (tCons (tTup tNil) tNil))))) (tCons (tTup tNil) (tCons (tC (.str "abc")) tNil)))))) (gName 8))
  (tRet (tOp (rCatA K) (tOp (rCatA K) (tSl (rSlA K) (tVar 1) tNoPart (tPart (tVar 2))) (tTup (tCons (tCall (sp__law_pick K) [] E0 (tCons (tVar 0) (tCons (tVar 8) tNil))) tNil))) (tSl (rSlA K) (tVar 1) (tPart (tOp rAddI (tVar 2) (tC (.int 1)))) tNoPart))))) tNext)
  (tRet (tOp (rCatA K) (tOp (rCatA K) (tSl (rSlA K) (tVar 1) tNoPart (tPart (tVar 2))) (tTup (tCons (tTup (tCons (tVar 4) (tCons (tVar 5) (tCons (tCall (sp__law_spoilt_pairs K) [] E0 (tCons (tVar 0) (tCons (tVar 6) tNil))) tNil)))) tNil))) (tSl (rSlA K) (tVar 1) (tPart (tOp rAddI (tVar 2) (tC (.int 1)))) tNoPart)))))))))))))
theorem len__law_spoilt_pairs {K : PySem.W.Frag} : ∀ (vs : List V) (H : Hp) (Q : VK) (E : XK), sp__law_spoilt_pairs K vs H Q E → vs.length = 2 := fun vs H Q E h => by
  obtain ⟨_, _, rfl, _⟩ := h
  rfl
theorem pure__law_spoilt_pairs {K : PySem.W.Frag} (vs : List V) (H : Hp) (Q : VK) (E : XK) (h : sp__law_spoilt_pairs K vs H Q E) : t__law_spoilt_pairs K { nx := fun _ H' => Q .non H', rt := Q } (start ["pool", "pairs", "k", "j", "way", "one"] vs) H := by
  obtain ⟨st, p, rfl, cs, us, ps, ok, ep0, hp0, hsm, h1, h12, q⟩ := h
  have hul := hp0.1
  show t__law_spoilt_pairs K _ [some (.ref st), some (.ref p), none, none, none, none] H
  unfold t__law_spoilt_pairs
  walk_at "aw"
  refine w_parD ?_
  walk_at "aw"
  refine w_lenT (SqT.of ep0) ?_
  walk_at "aw"
  refine w_draw ok (by omega) (by omega) fun k H1 k0 k1 g1 => ?_
  walk_at "aw"
  refine w_lenT (SqT.of (g1.tk _ _ ep0)) ?_
  walk_at "aw"
  refine w_draw g1.ok (by omega) (by omega) fun j H2 j0 j1 g2 => ?_
  walk_at "aw"
  refine ⟨_, _, rfl, ?_⟩
  walk_at "aw"
  refine w_draw g2.ok (by omega) (by omega) fun way H3 w0 w1 g3 => ?_
  have g := g1.trans (g2.trans g3)
  have okH := g.ok
  have ep := g.tk _ _ ep0
  have hp := hp0.up g.tk
  have hu1 : us.length ≤ 12 := by omega
  rw [hul] at k1 j1
  have q : ∀ v H', Go st cs H3 H' → Dat 4 H' v → Q v H' := fun v H' a d => q v H' (g.trans a) d
  generalize H3 = HH at *
  walk_at "aw"
  have hv : [some (V.ref st), some (.ref p), some (.int k), some (.int j), some (.int way), none][1]? = some (some (.ref p)) := rfl
  have dd := hp.dat
  have S1 : ∀ (σ : L2.St) H4, Go st cs HH H4 → σ[1]? = some (some (.ref p)) → σ[2]? = some (some (.int k)) → GT st cs 1 12 (tSl (rSlA K) (tVar 1) tNoPart (tPart (tVar 2))) σ H4 := fun σ H4 g4 h1 h2 => gt_slA (gt_var h1 (g4.tk _ _ ep) (dd.up g4.tk) hu1) gp_no (gp_int (gi_var h2))
  have S2 : ∀ (σ : L2.St) H4, Go st cs HH H4 → σ[1]? = some (some (.ref p)) → σ[2]? = some (some (.int k)) → GT st cs 1 12 (tSl (rSlA K) (tVar 1) (tPart (tOp rAddI (tVar 2) (tC (.int 1)))) tNoPart) σ H4 := fun σ H4 g4 h1 h2 => gt_slA (gt_var h1 (g4.tk _ _ ep) (dd.up g4.tk) hu1) (gp_int (gi_add (gi_var h2) gi_c)) gp_no
  refine w_iteB (fun _ => ?_) fun _ => ?_
  · exact ge_ret okH (GT.ge (gt_cat (S1 _ _ (.refl okH) rfl rfl) (S2 _ _ (.refl okH) rfl rfl))) q
  walk_at "aw"
  refine w_iteB (fun _ => ?_) fun _ => ?_
  · exact ge_ret okH (GT.ge (gt_cat (gt_cat (S1 _ _ (.refl okH) rfl rfl) (gt_tup (ga_cons (ge_ix rfl ep dd rfl j0 (by omega)) ga_nil))) (S2 _ _ (.refl okH) rfl rfl))) q
  walk_at "aw"
  refine w_iteB (fun _ => ?_) fun _ => ?_
  · exact ge_ret okH (GT.ge (gt_cat (gt_cat (S1 _ _ (.refl okH) rfl rfl) (gt_tup (ga_cons (GT.ge (d := 0) (gt_tup (ga_cons (gi_pair0 rfl ep hp hsm rfl k0 k1).gi.ge (ga_cons (gi_pair1 rfl ep hp hsm rfl j0 j1).gi.ge ga_nil)))) ga_nil))) (S2 _ _ (.refl okH) rfl rfl))) q
  walk_at "aw"
  refine w_iteB (fun _ => ?_) fun _ => ?_
  · exact ge_ret okH (GT.ge (gt_cat (gt_cat (S1 _ _ (.refl okH) rfl rfl) (gt_tup (ga_cons (GT.ge (d := 0) (gt_tup (ga_cons (gi_pair0 rfl ep hp hsm rfl k0 k1).gi.ge (ga_cons (ge_pick rfl (ga_cons ge_int (ga_cons (gi_neg gi_c).ge (ga_cons (gi_pow ⟨by decide, by decide, by decide⟩).ge (ga_cons (gi_add (gi_pair1 rfl ep hp hsm rfl k0 k1).gi gi_c).ge ga_nil))))) ga_nil)))) ga_nil))) (S2 _ _ (.refl okH) rfl rfl))) q
  walk_at "aw"
  refine w_iteB (fun _ => ?_) fun _ => ?_
  · with_reducible refine w_seq ?_
    with_reducible refine w_asg ?_
    refine (ge_pick (d := 1) rfl (ga_cons (GT.ge (d := 0) (gt_tup (ga_cons (ge_eq (gi_pair0 rfl ep hp hsm rfl k0 k1).gi gi_c) (ga_cons (gi_pair1 rfl ep hp hsm rfl k0 k1).gi.ge ga_nil)))) (ga_cons (GT.ge (d := 0) (gt_tup (ga_cons (gi_pair0 rfl ep hp hsm rfl k0 k1).gi.ge (ga_cons (ge_eq (gi_pair1 rfl ep hp hsm rfl k0 k1).gi gi_c) ga_nil)))) ga_nil))) HH _ (.refl okH) fun v H4 g4 d4 => ?_
    with_reducible refine w_gname ?_
    exact ge_ret g4.ok (GT.ge (gt_cat (gt_cat (S1 _ _ g4 rfl rfl) (gt_tup (ga_cons (ge_var rfl d4) ga_nil))) (S2 _ _ g4 rfl rfl))) fun v H5 g5 d5 => q v H5 (g4.trans g5) d5
  walk_at "aw"
  refine w_iteB (fun _ => ?_) fun _ => ?_
  · exact ge_ret okH (GT.ge (gt_cat (gt_slA (gt_var rfl ep dd hu1) (gp_int gi_c) gp_no) (gt_slA (gt_var rfl ep dd hu1) gp_no (gp_int gi_c)))) q
  walk_at "aw"
  refine w_iteB (fun _ => ?_) fun _ => ?_
  · exact ge_ret okH (GT.ge (gt_cat (gt_var rfl ep dd hu1) (gt_tup (ga_cons (GT.ge (d := 0) (gt_tup (ga_cons ge_int (ga_cons ge_int ga_nil)))) ga_nil)))) q
  walk_at "aw"
  refine w_iteB (fun _ => ?_) fun _ => ?_
  · with_reducible refine w_seq ?_
    with_reducible refine w_asg ?_
    refine (ge_pick (d := 1) rfl (ga_cons (GT.ge (d := 0) (gt_tup ga_nil)) (ga_cons (GT.ge (d := 0) (gt_cat (gt_pair rfl ep hp rfl k0 k1) (gt_tup (ga_cons ge_int ga_nil)))) (ga_cons ge_non (ga_cons ge_int (ga_cons (ge_str (by unfold okS; decide +kernel)) (ga_cons (GT.ge (d := 0) (gt_tup (ga_cons (ge_str1 (gi_pair0 rfl ep hp hsm rfl k0 k1)) (ga_cons (gi_pair1 rfl ep hp hsm rfl k0 k1).gi.ge ga_nil)))) ga_nil))))))) HH _ (.refl okH) fun v H4 g4 d4 => ?_
    with_reducible refine w_gname ?_
    exact ge_ret g4.ok (GT.ge (gt_cat (gt_cat (S1 _ _ g4 rfl rfl) (gt_tup (ga_cons (ge_var rfl d4) ga_nil))) (S2 _ _ g4 rfl rfl))) fun v H5 g5 d5 => q v H5 (g4.trans g5) d5
  with_reducible refine w_next ?_
  exact ge_ret okH (ge_pick rfl (ga_cons (GT.ge (d := 0) (gt_tup ga_nil)) (ga_cons ge_non (ga_cons (ge_str (by unfold okS; decide +kernel)) (ga_cons ge_int (ga_cons ge_bl (ga_cons (GT.ge (d := 1) (gt_tup (ga_cons (GT.ge (d := 0) (gt_tup ga_nil)) ga_nil))) ga_nil))))))) q
theorem ExAt.rows {H : Hp} {e : Addr} {L : List Way} (h : ExAt H e L) : ∃ us, H e = some (.tup us) ∧ us.length = L.length ∧ Paired (fun u r => ExRow H u r) us L := by
  obtain ⟨us, h1, h2⟩ := h
  exact ⟨us, h1, h2.length, h2⟩
theorem ExRow.dat {H : Hp} {u : V} {r : Way} (h : ExRow H u r) (o1 : okS r.1) (o2 : okS r.2.1) (hl : r.2.2.length ≤ 12) : Dat 3 H u := by
  obtain ⟨p, q, vs, rfl, ep, eq, hps⟩ := h
  refine .tup ep (fun x hx => ?_) (by simp)
  simp only [List.mem_cons, List.not_mem_nil, or_false] at hx
  rcases hx with rfl | rfl | rfl
  · exact ⟨_, .str _, .str o1⟩
  · exact ⟨_, .str _, .str o2⟩
  · exact .tup eq hps.dat (by rw [hps.1]; omega)
theorem len__law_spoilt {K : PySem.W.Frag} : ∀ (vs : List V) (H : Hp) (Q : VK) (E : XK), sp__law_spoilt K vs H Q E → vs.length = 2 := fun vs H Q E h => by
  obtain ⟨_, _, rfl, _⟩ := h
  rfl
theorem pure__law_spoilt {K : PySem.W.Frag} (vs : List V) (H : Hp) (Q : VK) (E : XK) (h : sp__law_spoilt K vs H Q E) : t__law_spoilt K { nx := fun _ H' => Q .non H', rt := Q } (start ["pool", "exchange", "k", "j", "x", "y", "pairs", "way", "wrong"] vs) H := by
  obtain ⟨st, e, rfl, cs, L, ok, hex, hL, hrow, q⟩ := h
  obtain ⟨us, ee0, hul, hus0⟩ := hex.rows
  have hu1 : us.length ≤ 24 := by omega
  show t__law_spoilt K _ [some (.ref st), some (.ref e), none, none, none, none, none, none, none] H
  unfold t__law_spoilt
  walk_at "aw"
  refine w_lenT (SqT.of ee0) ?_
  walk_at "aw"
  refine w_iteB (fun _ => ?_) fun hne => ?_
  · exact ge_ret ok (ge_pick (d := 8) rfl (ga_cons ge_non (ga_cons ge_int (ga_cons (ge_str (by unfold okS; decide +kernel)) (ga_cons (GT.ge (d := 1) (gt_tup (ga_cons (GT.ge (d := 0) (gt_tup ga_nil)) ga_nil))) (ga_cons ge_bl (ga_cons (GT.ge (d := 0) (gt_tup (ga_cons (ge_str (by unfold okS; decide +kernel)) ga_nil))) ga_nil))))))) q
  have hu0 : 0 < us.length := by
    rcases Nat.eq_zero_or_pos us.length with z | z
    · exact absurd (by rw [z]; rfl) hne
    · exact z
  walk_at "aw"
  refine w_parD ?_
  walk_at "aw"
  refine w_lenT (SqT.of ee0) ?_
  walk_at "aw"
  refine w_draw ok (by omega) (by omega) fun k H1 k0 k1 g1 => ?_
  walk_at "aw"
  refine w_lenT (SqT.of (g1.tk _ _ ee0)) ?_
  walk_at "aw"
  refine w_draw g1.ok (by omega) (by omega) fun j H2 j0 j1 g2 => ?_
  walk_at "aw"
  refine ⟨_, _, rfl, ?_⟩
  have g12 := g1.trans g2
  obtain ⟨r, hr⟩ : ∃ r, L[k.toNat]? = some r := ⟨_, List.getElem?_eq_getElem (by omega)⟩
  obtain ⟨u, hu⟩ : ∃ u, us[k.toNat]? = some u := ⟨_, List.getElem?_eq_getElem (by omega)⟩
  obtain ⟨p0, qp, vs, rfl, ep0, eqp0, hps0⟩ := paired_at hus0 hu hr
  obtain ⟨r', hr'⟩ : ∃ r, L[j.toNat]? = some r := ⟨_, List.getElem?_eq_getElem (by omega)⟩
  obtain ⟨u', hu'⟩ : ∃ u, us[j.toNat]? = some u := ⟨_, List.getElem?_eq_getElem (by omega)⟩
  obtain ⟨p1, qp1, vs1, rfl, ep1, eqp1, hps1⟩ := paired_at hus0 hu' hr'
  obtain ⟨hsm, hl1, hl2, o1, o2, n1, n2⟩ := hrow r (List.mem_of_getElem? hr)
  obtain ⟨_, _, _, o1', o2', n1', n2'⟩ := hrow r' (List.mem_of_getElem? hr')
  walk_at "aw"
  refine w_ixT (SqT.of (g12.tk _ _ ee0)) (at_nat k0 hu) ?_
  walk_at "aw"
  refine w_gtup (SqT.of (g12.tk _ _ ep0)) rfl ?_
  walk_at "aw"
  refine w_draw g2.ok (by omega) (by omega) fun way H3 w0 w1 g3 => ?_
  have g := g12.trans g3
  have okH := g.ok
  have ee := g.tk _ _ ee0
  have eqp := g.tk _ _ eqp0
  have ep1 := g.tk _ _ ep1
  have hps := hps0.up g.tk
  have dd : AllDat 3 H3 us := fun x hx => by
    obtain ⟨i, hi, rfl⟩ := List.mem_iff_getElem.mp hx
    have h := paired_at hus0 (List.getElem?_eq_getElem hi) (List.getElem?_eq_getElem (show i < L.length by omega))
    obtain ⟨_, _, h12, o1, o2, _, _⟩ := hrow _ (List.getElem_mem (show i < L.length by omega))
    exact ((h.up g.tk).dat o1 o2 h12)
  have dp : Dat 2 H3 (.ref qp) := .tup eqp hps.dat (by rw [hps.1]; omega)
  have q : ∀ v H', Go st cs H3 H' → Dat 8 H' v → Q v H' := fun v H' a d => q v H' (g.trans a) d
  generalize H3 = HH at *
  walk_at "aw"
  have S1 : ∀ (σ : L2.St) H4, Go st cs HH H4 → σ[1]? = some (some (.ref e)) → σ[2]? = some (some (.int k)) → GT st cs 3 24 (tSl (rSlA K) (tVar 1) tNoPart (tPart (tVar 2))) σ H4 := fun σ H4 g4 h1 h2 => gt_slA (gt_var h1 (g4.tk _ _ ee) (dd.up g4.tk) hu1) gp_no (gp_int (gi_var h2))
  have S2 : ∀ (σ : L2.St) H4, Go st cs HH H4 → σ[1]? = some (some (.ref e)) → σ[2]? = some (some (.int k)) → GT st cs 3 24 (tSl (rSlA K) (tVar 1) (tPart (tOp rAddI (tVar 2) (tC (.int 1)))) tNoPart) σ H4 := fun σ H4 g4 h1 h2 => gt_slA (gt_var h1 (g4.tk _ _ ee) (dd.up g4.tk) hu1) (gp_int (gi_add (gi_var h2) gi_c)) gp_no
  have S3 : ∀ (σ : L2.St) H4, Go st cs HH H4 → σ[1]? = some (some (.ref e)) → σ[2]? = some (some (.int k)) → GT st cs 3 24 (tSl (rSlA K) (tVar 1) (tPart (tVar 2)) tNoPart) σ H4 := fun σ H4 g4 h1 h2 => gt_slA (gt_var h1 (g4.tk _ _ ee) (dd.up g4.tk) hu1) (gp_int (gi_var h2)) gp_no
  refine w_iteB (fun _ => ?_) fun _ => ?_
  · exact ge_ret okH (GT.ge (gt_cat (S1 _ _ (.refl okH) rfl rfl) (S2 _ _ (.refl okH) rfl rfl))) q
  walk_at "aw"
  refine w_iteB (fun _ => ?_) fun _ => ?_
  · exact ge_ret okH (GT.ge (gt_cat (gt_cat (S1 _ _ (.refl okH) rfl rfl) (gt_tup (ga_cons (ge_ix rfl ee dd rfl k0 (by omega)) ga_nil))) (S3 _ _ (.refl okH) rfl rfl))) q
  walk_at "aw"
  refine w_iteB (fun _ => ?_) fun _ => ?_
  · exact ge_ret okH (GT.ge (gt_cat (gt_slA (gt_var rfl ee dd hu1) (gp_int gi_c) gp_no) (gt_slA (gt_var rfl ee dd hu1) gp_no (gp_int gi_c)))) q
  walk_at "aw"
  refine w_iteB (fun _ => ?_) fun _ => ?_
  · have hy : ∀ σ : L2.St, σ[1]? = some (some (.ref e)) → σ[3]? = some (some (.int j)) → GE st cs 2 (tOp (rIxT K) (tOp (rIxT K) (tVar 1) (tVar 3)) (tC (.int 1))) σ HH := fun σ h1 h2 H' Q g q =>
      ⟨_, h1, _, h2, w_ixT (SqT.of (g.tk _ _ ee)) (at_nat j0 hu') (w_ixT (SqT.of (g.tk _ _ ep1)) (at_nat (by decide) rfl) (q _ H' (.refl g.ok) ⟨_, .str _, .str o2'⟩))⟩
    exact ge_ret okH (GT.ge (gt_cat (gt_cat (S1 _ _ (.refl okH) rfl rfl) (gt_tup (ga_cons (GT.ge (d := 2) (gt_tup (ga_cons (gs_var rfl o1 n1).ge (ga_cons (hy _ rfl rfl) (ga_cons (ge_var rfl dp) ga_nil))))) ga_nil))) (S2 _ _ (.refl okH) rfl rfl))) q
  walk_at "aw"
  refine w_iteB (fun _ => ?_) fun _ => ?_
  · exact ge_ret okH (GT.ge (gt_cat (gt_cat (S1 _ _ (.refl okH) rfl rfl) (gt_tup (ga_cons (GT.ge (d := 2) (gt_tup (ga_cons (gs_var rfl o1 n1).ge (ga_cons (gs_var rfl o1 n1).ge (ga_cons (ge_var rfl dp) ga_nil))))) ga_nil))) (S2 _ _ (.refl okH) rfl rfl))) q
  walk_at "aw"
  refine w_iteB (fun _ => ?_) fun _ => ?_
  · with_reducible refine w_seq ?_
    with_reducible refine w_asg ?_
    refine gl_lst (d := 5) (ga_cons (GT.ge (d := 2) (gt_tup (ga_cons (gs_add (gs_var rfl o1 n1) (gs_c (n := 1) (by unfold okS; decide +kernel) (by decide))).ge (ga_cons (gs_var rfl o2 n2).ge (ga_cons (ge_var rfl dp) ga_nil))))) (ga_cons (GT.ge (d := 2) (gt_tup (ga_cons (gs_var rfl o1 n1).ge (ga_cons (gs_add (gs_var rfl o2 n2) (gs_c (n := 1) (by unfold okS; decide +kernel) (by decide))).ge (ga_cons (ge_var rfl dp) ga_nil))))) (ga_cons (GT.ge (d := 2) (gt_tup (ga_cons ge_int (ga_cons (gs_var rfl o2 n2).ge (ga_cons (ge_var rfl dp) ga_nil))))) (ga_cons (GT.ge (d := 2) (gt_tup (ga_cons (gs_var rfl o1 n1).ge (ga_cons ge_non (ga_cons (ge_var rfl dp) ga_nil))))) ga_nil)))) (by decide) (.refl okH) fun l1 xs1 H4 nl1 g4 el1 dl1 hl1 => ?_
    have off1 := (okH.ne nl1).1
    with_reducible refine w_gname ?_
    with_reducible refine w_seq ?_
    with_reducible refine w_asg ?_
    with_reducible refine w_op ?_
    refine w_var (v := .ref l1) rfl ?_
    have dp4 := dp.up g4.tk
    refine gl_lst (d := 5) (ga_cons (GT.ge (d := 0) (gt_tup (ga_cons (gs_var rfl o1 n1).ge (ga_cons (gs_var rfl o2 n2).ge ga_nil)))) (ga_cons (GT.ge (d := 2) (gt_tup (ga_cons (gs_var rfl o1 n1).ge (ga_cons (gs_var rfl o2 n2).ge (ga_cons (ge_var rfl dp4) (ga_cons (GT.ge (d := 0) (gt_tup ga_nil)) ga_nil)))))) (ga_cons (GT.ge (d := 0) (gt_tup ga_nil)) (ga_cons (ge_str (by unfold okS; decide +kernel)) ga_nil)))) (by decide) (.refl g4.ok) fun l2 xs2 H5 nl2 g5 el2 dl2 hl2 => ?_
    refine w_catB (g5.keep off1 el1) el2 (by omega) fun l3 H6 nl3 a6 el3 => ?_
    have off3 := (g5.ok.ne nl3).1
    have g46 := g4.trans (g5.new a6)
    have d3 : AllDat 5 H6 (xs1 ++ xs2) := fun x hx => by
      rcases List.mem_append.mp hx with hx | hx
      · exact ((dl1 x hx).up g5.tk).up a6.tup
      · exact (dl2 x hx).up a6.tup
    have hl3 : (xs1 ++ xs2).length = 8 := by rw [List.length_append, hl1, hl2]
    with_reducible refine w_gname ?_
    exact ge_ret g46.ok (GT.ge (d := 5) (gt_cat (gt_cat (S1 _ _ g46 rfl rfl).mono (gt_tup (ga_cons (ge_pickV rfl rfl el3 off3 d3 (by omega) (by omega)) ga_nil))) (S2 _ _ g46 rfl rfl).mono)) fun v H7 g7 d7 => q v H7 (g46.trans g7) d7
  with_reducible refine w_next ?_
  have hsp : ∀ σ : L2.St, σ[0]? = some (some (.ref st)) → σ[6]? = some (some (.ref qp)) → GE st cs 4 (tCall (sp__law_spoilt_pairs K) [] E0 (tCons (tVar 0) (tCons (tVar 6) tNil))) σ HH := fun σ h0 h6 H' Q g q =>
    ⟨_, h0, _, h6, st, qp, rfl, cs, vs, _, g.ok, g.tk _ _ eqp, hps.up g.tk, hsm, hl1, hl2, q⟩
  exact ge_ret okH (GT.ge (d := 5) (gt_cat (gt_cat (S1 _ _ (.refl okH) rfl rfl).mono (gt_tup (ga_cons (GT.ge (d := 4) (gt_tup (ga_cons (gs_var rfl o1 n1).ge (ga_cons (gs_var rfl o2 n2).ge (ga_cons (hsp _ rfl rfl) ga_nil))))) ga_nil))) (S2 _ _ (.refl okH) rfl rfl).mono)) q
end AW
namespace AW
open PySem PySem.Spec PyProof.Rows L2 RZ
open StX
local macro_rules | `(tactic| walk_at "aw1") => `(tactic| first
  | (with_reducible refine w_seq ?_) | (with_reducible refine w_asg ?_) | (with_reducible refine w_gname ?_) | (with_reducible refine w_op ?_) | (with_reducible refine w_un ?_)
  | ((with_reducible refine' w_var ?h ?_); (case h => rfl)) | (with_reducible refine w_c ?_)
  | (with_reducible refine w_I0 ?_) | (with_reducible refine w_U ?_) | (with_reducible refine w_cb ?_) | (with_reducible refine w_nil ?_) | (with_reducible refine w_cons ?_) | (with_reducible refine w_call ?_)
  | (with_reducible refine w_test ?_) | (with_reducible refine w_B ?_) | (with_reducible refine w_bl ?_) | (with_reducible refine w_not ?_) | (with_reducible refine w_yes ?_) | (with_reducible refine iteT ?_) | (with_reducible refine iteF ?_) | (with_reducible refine w_and ?_) | (with_reducible refine w_or ?_)
  | (with_reducible refine w_andV ?_) | (with_reducible refine w_orV ?_) | (with_reducible refine w_notV ?_) | (with_reducible refine w_if ?_)
  | (with_reducible refine w_int1 ?_) | (with_reducible refine w_int1b ?_) | (with_reducible refine w_abs ?_) | (with_reducible refine w_max2 ?_) | (with_reducible refine w_min2 ?_)
  | ((with_reducible refine w_eq ?h ?_); (case h => rfl)) | ((with_reducible refine w_ne ?h ?_); (case h => rfl)) | (with_reducible refine w_isN ?_) | (with_reducible refine w_isB ?_) | (with_reducible refine w_chain ?_)
  | (with_reducible refine w_ret ?_) | (with_reducible refine w_drop ?_) | (with_reducible refine w_ifS ?_) | (with_reducible refine w_gsub ?_) | (with_reducible refine w_augS ?_) | (with_reducible refine w_ipI ?_) | (with_reducible refine w_next ?_)
  | (with_reducible refine w_forR ?_) | (with_reducible refine w_forR2 ?_) | (with_reducible refine w_forL ?_) | (with_reducible refine w_forT ?_) | (with_reducible refine w_lcR ?_) | (with_reducible refine w_lcL ?_) | (with_reducible refine w_lcT ?_) | (with_reducible refine w_sl ?_) | (with_reducible refine w_part ?_) | (with_reducible refine w_noPart ?_) | (with_reducible refine w_in ?_)
  | (with_reducible refine w_gcons ?_) | (with_reducible refine w_gnil ?_) | (with_reducible refine w_lc3 ?_) | (with_reducible refine w_dcZ ?_) | (with_reducible refine w_dcT ?_) | (with_reducible refine w_dg ?_) | (with_reducible refine w_callK ?_) | (with_reducible refine w_dput ?_) | (with_reducible refine w_tup1 ?_)
  | (with_reducible refine w_tup ?_) | (with_reducible refine w_lst ?_)
  | ((with_reducible refine w_I ?h ?_); (case h => first | (exact Or.inr ⟨by decide, by decide⟩) | (exact Or.inl ⟨by decide, by decide⟩) | (show (0 : Int) < _; decide) | (exact ⟨by decide, by decide, by decide⟩) | assumption)))
local macro_rules | `(tactic| walk_at "aw") => `(tactic| repeat (walk_at "aw1"))
def sp__law_wild (_ : PySem.W.Frag) (m : Nat) : Sp := fun vs H Q _ => ∃ (st : Addr) (deep : Int), vs = [.ref st, .int deep] ∧ ∃ cs, StOk st cs H ∧ deep.toNat < m ∧ deep.toNat ≤ 20 ∧ ∀ v H', Go st cs H H' → Dat deep.toNat H' v → Q v H'
/-- truth values, numbers, and tuples of such -/
inductive SmD : Nat → PyData → Prop
  | bl {m : Nat} (b : Bool) : SmD (m + 1) (.bool b)
  | int {m : Nat} (n : Int) : SmD (m + 1) (.int n)
  | tup {m : Nat} (ds : List PyData) (hl : ds.length ≤ 1000) (h : ∀ d ∈ ds, SmD m d) : SmD (m + 1) (.tuple ds)
def sp__law_same (_ : PySem.W.Frag) (m : Nat) : Sp := fun vs H Q _ => ∃ v u, vs = [v, u] ∧ ∃ d, Is H d v ∧ Is H d u ∧ SmD m d ∧ Q (.bl true) H
def t__law_wild (K : PySem.W.Frag) (m : Nat) : TS := (tSeq (tAsg (tCall (sp__law_draw K) [] E0 (tCons (tVar 0) (tCons (tOp (rIxL K) (tLst (tCons (tC (.int 7)) (tCons (tC (.int 12)) tNil))) (tCB rInt1 (tCons (tOp rGtI (tVar 1) (tC (.int 0))) tNil))) tNil))) (gName 2))
  (tSeq (tIfS (tTest (tOp rLtI (tVar 2) (tC (.int 7)))) (tRet (tOp (rIxL K) (tLst (tCons (tC .non) (tCons (tC (.bl true)) (tCons (tC (.bl false)) (tCons (tC (.int 0)) (tCons (tC (.int 1)) (tCons (tC (.str "x")) (tCons (tUn rNeg (tOp rPowI (tC (.int 10)) (tC (.int 29)))) tNil)))))))) (tVar 2))) tNext)
  (tRet (tThen (tLc (iRng1 (tCons (tCall (sp__law_draw K) [] E0 (tCons (tVar 0) (tCons (tC (.int 4)) tNil))) tNil)) (gName 3) tYes (tCall (sp__law_wild K m) [] E0 (tCons (tVar 0) (tCons (tOp rSubI (tVar 1) (tC (.int 1))) tNil))) [3]) (kTup K)))))
def t__law_same (K : PySem.W.Frag) (m : Nat) : TS := (tSeq (tIfS (tTest (tOp rIsN (tVar 1) (tC .non))) (tRet (tOp rIsN (tVar 0) (tC .non))) tNext)
  (tSeq (tIfS (tB (tCB (rIsi K) (tCons (tVar 1) (tCons (tC (.ty "tuple")) tNil)))) (tSeq (tIfS (tOr (tNot (tB (tCB (rIsi K) (tCons (tVar 0) (tCons (tC (.ty "tuple")) tNil))))) (tTest (tOp rNe (tCB (rLen1 K) (tCons (tVar 0) tNil)) (tCB (rLen1 K) (tCons (tVar 1) tNil))))) (tRet (tC (.bl false))) tNext)
  (tSeq (tFor (iRng1 (tCons (tCB (rLen1 K) (tCons (tVar 1) tNil)) tNil)) (gName 2)
  (tIfS (tNot (tB (tCall (sp__law_same K m) [] E0 (tCons (tOp (rIxA K) (tVar 0) (tVar 2)) (tCons (tOp (rIxA K) (tVar 1) (tVar 2)) tNil))))) (tRet (tC (.bl false))) tNext))
  (tRet (tC (.bl true))))) tNext)
  (tSeq (tIfS (tB (tCB (rIsi K) (tCons (tVar 1) (tCons (tC (.ty "bool")) tNil)))) (tRet (tAndV (tCB (rIsi K) (tCons (tVar 0) (tCons (tC (.ty "bool")) tNil))) (tOp rEq (tVar 0) (tVar 1)))) tNext)
  (tSeq (tIfS (tB (tCB (rIsi K) (tCons (tVar 1) (tCons (tC (.ty "int")) tNil)))) (tRet (tAndV (tCB (rIsi K) (tCons (tVar 0) (tCons (tC (.ty "int")) tNil))) (tAndV (tNotV (tCB (rIsi K) (tCons (tVar 0) (tCons (tC (.ty "bool")) tNil)))) (tOp rEq (tVar 0) (tVar 1))))) tNext)
  (tRet (tAndV (tCB (rIsi K) (tCons (tVar 0) (tCons (tC (.ty "str")) tNil))) (tOp rEq (tVar 0) (tVar 1))))))))
theorem len__law_wild {K : PySem.W.Frag} {m : Nat} : ∀ (vs : List V) (H : Hp) (Q : VK) (E : XK), sp__law_wild K m vs H Q E → vs.length = 2 := fun vs H Q E h => by
  obtain ⟨_, _, rfl, _⟩ := h
  rfl
theorem no__law_wild {K : PySem.W.Frag} {vs : List V} {H : Hp} {Q : VK} {E : XK} (h : sp__law_wild K 0 vs H Q E) : False := by
  obtain ⟨_, _, _, _, _, h, _⟩ := h
  omega
theorem pure__law_wild {K : PySem.W.Frag} {m : Nat} (vs : List V) (H : Hp) (Q : VK) (E : XK) (h : sp__law_wild K (m + 1) vs H Q E) : t__law_wild K m { nx := fun _ H' => Q .non H', rt := Q } (start ["pool", "deep", "way", "k"] vs) H := by
  obtain ⟨st, deep, rfl, cs, ok, hm, h20, q⟩ := h
  show t__law_wild K m _ [some (.ref st), some (.int deep), none, none] H
  unfold t__law_wild
  walk_at "aw"
  refine w_lstD (by simp) fun l H1 nl a1 el => ?_
  walk_at "aw"
  refine w_ixL (SqL.of el) (v := .int (if 0 < deep then 12 else 7)) ?_ ?_
  · by_cases hz : 0 < deep
    · rw [if_pos hz, if_pos (decide_eq_true hz)]
      exact at_nat (by decide) rfl
    · rw [if_neg hz, if_neg (by rw [decide_eq_true_iff]; exact hz)]
      exact at_nat (by decide) rfl
  walk_at "aw"
  have g1 := Go.of ok a1
  refine w_draw g1.ok (by split <;> omega) (by split <;> omega) fun way H2 w0 w1 g2 => ?_
  have g12 := g1.trans g2
  walk_at "aw"
  refine w_iteB (fun h7 => ?_) fun h7 => ?_
  · with_reducible refine w_ret ?_
    with_reducible refine w_op ?_
    refine gl_lst (d := 0) (ga_cons ge_non (ga_cons ge_bl (ga_cons ge_bl (ga_cons ge_int (ga_cons ge_int (ga_cons (ge_str (by unfold okS; decide +kernel)) (ga_cons (gi_neg (gi_pow ⟨by decide, by decide, by decide⟩)).ge ga_nil))))))) (by decide) (.refl g2.ok) fun l2 xs H3 nl2 g3 el2 dl2 hl2 => ?_
    refine w_var (v := .int way) rfl ?_
    refine w_ixL (SqL.of el2) (v := xs[way.toNat]'(by omega)) (at_nat w0 (List.getElem?_eq_getElem (by omega))) ?_
    exact q _ H3 (g12.trans g3) ((dl2 _ (List.getElem_mem _)).mono (by omega))
  · have hpos : 0 < deep := by
      by_cases hz : 0 < deep
      · exact hz
      · rw [if_neg hz] at w1
        omega
    walk_at "aw"
    refine w_draw g2.ok (by decide) (by decide) fun many H3 m0 m1 g3 => ?_
    walk_at "aw"
    obtain ⟨n, rfl⟩ : ∃ n : Nat, many = (n : Int) := ⟨many.toNat, by omega⟩
    have g13 := g12.trans g3
    refine kLcR_all (n := n) (by omega) g13.ok (fun _ v H => Dat (deep - 1).toNat H v) (fun _ _ _ _ k h => h.up k) (fun i H4 Kt hi g4 kt => ?_) fun p H4 ys np g4 ep hyl hyr => ?_
    · walk_at "aw"
      refine ⟨rfl, ?_⟩
      walk_at "aw"
      refine ⟨st, deep - 1, rfl, cs, g4.ok, by omega, by omega, fun v H5 g5 d5 => ?_⟩
      exact kt v H5 g5 d5
    · walk_at "aw"
      refine w_tupL (SqL.of ep) fun t H5 nt a5 et => ?_
      have g5 := Go.of g4.ok a5
      refine q _ H5 (g13.trans (g4.trans g5)) ?_
      have dd : AllDat (deep - 1).toNat H5 ys := fun x hx => by
        obtain ⟨j, hj, rfl⟩ := List.mem_iff_getElem.mp hx
        exact (hyr j _ (List.getElem?_eq_getElem hj)).up a5.tup
      exact Dat.mono (.tup et dd (by omega)) (by omega)
theorem len__law_same {K : PySem.W.Frag} {m : Nat} : ∀ (vs : List V) (H : Hp) (Q : VK) (E : XK), sp__law_same K m vs H Q E → vs.length = 2 := fun vs H Q E h => by
  obtain ⟨_, _, rfl, _⟩ := h
  rfl
theorem no__law_same {K : PySem.W.Frag} {vs : List V} {H : Hp} {Q : VK} {E : XK} (h : sp__law_same K 0 vs H Q E) : False := by
  obtain ⟨_, _, _, _, _, _, h, _⟩ := h
  cases h
theorem pure__law_same {K : PySem.W.Frag} {m : Nat} (vs : List V) (H : Hp) (Q : VK) (E : XK) (h : sp__law_same K (m + 1) vs H Q E) : t__law_same K m { nx := fun _ H' => Q .non H', rt := Q } (start ["actual", "due", "k"] vs) H := by
  obtain ⟨v, u, rfl, d, hv, hu, hd, q⟩ := h
  show t__law_same K m _ [some v, some u, none] H
  unfold t__law_same
  cases hd with
  | bl b =>
    have hv' := hv
    cases hv
    cases hu
    walk_at "aw"
    refine w_iteB (fun h => by cases h) fun _ => ?_
    walk_at "aw"
    refine w_isiD hv' (by simp) ?_
    walk_at "aw"
    refine iteF'' (by simp [isiD, tyD]) ?_
    walk_at "aw"
    refine w_isiD hv' (by simp) ?_
    walk_at "aw"
    refine iteT'' (by simp [isiD, tyD]) ?_
    walk_at "aw"
    refine w_isiD hv' (by simp) ?_
    walk_at "aw"
    refine iteT'' (by simp [isiD, tyD]) ?_
    walk_at "aw"
    have e : decide (V.bl b = V.bl b) = true := decide_eq_true rfl
    rw [e]
    exact q
  | int n =>
    have hv' := hv
    cases hv
    cases hu
    walk_at "aw"
    refine w_iteB (fun h => by cases h) fun _ => ?_
    walk_at "aw"
    refine w_isiD hv' (by simp) ?_
    walk_at "aw"
    refine iteF'' (by simp [isiD, tyD]) ?_
    walk_at "aw"
    refine w_isiD hv' (by simp) ?_
    walk_at "aw"
    refine iteF'' (by simp [isiD, tyD]) ?_
    walk_at "aw"
    refine w_isiD hv' (by simp) ?_
    walk_at "aw"
    refine iteT'' (by simp [isiD, tyD]) ?_
    walk_at "aw"
    refine w_isiD hv' (by simp) ?_
    walk_at "aw"
    refine iteT'' (by simp [isiD, tyD]) ?_
    walk_at "aw"
    refine w_isiD hv' (by simp) ?_
    refine ⟨_, rfl, ?_⟩
    refine ⟨_, rfl, ?_⟩
    refine iteT'' (by simp [isiD, tyD]) ?_
    walk_at "aw"
    have e : decide (V.int n = V.int n) = true := decide_eq_true rfl
    rw [e]
    exact q
  | tup ds hl h =>
    have hv' := hv
    have hu' := hu
    obtain ⟨a, xs, rfl, ea, tx⟩ := hv.tup_inv
    obtain ⟨b, ys, rfl, eb, ty⟩ := hu.tup_inv
    have lx := tx.length
    have ly := ty.length
    walk_at "aw"
    refine w_iteB (fun h => by cases h) fun _ => ?_
    walk_at "aw"
    refine w_isiD hu' (by simp) ?_
    walk_at "aw"
    refine iteT'' (by simp [isiD, tyD]) ?_
    walk_at "aw"
    refine w_isiD hv' (by simp) ?_
    walk_at "aw"
    refine iteF'' (by simp [isiD, tyD]) ?_
    walk_at "aw"
    refine w_lenT (SqT.of ea) ?_
    walk_at "aw"
    refine w_lenT (SqT.of eb) ?_
    walk_at "aw"
    refine iteF'' (by rw [lx, ly, decide_eq_true rfl]; rfl) ?_
    walk_at "aw"
    refine w_lenT (SqT.of eb) ?_
    refine kForR_i (n := ys.length) (by omega) (fun i σ H' => H' = H ∧ ∃ y, σ = [some (.ref a), some (.ref b), y]) ⟨rfl, none, rfl⟩ (fun i σ H' hi p => ?_) fun σ H' p => ?_
    · obtain ⟨rfl, y, rfl⟩ := p
      have hx : xs[i]? = some xs[i] := List.getElem?_eq_getElem (by omega)
      have hz : ys[i]? = some ys[i] := List.getElem?_eq_getElem (by omega)
      obtain ⟨d, hd, hdx⟩ := tx.get hx
      obtain ⟨d', hd', hdz⟩ := ty.get hz
      rw [hd] at hd'
      cases hd'
      walk_at "aw"
      refine .inr (w_ixT (SqT.of ea) (at_of (j := i) (by omega) hx) ?_)
      walk_at "aw"
      refine .inr (w_ixT (SqT.of eb) (at_of (j := i) (by omega) hz) ?_)
      walk_at "aw"
      refine ⟨_, _, rfl, d, hdx, hdz, h d (List.mem_of_getElem? hd), ?_⟩
      walk_at "aw"
      exact ⟨rfl, _, rfl⟩
    · obtain ⟨rfl, y, rfl⟩ := p
      walk_at "aw"
      exact q
end AW
namespace AW
open PySem PySem.Spec PyProof.Rows L2 RZ
open StX
local macro_rules | `(tactic| walk_at "aw1") => `(tactic| first
  | (with_reducible refine w_seq ?_) | (with_reducible refine w_asg ?_) | (with_reducible refine w_gname ?_) | (with_reducible refine w_op ?_) | (with_reducible refine w_un ?_)
  | ((with_reducible refine' w_var ?h ?_); (case h => rfl)) | (with_reducible refine w_c ?_)
  | (with_reducible refine w_I0 ?_) | (with_reducible refine w_U ?_) | (with_reducible refine w_cb ?_) | (with_reducible refine w_nil ?_) | (with_reducible refine w_cons ?_) | (with_reducible refine w_call ?_)
  | (with_reducible refine w_test ?_) | (with_reducible refine w_B ?_) | (with_reducible refine w_bl ?_) | (with_reducible refine w_not ?_) | (with_reducible refine w_yes ?_) | (with_reducible refine iteT ?_) | (with_reducible refine iteF ?_) | (with_reducible refine w_and ?_) | (with_reducible refine w_or ?_)
  | (with_reducible refine w_andV ?_) | (with_reducible refine w_orV ?_) | (with_reducible refine w_notV ?_) | (with_reducible refine w_if ?_)
  | (with_reducible refine w_int1 ?_) | (with_reducible refine w_int1b ?_) | (with_reducible refine w_abs ?_) | (with_reducible refine w_max2 ?_) | (with_reducible refine w_min2 ?_)
  | ((with_reducible refine w_eq ?h ?_); (case h => rfl)) | ((with_reducible refine w_ne ?h ?_); (case h => rfl)) | (with_reducible refine w_isN ?_) | (with_reducible refine w_isB ?_) | (with_reducible refine w_chain ?_)
  | (with_reducible refine w_ret ?_) | (with_reducible refine w_drop ?_) | (with_reducible refine w_ifS ?_) | (with_reducible refine w_gsub ?_) | (with_reducible refine w_augS ?_) | (with_reducible refine w_ipI ?_) | (with_reducible refine w_next ?_)
  | (with_reducible refine w_forR ?_) | (with_reducible refine w_forR2 ?_) | (with_reducible refine w_forL ?_) | (with_reducible refine w_forT ?_) | (with_reducible refine w_lcR ?_) | (with_reducible refine w_lcL ?_) | (with_reducible refine w_lcT ?_) | (with_reducible refine w_sl ?_) | (with_reducible refine w_part ?_) | (with_reducible refine w_noPart ?_) | (with_reducible refine w_in ?_)
  | (with_reducible refine w_gcons ?_) | (with_reducible refine w_gnil ?_) | (with_reducible refine w_lc3 ?_) | (with_reducible refine w_dcZ ?_) | (with_reducible refine w_dcT ?_) | (with_reducible refine w_dg ?_) | (with_reducible refine w_callK ?_) | (with_reducible refine w_dput ?_) | (with_reducible refine w_tup1 ?_)
  | (with_reducible refine w_tup ?_) | (with_reducible refine w_lst ?_)
  | ((with_reducible refine w_I ?h ?_); (case h => first | (exact Or.inr ⟨by decide, by decide⟩) | (exact Or.inl ⟨by decide, by decide⟩) | (show (0 : Int) < _; decide) | (exact ⟨by decide, by decide, by decide⟩) | assumption)))
local macro_rules | `(tactic| walk_at "aw") => `(tactic| repeat (walk_at "aw1"))
def pairD (ab : Int × Int) : PyData := .tuple [.int ab.1, .int ab.2]
def rowWD (r : Way) : PyData := .tuple [.str r.1, .str r.2.1, .tuple (r.2.2.map pairD)]
def exD (L : List Way) : PyData := .tuple (L.map rowWD)
theorem isAll_ix {H : Hp} : ∀ {vs : List V} {ds : List PyData}, vs.length = ds.length → (∀ (i : Nat) v, vs[i]? = some v → ∃ d, ds[i]? = some d ∧ Is H d v) → IsAll H ds vs
  | [], [], _, _ => .nil
  | [], d :: ds, h, _ => by simp at h
  | v :: vs, [], h, _ => by simp at h
  | v :: vs, d :: ds, h, g => by
    obtain ⟨d', h1, h2⟩ := g 0 v rfl
    cases h1
    exact .cons h2 (isAll_ix (by simpa using h) fun i u e => g (i + 1) u (by simpa using e))
theorem PairsAt.is {H : Hp} {vs : List V} {ps : List (Int × Int)} (h : PairsAt H vs ps) : IsAll H (ps.map pairD) vs := isAll_ix (by rw [List.length_map]; exact h.1) fun i v e => by
  obtain ⟨a, ab, rfl, h2, h3⟩ := h.2 i v e
  exact ⟨pairD ab, by rw [List.getElem?_map, h2]; rfl, .tup h3 (.cons (.int _) (.cons (.int _) .nil))⟩
theorem ExAt.is {H : Hp} {e : Addr} {L : List Way} (h : ExAt H e L) : Is H (exD L) (.ref e) := by
  obtain ⟨us, h1, h2⟩ := h
  refine .tup h1 (isAll_ix (by rw [List.length_map]; exact h2.length) fun i u e => ?_)
  have hi := (List.getElem?_eq_some_iff.mp e).1
  have hr : L[i]? = some (L[i]'(by rw [← h2.length]; exact hi)) := List.getElem?_eq_getElem _
  obtain ⟨p, q, vs, rfl, ep, eq, hps⟩ := paired_at h2 e hr
  refine ⟨rowWD _, by rw [List.getElem?_map, hr]; rfl, .tup ep (.cons (.str _) (.cons (.str _) (.cons (.tup eq hps.is) .nil)))⟩
def RowBd (r : Way) : Prop := smallP r.2.2 ∧ 1 ≤ r.2.2.length ∧ r.2.2.length ≤ 12 ∧ okS r.1 ∧ okS r.2.1 ∧ r.1.length ≤ 100 ∧ r.2.1.length ≤ 100
theorem exD_sw {L : List Way} (hL : L.length ≤ 60) (h : ∀ r ∈ L, RowBd r) : Sw 4 (exD L) := .tup (by rw [List.length_map]; exact hL) fun d hd => by
  obtain ⟨r, hr, rfl⟩ := List.mem_map.mp hd
  obtain ⟨_, _, h12, o1, o2, _, _⟩ := h r hr
  refine .tup (by simp) fun d hd => ?_
  simp only [List.mem_cons, List.not_mem_nil, or_false] at hd
  rcases hd with rfl | rfl | rfl
  · exact .str o1
  · exact .str o2
  · refine .tup (by rw [List.length_map]; omega) fun d hd => ?_
    obtain ⟨ab, _, rfl⟩ := List.mem_map.mp hd
    refine .tup (by simp) fun d hd => ?_
    simp only [List.mem_cons, List.not_mem_nil, or_false] at hd
    rcases hd with rfl | rfl
    · exact .int _
    · exact .int _
theorem domF_eq {doms : List (Str × List Int)} (nd : (doms.map (·.1)).Nodup) {x : Str} {d : List Int} (h : (x, d) ∈ doms) : domF doms x = d := by
  have h1 := domF_mem nd (List.mem_map_of_mem (f := (·.1)) h)
  obtain ⟨i, hi, e1⟩ := List.mem_iff_getElem.mp h1
  obtain ⟨j, hj, e2⟩ := List.mem_iff_getElem.mp h
  have : i = j := nodup_inj nd (x := x) (by rw [List.getElem?_map, List.getElem?_eq_getElem hi, e1]; rfl) (by rw [List.getElem?_map, List.getElem?_eq_getElem hj, e2]; rfl)
  subst this
  rw [e1] at e2
  exact congrArg Prod.snd e2
theorem led_row {doms : List (Str × List Int)} {τ : Str → Str × List (Int × Int)} (mok : MdlOk doms) (wok : WayOk doms τ) {x : Str} (hx : x ∈ doms.map (·.1)) : ledB doms (rowWD (x, τ x)) = true := by
  obtain ⟨dx, dy, hdx, hdy, hps, hps2⟩ := wok.row x hx
  have hy : (τ x).1 ∈ doms.map (·.1) := List.mem_map_of_mem (f := (·.1)) hdy
  have e1 : ((τ x).2.map pairD).map (fun p => (prI p).1) = (τ x).2.map (·.1) := by rw [List.map_map]; rfl
  have e2 : ((τ x).2.map pairD).map (fun p => (prI p).2) = (τ x).2.map (·.2) := by rw [List.map_map]; rfl
  have e3 : ((τ x).2.map pairD).all prB = true := by
    rw [List.all_map, List.all_eq_true]
    exact fun _ _ => rfl
  simp only [rowWD, ledB, nameIn, txtD, decide_eq_true hx, decide_eq_true hy, Bool.true_and, ldsB, e1, e2, e3, domF_eq mok.nm.nd hdx, domF_eq mok.nm.nd hdy, decide_eq_true hps, decide_eq_true hps2]
theorem asc_of {xs : List Str} (h : xs.Pairwise ltS) : ascB xs = true := asc_iff.mpr fun k hk => by
  have := List.pairwise_iff_getElem.mp h k (k + 1) (by omega) hk (by omega)
  rwa [getD_of (List.getElem?_eq_getElem (show k < xs.length by omega)), getD_of (List.getElem?_eq_getElem hk)]
theorem seconds_perm {doms : List (Str × List Int)} {τ : Str → Str × List (Int × Int)} {ms : List Str} (mok : MdlOk doms) (wok : WayOk doms τ) (hnd : ms.Nodup) (hin : ∀ x ∈ ms, x ∈ doms.map (·.1)) (hout : ∀ x ∈ doms.map (·.1), x ∉ ms → (τ x).1 = x) : (ms.map fun x => (τ x).1).Perm ms := by
  have hp : (doms.map (·.1)).Perm (ms ++ (doms.map (·.1)).filter fun x => decide (x ∉ ms)) := by
    refine (List.perm_ext_iff_of_nodup mok.nm.nd ?_).mpr fun x => ?_
    · refine List.nodup_append.mpr ⟨hnd, mok.nm.nd.filter _, fun a ha b hb e => ?_⟩
      have := (List.mem_filter.mp hb).2
      rw [decide_eq_true_iff] at this
      exact this (e ▸ ha)
    · rw [List.mem_append, List.mem_filter, decide_eq_true_iff]
      constructor
      · intro h
        by_cases z : x ∈ ms
        · exact .inl z
        · exact .inr ⟨h, z⟩
      · rintro (h | h)
        · exact hin x h
        · exact h.1
  have h1 := hp.map fun x => (τ x).1
  rw [List.map_append] at h1
  have h2 : (((doms.map (·.1)).filter fun x => decide (x ∉ ms)).map fun x => (τ x).1) = (doms.map (·.1)).filter fun x => decide (x ∉ ms) := by
    refine (List.map_congr_left fun x hx => ?_).trans (List.map_id _)
    have := List.mem_filter.mp hx
    exact hout x this.1 (of_decide_eq_true this.2)
  rw [h2] at h1
  exact (List.perm_append_right_iff _).mp ((h1.symm.trans wok.pm).trans hp)
theorem ex_true {doms : List (Str × List Int)} {τ : Str → Str × List (Int × Int)} {ms : List Str} (mok : MdlOk doms) (wok : WayOk doms τ) (hs : ms.Pairwise ltS) (hin : ∀ x ∈ ms, x ∈ doms.map (·.1)) (hp : (ms.map fun x => (τ x).1).Perm ms) : exB doms (exD (ms.map fun x => (x, τ x))) = true := by
  have e1 : ((ms.map fun x => (x, τ x)).map rowWD).map fstS = ms := by rw [List.map_map, List.map_map]; exact List.map_id' _
  have e2 : ((ms.map fun x => (x, τ x)).map rowWD).map sndS = ms.map fun x => (τ x).1 := by rw [List.map_map, List.map_map]; rfl
  have e3 : ((ms.map fun x => (x, τ x)).map rowWD).all (ledB doms) = true := by
    rw [List.all_map, List.all_map, List.all_eq_true]
    exact fun x hx => led_row mok wok (hin x hx)
  simp only [exD, exB, e1, e2, e3, asc_of hs, decide_eq_true hp, Bool.and_self]
theorem fil_of {xs : List Str} (nd : xs.Nodup) {zs : List Int} (hl : zs.length = xs.length) : ∃ φ : Str → Int, xs.map φ = zs := by
  refine ⟨fun x => zs.getD (xs.idxOf x) 0, ?_⟩
  apply List.ext_getElem (by rw [List.length_map, hl])
  intro i h1 h2
  rw [List.length_map] at h1
  rw [List.getElem_map, show xs.idxOf xs[i] = i from nd.idxOf_getElem i h1, getD_of (List.getElem?_eq_getElem h2)]
theorem pair_fst {ps : List (Int × Int)} (nd : (ps.map (·.1)).Nodup) {a b c : Int} (h1 : (a, b) ∈ ps) (h2 : (a, c) ∈ ps) : b = c := by
  obtain ⟨i, hi, e1⟩ := List.mem_iff_getElem.mp h1
  obtain ⟨j, hj, e2⟩ := List.mem_iff_getElem.mp h2
  have : i = j := nodup_inj nd (x := a) (by rw [List.getElem?_map, List.getElem?_eq_getElem hi, e1]; rfl) (by rw [List.getElem?_map, List.getElem?_eq_getElem hj, e2]; rfl)
  subst this
  rw [e1] at e2
  exact congrArg Prod.snd e2
theorem pair_snd {ps : List (Int × Int)} (nd : (ps.map (·.2)).Nodup) {a b c : Int} (h1 : (a, b) ∈ ps) (h2 : (c, b) ∈ ps) : a = c := by
  obtain ⟨i, hi, e1⟩ := List.mem_iff_getElem.mp h1
  obtain ⟨j, hj, e2⟩ := List.mem_iff_getElem.mp h2
  have : i = j := nodup_inj nd (x := b) (by rw [List.getElem?_map, List.getElem?_eq_getElem hi, e1]; rfl) (by rw [List.getElem?_map, List.getElem?_eq_getElem hj, e2]; rfl)
  subst this
  rw [e1] at e2
  exact congrArg Prod.fst e2
theorem way_snd_nd {doms : List (Str × List Int)} {τ : Str → Str × List (Int × Int)} (mok : MdlOk doms) (wok : WayOk doms τ) {x : Str} (hx : x ∈ doms.map (·.1)) : ((τ x).2.map (·.2)).Nodup := by
  obtain ⟨dx, dy, _, hdy, _, hps2⟩ := wok.row x hx
  exact hps2.nodup_iff.mpr ((mok.dm ((τ x).1, dy) hdy).asc.imp fun {a b} z e => by omega)
theorem led_eq {doms : List (Str × List Int)} {τ : Str → Str × List (Int × Int)} {φ : Str → Int} (mok : MdlOk doms) (wok : WayOk doms τ) (fok : FilOk doms φ) {x : Str} (hx : x ∈ doms.map (·.1)) {b : Int} (h : (φ x, b) ∈ (τ x).2) : b = ledT τ φ x := pair_fst (way_fst_nd mok wok hx) h (led_mem mok wok fok hx)
theorem turn_fwd {doms : List (Str × List Int)} {τ : Str → Str × List (Int × Int)} {ms : List Str} {φ ψ ψ1 : Str → Int} (mok : MdlOk doms) (wok : WayOk doms τ) (fok : FilOk doms φ) (hp : (ms.map fun x => (τ x).1).Perm ms) (hout : ∀ x ∈ doms.map (·.1), x ∉ ms → (τ x).1 = x ∧ ∀ ab ∈ (τ x).2, ab.1 = ab.2)
    (hψ : ∀ x ∈ doms.map (·.1), ψ (τ x).1 = ledT τ φ x) (h1 : ∀ x ∈ ms, (φ x, ψ1 (τ x).1) ∈ (τ x).2) (h2 : ∀ y, y ∉ ms.map (fun x => (τ x).1) → ψ1 y = φ y) : ∀ y ∈ doms.map (·.1), ψ1 y = ψ y := by
  intro y hy
  obtain ⟨x, hx, rfl⟩ := List.mem_map.mp (wok.pm.symm.subset hy)
  rw [hψ x hx]
  by_cases z : x ∈ ms
  · exact led_eq mok wok fok hx (h1 x z)
  · obtain ⟨e1, e2⟩ := hout x hx z
    have h3 := e2 _ (led_mem mok wok fok hx)
    rw [h2 _ fun w => z (by have := hp.subset w; rwa [e1] at this), e1]
    exact h3
theorem turn_back {doms : List (Str × List Int)} {τ : Str → Str × List (Int × Int)} {ms : List Str} {φ ψ χ : Str → Int} (mok : MdlOk doms) (wok : WayOk doms τ) (fok : FilOk doms φ) (hout : ∀ x ∈ doms.map (·.1), x ∉ ms → (τ x).1 = x ∧ ∀ ab ∈ (τ x).2, ab.1 = ab.2)
    (hψ : ∀ x ∈ doms.map (·.1), ψ (τ x).1 = ledT τ φ x) (hin : ∀ x ∈ ms, x ∈ doms.map (·.1)) (h1 : ∀ x ∈ ms, (χ x, ψ (τ x).1) ∈ (τ x).2) (h2 : ∀ y, y ∉ ms → χ y = ψ y) : ∀ y ∈ doms.map (·.1), χ y = φ y := by
  intro y hy
  by_cases z : y ∈ ms
  · have h3 := h1 y z
    rw [hψ y hy] at h3
    exact pair_snd (way_snd_nd mok wok hy) h3 (led_mem mok wok fok hy)
  · obtain ⟨e1, e2⟩ := hout y hy z
    have h3 := hψ y hy
    rw [e1] at h3
    rw [h2 y z, h3]
    exact (e2 _ (led_mem mok wok fok hy)).symm
theorem back_rows {τ : Str → Str × List (Int × Int)} {ms : List Str} {M : List Way} (h : Paired BackOf M (ms.map fun x => (x, τ x))) : M.map (·.2.1) = ms ∧ ∀ r ∈ M, ∃ x ∈ ms, r.1 = (τ x).1 ∧ r.2.1 = x ∧ r.2.2.Perm ((τ x).2.map swap) := by
  have hl := h.length
  rw [List.length_map] at hl
  have hat : ∀ (i : Nat) (h1 : i < M.length), BackOf M[i] (ms[i]'(by omega), τ (ms[i]'(by omega))) := fun i h1 => paired_at h (List.getElem?_eq_getElem h1) (by rw [List.getElem?_map, List.getElem?_eq_getElem (show i < ms.length by omega)]; rfl)
  refine ⟨?_, fun r hr => ?_⟩
  · apply List.ext_getElem (by rw [List.length_map, hl])
    intro i h1 h2
    rw [List.getElem_map]
    exact (hat i (by rw [List.length_map] at h1; exact h1)).2.1
  · obtain ⟨i, hi, rfl⟩ := List.mem_iff_getElem.mp hr
    obtain ⟨h1, h2, h3⟩ := hat i hi
    exact ⟨_, List.getElem_mem (by omega), h1, h2, h3⟩
theorem row_bd {doms : List (Str × List Int)} {τ : Str → Str × List (Int × Int)} (mok : MdlOk doms) (wok : WayOk doms τ) {x : Str} (hx : x ∈ doms.map (·.1)) : RowBd (x, τ x) ∧ RowBd ((τ x).1, x, (τ x).2.map swap) := by
  obtain ⟨dx, dy, hdx, hdy, hps, hps2⟩ := wok.row x hx
  have hy : (τ x).1 ∈ doms.map (·.1) := List.mem_map_of_mem (f := (·.1)) hdy
  have bx := mok.dm _ hdx
  have b_y := mok.dm _ hdy
  have hl : (τ x).2.length = dx.length := by rw [← hps, List.length_map]
  have s1 : smallP (τ x).2 := fun ab hab => by
    have h1 := bx.bd ab.1 (by show ab.1 ∈ dx; rw [← hps]; exact List.mem_map_of_mem (f := (·.1)) hab)
    have h2 := b_y.bd ab.2 (hps2.subset (List.mem_map_of_mem (f := (·.2)) hab))
    omega
  have s2 : smallP ((τ x).2.map swap) := fun ab hab => by
    obtain ⟨cd, hcd, rfl⟩ := List.mem_map.mp hab
    exact ⟨(s1 cd hcd).2, (s1 cd hcd).1⟩
  have l1 : 1 ≤ dx.length := bx.l1
  have l2 : dx.length ≤ 12 := bx.l2
  refine ⟨⟨s1, by show 1 ≤ (τ x).2.length; omega, by show (τ x).2.length ≤ 12; omega, mok.nm.ok _ hx, mok.nm.ok _ hy, mok.nm.le _ hx, mok.nm.le _ hy⟩, s2, by show 1 ≤ ((τ x).2.map swap).length; rw [List.length_map]; omega, by show ((τ x).2.map swap).length ≤ 12; rw [List.length_map]; omega, mok.nm.ok _ hy, mok.nm.ok _ hx, mok.nm.le _ hy, mok.nm.le _ hx⟩
theorem RowBd.perm {r : Way} {ps : List (Int × Int)} (h : RowBd r) (p : ps.Perm r.2.2) : RowBd (r.1, r.2.1, ps) := by
  obtain ⟨h1, h2, h3, h4⟩ := h
  have := p.length_eq
  exact ⟨fun ab hab => h1 ab (p.subset hab), by show 1 ≤ ps.length; omega, by show ps.length ≤ 12; omega, h4⟩
def filD (doms : List (Str × List Int)) (φ : Str → Int) : PyData := .tuple (((doms.map (·.1)).map φ).map .int)
theorem FilAt.is {H : Hp} {f : Addr} {doms : List (Str × List Int)} {φ ψ : Str → Int} (h : FilAt H f doms φ) (e : ∀ x ∈ doms.map (·.1), φ x = ψ x) : Is H (filD doms ψ) (.ref f) := by
  have h' : H f = some (.tup (((doms.map (·.1)).map ψ).map V.int)) := by
    rw [h, List.map_map (f := ψ)]
    congr 2
    exact List.map_congr_left fun x hx => by rw [e x hx]; rfl
  exact .tup h' (is_ints _)
theorem filD_sm {doms : List (Str × List Int)} {φ : Str → Int} (mok : MdlOk doms) : SmD 4 (filD doms φ) := .tup _ (by rw [List.length_map, List.length_map]; have := mok.nm.l2; omega) fun d hd => by
  obtain ⟨n, _, rfl⟩ := List.mem_map.mp hd
  exact .int n
theorem FilAt.up {H H' : Hp} {f : Addr} {doms : List (Str × List Int)} {φ : Str → Int} (h : FilAt H f doms φ) (k : TK H H') : FilAt H' f doms φ := k _ _ h
theorem ExAt.up {H H' : Hp} {e : Addr} {L : List Way} (h : ExAt H e L) (k : TK H H') : ExAt H' e L := by
  obtain ⟨us, h1, h2⟩ := h
  exact ⟨us, k _ _ h1, L2.Paired.mapP h2 fun _ _ z => z.up k⟩
theorem str_tri {x y : Str} (h : ¬ ltS y x) (n : x ≠ y) : ltS x y := by
  refine Classical.byContradiction fun h2 => n (cps_inj ?_)
  exact List.le_antisymm (List.not_lt.mp h) (List.not_lt.mp h2)
theorem sorted_asc {xs : List Str} (h : sortedS xs = true) (nd : xs.Nodup) : xs.Pairwise ltS := by
  have h1 := sorted_pw h
  exact (h1.and nd).imp fun {a b} z => str_tri z.1 z.2
def sp_law (K : PySem.W.Frag) : Sp := fun vs H Q _ => ∃ (a : Addr) (ns : List Int), vs = [.ref a] ∧ SqL K H a (ns.map V.int) ∧ ns.length ≤ 63 ∧ ∀ H', Q (.bl true) H'

end AW
namespace AW
open PySem PySem.Spec PyProof.Rows L2 RZ
open StX
local macro_rules | `(tactic| walk_at "aw1") => `(tactic| first
  | (with_reducible refine w_seq ?_) | (with_reducible refine w_asg ?_) | (with_reducible refine w_gname ?_) | (with_reducible refine w_op ?_) | (with_reducible refine w_un ?_)
  | ((with_reducible refine' w_var ?h ?_); (case h => rfl)) | (with_reducible refine w_c ?_)
  | (with_reducible refine w_I0 ?_) | (with_reducible refine w_U ?_) | (with_reducible refine w_cb ?_) | (with_reducible refine w_nil ?_) | (with_reducible refine w_cons ?_) | (with_reducible refine w_call ?_)
  | (with_reducible refine w_test ?_) | (with_reducible refine w_B ?_) | (with_reducible refine w_bl ?_) | (with_reducible refine w_not ?_) | (with_reducible refine w_yes ?_) | (with_reducible refine iteT ?_) | (with_reducible refine iteF ?_) | (with_reducible refine w_and ?_) | (with_reducible refine w_or ?_)
  | (with_reducible refine w_andV ?_) | (with_reducible refine w_orV ?_) | (with_reducible refine w_notV ?_) | (with_reducible refine w_if ?_)
  | (with_reducible refine w_int1 ?_) | (with_reducible refine w_int1b ?_) | (with_reducible refine w_abs ?_) | (with_reducible refine w_max2 ?_) | (with_reducible refine w_min2 ?_)
  | ((with_reducible refine w_eq ?h ?_); (case h => rfl)) | ((with_reducible refine w_ne ?h ?_); (case h => rfl)) | (with_reducible refine w_isN ?_) | (with_reducible refine w_isB ?_) | (with_reducible refine w_chain ?_)
  | (with_reducible refine w_ret ?_) | (with_reducible refine w_drop ?_) | (with_reducible refine w_ifS ?_) | (with_reducible refine w_gsub ?_) | (with_reducible refine w_augS ?_) | (with_reducible refine w_ipI ?_) | (with_reducible refine w_next ?_)
  | (with_reducible refine w_forR ?_) | (with_reducible refine w_forR2 ?_) | (with_reducible refine w_forL ?_) | (with_reducible refine w_forT ?_) | (with_reducible refine w_lcR ?_) | (with_reducible refine w_lcL ?_) | (with_reducible refine w_lcT ?_) | (with_reducible refine w_sl ?_) | (with_reducible refine w_part ?_) | (with_reducible refine w_noPart ?_) | (with_reducible refine w_in ?_)
  | (with_reducible refine w_gcons ?_) | (with_reducible refine w_gnil ?_) | (with_reducible refine w_lc3 ?_) | (with_reducible refine w_dcZ ?_) | (with_reducible refine w_dcT ?_) | (with_reducible refine w_dg ?_) | (with_reducible refine w_callK ?_) | (with_reducible refine w_dput ?_) | (with_reducible refine w_tup1 ?_)
  | (with_reducible refine w_tup ?_) | (with_reducible refine w_lst ?_)
  | ((with_reducible refine w_I ?h ?_); (case h => first | (exact Or.inr ⟨by decide, by decide⟩) | (exact Or.inl ⟨by decide, by decide⟩) | (show (0 : Int) < _; decide) | (exact ⟨by decide, by decide, by decide⟩) | assumption)))
local macro_rules | `(tactic| walk_at "aw") => `(tactic| repeat (walk_at "aw1"))
def t_law (K : PySem.W.Frag) : TS := (tSeq (tAsg (tCall (sp__law_pool K) [] E0 (tCons (tVar 0) tNil)) (gName 1))
  (tSeq (tAsg (tCall (sp__law_model K) [] E0 (tCons (tVar 1) tNil)) (gName 2))
  (tSeq (tAsg (tCall (sp__law_drawn_ways K) [] E0 (tCons (tVar 1) (tCons (tVar 2) (tCons (tCall (sp__law_draw K) [] E0 (tCons (tVar 1) (tCons (tC (.int 3)) tNil))) tNil)))) (gName 3))
  (tSeq (tAsg (tCall (sp__law_named K) [] E0 (tCons (tVar 1) (tCons (tVar 3) tNil))) (gName 4))
  (tSeq (tAsg (tCall (sp__law_exchange_of K) [] E0 (tCons (tVar 3) (tCons (tVar 4) tNil))) (gName 5))
  (tSeq (tIfS (tOr (tNot (tB (tCall (sp__law_same K 4) [] E0 (tCons (tCall (sp_check_exchange K) [] E0 (tCons (tVar 2) (tCons (tVar 5) tNil))) (tCons (tC (.bl true)) tNil))))) (tNot (tB (tCall (sp__law_same K 4) [] E0 (tCons (tCall (sp_check_exchange K) [] E0 (tCons (tVar 2) (tCons (tTup tNil) tNil))) (tCons (tC (.bl true)) tNil)))))) (tRet (tC (.bl false))) tNext)
  (tSeq (tAsg (tCall (sp__law_back K) [] E0 (tCons (tVar 5) tNil)) (gName 6))
  (tSeq (tFor (iRng1 (tCons (tC (.int 3)) tNil)) (gName 7)
  (tSeq (tAsg (tThen (tLc (iTup K (tOp (rIxT K) (tVar 2) (tC (.int 0)))) (gTup K 2 (gCons (gName 9) (gCons (gName 10) gNil))) tYes (tCall (sp__law_pick K) [] E0 (tCons (tVar 1) (tCons (tVar 10) tNil))) [9, 10]) (kTup K)) (gName 8))
  (tSeq (tAsg (tCall (sp__law_turned K) [] E0 (tCons (tVar 2) (tCons (tVar 3) (tCons (tVar 8) tNil)))) (gName 11))
  (tSeq (tIfS (tOr (tNot (tB (tCall (sp__law_same K 4) [] E0 (tCons (tCall (sp_turned K) [] E0 (tCons (tVar 2) (tCons (tVar 5) (tCons (tVar 8) tNil)))) (tCons (tVar 11) tNil))))) (tNot (tB (tCall (sp__law_same K 4) [] E0 (tCons (tCall (sp_turned K) [] E0 (tCons (tVar 2) (tCons (tVar 6) (tCons (tVar 11) tNil)))) (tCons (tVar 8) tNil)))))) (tRet (tC (.bl false))) tNext)
  (tIfS (tNot (tB (tCall (sp__law_same K 4) [] E0 (tCons (tCall (sp_turned K) [] E0 (tCons (tVar 2) (tCons (tTup tNil) (tCons (tVar 8) tNil)))) (tCons (tVar 8) tNil))))) (tRet (tC (.bl false))) tNext)))))
  (tSeq (tFor (iRng1 (tCons (tC (.int 6)) tNil)) (gName 7)
  (tSeq (tAsg (tCall (sp__law_spoilt K) [] E0 (tCons (tVar 1) (tCons (tOp (rIxL K) (tLst (tCons (tVar 5) (tCons (tVar 6) tNil))) (tCall (sp__law_draw K) [] E0 (tCons (tVar 1) (tCons (tC (.int 2)) tNil)))) tNil))) (gName 12))
  (tSeq (tIfS (tTest (tOp rEq (tCall (sp__law_draw K) [] E0 (tCons (tVar 1) (tCons (tC (.int 6)) tNil))) (tC (.int 0)))) (tAsg (tCall (sp__law_wild K 6) [] E0 (tCons (tVar 1) (tCons (tC (.int 4)) tNil))) (gName 12)) tNext)
  (tIfS (tNot (tB (tCall (sp__law_same K 4) [] E0 (tCons (tCall (sp_check_exchange K) [] E0 (tCons (tVar 2) (tCons (tVar 12) tNil))) (tCons (tCall (sp__law_is_exchange K) [] E0 (tCons (tVar 2) (tCons (tVar 12) tNil))) tNil))))) (tRet (tC (.bl false))) tNext))))
  (tRet (tCall (sp__law_same K 4) [] E0 (tCons (tCall (sp_check_exchange K) [] E0 (tCons (tVar 2) (tCons (tVar 5) tNil))) (tCons (tC (.bl true)) tNil)))))))))))))
theorem len_law {K : PySem.W.Frag} : ∀ (vs : List V) (H : Hp) (Q : VK) (E : XK), sp_law K vs H Q E → vs.length = 1 := fun vs H Q E h => by
  obtain ⟨_, _, rfl, _⟩ := h
  rfl
theorem pure_law {K : PySem.W.Frag} (vs : List V) (H : Hp) (Q : VK) (E : XK) (h : sp_law K vs H Q E) : t_law K { nx := fun _ H' => Q .non H', rt := Q } (start ["script", "pool", "model", "ways", "named", "exchange", "back", "turn", "filling", "x", "domain", "due", "value"] vs) H := by
  obtain ⟨a, ns, rfl, hs, hl, q⟩ := h
  show t_law K _ [some (.ref a), none, none, none, none, none, none, none, none, none, none, none, none] H
  unfold t_law
  walk_at "aw"
  refine ⟨a, ns, rfl, hs, hl, fun st cs H1 ok1 a1 nst => ?_⟩
  walk_at "aw"
  refine ⟨st, rfl, cs, ok1, fun m doms H2 g2 hm2 mok => ?_⟩
  walk_at "aw"
  refine w_draw g2.ok (by decide) (by decide) fun s H3 s0 s1 g3 => ?_
  walk_at "aw"
  refine ⟨st, m, s, rfl, cs, doms, g3.ok, hm2.up (k2_go g2.ok g3), mok, fun w H4 τ g4 nw hW4 wok => ?_⟩
  walk_at "aw"
  refine ⟨st, w, rfl, cs, doms, τ, g4.ok, mok, hW4, wok, fun r ns' H5 g5 nr er hnd hin hout => ?_⟩
  walk_at "aw"
  refine ⟨w, r, rfl, doms, τ, ns', mok, hW4.up (k3_go g4.ok g5), wok, er, hnd, hin, fun e ms H6 a6 hms hsrt hex6 => ?_⟩
  have hin : ∀ x ∈ ms, x ∈ doms.map (·.1) := fun x hx => hin x (hms.subset hx)
  have hout : ∀ x ∈ doms.map (·.1), x ∉ ms → (τ x).1 = x ∧ ∀ ab ∈ (τ x).2, ab.1 = ab.2 := fun x hx z => hout x hx fun y => z (hms.symm.subset y)
  have hnd : ms.Nodup := hms.nodup_iff.mpr hnd
  have hasc := sorted_asc hsrt hnd
  have hml : ms.length ≤ 24 := by
    have h1 : ms.length ≤ (doms.map (·.1)).length := hnd.length_le_of_subset hin
    have h2 := mok.nm.l2
    omega
  have hsec := seconds_perm mok wok hnd hin fun x hx z => (hout x hx z).1
  have hexT := ex_true mok wok hasc hin hsec
  have g26 := (g3.trans (g4.trans g5)).new a6
  have ok6 := g26.ok
  have hm6 := hm2.up (k2_go g2.ok g26)
  have hW6 := hW4.up (k3_go g4.ok (g5.new a6))
  clear hW4 hm2 er nr nw nst hms hsrt g26 a6 g5 g4 g3 g2 a1 ok1 hs
  have hbd : ∀ r ∈ ms.map (fun x => (x, τ x)), RowBd r := fun r hr => by
    obtain ⟨x, hx, rfl⟩ := List.mem_map.mp hr
    exact (row_bd mok wok (hin x hx)).1
  have hsw := exD_sw (L := ms.map fun x => (x, τ x)) (by rw [List.length_map]; omega) hbd
  walk_at "aw"
  refine ⟨m, .ref e, rfl, doms, exD (ms.map fun x => (x, τ x)), 4, hm6, mok, hex6.is, hsw, by omega, fun H7 a7 => ?_⟩
  walk_at "aw"
  rw [hexT]
  refine ⟨_, _, rfl, .bool true, .bl true, .bl true, .bl _, ?_⟩
  walk_at "aw"
  refine iteF'' rfl ?_
  walk_at "aw"
  refine w_tupD (by show 0 ≤ 100000; decide) fun e0 H8 ne0 a8 ee0 => ?_
  walk_at "aw"
  have a68 := a7.trans a8
  refine ⟨m, .ref e0, rfl, doms, .tuple [], 1, hm6.up (k2_of a68), mok, .tup ee0 .nil, .tup (by simp) (fun d hd => absurd hd (by simp)), by omega, fun H9 a9 => ?_⟩
  walk_at "aw"
  refine ⟨_, _, rfl, .bool true, .bl true, .bl true, .bl _, ?_⟩
  walk_at "aw"
  refine iteF'' rfl ?_
  walk_at "aw"
  have a69 := a68.trans a9
  refine ⟨e, rfl, _, hex6.up a69.tup, by rw [List.length_map]; omega, fun r hr => by have := (hbd r hr).2.2.1; omega, by rw [List.map_map]; exact hsec.nodup_iff.mpr hnd, fun b L' M HB aB hb hLM hMB => ?_⟩
  have k0 := k2_of (a69.trans aB)
  have hmB := hm6.up k0
  have hWB := hW6.up (k3_of (a69.trans aB))
  have hexB := hex6.up (a69.trans aB).tup
  have okB := (Go.of ok6 (a69.trans aB)).ok
  obtain ⟨hM1, hM2⟩ := back_rows hMB
  have hL2 : (L'.map (·.2.1)).Perm ms := by rw [← hM1]; exact hLM.map _
  have hLr : ∀ r ∈ L', ∃ x ∈ ms, r.1 = (τ x).1 ∧ r.2.1 = x ∧ r.2.2.Perm ((τ x).2.map swap) := fun r hr => hM2 r (hLM.subset hr)
  have hLl : L'.length = ms.length := by rw [← hL2.length_eq, List.length_map]
  have hLbd : ∀ r ∈ L', RowBd r := fun r hr => by
    obtain ⟨x, hx, h1, h2, h3⟩ := hLr r hr
    have := (row_bd mok wok (hin x hx)).2.perm h3
    rw [show r = ((τ x).1, x, r.2.2) by rw [← h1, ← h2]]
    exact this
  have hy : ∀ x ∈ ms, (τ x).1 ∈ doms.map (·.1) := fun x hx => wok.pm.subset (List.mem_map_of_mem (f := fun x => (τ x).1) (hin x hx))
  clear hex6 hm6 hW6 k0 hbd
  have hbd : ∀ r ∈ ms.map (fun x => (x, τ x)), RowBd r := fun r hr => by
    obtain ⟨x, hx, rfl⟩ := List.mem_map.mp hr
    exact (row_bd mok wok (hin x hx)).1
  obtain ⟨ma, mb, o, rr, us, rfl, e1, e2, ho, hus⟩ := id hmB
  have n2 := mok.nm.l2
  have hul := hus.1
  have hnt : (doms.map (·.1)).length = doms.length := List.length_map ..
  walk_at "aw"
  refine kForR_i (n := 3) (by decide) (fun i σ' H' => ∃ y7 y8 y11 : Option V, σ' = [some (.ref a), some (.ref st), some (.ref ma), some (.ref w), some (.ref r), some (.ref e), some (.ref b), y7, y8, none, none, y11, none] ∧ Go st cs HB H') ⟨none, none, none, rfl, .refl okB⟩ (fun i σ' H' hi pp => ?_) fun σ' H' pp => ?_
  · obtain ⟨y7, y8, y11, rfl, g⟩ := pp
    have k2 := k2_go okB g
    walk_at "aw"
    refine w_ixT (SqT.of (k2.t _ _ e1)) (at_nat (by decide) rfl) ?_
    refine ⟨mb, rfl, ⟨_, sqt_f (k2.f _ _ _ e2)⟩, kLc_all (walk_tup (xs := us)) (by omega) g.ok (fun H2 g2 => sqt_f ((k2_go okB (g.trans g2)).f _ _ _ e2)) (fun i v _ => ∃ (z : Int) (d : Str × List Int), v = .int z ∧ doms[i]? = some d ∧ z ∈ d.2) (fun _ _ _ _ _ h => h) (fun i x H2 H3 Kt hi g2 yy kt => ?_) fun zl H2 ys nzl g2 ezl hyl hyr => ?_⟩
    · obtain ⟨rfl, hu⟩ := yy
      obtain ⟨p, qd, d, rfl, hd, ep, eq⟩ := hus.2 i x hu
      have hdm := mok.dm d (List.mem_of_getElem? hd)
      have l1 := hdm.l1
      have l2 := hdm.l2
      refine w_gtup (SqT.of ((g.trans g2).tk _ _ ep)) rfl ?_
      walk_at "aw"
      refine ⟨rfl, ?_⟩
      walk_at "aw"
      refine ⟨st, qd, rfl, cs, _, g2.ok, .inr ((g.trans g2).tk _ _ eq), by rw [List.length_map]; omega, by rw [List.length_map]; omega, fun j v H4 hv g4 => ?_⟩
      rw [List.getElem?_map] at hv
      obtain ⟨z, hz, rfl⟩ := Option.map_eq_some_iff.mp hv
      exact kt _ H4 g4 ⟨z, d, rfl, hd, List.mem_of_getElem? hz⟩
    obtain ⟨zs, rfl⟩ : ∃ zs : List Int, ys = zs.map V.int := by
      refine ⟨ys.map fun v => match v with | .int z => z | _ => 0, ?_⟩
      rw [List.map_map]
      refine ((List.map_congr_left fun v hv => ?_).trans (List.map_id _)).symm
      obtain ⟨j, hj, rfl⟩ := List.mem_iff_getElem.mp hv
      obtain ⟨z, d, h1, _⟩ := hyr j _ (List.getElem?_eq_getElem hj)
      show V.int _ = _
      rw [h1]
      rfl
    rw [List.length_map] at hyl
    obtain ⟨φ, hφ⟩ := fil_of mok.nm.nd (zs := zs) (by omega)
    have fok : FilOk doms φ := fun d hd => by
      obtain ⟨j, hj, rfl⟩ := List.mem_iff_getElem.mp hd
      obtain ⟨z, d', h1, h2, h3⟩ := hyr j (.int (zs[j]'(by omega))) (by rw [List.getElem?_map, List.getElem?_eq_getElem (by omega)]; rfl)
      rw [List.getElem?_eq_getElem hj] at h2
      cases h2
      cases h1
      have h4 : zs[j]? = some (φ (doms[j]).1) := by
        rw [← hφ, List.getElem?_map, List.getElem?_map, List.getElem?_eq_getElem hj]
        rfl
      have h5 := List.getElem?_eq_getElem (show j < zs.length by omega)
      rw [h4] at h5
      rw [Option.some.inj h5]
      exact h3
    walk_at "aw"
    refine w_tupL (SqL.of ezl) fun t H3 nt a3 et => ?_
    walk_at "aw"
    have g13 := g.trans (g2.new a3)
    have hfil : FilAt H3 t doms φ := by
      show H3 t = _
      rw [et, ← hφ, List.map_map]
      rfl
    have k3 := k3_go okB g13
    refine ⟨.ref ma, w, t, rfl, doms, τ, φ, hmB.up k3.k, mok, hWB.up k3, wok, hfil, fok, fun due ψ H4 a4 hψ hled => ?_⟩
    walk_at "aw"
    have g14 := g13.new a4
    have k4 := k2_go okB g14
    refine ⟨.ref ma, e, t, rfl, doms, ms.map (fun x => (x, τ x)), φ, hmB.up k4, mok, hexB.up g14.tk, hfil.up a4.tup, by rw [List.map_map]; exact hsec.nodup_iff.mpr hnd, fun rr hr => ?_, fun t1 ψ1 H5 a5 h1 hr1 hs1 => ?_⟩
    · obtain ⟨x, hx, rfl⟩ := List.mem_map.mp hr
      exact ⟨hin x hx, hy x hx, (hbd _ hr).2.2.1, _, led_mem mok wok fok (hin x hx)⟩
    walk_at "aw"
    have heq1 := turn_fwd mok wok fok hsec hout hled (fun x hx => hr1 _ (List.mem_map_of_mem (f := fun x => (x, τ x)) hx)) fun y hy => hs1 y (by rw [List.map_map]; exact hy)
    refine ⟨_, _, rfl, filD doms ψ, h1.is heq1, (hψ.up a5.tup).is (fun _ _ => rfl), filD_sm mok, ?_⟩
    walk_at "aw"
    refine iteF'' rfl ?_
    walk_at "aw"
    have g15 := g14.new a5
    have k5 := k2_go okB g15
    refine ⟨.ref ma, b, due, rfl, doms, L', ψ, hmB.up k5, mok, (hb.up g15.tk), hψ.up a5.tup, hL2.nodup_iff.mpr hnd, fun rr hr => ?_, fun t2 χ H6 a6 h2 hr2 hs2 => ?_⟩
    · obtain ⟨x, hx, f1, f2, f3⟩ := hLr rr hr
      refine ⟨by rw [f1]; exact hy x hx, by rw [f2]; exact hin x hx, (hLbd _ hr).2.2.1, φ x, f3.symm.subset ?_⟩
      rw [f1, hled x (hin x hx)]
      exact List.mem_map_of_mem (f := swap) (led_mem mok wok fok (hin x hx))
    walk_at "aw"
    have heq2 := turn_back mok wok fok hout hled hin (χ := χ) (fun x hx => by
      have hxm : x ∈ L'.map (·.2.1) := hL2.symm.subset hx
      obtain ⟨rr, hr, rfl⟩ := List.mem_map.mp hxm
      obtain ⟨x, hx, f1, f2, f3⟩ := hLr rr hr
      have h3 := f3.subset (hr2 rr hr)
      obtain ⟨ab, hab, e⟩ := List.mem_map.mp h3
      rw [f1, f2] at e
      rw [f2]
      have e1 : ab.2 = ψ (τ x).1 := congrArg Prod.fst e
      have e2 : ab.1 = χ x := congrArg Prod.snd e
      rw [← e1, ← e2]
      exact hab) fun y hy => hs2 y fun z => hy (hL2.subset z)
    refine ⟨_, _, rfl, filD doms φ, h2.is heq2, (hfil.up (a4.trans (a5.trans a6)).tup).is (fun _ _ => rfl), filD_sm mok, ?_⟩
    walk_at "aw"
    refine iteF'' rfl ?_
    walk_at "aw"
    refine w_tupD (by show 0 ≤ 100000; decide) fun e1 H7 ne1 a7 ee1 => ?_
    walk_at "aw"
    have g17 := g15.new (a6.trans a7)
    have k7 := k2_go okB g17
    have hfil7 := hfil.up (a4.trans (a5.trans (a6.trans a7))).tup
    refine ⟨.ref ma, e1, t, rfl, doms, [], φ, hmB.up k7, mok, ⟨[], ee1, .nil⟩, hfil7, .nil, fun rr hr => absurd hr (by simp), fun t3 χ' H8 a8 h3 _ hs3 => ?_⟩
    walk_at "aw"
    refine ⟨_, _, rfl, filD doms φ, h3.is (fun x _ => hs3 x (by simp)), (hfil7.up a8.tup).is (fun _ _ => rfl), filD_sm mok, ?_⟩
    walk_at "aw"
    refine iteF'' rfl ?_
    walk_at "aw"
    exact ⟨_, _, _, rfl, g17.new a8⟩
  · obtain ⟨y7, y8, y11, rfl, g⟩ := pp
    walk_at "aw"
    refine kForR_i (n := 6) (by decide) (fun i σ' H' => ∃ y7 y8 y11 y12 : Option V, σ' = [some (.ref a), some (.ref st), some (.ref ma), some (.ref w), some (.ref r), some (.ref e), some (.ref b), y7, y8, none, none, y11, y12] ∧ Go st cs HB H') ⟨_, _, _, none, rfl, g⟩ (fun i σ' H' hi pp => ?_) fun σ' H' pp => ?_
    · obtain ⟨y7, y8, y11, y12, rfl, g⟩ := pp
      walk_at "aw"
      refine w_lstD (by simp) fun l H2 nl a2 el => ?_
      walk_at "aw"
      have g2 := g.new a2
      refine w_draw g2.ok (by decide) (by decide) fun n H3 n0 n1 g3 => ?_
      have g13 := g2.trans g3
      obtain ⟨ex, Lx, hix, hexx, hlen, hbdx⟩ : ∃ (ex : Addr) (Lx : List Way), atI [V.ref e, V.ref b] n = some (V.ref ex) ∧ ExAt HB ex Lx ∧ Lx.length ≤ 24 ∧ ∀ r ∈ Lx, RowBd r := by
        have hn : n = 0 ∨ n = 1 := by omega
        rcases hn with rfl | rfl
        · exact ⟨e, _, at_nat (by decide) rfl, hexB, by rw [List.length_map]; exact hml, hbd⟩
        · exact ⟨b, _, at_nat (by decide) rfl, hb, by omega, hLbd⟩
      refine w_ixL (SqL.of (g3.keep (g.ok.ne nl).1 el)) hix ?_
      walk_at "aw"
      refine ⟨st, ex, rfl, cs, Lx, g3.ok, hexx.up g13.tk, hlen, hbdx, fun v H4 g4 d4 => ?_⟩
      have g14 := g13.trans g4
      with_reducible refine w_gname ?_
      with_reducible refine w_seq ?_
      refine w_ifJ (fun σ2 H' => ∃ v, σ2 = [some (.ref a), some (.ref st), some (.ref ma), some (.ref w), some (.ref r), some (.ref e), some (.ref b), some (.int (i : Nat)), y8, none, none, y11, some v] ∧ Go st cs HB H' ∧ Dat 8 H' v) (fun D' hD => ?_) fun σ2 H' z => ?_
      · walk_at "aw"
        refine w_draw g14.ok (by decide) (by decide) fun k H5 k0 k1 g5 => ?_
        walk_at "aw"
        refine w_iteB (fun _ => ?_) fun _ => ?_
        · walk_at "aw"
          refine ⟨st, 4, rfl, cs, g5.ok, by decide, by decide, fun v' H6 g6 d6 => ?_⟩
          walk_at "aw"
          exact hD _ _ ⟨v', rfl, g14.trans (g5.trans g6), d6.mono (by decide)⟩
        · walk_at "aw"
          exact hD _ _ ⟨v, rfl, g14.trans g5, d4.up g5.tk⟩
      · obtain ⟨v, rfl, g, D, hD, hS⟩ := z
        have k := k2_go okB g
        walk_at "aw"
        refine ⟨.ref ma, v, rfl, doms, D, 8, hmB.up k, mok, hD, hS, by decide, fun H7 a7 => ?_⟩
        walk_at "aw"
        refine ⟨.ref ma, v, rfl, doms, D, 8, hmB.up (k.trans (k2_of a7)), mok, hD.up a7.tup, hS, by decide, fun H8 a8 => ?_⟩
        walk_at "aw"
        refine ⟨_, _, rfl, .bool (exB doms D), .bl _, .bl _, .bl _, ?_⟩
        walk_at "aw"
        refine iteF'' rfl ?_
        walk_at "aw"
        exact ⟨_, _, _, _, rfl, g.new (a7.trans a8)⟩
    · obtain ⟨y7, y8, y11, y12, rfl, g⟩ := pp
      walk_at "aw"
      refine ⟨.ref ma, .ref e, rfl, doms, exD (ms.map fun x => (x, τ x)), 4, hmB.up (k2_go okB g), mok, (hexB.up g.tk).is, hsw, by omega, fun H7 a7 => ?_⟩
      walk_at "aw"
      rw [hexT]
      refine ⟨_, _, rfl, .bool true, .bl true, .bl true, .bl _, ?_⟩
      exact q _
end AW
namespace AW
open PySem PySem.Spec PyProof.Rows L2 RZ
open StX
def topS (i : Nat) : Stmt := PySem.Challenge.pw_aswritten_k84_exchanges_and_turned.main.body.getD i (.Pass ⟨0, 0, 0, 0⟩)
abbrev s__law_back : Stmt := topS 30
abbrev n__law_back : List Str := ["exchange", "row", "x", "y", "pairs", "v", "w"]
theorem sc__law_back : FnScope n__law_back ["exchange"] (defScope s__law_back) := ⟨rfl, rfl, rfl, by decide +kernel, rfl, by decide +kernel, by decide +kernel⟩
theorem ok__law_back {P : Program} {w : World} {K : PySem.W.Frag} {mg : Str → Option Value} {base : Heap} {f : Addr} {fd : FuncData} (F : Fun K "_law_back" "_law_back" s__law_back f fd) (gf : mg "_law_back" = some (.ref f))   (m_sorted : mg "sorted" = none) (m_tuple : mg "tuple" = none)  : Cal P w K mg base "_law_back" 1 ["exchange"] (sp__law_back K) := by
  refine ⟨f, fd, F.ok sc__law_back len__law_back (fun cdv A outer s H vs Q E hr h => ⟨t__law_back K, PSs.nox ?_, pure__law_back vs H Q E h⟩), F.kp, F.binds (fun _ _ _ _ _ _ us hl => match us, hl with | [_], _ => rfl), gf⟩
  exact (pss_cons (ps_set (i := 1) sc__law_back.nd rfl (by first | exact .inl rfl | exact .inr rfl) (pe_lst pa_nil))
  (pss_cons (ps_for PassesOwn.never rfl (pi_tup (pv 0)) (pg_tup rfl (pgs_cons (pg_name (i := 2) sc__law_back.nd rfl (by first | exact .inl rfl | exact .inr rfl)) (pgs_cons (pg_name (i := 3) sc__law_back.nd rfl (by first | exact .inl rfl | exact .inr rfl)) (pgs_cons (pg_name (i := 4) sc__law_back.nd rfl (by first | exact .inl rfl | exact .inr rfl)) pgs_nil))))
  (pss_one (ps_expr (pe_bm PySem.F.plainAttrs_list PySem.F.slot_list_append PySem.F.type_list_append mt_append (pv 1) (pa_cons (pe_tup (pa_cons (pv 3) (pa_cons (pv 2) (pa_cons (pe_tupleOf (by rfl) m_tuple (pe_callB cr_sortedPO (by rfl) m_sorted (by decide +kernel) (pa_cons (pe_lc (own := [("v", 5), ("w", 6)]) rfl sc__law_back.nd (pi_tup (pv 4)) (blkOk_by (own := [("v", 5), ("w", 6)]) (N := n__law_back) (sc := defScope s__law_back) (by decide +kernel)) (fun _ _ _ _ _ => (pg_tup rfl (pgs_cons (pg_name (i := 5) sc__law_back.nd rfl (by first | exact .inl rfl | exact .inr rfl)) (pgs_cons (pg_name (i := 6) sc__law_back.nd rfl (by first | exact .inl rfl | exact .inr rfl)) pgs_nil)))) (fun _ _ _ _ _ => pts_nil) (fun _ _ _ _ _ => (pe_tup (pa_cons (pv 6) (pa_cons (pv 5) pa_nil))))) pa_nil))) pa_nil)))) pa_nil)))))
  (pss_one (ps_ret (pe_tupleOf (by rfl) m_tuple (pe_callB call_sortedTN (by rfl) m_sorted (by decide +kernel) (pa_cons (pv 1) pa_nil)))))))
abbrev s__law_mixed : Stmt := topS 13
abbrev n__law_mixed : List Str := ["a", "b", "one", "two"]
theorem sc__law_mixed : FnScope n__law_mixed ["a", "b"] (defScope s__law_mixed) := ⟨rfl, rfl, rfl, by decide +kernel, rfl, by decide +kernel, by decide +kernel⟩
theorem ok__law_mixed {P : Program} {w : World} {K : PySem.W.Frag} {mg : Str → Option Value} {base : Heap} {f : Addr} {fd : FuncData} (F : Fun K "_law_mixed" "_law_mixed" s__law_mixed f fd) (gf : mg "_law_mixed" = some (.ref f))   (m_int : mg "int" = none)  : Cal P w K mg base "_law_mixed" 1 ["a", "b"] (sp__law_mixed K) := by
  refine ⟨f, fd, F.ok sc__law_mixed len__law_mixed (fun cdv A outer s H vs Q E hr h => ⟨t__law_mixed , PSs.nox ?_, pure__law_mixed vs H Q E h⟩), F.kp, F.binds (fun _ _ _ _ _ _ us hl => match us, hl with | [_, _], _ => rfl), gf⟩
  exact (pss_cons (ps_set (i := 2) sc__law_mixed.nd rfl (by first | exact .inl rfl | exact .inr rfl) (pe_op op_mod (pe_op op_add (pe_op op_add (pe_op op_mul (pe_op op_mod (pe_callTy call_int1 (by rfl) m_int (by decide +kernel) (pa_cons (pv 0) pa_nil)) pe_int) pe_int) (pe_op op_mul (pe_op op_mod (pe_callTy call_int1 (by rfl) m_int (by decide +kernel) (pa_cons (pv 1) pa_nil)) pe_int) pe_int)) pe_int) pe_int))
  (pss_cons (ps_set (i := 3) sc__law_mixed.nd rfl (by first | exact .inl rfl | exact .inr rfl) (pe_op op_mod (pe_op op_add (pe_op op_add (pe_op op_add (pe_op op_mul (pv 2) (pv 2)) (pe_op op_mul (pv 2) pe_int)) (pe_op op_mul (pe_op op_mod (pe_callTy call_int1 (by rfl) m_int (by decide +kernel) (pa_cons (pv 1) pa_nil)) pe_int) pe_int)) pe_int) pe_int))
  (pss_one (ps_ret (pe_op op_mod (pe_op op_add (pe_op op_mul (pv 3) pe_int) (pe_op op_fdiv (pv 2) pe_int)) pe_int)))))
abbrev s__law_draw : Stmt := topS 15
abbrev n__law_draw : List Str := ["pool", "many", "rest", "cell"]
theorem sc__law_draw : FnScope n__law_draw ["pool", "many"] (defScope s__law_draw) := ⟨rfl, rfl, rfl, by decide +kernel, rfl, by decide +kernel, by decide +kernel⟩
theorem ok__law_draw {P : Program} {w : World} {K : PySem.W.Frag} {mg : Str → Option Value} {base : Heap} {f : Addr} {fd : FuncData} (F : Fun K "_law_draw" "_law_draw" s__law_draw f fd) (gf : mg "_law_draw" = some (.ref f)) (C__law_mixed : Cal P w K mg base "_law_mixed" 1 ["a", "b"] (sp__law_mixed K))  (m_int : mg "int" = none) (m_len : mg "len" = none)  : Cal P w K mg base "_law_draw" 2 ["pool", "many"] (sp__law_draw K) := by
  refine ⟨f, fd, F.ok sc__law_draw len__law_draw (fun cdv A outer s H vs Q E hr h => ⟨t__law_draw K, PSs.nox ?_, pure__law_draw vs H Q E h⟩), F.kp, F.binds (fun _ _ _ _ _ _ us hl => match us, hl with | [_, _], _ => rfl), gf⟩
  exact (pss_cons (ps_set (i := 2) sc__law_draw.nd rfl (by first | exact .inl rfl | exact .inr rfl) (pe_ix ix_list (pv 0) pe_int (fun _ _ => rfl)))
  (pss_cons (ps_if (PW.pt (pw_and (pt_cmpR op_lt (pv 2) pe_int (nomark _)) (pw_and1 (pt_cmpR op_lt (pe_ix ix_list (pv 0) pe_int (fun _ _ => rfl)) (pe_callB call_len1 (by rfl) m_len (by decide +kernel) (pa_cons (pe_ix ix_list (pv 0) pe_int (fun _ _ => rfl)) pa_nil)) (nomark _))))) (pss_cons (ps_set (i := 3) sc__law_draw.nd rfl (by first | exact .inl rfl | exact .inr rfl) (pe_ix ix_list (pe_ix ix_list (pv 0) pe_int (fun _ _ => rfl)) (pe_ix ix_list (pv 0) pe_int (fun _ _ => rfl)) (fun _ _ => rfl)))
  (pss_cons (ps_asg (pe_op op_add (pe_ix ix_list (pv 0) pe_int (fun _ _ => rfl)) pe_int) (pg_sub (pv 0) pe_int set_list))
  (pss_cons (ps_if (pt_cmpR op_ge (pv 3) (pe_op op_pow pe_int pe_int) (nomark _)) (pss_cons (ps_set (i := 2) sc__law_draw.nd rfl (by first | exact .inl rfl | exact .inr rfl) (pe_op op_sub (pv 3) (pe_op op_pow pe_int pe_int)))
  (pss_cons (ps_asg (pe_op op_fdiv (pv 2) (pv 1)) (pg_sub (pv 0) pe_int set_list))
  (pss_cons (ps_asg pe_int (pg_sub (pv 0) pe_int set_list))
  (pss_one (ps_ret (pe_op op_mod (pe_callTy call_int1 (by rfl) m_int (by decide +kernel) (pa_cons (pv 2) pa_nil)) (pv 1))))))) pss_nil)
  (pss_one (ps_asg (pe_cal C__law_mixed (hr.mono (by decide)) rfl (pa_cons (pe_op op_add (pe_ix ix_list (pv 0) pe_int (fun _ _ => rfl)) (pv 3)) (pa_cons (pe_ix ix_list (pv 0) pe_int (fun _ _ => rfl)) pa_nil))) (pg_sub (pv 0) pe_int set_list)))))) (pss_one (ps_if (pt_cmpR op_lt (pv 2) pe_int (nomark _)) (pss_cons (ps_asg (pe_op op_add (pe_ix ix_list (pv 0) pe_int (fun _ _ => rfl)) pe_int) (pg_sub (pv 0) pe_int set_list))
  (pss_one (ps_asg (pe_cal C__law_mixed (hr.mono (by decide)) rfl (pa_cons (pe_ix ix_list (pv 0) pe_int (fun _ _ => rfl)) (pa_cons (pe_op op_add pe_int (pe_ix ix_list (pv 0) pe_int (fun _ _ => rfl))) pa_nil))) (pg_sub (pv 0) pe_int set_list)))) (pss_cons (ps_asg (pe_op op_sub (pe_ix ix_list (pv 0) pe_int (fun _ _ => rfl)) pe_int) (pg_sub (pv 0) pe_int set_list))
  (pss_cons (ps_asg (pe_op op_mul (pe_op op_fdiv (pv 2) (pv 1)) (pe_callTy call_int1 (by rfl) m_int (by decide +kernel) (pa_cons (pe_cmpR op_gt (pe_ix ix_list (pv 0) pe_int (fun _ _ => rfl)) pe_int (nomark _)) pa_nil))) (pg_sub (pv 0) pe_int set_list))
  (pss_one (ps_ret (pe_op op_mod (pe_callTy call_int1 (by rfl) m_int (by decide +kernel) (pa_cons (pv 2) pa_nil)) (pv 1)))))))))
  (pss_cons (ps_asg pe_int (pg_sub (pv 0) pe_int set_list))
  (pss_one (ps_ret (pe_op op_mod (pe_callTy call_int1 (by rfl) m_int (by decide +kernel) (pa_cons (pe_ix ix_list (pv 0) pe_int (fun _ _ => rfl)) pa_nil)) (pv 1)))))))
abbrev s__law_shuffled : Stmt := topS 17
abbrev n__law_shuffled : List Str := ["pool", "some", "left", "k"]
theorem sc__law_shuffled : FnScope n__law_shuffled ["pool", "some"] (defScope s__law_shuffled) := ⟨rfl, rfl, rfl, by decide +kernel, rfl, by decide +kernel, by decide +kernel⟩
theorem ok__law_shuffled {P : Program} {w : World} {K : PySem.W.Frag} {mg : Str → Option Value} {base : Heap} {f : Addr} {fd : FuncData} (F : Fun K "_law_shuffled" "_law_shuffled" s__law_shuffled f fd) (gf : mg "_law_shuffled" = some (.ref f)) (C__law_draw : Cal P w K mg base "_law_draw" 2 ["pool", "many"] (sp__law_draw K))  (m_len : mg "len" = none) (m_list : mg "list" = none) (m_range : mg "range" = none)  : Cal P w K mg base "_law_shuffled" 3 ["pool", "some"] (sp__law_shuffled K) := by
  refine ⟨f, fd, F.ok sc__law_shuffled len__law_shuffled (fun cdv A outer s H vs Q E hr h => ⟨t__law_shuffled K, PSs.nox ?_, pure__law_shuffled vs H Q E h⟩), F.kp, F.binds (fun _ _ _ _ _ _ us hl => match us, hl with | [_, _], _ => rfl), gf⟩
  exact (pss_cons (ps_set (i := 2) sc__law_shuffled.nd rfl (by first | exact .inl rfl | exact .inr rfl) (pe_callTy (call_listOfA rfl) (by rfl) m_list (by decide +kernel) (pa_cons (pv 1) pa_nil)))
  (pss_one (ps_ret (pe_lc (own := [("k", 3)]) rfl sc__law_shuffled.nd (pi_range1 (by rfl) m_range (pa_cons (pe_callB call_len1 (by rfl) m_len (by decide +kernel) (pa_cons (pv 1) pa_nil)) pa_nil)) (blkOk_by (own := [("k", 3)]) (N := n__law_shuffled) (sc := defScope s__law_shuffled) (by decide +kernel)) (fun _ _ _ _ _ => (pg_name (i := 3) sc__law_shuffled.nd rfl (by first | exact .inl rfl | exact .inr rfl))) (fun _ _ _ _ _ => pts_nil) (fun _ _ _ _ _ => (pe_bm PySem.F.plainAttrs_list PySem.F.slot_list_pop PySem.F.type_list_pop mt_popAt (pv 2) (pa_cons (pe_cal C__law_draw (hr.mono (by decide)) rfl (pa_cons (pv 0) (pa_cons (pe_callB call_len1 (by rfl) m_len (by decide +kernel) (pa_cons (pv 2) pa_nil)) pa_nil))) pa_nil)))))))
abbrev s__law_ways : Stmt := topS 23
abbrev n__law_ways : List Str := ["model", "exchange", "ways", "x", "domain", "v", "y", "pairs"]
theorem sc__law_ways : FnScope n__law_ways ["model", "exchange"] (defScope s__law_ways) := ⟨rfl, rfl, rfl, by decide +kernel, rfl, by decide +kernel, by decide +kernel⟩
theorem ok__law_ways {P : Program} {w : World} {K : PySem.W.Frag} {mg : Str → Option Value} {base : Heap} {f : Addr} {fd : FuncData} (F : Fun K "_law_ways" "_law_ways" s__law_ways f fd) (gf : mg "_law_ways" = some (.ref f))   (m_dict : mg "dict" = none)  : Cal P w K mg base "_law_ways" 1 ["model", "exchange"] (sp__law_ways K) := by
  refine ⟨f, fd, F.ok sc__law_ways len__law_ways (fun cdv A outer s H vs Q E hr h => ⟨t__law_ways K, PSs.nox ?_, pure__law_ways vs H Q E h⟩), F.kp, F.binds (fun _ _ _ _ _ _ us hl => match us, hl with | [_, _], _ => rfl), gf⟩
  exact (pss_cons (ps_set (i := 2) sc__law_ways.nd rfl (by first | exact .inl rfl | exact .inr rfl) pe_dnewK)
  (pss_cons (ps_for PassesOwn.never rfl (pi_tup (pe_ix ix_tup (pv 0) pe_int (fun _ _ => rfl))) (pg_tup rfl (pgs_cons (pg_name (i := 3) sc__law_ways.nd rfl (by first | exact .inl rfl | exact .inr rfl)) (pgs_cons (pg_name (i := 4) sc__law_ways.nd rfl (by first | exact .inl rfl | exact .inr rfl)) pgs_nil)))
  (pss_one (ps_dput (hu_of hr) (pv 2) (pv 3) (pe_tup (pa_cons (pv 3) (pa_cons (pe_callTy (call_dictP1 rfl) (by rfl) m_dict (by decide +kernel) (pa_cons (pe_lc (own := [("v", 5)]) rfl sc__law_ways.nd (pi_tup (pv 4)) (blkOk_by (own := [("v", 5)]) (N := n__law_ways) (sc := defScope s__law_ways) (by decide +kernel)) (fun _ _ _ _ _ => (pg_name (i := 5) sc__law_ways.nd rfl (by first | exact .inl rfl | exact .inr rfl))) (fun _ _ _ _ _ => pts_nil) (fun _ _ _ _ _ => (pe_tup (pa_cons (pv 5) (pa_cons (pv 5) pa_nil))))) pa_nil)) pa_nil))) rfl)))
  (pss_cons (ps_for PassesOwn.never rfl (pi_tup (pv 1)) (pg_tup rfl (pgs_cons (pg_name (i := 3) sc__law_ways.nd rfl (by first | exact .inl rfl | exact .inr rfl)) (pgs_cons (pg_name (i := 6) sc__law_ways.nd rfl (by first | exact .inl rfl | exact .inr rfl)) (pgs_cons (pg_name (i := 7) sc__law_ways.nd rfl (by first | exact .inl rfl | exact .inr rfl)) pgs_nil))))
  (pss_one (ps_dput (hu_of hr) (pv 2) (pv 3) (pe_tup (pa_cons (pv 6) (pa_cons (pe_callTy (call_dictP1 rfl) (by rfl) m_dict (by decide +kernel) (pa_cons (pv 7) pa_nil)) pa_nil))) rfl)))
  (pss_one (ps_ret (pv 2))))))
abbrev s__law_drawn_ways : Stmt := topS 28
abbrev n__law_drawn_ways : List Str := ["pool", "model", "style", "domains", "ways", "groups", "x", "domain", "key", "aims", "alike", "k", "y", "j"]
theorem sc__law_drawn_ways : FnScope n__law_drawn_ways ["pool", "model", "style"] (defScope s__law_drawn_ways) := ⟨rfl, rfl, rfl, by decide +kernel, rfl, by decide +kernel, by decide +kernel⟩
theorem ok__law_drawn_ways {P : Program} {w : World} {K : PySem.W.Frag} {mg : Str → Option Value} {base : Heap} {f : Addr} {fd : FuncData} (F : Fun K "_law_drawn_ways" "_law_drawn_ways" s__law_drawn_ways f fd) (gf : mg "_law_drawn_ways" = some (.ref f)) (C__law_draw : Cal P w K mg base "_law_draw" 2 ["pool", "many"] (sp__law_draw K)) (C__law_shuffled : Cal P w K mg base "_law_shuffled" 3 ["pool", "some"] (sp__law_shuffled K)) (C__law_ways : Cal P w K mg base "_law_ways" 1 ["model", "exchange"] (sp__law_ways K))  (m_dict : mg "dict" = none) (m_len : mg "len" = none) (m_list : mg "list" = none) (m_range : mg "range" = none)  : Cal P w K mg base "_law_drawn_ways" 4 ["pool", "model", "style"] (sp__law_drawn_ways K) := by
  refine ⟨f, fd, F.ok sc__law_drawn_ways len__law_drawn_ways (fun cdv A outer s H vs Q E hr h => ⟨t__law_drawn_ways K, PSs.nox ?_, pure__law_drawn_ways vs H Q E h⟩), F.kp, F.binds (fun _ _ _ _ _ _ us hl => match us, hl with | [_, _, _], _ => rfl), gf⟩
  exact (pss_cons (ps_set (i := 3) sc__law_drawn_ways.nd rfl (by first | exact .inl rfl | exact .inr rfl) (pe_callTy (call_dictPT rfl) (by rfl) m_dict (by decide +kernel) (pa_cons (pe_ix ix_tup (pv 1) pe_int (fun _ _ => rfl)) pa_nil)))
  (pss_cons (ps_set (i := 4) sc__law_drawn_ways.nd rfl (by first | exact .inl rfl | exact .inr rfl) (pe_cal C__law_ways (hr.mono (by decide)) rfl (pa_cons (pv 1) (pa_cons (pe_tup pa_nil) pa_nil))))
  (pss_cons (ps_set (i := 5) sc__law_drawn_ways.nd rfl (by first | exact .inl rfl | exact .inr rfl) pe_dnewT)
  (pss_cons (ps_for PassesOwn.never rfl (pi_tup (pe_ix ix_tup (pv 1) pe_int (fun _ _ => rfl))) (pg_tup rfl (pgs_cons (pg_name (i := 6) sc__law_drawn_ways.nd rfl (by first | exact .inl rfl | exact .inr rfl)) (pgs_cons (pg_name (i := 7) sc__law_drawn_ways.nd rfl (by first | exact .inl rfl | exact .inr rfl)) pgs_nil)))
  (pss_cons (ps_set (i := 8) sc__law_drawn_ways.nd rfl (by first | exact .inl rfl | exact .inr rfl) (pe_ifExp (pt_cmpR op_lt (pv 2) pe_int (nomark _)) (pv 7) (pe_tup (pa_cons (pe_callB call_len1 (by rfl) m_len (by decide +kernel) (pa_cons (pv 7) pa_nil)) pa_nil))))
  (pss_one (ps_dput (hu_of hr) (pv 5) (pv 8) (pe_op op_cat (pe_dget2 (hu_of hr) (pv 5) (pv 8) (pe_lst pa_nil) ⟨rfl, rfl, rfl, rfl⟩) (pe_lst (pa_cons (pv 6) pa_nil))) rfl))))
  (pss_cons (ps_lock (ps_for PassesOwn.never rfl (pi_keys (pv 5)) (pg_name (i := 8) sc__law_drawn_ways.nd rfl (by first | exact .inl rfl | exact .inr rfl))
  (pss_cons (ps_set (i := 9) sc__law_drawn_ways.nd rfl (by first | exact .inl rfl | exact .inr rfl) (pe_dget (hu_of hr) (pv 5) (pv 8) (fun _ _ => rfl)))
  (pss_cons (ps_if (pt_cmpR op_gt (pe_cal C__law_draw (hr.mono (by decide)) rfl (pa_cons (pv 0) (pa_cons pe_int pa_nil))) pe_int (nomark _)) (pss_one (ps_set (i := 9) sc__law_drawn_ways.nd rfl (by first | exact .inl rfl | exact .inr rfl) (pe_cal C__law_shuffled (hr.mono (by decide)) rfl (pa_cons (pv 0) (pa_cons (pv 9) pa_nil))))) pss_nil)
  (pss_cons (ps_set (i := 10) sc__law_drawn_ways.nd rfl (by first | exact .inl rfl | exact .inr rfl) (pe_listRg rfl (by rfl) m_list (prg_1 (by rfl) m_range (pe_callB call_len1 (by rfl) m_len (by decide +kernel) (pa_cons (pe_dget (hu_of hr) (pv 3) (pe_ix ix_list (pv 9) pe_int (fun _ _ => rfl)) (fun _ _ => rfl)) pa_nil)))))
  (pss_cons (ps_if (pt_cmpR op_eq (pv 2) pe_int (nomark _)) (pss_one (ps_set (i := 10) sc__law_drawn_ways.nd rfl (by first | exact .inl rfl | exact .inr rfl) (pe_cal C__law_shuffled (hr.mono (by decide)) rfl (pa_cons (pv 0) (pa_cons (pv 10) pa_nil))))) pss_nil)
  (pss_one (ps_for PassesOwn.never rfl (pi_range1 (by rfl) m_range (pa_cons (pe_callB call_len1 (by rfl) m_len (by decide +kernel) (pa_cons (pv 9) pa_nil)) pa_nil)) (pg_name (i := 11) sc__law_drawn_ways.nd rfl (by first | exact .inl rfl | exact .inr rfl))
  (pss_cons (ps_asg (pe_tup (pa_cons (pe_ix ix_list (pe_dget (hu_of hr) (pv 5) (pv 8) (fun _ _ => rfl)) (pv 11) (fun _ _ => rfl)) (pa_cons (pe_ix ix_list (pv 9) (pv 11) (fun _ _ => rfl)) pa_nil))) (pg_tup rfl (pgs_cons (pg_name (i := 6) sc__law_drawn_ways.nd rfl (by first | exact .inl rfl | exact .inr rfl)) (pgs_cons (pg_name (i := 12) sc__law_drawn_ways.nd rfl (by first | exact .inl rfl | exact .inr rfl)) pgs_nil))))
  (pss_cons (ps_if (pt_cmpR op_eq (pv 2) pe_int (nomark _)) (pss_one (ps_set (i := 10) sc__law_drawn_ways.nd rfl (by first | exact .inl rfl | exact .inr rfl) (pe_cal C__law_shuffled (hr.mono (by decide)) rfl (pa_cons (pv 0) (pa_cons (pv 10) pa_nil))))) pss_nil)
  (pss_one (ps_dput (hu_of hr) (pv 4) (pv 6) (pe_tup (pa_cons (pv 12) (pa_cons (pe_callTy (call_dictP1 rfl) (by rfl) m_dict (by decide +kernel) (pa_cons (pe_lc (own := [("j", 13)]) rfl sc__law_drawn_ways.nd (pi_range1 (by rfl) m_range (pa_cons (pe_callB call_len1 (by rfl) m_len (by decide +kernel) (pa_cons (pv 10) pa_nil)) pa_nil)) (blkOk_by (own := [("j", 13)]) (N := n__law_drawn_ways) (sc := defScope s__law_drawn_ways) (by decide +kernel)) (fun _ _ _ _ _ => (pg_name (i := 13) sc__law_drawn_ways.nd rfl (by first | exact .inl rfl | exact .inr rfl))) (fun _ _ _ _ _ => pts_nil) (fun _ _ _ _ _ => (pe_tup (pa_cons (pe_ix ix_tup (pe_dget (hu_of hr) (pv 3) (pv 6) (fun _ _ => rfl)) (pv 13) (fun _ _ => rfl)) (pa_cons (pe_ix ix_tup (pe_dget (hu_of hr) (pv 3) (pv 12) (fun _ _ => rfl)) (pe_ix ix_list (pv 10) (pv 13) (fun _ _ => rfl)) (fun _ _ => rfl)) pa_nil))))) pa_nil)) pa_nil))) rfl))))))))))))
  (pss_one (ps_ret (pv 4))))))))
abbrev s__law_exchange_of : Stmt := topS 25
abbrev n__law_exchange_of : List Str := ["ways", "names", "row", "x", "v"]
theorem sc__law_exchange_of : FnScope n__law_exchange_of ["ways", "names"] (defScope s__law_exchange_of) := ⟨rfl, rfl, rfl, by decide +kernel, rfl, by decide +kernel, by decide +kernel⟩
theorem ok__law_exchange_of {P : Program} {w : World} {K : PySem.W.Frag} {mg : Str → Option Value} {base : Heap} {f : Addr} {fd : FuncData} (F : Fun K "_law_exchange_of" "_law_exchange_of" s__law_exchange_of f fd) (gf : mg "_law_exchange_of" = some (.ref f))   (m_sorted : mg "sorted" = none) (m_tuple : mg "tuple" = none)  : Cal P w K mg base "_law_exchange_of" 1 ["ways", "names"] (sp__law_exchange_of K) := by
  refine ⟨f, fd, F.ok sc__law_exchange_of len__law_exchange_of (fun cdv A outer s H vs Q E hr h => ⟨t__law_exchange_of K, PSs.nox ?_, pure__law_exchange_of vs H Q E h⟩), F.kp, F.binds (fun _ _ _ _ _ _ us hl => match us, hl with | [_, _], _ => rfl), gf⟩
  exact (pss_cons (ps_set (i := 2) sc__law_exchange_of.nd rfl (by first | exact .inl rfl | exact .inr rfl) (pe_lst pa_nil))
  (pss_cons (ps_for PassesOwn.never rfl (pi_list (pe_callB cr_sortedS (by rfl) m_sorted (by decide +kernel) (pa_cons (pv 1) pa_nil))) (pg_name (i := 3) sc__law_exchange_of.nd rfl (by first | exact .inl rfl | exact .inr rfl))
  (pss_one (ps_expr (pe_bm PySem.F.plainAttrs_list PySem.F.slot_list_append PySem.F.type_list_append mt_append (pv 2) (pa_cons (pe_tup (pa_cons (pv 3) (pa_cons (pe_ix ix_tup (pe_dget (hu_of hr) (pv 0) (pv 3) (fun _ _ => rfl)) pe_int (fun _ _ => rfl)) (pa_cons (pe_tupleOf (by rfl) m_tuple (pe_callB cr_sortedPO (by rfl) m_sorted (by decide +kernel) (pa_cons (pe_lock (pe_lc (own := [("v", 4)]) rfl sc__law_exchange_of.nd (pi_keys (pe_ix ix_tup (pe_dget (hu_of hr) (pv 0) (pv 3) (fun _ _ => rfl)) pe_int (fun _ _ => rfl))) (blkOk_by (own := [("v", 4)]) (N := n__law_exchange_of) (sc := defScope s__law_exchange_of) (by decide +kernel)) (fun _ _ _ _ _ => (pg_name (i := 4) sc__law_exchange_of.nd rfl (by first | exact .inl rfl | exact .inr rfl))) (fun _ _ _ _ _ => pts_nil) (fun _ _ _ _ _ => (pe_tup (pa_cons (pv 4) (pa_cons (pe_dget (hu_of hr) (pe_ix ix_tup (pe_dget (hu_of hr) (pv 0) (pv 3) (fun _ _ => rfl)) pe_int (fun _ _ => rfl)) (pv 4) (fun _ _ => rfl)) pa_nil)))))) pa_nil))) pa_nil)))) pa_nil)))))
  (pss_one (ps_ret (pe_tupleOf (by rfl) m_tuple (pv 2))))))
abbrev s__law_is_number : Stmt := topS 20
abbrev n__law_is_number : List Str := ["value"]
theorem sc__law_is_number : FnScope n__law_is_number ["value"] (defScope s__law_is_number) := ⟨rfl, rfl, rfl, by decide +kernel, rfl, by decide +kernel, by decide +kernel⟩
theorem ok__law_is_number {P : Program} {w : World} {K : PySem.W.Frag} {mg : Str → Option Value} {base : Heap} {f : Addr} {fd : FuncData} (F : Fun K "_law_is_number" "_law_is_number" s__law_is_number f fd) (gf : mg "_law_is_number" = some (.ref f))   (m_bool : mg "bool" = none) (m_int : mg "int" = none) (m_isinstance : mg "isinstance" = none)  : Cal P w K mg base "_law_is_number" 1 ["value"] (sp__law_is_number K) := by
  refine ⟨f, fd, F.ok sc__law_is_number len__law_is_number (fun cdv A outer s H vs Q E hr h => ⟨t__law_is_number K, PSs.nox ?_, pure__law_is_number vs H Q E h⟩), F.kp, F.binds (fun _ _ _ _ _ _ us hl => match us, hl with | [_], _ => rfl), gf⟩
  exact (pss_one (ps_ret (pe_and (pe_callB call_isi (by rfl) m_isinstance (by decide +kernel) (pa_cons (pv 0) (pa_cons (pe_bltn (by rfl) m_int (by decide +kernel) rfl) pa_nil))) (pe_one (pe_not (pe_callB call_isi (by rfl) m_isinstance (by decide +kernel) (pa_cons (pv 0) (pa_cons (pe_bltn (by rfl) m_bool (by decide +kernel) rfl) pa_nil))))))))
abbrev s__law_leads : Stmt := topS 21
abbrev n__law_leads : List Str := ["domain", "other", "pairs", "pair"]
theorem sc__law_leads : FnScope n__law_leads ["domain", "other", "pairs"] (defScope s__law_leads) := ⟨rfl, rfl, rfl, by decide +kernel, rfl, by decide +kernel, by decide +kernel⟩
theorem ok__law_leads {P : Program} {w : World} {K : PySem.W.Frag} {mg : Str → Option Value} {base : Heap} {f : Addr} {fd : FuncData} (F : Fun K "_law_leads" "_law_leads" s__law_leads f fd) (gf : mg "_law_leads" = some (.ref f)) (C__law_is_number : Cal P w K mg base "_law_is_number" 1 ["value"] (sp__law_is_number K))  (m_isinstance : mg "isinstance" = none) (m_len : mg "len" = none) (m_sorted : mg "sorted" = none) (m_tuple : mg "tuple" = none)  : Cal P w K mg base "_law_leads" 2 ["domain", "other", "pairs"] (sp__law_leads K) := by
  refine ⟨f, fd, F.ok sc__law_leads len__law_leads (fun cdv A outer s H vs Q E hr h => ⟨t__law_leads K, PSs.nox ?_, pure__law_leads vs H Q E h⟩), F.kp, F.binds (fun _ _ _ _ _ _ us hl => match us, hl with | [_, _, _], _ => rfl), gf⟩
  exact (pss_cons (ps_if (pt_not (pt_val (pe_callB call_isi (by rfl) m_isinstance (by decide +kernel) (pa_cons (pv 2) (pa_cons (pe_bltn (by rfl) m_tuple (by decide +kernel) rfl) pa_nil))))) (pss_one (ps_ret pe_bl)) pss_nil)
  (pss_cons (ps_for PassesOwn.never rfl (pi_tup (pv 2)) (pg_name (i := 3) sc__law_leads.nd rfl (by first | exact .inl rfl | exact .inr rfl))
  (pss_one (ps_if (PW.pt (pw_or (pt_not (pt_val (pe_callB call_isi (by rfl) m_isinstance (by decide +kernel) (pa_cons (pv 3) (pa_cons (pe_bltn (by rfl) m_tuple (by decide +kernel) rfl) pa_nil))))) (pw_or (pt_cmpR op_ne (pe_callB call_len1 (by rfl) m_len (by decide +kernel) (pa_cons (pv 3) pa_nil)) pe_int (nomark _)) (pw_or (pt_not (pt_val (pe_cal C__law_is_number (hr.mono (by decide)) rfl (pa_cons (pe_ix ix_tup (pv 3) pe_int (fun _ _ => rfl)) pa_nil)))) (pw_or1 (pt_not (pt_val (pe_cal C__law_is_number (hr.mono (by decide)) rfl (pa_cons (pe_ix ix_tup (pv 3) pe_int (fun _ _ => rfl)) pa_nil))))))))) (pss_one (ps_ret pe_bl)) pss_nil)))
  (pss_one (ps_ret (pe_and (pe_cmpR (op_eqD (units64 hr)) (pe_tupleOf (by rfl) m_tuple (pe_lc (own := [("pair", 3)]) rfl sc__law_leads.nd (pi_tup (pv 2)) (blkOk_by (own := [("pair", 3)]) (N := n__law_leads) (sc := defScope s__law_leads) (by decide +kernel)) (fun _ _ _ _ _ => (pg_name (i := 3) sc__law_leads.nd rfl (by first | exact .inl rfl | exact .inr rfl))) (fun _ _ _ _ _ => pts_nil) (fun _ _ _ _ _ => (pe_ix ix_tup (pv 3) pe_int (fun _ _ => rfl))))) (pv 0) (nomark _)) (pe_one (pe_cmpR (op_eqD (units64 hr)) (pe_tupleOf (by rfl) m_tuple (pe_callB cr_sortedI (by rfl) m_sorted (by decide +kernel) (pa_cons (pe_lc (own := [("pair", 3)]) rfl sc__law_leads.nd (pi_tup (pv 2)) (blkOk_by (own := [("pair", 3)]) (N := n__law_leads) (sc := defScope s__law_leads) (by decide +kernel)) (fun _ _ _ _ _ => (pg_name (i := 3) sc__law_leads.nd rfl (by first | exact .inl rfl | exact .inr rfl))) (fun _ _ _ _ _ => pts_nil) (fun _ _ _ _ _ => (pe_ix ix_tup (pv 3) pe_int (fun _ _ => rfl)))) pa_nil))) (pv 1) (nomark _))))))))
abbrev s__law_is_exchange : Stmt := topS 22
abbrev n__law_is_exchange : List Str := ["model", "value", "domains", "names", "one"]
theorem sc__law_is_exchange : FnScope n__law_is_exchange ["model", "value"] (defScope s__law_is_exchange) := ⟨rfl, rfl, rfl, by decide +kernel, rfl, by decide +kernel, by decide +kernel⟩
theorem ok__law_is_exchange {P : Program} {w : World} {K : PySem.W.Frag} {mg : Str → Option Value} {base : Heap} {f : Addr} {fd : FuncData} (F : Fun K "_law_is_exchange" "_law_is_exchange" s__law_is_exchange f fd) (gf : mg "_law_is_exchange" = some (.ref f)) (C__law_leads : Cal P w K mg base "_law_leads" 2 ["domain", "other", "pairs"] (sp__law_leads K))  (m_dict : mg "dict" = none) (m_isinstance : mg "isinstance" = none) (m_len : mg "len" = none) (m_sorted : mg "sorted" = none) (m_str : mg "str" = none) (m_tuple : mg "tuple" = none)  : Cal P w K mg base "_law_is_exchange" 3 ["model", "value"] (sp__law_is_exchange K) := by
  refine ⟨f, fd, F.ok sc__law_is_exchange len__law_is_exchange (fun cdv A outer s H vs Q E hr h => ⟨t__law_is_exchange K, PSs.nox ?_, pure__law_is_exchange vs H Q E h⟩), F.kp, F.binds (fun _ _ _ _ _ _ us hl => match us, hl with | [_, _], _ => rfl), gf⟩
  exact (pss_cons (ps_set (i := 2) sc__law_is_exchange.nd rfl (by first | exact .inl rfl | exact .inr rfl) (pe_callTy (call_dictPT rfl) (by rfl) m_dict (by decide +kernel) (pa_cons (pe_ix ix_tup (pv 0) pe_int (fun _ _ => rfl)) pa_nil)))
  (pss_cons (ps_if (pt_not (pt_val (pe_callB call_isi (by rfl) m_isinstance (by decide +kernel) (pa_cons (pv 1) (pa_cons (pe_bltn (by rfl) m_tuple (by decide +kernel) rfl) pa_nil))))) (pss_one (ps_ret pe_bl)) pss_nil)
  (pss_cons (ps_set (i := 3) sc__law_is_exchange.nd rfl (by first | exact .inl rfl | exact .inr rfl) (pe_lst pa_nil))
  (pss_cons (ps_for PassesOwn.never rfl (pi_tup (pv 1)) (pg_name (i := 4) sc__law_is_exchange.nd rfl (by first | exact .inl rfl | exact .inr rfl))
  (pss_cons (ps_if (PW.pt (pw_or (pt_not (pt_val (pe_callB call_isi (by rfl) m_isinstance (by decide +kernel) (pa_cons (pv 4) (pa_cons (pe_bltn (by rfl) m_tuple (by decide +kernel) rfl) pa_nil))))) (pw_or (pt_cmpR op_ne (pe_callB call_len1 (by rfl) m_len (by decide +kernel) (pa_cons (pv 4) pa_nil)) pe_int (nomark _)) (pw_or (pt_not (pt_val (pe_callB call_isi (by rfl) m_isinstance (by decide +kernel) (pa_cons (pe_ix ix_tup (pv 4) pe_int (fun _ _ => rfl)) (pa_cons (pe_bltn (by rfl) m_str (by decide +kernel) rfl) pa_nil))))) (pw_or1 (pt_not (pt_val (pe_callB call_isi (by rfl) m_isinstance (by decide +kernel) (pa_cons (pe_ix ix_tup (pv 4) pe_int (fun _ _ => rfl)) (pa_cons (pe_bltn (by rfl) m_str (by decide +kernel) rfl) pa_nil)))))))))) (pss_one (ps_ret pe_bl)) pss_nil)
  (pss_cons (ps_if (PW.pt (pw_or (pt_cmp (pc_dnotin (hu_of hr) (pe_ix ix_tup (pv 4) pe_int (fun _ _ => rfl)) (pv 2))) (pw_or1 (pt_cmp (pc_dnotin (hu_of hr) (pe_ix ix_tup (pv 4) pe_int (fun _ _ => rfl)) (pv 2)))))) (pss_one (ps_ret pe_bl)) pss_nil)
  (pss_cons (ps_if (pt_not (pt_val (pe_cal C__law_leads (hr.mono (by decide)) rfl (pa_cons (pe_dget (hu_of hr) (pv 2) (pe_ix ix_tup (pv 4) pe_int (fun _ _ => rfl)) (fun _ _ => rfl)) (pa_cons (pe_dget (hu_of hr) (pv 2) (pe_ix ix_tup (pv 4) pe_int (fun _ _ => rfl)) (fun _ _ => rfl)) (pa_cons (pe_ix ix_tup (pv 4) pe_int (fun _ _ => rfl)) pa_nil)))))) (pss_one (ps_ret pe_bl)) pss_nil)
  (pss_cons (ps_if (PW.pt (pw_and (pt_cmpR op_gt (pe_callB call_len1 (by rfl) m_len (by decide +kernel) (pa_cons (pv 3) pa_nil)) pe_int (nomark _)) (pw_and1 (pt_cmpR op_geS (pe_ix ix_list (pv 3) (pe_un un_neg pe_int) (fun _ _ => rfl)) (pe_ix ix_tup (pv 4) pe_int (fun _ _ => rfl)) (nomark _))))) (pss_one (ps_ret pe_bl)) pss_nil)
  (pss_one (ps_expr (pe_bm PySem.F.plainAttrs_list PySem.F.slot_list_append PySem.F.type_list_append mt_append (pv 3) (pa_cons (pe_ix ix_tup (pv 4) pe_int (fun _ _ => rfl)) pa_nil)))))))))
  (pss_one (ps_ret (pe_cmpR (op_eqD (units64 hr)) (pe_callB cr_sortedS (by rfl) m_sorted (by decide +kernel) (pa_cons (pe_lc (own := [("one", 4)]) rfl sc__law_is_exchange.nd (pi_tup (pv 1)) (blkOk_by (own := [("one", 4)]) (N := n__law_is_exchange) (sc := defScope s__law_is_exchange) (by decide +kernel)) (fun _ _ _ _ _ => (pg_name (i := 4) sc__law_is_exchange.nd rfl (by first | exact .inl rfl | exact .inr rfl))) (fun _ _ _ _ _ => pts_nil) (fun _ _ _ _ _ => (pe_ix ix_tup (pv 4) pe_int (fun _ _ => rfl)))) pa_nil)) (pv 3) (nomark _))))))))
abbrev s__law_pick : Stmt := topS 16
abbrev n__law_pick : List Str := ["pool", "some"]
theorem sc__law_pick : FnScope n__law_pick ["pool", "some"] (defScope s__law_pick) := ⟨rfl, rfl, rfl, by decide +kernel, rfl, by decide +kernel, by decide +kernel⟩
theorem ok__law_pick {P : Program} {w : World} {K : PySem.W.Frag} {mg : Str → Option Value} {base : Heap} {f : Addr} {fd : FuncData} (F : Fun K "_law_pick" "_law_pick" s__law_pick f fd) (gf : mg "_law_pick" = some (.ref f)) (C__law_draw : Cal P w K mg base "_law_draw" 2 ["pool", "many"] (sp__law_draw K))  (m_len : mg "len" = none)  : Cal P w K mg base "_law_pick" 3 ["pool", "some"] (sp__law_pick K) := by
  refine ⟨f, fd, F.ok sc__law_pick len__law_pick (fun cdv A outer s H vs Q E hr h => ⟨t__law_pick K, PSs.nox ?_, pure__law_pick vs H Q E h⟩), F.kp, F.binds (fun _ _ _ _ _ _ us hl => match us, hl with | [_, _], _ => rfl), gf⟩
  exact (pss_one (ps_ret (pe_ix ix_any (pv 1) (pe_cal C__law_draw (hr.mono (by decide)) rfl (pa_cons (pv 0) (pa_cons (pe_callB call_len1 (by rfl) m_len (by decide +kernel) (pa_cons (pv 1) pa_nil)) pa_nil))) (fun _ _ => rfl))))
abbrev s__law_drawn_domain : Stmt := topS 27
abbrev n__law_drawn_domain : List Str := ["pool", "size", "first", "domain", "k"]
theorem sc__law_drawn_domain : FnScope n__law_drawn_domain ["pool", "size"] (defScope s__law_drawn_domain) := ⟨rfl, rfl, rfl, by decide +kernel, rfl, by decide +kernel, by decide +kernel⟩
theorem ok__law_drawn_domain {P : Program} {w : World} {K : PySem.W.Frag} {mg : Str → Option Value} {base : Heap} {f : Addr} {fd : FuncData} (F : Fun K "_law_drawn_domain" "_law_drawn_domain" s__law_drawn_domain f fd) (gf : mg "_law_drawn_domain" = some (.ref f)) (C__law_pick : Cal P w K mg base "_law_pick" 3 ["pool", "some"] (sp__law_pick K))  (m_range : mg "range" = none) (m_tuple : mg "tuple" = none)  : Cal P w K mg base "_law_drawn_domain" 4 ["pool", "size"] (sp__law_drawn_domain K) := by
  refine ⟨f, fd, F.ok sc__law_drawn_domain len__law_drawn_domain (fun cdv A outer s H vs Q E hr h => ⟨t__law_drawn_domain K, PSs.nox ?_, pure__law_drawn_domain vs H Q E h⟩), F.kp, F.binds (fun _ _ _ _ _ _ us hl => match us, hl with | [_, _], _ => rfl), gf⟩
  exact (pss_cons (ps_set (i := 2) sc__law_drawn_domain.nd rfl (by first | exact .inl rfl | exact .inr rfl) (pe_cal C__law_pick (hr.mono (by decide)) rfl (pa_cons (pv 0) (pa_cons (pe_lst (pa_cons pe_int (pa_cons pe_int (pa_cons pe_int (pa_cons pe_int (pa_cons pe_int (pa_cons (pe_un un_neg pe_int) (pa_cons pe_int pa_nil)))))))) pa_nil))))
  (pss_cons (ps_set (i := 3) sc__law_drawn_domain.nd rfl (by first | exact .inl rfl | exact .inr rfl) (pe_lst (pa_cons (pv 2) pa_nil)))
  (pss_cons (ps_for PassesOwn.never rfl (pi_range1 (by rfl) m_range (pa_cons (pe_op op_sub (pv 1) pe_int) pa_nil)) (pg_name (i := 4) sc__law_drawn_domain.nd rfl (by first | exact .inl rfl | exact .inr rfl))
  (pss_one (ps_expr (pe_bm PySem.F.plainAttrs_list PySem.F.slot_list_append PySem.F.type_list_append mt_append (pv 3) (pa_cons (pe_op op_add (pe_ix ix_list (pv 3) (pe_un un_neg pe_int) (fun _ _ => rfl)) (pe_cal C__law_pick (hr.mono (by decide)) rfl (pa_cons (pv 0) (pa_cons (pe_lst (pa_cons pe_int (pa_cons pe_int (pa_cons pe_int (pa_cons pe_int (pa_cons pe_int pa_nil)))))) pa_nil)))) pa_nil)))))
  (pss_one (ps_ret (pe_tupleOf (by rfl) m_tuple (pv 3)))))))
abbrev s__law_names : Stmt := topS 19
abbrev n__law_names : List Str := ["pool", "many", "signs", "ahead", "k", "behind", "first", "ends"]
theorem sc__law_names : FnScope n__law_names ["pool", "many"] (defScope s__law_names) := ⟨rfl, rfl, rfl, by decide +kernel, rfl, by decide +kernel, by decide +kernel⟩
theorem ok__law_names {P : Program} {w : World} {K : PySem.W.Frag} {mg : Str → Option Value} {base : Heap} {f : Addr} {fd : FuncData} (F : Fun K "_law_names" "_law_names" s__law_names f fd) (gf : mg "_law_names" = some (.ref f)) (C__law_draw : Cal P w K mg base "_law_draw" 2 ["pool", "many"] (sp__law_draw K))  (m_int : mg "int" = none) (m_list : mg "list" = none) (m_range : mg "range" = none)  : Cal P w K mg base "_law_names" 3 ["pool", "many"] (sp__law_names K) := by
  refine ⟨f, fd, F.ok sc__law_names len__law_names (fun cdv A outer s H vs Q E hr h => ⟨t__law_names K, PSs.nox ?_, pure__law_names vs H Q E h⟩), F.kp, F.binds (fun _ _ _ _ _ _ us hl => match us, hl with | [_, _], _ => rfl), gf⟩
  exact (pss_cons (ps_set (i := 2) sc__law_names.nd rfl (by first | exact .inl rfl | exact .inr rfl) pe_str)
  (pss_cons (ps_set (i := 3) sc__law_names.nd rfl (by first | exact .inl rfl | exact .inr rfl) (pe_joinK pe_str (pe_lc (own := [("k", 4)]) rfl sc__law_names.nd (pi_range1 (by rfl) m_range (pa_cons (pe_op op_mul (pe_cal C__law_draw (hr.mono (by decide)) rfl (pa_cons (pv 0) (pa_cons pe_int pa_nil))) (pe_cal C__law_draw (hr.mono (by decide)) rfl (pa_cons (pv 0) (pa_cons pe_int pa_nil)))) pa_nil)) (blkOk_by (own := [("k", 4)]) (N := n__law_names) (sc := defScope s__law_names) (by decide +kernel)) (fun _ _ _ _ _ => (pg_name (i := 4) sc__law_names.nd rfl (by first | exact .inl rfl | exact .inr rfl))) (fun _ _ _ _ _ => pts_nil) (fun _ _ _ _ _ => (pe_ix ix_str (pe_op op_addS (pv 2) pe_str) (pe_cal C__law_draw (hr.mono (by decide)) rfl (pa_cons (pv 0) (pa_cons pe_int pa_nil))) (fun _ _ => rfl))))))
  (pss_cons (ps_set (i := 5) sc__law_names.nd rfl (by first | exact .inl rfl | exact .inr rfl) (pe_joinK pe_str (pe_lc (own := [("k", 4)]) rfl sc__law_names.nd (pi_range1 (by rfl) m_range (pa_cons (pe_op op_mul (pe_cal C__law_draw (hr.mono (by decide)) rfl (pa_cons (pv 0) (pa_cons pe_int pa_nil))) (pe_cal C__law_draw (hr.mono (by decide)) rfl (pa_cons (pv 0) (pa_cons pe_int pa_nil)))) pa_nil)) (blkOk_by (own := [("k", 4)]) (N := n__law_names) (sc := defScope s__law_names) (by decide +kernel)) (fun _ _ _ _ _ => (pg_name (i := 4) sc__law_names.nd rfl (by first | exact .inl rfl | exact .inr rfl))) (fun _ _ _ _ _ => pts_nil) (fun _ _ _ _ _ => (pe_ix ix_str (pe_op op_addS (pv 2) pe_str) (pe_cal C__law_draw (hr.mono (by decide)) rfl (pa_cons (pv 0) (pa_cons pe_int pa_nil))) (fun _ _ => rfl))))))
  (pss_cons (ps_set (i := 6) sc__law_names.nd rfl (by first | exact .inl rfl | exact .inr rfl) (pe_cal C__law_draw (hr.mono (by decide)) rfl (pa_cons (pv 0) (pa_cons pe_int pa_nil))))
  (pss_cons (ps_set (i := 7) sc__law_names.nd rfl (by first | exact .inl rfl | exact .inr rfl) (pe_op op_cat (pe_lst (pa_cons pe_str pa_nil)) (pe_callTy (call_listOfA rfl) (by rfl) m_list (by decide +kernel) (pa_cons (pv 2) pa_nil))))
  (pss_one (ps_ret (pe_lc (own := [("k", 4)]) rfl sc__law_names.nd (pi_range1 (by rfl) m_range (pa_cons (pv 1) pa_nil)) (blkOk_by (own := [("k", 4)]) (N := n__law_names) (sc := defScope s__law_names) (by decide +kernel)) (fun _ _ _ _ _ => (pg_name (i := 4) sc__law_names.nd rfl (by first | exact .inl rfl | exact .inr rfl))) (fun _ _ _ _ _ => pts_nil) (fun _ _ _ _ _ => (pe_op op_addS (pe_op op_addS (pe_op op_addS (pv 3) (pe_ix ix_str (pv 2) (pe_op op_mod (pe_callTy call_int1 (by rfl) m_int (by decide +kernel) (pa_cons (pe_op op_add (pv 6) (pv 4)) pa_nil)) pe_int) (fun _ _ => rfl))) (pe_ix ix_list (pv 7) (pe_op op_fdiv (pv 4) pe_int) (fun _ _ => rfl))) (pv 5)))))))))))
abbrev s__law_unknowns : Stmt := topS 26
abbrev n__law_unknowns : List Str := ["pool", "names", "style", "size", "base", "row", "x", "domain"]
theorem sc__law_unknowns : FnScope n__law_unknowns ["pool", "names"] (defScope s__law_unknowns) := ⟨rfl, rfl, rfl, by decide +kernel, rfl, by decide +kernel, by decide +kernel⟩
theorem ok__law_unknowns {P : Program} {w : World} {K : PySem.W.Frag} {mg : Str → Option Value} {base : Heap} {f : Addr} {fd : FuncData} (F : Fun K "_law_unknowns" "_law_unknowns" s__law_unknowns f fd) (gf : mg "_law_unknowns" = some (.ref f)) (C__law_draw : Cal P w K mg base "_law_draw" 2 ["pool", "many"] (sp__law_draw K)) (C__law_drawn_domain : Cal P w K mg base "_law_drawn_domain" 4 ["pool", "size"] (sp__law_drawn_domain K))  (m_tuple : mg "tuple" = none)  : Cal P w K mg base "_law_unknowns" 5 ["pool", "names"] (sp__law_unknowns K) := by
  refine ⟨f, fd, F.ok sc__law_unknowns len__law_unknowns (fun cdv A outer s H vs Q E hr h => ⟨t__law_unknowns K, PSs.nox ?_, pure__law_unknowns vs H Q E h⟩), F.kp, F.binds (fun _ _ _ _ _ _ us hl => match us, hl with | [_, _], _ => rfl), gf⟩
  exact (pss_cons (ps_set (i := 2) sc__law_unknowns.nd rfl (by first | exact .inl rfl | exact .inr rfl) (pe_cal C__law_draw (hr.mono (by decide)) rfl (pa_cons (pv 0) (pa_cons pe_int pa_nil))))
  (pss_cons (ps_set (i := 3) sc__law_unknowns.nd rfl (by first | exact .inl rfl | exact .inr rfl) (pe_op op_add pe_int (pe_cal C__law_draw (hr.mono (by decide)) rfl (pa_cons (pv 0) (pa_cons pe_int pa_nil)))))
  (pss_cons (ps_set (i := 4) sc__law_unknowns.nd rfl (by first | exact .inl rfl | exact .inr rfl) (pe_cal C__law_drawn_domain (hr.mono (by decide)) rfl (pa_cons (pv 0) (pa_cons (pv 3) pa_nil))))
  (pss_cons (ps_set (i := 5) sc__law_unknowns.nd rfl (by first | exact .inl rfl | exact .inr rfl) (pe_lst pa_nil))
  (pss_cons (ps_for PassesOwn.never rfl (pi_list (pv 1)) (pg_name (i := 6) sc__law_unknowns.nd rfl (by first | exact .inl rfl | exact .inr rfl))
  (pss_cons (ps_set (i := 7) sc__law_unknowns.nd rfl (by first | exact .inl rfl | exact .inr rfl) (pv 4))
  (pss_cons (ps_if (PW.pt (pw_and (pt_cmpR op_eq (pv 2) pe_int (nomark _)) (pw_and1 (pt_cmpR op_eq (pe_cal C__law_draw (hr.mono (by decide)) rfl (pa_cons (pv 0) (pa_cons pe_int pa_nil))) pe_int (nomark _))))) (pss_one (ps_set (i := 7) sc__law_unknowns.nd rfl (by first | exact .inl rfl | exact .inr rfl) (pe_cal C__law_drawn_domain (hr.mono (by decide)) rfl (pa_cons (pv 0) (pa_cons (pv 3) pa_nil))))) pss_nil)
  (pss_cons (ps_if (pt_cmpR op_eq (pv 2) pe_int (nomark _)) (pss_one (ps_set (i := 7) sc__law_unknowns.nd rfl (by first | exact .inl rfl | exact .inr rfl) (pe_cal C__law_drawn_domain (hr.mono (by decide)) rfl (pa_cons (pv 0) (pa_cons (pv 3) pa_nil))))) pss_nil)
  (pss_cons (ps_if (PW.pt (pw_and (pt_cmpR op_eq (pv 2) pe_int (nomark _)) (pw_and1 (pt_cmpR op_eq (pe_cal C__law_draw (hr.mono (by decide)) rfl (pa_cons (pv 0) (pa_cons pe_int pa_nil))) pe_int (nomark _))))) (pss_one (ps_set (i := 7) sc__law_unknowns.nd rfl (by first | exact .inl rfl | exact .inr rfl) (pe_cal C__law_drawn_domain (hr.mono (by decide)) rfl (pa_cons (pv 0) (pa_cons (pe_op op_add pe_int (pe_cal C__law_draw (hr.mono (by decide)) rfl (pa_cons (pv 0) (pa_cons pe_int pa_nil)))) pa_nil))))) pss_nil)
  (pss_one (ps_expr (pe_bm PySem.F.plainAttrs_list PySem.F.slot_list_append PySem.F.type_list_append mt_append (pv 5) (pa_cons (pe_tup (pa_cons (pv 6) (pa_cons (pv 7) pa_nil))) pa_nil)))))))))
  (pss_one (ps_ret (pe_tupleOfF (by rfl) m_tuple (pv 5)))))))))
abbrev s__law_model : Stmt := topS 31
abbrev n__law_model : List Str := ["pool", "domain", "x", "unknowns", "soft"]
theorem sc__law_model : FnScope n__law_model ["pool"] (defScope s__law_model) := ⟨rfl, rfl, rfl, by decide +kernel, rfl, by decide +kernel, by decide +kernel⟩
theorem ok__law_model {P : Program} {w : World} {K : PySem.W.Frag} {mg : Str → Option Value} {base : Heap} {f : Addr} {fd : FuncData} (F : Fun K "_law_model" "_law_model" s__law_model f fd) (gf : mg "_law_model" = some (.ref f)) (C__law_draw : Cal P w K mg base "_law_draw" 2 ["pool", "many"] (sp__law_draw K)) (C__law_drawn_domain : Cal P w K mg base "_law_drawn_domain" 4 ["pool", "size"] (sp__law_drawn_domain K)) (C__law_names : Cal P w K mg base "_law_names" 3 ["pool", "many"] (sp__law_names K)) (C__law_shuffled : Cal P w K mg base "_law_shuffled" 3 ["pool", "some"] (sp__law_shuffled K)) (C__law_unknowns : Cal P w K mg base "_law_unknowns" 5 ["pool", "names"] (sp__law_unknowns K))  (m_tuple : mg "tuple" = none)  : Cal P w K mg base "_law_model" 6 ["pool"] (sp__law_model K) := by
  refine ⟨f, fd, F.ok sc__law_model len__law_model (fun cdv A outer s H vs Q E hr h => ⟨t__law_model K, PSs.nox ?_, pure__law_model vs H Q E h⟩), F.kp, F.binds (fun _ _ _ _ _ _ us hl => match us, hl with | [_], _ => rfl), gf⟩
  exact (pss_cons (ps_if (pt_cmpR op_eq (pe_cal C__law_draw (hr.mono (by decide)) rfl (pa_cons (pv 0) (pa_cons pe_int pa_nil))) pe_int (nomark _)) (pss_cons (ps_set (i := 1) sc__law_model.nd rfl (by first | exact .inl rfl | exact .inr rfl) (pe_cal C__law_drawn_domain (hr.mono (by decide)) rfl (pa_cons (pv 0) (pa_cons pe_int pa_nil))))
  (pss_one (ps_ret (pe_tup (pa_cons (pe_tupleOfF (by rfl) m_tuple (pe_lc (own := [("x", 2)]) rfl sc__law_model.nd (pi_list (pe_cal C__law_names (hr.mono (by decide)) rfl (pa_cons (pv 0) (pa_cons pe_int pa_nil)))) (blkOk_by (own := [("x", 2)]) (N := n__law_model) (sc := defScope s__law_model) (by decide +kernel)) (fun _ _ _ _ _ => (pg_name (i := 2) sc__law_model.nd rfl (by first | exact .inl rfl | exact .inr rfl))) (fun _ _ _ _ _ => pts_nil) (fun _ _ _ _ _ => (pe_tup (pa_cons (pv 2) (pa_cons (pv 1) pa_nil)))))) (pa_cons (pe_tup pa_nil) (pa_cons (pe_tup pa_nil) pa_nil))))))) pss_nil)
  (pss_cons (ps_set (i := 3) sc__law_model.nd rfl (by first | exact .inl rfl | exact .inr rfl) (pe_cal C__law_unknowns (hr.mono (by decide)) rfl (pa_cons (pv 0) (pa_cons (pe_cal C__law_shuffled (hr.mono (by decide)) rfl (pa_cons (pv 0) (pa_cons (pe_cal C__law_names (hr.mono (by decide)) rfl (pa_cons (pv 0) (pa_cons (pe_op op_add pe_int (pe_cal C__law_draw (hr.mono (by decide)) rfl (pa_cons (pv 0) (pa_cons pe_int pa_nil)))) pa_nil))) pa_nil))) pa_nil))))
  (pss_cons (ps_set (i := 4) sc__law_model.nd rfl (by first | exact .inl rfl | exact .inr rfl) (pe_tup pa_nil))
  (pss_cons (ps_if (pt_cmpR op_eq (pe_cal C__law_draw (hr.mono (by decide)) rfl (pa_cons (pv 0) (pa_cons pe_int pa_nil))) pe_int (nomark _)) (pss_one (ps_set (i := 4) sc__law_model.nd rfl (by first | exact .inl rfl | exact .inr rfl) (pe_tup (pa_cons (pe_tup (pa_cons pe_str (pa_cons (pe_tup (pa_cons pe_str (pa_cons (pe_tup (pa_cons (pe_tup (pa_cons (pe_ix ix_tup (pe_ix ix_tup (pv 3) pe_int (fun _ _ => rfl)) pe_int (fun _ _ => rfl)) (pa_cons pe_int pa_nil))) pa_nil)) (pa_cons pe_int pa_nil)))) (pa_cons pe_int pa_nil)))) pa_nil)))) pss_nil)
  (pss_one (ps_ret (pe_tup (pa_cons (pv 3) (pa_cons (pe_tup pa_nil) (pa_cons (pv 4) pa_nil))))))))))
abbrev s__law_named : Stmt := topS 29
abbrev n__law_named : List Str := ["pool", "ways", "names", "x", "y", "led", "v"]
theorem sc__law_named : FnScope n__law_named ["pool", "ways"] (defScope s__law_named) := ⟨rfl, rfl, rfl, by decide +kernel, rfl, by decide +kernel, by decide +kernel⟩
theorem ok__law_named {P : Program} {w : World} {K : PySem.W.Frag} {mg : Str → Option Value} {base : Heap} {f : Addr} {fd : FuncData} (F : Fun K "_law_named" "_law_named" s__law_named f fd) (gf : mg "_law_named" = some (.ref f)) (C__law_draw : Cal P w K mg base "_law_draw" 2 ["pool", "many"] (sp__law_draw K))  (m_any : mg "any" = none)  : Cal P w K mg base "_law_named" 3 ["pool", "ways"] (sp__law_named K) := by
  refine ⟨f, fd, F.ok sc__law_named len__law_named (fun cdv A outer s H vs Q E hr h => ⟨t__law_named K, PSs.nox ?_, pure__law_named vs H Q E h⟩), F.kp, F.binds (fun _ _ _ _ _ _ us hl => match us, hl with | [_, _], _ => rfl), gf⟩
  exact (pss_cons (ps_set (i := 2) sc__law_named.nd rfl (by first | exact .inl rfl | exact .inr rfl) (pe_lst pa_nil))
  (pss_cons (ps_lock (ps_for PassesOwn.never rfl (pi_keys (pv 1)) (pg_name (i := 3) sc__law_named.nd rfl (by first | exact .inl rfl | exact .inr rfl))
  (pss_cons (ps_asg (pe_dget (hu_of hr) (pv 1) (pv 3) (fun _ _ => rfl)) (pg_tup rfl (pgs_cons (pg_name (i := 4) sc__law_named.nd rfl (by first | exact .inl rfl | exact .inr rfl)) (pgs_cons (pg_name (i := 5) sc__law_named.nd rfl (by first | exact .inl rfl | exact .inr rfl)) pgs_nil))))
  (pss_one (ps_if (PW.pt (pw_or (pt_cmpR op_ne (pv 4) (pv 3) (nomark _)) (pw_or (pt_val (pe_callB (cr_any rfl) (by rfl) m_any (by decide +kernel) (pa_cons (pe_lock (pe_lc (own := [("v", 6)]) rfl sc__law_named.nd (pi_keys (pv 5)) (blkOk_by (own := [("v", 6)]) (N := n__law_named) (sc := defScope s__law_named) (by decide +kernel)) (fun _ _ _ _ _ => (pg_name (i := 6) sc__law_named.nd rfl (by first | exact .inl rfl | exact .inr rfl))) (fun _ _ _ _ _ => pts_nil) (fun _ _ _ _ _ => (pe_cmpR op_ne (pe_dget (hu_of hr) (pv 5) (pv 6) (fun _ _ => rfl)) (pv 6) (nomark _))))) pa_nil))) (pw_or1 (pt_cmpR op_eq (pe_cal C__law_draw (hr.mono (by decide)) rfl (pa_cons (pv 0) (pa_cons pe_int pa_nil))) pe_int (nomark _)))))) (pss_one (ps_expr (pe_bm PySem.F.plainAttrs_list PySem.F.slot_list_append PySem.F.type_list_append mt_append (pv 2) (pa_cons (pv 3) pa_nil)))) pss_nil)))))
  (pss_one (ps_ret (pv 2)))))
abbrev s__law_pool : Stmt := topS 14
abbrev n__law_pool : List Str := ["script"]
theorem sc__law_pool : FnScope n__law_pool ["script"] (defScope s__law_pool) := ⟨rfl, rfl, rfl, by decide +kernel, rfl, by decide +kernel, by decide +kernel⟩
theorem ok__law_pool {P : Program} {w : World} {K : PySem.W.Frag} {mg : Str → Option Value} {base : Heap} {f : Addr} {fd : FuncData} (F : Fun K "_law_pool" "_law_pool" s__law_pool f fd) (gf : mg "_law_pool" = some (.ref f))   (m_list : mg "list" = none)  : Cal P w K mg base "_law_pool" 1 ["script"] (sp__law_pool K) := by
  refine ⟨f, fd, F.ok sc__law_pool len__law_pool (fun cdv A outer s H vs Q E hr h => ⟨t__law_pool K, PSs.nox ?_, pure__law_pool vs H Q E h⟩), F.kp, F.binds (fun _ _ _ _ _ _ us hl => match us, hl with | [_], _ => rfl), gf⟩
  exact (pss_one (ps_ret (pe_lst (pa_cons (pe_callTy call_listOf (by rfl) m_list (by decide +kernel) (pa_cons (pv 0) pa_nil)) (pa_cons pe_int (pa_cons pe_int (pa_cons pe_int (pa_cons pe_int pa_nil))))))))
abbrev s__law_same : Stmt := topS 18
abbrev n__law_same : List Str := ["actual", "due", "k"]
theorem sc__law_same : FnScope n__law_same ["actual", "due"] (defScope s__law_same) := ⟨rfl, rfl, rfl, by decide +kernel, rfl, by decide +kernel, by decide +kernel⟩
theorem ok__law_same_step (m : Nat) {P : Program} {w : World} {K : PySem.W.Frag} {mg : Str → Option Value} {base : Heap} {f : Addr} {fd : FuncData} (F : Fun K "_law_same" "_law_same" s__law_same f fd) (gf : mg "_law_same" = some (.ref f))  (m_bool : mg "bool" = none) (m_int : mg "int" = none) (m_isinstance : mg "isinstance" = none) (m_len : mg "len" = none) (m_range : mg "range" = none) (m_str : mg "str" = none) (m_tuple : mg "tuple" = none)  (C__law_same : Cal P w K mg base "_law_same" (1 + m) ["actual", "due"] (sp__law_same K m)) : Cal P w K mg base "_law_same" (1 + m + 1) ["actual", "due"] (sp__law_same K (m + 1)) := by
  refine ⟨f, fd, F.ok (k := 1 + m) sc__law_same len__law_same (fun cdv A outer s H vs Q E hr h => ⟨t__law_same K m, PSs.nox ?_, pure__law_same vs H Q E h⟩), F.kp, F.binds (fun _ _ _ _ _ _ us hl => match us, hl with | [_, _], _ => rfl), gf⟩
  exact (pss_cons (ps_if (pt_cmpR op_isN1 (pv 1) pe_non (nomark _)) (pss_one (ps_ret (pe_cmpR op_isN1 (pv 0) pe_non (nomark _)))) pss_nil)
  (pss_cons (ps_if (pt_val (pe_callB call_isi (by rfl) m_isinstance (by decide +kernel) (pa_cons (pv 1) (pa_cons (pe_bltn (by rfl) m_tuple (by decide +kernel) rfl) pa_nil)))) (pss_cons (ps_if (PW.pt (pw_or (pt_not (pt_val (pe_callB call_isi (by rfl) m_isinstance (by decide +kernel) (pa_cons (pv 0) (pa_cons (pe_bltn (by rfl) m_tuple (by decide +kernel) rfl) pa_nil))))) (pw_or1 (pt_cmpR op_ne (pe_callB call_len1 (by rfl) m_len (by decide +kernel) (pa_cons (pv 0) pa_nil)) (pe_callB call_len1 (by rfl) m_len (by decide +kernel) (pa_cons (pv 1) pa_nil)) (nomark _))))) (pss_one (ps_ret pe_bl)) pss_nil)
  (pss_cons (ps_for PassesOwn.never rfl (pi_range1 (by rfl) m_range (pa_cons (pe_callB call_len1 (by rfl) m_len (by decide +kernel) (pa_cons (pv 1) pa_nil)) pa_nil)) (pg_name (i := 2) sc__law_same.nd rfl (by first | exact .inl rfl | exact .inr rfl))
  (pss_one (ps_if (pt_not (pt_val (pe_cal C__law_same (hr.mono (by omega)) rfl (pa_cons (pe_ix ix_any (pv 0) (pv 2) (fun _ _ => rfl)) (pa_cons (pe_ix ix_any (pv 1) (pv 2) (fun _ _ => rfl)) pa_nil))))) (pss_one (ps_ret pe_bl)) pss_nil)))
  (pss_one (ps_ret pe_bl)))) pss_nil)
  (pss_cons (ps_if (pt_val (pe_callB call_isi (by rfl) m_isinstance (by decide +kernel) (pa_cons (pv 1) (pa_cons (pe_bltn (by rfl) m_bool (by decide +kernel) rfl) pa_nil)))) (pss_one (ps_ret (pe_and (pe_callB call_isi (by rfl) m_isinstance (by decide +kernel) (pa_cons (pv 0) (pa_cons (pe_bltn (by rfl) m_bool (by decide +kernel) rfl) pa_nil))) (pe_one (pe_cmpR op_eq (pv 0) (pv 1) (nomark _)))))) pss_nil)
  (pss_cons (ps_if (pt_val (pe_callB call_isi (by rfl) m_isinstance (by decide +kernel) (pa_cons (pv 1) (pa_cons (pe_bltn (by rfl) m_int (by decide +kernel) rfl) pa_nil)))) (pss_one (ps_ret (pe_and (pe_callB call_isi (by rfl) m_isinstance (by decide +kernel) (pa_cons (pv 0) (pa_cons (pe_bltn (by rfl) m_int (by decide +kernel) rfl) pa_nil))) (pe_and (pe_not (pe_callB call_isi (by rfl) m_isinstance (by decide +kernel) (pa_cons (pv 0) (pa_cons (pe_bltn (by rfl) m_bool (by decide +kernel) rfl) pa_nil)))) (pe_one (pe_cmpR op_eq (pv 0) (pv 1) (nomark _))))))) pss_nil)
  (pss_one (ps_ret (pe_and (pe_callB call_isi (by rfl) m_isinstance (by decide +kernel) (pa_cons (pv 0) (pa_cons (pe_bltn (by rfl) m_str (by decide +kernel) rfl) pa_nil))) (pe_one (pe_cmpR op_eq (pv 0) (pv 1) (nomark _))))))))))
theorem ok__law_same_all {P : Program} {w : World} {K : PySem.W.Frag} {mg : Str → Option Value} {base : Heap} {f : Addr} {fd : FuncData} (F : Fun K "_law_same" "_law_same" s__law_same f fd) (gf : mg "_law_same" = some (.ref f))  (m_bool : mg "bool" = none) (m_int : mg "int" = none) (m_isinstance : mg "isinstance" = none) (m_len : mg "len" = none) (m_range : mg "range" = none) (m_str : mg "str" = none) (m_tuple : mg "tuple" = none)  : ∀ m, Cal P w K mg base "_law_same" (1 + m) ["actual", "due"] (sp__law_same K m)
  | 0 => ⟨f, fd, F.ok (k := 0) sc__law_same len__law_same (fun cdv A outer s H vs Q E hr h => (no__law_same h).elim), F.kp, F.binds (fun _ _ _ _ _ _ us hl => match us, hl with | [_, _], _ => rfl), gf⟩
  | m + 1 => ok__law_same_step m F gf m_bool m_int m_isinstance m_len m_range m_str m_tuple (ok__law_same_all F gf m_bool m_int m_isinstance m_len m_range m_str m_tuple m)
theorem ok__law_same {P : Program} {w : World} {K : PySem.W.Frag} {mg : Str → Option Value} {base : Heap} {f : Addr} {fd : FuncData} (F : Fun K "_law_same" "_law_same" s__law_same f fd) (gf : mg "_law_same" = some (.ref f))  (m_bool : mg "bool" = none) (m_int : mg "int" = none) (m_isinstance : mg "isinstance" = none) (m_len : mg "len" = none) (m_range : mg "range" = none) (m_str : mg "str" = none) (m_tuple : mg "tuple" = none)  : Cal P w K mg base "_law_same" 5 ["actual", "due"] (sp__law_same K 4) := ok__law_same_all F gf m_bool m_int m_isinstance m_len m_range m_str m_tuple 4
abbrev s__law_spoilt_pairs : Stmt := topS 32
abbrev n__law_spoilt_pairs : List Str := ["pool", "pairs", "k", "j", "way", "one"]
theorem sc__law_spoilt_pairs : FnScope n__law_spoilt_pairs ["pool", "pairs"] (defScope s__law_spoilt_pairs) := ⟨rfl, rfl, rfl, by decide +kernel, rfl, by decide +kernel, by decide +kernel⟩
theorem ok__law_spoilt_pairs {P : Program} {w : World} {K : PySem.W.Frag} {mg : Str → Option Value} {base : Heap} {f : Addr} {fd : FuncData} (F : Fun K "_law_spoilt_pairs" "_law_spoilt_pairs" s__law_spoilt_pairs f fd) (gf : mg "_law_spoilt_pairs" = some (.ref f)) (C__law_draw : Cal P w K mg base "_law_draw" 2 ["pool", "many"] (sp__law_draw K)) (C__law_pick : Cal P w K mg base "_law_pick" 3 ["pool", "some"] (sp__law_pick K))  (m_len : mg "len" = none) (m_str : mg "str" = none)  : Cal P w K mg base "_law_spoilt_pairs" 4 ["pool", "pairs"] (sp__law_spoilt_pairs K) := by
  refine ⟨f, fd, F.ok sc__law_spoilt_pairs len__law_spoilt_pairs (fun cdv A outer s H vs Q E hr h => ⟨t__law_spoilt_pairs K, PSs.nox ?_, pure__law_spoilt_pairs vs H Q E h⟩), F.kp, F.binds (fun _ _ _ _ _ _ us hl => match us, hl with | [_, _], _ => rfl), gf⟩
  exact (pss_cons (ps_par (i := 2) (j := 3) (by rfl) sc__law_spoilt_pairs.nd rfl rfl (by decide) rfl rfl (pa_cons (pe_cal C__law_draw (hr.mono (by decide)) rfl (pa_cons (pv 0) (pa_cons (pe_callB call_len1 (by rfl) m_len (by decide +kernel) (pa_cons (pv 1) pa_nil)) pa_nil))) (pa_cons (pe_cal C__law_draw (hr.mono (by decide)) rfl (pa_cons (pv 0) (pa_cons (pe_callB call_len1 (by rfl) m_len (by decide +kernel) (pa_cons (pv 1) pa_nil)) pa_nil))) pa_nil)) (by rfl))
  (pss_cons (ps_set (i := 4) sc__law_spoilt_pairs.nd rfl (by first | exact .inl rfl | exact .inr rfl) (pe_cal C__law_draw (hr.mono (by decide)) rfl (pa_cons (pv 0) (pa_cons pe_int pa_nil))))
  (pss_cons (ps_if (pt_cmpR op_eq (pv 4) pe_int (nomark _)) (pss_one (ps_ret (pe_op op_catA (pe_slice sl_tupA (pv 1) po_none (po_some (pv 2))) (pe_slice sl_tupA (pv 1) (po_some (pe_op op_add (pv 2) pe_int)) po_none)))) pss_nil)
  (pss_cons (ps_if (pt_cmpR op_eq (pv 4) pe_int (nomark _)) (pss_one (ps_ret (pe_op op_catA (pe_op op_catA (pe_slice sl_tupA (pv 1) po_none (po_some (pv 2))) (pe_tup (pa_cons (pe_ix ix_tup (pv 1) (pv 3) (fun _ _ => rfl)) pa_nil))) (pe_slice sl_tupA (pv 1) (po_some (pe_op op_add (pv 2) pe_int)) po_none)))) pss_nil)
  (pss_cons (ps_if (pt_cmpR op_eq (pv 4) pe_int (nomark _)) (pss_one (ps_ret (pe_op op_catA (pe_op op_catA (pe_slice sl_tupA (pv 1) po_none (po_some (pv 2))) (pe_tup (pa_cons (pe_tup (pa_cons (pe_ix ix_tup (pe_ix ix_tup (pv 1) (pv 2) (fun _ _ => rfl)) pe_int (fun _ _ => rfl)) (pa_cons (pe_ix ix_tup (pe_ix ix_tup (pv 1) (pv 3) (fun _ _ => rfl)) pe_int (fun _ _ => rfl)) pa_nil))) pa_nil))) (pe_slice sl_tupA (pv 1) (po_some (pe_op op_add (pv 2) pe_int)) po_none)))) pss_nil)
  (pss_cons (ps_if (pt_cmpR op_eq (pv 4) pe_int (nomark _)) (pss_one (ps_ret (pe_op op_catA (pe_op op_catA (pe_slice sl_tupA (pv 1) po_none (po_some (pv 2))) (pe_tup (pa_cons (pe_tup (pa_cons (pe_ix ix_tup (pe_ix ix_tup (pv 1) (pv 2) (fun _ _ => rfl)) pe_int (fun _ _ => rfl)) (pa_cons (pe_cal C__law_pick (hr.mono (by decide)) rfl (pa_cons (pv 0) (pa_cons (pe_lst (pa_cons pe_int (pa_cons (pe_un un_neg pe_int) (pa_cons (pe_op op_pow pe_int pe_int) (pa_cons (pe_op op_add (pe_ix ix_tup (pe_ix ix_tup (pv 1) (pv 2) (fun _ _ => rfl)) pe_int (fun _ _ => rfl)) pe_int) pa_nil))))) pa_nil))) pa_nil))) pa_nil))) (pe_slice sl_tupA (pv 1) (po_some (pe_op op_add (pv 2) pe_int)) po_none)))) pss_nil)
  (pss_cons (ps_if (pt_cmpR op_eq (pv 4) pe_int (nomark _)) (pss_cons (ps_set (i := 5) sc__law_spoilt_pairs.nd rfl (by first | exact .inl rfl | exact .inr rfl) (pe_cal C__law_pick (hr.mono (by decide)) rfl (pa_cons (pv 0) (pa_cons (pe_lst (pa_cons (pe_tup (pa_cons (pe_cmpR op_eq (pe_ix ix_tup (pe_ix ix_tup (pv 1) (pv 2) (fun _ _ => rfl)) pe_int (fun _ _ => rfl)) pe_int (nomark _)) (pa_cons (pe_ix ix_tup (pe_ix ix_tup (pv 1) (pv 2) (fun _ _ => rfl)) pe_int (fun _ _ => rfl)) pa_nil))) (pa_cons (pe_tup (pa_cons (pe_ix ix_tup (pe_ix ix_tup (pv 1) (pv 2) (fun _ _ => rfl)) pe_int (fun _ _ => rfl)) (pa_cons (pe_cmpR op_eq (pe_ix ix_tup (pe_ix ix_tup (pv 1) (pv 2) (fun _ _ => rfl)) pe_int (fun _ _ => rfl)) pe_int (nomark _)) pa_nil))) pa_nil))) pa_nil))))
  (pss_one (ps_ret (pe_op op_catA (pe_op op_catA (pe_slice sl_tupA (pv 1) po_none (po_some (pv 2))) (pe_tup (pa_cons (pv 5) pa_nil))) (pe_slice sl_tupA (pv 1) (po_some (pe_op op_add (pv 2) pe_int)) po_none))))) pss_nil)
  (pss_cons (ps_if (pt_cmpR op_eq (pv 4) pe_int (nomark _)) (pss_one (ps_ret (pe_op op_catA (pe_slice sl_tupA (pv 1) (po_some pe_int) po_none) (pe_slice sl_tupA (pv 1) po_none (po_some pe_int))))) pss_nil)
  (pss_cons (ps_if (pt_cmpR op_eq (pv 4) pe_int (nomark _)) (pss_one (ps_ret (pe_op op_catA (pv 1) (pe_tup (pa_cons (pe_tup (pa_cons pe_int (pa_cons pe_int pa_nil))) pa_nil))))) pss_nil)
  (pss_cons (ps_if (pt_cmpR op_eq (pv 4) pe_int (nomark _)) (pss_cons (ps_set (i := 5) sc__law_spoilt_pairs.nd rfl (by first | exact .inl rfl | exact .inr rfl) (pe_cal C__law_pick (hr.mono (by decide)) rfl (pa_cons (pv 0) (pa_cons (pe_lst (pa_cons (pe_tup pa_nil) (pa_cons (pe_op op_catA (pe_ix ix_tup (pv 1) (pv 2) (fun _ _ => rfl)) (pe_tup (pa_cons pe_int pa_nil))) (pa_cons pe_non (pa_cons pe_int (pa_cons pe_str (pa_cons (pe_tup (pa_cons (pe_callTy call_str_int (by rfl) m_str (by decide +kernel) (pa_cons (pe_ix ix_tup (pe_ix ix_tup (pv 1) (pv 2) (fun _ _ => rfl)) pe_int (fun _ _ => rfl)) pa_nil)) (pa_cons (pe_ix ix_tup (pe_ix ix_tup (pv 1) (pv 2) (fun _ _ => rfl)) pe_int (fun _ _ => rfl)) pa_nil))) pa_nil))))))) pa_nil))))
  (pss_one (ps_ret (pe_op op_catA (pe_op op_catA (pe_slice sl_tupA (pv 1) po_none (po_some (pv 2))) (pe_tup (pa_cons (pv 5) pa_nil))) (pe_slice sl_tupA (pv 1) (po_some (pe_op op_add (pv 2) pe_int)) po_none))))) pss_nil)
  (pss_one (ps_ret (pe_cal C__law_pick (hr.mono (by decide)) rfl (pa_cons (pv 0) (pa_cons (pe_lst (pa_cons (pe_tup pa_nil) (pa_cons pe_non (pa_cons pe_str (pa_cons pe_int (pa_cons pe_bl (pa_cons (pe_tup (pa_cons (pe_tup pa_nil) pa_nil)) pa_nil))))))) pa_nil)))))))))))))))
abbrev s__law_spoilt : Stmt := topS 33
abbrev n__law_spoilt : List Str := ["pool", "exchange", "k", "j", "x", "y", "pairs", "way", "wrong"]
theorem sc__law_spoilt : FnScope n__law_spoilt ["pool", "exchange"] (defScope s__law_spoilt) := ⟨rfl, rfl, rfl, by decide +kernel, rfl, by decide +kernel, by decide +kernel⟩
theorem ok__law_spoilt {P : Program} {w : World} {K : PySem.W.Frag} {mg : Str → Option Value} {base : Heap} {f : Addr} {fd : FuncData} (F : Fun K "_law_spoilt" "_law_spoilt" s__law_spoilt f fd) (gf : mg "_law_spoilt" = some (.ref f)) (C__law_draw : Cal P w K mg base "_law_draw" 2 ["pool", "many"] (sp__law_draw K)) (C__law_pick : Cal P w K mg base "_law_pick" 3 ["pool", "some"] (sp__law_pick K)) (C__law_spoilt_pairs : Cal P w K mg base "_law_spoilt_pairs" 4 ["pool", "pairs"] (sp__law_spoilt_pairs K))  (m_len : mg "len" = none)  : Cal P w K mg base "_law_spoilt" 5 ["pool", "exchange"] (sp__law_spoilt K) := by
  refine ⟨f, fd, F.ok sc__law_spoilt len__law_spoilt (fun cdv A outer s H vs Q E hr h => ⟨t__law_spoilt K, PSs.nox ?_, pure__law_spoilt vs H Q E h⟩), F.kp, F.binds (fun _ _ _ _ _ _ us hl => match us, hl with | [_, _], _ => rfl), gf⟩
  exact (pss_cons (ps_if (pt_cmpR op_eq (pe_callB call_len1 (by rfl) m_len (by decide +kernel) (pa_cons (pv 1) pa_nil)) pe_int (nomark _)) (pss_one (ps_ret (pe_cal C__law_pick (hr.mono (by decide)) rfl (pa_cons (pv 0) (pa_cons (pe_lst (pa_cons pe_non (pa_cons pe_int (pa_cons pe_str (pa_cons (pe_tup (pa_cons (pe_tup pa_nil) pa_nil)) (pa_cons pe_bl (pa_cons (pe_tup (pa_cons pe_str pa_nil)) pa_nil))))))) pa_nil))))) pss_nil)
  (pss_cons (ps_par (i := 2) (j := 3) (by rfl) sc__law_spoilt.nd rfl rfl (by decide) rfl rfl (pa_cons (pe_cal C__law_draw (hr.mono (by decide)) rfl (pa_cons (pv 0) (pa_cons (pe_callB call_len1 (by rfl) m_len (by decide +kernel) (pa_cons (pv 1) pa_nil)) pa_nil))) (pa_cons (pe_cal C__law_draw (hr.mono (by decide)) rfl (pa_cons (pv 0) (pa_cons (pe_callB call_len1 (by rfl) m_len (by decide +kernel) (pa_cons (pv 1) pa_nil)) pa_nil))) pa_nil)) (by rfl))
  (pss_cons (ps_asg (pe_ix ix_tup (pv 1) (pv 2) (fun _ _ => rfl)) (pg_tup rfl (pgs_cons (pg_name (i := 4) sc__law_spoilt.nd rfl (by first | exact .inl rfl | exact .inr rfl)) (pgs_cons (pg_name (i := 5) sc__law_spoilt.nd rfl (by first | exact .inl rfl | exact .inr rfl)) (pgs_cons (pg_name (i := 6) sc__law_spoilt.nd rfl (by first | exact .inl rfl | exact .inr rfl)) pgs_nil)))))
  (pss_cons (ps_set (i := 7) sc__law_spoilt.nd rfl (by first | exact .inl rfl | exact .inr rfl) (pe_cal C__law_draw (hr.mono (by decide)) rfl (pa_cons (pv 0) (pa_cons pe_int pa_nil))))
  (pss_cons (ps_if (pt_cmpR op_eq (pv 7) pe_int (nomark _)) (pss_one (ps_ret (pe_op op_catA (pe_slice sl_tupA (pv 1) po_none (po_some (pv 2))) (pe_slice sl_tupA (pv 1) (po_some (pe_op op_add (pv 2) pe_int)) po_none)))) pss_nil)
  (pss_cons (ps_if (pt_cmpR op_eq (pv 7) pe_int (nomark _)) (pss_one (ps_ret (pe_op op_catA (pe_op op_catA (pe_slice sl_tupA (pv 1) po_none (po_some (pv 2))) (pe_tup (pa_cons (pe_ix ix_tup (pv 1) (pv 2) (fun _ _ => rfl)) pa_nil))) (pe_slice sl_tupA (pv 1) (po_some (pv 2)) po_none)))) pss_nil)
  (pss_cons (ps_if (pt_cmpR op_eq (pv 7) pe_int (nomark _)) (pss_one (ps_ret (pe_op op_catA (pe_slice sl_tupA (pv 1) (po_some pe_int) po_none) (pe_slice sl_tupA (pv 1) po_none (po_some pe_int))))) pss_nil)
  (pss_cons (ps_if (pt_cmpR op_eq (pv 7) pe_int (nomark _)) (pss_one (ps_ret (pe_op op_catA (pe_op op_catA (pe_slice sl_tupA (pv 1) po_none (po_some (pv 2))) (pe_tup (pa_cons (pe_tup (pa_cons (pv 4) (pa_cons (pe_ix ix_tup (pe_ix ix_tup (pv 1) (pv 3) (fun _ _ => rfl)) pe_int (fun _ _ => rfl)) (pa_cons (pv 6) pa_nil)))) pa_nil))) (pe_slice sl_tupA (pv 1) (po_some (pe_op op_add (pv 2) pe_int)) po_none)))) pss_nil)
  (pss_cons (ps_if (pt_cmpR op_eq (pv 7) pe_int (nomark _)) (pss_one (ps_ret (pe_op op_catA (pe_op op_catA (pe_slice sl_tupA (pv 1) po_none (po_some (pv 2))) (pe_tup (pa_cons (pe_tup (pa_cons (pv 4) (pa_cons (pv 4) (pa_cons (pv 6) pa_nil)))) pa_nil))) (pe_slice sl_tupA (pv 1) (po_some (pe_op op_add (pv 2) pe_int)) po_none)))) pss_nil)
  (pss_cons (ps_if (pt_cmpR op_eq (pv 7) pe_int (nomark _)) (pss_cons (ps_set (i := 8) sc__law_spoilt.nd rfl (by first | exact .inl rfl | exact .inr rfl) (pe_lst (pa_cons (pe_tup (pa_cons (pe_op op_addS (pv 4) pe_str) (pa_cons (pv 5) (pa_cons (pv 6) pa_nil)))) (pa_cons (pe_tup (pa_cons (pv 4) (pa_cons (pe_op op_addS (pv 5) pe_str) (pa_cons (pv 6) pa_nil)))) (pa_cons (pe_tup (pa_cons pe_int (pa_cons (pv 5) (pa_cons (pv 6) pa_nil)))) (pa_cons (pe_tup (pa_cons (pv 4) (pa_cons pe_non (pa_cons (pv 6) pa_nil)))) pa_nil))))))
  (pss_cons (ps_set (i := 8) sc__law_spoilt.nd rfl (by first | exact .inl rfl | exact .inr rfl) (pe_op op_cat (pv 8) (pe_lst (pa_cons (pe_tup (pa_cons (pv 4) (pa_cons (pv 5) pa_nil))) (pa_cons (pe_tup (pa_cons (pv 4) (pa_cons (pv 5) (pa_cons (pv 6) (pa_cons (pe_tup pa_nil) pa_nil))))) (pa_cons (pe_tup pa_nil) (pa_cons pe_str pa_nil)))))))
  (pss_one (ps_ret (pe_op op_catA (pe_op op_catA (pe_slice sl_tupA (pv 1) po_none (po_some (pv 2))) (pe_tup (pa_cons (pe_cal C__law_pick (hr.mono (by decide)) rfl (pa_cons (pv 0) (pa_cons (pv 8) pa_nil))) pa_nil))) (pe_slice sl_tupA (pv 1) (po_some (pe_op op_add (pv 2) pe_int)) po_none)))))) pss_nil)
  (pss_one (ps_ret (pe_op op_catA (pe_op op_catA (pe_slice sl_tupA (pv 1) po_none (po_some (pv 2))) (pe_tup (pa_cons (pe_tup (pa_cons (pv 4) (pa_cons (pv 5) (pa_cons (pe_cal C__law_spoilt_pairs (hr.mono (by decide)) rfl (pa_cons (pv 0) (pa_cons (pv 6) pa_nil))) pa_nil)))) pa_nil))) (pe_slice sl_tupA (pv 1) (po_some (pe_op op_add (pv 2) pe_int)) po_none))))))))))))))
abbrev s__law_turned : Stmt := topS 24
abbrev n__law_turned : List Str := ["model", "ways", "filling", "made", "k", "y", "led", "x", "domain"]
theorem sc__law_turned : FnScope n__law_turned ["model", "ways", "filling"] (defScope s__law_turned) := ⟨rfl, rfl, rfl, by decide +kernel, rfl, by decide +kernel, by decide +kernel⟩
theorem ok__law_turned {P : Program} {w : World} {K : PySem.W.Frag} {mg : Str → Option Value} {base : Heap} {f : Addr} {fd : FuncData} (F : Fun K "_law_turned" "_law_turned" s__law_turned f fd) (gf : mg "_law_turned" = some (.ref f))   (m_len : mg "len" = none) (m_range : mg "range" = none) (m_tuple : mg "tuple" = none)  : Cal P w K mg base "_law_turned" 1 ["model", "ways", "filling"] (sp__law_turned K) := by
  refine ⟨f, fd, F.ok sc__law_turned len__law_turned (fun cdv A outer s H vs Q E hr h => ⟨t__law_turned K, PSs.nox ?_, pure__law_turned vs H Q E h⟩), F.kp, F.binds (fun _ _ _ _ _ _ us hl => match us, hl with | [_, _, _], _ => rfl), gf⟩
  exact (pss_cons (ps_set (i := 3) sc__law_turned.nd rfl (by first | exact .inl rfl | exact .inr rfl) pe_dnewK)
  (pss_cons (ps_for PassesOwn.never rfl (pi_range1 (by rfl) m_range (pa_cons (pe_callB call_len1 (by rfl) m_len (by decide +kernel) (pa_cons (pv 2) pa_nil)) pa_nil)) (pg_name (i := 4) sc__law_turned.nd rfl (by first | exact .inl rfl | exact .inr rfl))
  (pss_cons (ps_asg (pe_dget (hu_of hr) (pv 1) (pe_ix ix_tup (pe_ix ix_tup (pe_ix ix_tup (pv 0) pe_int (fun _ _ => rfl)) (pv 4) (fun _ _ => rfl)) pe_int (fun _ _ => rfl)) (fun _ _ => rfl)) (pg_tup rfl (pgs_cons (pg_name (i := 5) sc__law_turned.nd rfl (by first | exact .inl rfl | exact .inr rfl)) (pgs_cons (pg_name (i := 6) sc__law_turned.nd rfl (by first | exact .inl rfl | exact .inr rfl)) pgs_nil))))
  (pss_one (ps_dput (hu_of hr) (pv 3) (pv 5) (pe_dget (hu_of hr) (pv 6) (pe_ix ix_tup (pv 2) (pv 4) (fun _ _ => rfl)) (fun _ _ => rfl)) rfl))))
  (pss_one (ps_ret (pe_tupleOf (by rfl) m_tuple (pe_lc (own := [("x", 7), ("domain", 8)]) rfl sc__law_turned.nd (pi_tup (pe_ix ix_tup (pv 0) pe_int (fun _ _ => rfl))) (blkOk_by (own := [("x", 7), ("domain", 8)]) (N := n__law_turned) (sc := defScope s__law_turned) (by decide +kernel)) (fun _ _ _ _ _ => (pg_tup rfl (pgs_cons (pg_name (i := 7) sc__law_turned.nd rfl (by first | exact .inl rfl | exact .inr rfl)) (pgs_cons (pg_name (i := 8) sc__law_turned.nd rfl (by first | exact .inl rfl | exact .inr rfl)) pgs_nil)))) (fun _ _ _ _ _ => pts_nil) (fun _ _ _ _ _ => (pe_dget (hu_of hr) (pv 3) (pv 7) (fun _ _ => rfl)))))))))
abbrev s__law_wild : Stmt := topS 34
abbrev n__law_wild : List Str := ["pool", "deep", "way", "k"]
theorem sc__law_wild : FnScope n__law_wild ["pool", "deep"] (defScope s__law_wild) := ⟨rfl, rfl, rfl, by decide +kernel, rfl, by decide +kernel, by decide +kernel⟩
theorem ok__law_wild_step (m : Nat) {P : Program} {w : World} {K : PySem.W.Frag} {mg : Str → Option Value} {base : Heap} {f : Addr} {fd : FuncData} (F : Fun K "_law_wild" "_law_wild" s__law_wild f fd) (gf : mg "_law_wild" = some (.ref f)) (C__law_draw : Cal P w K mg base "_law_draw" 2 ["pool", "many"] (sp__law_draw K)) (m_int : mg "int" = none) (m_range : mg "range" = none) (m_tuple : mg "tuple" = none)  (C__law_wild : Cal P w K mg base "_law_wild" (3 + m) ["pool", "deep"] (sp__law_wild K m)) : Cal P w K mg base "_law_wild" (3 + m + 1) ["pool", "deep"] (sp__law_wild K (m + 1)) := by
  refine ⟨f, fd, F.ok (k := 3 + m) sc__law_wild len__law_wild (fun cdv A outer s H vs Q E hr h => ⟨t__law_wild K m, PSs.nox ?_, pure__law_wild vs H Q E h⟩), F.kp, F.binds (fun _ _ _ _ _ _ us hl => match us, hl with | [_, _], _ => rfl), gf⟩
  exact (pss_cons (ps_set (i := 2) sc__law_wild.nd rfl (by first | exact .inl rfl | exact .inr rfl) (pe_cal C__law_draw (hr.mono (by omega)) rfl (pa_cons (pv 0) (pa_cons (pe_ix ix_list (pe_lst (pa_cons pe_int (pa_cons pe_int pa_nil))) (pe_callTy call_int1 (by rfl) m_int (by decide +kernel) (pa_cons (pe_cmpR op_gt (pv 1) pe_int (nomark _)) pa_nil)) (fun _ _ => rfl)) pa_nil))))
  (pss_cons (ps_if (pt_cmpR op_lt (pv 2) pe_int (nomark _)) (pss_one (ps_ret (pe_ix ix_list (pe_lst (pa_cons pe_non (pa_cons pe_bl (pa_cons pe_bl (pa_cons pe_int (pa_cons pe_int (pa_cons pe_str (pa_cons (pe_un un_neg (pe_op op_pow pe_int pe_int)) pa_nil)))))))) (pv 2) (fun _ _ => rfl)))) pss_nil)
  (pss_one (ps_ret (pe_tupleOf (by rfl) m_tuple (pe_lc (own := [("k", 3)]) rfl sc__law_wild.nd (pi_range1 (by rfl) m_range (pa_cons (pe_cal C__law_draw (hr.mono (by omega)) rfl (pa_cons (pv 0) (pa_cons pe_int pa_nil))) pa_nil)) (blkOk_by (own := [("k", 3)]) (N := n__law_wild) (sc := defScope s__law_wild) (by decide +kernel)) (fun _ _ _ _ _ => (pg_name (i := 3) sc__law_wild.nd rfl (by first | exact .inl rfl | exact .inr rfl))) (fun _ _ _ _ _ => pts_nil) (fun _ _ _ _ _ => (pe_cal C__law_wild (hr.mono (by omega)) rfl (pa_cons (pv 0) (pa_cons (pe_op op_sub (pv 1) pe_int) pa_nil))))))))))
theorem ok__law_wild_all {P : Program} {w : World} {K : PySem.W.Frag} {mg : Str → Option Value} {base : Heap} {f : Addr} {fd : FuncData} (F : Fun K "_law_wild" "_law_wild" s__law_wild f fd) (gf : mg "_law_wild" = some (.ref f)) (C__law_draw : Cal P w K mg base "_law_draw" 2 ["pool", "many"] (sp__law_draw K)) (m_int : mg "int" = none) (m_range : mg "range" = none) (m_tuple : mg "tuple" = none)  : ∀ m, Cal P w K mg base "_law_wild" (3 + m) ["pool", "deep"] (sp__law_wild K m)
  | 0 => ⟨f, fd, F.ok (k := 2) sc__law_wild len__law_wild (fun cdv A outer s H vs Q E hr h => (no__law_wild h).elim), F.kp, F.binds (fun _ _ _ _ _ _ us hl => match us, hl with | [_, _], _ => rfl), gf⟩
  | m + 1 => ok__law_wild_step m F gf C__law_draw m_int m_range m_tuple (ok__law_wild_all F gf C__law_draw m_int m_range m_tuple m)
theorem ok__law_wild {P : Program} {w : World} {K : PySem.W.Frag} {mg : Str → Option Value} {base : Heap} {f : Addr} {fd : FuncData} (F : Fun K "_law_wild" "_law_wild" s__law_wild f fd) (gf : mg "_law_wild" = some (.ref f)) (C__law_draw : Cal P w K mg base "_law_draw" 2 ["pool", "many"] (sp__law_draw K)) (m_int : mg "int" = none) (m_range : mg "range" = none) (m_tuple : mg "tuple" = none)  : Cal P w K mg base "_law_wild" 9 ["pool", "deep"] (sp__law_wild K 6) := ok__law_wild_all F gf C__law_draw m_int m_range m_tuple 6
abbrev s_is_tuple : Stmt := topS 1
abbrev n_is_tuple : List Str := ["value", "fewest", "most"]
theorem sc_is_tuple : FnScope n_is_tuple ["value", "fewest", "most"] (defScope s_is_tuple) := ⟨rfl, rfl, rfl, by decide +kernel, rfl, by decide +kernel, by decide +kernel⟩
theorem ok_is_tuple {P : Program} {w : World} {K : PySem.W.Frag} {mg : Str → Option Value} {base : Heap} {f : Addr} {fd : FuncData} (F : Fun K "is_tuple" "is_tuple" s_is_tuple f fd) (gf : mg "is_tuple" = some (.ref f))   (m_len : mg "len" = none) (m_tuple : mg "tuple" = none) (m_type : mg "type" = none)  : Cal P w K mg base "is_tuple" 1 ["value", "fewest", "most"] (sp_is_tuple K) := by
  refine ⟨f, fd, F.ok sc_is_tuple len_is_tuple (fun cdv A outer s H vs Q E hr h => ⟨t_is_tuple K, PSs.nox ?_, pure_is_tuple vs H Q E h⟩), F.kp, F.binds (fun _ _ _ _ _ _ us hl => match us, hl with | [_, _, _], _ => rfl), gf⟩
  exact (pss_one (ps_ret (pe_and (pe_cmpR op_isTyB1 (pe_callTy L2.call_type1 (by rfl) m_type (by decide +kernel) (pa_cons (pv 0) pa_nil)) (pe_bltn (by rfl) m_tuple (by decide +kernel) rfl) (nomark _)) (pe_one (pe_chain op_le op_le (pv 1) (pe_callB call_len1 (by rfl) m_len (by decide +kernel) (pa_cons (pv 0) pa_nil)) (pv 2))))))
abbrev s_is_flat : Stmt := topS 2
abbrev n_is_flat : List Str := ["value", "fewest", "most", "item"]
theorem sc_is_flat : FnScope n_is_flat ["value", "fewest", "most"] (defScope s_is_flat) := ⟨rfl, rfl, rfl, by decide +kernel, rfl, by decide +kernel, by decide +kernel⟩
theorem ok_is_flat {P : Program} {w : World} {K : PySem.W.Frag} {mg : Str → Option Value} {base : Heap} {f : Addr} {fd : FuncData} (F : Fun K "is_flat" "is_flat" s_is_flat f fd) (gf : mg "is_flat" = some (.ref f)) (C_is_tuple : Cal P w K mg base "is_tuple" 1 ["value", "fewest", "most"] (sp_is_tuple K))  (m_all : mg "all" = none) (m_int : mg "int" = none) (m_str : mg "str" = none) (m_type : mg "type" = none)  : Cal P w K mg base "is_flat" 2 ["value", "fewest", "most"] (sp_is_flat K) := by
  refine ⟨f, fd, F.ok sc_is_flat len_is_flat (fun cdv A outer s H vs Q E hr h => ⟨t_is_flat K, PSs.nox ?_, pure_is_flat vs H Q E h⟩), F.kp, F.binds (fun _ _ _ _ _ _ us hl => match us, hl with | [_, _, _], _ => rfl), gf⟩
  exact (pss_one (ps_ret (pe_and (pe_cal C_is_tuple (hr.mono (by decide)) rfl (pa_cons (pv 0) (pa_cons (pv 1) (pa_cons (pv 2) pa_nil)))) (pe_one (pe_callB (cr_all rfl) (by rfl) m_all (by decide +kernel) (pa_cons (pe_lc (own := [("item", 3)]) rfl sc_is_flat.nd (pi_tup (pv 0)) (blkOk_by (own := [("item", 3)]) (N := n_is_flat) (sc := defScope s_is_flat) (by decide +kernel)) (fun _ _ _ _ _ => (pg_name (i := 3) sc_is_flat.nd rfl (by first | exact .inl rfl | exact .inr rfl))) (fun _ _ _ _ _ => pts_nil) (fun _ _ _ _ _ => (pe_cmpR op_inTy (pe_callTy L2.call_type1 (by rfl) m_type (by decide +kernel) (pa_cons (pv 3) pa_nil)) (pe_tup (pa_cons (pe_bltn (by rfl) m_str (by decide +kernel) rfl) (pa_cons (pe_bltn (by rfl) m_int (by decide +kernel) rfl) pa_nil))) (by rfl)))) pa_nil))))))
abbrev s__is_number_pair : Stmt := topS 10
abbrev n__is_number_pair : List Str := ["value"]
theorem sc__is_number_pair : FnScope n__is_number_pair ["value"] (defScope s__is_number_pair) := ⟨rfl, rfl, rfl, by decide +kernel, rfl, by decide +kernel, by decide +kernel⟩
theorem ok__is_number_pair {P : Program} {w : World} {K : PySem.W.Frag} {mg : Str → Option Value} {base : Heap} {f : Addr} {fd : FuncData} (F : Fun K "_is_number_pair" "_is_number_pair" s__is_number_pair f fd) (gf : mg "_is_number_pair" = some (.ref f)) (C_is_flat : Cal P w K mg base "is_flat" 2 ["value", "fewest", "most"] (sp_is_flat K))  (m_int : mg "int" = none) (m_type : mg "type" = none)  : Cal P w K mg base "_is_number_pair" 3 ["value"] (sp__is_number_pair K) := by
  refine ⟨f, fd, F.ok sc__is_number_pair len__is_number_pair (fun cdv A outer s H vs Q E hr h => ⟨t__is_number_pair K, PSs.nox ?_, pure__is_number_pair vs H Q E h⟩), F.kp, F.binds (fun _ _ _ _ _ _ us hl => match us, hl with | [_], _ => rfl), gf⟩
  exact (pss_one (ps_ret (pe_and (pe_cal C_is_flat (hr.mono (by decide)) rfl (pa_cons (pv 0) (pa_cons pe_int (pa_cons pe_int pa_nil)))) (pe_and (pe_cmpR op_isTyB1 (pe_callTy L2.call_type1 (by rfl) m_type (by decide +kernel) (pa_cons (pe_ix ix_tup (pv 0) pe_int (fun _ _ => rfl)) pa_nil)) (pe_bltn (by rfl) m_int (by decide +kernel) rfl) (nomark _)) (pe_one (pe_cmpR op_isTyB1 (pe_callTy L2.call_type1 (by rfl) m_type (by decide +kernel) (pa_cons (pe_ix ix_tup (pv 0) pe_int (fun _ _ => rfl)) pa_nil)) (pe_bltn (by rfl) m_int (by decide +kernel) rfl) (nomark _)))))))
abbrev s_is_unknown : Stmt := topS 4
abbrev n_is_unknown : List Str := ["domains", "value"]
theorem sc_is_unknown : FnScope n_is_unknown ["domains", "value"] (defScope s_is_unknown) := ⟨rfl, rfl, rfl, by decide +kernel, rfl, by decide +kernel, by decide +kernel⟩
theorem ok_is_unknown {P : Program} {w : World} {K : PySem.W.Frag} {mg : Str → Option Value} {base : Heap} {f : Addr} {fd : FuncData} (F : Fun K "is_unknown" "is_unknown" s_is_unknown f fd) (gf : mg "is_unknown" = some (.ref f))   (m_str : mg "str" = none) (m_type : mg "type" = none)  : Cal P w K mg base "is_unknown" 1 ["domains", "value"] (sp_is_unknown K) := by
  refine ⟨f, fd, F.ok sc_is_unknown len_is_unknown (fun cdv A outer s H vs Q E hr h => ⟨t_is_unknown K, PSs.nox ?_, pure_is_unknown vs H Q E h⟩), F.kp, F.binds (fun _ _ _ _ _ _ us hl => match us, hl with | [_, _], _ => rfl), gf⟩
  exact (pss_one (ps_ret (pe_and (pe_cmpR op_isTyB1 (pe_callTy L2.call_type1 (by rfl) m_type (by decide +kernel) (pa_cons (pv 1) pa_nil)) (pe_bltn (by rfl) m_str (by decide +kernel) rfl) (nomark _)) (pe_one (pe_cmp (pc_din (hu_of hr) (pv 1) (pv 0)))))))
abbrev s__is_led : Stmt := topS 9
abbrev n__is_led : List Str := ["domains", "value", "x", "y", "pairs", "many", "pair", "v", "w"]
theorem sc__is_led : FnScope n__is_led ["domains", "value"] (defScope s__is_led) := ⟨rfl, rfl, rfl, by decide +kernel, rfl, by decide +kernel, by decide +kernel⟩
theorem ok__is_led {P : Program} {w : World} {K : PySem.W.Frag} {mg : Str → Option Value} {base : Heap} {f : Addr} {fd : FuncData} (F : Fun K "_is_led" "_is_led" s__is_led f fd) (gf : mg "_is_led" = some (.ref f)) (C__is_number_pair : Cal P w K mg base "_is_number_pair" 3 ["value"] (sp__is_number_pair K)) (C_is_tuple : Cal P w K mg base "is_tuple" 1 ["value", "fewest", "most"] (sp_is_tuple K)) (C_is_unknown : Cal P w K mg base "is_unknown" 1 ["domains", "value"] (sp_is_unknown K))  (m_all : mg "all" = none) (m_len : mg "len" = none) (m_sorted : mg "sorted" = none) (m_tuple : mg "tuple" = none)  : Cal P w K mg base "_is_led" 4 ["domains", "value"] (sp__is_led K) := by
  refine ⟨f, fd, F.ok sc__is_led len__is_led (fun cdv A outer s H vs Q E hr h => ⟨t__is_led K, PSs.nox ?_, pure__is_led vs H Q E h⟩), F.kp, F.binds (fun _ _ _ _ _ _ us hl => match us, hl with | [_, _], _ => rfl), gf⟩
  exact (pss_cons (ps_if (PW.pt (pw_or (pt_not (pt_val (pe_cal C_is_tuple (hr.mono (by decide)) rfl (pa_cons (pv 1) (pa_cons pe_int (pa_cons pe_int pa_nil)))))) (pw_or (pt_not (pt_val (pe_cal C_is_unknown (hr.mono (by decide)) rfl (pa_cons (pv 0) (pa_cons (pe_ix ix_tup (pv 1) pe_int (fun _ _ => rfl)) pa_nil))))) (pw_or1 (pt_not (pt_val (pe_cal C_is_unknown (hr.mono (by decide)) rfl (pa_cons (pv 0) (pa_cons (pe_ix ix_tup (pv 1) pe_int (fun _ _ => rfl)) pa_nil))))))))) (pss_one (ps_ret pe_bl)) pss_nil)
  (pss_cons (ps_asg (pv 1) (pg_tup rfl (pgs_cons (pg_name (i := 2) sc__is_led.nd rfl (by first | exact .inl rfl | exact .inr rfl)) (pgs_cons (pg_name (i := 3) sc__is_led.nd rfl (by first | exact .inl rfl | exact .inr rfl)) (pgs_cons (pg_name (i := 4) sc__is_led.nd rfl (by first | exact .inl rfl | exact .inr rfl)) pgs_nil)))))
  (pss_cons (ps_set (i := 5) sc__is_led.nd rfl (by first | exact .inl rfl | exact .inr rfl) (pe_callB call_len1 (by rfl) m_len (by decide +kernel) (pa_cons (pe_dget (hu_of hr) (pv 0) (pv 2) (fun _ _ => rfl)) pa_nil)))
  (pss_cons (ps_if (PW.pt (pw_or (pt_not (pt_val (pe_cal C_is_tuple (hr.mono (by decide)) rfl (pa_cons (pv 4) (pa_cons (pv 5) (pa_cons (pv 5) pa_nil)))))) (pw_or1 (pt_not (pt_val (pe_callB (cr_all rfl) (by rfl) m_all (by decide +kernel) (pa_cons (pe_lc (own := [("pair", 6)]) rfl sc__is_led.nd (pi_tup (pv 4)) (blkOk_by (own := [("pair", 6)]) (N := n__is_led) (sc := defScope s__is_led) (by decide +kernel)) (fun _ _ _ _ _ => (pg_name (i := 6) sc__is_led.nd rfl (by first | exact .inl rfl | exact .inr rfl))) (fun _ _ _ _ _ => pts_nil) (fun _ _ _ _ _ => (pe_cal C__is_number_pair (hr.mono (by decide)) rfl (pa_cons (pv 6) pa_nil)))) pa_nil))))))) (pss_one (ps_ret pe_bl)) pss_nil)
  (pss_one (ps_ret (pe_and (pe_cmpR (op_eqD (units64 hr)) (pe_tupleOf (by rfl) m_tuple (pe_lc (own := [("v", 7), ("w", 8)]) rfl sc__is_led.nd (pi_tup (pv 4)) (blkOk_by (own := [("v", 7), ("w", 8)]) (N := n__is_led) (sc := defScope s__is_led) (by decide +kernel)) (fun _ _ _ _ _ => (pg_tup rfl (pgs_cons (pg_name (i := 7) sc__is_led.nd rfl (by first | exact .inl rfl | exact .inr rfl)) (pgs_cons (pg_name (i := 8) sc__is_led.nd rfl (by first | exact .inl rfl | exact .inr rfl)) pgs_nil)))) (fun _ _ _ _ _ => pts_nil) (fun _ _ _ _ _ => (pv 7)))) (pe_dget (hu_of hr) (pv 0) (pv 2) (fun _ _ => rfl)) (nomark _)) (pe_one (pe_cmpR (op_eqD (units64 hr)) (pe_tupleOf (by rfl) m_tuple (pe_callB cr_sortedI (by rfl) m_sorted (by decide +kernel) (pa_cons (pe_lc (own := [("v", 7), ("w", 8)]) rfl sc__is_led.nd (pi_tup (pv 4)) (blkOk_by (own := [("v", 7), ("w", 8)]) (N := n__is_led) (sc := defScope s__is_led) (by decide +kernel)) (fun _ _ _ _ _ => (pg_tup rfl (pgs_cons (pg_name (i := 7) sc__is_led.nd rfl (by first | exact .inl rfl | exact .inr rfl)) (pgs_cons (pg_name (i := 8) sc__is_led.nd rfl (by first | exact .inl rfl | exact .inr rfl)) pgs_nil)))) (fun _ _ _ _ _ => pts_nil) (fun _ _ _ _ _ => (pv 8))) pa_nil))) (pe_dget (hu_of hr) (pv 0) (pv 3) (fun _ _ => rfl)) (nomark _))))))))))
abbrev s_ascends : Stmt := topS 3
abbrev n_ascends : List Str := ["items", "k"]
theorem sc_ascends : FnScope n_ascends ["items"] (defScope s_ascends) := ⟨rfl, rfl, rfl, by decide +kernel, rfl, by decide +kernel, by decide +kernel⟩
theorem ok_ascends {P : Program} {w : World} {K : PySem.W.Frag} {mg : Str → Option Value} {base : Heap} {f : Addr} {fd : FuncData} (F : Fun K "ascends" "ascends" s_ascends f fd) (gf : mg "ascends" = some (.ref f))   (m_all : mg "all" = none) (m_len : mg "len" = none) (m_range : mg "range" = none)  : Cal P w K mg base "ascends" 1 ["items"] (sp_ascends K) := by
  refine ⟨f, fd, F.ok sc_ascends len_ascends (fun cdv A outer s H vs Q E hr h => ⟨t_ascends K, PSs.nox ?_, pure_ascends vs H Q E h⟩), F.kp, F.binds (fun _ _ _ _ _ _ us hl => match us, hl with | [_], _ => rfl), gf⟩
  exact (pss_one (ps_ret (pe_callB (cr_all rfl) (by rfl) m_all (by decide +kernel) (pa_cons (pe_lc (own := [("k", 1)]) rfl sc_ascends.nd (pi_range1 (by rfl) m_range (pa_cons (pe_op op_sub (pe_callB call_len1 (by rfl) m_len (by decide +kernel) (pa_cons (pv 0) pa_nil)) pe_int) pa_nil)) (blkOk_by (own := [("k", 1)]) (N := n_ascends) (sc := defScope s_ascends) (by decide +kernel)) (fun _ _ _ _ _ => (pg_name (i := 1) sc_ascends.nd rfl (by first | exact .inl rfl | exact .inr rfl))) (fun _ _ _ _ _ => pts_nil) (fun _ _ _ _ _ => (pe_cmpR op_ltS (pe_ix ix_list (pv 0) (pv 1) (fun _ _ => rfl)) (pe_ix ix_list (pv 0) (pe_op op_add (pv 1) pe_int) (fun _ _ => rfl)) (nomark _)))) pa_nil))))
abbrev s_domains_of : Stmt := topS 6
abbrev n_domains_of : List Str := ["model", "name", "domain"]
theorem sc_domains_of : FnScope n_domains_of ["model"] (defScope s_domains_of) := ⟨rfl, rfl, rfl, by decide +kernel, rfl, by decide +kernel, by decide +kernel⟩
theorem ok_domains_of {P : Program} {w : World} {K : PySem.W.Frag} {mg : Str → Option Value} {base : Heap} {f : Addr} {fd : FuncData} (F : Fun K "domains_of" "domains_of" s_domains_of f fd) (gf : mg "domains_of" = some (.ref f))     : Cal P w K mg base "domains_of" 1 ["model"] (sp_domains_of K) := by
  refine ⟨f, fd, F.ok sc_domains_of len_domains_of (fun cdv A outer s H vs Q E hr h => ⟨t_domains_of K, PSs.nox ?_, pure_domains_of vs H Q E h⟩), F.kp, F.binds (fun _ _ _ _ _ _ us hl => match us, hl with | [_], _ => rfl), gf⟩
  exact (pss_one (ps_ret (pe_dc (own := [("name", 1), ("domain", 2)]) rfl sc_domains_of.nd (pi_tup (pe_ix ix_tup (pv 0) pe_int (fun _ _ => rfl))) (blkOk_by (own := [("name", 1), ("domain", 2)]) (N := n_domains_of) (sc := defScope s_domains_of) (by decide +kernel)) (fun _ _ _ _ _ => (pg_tup rfl (pgs_cons (pg_name (i := 1) sc_domains_of.nd rfl (by first | exact .inl rfl | exact .inr rfl)) (pgs_cons (pg_name (i := 2) sc_domains_of.nd rfl (by first | exact .inl rfl | exact .inr rfl)) pgs_nil)))) (fun _ _ _ _ _ => pts_nil) (fun _ _ _ _ _ => (pv 1)) (fun _ _ _ _ _ => (pv 2)))))
abbrev s_check_exchange : Stmt := topS 8
abbrev n_check_exchange : List Str := ["model", "value", "domains", "item", "firsts", "x", "y", "pairs"]
theorem sc_check_exchange : FnScope n_check_exchange ["model", "value"] (defScope s_check_exchange) := ⟨rfl, rfl, rfl, by decide +kernel, rfl, by decide +kernel, by decide +kernel⟩
theorem ok_check_exchange {P : Program} {w : World} {K : PySem.W.Frag} {mg : Str → Option Value} {base : Heap} {f : Addr} {fd : FuncData} (F : Fun K "check_exchange" "check_exchange" s_check_exchange f fd) (gf : mg "check_exchange" = some (.ref f)) (C__is_led : Cal P w K mg base "_is_led" 4 ["domains", "value"] (sp__is_led K)) (C_ascends : Cal P w K mg base "ascends" 1 ["items"] (sp_ascends K)) (C_domains_of : Cal P w K mg base "domains_of" 1 ["model"] (sp_domains_of K))  (m_all : mg "all" = none) (m_sorted : mg "sorted" = none) (m_tuple : mg "tuple" = none) (m_type : mg "type" = none)  : Cal P w K mg base "check_exchange" 5 ["model", "value"] (sp_check_exchange K) := by
  refine ⟨f, fd, F.ok sc_check_exchange len_check_exchange (fun cdv A outer s H vs Q E hr h => ⟨t_check_exchange K, PSs.nox ?_, pure_check_exchange vs H Q E h⟩), F.kp, F.binds (fun _ _ _ _ _ _ us hl => match us, hl with | [_, _], _ => rfl), gf⟩
  exact (pss_cons (ps_set (i := 2) sc_check_exchange.nd rfl (by first | exact .inl rfl | exact .inr rfl) (pe_cal C_domains_of (hr.mono (by decide)) rfl (pa_cons (pv 0) pa_nil)))
  (pss_cons (ps_if (PW.pt (pw_or (pt_cmpR op_nTyB1 (pe_callTy L2.call_type1 (by rfl) m_type (by decide +kernel) (pa_cons (pv 1) pa_nil)) (pe_bltn (by rfl) m_tuple (by decide +kernel) rfl) (nomark _)) (pw_or1 (pt_not (pt_val (pe_callB (cr_all rfl) (by rfl) m_all (by decide +kernel) (pa_cons (pe_lc (own := [("item", 3)]) rfl sc_check_exchange.nd (pi_tup (pv 1)) (blkOk_by (own := [("item", 3)]) (N := n_check_exchange) (sc := defScope s_check_exchange) (by decide +kernel)) (fun _ _ _ _ _ => (pg_name (i := 3) sc_check_exchange.nd rfl (by first | exact .inl rfl | exact .inr rfl))) (fun _ _ _ _ _ => pts_nil) (fun _ _ _ _ _ => (pe_cal C__is_led (hr.mono (by decide)) rfl (pa_cons (pv 2) (pa_cons (pv 3) pa_nil))))) pa_nil))))))) (pss_one (ps_ret pe_bl)) pss_nil)
  (pss_cons (ps_setLc (i := 4) (own := [("x", 5), ("y", 6), ("pairs", 7)]) rfl sc_check_exchange.nd rfl rfl (sw_true rfl rfl rfl (by decide +kernel)) (pi_tup (pv 1)) (blkOk_by (own := [("x", 5), ("y", 6), ("pairs", 7)]) (N := n_check_exchange) (sc := defScope s_check_exchange) (by decide +kernel)) (fun _ _ _ _ _ => (pg_tup rfl (pgs_cons (pg_name (i := 5) sc_check_exchange.nd rfl (by first | exact .inl rfl | exact .inr rfl)) (pgs_cons (pg_name (i := 6) sc_check_exchange.nd rfl (by first | exact .inl rfl | exact .inr rfl)) (pgs_cons (pg_name (i := 7) sc_check_exchange.nd rfl (by first | exact .inl rfl | exact .inr rfl)) pgs_nil))))) (fun _ _ _ _ _ => pts_nil) (fun _ _ _ _ _ => (pv 5)))
  (pss_one (ps_ret (pe_and (pe_cal C_ascends (hr.mono (by decide)) rfl (pa_cons (pv 4) pa_nil)) (pe_one (pe_cmpR (op_eqD (units64 hr)) (pe_callB cr_sortedS (by rfl) m_sorted (by decide +kernel) (pa_cons (pe_lc (own := [("x", 5), ("y", 6), ("pairs", 7)]) rfl sc_check_exchange.nd (pi_tup (pv 1)) (blkOk_by (own := [("x", 5), ("y", 6), ("pairs", 7)]) (N := n_check_exchange) (sc := defScope s_check_exchange) (by decide +kernel)) (fun _ _ _ _ _ => (pg_tup rfl (pgs_cons (pg_name (i := 5) sc_check_exchange.nd rfl (by first | exact .inl rfl | exact .inr rfl)) (pgs_cons (pg_name (i := 6) sc_check_exchange.nd rfl (by first | exact .inl rfl | exact .inr rfl)) (pgs_cons (pg_name (i := 7) sc_check_exchange.nd rfl (by first | exact .inl rfl | exact .inr rfl)) pgs_nil))))) (fun _ _ _ _ _ => pts_nil) (fun _ _ _ _ _ => (pv 6))) pa_nil)) (pv 4) (nomark _)))))))))
abbrev s_turned : Stmt := topS 11
abbrev n_turned : List Str := ["model", "exchange", "filling", "values", "item", "v", "led", "x", "y", "pairs", "w"]
theorem sc_turned : FnScope n_turned ["model", "exchange", "filling"] (defScope s_turned) := ⟨rfl, rfl, rfl, by decide +kernel, rfl, by decide +kernel, by decide +kernel⟩
theorem ok_turned {P : Program} {w : World} {K : PySem.W.Frag} {mg : Str → Option Value} {base : Heap} {f : Addr} {fd : FuncData} (F : Fun K "turned" "turned" s_turned f fd) (gf : mg "turned" = some (.ref f))   (m_tuple : mg "tuple" = none) (m_zip : mg "zip" = none)  : Cal P w K mg base "turned" 1 ["model", "exchange", "filling"] (sp_turned K) := by
  refine ⟨f, fd, F.ok sc_turned len_turned (fun cdv A outer s H vs Q E hr h => ⟨t_turned K, PSs.nox ?_, pure_turned vs H Q E h⟩), F.kp, F.binds (fun _ _ _ _ _ _ us hl => match us, hl with | [_, _, _], _ => rfl), gf⟩
  exact (pss_cons (ps_set (i := 3) sc_turned.nd rfl (by first | exact .inl rfl | exact .inr rfl) (pe_dc (own := [("item", 4), ("v", 5)]) rfl sc_turned.nd (pi_zipA (by rfl) m_zip (pa_cons (pe_ix ix_tup (pv 0) pe_int (fun _ _ => rfl)) (pa_cons (pv 2) pa_nil))) (blkOk_by (own := [("item", 4), ("v", 5)]) (N := n_turned) (sc := defScope s_turned) (by decide +kernel)) (fun _ _ _ _ _ => (pg_tup rfl (pgs_cons (pg_name (i := 4) sc_turned.nd rfl (by first | exact .inl rfl | exact .inr rfl)) (pgs_cons (pg_name (i := 5) sc_turned.nd rfl (by first | exact .inl rfl | exact .inr rfl)) pgs_nil)))) (fun _ _ _ _ _ => pts_nil) (fun _ _ _ _ _ => (pe_ix ix_tup (pv 4) pe_int (fun _ _ => rfl))) (fun _ _ _ _ _ => (pv 5))))
  (pss_cons (ps_set (i := 6) sc_turned.nd rfl (by first | exact .inl rfl | exact .inr rfl) (pe_lock (pe_dc (own := [("x", 7), ("v", 5)]) rfl sc_turned.nd (pi_items (pv 3)) (blkOk_by (own := [("x", 7), ("v", 5)]) (N := n_turned) (sc := defScope s_turned) (by decide +kernel)) (fun _ _ _ _ _ => (pg_tup rfl (pgs_cons (pg_name (i := 7) sc_turned.nd rfl (by first | exact .inl rfl | exact .inr rfl)) (pgs_cons (pg_name (i := 5) sc_turned.nd rfl (by first | exact .inl rfl | exact .inr rfl)) pgs_nil)))) (fun _ _ _ _ _ => pts_nil) (fun _ _ _ _ _ => (pv 7)) (fun _ _ _ _ _ => (pv 5)))))
  (pss_cons (ps_for PassesOwn.never rfl (pi_tup (pv 1)) (pg_tup rfl (pgs_cons (pg_name (i := 7) sc_turned.nd rfl (by first | exact .inl rfl | exact .inr rfl)) (pgs_cons (pg_name (i := 8) sc_turned.nd rfl (by first | exact .inl rfl | exact .inr rfl)) (pgs_cons (pg_name (i := 9) sc_turned.nd rfl (by first | exact .inl rfl | exact .inr rfl)) pgs_nil))))
  (pss_one (ps_dput (hu_of hr) (pv 6) (pv 8) (pe_ix ix_list (pe_lc (own := [("v", 5), ("w", 10)]) rfl sc_turned.nd (pi_tup (pv 9)) (blkOk_by (own := [("v", 5), ("w", 10)]) (N := n_turned) (sc := defScope s_turned) (by decide +kernel)) (fun _ _ _ _ _ => (pg_tup rfl (pgs_cons (pg_name (i := 5) sc_turned.nd rfl (by first | exact .inl rfl | exact .inr rfl)) (pgs_cons (pg_name (i := 10) sc_turned.nd rfl (by first | exact .inl rfl | exact .inr rfl)) pgs_nil)))) (fun _ _ _ _ _ => (pts_one (pt_cmpR op_eq (pv 5) (pe_dget (hu_of hr) (pv 3) (pv 7) (fun _ _ => rfl)) (nomark _)))) (fun _ _ _ _ _ => (pv 10))) pe_int (fun _ _ => rfl)) rfl)))
  (pss_one (ps_ret (pe_tupleOf (by rfl) m_tuple (pe_lc (own := [("item", 4)]) rfl sc_turned.nd (pi_tup (pe_ix ix_tup (pv 0) pe_int (fun _ _ => rfl))) (blkOk_by (own := [("item", 4)]) (N := n_turned) (sc := defScope s_turned) (by decide +kernel)) (fun _ _ _ _ _ => (pg_name (i := 4) sc_turned.nd rfl (by first | exact .inl rfl | exact .inr rfl))) (fun _ _ _ _ _ => pts_nil) (fun _ _ _ _ _ => (pe_dget (hu_of hr) (pv 6) (pe_ix ix_tup (pv 4) pe_int (fun _ _ => rfl)) (fun _ _ => rfl))))))))))
abbrev s_law : Stmt := topS 35
abbrev n_law : List Str := ["script", "pool", "model", "ways", "named", "exchange", "back", "turn", "filling", "x", "domain", "due", "value"]
theorem sc_law : FnScope n_law ["script"] (defScope s_law) := ⟨rfl, rfl, rfl, by decide +kernel, rfl, by decide +kernel, by decide +kernel⟩
theorem ok_law {P : Program} {w : World} {K : PySem.W.Frag} {mg : Str → Option Value} {base : Heap} {f : Addr} {fd : FuncData} (F : Fun K "law" "law" s_law f fd) (gf : mg "law" = some (.ref f)) (C__law_back : Cal P w K mg base "_law_back" 1 ["exchange"] (sp__law_back K)) (C__law_draw : Cal P w K mg base "_law_draw" 2 ["pool", "many"] (sp__law_draw K)) (C__law_drawn_ways : Cal P w K mg base "_law_drawn_ways" 4 ["pool", "model", "style"] (sp__law_drawn_ways K)) (C__law_exchange_of : Cal P w K mg base "_law_exchange_of" 1 ["ways", "names"] (sp__law_exchange_of K)) (C__law_is_exchange : Cal P w K mg base "_law_is_exchange" 3 ["model", "value"] (sp__law_is_exchange K)) (C__law_model : Cal P w K mg base "_law_model" 6 ["pool"] (sp__law_model K)) (C__law_named : Cal P w K mg base "_law_named" 3 ["pool", "ways"] (sp__law_named K)) (C__law_pick : Cal P w K mg base "_law_pick" 3 ["pool", "some"] (sp__law_pick K)) (C__law_pool : Cal P w K mg base "_law_pool" 1 ["script"] (sp__law_pool K)) (C__law_same : Cal P w K mg base "_law_same" 5 ["actual", "due"] (sp__law_same K 4)) (C__law_spoilt : Cal P w K mg base "_law_spoilt" 5 ["pool", "exchange"] (sp__law_spoilt K)) (C__law_turned : Cal P w K mg base "_law_turned" 1 ["model", "ways", "filling"] (sp__law_turned K)) (C__law_wild : Cal P w K mg base "_law_wild" 9 ["pool", "deep"] (sp__law_wild K 6)) (C_check_exchange : Cal P w K mg base "check_exchange" 5 ["model", "value"] (sp_check_exchange K)) (C_turned : Cal P w K mg base "turned" 1 ["model", "exchange", "filling"] (sp_turned K))  (m_range : mg "range" = none) (m_tuple : mg "tuple" = none)  : FnOk P w K mg base CX0 10 f fd ["script"] (sp_law K) := by
  refine F.ok sc_law len_law (fun cdv A outer s H vs Q E hr h => ⟨t_law K, PSs.nox ?_, pure_law vs H Q E h⟩)
  exact (pss_cons (ps_set (i := 1) sc_law.nd rfl (by first | exact .inl rfl | exact .inr rfl) (pe_cal C__law_pool (hr.mono (by decide)) rfl (pa_cons (pv 0) pa_nil)))
  (pss_cons (ps_set (i := 2) sc_law.nd rfl (by first | exact .inl rfl | exact .inr rfl) (pe_cal C__law_model (hr.mono (by decide)) rfl (pa_cons (pv 1) pa_nil)))
  (pss_cons (ps_set (i := 3) sc_law.nd rfl (by first | exact .inl rfl | exact .inr rfl) (pe_cal C__law_drawn_ways (hr.mono (by decide)) rfl (pa_cons (pv 1) (pa_cons (pv 2) (pa_cons (pe_cal C__law_draw (hr.mono (by decide)) rfl (pa_cons (pv 1) (pa_cons pe_int pa_nil))) pa_nil)))))
  (pss_cons (ps_set (i := 4) sc_law.nd rfl (by first | exact .inl rfl | exact .inr rfl) (pe_cal C__law_named (hr.mono (by decide)) rfl (pa_cons (pv 1) (pa_cons (pv 3) pa_nil))))
  (pss_cons (ps_set (i := 5) sc_law.nd rfl (by first | exact .inl rfl | exact .inr rfl) (pe_cal C__law_exchange_of (hr.mono (by decide)) rfl (pa_cons (pv 3) (pa_cons (pv 4) pa_nil))))
  (pss_cons (ps_if (PW.pt (pw_or (pt_not (pt_val (pe_cal C__law_same (hr.mono (by decide)) rfl (pa_cons (pe_cal C_check_exchange (hr.mono (by decide)) rfl (pa_cons (pv 2) (pa_cons (pv 5) pa_nil))) (pa_cons pe_bl pa_nil))))) (pw_or1 (pt_not (pt_val (pe_cal C__law_same (hr.mono (by decide)) rfl (pa_cons (pe_cal C_check_exchange (hr.mono (by decide)) rfl (pa_cons (pv 2) (pa_cons (pe_tup pa_nil) pa_nil))) (pa_cons pe_bl pa_nil)))))))) (pss_one (ps_ret pe_bl)) pss_nil)
  (pss_cons (ps_set (i := 6) sc_law.nd rfl (by first | exact .inl rfl | exact .inr rfl) (pe_cal C__law_back (hr.mono (by decide)) rfl (pa_cons (pv 5) pa_nil)))
  (pss_cons (ps_for PassesOwn.never rfl (pi_range1 (by rfl) m_range (pa_cons pe_int pa_nil)) (pg_name (i := 7) sc_law.nd rfl (by first | exact .inl rfl | exact .inr rfl))
  (pss_cons (ps_set (i := 8) sc_law.nd rfl (by first | exact .inl rfl | exact .inr rfl) (pe_tupleOf (by rfl) m_tuple (pe_lc (own := [("x", 9), ("domain", 10)]) rfl sc_law.nd (pi_tup (pe_ix ix_tup (pv 2) pe_int (fun _ _ => rfl))) (blkOk_by (own := [("x", 9), ("domain", 10)]) (N := n_law) (sc := defScope s_law) (by decide +kernel)) (fun _ _ _ _ _ => (pg_tup rfl (pgs_cons (pg_name (i := 9) sc_law.nd rfl (by first | exact .inl rfl | exact .inr rfl)) (pgs_cons (pg_name (i := 10) sc_law.nd rfl (by first | exact .inl rfl | exact .inr rfl)) pgs_nil)))) (fun _ _ _ _ _ => pts_nil) (fun _ _ _ _ _ => (pe_cal C__law_pick (hr.mono (by decide)) rfl (pa_cons (pv 1) (pa_cons (pv 10) pa_nil)))))))
  (pss_cons (ps_set (i := 11) sc_law.nd rfl (by first | exact .inl rfl | exact .inr rfl) (pe_cal C__law_turned (hr.mono (by decide)) rfl (pa_cons (pv 2) (pa_cons (pv 3) (pa_cons (pv 8) pa_nil)))))
  (pss_cons (ps_if (PW.pt (pw_or (pt_not (pt_val (pe_cal C__law_same (hr.mono (by decide)) rfl (pa_cons (pe_cal C_turned (hr.mono (by decide)) rfl (pa_cons (pv 2) (pa_cons (pv 5) (pa_cons (pv 8) pa_nil)))) (pa_cons (pv 11) pa_nil))))) (pw_or1 (pt_not (pt_val (pe_cal C__law_same (hr.mono (by decide)) rfl (pa_cons (pe_cal C_turned (hr.mono (by decide)) rfl (pa_cons (pv 2) (pa_cons (pv 6) (pa_cons (pv 11) pa_nil)))) (pa_cons (pv 8) pa_nil)))))))) (pss_one (ps_ret pe_bl)) pss_nil)
  (pss_one (ps_if (pt_not (pt_val (pe_cal C__law_same (hr.mono (by decide)) rfl (pa_cons (pe_cal C_turned (hr.mono (by decide)) rfl (pa_cons (pv 2) (pa_cons (pe_tup pa_nil) (pa_cons (pv 8) pa_nil)))) (pa_cons (pv 8) pa_nil))))) (pss_one (ps_ret pe_bl)) pss_nil))))))
  (pss_cons (ps_for PassesOwn.never rfl (pi_range1 (by rfl) m_range (pa_cons pe_int pa_nil)) (pg_name (i := 7) sc_law.nd rfl (by first | exact .inl rfl | exact .inr rfl))
  (pss_cons (ps_set (i := 12) sc_law.nd rfl (by first | exact .inl rfl | exact .inr rfl) (pe_cal C__law_spoilt (hr.mono (by decide)) rfl (pa_cons (pv 1) (pa_cons (pe_ix ix_list (pe_lst (pa_cons (pv 5) (pa_cons (pv 6) pa_nil))) (pe_cal C__law_draw (hr.mono (by decide)) rfl (pa_cons (pv 1) (pa_cons pe_int pa_nil))) (fun _ _ => rfl)) pa_nil))))
  (pss_cons (ps_if (pt_cmpR op_eq (pe_cal C__law_draw (hr.mono (by decide)) rfl (pa_cons (pv 1) (pa_cons pe_int pa_nil))) pe_int (nomark _)) (pss_one (ps_set (i := 12) sc_law.nd rfl (by first | exact .inl rfl | exact .inr rfl) (pe_cal C__law_wild (hr.mono (by decide)) rfl (pa_cons (pv 1) (pa_cons pe_int pa_nil))))) pss_nil)
  (pss_one (ps_if (pt_not (pt_val (pe_cal C__law_same (hr.mono (by decide)) rfl (pa_cons (pe_cal C_check_exchange (hr.mono (by decide)) rfl (pa_cons (pv 2) (pa_cons (pv 12) pa_nil))) (pa_cons (pe_cal C__law_is_exchange (hr.mono (by decide)) rfl (pa_cons (pv 2) (pa_cons (pv 12) pa_nil))) pa_nil))))) (pss_one (ps_ret pe_bl)) pss_nil)))))
  (pss_one (ps_ret (pe_cal C__law_same (hr.mono (by decide)) rfl (pa_cons (pe_cal C_check_exchange (hr.mono (by decide)) rfl (pa_cons (pv 2) (pa_cons (pv 5) pa_nil))) (pa_cons pe_bl pa_nil))))))))))))))
theorem Fun.kb {K : PySem.W.Frag} {x qual : Str} {st : Stmt} {f : Addr} {fd : FuncData} {ps : List Str} (F : Fun K x qual st f fd) (h0 : 0 < ps.length)
    (h : ∀ (kV doc pm : Value) (an : Option Addr) (cdv ct : Value) (us : List Value), us.length = ps.length → bindArgs (PySem.W.fnOf x qual (defArgs st) (defBody st) (defScope st) .none kV doc pm an cdv ct) ⟨[], ps.zip us⟩ = pure (ps.zip us)) : KBinds K fd ps ps gK gK := by
  obtain ⟨oc, od, kV, doc, pm, an, cdv, ct, osl, rfl, lk, hcd⟩ := F.ex
  refine ⟨fun s us ws _ hl => ?_, fun {vs us zs ws} r rz => ?_⟩
  · cases us with
    | nil => exact .of_eq (h kV doc pm an cdv ct ws hl)
    | cons a r =>
      have : (0 : Nat) = ps.length := hl
      omega
  · cases r with
    | nil => exact rz
    | cons _ _ => exact .nil

end AW
namespace AW
open PySem PySem.Spec PyProof.Rows L2 RZ
open StX
theorem facts7 {P : Program} {w : World} {K : PySem.W.Frag} {h : Heap} {mg : Str → Option Value} {fa : Addr} (X : K.In h) (G : h.Ns mainGlobals mg) (hfa : mg "law" = some (.ref fa))
    {f0 : Addr} {od0 an0 : Option Addr} {sl0 : Array (Option Value)} {oc0 kV0 dc0 pm0 cd0 ct0 : Value} (a0 : PySem.W.nsIn K mainGlobals "_law_back" = some (some (.ref f0))) (l0 : K.lookup f0 = some ⟨oc0, od0, .func (PySem.W.fnOf "_law_back" "_law_back" (defArgs (topS 30)) (defBody (topS 30)) (defScope (topS 30)) .none kV0 dc0 pm0 an0 cd0 ct0), sl0⟩) (c0 : PySem.W.codeIn K cd0 "_law_back" = true) (k0 : PySem.W.keepIn K (.ref f0) = true)
    {f1 : Addr} {od1 an1 : Option Addr} {sl1 : Array (Option Value)} {oc1 kV1 dc1 pm1 cd1 ct1 : Value} (a1 : PySem.W.nsIn K mainGlobals "_law_mixed" = some (some (.ref f1))) (l1 : K.lookup f1 = some ⟨oc1, od1, .func (PySem.W.fnOf "_law_mixed" "_law_mixed" (defArgs (topS 13)) (defBody (topS 13)) (defScope (topS 13)) .none kV1 dc1 pm1 an1 cd1 ct1), sl1⟩) (c1 : PySem.W.codeIn K cd1 "_law_mixed" = true) (k1 : PySem.W.keepIn K (.ref f1) = true)
    {f2 : Addr} {od2 an2 : Option Addr} {sl2 : Array (Option Value)} {oc2 kV2 dc2 pm2 cd2 ct2 : Value} (a2 : PySem.W.nsIn K mainGlobals "_law_draw" = some (some (.ref f2))) (l2 : K.lookup f2 = some ⟨oc2, od2, .func (PySem.W.fnOf "_law_draw" "_law_draw" (defArgs (topS 15)) (defBody (topS 15)) (defScope (topS 15)) .none kV2 dc2 pm2 an2 cd2 ct2), sl2⟩) (c2 : PySem.W.codeIn K cd2 "_law_draw" = true) (k2 : PySem.W.keepIn K (.ref f2) = true)
    {f3 : Addr} {od3 an3 : Option Addr} {sl3 : Array (Option Value)} {oc3 kV3 dc3 pm3 cd3 ct3 : Value} (a3 : PySem.W.nsIn K mainGlobals "_law_shuffled" = some (some (.ref f3))) (l3 : K.lookup f3 = some ⟨oc3, od3, .func (PySem.W.fnOf "_law_shuffled" "_law_shuffled" (defArgs (topS 17)) (defBody (topS 17)) (defScope (topS 17)) .none kV3 dc3 pm3 an3 cd3 ct3), sl3⟩) (c3 : PySem.W.codeIn K cd3 "_law_shuffled" = true) (k3 : PySem.W.keepIn K (.ref f3) = true)
    {f4 : Addr} {od4 an4 : Option Addr} {sl4 : Array (Option Value)} {oc4 kV4 dc4 pm4 cd4 ct4 : Value} (a4 : PySem.W.nsIn K mainGlobals "_law_ways" = some (some (.ref f4))) (l4 : K.lookup f4 = some ⟨oc4, od4, .func (PySem.W.fnOf "_law_ways" "_law_ways" (defArgs (topS 23)) (defBody (topS 23)) (defScope (topS 23)) .none kV4 dc4 pm4 an4 cd4 ct4), sl4⟩) (c4 : PySem.W.codeIn K cd4 "_law_ways" = true) (k4 : PySem.W.keepIn K (.ref f4) = true)
    {f5 : Addr} {od5 an5 : Option Addr} {sl5 : Array (Option Value)} {oc5 kV5 dc5 pm5 cd5 ct5 : Value} (a5 : PySem.W.nsIn K mainGlobals "_law_drawn_ways" = some (some (.ref f5))) (l5 : K.lookup f5 = some ⟨oc5, od5, .func (PySem.W.fnOf "_law_drawn_ways" "_law_drawn_ways" (defArgs (topS 28)) (defBody (topS 28)) (defScope (topS 28)) .none kV5 dc5 pm5 an5 cd5 ct5), sl5⟩) (c5 : PySem.W.codeIn K cd5 "_law_drawn_ways" = true) (k5 : PySem.W.keepIn K (.ref f5) = true)
    {f6 : Addr} {od6 an6 : Option Addr} {sl6 : Array (Option Value)} {oc6 kV6 dc6 pm6 cd6 ct6 : Value} (a6 : PySem.W.nsIn K mainGlobals "_law_exchange_of" = some (some (.ref f6))) (l6 : K.lookup f6 = some ⟨oc6, od6, .func (PySem.W.fnOf "_law_exchange_of" "_law_exchange_of" (defArgs (topS 25)) (defBody (topS 25)) (defScope (topS 25)) .none kV6 dc6 pm6 an6 cd6 ct6), sl6⟩) (c6 : PySem.W.codeIn K cd6 "_law_exchange_of" = true) (k6 : PySem.W.keepIn K (.ref f6) = true)
    {f7 : Addr} {od7 an7 : Option Addr} {sl7 : Array (Option Value)} {oc7 kV7 dc7 pm7 cd7 ct7 : Value} (a7 : PySem.W.nsIn K mainGlobals "_law_is_number" = some (some (.ref f7))) (l7 : K.lookup f7 = some ⟨oc7, od7, .func (PySem.W.fnOf "_law_is_number" "_law_is_number" (defArgs (topS 20)) (defBody (topS 20)) (defScope (topS 20)) .none kV7 dc7 pm7 an7 cd7 ct7), sl7⟩) (c7 : PySem.W.codeIn K cd7 "_law_is_number" = true) (k7 : PySem.W.keepIn K (.ref f7) = true)
    {f8 : Addr} {od8 an8 : Option Addr} {sl8 : Array (Option Value)} {oc8 kV8 dc8 pm8 cd8 ct8 : Value} (a8 : PySem.W.nsIn K mainGlobals "_law_leads" = some (some (.ref f8))) (l8 : K.lookup f8 = some ⟨oc8, od8, .func (PySem.W.fnOf "_law_leads" "_law_leads" (defArgs (topS 21)) (defBody (topS 21)) (defScope (topS 21)) .none kV8 dc8 pm8 an8 cd8 ct8), sl8⟩) (c8 : PySem.W.codeIn K cd8 "_law_leads" = true) (k8 : PySem.W.keepIn K (.ref f8) = true)
    {f9 : Addr} {od9 an9 : Option Addr} {sl9 : Array (Option Value)} {oc9 kV9 dc9 pm9 cd9 ct9 : Value} (a9 : PySem.W.nsIn K mainGlobals "_law_is_exchange" = some (some (.ref f9))) (l9 : K.lookup f9 = some ⟨oc9, od9, .func (PySem.W.fnOf "_law_is_exchange" "_law_is_exchange" (defArgs (topS 22)) (defBody (topS 22)) (defScope (topS 22)) .none kV9 dc9 pm9 an9 cd9 ct9), sl9⟩) (c9 : PySem.W.codeIn K cd9 "_law_is_exchange" = true) (k9 : PySem.W.keepIn K (.ref f9) = true)
    {f10 : Addr} {od10 an10 : Option Addr} {sl10 : Array (Option Value)} {oc10 kV10 dc10 pm10 cd10 ct10 : Value} (a10 : PySem.W.nsIn K mainGlobals "_law_pick" = some (some (.ref f10))) (l10 : K.lookup f10 = some ⟨oc10, od10, .func (PySem.W.fnOf "_law_pick" "_law_pick" (defArgs (topS 16)) (defBody (topS 16)) (defScope (topS 16)) .none kV10 dc10 pm10 an10 cd10 ct10), sl10⟩) (c10 : PySem.W.codeIn K cd10 "_law_pick" = true) (k10 : PySem.W.keepIn K (.ref f10) = true)
    {f11 : Addr} {od11 an11 : Option Addr} {sl11 : Array (Option Value)} {oc11 kV11 dc11 pm11 cd11 ct11 : Value} (a11 : PySem.W.nsIn K mainGlobals "_law_drawn_domain" = some (some (.ref f11))) (l11 : K.lookup f11 = some ⟨oc11, od11, .func (PySem.W.fnOf "_law_drawn_domain" "_law_drawn_domain" (defArgs (topS 27)) (defBody (topS 27)) (defScope (topS 27)) .none kV11 dc11 pm11 an11 cd11 ct11), sl11⟩) (c11 : PySem.W.codeIn K cd11 "_law_drawn_domain" = true) (k11 : PySem.W.keepIn K (.ref f11) = true)
    {f12 : Addr} {od12 an12 : Option Addr} {sl12 : Array (Option Value)} {oc12 kV12 dc12 pm12 cd12 ct12 : Value} (a12 : PySem.W.nsIn K mainGlobals "_law_names" = some (some (.ref f12))) (l12 : K.lookup f12 = some ⟨oc12, od12, .func (PySem.W.fnOf "_law_names" "_law_names" (defArgs (topS 19)) (defBody (topS 19)) (defScope (topS 19)) .none kV12 dc12 pm12 an12 cd12 ct12), sl12⟩) (c12 : PySem.W.codeIn K cd12 "_law_names" = true) (k12 : PySem.W.keepIn K (.ref f12) = true)
    {f13 : Addr} {od13 an13 : Option Addr} {sl13 : Array (Option Value)} {oc13 kV13 dc13 pm13 cd13 ct13 : Value} (a13 : PySem.W.nsIn K mainGlobals "_law_unknowns" = some (some (.ref f13))) (l13 : K.lookup f13 = some ⟨oc13, od13, .func (PySem.W.fnOf "_law_unknowns" "_law_unknowns" (defArgs (topS 26)) (defBody (topS 26)) (defScope (topS 26)) .none kV13 dc13 pm13 an13 cd13 ct13), sl13⟩) (c13 : PySem.W.codeIn K cd13 "_law_unknowns" = true) (k13 : PySem.W.keepIn K (.ref f13) = true)
    {f14 : Addr} {od14 an14 : Option Addr} {sl14 : Array (Option Value)} {oc14 kV14 dc14 pm14 cd14 ct14 : Value} (a14 : PySem.W.nsIn K mainGlobals "_law_model" = some (some (.ref f14))) (l14 : K.lookup f14 = some ⟨oc14, od14, .func (PySem.W.fnOf "_law_model" "_law_model" (defArgs (topS 31)) (defBody (topS 31)) (defScope (topS 31)) .none kV14 dc14 pm14 an14 cd14 ct14), sl14⟩) (c14 : PySem.W.codeIn K cd14 "_law_model" = true) (k14 : PySem.W.keepIn K (.ref f14) = true)
    {f15 : Addr} {od15 an15 : Option Addr} {sl15 : Array (Option Value)} {oc15 kV15 dc15 pm15 cd15 ct15 : Value} (a15 : PySem.W.nsIn K mainGlobals "_law_named" = some (some (.ref f15))) (l15 : K.lookup f15 = some ⟨oc15, od15, .func (PySem.W.fnOf "_law_named" "_law_named" (defArgs (topS 29)) (defBody (topS 29)) (defScope (topS 29)) .none kV15 dc15 pm15 an15 cd15 ct15), sl15⟩) (c15 : PySem.W.codeIn K cd15 "_law_named" = true) (k15 : PySem.W.keepIn K (.ref f15) = true)
    {f16 : Addr} {od16 an16 : Option Addr} {sl16 : Array (Option Value)} {oc16 kV16 dc16 pm16 cd16 ct16 : Value} (a16 : PySem.W.nsIn K mainGlobals "_law_pool" = some (some (.ref f16))) (l16 : K.lookup f16 = some ⟨oc16, od16, .func (PySem.W.fnOf "_law_pool" "_law_pool" (defArgs (topS 14)) (defBody (topS 14)) (defScope (topS 14)) .none kV16 dc16 pm16 an16 cd16 ct16), sl16⟩) (c16 : PySem.W.codeIn K cd16 "_law_pool" = true) (k16 : PySem.W.keepIn K (.ref f16) = true)
    {f17 : Addr} {od17 an17 : Option Addr} {sl17 : Array (Option Value)} {oc17 kV17 dc17 pm17 cd17 ct17 : Value} (a17 : PySem.W.nsIn K mainGlobals "_law_same" = some (some (.ref f17))) (l17 : K.lookup f17 = some ⟨oc17, od17, .func (PySem.W.fnOf "_law_same" "_law_same" (defArgs (topS 18)) (defBody (topS 18)) (defScope (topS 18)) .none kV17 dc17 pm17 an17 cd17 ct17), sl17⟩) (c17 : PySem.W.codeIn K cd17 "_law_same" = true) (k17 : PySem.W.keepIn K (.ref f17) = true)
    {f18 : Addr} {od18 an18 : Option Addr} {sl18 : Array (Option Value)} {oc18 kV18 dc18 pm18 cd18 ct18 : Value} (a18 : PySem.W.nsIn K mainGlobals "_law_spoilt_pairs" = some (some (.ref f18))) (l18 : K.lookup f18 = some ⟨oc18, od18, .func (PySem.W.fnOf "_law_spoilt_pairs" "_law_spoilt_pairs" (defArgs (topS 32)) (defBody (topS 32)) (defScope (topS 32)) .none kV18 dc18 pm18 an18 cd18 ct18), sl18⟩) (c18 : PySem.W.codeIn K cd18 "_law_spoilt_pairs" = true) (k18 : PySem.W.keepIn K (.ref f18) = true)
    {f19 : Addr} {od19 an19 : Option Addr} {sl19 : Array (Option Value)} {oc19 kV19 dc19 pm19 cd19 ct19 : Value} (a19 : PySem.W.nsIn K mainGlobals "_law_spoilt" = some (some (.ref f19))) (l19 : K.lookup f19 = some ⟨oc19, od19, .func (PySem.W.fnOf "_law_spoilt" "_law_spoilt" (defArgs (topS 33)) (defBody (topS 33)) (defScope (topS 33)) .none kV19 dc19 pm19 an19 cd19 ct19), sl19⟩) (c19 : PySem.W.codeIn K cd19 "_law_spoilt" = true) (k19 : PySem.W.keepIn K (.ref f19) = true)
    {f20 : Addr} {od20 an20 : Option Addr} {sl20 : Array (Option Value)} {oc20 kV20 dc20 pm20 cd20 ct20 : Value} (a20 : PySem.W.nsIn K mainGlobals "_law_turned" = some (some (.ref f20))) (l20 : K.lookup f20 = some ⟨oc20, od20, .func (PySem.W.fnOf "_law_turned" "_law_turned" (defArgs (topS 24)) (defBody (topS 24)) (defScope (topS 24)) .none kV20 dc20 pm20 an20 cd20 ct20), sl20⟩) (c20 : PySem.W.codeIn K cd20 "_law_turned" = true) (k20 : PySem.W.keepIn K (.ref f20) = true)
    {f21 : Addr} {od21 an21 : Option Addr} {sl21 : Array (Option Value)} {oc21 kV21 dc21 pm21 cd21 ct21 : Value} (a21 : PySem.W.nsIn K mainGlobals "_law_wild" = some (some (.ref f21))) (l21 : K.lookup f21 = some ⟨oc21, od21, .func (PySem.W.fnOf "_law_wild" "_law_wild" (defArgs (topS 34)) (defBody (topS 34)) (defScope (topS 34)) .none kV21 dc21 pm21 an21 cd21 ct21), sl21⟩) (c21 : PySem.W.codeIn K cd21 "_law_wild" = true) (k21 : PySem.W.keepIn K (.ref f21) = true)
    {f22 : Addr} {od22 an22 : Option Addr} {sl22 : Array (Option Value)} {oc22 kV22 dc22 pm22 cd22 ct22 : Value} (a22 : PySem.W.nsIn K mainGlobals "is_tuple" = some (some (.ref f22))) (l22 : K.lookup f22 = some ⟨oc22, od22, .func (PySem.W.fnOf "is_tuple" "is_tuple" (defArgs (topS 1)) (defBody (topS 1)) (defScope (topS 1)) .none kV22 dc22 pm22 an22 cd22 ct22), sl22⟩) (c22 : PySem.W.codeIn K cd22 "is_tuple" = true) (k22 : PySem.W.keepIn K (.ref f22) = true)
    {f23 : Addr} {od23 an23 : Option Addr} {sl23 : Array (Option Value)} {oc23 kV23 dc23 pm23 cd23 ct23 : Value} (a23 : PySem.W.nsIn K mainGlobals "is_flat" = some (some (.ref f23))) (l23 : K.lookup f23 = some ⟨oc23, od23, .func (PySem.W.fnOf "is_flat" "is_flat" (defArgs (topS 2)) (defBody (topS 2)) (defScope (topS 2)) .none kV23 dc23 pm23 an23 cd23 ct23), sl23⟩) (c23 : PySem.W.codeIn K cd23 "is_flat" = true) (k23 : PySem.W.keepIn K (.ref f23) = true)
    {f24 : Addr} {od24 an24 : Option Addr} {sl24 : Array (Option Value)} {oc24 kV24 dc24 pm24 cd24 ct24 : Value} (a24 : PySem.W.nsIn K mainGlobals "_is_number_pair" = some (some (.ref f24))) (l24 : K.lookup f24 = some ⟨oc24, od24, .func (PySem.W.fnOf "_is_number_pair" "_is_number_pair" (defArgs (topS 10)) (defBody (topS 10)) (defScope (topS 10)) .none kV24 dc24 pm24 an24 cd24 ct24), sl24⟩) (c24 : PySem.W.codeIn K cd24 "_is_number_pair" = true) (k24 : PySem.W.keepIn K (.ref f24) = true)
    {f25 : Addr} {od25 an25 : Option Addr} {sl25 : Array (Option Value)} {oc25 kV25 dc25 pm25 cd25 ct25 : Value} (a25 : PySem.W.nsIn K mainGlobals "is_unknown" = some (some (.ref f25))) (l25 : K.lookup f25 = some ⟨oc25, od25, .func (PySem.W.fnOf "is_unknown" "is_unknown" (defArgs (topS 4)) (defBody (topS 4)) (defScope (topS 4)) .none kV25 dc25 pm25 an25 cd25 ct25), sl25⟩) (c25 : PySem.W.codeIn K cd25 "is_unknown" = true) (k25 : PySem.W.keepIn K (.ref f25) = true)
    {f26 : Addr} {od26 an26 : Option Addr} {sl26 : Array (Option Value)} {oc26 kV26 dc26 pm26 cd26 ct26 : Value} (a26 : PySem.W.nsIn K mainGlobals "_is_led" = some (some (.ref f26))) (l26 : K.lookup f26 = some ⟨oc26, od26, .func (PySem.W.fnOf "_is_led" "_is_led" (defArgs (topS 9)) (defBody (topS 9)) (defScope (topS 9)) .none kV26 dc26 pm26 an26 cd26 ct26), sl26⟩) (c26 : PySem.W.codeIn K cd26 "_is_led" = true) (k26 : PySem.W.keepIn K (.ref f26) = true)
    {f27 : Addr} {od27 an27 : Option Addr} {sl27 : Array (Option Value)} {oc27 kV27 dc27 pm27 cd27 ct27 : Value} (a27 : PySem.W.nsIn K mainGlobals "ascends" = some (some (.ref f27))) (l27 : K.lookup f27 = some ⟨oc27, od27, .func (PySem.W.fnOf "ascends" "ascends" (defArgs (topS 3)) (defBody (topS 3)) (defScope (topS 3)) .none kV27 dc27 pm27 an27 cd27 ct27), sl27⟩) (c27 : PySem.W.codeIn K cd27 "ascends" = true) (k27 : PySem.W.keepIn K (.ref f27) = true)
    {f28 : Addr} {od28 an28 : Option Addr} {sl28 : Array (Option Value)} {oc28 kV28 dc28 pm28 cd28 ct28 : Value} (a28 : PySem.W.nsIn K mainGlobals "domains_of" = some (some (.ref f28))) (l28 : K.lookup f28 = some ⟨oc28, od28, .func (PySem.W.fnOf "domains_of" "domains_of" (defArgs (topS 6)) (defBody (topS 6)) (defScope (topS 6)) .none kV28 dc28 pm28 an28 cd28 ct28), sl28⟩) (c28 : PySem.W.codeIn K cd28 "domains_of" = true) (k28 : PySem.W.keepIn K (.ref f28) = true)
    {f29 : Addr} {od29 an29 : Option Addr} {sl29 : Array (Option Value)} {oc29 kV29 dc29 pm29 cd29 ct29 : Value} (a29 : PySem.W.nsIn K mainGlobals "check_exchange" = some (some (.ref f29))) (l29 : K.lookup f29 = some ⟨oc29, od29, .func (PySem.W.fnOf "check_exchange" "check_exchange" (defArgs (topS 8)) (defBody (topS 8)) (defScope (topS 8)) .none kV29 dc29 pm29 an29 cd29 ct29), sl29⟩) (c29 : PySem.W.codeIn K cd29 "check_exchange" = true) (k29 : PySem.W.keepIn K (.ref f29) = true)
    {f30 : Addr} {od30 an30 : Option Addr} {sl30 : Array (Option Value)} {oc30 kV30 dc30 pm30 cd30 ct30 : Value} (a30 : PySem.W.nsIn K mainGlobals "turned" = some (some (.ref f30))) (l30 : K.lookup f30 = some ⟨oc30, od30, .func (PySem.W.fnOf "turned" "turned" (defArgs (topS 11)) (defBody (topS 11)) (defScope (topS 11)) .none kV30 dc30 pm30 an30 cd30 ct30), sl30⟩) (c30 : PySem.W.codeIn K cd30 "turned" = true) (k30 : PySem.W.keepIn K (.ref f30) = true)
    {f31 : Addr} {od31 an31 : Option Addr} {sl31 : Array (Option Value)} {oc31 kV31 dc31 pm31 cd31 ct31 : Value} (a31 : PySem.W.nsIn K mainGlobals "law" = some (some (.ref f31))) (l31 : K.lookup f31 = some ⟨oc31, od31, .func (PySem.W.fnOf "law" "law" (defArgs (topS 35)) (defBody (topS 35)) (defScope (topS 35)) .none kV31 dc31 pm31 an31 cd31 ct31), sl31⟩) (c31 : PySem.W.codeIn K cd31 "law" = true) (k31 : PySem.W.keepIn K (.ref f31) = true)
    (z_all : PySem.W.nsIn K mainGlobals "all" = some none)
    (z_any : PySem.W.nsIn K mainGlobals "any" = some none)
    (z_bool : PySem.W.nsIn K mainGlobals "bool" = some none)
    (z_dict : PySem.W.nsIn K mainGlobals "dict" = some none)
    (z_int : PySem.W.nsIn K mainGlobals "int" = some none)
    (z_isinstance : PySem.W.nsIn K mainGlobals "isinstance" = some none)
    (z_len : PySem.W.nsIn K mainGlobals "len" = some none)
    (z_list : PySem.W.nsIn K mainGlobals "list" = some none)
    (z_range : PySem.W.nsIn K mainGlobals "range" = some none)
    (z_sorted : PySem.W.nsIn K mainGlobals "sorted" = some none)
    (z_str : PySem.W.nsIn K mainGlobals "str" = some none)
    (z_tuple : PySem.W.nsIn K mainGlobals "tuple" = some none)
    (z_type : PySem.W.nsIn K mainGlobals "type" = some none)
    (z_zip : PySem.W.nsIn K mainGlobals "zip" = some none) :
    ∃ fd : FuncData, (∀ (s : Shared) (v : Value), BindsTo s fd ⟨[v], []⟩ [("script", v)]) ∧ ∀ base : Heap, K.In base → base.Ns mainGlobals mg → FnOk P w K mg base CX0 10 fa fd ["script"] (sp_law K) := by
  have F__law_back := fun_mk (st := topS 30) l0 c0 k0
  have G__law_back := PySem.W.mg_of X G a0
  have F__law_mixed := fun_mk (st := topS 13) l1 c1 k1
  have G__law_mixed := PySem.W.mg_of X G a1
  have F__law_draw := fun_mk (st := topS 15) l2 c2 k2
  have G__law_draw := PySem.W.mg_of X G a2
  have F__law_shuffled := fun_mk (st := topS 17) l3 c3 k3
  have G__law_shuffled := PySem.W.mg_of X G a3
  have F__law_ways := fun_mk (st := topS 23) l4 c4 k4
  have G__law_ways := PySem.W.mg_of X G a4
  have F__law_drawn_ways := fun_mk (st := topS 28) l5 c5 k5
  have G__law_drawn_ways := PySem.W.mg_of X G a5
  have F__law_exchange_of := fun_mk (st := topS 25) l6 c6 k6
  have G__law_exchange_of := PySem.W.mg_of X G a6
  have F__law_is_number := fun_mk (st := topS 20) l7 c7 k7
  have G__law_is_number := PySem.W.mg_of X G a7
  have F__law_leads := fun_mk (st := topS 21) l8 c8 k8
  have G__law_leads := PySem.W.mg_of X G a8
  have F__law_is_exchange := fun_mk (st := topS 22) l9 c9 k9
  have G__law_is_exchange := PySem.W.mg_of X G a9
  have F__law_pick := fun_mk (st := topS 16) l10 c10 k10
  have G__law_pick := PySem.W.mg_of X G a10
  have F__law_drawn_domain := fun_mk (st := topS 27) l11 c11 k11
  have G__law_drawn_domain := PySem.W.mg_of X G a11
  have F__law_names := fun_mk (st := topS 19) l12 c12 k12
  have G__law_names := PySem.W.mg_of X G a12
  have F__law_unknowns := fun_mk (st := topS 26) l13 c13 k13
  have G__law_unknowns := PySem.W.mg_of X G a13
  have F__law_model := fun_mk (st := topS 31) l14 c14 k14
  have G__law_model := PySem.W.mg_of X G a14
  have F__law_named := fun_mk (st := topS 29) l15 c15 k15
  have G__law_named := PySem.W.mg_of X G a15
  have F__law_pool := fun_mk (st := topS 14) l16 c16 k16
  have G__law_pool := PySem.W.mg_of X G a16
  have F__law_same := fun_mk (st := topS 18) l17 c17 k17
  have G__law_same := PySem.W.mg_of X G a17
  have F__law_spoilt_pairs := fun_mk (st := topS 32) l18 c18 k18
  have G__law_spoilt_pairs := PySem.W.mg_of X G a18
  have F__law_spoilt := fun_mk (st := topS 33) l19 c19 k19
  have G__law_spoilt := PySem.W.mg_of X G a19
  have F__law_turned := fun_mk (st := topS 24) l20 c20 k20
  have G__law_turned := PySem.W.mg_of X G a20
  have F__law_wild := fun_mk (st := topS 34) l21 c21 k21
  have G__law_wild := PySem.W.mg_of X G a21
  have F_is_tuple := fun_mk (st := topS 1) l22 c22 k22
  have G_is_tuple := PySem.W.mg_of X G a22
  have F_is_flat := fun_mk (st := topS 2) l23 c23 k23
  have G_is_flat := PySem.W.mg_of X G a23
  have F__is_number_pair := fun_mk (st := topS 10) l24 c24 k24
  have G__is_number_pair := PySem.W.mg_of X G a24
  have F_is_unknown := fun_mk (st := topS 4) l25 c25 k25
  have G_is_unknown := PySem.W.mg_of X G a25
  have F__is_led := fun_mk (st := topS 9) l26 c26 k26
  have G__is_led := PySem.W.mg_of X G a26
  have F_ascends := fun_mk (st := topS 3) l27 c27 k27
  have G_ascends := PySem.W.mg_of X G a27
  have F_domains_of := fun_mk (st := topS 6) l28 c28 k28
  have G_domains_of := PySem.W.mg_of X G a28
  have F_check_exchange := fun_mk (st := topS 8) l29 c29 k29
  have G_check_exchange := PySem.W.mg_of X G a29
  have F_turned := fun_mk (st := topS 11) l30 c30 k30
  have G_turned := PySem.W.mg_of X G a30
  have F_law := fun_mk (st := topS 35) l31 c31 k31
  have G_law := PySem.W.mg_of X G a31
  have m_all := PySem.W.mg_none_of X G z_all
  have m_any := PySem.W.mg_none_of X G z_any
  have m_bool := PySem.W.mg_none_of X G z_bool
  have m_dict := PySem.W.mg_none_of X G z_dict
  have m_int := PySem.W.mg_none_of X G z_int
  have m_isinstance := PySem.W.mg_none_of X G z_isinstance
  have m_len := PySem.W.mg_none_of X G z_len
  have m_list := PySem.W.mg_none_of X G z_list
  have m_range := PySem.W.mg_none_of X G z_range
  have m_sorted := PySem.W.mg_none_of X G z_sorted
  have m_str := PySem.W.mg_none_of X G z_str
  have m_tuple := PySem.W.mg_none_of X G z_tuple
  have m_type := PySem.W.mg_none_of X G z_type
  have m_zip := PySem.W.mg_none_of X G z_zip
  have e := hfa.symm.trans G_law
  cases e
  refine ⟨PySem.W.fnOf "law" "law" (defArgs (topS 35)) (defBody (topS 35)) (defScope (topS 35)) .none kV31 dc31 pm31 an31 cd31 ct31, fun s v => .of_eq rfl, fun base _ _ => ?_⟩
  have C__law_back := ok__law_back (P := P) (w := w) (base := base) F__law_back G__law_back  m_sorted m_tuple
  have C__law_mixed := ok__law_mixed (P := P) (w := w) (base := base) F__law_mixed G__law_mixed  m_int
  have C__law_draw := ok__law_draw (P := P) (w := w) (base := base) F__law_draw G__law_draw C__law_mixed m_int m_len
  have C__law_shuffled := ok__law_shuffled (P := P) (w := w) (base := base) F__law_shuffled G__law_shuffled C__law_draw m_len m_list m_range
  have C__law_ways := ok__law_ways (P := P) (w := w) (base := base) F__law_ways G__law_ways  m_dict
  have C__law_drawn_ways := ok__law_drawn_ways (P := P) (w := w) (base := base) F__law_drawn_ways G__law_drawn_ways C__law_draw C__law_shuffled C__law_ways m_dict m_len m_list m_range
  have C__law_exchange_of := ok__law_exchange_of (P := P) (w := w) (base := base) F__law_exchange_of G__law_exchange_of  m_sorted m_tuple
  have C__law_is_number := ok__law_is_number (P := P) (w := w) (base := base) F__law_is_number G__law_is_number  m_bool m_int m_isinstance
  have C__law_leads := ok__law_leads (P := P) (w := w) (base := base) F__law_leads G__law_leads C__law_is_number m_isinstance m_len m_sorted m_tuple
  have C__law_is_exchange := ok__law_is_exchange (P := P) (w := w) (base := base) F__law_is_exchange G__law_is_exchange C__law_leads m_dict m_isinstance m_len m_sorted m_str m_tuple
  have C__law_pick := ok__law_pick (P := P) (w := w) (base := base) F__law_pick G__law_pick C__law_draw m_len
  have C__law_drawn_domain := ok__law_drawn_domain (P := P) (w := w) (base := base) F__law_drawn_domain G__law_drawn_domain C__law_pick m_range m_tuple
  have C__law_names := ok__law_names (P := P) (w := w) (base := base) F__law_names G__law_names C__law_draw m_int m_list m_range
  have C__law_unknowns := ok__law_unknowns (P := P) (w := w) (base := base) F__law_unknowns G__law_unknowns C__law_draw C__law_drawn_domain m_tuple
  have C__law_model := ok__law_model (P := P) (w := w) (base := base) F__law_model G__law_model C__law_draw C__law_drawn_domain C__law_names C__law_shuffled C__law_unknowns m_tuple
  have C__law_named := ok__law_named (P := P) (w := w) (base := base) F__law_named G__law_named C__law_draw m_any
  have C__law_pool := ok__law_pool (P := P) (w := w) (base := base) F__law_pool G__law_pool  m_list
  have C__law_same := ok__law_same (P := P) (w := w) (base := base) F__law_same G__law_same  m_bool m_int m_isinstance m_len m_range m_str m_tuple
  have C__law_spoilt_pairs := ok__law_spoilt_pairs (P := P) (w := w) (base := base) F__law_spoilt_pairs G__law_spoilt_pairs C__law_draw C__law_pick m_len m_str
  have C__law_spoilt := ok__law_spoilt (P := P) (w := w) (base := base) F__law_spoilt G__law_spoilt C__law_draw C__law_pick C__law_spoilt_pairs m_len
  have C__law_turned := ok__law_turned (P := P) (w := w) (base := base) F__law_turned G__law_turned  m_len m_range m_tuple
  have C__law_wild := ok__law_wild (P := P) (w := w) (base := base) F__law_wild G__law_wild C__law_draw m_int m_range m_tuple
  have C_is_tuple := ok_is_tuple (P := P) (w := w) (base := base) F_is_tuple G_is_tuple  m_len m_tuple m_type
  have C_is_flat := ok_is_flat (P := P) (w := w) (base := base) F_is_flat G_is_flat C_is_tuple m_all m_int m_str m_type
  have C__is_number_pair := ok__is_number_pair (P := P) (w := w) (base := base) F__is_number_pair G__is_number_pair C_is_flat m_int m_type
  have C_is_unknown := ok_is_unknown (P := P) (w := w) (base := base) F_is_unknown G_is_unknown  m_str m_type
  have C__is_led := ok__is_led (P := P) (w := w) (base := base) F__is_led G__is_led C__is_number_pair C_is_tuple C_is_unknown m_all m_len m_sorted m_tuple
  have C_ascends := ok_ascends (P := P) (w := w) (base := base) F_ascends G_ascends  m_all m_len m_range
  have C_domains_of := ok_domains_of (P := P) (w := w) (base := base) F_domains_of G_domains_of  
  have C_check_exchange := ok_check_exchange (P := P) (w := w) (base := base) F_check_exchange G_check_exchange C__is_led C_ascends C_domains_of m_all m_sorted m_tuple m_type
  have C_turned := ok_turned (P := P) (w := w) (base := base) F_turned G_turned  m_tuple m_zip
  exact ok_law F_law G_law C__law_back C__law_draw C__law_drawn_ways C__law_exchange_of C__law_is_exchange C__law_model C__law_named C__law_pick C__law_pool C__law_same C__law_spoilt C__law_turned C__law_wild C_check_exchange C_turned m_range m_tuple
end AW
open PySem PySem.W PyProof.Rows
set_option maxHeartbeats 0 in
theorem PySem.Challenge.cw_aswritten_k84_exchanges_and_turned_holds : PySem.Challenge.rw_aswritten_k84_exchanges_and_turned.Holds := by
  w_on; o_law; k_head; (case hw => w_witness2)
  k_fill
  refine L2.walk_of (l := PySem.Challenge.rw_aswritten_k84_exchanges_and_turned) (n := 63) (k := 10) (x := "script") (CX := fun _ => L2.CX0) (sp := fun w => AW.sp_law _) rfl (by decide) rfl ⟨rfl, by decide, by decide⟩ (fun w h Y => PySem.W.kIn_of Y) ?F (fun _ _ a ns hl _ hS => ⟨a, ns, rfl, hS, hl, fun _ => rfl⟩) (fun _ _ _ _ _ h => h)
  case F =>
    intro w mg fa h KX G hmg
    refine' AW.facts7 KX G hmg ?a0 ?l0 ?c0 ?k0 ?a1 ?l1 ?c1 ?k1 ?a2 ?l2 ?c2 ?k2 ?a3 ?l3 ?c3 ?k3 ?a4 ?l4 ?c4 ?k4 ?a5 ?l5 ?c5 ?k5 ?a6 ?l6 ?c6 ?k6 ?a7 ?l7 ?c7 ?k7 ?a8 ?l8 ?c8 ?k8 ?a9 ?l9 ?c9 ?k9 ?a10 ?l10 ?c10 ?k10 ?a11 ?l11 ?c11 ?k11 ?a12 ?l12 ?c12 ?k12 ?a13 ?l13 ?c13 ?k13 ?a14 ?l14 ?c14 ?k14 ?a15 ?l15 ?c15 ?k15 ?a16 ?l16 ?c16 ?k16 ?a17 ?l17 ?c17 ?k17 ?a18 ?l18 ?c18 ?k18 ?a19 ?l19 ?c19 ?k19 ?a20 ?l20 ?c20 ?k20 ?a21 ?l21 ?c21 ?k21 ?a22 ?l22 ?c22 ?k22 ?a23 ?l23 ?c23 ?k23 ?a24 ?l24 ?c24 ?k24 ?a25 ?l25 ?c25 ?k25 ?a26 ?l26 ?c26 ?k26 ?a27 ?l27 ?c27 ?k27 ?a28 ?l28 ?c28 ?k28 ?a29 ?l29 ?c29 ?k29 ?a30 ?l30 ?c30 ?k30 ?a31 ?l31 ?c31 ?k31 ?z_all ?z_any ?z_bool ?z_dict ?z_int ?z_isinstance ?z_len ?z_list ?z_range ?z_sorted ?z_str ?z_tuple ?z_type ?z_zip
    (case a0 => k_is); (case l0 => k_is); (case c0 => k_is); (case k0 => k_is); (case a1 => k_is); (case l1 => k_is); (case c1 => k_is); (case k1 => k_is); (case a2 => k_is); (case l2 => k_is); (case c2 => k_is); (case k2 => k_is); (case a3 => k_is); (case l3 => k_is); (case c3 => k_is); (case k3 => k_is); (case a4 => k_is); (case l4 => k_is); (case c4 => k_is); (case k4 => k_is); (case a5 => k_is); (case l5 => k_is); (case c5 => k_is); (case k5 => k_is); (case a6 => k_is); (case l6 => k_is); (case c6 => k_is); (case k6 => k_is); (case a7 => k_is); (case l7 => k_is); (case c7 => k_is); (case k7 => k_is); (case a8 => k_is); (case l8 => k_is); (case c8 => k_is); (case k8 => k_is); (case a9 => k_is); (case l9 => k_is); (case c9 => k_is); (case k9 => k_is); (case a10 => k_is); (case l10 => k_is); (case c10 => k_is); (case k10 => k_is); (case a11 => k_is); (case l11 => k_is); (case c11 => k_is); (case k11 => k_is); (case a12 => k_is); (case l12 => k_is); (case c12 => k_is); (case k12 => k_is); (case a13 => k_is); (case l13 => k_is); (case c13 => k_is); (case k13 => k_is); (case a14 => k_is); (case l14 => k_is); (case c14 => k_is); (case k14 => k_is); (case a15 => k_is); (case l15 => k_is); (case c15 => k_is); (case k15 => k_is); (case a16 => k_is); (case l16 => k_is); (case c16 => k_is); (case k16 => k_is); (case a17 => k_is); (case l17 => k_is); (case c17 => k_is); (case k17 => k_is); (case a18 => k_is); (case l18 => k_is); (case c18 => k_is); (case k18 => k_is); (case a19 => k_is); (case l19 => k_is); (case c19 => k_is); (case k19 => k_is); (case a20 => k_is); (case l20 => k_is); (case c20 => k_is); (case k20 => k_is); (case a21 => k_is); (case l21 => k_is); (case c21 => k_is); (case k21 => k_is); (case a22 => k_is); (case l22 => k_is); (case c22 => k_is); (case k22 => k_is); (case a23 => k_is); (case l23 => k_is); (case c23 => k_is); (case k23 => k_is); (case a24 => k_is); (case l24 => k_is); (case c24 => k_is); (case k24 => k_is); (case a25 => k_is); (case l25 => k_is); (case c25 => k_is); (case k25 => k_is); (case a26 => k_is); (case l26 => k_is); (case c26 => k_is); (case k26 => k_is); (case a27 => k_is); (case l27 => k_is); (case c27 => k_is); (case k27 => k_is); (case a28 => k_is); (case l28 => k_is); (case c28 => k_is); (case k28 => k_is); (case a29 => k_is); (case l29 => k_is); (case c29 => k_is); (case k29 => k_is); (case a30 => k_is); (case l30 => k_is); (case c30 => k_is); (case k30 => k_is); (case a31 => k_is); (case l31 => k_is); (case c31 => k_is); (case k31 => k_is); (case z_all => k_is); (case z_any => k_is); (case z_bool => k_is); (case z_dict => k_is); (case z_int => k_is); (case z_isinstance => k_is); (case z_len => k_is); (case z_list => k_is); (case z_range => k_is); (case z_sorted => k_is); (case z_str => k_is); (case z_tuple => k_is); (case z_type => k_is); (case z_zip => k_is)

