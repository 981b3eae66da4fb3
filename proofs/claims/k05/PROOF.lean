import PyProof.Rows.All
import Wide.All
import OpenK.AllK
import Wide.FinOn
import HandS.ForMost
import HandS.DictComp
import HandS.Zip
import HandS.TupAny
import HandS.Style
import HandS.Deep
import HandS.CallLocal
import HandS.More
import HandS.Conv
import HandS.SortInts
import HandS.Walk
import KE.GoesMore
import KE.KEqDeep
import HandS.SetBool
import HandS.Strs
import KE.DataCmp
import HandS.TupLe
import HandS.Steps
import HandS.Text
import KE.SortData
import HandS.TupLen
import HandS.Defaults
import HandS.Ends
import PySem.Challenge.RW_aswritten_k05_products_aheads_and_machin
set_option Elab.async false
set_option linter.all false
set_option maxRecDepth 100000
set_option maxHeartbeats 4000000
/-! own words over the hand layer: names of readings, calls by a bundle, the lists' in-place store, text times number, keywords alone. -/
namespace AW
open PySem PySem.Spec PyProof.Rows L2

abbrev rAddI : R2 := rI0 fun i j => .int (i + j)
abbrev rSubI : R2 := rI0 fun i j => .int (i - j)
abbrev rMulI : R2 := rI CMul fun i j => .int (i * j)
abbrev rDivI : R2 := rI CDiv fun i j => .int (i / j)
abbrev rModI : R2 := rI (fun _ j => 0 < j) fun i j => .int (i % j)
abbrev rPowI : R2 := rI CPow fun i j => .int (i ^ j.toNat)
abbrev rLtI : R2 := rI0 fun i j => .bl (decide (i < j))
abbrev rLeI : R2 := rI0 fun i j => .bl (decide (i ≤ j))
abbrev rGtI : R2 := rI0 fun i j => .bl (decide (j < i))
abbrev rGeI : R2 := rI0 fun i j => .bl (decide (j ≤ i))
abbrev rNeg : V → Hp → VK → Prop := rU fun i => .int (-i)
def rAddS : R2 := fun x y H Q => ∃ i j, x = .str i ∧ y = .str j ∧ i.length + j.length ≤ sizeLine ∧ Q (.str (i ++ j)) H
theorem op_addS {X : Cx} : OpR X (binaryOp .Add) rAddS := op_add_str
def rRepS : R2 := fun x y H Q => ∃ z n, x = .str z ∧ y = .int n ∧ MulOk z n ∧ Q (.str (Txt.mul z n)) H
theorem op_repS {X : Cx} : OpR X (binaryOp .Mult) rRepS := by
  intro pins s σ H x y v u Q I rx ry h
  obtain ⟨z, n, rfl, rfl, ok, q⟩ := h
  obtain ⟨t, rfl⟩ := rx
  obtain ⟨t', rfl⟩ := ry
  exact SB.mul ok fun t2 k => ⟨.str _, H, I.tok _, ⟨_, rfl⟩, q⟩
def rLen1 (K : PySem.W.Frag) : List V → Hp → VK → Prop := fun xs H Q => ∃ x n, xs = [x] ∧ LenV K x H n ∧ Q (.int n) H
theorem call_len1 {X : Cx} : CallR X (.builtin "len") (rLen1 X.K) := call_len
def rAbs : List V → Hp → VK → Prop := fun xs H Q => ∃ i, xs = [.int i] ∧ Q (.int (if i < 0 then -i else i)) H
theorem call_abs1 {X : Cx} : CallR X (.builtin "abs") rAbs := call_abs
def rInt1 : List V → Hp → VK → Prop := fun xs H Q => (∃ i, xs = [.int i] ∧ Q (.int i) H) ∨ ∃ k, xs = [.bl k] ∧ Q (.int (if k then 1 else 0)) H
def rStr1 : List V → Hp → VK → Prop := fun xs H Q => ∃ i, xs = [.int i] ∧ i.natAbs.log2 < 1920 ∧ Q (.str (toString i)) H
def rMax2 : List V → Hp → VK → Prop := fun xs H Q => ∃ i j, xs = [.int i, .int j] ∧ Q (.int (if j > i then j else i)) H
def rMin2 : List V → Hp → VK → Prop := fun xs H Q => ∃ i j, xs = [.int i, .int j] ∧ Q (.int (if j < i then j else i)) H
def rListOf (K : PySem.W.Frag) : List V → Hp → VK → Prop := fun xs H Q => ∃ p ys, xs = [.ref p] ∧ (SqL K H p ys ∨ SqT K H p ys) ∧ ∀ l, H l = none → Q (.ref l) (upd H l (.lst ys))
theorem call_listOf {X : Cx} : CallR X (.type "list") (rListOf X.K) := call_list_of
def rSortDI : List V → Hp → VK → Prop := fun xs H Q => ∃ (a : Addr) (kvs : List (Key × V)) (ks : List Int), xs = [.ref a] ∧ Rd H a (.dK kvs) ∧ kvs.map (·.1) = ks.map Sum.inl ∧ ks.length < 64 ∧
    ∀ (ys : List Int) (p : Addr), ys.Perm ks → ys.Pairwise (· ≤ ·) → H p = none → Q (.ref p) (upd H p (.lst (ys.map V.int)))
def rIxA (K : PySem.W.Frag) : R2 := fun x y H Q => rIxL K x y H Q ∨ rIxT K x y H Q
theorem ix_any {X : Cx} : IxR X (rIxA X.K) := ix_list.or ix_tup
def rIsN : R2 := fun x y H Q => y = .non ∧ Q (.bl (decide (x = .non))) H
theorem op_isN1 {X : Cx} : OpR X (compareOp .Is) rIsN := op_isN
def rJoin (K : PySem.W.Frag) : V → List V → Hp → VK → Prop := fun x xs H Q => ∃ a p, ∃ ys : List Str, x = .str a ∧ xs = [.ref p] ∧ (SqL K H p (ys.map V.str) ∨ SqT K H p (ys.map V.str)) ∧
  (ys.map (·.length)).sum + ys.length * a.length ≤ 16777216 ∧ Q (.str (Txt.join a ys)) H
theorem units64 {A : Around} {k : Nat} (hr : Room k A) : A.units + 64 < cLine := hr.units
theorem units65 {A : Around} {k : Nat} (hr : Room k A) : A.units + 65 < cLine := by have := hr.un; omega
section
variable {X : Cx}
theorem pe_joinK {o e : Expr} {to te : TE} {apos pos : Pos} (ho : PE X o to) (he : PE X e te) (hs : starEach [e] X.env = [(false, eval e X.env)] := by rfl) (hbase : attributeBase o "join" X.env (eval o X.env) = eval o X.env := by rfl) (hline : (apos.endLine == pos.line) = true := by rfl) :
    PE X (.Call (.Attribute o "join" apos) [e] [] pos) (tM1 (rJoin X.K) to te) := pe_join ho he hs hbase hline

/-! ### a def by name, with all that a call asks of it -/
structure Cal (P : Program) (w : World) (K : PySem.W.Frag) (mg : Str → Option Value) (base : Heap) (x : Str) (k : Nat) (ps : List Str) (sp : Sp) : Prop where
  ex : ∃ (f : Addr) (fd : FuncData), FnOk P w K mg base CX0 k f fd ps sp ∧ PySem.W.keepIn K (.ref f) = true ∧ Binds K fd ps [] ∧ mg x = some (.ref f)
theorem pe_cal {x : Str} {k : Nat} {ps : List Str} {sp : Sp} {e : Expr} {es : List Expr} {t : TA} {p pos : Pos} (C : Cal X.prog X.w X.K X.mg X.base x k ps sp) (hr : Room k X.A) (hg : Gl X x) (ha : PA X (e :: es) t)
    (hdb : (x == ("__debug__" : Str)) = false := by decide) (he : starEach (e :: es) X.env = (false, eval e X.env) :: starEach es X.env := by rfl) (hpl : (backTo pos (starEach es X.env)).any (·.1) = false := by rfl) :
    PE X (.Call (.Name x p) (e :: es) [] pos) (tCall sp [] E0 t) := by
  refine ⟨fun pins s σ H Q I h => ?_⟩
  obtain ⟨f, fd, F, hk, hb, hm⟩ := C.ex
  exact (pe_call F hr hg hm hk hb .nil pass0 ha hdb he hpl).run pins s σ H Q I h
/-- how keywords alone bind -/
structure CalK (P : Program) (w : World) (K : PySem.W.Frag) (mg : Str → Option Value) (base : Heap) (x : Str) (k : Nat) (ps ks : List Str) (gV : List V → List V → List V) (sp : Sp) : Prop where
  ex : ∃ (f : Addr) (fd : FuncData) (g : List Value → List Value → List Value), FnOk P w K mg base CX0 k f fd ps sp ∧ PySem.W.keepIn K (.ref f) = true ∧ KBinds K fd ps ks g gV ∧ mg x = some (.ref f)
theorem pe_calK {x : Str} {k : Nat} {ps ks : List Str} {gV : List V → List V → List V} {sp : Sp} {kws : List Keyword} {tk : TA} {p pos : Pos} (C : CalK X.prog X.w X.K X.mg X.base x k ps ks gV sp) (hr : Room k X.A) (hg : Gl X x) (hkw : PK X kws tk)
    (hall : (backToKw pos (keywordEach kws X.env)).all (·.1.isSome) = true := by rfl) (hks : (backToKw pos (keywordEach kws X.env)).filterMap (·.1) = ks := by rfl)
    (hdb : (x == ("__debug__" : Str)) = false := by decide)
    (hpl : ((backTo pos (starEach [] X.env)).any (·.1) || (backToKw pos (keywordEach kws X.env)).any (·.1.isNone)) = false := by rfl) :
    PE X (.Call (.Name x p) [] kws pos) (tCallK sp gV E0 tNil tk) := by
  refine ⟨fun pins s σ H Q I h => ?_⟩
  obtain ⟨f, fd, g, F, hk, hb, hm⟩ := C.ex
  refine wpAny_Call_Name_kw (ld_glob I hg hm ?_ hdb)
  refine PySem.W.callWith_KW0 (h₀ := X.base) I.ok.mod.kin hk hall (thn (hkw.run pos pins s σ H _ I h) fun ws s2 ⟨zs, H2, I2, rz, q2⟩ => ⟨I2.kIn, ?_⟩) hpl
  rw [hks]
  exact run_fnk (us := []) F hr hb pass0 I2 .nil rz q2
end
/-- a list's item, by values -/
theorem get_list {X : Cx} : PGet X (rIxL X.K) := by
  intro pins s σ H o i ov iv Q I ro ri h
  obtain ⟨p, xs, j, z, rfl, rfl, hq, he, q⟩ := h
  cases ro
  obtain ⟨t, rfl⟩ := ri
  obtain ⟨its, r, pl, hz⟩ := I.list hq
  obtain ⟨m, h1, h2, h3, h4, h5⟩ := atI_get he
  obtain ⟨w, ew, rw'⟩ := r.get h2
  have hl := r.length
  have hn := line63
  have fin : EP X pins σ Q w s := ⟨z, H, I, rw', q⟩
  by_cases h0 : 0 ≤ j
  · have hj : j.toNat = m := by
      rw [seqIndex_of h0 h5] at h1
      exact Option.some.inj h1
    exact wpAny_getItem_list pl.isList h0 (by omega) (by rw [hj]; simpa using ew) fin
  · have hj : (j + (its.toArray.size : Int)).toNat = m := by
      rw [seqIndex_neg (by omega) h4] at h1
      rw [List.size_toArray, ← hl]
      exact Option.some.inj h1
    exact wpAny_getItem_list_neg pl.isList (by omega) (by rw [List.size_toArray] <;> omega) (by omega) (by rw [hj]; simpa using ew) fin
end AW
/-! heaps that go on, the law's state, readings of one def at a time -/
namespace AW
open PySem PySem.Spec PyProof.Rows L2

/-- what goes on: all but the objects of S; tuples and locked things always -/
structure Adv (S : List Addr) (H H' : Hp) : Prop where
  keep : ∀ a o, a ∉ S → H a = some o → H' a = some o
  tup : ∀ a xs, H a = some (.tup xs) → H' a = some (.tup xs)
theorem Adv.refl (S : List Addr) (H : Hp) : Adv S H H := ⟨fun _ _ _ h => h, fun _ _ h => h⟩
theorem Adv.trans {S : List Addr} {H H1 H2 : Hp} (a : Adv S H H1) (b : Adv S H1 H2) : Adv S H H2 := ⟨fun c o n h => b.keep c o n (a.keep c o n h), fun c xs h => b.tup c xs (a.tup c xs h)⟩
theorem Adv.mono {S S' : List Addr} {H H' : Hp} (a : Adv S H H') (h : ∀ b ∈ S, b ∈ S') : Adv S' H H' := ⟨fun c o n q => a.keep c o (fun m => n (h c m)) q, a.tup⟩
theorem Adv.any {S : List Addr} {H H' : Hp} (a : Adv [] H H') : Adv S H H' := a.mono fun _ h => nomatch h
theorem Adv.new {H : Hp} {p : Addr} {o : HO} (h : H p = none) : Adv [] H (upd H p o) :=
  ⟨fun a u _ e => by rw [upd_ne (ne_of_none e h)]; exact e, fun a xs e => by rw [upd_ne (ne_of_none e h)]; exact e⟩
/-- an object that is no tuple is changed -/
theorem Adv.set {H : Hp} {f : Addr} {o u : HO} (e : H f = some u) (nt : ∀ xs, u ≠ .tup xs) : Adv [f] H (upd H f o) :=
  ⟨fun a v n q => by rw [upd_ne (fun z => n (by rw [z]; exact List.mem_singleton.mpr rfl))]; exact q, fun a xs q => by rw [upd_ne (ne_of q e (nt xs).symm)]; exact q⟩
theorem Adv.lst {H : Hp} {f : Addr} {o : HO} {ys : List V} (e : H f = some (.lst ys)) : Adv [f] H (upd H f o) := Adv.set e (fun _ z => by cases z)
theorem Adv.dct {H : Hp} {f : Addr} {o : HO} {ys : List (Key × V)} (e : H f = some (.dK ys)) : Adv [f] H (upd H f o) := Adv.set e (fun _ z => by cases z)
/-- what H does not know yet need not be named -/
theorem Adv.drop {S : List Addr} {f : Addr} {H H' : Hp} (a : Adv (f :: S) H H') (h : H f = none) : Adv S H H' :=
  ⟨fun b o n e => a.keep b o (fun m => by
    rcases List.mem_cons.mp m with z | z
    · rw [z] at e; rw [h] at e; cases e
    · exact n z) e, a.tup⟩
/-- f is new, the rest goes on, f is changed -/
theorem Adv.mut {S : List Addr} {f : Addr} {H H' : Hp} {o u : HO} (a : Adv S H H') (h : H f = none) (e : H' f = some u) (nt : ∀ xs, u ≠ .tup xs) : Adv S H (upd H' f o) :=
  ⟨fun b v n q => by rw [upd_ne (ne_of_none q h)]; exact a.keep b v n q, fun b xs q => by rw [upd_ne (ne_of_none q h)]; exact a.tup b xs q⟩
theorem Adv.free {S : List Addr} {H H' : Hp} {p : Addr} (a : Adv S H H') (hS : p ∉ S) (h : H' p = none) : H p = none := by
  cases q : H p with
  | none => rfl
  | some o =>
    rw [a.keep p o hS q] at h
    cases h
section
variable {K : PySem.W.Frag} {S : List Addr} {H H' : Hp} {a : Addr} {xs : List V}
theorem Adv.sqt (e : Adv S H H') (hf : ∀ o u, H a = some (.frz o u) → a ∉ S) (h : SqT K H a xs) : SqT K H' a xs := by
  rcases h with (h | ⟨o, h⟩) | h
  · exact .inl (.inl (e.tup _ _ h))
  · exact .inl (.inr ⟨o, e.keep _ _ (hf _ _ h) h⟩)
  · exact .inr h
theorem Adv.sql (e : Adv S H H') (hn : a ∉ S) (h : SqL K H a xs) : SqL K H' a xs := by
  rcases h with (h | ⟨o, h⟩) | h
  · exact .inl (.inl (e.keep _ _ hn h))
  · exact .inl (.inr ⟨o, e.keep _ _ hn h⟩)
  · exact .inr h
end
theorem w_new {H : Hp} {o : HO} {Q : V → Hp → Prop} (h : ∀ p H', H p = none → Adv [] H H' → H' p = some o → Q (.ref p) H') : ∀ p, H p = none → Q (.ref p) (upd H p o) := fun p hp => h p _ hp (Adv.new hp) upd_same

/-! ### the law's state at st: six places, the fifth the cells at cs -/
def StOk (st cs : Addr) (H : Hp) : Prop := ∃ (s0 s1 s2 s3 s5 : Int) (ns : List Int),
  H st = some (.lst [.int s0, .int s1, .int s2, .int s3, .ref cs, .int s5]) ∧ 0 ≤ s1 ∧ cs ≠ st ∧ H cs = some (.lst (ns.map V.int)) ∧ ns.length ≤ 63
/-- a new object is neither -/
theorem StOk.ne {st cs p : Addr} {H : Hp} (h : StOk st cs H) (hp : H p = none) : p ≠ st ∧ p ≠ cs := by
  obtain ⟨_, _, _, _, _, _, h1, _, _, h2, _⟩ := h
  exact ⟨(ne_of_none h1 hp).symm, (ne_of_none h2 hp).symm⟩
theorem StOk.keep {st cs : Addr} {H H' : Hp} {S : List Addr} (h : StOk st cs H) (e : Adv S H H') (h1 : st ∉ S) (h2 : cs ∉ S) : StOk st cs H' := by
  obtain ⟨s0, s1, s2, s3, s5, ns, a, b, c, d, l⟩ := h
  exact ⟨s0, s1, s2, s3, s5, ns, e.keep _ _ h1 a, b, c, e.keep _ _ h2 d, l⟩
/-- the run goes on: the state alone is changed -/
structure Go (st cs : Addr) (H H' : Hp) : Prop where
  adv : Adv [st] H H'
  ok : StOk st cs H'
theorem Go.refl {st cs : Addr} {H : Hp} (h : StOk st cs H) : Go st cs H H := ⟨.refl _ _, h⟩
theorem Go.trans {st cs : Addr} {H H1 H2 : Hp} (a : Go st cs H H1) (b : Go st cs H1 H2) : Go st cs H H2 := ⟨a.adv.trans b.adv, b.ok⟩
theorem Go.of {st cs : Addr} {H H' : Hp} (h : StOk st cs H) (e : Adv [] H H') : Go st cs H H' := ⟨e.any, h.keep e (fun z => nomatch z) fun z => nomatch z⟩
theorem Go.new {st cs : Addr} {H H' : Hp} (a : Go st cs H H') {H2 : Hp} (e : Adv [] H' H2) : Go st cs H H2 := a.trans (.of a.ok e)
theorem Go.mut {st cs f : Addr} {H H' : Hp} {o u : HO} (a : Go st cs H H') (h : H f = none) (e : H' f = some u) (nt : ∀ xs, u ≠ .tup xs) (n1 : f ≠ st) (n2 : f ≠ cs) : Go st cs H (upd H' f o) :=
  ⟨a.adv.mut h e nt, a.ok.keep (Adv.set e nt) (fun z => n1 (List.mem_singleton.mp z).symm) fun z => n2 (List.mem_singleton.mp z).symm⟩
theorem Go.mutL {st cs f : Addr} {H H' : Hp} {o : HO} {xs : List V} (a : Go st cs H H') (hs : StOk st cs H) (h : H f = none) (e : H' f = some (.lst xs)) : Go st cs H (upd H' f o) :=
  a.mut h e (fun _ z => by cases z) (hs.ne h).1 (hs.ne h).2
theorem Go.mutD {st cs f : Addr} {H H' : Hp} {o : HO} {xs : List (Key × V)} (a : Go st cs H H') (hs : StOk st cs H) (h : H f = none) (e : H' f = some (.dK xs)) : Go st cs H (upd H' f o) :=
  a.mut h e (fun _ z => by cases z) (hs.ne h).1 (hs.ne h).2
theorem Go.keep {st cs a : Addr} {H H' : Hp} {o : HO} (g : Go st cs H H') (n : a ≠ st) (h : H a = some o) : H' a = some o := g.adv.keep a o (fun z => n (List.mem_singleton.mp z)) h
theorem Go.sql {st cs a : Addr} {K : PySem.W.Frag} {H H' : Hp} {xs : List V} (g : Go st cs H H') (n : a ≠ st) (h : SqL K H a xs) : SqL K H' a xs := g.adv.sql (fun z => n (List.mem_singleton.mp z)) h
theorem Go.free {st cs p : Addr} {H H' : Hp} (g : Go st cs H H') (hs : StOk st cs H) (h : H' p = none) : H p = none := g.adv.free (fun z => (g.ok.ne h).1 (List.mem_singleton.mp z)) h
/-- what stands at st is a list: a tuple stands elsewhere -/
theorem StOk.notT {st cs a : Addr} {H : Hp} {xs : List V} (h : StOk st cs H) (e : H a = some (.tup xs)) : a ≠ st := by
  obtain ⟨_, _, _, _, _, _, h1, _⟩ := h
  exact ne_of e h1 (fun z => by cases z)
end AW
/-! one step of a reading at a time -/
namespace AW
open PySem PySem.Spec PyProof.Rows L2
section
variable {σ : L2.St} {H : Hp} {Q : VK} {ta tb te : TE} {t u : TT} {D : Ends} {t1 t2 : TS} {K : PySem.W.Frag}
theorem w_var {i : Nat} {v : V} (h : σ[i]? = some (some v)) (q : Q v H) : tVar i σ H Q := ⟨v, h, q⟩
theorem w_c {v : V} (q : Q v H) : tC v σ H Q := q
theorem w_op {r : R2} (h : ta σ H fun x H1 => tb σ H1 fun y H2 => r x y H2 Q) : tOp r ta tb σ H Q := h
theorem w_un {r : V → Hp → VK → Prop} (h : ta σ H fun x H1 => r x H1 Q) : tUn r ta σ H Q := h
theorem w_I0 {g : Int → Int → V} {i j : Int} (q : Q (g i j) H) : rI0 g (.int i) (.int j) H Q := ⟨i, j, rfl, rfl, q⟩
theorem w_I {C : Int → Int → Prop} {g : Int → Int → V} {i j : Int} (c : C i j) (q : Q (g i j) H) : rI C g (.int i) (.int j) H Q := ⟨i, j, rfl, rfl, c, q⟩
theorem w_U {g : Int → V} {i : Int} (q : Q (g i) H) : rU g (.int i) H Q := ⟨i, rfl, q⟩
theorem w_cb {r : List V → Hp → VK → Prop} {a : TA} (h : a σ H fun vs H1 => r vs H1 Q) : tCB r a σ H Q := h
theorem w_nil {Q : List V → Hp → Prop} (q : Q [] H) : tNil σ H Q := q
theorem w_cons {Q : List V → Hp → Prop} {a : TA} (h : ta σ H fun x H1 => a σ H1 fun xs H2 => Q (x :: xs) H2) : tCons ta a σ H Q := h
theorem w_call {sp : Sp} {E : XK} {a : TA} (h : a σ H fun vs H1 => sp vs H1 Q E) : tCall sp [] E a σ H Q := by
  show a σ H fun vs H1 => sp (vs ++ []) H1 Q E
  have e : (fun (vs : List V) (H1 : Hp) => sp (vs ++ []) H1 Q E) = fun vs H1 => sp vs H1 Q E := by
    funext vs H1
    rw [List.append_nil]
  rw [e]
  exact h
theorem w_test {Q : Bool → Hp → Prop} (h : te σ H fun x H1 => ∃ k, x = .bl k ∧ Q k H1) : tTest te σ H Q := h
theorem w_B {Q : Bool → Hp → Prop} (h : te σ H fun x H1 => ∃ k, x = .bl k ∧ Q k H1) : tB te σ H Q := h
theorem w_bl {k : Bool} {P : Bool → Prop} (q : P k) : ∃ k', V.bl k = .bl k' ∧ P k' := ⟨k, rfl, q⟩
theorem w_yes {Q : Bool → Hp → Prop} (q : Q true H) : tYes σ H Q := q
theorem w_not {Q : Bool → Hp → Prop} (h : t σ H fun c H1 => Q (!c) H1) : tNot t σ H Q := h
theorem w_and {Q : Bool → Hp → Prop} (h : t σ H fun c H1 => if c = true then u σ H1 Q else Q false H1) : tAnd t u σ H Q := h
theorem w_or {Q : Bool → Hp → Prop} (h : t σ H fun c H1 => if c = true then Q true H1 else u σ H1 Q) : tOr t u σ H Q := h
theorem w_andV (h : ta σ H fun x H1 => ∃ c, x = .bl c ∧ if c = true then tb σ H1 Q else Q (.bl false) H1) : tAndV ta tb σ H Q := h
theorem w_orV (h : ta σ H fun x H1 => ∃ c, x = .bl c ∧ if c = true then Q (.bl true) H1 else tb σ H1 Q) : tOrV ta tb σ H Q := h
theorem w_notV (h : ta σ H fun x H1 => ∃ c, x = .bl c ∧ Q (.bl (!c)) H1) : tNotV ta σ H Q := h
theorem w_if (h : t σ H fun c H1 => if c = true then ta σ H1 Q else tb σ H1 Q) : tIf t ta tb σ H Q := h
def kTupD (xs : List V) (H : Hp) (Q : VK) : Prop := xs.length ≤ sizeLine ∧ ∀ p, H p = none → Q (.ref p) (upd H p (.tup xs))
theorem w_tup {a : TA} (h : a σ H fun xs H1 => kTupD xs H1 Q) : tTup a σ H Q := h
def kLstD (xs : List V) (H : Hp) (Q : VK) : Prop := xs.length ≤ sizeLine ∧ ∀ p, H p = none → Q (.ref p) (upd H p (.lst xs))
theorem w_lst {a : TA} (h : a σ H fun xs H1 => kLstD xs H1 Q) : tLst a σ H Q := h
theorem w_int1 {i : Int} (q : Q (.int i) H) : rInt1 [.int i] H Q := .inl ⟨i, rfl, q⟩
theorem w_int1b {k : Bool} (q : Q (.int (if k then 1 else 0)) H) : rInt1 [.bl k] H Q := .inr ⟨k, rfl, q⟩
theorem w_abs {i : Int} (q : Q (.int (if i < 0 then -i else i)) H) : rAbs [.int i] H Q := ⟨i, rfl, q⟩
theorem w_max2 {i j : Int} (q : Q (.int (if j > i then j else i)) H) : rMax2 [.int i, .int j] H Q := ⟨i, j, rfl, q⟩
theorem w_min2 {i j : Int} (q : Q (.int (if j < i then j else i)) H) : rMin2 [.int i, .int j] H Q := ⟨i, j, rfl, q⟩
theorem w_eq {x y : V} (h : scal x y = true) (q : Q (.bl (decide (x = y))) H) : rEq x y H Q := ⟨h, q⟩
theorem w_ne {x y : V} (h : scal x y = true) (q : Q (.bl (!decide (x = y))) H) : rNe x y H Q := ⟨h, q⟩
theorem w_isN {x : V} (q : Q (.bl (decide (x = .non))) H) : rIsN x .non H Q := ⟨rfl, q⟩
theorem w_isB {a b : Bool} (q : Q (.bl (decide (a = b))) H) : rIsB (.bl a) (.bl b) H Q := ⟨a, b, rfl, rfl, q⟩
theorem w_chain {r r' : R2} {tc : TE} (h : ta σ H fun x H1 => tb σ H1 fun y H2 => r x y H2 fun z H3 => ∃ k, z = .bl k ∧ (if k = true then tc σ H3 fun w' H4 => r' y w' H4 Q else Q (.bl false) H3)) : tChain r r' ta tb tc σ H Q := h
/-- a list's item at a place -/
theorem w_ixL {p : Addr} {xs : List V} {i : Int} {v : V} (h : SqL K H p xs) (e : atI xs i = some v) (q : Q v H) : rIxL K (.ref p) (.int i) H Q := ⟨p, xs, i, v, rfl, rfl, h, e, q⟩
theorem w_ixT {p : Addr} {xs : List V} {i : Int} {v : V} (h : SqT K H p xs) (e : atI xs i = some v) (q : Q v H) : rIxT K (.ref p) (.int i) H Q := ⟨p, xs, i, v, rfl, rfl, h, e, q⟩
theorem w_lenL {p : Addr} {xs : List V} (h : SqL K H p xs) (q : Q (.int (xs.length : Nat)) H) : rLen1 K [.ref p] H Q := ⟨.ref p, xs.length, rfl, .inl ⟨xs, h, rfl⟩, q⟩
theorem w_lenT {p : Addr} {xs : List V} (h : SqT K H p xs) (q : Q (.int (xs.length : Nat)) H) : rLen1 K [.ref p] H Q := ⟨.ref p, xs.length, rfl, .inr ⟨xs, h, rfl⟩, q⟩
/-! statements -/
theorem w_seq (h : t1 { D with nx := t2 D } σ H) : tSeq t1 t2 D σ H := h
theorem w_next (q : D.nx σ H) : tNext D σ H := q
theorem w_ret (h : te σ H D.rt) : tRet te D σ H := h
theorem w_drop (h : te σ H fun _ H1 => D.nx σ H1) : tDrop te D σ H := h
theorem w_asg {g : TG} (h : te σ H fun x H1 => g x σ H1 D.nx) : tAsg te g D σ H := h
theorem w_gname {i : Nat} {v : V} {Q : L2.St → Hp → Prop} (q : Q (σ.set i (some v)) H) : gName i v σ H Q := q
theorem w_ifS (h : t σ H fun b H1 => if b = true then t1 D σ H1 else t2 D σ H1) : tIfS t t1 t2 D σ H := h
theorem w_gsub {s : TSet} {v : V} {Q : L2.St → Hp → Prop} (h : ta σ H fun o H1 => tb σ H1 fun i H2 => s o i v H2 fun H3 => Q σ H3) : gSub ta tb s v σ H Q := h
theorem w_setL {p : Addr} {xs : List V} {k : Int} {j : Nat} {v : V} {Q : Hp → Prop} (h : H p = some (.lst xs)) (e : ixN xs.length k = some j) (q : Q (upd H p (.lst (xs.set j v)))) : rSetL (.ref p) (.int k) v H Q := ⟨p, xs, k, j, rfl, rfl, h, e, q⟩
theorem w_augS {to ti : TE} {tget : V → V → Hp → VK → Prop} {tip : TIp} {tset : TSet} (h : to σ H fun o H1 => ti σ H1 fun i H2 => tget o i H2 fun x H3 => te σ H3 fun y H4 => tip x y H4 fun z H5 => tset o i z H5 fun H6 => D.nx σ H6) : tAugS to ti te tget tip tset D σ H := h
theorem w_ipI {f : Int → Int → Int} {i j : Int} (q : Q (.int (f i j)) H) : ipI f (.int i) (.int j) H Q := ⟨i, j, rfl, rfl, q⟩
theorem w_ite {c A B : Prop} [Decidable c] (h1 : c → A) (h2 : ¬c → B) : if c then A else B := ite2 h1 h2
theorem w_iteB {c : Prop} [Decidable c] {A B : Prop} (h1 : c → A) (h2 : ¬c → B) : if (decide c) = true then A else B := ite2 (fun h => h1 (of_decide_eq_true h)) fun h => h2 fun z => h (decide_eq_true z)
theorem w_iteNB {c : Prop} [Decidable c] {A B : Prop} (h1 : ¬c → A) (h2 : c → B) : if (!decide c) = true then A else B := ite2 (fun h => h1 fun z => by rw [decide_eq_true z] at h; cases h) fun h => h2 (Classical.byContradiction fun z => h (by rw [decide_eq_false z]; rfl))
/-! slices, lists joined, append -/
theorem w_sl {r : V → Option Int → Option Int → Hp → VK → Prop} {tl th : TO} (h : te σ H fun x H1 => tl σ H1 fun l H2 => th σ H2 fun u H3 => r x l u H3 Q) : tSl r te tl th σ H Q := h
theorem w_part {Q : Option Int → Hp → Prop} (h : te σ H fun x H1 => ∃ i, x = .int i ∧ Q (some i) H1) : tPart te σ H Q := h
theorem w_noPart {Q : Option Int → Hp → Prop} (q : Q none H) : tNoPart σ H Q := q
theorem w_in {i : Int} {P : Int → Prop} (q : P i) : ∃ k, V.int i = .int k ∧ P k := ⟨i, rfl, q⟩
theorem w_slL {p : Addr} {xs : List V} {lo hi : Option Int} (h : SqL K H p xs) (q : ∀ r H', H r = none → Adv [] H H' → H' r = some (.lst (cutV xs lo hi)) → Q (.ref r) H') : rSlL K (.ref p) lo hi H Q := ⟨p, xs, rfl, h, w_new q⟩
theorem w_cat {a b : Addr} {xs ys : List V} (h1 : H a = some (.lst xs)) (h2 : H b = some (.lst ys)) (hz : xs.length + ys.length ≤ 100000) (q : ∀ r H', H r = none → Adv [] H H' → H' r = some (.lst (xs ++ ys)) → Q (.ref r) H') : rCat (.ref a) (.ref b) H Q :=
  ⟨a, b, xs, ys, rfl, rfl, h1, h2, Nat.le_trans hz (by decide), w_new q⟩
theorem w_listOf {p : Addr} {xs : List V} (h : SqL K H p xs ∨ SqT K H p xs) (q : ∀ r H', H r = none → Adv [] H H' → H' r = some (.lst xs) → Q (.ref r) H') : rListOf K [.ref p] H Q := ⟨p, xs, rfl, h, w_new q⟩
theorem w_app {i : Nat} {l : Addr} {xs0 : List V} {a : TA} (hσ : σ[i]? = some (some (.ref l))) (h0 : H l = some (.lst xs0)) (h : a σ H fun vs H2 => rAppend (.ref l) vs H2 Q) : tBM K "list" rAppend (tVar i) a σ H Q :=
  ⟨.ref l, hσ, .inl ⟨rfl, xs0, SqL.of h0⟩, h⟩
theorem w_append {l : Addr} {xs : List V} {y : V} (h : H l = some (.lst xs)) (hz : xs.length < 100000) (q : Q .non (upd H l (.lst (xs ++ [y])))) : rAppend (.ref l) [y] H Q :=
  ⟨l, xs, y, rfl, rfl, h, Nat.lt_of_lt_of_le hz (by decide), q⟩
theorem w_lstD {xs : List V} (hz : xs.length ≤ 100000) (q : ∀ r H', H r = none → Adv [] H H' → H' r = some (.lst xs) → Q (.ref r) H') : kLstD xs H Q := ⟨Nat.le_trans hz (by decide), w_new q⟩
theorem w_tupD {xs : List V} (hz : xs.length ≤ 100000) (q : ∀ r H', H r = none → Adv [] H H' → H' r = some (.tup xs) → Q (.ref r) H') : kTupD xs H Q := ⟨Nat.le_trans hz (by decide), w_new q⟩
/-! loops -/
def kFor (J : It) (g : TG) (tb : TS) (D : Ends) (σ : L2.St) (H1 : Hp) : Prop := ∃ W : Nat → Nat → L2.St → Hp → Prop, (∃ m, W 0 m σ H1) ∧ ∀ i m σ H, W i m σ H →
  (J.stop i H ∧ D.nx σ H) ∨ (J.go i H ∧ ∃ N : L2.St → Hp → Prop, (∀ σ' H', N σ' H' → ∃ m', m' < m ∧ W (i + 1) m' σ' H') ∧ ∀ v H', J.yld i H v H' → g v σ H' fun σ2 H2 => tb { D with nx := N, ct := N, bk := D.nx } σ2 H2)
def kForR (g : TG) (tb : TS) (D : Ends) (σ : L2.St) (vs : List V) (H1 : Hp) : Prop := ∃ j : Int, vs = [.int j] ∧ -(2 ^ 62) ≤ j ∧ j < 2 ^ 62 ∧ kFor (Itr 0 j.toNat) g tb D σ H1
theorem w_forR {a : TA} {g : TG} {tb : TS} (h : a σ H (kForR g tb D σ)) : tFor (iRng1 a) g tb D σ H := h
theorem kForR_i {n : Nat} {j : Nat} {tb : TS} (hn : n ≤ 1000000) (Pv : Nat → L2.St → Hp → Prop) (h0 : Pv 0 σ H) (hs : ∀ i σ' H', i < n → Pv i σ' H' → tb { D with nx := Pv (i + 1), ct := Pv (i + 1), bk := D.nx } (σ'.set j (some (.int (i : Nat)))) H')
    (hd : ∀ σ' H', Pv n σ' H' → D.nx σ' H') : kForR (gName j) tb D σ [.int (n : Nat)] H := by
  refine ⟨n, rfl, by omega, by omega, ?_⟩
  have e : ((n : Nat) : Int).toNat = n := by omega
  rw [e]
  refine for_range (lo := 0) (n := n) Pv h0 (fun i σ' H' hi p => ?_) hd
  show tb { D with nx := Pv (i + 1), ct := Pv (i + 1), bk := D.nx } (σ'.set j (some (.int ((0 : Int) + (i : Nat))))) H'
  rw [Int.zero_add]
  exact hs i σ' H' hi p
def kForR2 (g : TG) (tb : TS) (D : Ends) (σ : L2.St) (vs : List V) (H1 : Hp) : Prop := ∃ i j : Int, vs = [.int i, .int j] ∧ (-(2 ^ 62) ≤ i ∧ i < 2 ^ 62 ∧ -(2 ^ 62) ≤ j ∧ j < 2 ^ 62) ∧ kFor (Itr i (j - i).toNat) g tb D σ H1
theorem w_forR2 {a : TA} {g : TG} {tb : TS} (h : a σ H (kForR2 g tb D σ)) : tFor (iRng2 a) g tb D σ H := h
theorem kForR2_i {lo hi : Int} {j : Nat} {tb : TS} (h1 : -1000000 ≤ lo ∧ lo ≤ 1000000) (h2 : -1000000 ≤ hi ∧ hi ≤ 1000000) (Pv : Nat → L2.St → Hp → Prop) (h0 : Pv 0 σ H)
    (hs : ∀ i σ' H', i < (hi - lo).toNat → Pv i σ' H' → tb { D with nx := Pv (i + 1), ct := Pv (i + 1), bk := D.nx } (σ'.set j (some (.int (lo + (i : Nat))))) H') (hd : ∀ σ' H', Pv (hi - lo).toNat σ' H' → D.nx σ' H') : kForR2 (gName j) tb D σ [.int lo, .int hi] H :=
  ⟨lo, hi, rfl, ⟨by omega, by omega, by omega, by omega⟩, for_range (lo := lo) (n := (hi - lo).toNat) Pv h0 (fun i σ' H' hi p => hs i σ' H' hi p) hd⟩
def kForL (K : PySem.W.Frag) (g : TG) (tb : TS) (D : Ends) (σ : L2.St) (x : V) (H1 : Hp) : Prop := ∃ a, x = .ref a ∧ (∃ xs, SqL K H1 a xs) ∧ kFor (Itl K a) g tb D σ H1
theorem w_forL {tl : TE} {g : TG} {tb : TS} (h : tl σ H (kForL K g tb D σ)) : tFor (iList K tl) g tb D σ H := h
theorem kForL_i {p : Addr} {xs : List V} {g : TG} {tb : TS} (Pv : Nat → L2.St → Hp → Prop) (hp : SqL K H p xs) (h0 : Pv 0 σ H) (hl : ∀ i σ' H', i ≤ xs.length → Pv i σ' H' → SqL K H' p xs)
    (hs : ∀ i v σ' H', xs[i]? = some v → Pv i σ' H' → g v σ' H' fun σ2 H2 => tb { D with nx := Pv (i + 1), ct := Pv (i + 1), bk := D.nx } σ2 H2) (hd : ∀ σ' H', Pv xs.length σ' H' → D.nx σ' H') : kForL K g tb D σ (.ref p) H :=
  ⟨p, rfl, ⟨xs, hp⟩, for_list Pv h0 hl hs hd⟩
def kForT (K : PySem.W.Frag) (g : TG) (tb : TS) (D : Ends) (σ : L2.St) (x : V) (H1 : Hp) : Prop := ∃ a, x = .ref a ∧ (∃ xs, SqT K H1 a xs) ∧ kFor (Itt K a) g tb D σ H1
theorem w_forT {tl : TE} {g : TG} {tb : TS} (h : tl σ H (kForT K g tb D σ)) : tFor (iTup K tl) g tb D σ H := h
theorem kForT_i {p : Addr} {xs : List V} {g : TG} {tb : TS} (Pv : Nat → L2.St → Hp → Prop) (hp : SqT K H p xs) (h0 : Pv 0 σ H) (hl : ∀ i σ' H', i ≤ xs.length → Pv i σ' H' → SqT K H' p xs)
    (hs : ∀ i v σ' H', xs[i]? = some v → Pv i σ' H' → g v σ' H' fun σ2 H2 => tb { D with nx := Pv (i + 1), ct := Pv (i + 1), bk := D.nx } σ2 H2) (hd : ∀ σ' H', Pv xs.length σ' H' → D.nx σ' H') : kForT K g tb D σ (.ref p) H :=
  ⟨p, rfl, ⟨xs, hp⟩, for_tup Pv h0 hl hs hd⟩
/-! comprehensions -/
def kLc (J : It) (g : TG) (tt : TT) (te : TE) (vs : List Nat) (σ : L2.St) (Q : VK) (H1 : Hp) : Prop := ∀ D, H1 D = none → ∃ W : Nat → Nat → Hp → Prop, (∃ m, W 0 m (upd H1 D (.lst []))) ∧ ∀ i m H, W i m H →
  (J.stop i H ∧ Q (.ref D) H) ∨ (J.go i H ∧ ∃ Nx : Hp → Prop, (∀ H', Nx H' → ∃ m', m' < m ∧ W (i + 1) m' H') ∧ ∀ x H', J.yld i H x H' → g x (wipe σ vs) H' fun σ2 H2 => wipe σ2 vs = wipe σ vs ∧ tt σ2 H2 fun b H3 =>
    if b = true then te σ2 H3 fun y H4 => ∃ acc, H4 D = some (.lst acc) ∧ acc.length < sizeLine ∧ Nx (upd H4 D (.lst (acc ++ [y]))) else Nx H3)
def kLcR (g : TG) (tt : TT) (te : TE) (vs : List Nat) (σ : L2.St) (Q : VK) (ws : List V) (H1 : Hp) : Prop := ∃ j : Int, ws = [.int j] ∧ -(2 ^ 62) ≤ j ∧ j < 2 ^ 62 ∧ kLc (Itr 0 j.toNat) g tt te vs σ Q H1
def kLcL (K : PySem.W.Frag) (g : TG) (tt : TT) (te : TE) (vs : List Nat) (σ : L2.St) (Q : VK) (x : V) (H1 : Hp) : Prop := ∃ a, x = .ref a ∧ (∃ xs, SqL K H1 a xs) ∧ kLc (Itl K a) g tt te vs σ Q H1
def kLcT (K : PySem.W.Frag) (g : TG) (tt : TT) (te : TE) (vs : List Nat) (σ : L2.St) (Q : VK) (x : V) (H1 : Hp) : Prop := ∃ a, x = .ref a ∧ (∃ xs, SqT K H1 a xs) ∧ kLc (Itt K a) g tt te vs σ Q H1
theorem w_lcR {a : TA} {g : TG} {vs : List Nat} (h : a σ H (kLcR g t te vs σ Q)) : tLc (iRng1 a) g t te vs σ H Q := h
theorem w_lcL {tl : TE} {g : TG} {vs : List Nat} (h : tl σ H (kLcL K g t te vs σ Q)) : tLc (iList K tl) g t te vs σ H Q := h
theorem w_lcT {tl : TE} {g : TG} {vs : List Nat} (h : tl σ H (kLcT K g t te vs σ Q)) : tLc (iTup K tl) g t te vs σ H Q := h
/-- a list is made, turn by turn, while the run goes on: R tells of each item that is given, at the places that are taken -/
structure Mk (st cs : Addr) (H0 : Hp) (R : Nat → V → Hp → Prop) (l : Addr) (i : Nat) (H : Hp) : Prop where
  go : Go st cs H0 H
  new : H0 l = none
  ok0 : StOk st cs H0
  at_ : ∃ (ks : List Nat) (ys : List V), H l = some (.lst ys) ∧ ks.length = ys.length ∧ ks.Pairwise (· < ·) ∧ (∀ k ∈ ks, k < i) ∧ ∀ (m : Nat) k v, ks[m]? = some k → ys[m]? = some v → R k v H
end
end AW
/-! data that stand in tuples; lists made by comprehensions while the run goes on -/
namespace AW
open PySem PySem.Spec PyProof.Rows L2

/-- tuples are kept -/
def TK (H H' : Hp) : Prop := ∀ a xs, H a = some (.tup xs) → H' a = some (.tup xs)
theorem TK.refl (H : Hp) : TK H H := fun _ _ h => h
theorem TK.trans {H H1 H2 : Hp} (a : TK H H1) (b : TK H1 H2) : TK H H2 := fun c xs h => b c xs (a c xs h)
theorem Go.tk {st cs : Addr} {H H' : Hp} (g : Go st cs H H') : TK H H' := g.adv.tup
mutual
/-- the value stands for the datum: scalars, and tuples of such -/
inductive Is (H : Hp) : PyData → V → Prop where
  | non : Is H .none .non
  | bl (b : Bool) : Is H (.bool b) (.bl b)
  | int (i : Int) : Is H (.int i) (.int i)
  | str (x : Str) : Is H (.str x) (.str x)
  | tup {a : Addr} {xs : List V} {ds : List PyData} : H a = some (.tup xs) → IsAll H ds xs → Is H (.tuple ds) (.ref a)
inductive IsAll (H : Hp) : List PyData → List V → Prop where
  | nil : IsAll H [] []
  | cons {d : PyData} {ds : List PyData} {v : V} {vs : List V} : Is H d v → IsAll H ds vs → IsAll H (d :: ds) (v :: vs)
end
mutual
theorem Is.up {H H' : Hp} (k : TK H H') : ∀ {d : PyData} {v : V}, Is H d v → Is H' d v
  | _, _, .non => .non
  | _, _, .bl b => .bl b
  | _, _, .int i => .int i
  | _, _, .str x => .str x
  | _, _, .tup e h => .tup (k _ _ e) (IsAll.up k h)
theorem IsAll.up {H H' : Hp} (k : TK H H') : ∀ {ds : List PyData} {vs : List V}, IsAll H ds vs → IsAll H' ds vs
  | _, _, .nil => .nil
  | _, _, .cons h t => .cons (Is.up k h) (IsAll.up k t)
end
mutual
theorem Is.dp {K : PySem.W.Frag} {H : Hp} : ∀ {d : PyData} {v : V}, Is H d v → Dp K H v d
  | _, _, .non => .non
  | _, _, .bl b => .bl b
  | _, _, .int i => .int i
  | _, _, .str x => .str x
  | _, _, .tup e h => .tup (SqT.of e) (IsAll.dp h)
theorem IsAll.dp {K : PySem.W.Frag} {H : Hp} : ∀ {ds : List PyData} {vs : List V}, IsAll H ds vs → DpAll K H vs ds
  | _, _, .nil => .nil
  | _, _, .cons h t => .cons (Is.dp h) (IsAll.dp t)
end
theorem IsAll.length {H : Hp} : ∀ {ds : List PyData} {vs : List V}, IsAll H ds vs → vs.length = ds.length
  | _, _, .nil => rfl
  | _, _, .cons _ t => congrArg (· + 1) t.length
theorem IsAll.get {H : Hp} : ∀ {ds : List PyData} {vs : List V} {i : Nat} {v : V}, IsAll H ds vs → vs[i]? = some v → ∃ d, ds[i]? = some d ∧ Is H d v
  | _, _, _, _, .nil, e => by simp at e
  | _, _, 0, _, .cons h _, e => by
    simp at e
    subst e
    exact ⟨_, rfl, h⟩
  | _, _, i + 1, v, .cons _ t, e => by
    obtain ⟨d, h1, h2⟩ := IsAll.get (i := i) (v := v) t (by simpa using e)
    exact ⟨d, by simpa using h1, h2⟩
theorem IsAll.get' {H : Hp} : ∀ {ds : List PyData} {vs : List V} {i : Nat} {d : PyData}, IsAll H ds vs → ds[i]? = some d → ∃ v, vs[i]? = some v ∧ Is H d v
  | _, _, _, _, .nil, e => by simp at e
  | _, _, 0, _, .cons h _, e => by
    simp at e
    subst e
    exact ⟨_, rfl, h⟩
  | _, _, i + 1, d, .cons _ t, e => by
    obtain ⟨v, h1, h2⟩ := IsAll.get' (i := i) (d := d) t (by simpa using e)
    exact ⟨v, by simpa using h1, h2⟩
theorem IsAll.of {H : Hp} : ∀ (ds : List PyData) (vs : List V), vs.length = ds.length → (∀ (i : Nat) d v, ds[i]? = some d → vs[i]? = some v → Is H d v) → IsAll H ds vs
  | [], [], _, _ => .nil
  | d :: ds, v :: vs, hl, h => .cons (h 0 d v rfl rfl) (IsAll.of ds vs (Nat.succ.inj hl) fun i d' v' h1 h2 => h (i + 1) d' v' (by simpa using h1) (by simpa using h2))
  | [], _ :: _, hl, _ => by simp at hl
  | _ :: _, [], hl, _ => by simp at hl
theorem IsAll.append {H : Hp} : ∀ {ds es : List PyData} {vs ws : List V}, IsAll H ds vs → IsAll H es ws → IsAll H (ds ++ es) (vs ++ ws)
  | _, _, _, _, .nil, h => h
  | _, _, _, _, .cons a t, h => .cons a (IsAll.append t h)
theorem IsAll.ints {H : Hp} : ∀ (ns : List Int), IsAll H (ns.map .int) (ns.map V.int)
  | [] => .nil
  | n :: ns => .cons (.int n) (IsAll.ints ns)
theorem IsAll.strs {H : Hp} : ∀ (ns : List Str), IsAll H (ns.map .str) (ns.map V.str)
  | [] => .nil
  | n :: ns => .cons (.str n) (IsAll.strs ns)
theorem IsAll.ints_inv {H : Hp} : ∀ {ns : List Int} {vs : List V}, IsAll H (ns.map .int) vs → vs = ns.map V.int
  | [], _, .nil => rfl
  | n :: ns, _, .cons h t => by
    cases h
    rw [IsAll.ints_inv t]
    rfl
theorem IsAll.strs_inv {H : Hp} : ∀ {ns : List Str} {vs : List V}, IsAll H (ns.map .str) vs → vs = ns.map V.str
  | [], _, .nil => rfl
  | n :: ns, _, .cons h t => by
    cases h
    rw [IsAll.strs_inv t]
    rfl
theorem Is.int_inv {H : Hp} {n : Int} {v : V} (h : Is H (.int n) v) : v = .int n := by
  cases h
  rfl
theorem Is.str_inv {H : Hp} {n : Str} {v : V} (h : Is H (.str n) v) : v = .str n := by
  cases h
  rfl
theorem Is.tup_inv {H : Hp} {ds : List PyData} {v : V} (h : Is H (.tuple ds) v) : ∃ a xs, v = .ref a ∧ H a = some (.tup xs) ∧ IsAll H ds xs := by
  cases h with
  | tup e t => exact ⟨_, _, rfl, e, t⟩
theorem IsAll.perm {H : Hp} {ds : List PyData} {vs ws : List V} (h : IsAll H ds vs) (p : ws.Perm vs) : ∃ es, es.Perm ds ∧ IsAll H es ws := by
  induction p generalizing ds with
  | nil => cases h; exact ⟨[], .refl _, .nil⟩
  | cons x p ih =>
    cases h with
    | cons a t =>
      obtain ⟨es, h1, h2⟩ := ih t
      exact ⟨_ :: es, h1.cons _, .cons a h2⟩
  | swap x y l =>
    cases h with
    | cons a t =>
      cases t with
      | cons b t => exact ⟨_, List.Perm.swap .., .cons b (.cons a t)⟩
  | trans p q ih1 ih2 =>
    obtain ⟨es, h1, h2⟩ := ih2 h
    obtain ⟨fs, h3, h4⟩ := ih1 h2
    exact ⟨fs, h3.trans h1, h4⟩

section
variable {K : PySem.W.Frag} {st cs : Addr} {J : It} {n : Nat} {G : Hp → Prop} {Y : Nat → Hp → V → Hp → Prop} {g : TG} {tt : TT} {te : TE} {vs : List Nat} {σ : L2.St} {Q : VK} {H1 : Hp}
/-- a comprehension without a test -/
theorem kLc_all (wk : Walk J n G Y) (hn : n ≤ 100000) (ok : StOk st cs H1) (hG : ∀ H', Go st cs H1 H' → G H') (R : Nat → V → Hp → Prop) (mono : ∀ i v H H', TK H H' → R i v H → R i v H')
    (step : ∀ i x H H' (Kt : V → Hp → Prop), i < n → Go st cs H1 H → Y i H x H' → (∀ y H4, Go st cs H H4 → R i y H4 → Kt y H4) → g x (wipe σ vs) H' fun σ2 H2 => wipe σ2 vs = wipe σ vs ∧ te σ2 H2 Kt)
    (k : ∀ p H' ys, H1 p = none → Go st cs H1 H' → H' p = some (.lst ys) → ys.length = n → (∀ (i : Nat) v, ys[i]? = some v → R i v H') → Q (.ref p) H') : kLc J g tYes te vs σ Q H1 := by
  intro D hD
  have nD := ok.ne hD
  refine lc_it wk (fun i H => Go st cs H1 H ∧ ∃ ys, H D = some (.lst ys) ∧ ys.length = i ∧ ∀ (m : Nat) v, ys[m]? = some v → R m v H) ⟨.of ok (Adv.new hD), [], upd_same, rfl, fun m v e => by simp at e⟩ (fun i H _ p => hG H p.1)
    (fun i x H H' hi p y => ?_) fun H p => ?_
  · obtain ⟨g1, ys, e1, hl, hr⟩ := p
    refine step i x H H' _ hi g1 y fun v H4 g4 r4 => ?_
    have e4 : H4 D = some (.lst ys) := g4.keep nD.1 e1
    have t5 : TK H4 (upd H4 D (.lst (ys ++ [v]))) := (Adv.lst e4).tup
    refine ⟨ys, e4, Nat.lt_of_lt_of_le (show ys.length < 100001 by omega) (by decide), (g1.trans g4).mutL ok hD e4, ys ++ [v], upd_same, by rw [List.length_append, hl]; rfl, fun m w e => ?_⟩
    by_cases hm : m < ys.length
    · rw [List.getElem?_append_left hm] at e
      exact mono _ _ _ _ (g4.tk.trans t5) (hr m w e)
    · have hm2 : m = ys.length := by
        have := (List.getElem?_eq_some_iff.mp e).1
        rw [List.length_append] at this
        simp at this
        omega
      subst hm2
      rw [List.getElem?_append_right (Nat.le_refl _), Nat.sub_self] at e
      simp at e
      subst e
      rw [hl]
      exact mono _ _ _ _ t5 r4
  · obtain ⟨g1, ys, e1, hl, hr⟩ := p
    exact k D H ys hD g1 e1 hl hr
/-- a comprehension with a test: ks the places that are taken, in order; F tells of the others -/
theorem kLc_some (wk : Walk J n G Y) (hn : n ≤ 100000) (ok : StOk st cs H1) (hG : ∀ H', Go st cs H1 H' → G H') (R : Nat → V → Hp → Prop) (F : Nat → Prop) (mono : ∀ i v H H', TK H H' → R i v H → R i v H')
    (step : ∀ i x H H' (Kt : V → Hp → Prop) (Kf : Hp → Prop), i < n → Go st cs H1 H → Y i H x H' → (∀ y H4, Go st cs H H4 → R i y H4 → Kt y H4) → (∀ H3, Go st cs H H3 → F i → Kf H3) →
      g x (wipe σ vs) H' fun σ2 H2 => wipe σ2 vs = wipe σ vs ∧ tt σ2 H2 fun b H3 => if b = true then te σ2 H3 Kt else Kf H3)
    (k : ∀ p H' (ks : List Nat) ys, H1 p = none → Go st cs H1 H' → H' p = some (.lst ys) → ks.length = ys.length → ks.Pairwise (· < ·) → (∀ k ∈ ks, k < n) → (∀ k, k < n → k ∉ ks → F k) → (∀ (m k : Nat) v, ks[m]? = some k → ys[m]? = some v → R k v H') → Q (.ref p) H') :
    kLc J g tt te vs σ Q H1 := by
  intro D hD
  have nD := ok.ne hD
  refine lc_it wk (fun i H => Go st cs H1 H ∧ ∃ (ks : List Nat) (ys : List V), H D = some (.lst ys) ∧ ks.length = ys.length ∧ ks.Pairwise (· < ·) ∧ (∀ k ∈ ks, k < i) ∧ (∀ k, k < i → k ∉ ks → F k) ∧ ks.length ≤ i ∧ ∀ (m : Nat) k v, ks[m]? = some k → ys[m]? = some v → R k v H)
    ⟨.of ok (Adv.new hD), [], [], upd_same, rfl, .nil, fun k h => (nomatch h), fun k h => absurd h (Nat.not_lt_zero _), Nat.le_refl _, fun m k v e => by simp at e⟩ (fun i H _ p => hG H p.1) (fun i x H H' hi p y => ?_) fun H p => ?_
  · obtain ⟨g1, ks, ys, e1, hl, hp, hk, hf, hle, hr⟩ := p
    refine step i x H H' _ _ hi g1 y (fun v H4 g4 r4 => ?_) fun H3 g3 f3 => ?_
    · have e4 : H4 D = some (.lst ys) := g4.keep nD.1 e1
      have t5 : TK H4 (upd H4 D (.lst (ys ++ [v]))) := (Adv.lst e4).tup
      refine ⟨ys, e4, Nat.lt_of_lt_of_le (show ys.length < 100001 by omega) (by decide), (g1.trans g4).mutL ok hD e4, ks ++ [i], ys ++ [v], upd_same, by rw [List.length_append, List.length_append, hl]; rfl, ?_, fun k h => ?_, fun k h1 h2 => ?_, by rw [List.length_append]; simp; omega, fun m k w e1 e2 => ?_⟩
      · rw [List.pairwise_append]
        exact ⟨hp, List.pairwise_singleton .., fun a ha b hb => by rw [List.mem_singleton.mp hb]; exact hk a ha⟩
      · rcases List.mem_append.mp h with h | h
        · exact Nat.lt_succ_of_lt (hk k h)
        · rw [List.mem_singleton.mp h]
          exact Nat.lt_succ_self _
      · have h3 : k ≠ i := fun z => h2 (List.mem_append_right _ (by rw [z]; exact List.mem_singleton.mpr rfl))
        exact hf k (by omega) fun z => h2 (List.mem_append_left _ z)
      · by_cases hm : m < ys.length
        · rw [List.getElem?_append_left hm] at e2
          rw [List.getElem?_append_left (by omega)] at e1
          exact mono _ _ _ _ (g4.tk.trans t5) (hr m k w e1 e2)
        · have hm2 : m = ys.length := by
            have := (List.getElem?_eq_some_iff.mp e2).1
            rw [List.length_append] at this
            simp at this
            omega
          subst hm2
          rw [List.getElem?_append_right (Nat.le_refl _), Nat.sub_self] at e2
          rw [← hl, List.getElem?_append_right (Nat.le_refl _), Nat.sub_self] at e1
          simp at e1 e2
          subst e1 e2
          exact mono _ _ _ _ t5 r4
    · refine ⟨g1.trans g3, ks, ys, g3.keep nD.1 e1, hl, hp, fun k h => Nat.lt_succ_of_lt (hk k h), fun k h1 h2 => ?_, by omega, fun m k w e1 e2 => mono _ _ _ _ g3.tk (hr m k w e1 e2)⟩
      by_cases hki : k = i
      · subst hki
        exact f3
      · exact hf k (by omega) h2
  · obtain ⟨g1, ks, ys, e1, hl, hp, hk, hf, hle, hr⟩ := p
    exact k D H ks ys hD g1 e1 hl hp hk hf hr
theorem kLcR_all {n : Nat} (hn : n ≤ 100000) (ok : StOk st cs H1) (R : Nat → V → Hp → Prop) (mono : ∀ i v H H', TK H H' → R i v H → R i v H')
    (step : ∀ i H (Kt : V → Hp → Prop), i < n → Go st cs H1 H → (∀ y H4, Go st cs H H4 → R i y H4 → Kt y H4) → g (.int (i : Nat)) (wipe σ vs) H fun σ2 H2 => wipe σ2 vs = wipe σ vs ∧ te σ2 H2 Kt)
    (k : ∀ p H' ys, H1 p = none → Go st cs H1 H' → H' p = some (.lst ys) → ys.length = n → (∀ (i : Nat) v, ys[i]? = some v → R i v H') → Q (.ref p) H') : kLcR g tYes te vs σ Q [.int (n : Nat)] H1 := by
  refine ⟨n, rfl, by omega, by omega, ?_⟩
  have e : ((n : Nat) : Int).toNat = n := by omega
  rw [e]
  refine kLc_all walk_range hn ok (fun _ _ => trivial) R mono (fun i x H H' Kt hi g1 y kt => ?_) k
  obtain ⟨rfl, rfl⟩ := y
  show g (.int ((0 : Int) + (i : Nat))) _ _ _
  rw [Int.zero_add]
  exact step i H' Kt hi g1 kt
theorem kLcR_some {n : Nat} (hn : n ≤ 100000) (ok : StOk st cs H1) (R : Nat → V → Hp → Prop) (F : Nat → Prop) (mono : ∀ i v H H', TK H H' → R i v H → R i v H')
    (step : ∀ i H (Kt : V → Hp → Prop) (Kf : Hp → Prop), i < n → Go st cs H1 H → (∀ y H4, Go st cs H H4 → R i y H4 → Kt y H4) → (∀ H3, Go st cs H H3 → F i → Kf H3) →
      g (.int (i : Nat)) (wipe σ vs) H fun σ2 H2 => wipe σ2 vs = wipe σ vs ∧ tt σ2 H2 fun b H3 => if b = true then te σ2 H3 Kt else Kf H3)
    (k : ∀ p H' (ks : List Nat) ys, H1 p = none → Go st cs H1 H' → H' p = some (.lst ys) → ks.length = ys.length → ks.Pairwise (· < ·) → (∀ k ∈ ks, k < n) → (∀ k, k < n → k ∉ ks → F k) → (∀ (m k : Nat) v, ks[m]? = some k → ys[m]? = some v → R k v H') → Q (.ref p) H') :
    kLcR g tt te vs σ Q [.int (n : Nat)] H1 := by
  refine ⟨n, rfl, by omega, by omega, ?_⟩
  have e : ((n : Nat) : Int).toNat = n := by omega
  rw [e]
  refine kLc_some walk_range hn ok (fun _ _ => trivial) R F mono (fun i x H H' Kt Kf hi g1 y kt kf => ?_) k
  obtain ⟨rfl, rfl⟩ := y
  show g (.int ((0 : Int) + (i : Nat))) _ _ _
  rw [Int.zero_add]
  exact step i H' Kt Kf hi g1 kt kf
theorem kLcL_all {p : Addr} {xs : List V} (hp : SqL K H1 p xs) (np : p ≠ st) (hn : xs.length ≤ 100000) (ok : StOk st cs H1) (R : Nat → V → Hp → Prop) (mono : ∀ i v H H', TK H H' → R i v H → R i v H')
    (step : ∀ i x H (Kt : V → Hp → Prop), xs[i]? = some x → Go st cs H1 H → (∀ y H4, Go st cs H H4 → R i y H4 → Kt y H4) → g x (wipe σ vs) H fun σ2 H2 => wipe σ2 vs = wipe σ vs ∧ te σ2 H2 Kt)
    (k : ∀ p H' ys, H1 p = none → Go st cs H1 H' → H' p = some (.lst ys) → ys.length = xs.length → (∀ (i : Nat) v, ys[i]? = some v → R i v H') → Q (.ref p) H') : kLcL K g tYes te vs σ Q (.ref p) H1 :=
  ⟨p, rfl, ⟨xs, hp⟩, kLc_all walk_list hn ok (fun _ g => g.sql np hp) R mono (fun i x H H' Kt hi g1 y kt => by
    obtain ⟨rfl, e⟩ := y
    exact step i x H' Kt e g1 kt) k⟩
theorem kLcL_some {p : Addr} {xs : List V} (hp : SqL K H1 p xs) (np : p ≠ st) (hn : xs.length ≤ 100000) (ok : StOk st cs H1) (R : Nat → V → Hp → Prop) (F : Nat → Prop) (mono : ∀ i v H H', TK H H' → R i v H → R i v H')
    (step : ∀ i x H (Kt : V → Hp → Prop) (Kf : Hp → Prop), xs[i]? = some x → Go st cs H1 H → (∀ y H4, Go st cs H H4 → R i y H4 → Kt y H4) → (∀ H3, Go st cs H H3 → F i → Kf H3) →
      g x (wipe σ vs) H fun σ2 H2 => wipe σ2 vs = wipe σ vs ∧ tt σ2 H2 fun b H3 => if b = true then te σ2 H3 Kt else Kf H3)
    (k : ∀ p H' (ks : List Nat) ys, H1 p = none → Go st cs H1 H' → H' p = some (.lst ys) → ks.length = ys.length → ks.Pairwise (· < ·) → (∀ k ∈ ks, k < xs.length) → (∀ k, k < xs.length → k ∉ ks → F k) → (∀ (m k : Nat) v, ks[m]? = some k → ys[m]? = some v → R k v H') → Q (.ref p) H') :
    kLcL K g tt te vs σ Q (.ref p) H1 :=
  ⟨p, rfl, ⟨xs, hp⟩, kLc_some walk_list hn ok (fun _ g => g.sql np hp) R F mono (fun i x H H' Kt Kf hi g1 y kt kf => by
    obtain ⟨rfl, e⟩ := y
    exact step i x H' Kt Kf e g1 kt kf) k⟩
theorem kLcT_all {p : Addr} {xs : List V} (hp : H1 p = some (.tup xs)) (hn : xs.length ≤ 100000) (ok : StOk st cs H1) (R : Nat → V → Hp → Prop) (mono : ∀ i v H H', TK H H' → R i v H → R i v H')
    (step : ∀ i x H (Kt : V → Hp → Prop), xs[i]? = some x → Go st cs H1 H → (∀ y H4, Go st cs H H4 → R i y H4 → Kt y H4) → g x (wipe σ vs) H fun σ2 H2 => wipe σ2 vs = wipe σ vs ∧ te σ2 H2 Kt)
    (k : ∀ p H' ys, H1 p = none → Go st cs H1 H' → H' p = some (.lst ys) → ys.length = xs.length → (∀ (i : Nat) v, ys[i]? = some v → R i v H') → Q (.ref p) H') : kLcT K g tYes te vs σ Q (.ref p) H1 :=
  ⟨p, rfl, ⟨xs, SqT.of hp⟩, kLc_all walk_tup hn ok (fun _ g => SqT.of (g.tk _ _ hp)) R mono (fun i x H H' Kt hi g1 y kt => by
    obtain ⟨rfl, e⟩ := y
    exact step i x H' Kt e g1 kt) k⟩
theorem kLcT_some {p : Addr} {xs : List V} (hp : H1 p = some (.tup xs)) (hn : xs.length ≤ 100000) (ok : StOk st cs H1) (R : Nat → V → Hp → Prop) (F : Nat → Prop) (mono : ∀ i v H H', TK H H' → R i v H → R i v H')
    (step : ∀ i x H (Kt : V → Hp → Prop) (Kf : Hp → Prop), xs[i]? = some x → Go st cs H1 H → (∀ y H4, Go st cs H H4 → R i y H4 → Kt y H4) → (∀ H3, Go st cs H H3 → F i → Kf H3) →
      g x (wipe σ vs) H fun σ2 H2 => wipe σ2 vs = wipe σ vs ∧ tt σ2 H2 fun b H3 => if b = true then te σ2 H3 Kt else Kf H3)
    (k : ∀ p H' (ks : List Nat) ys, H1 p = none → Go st cs H1 H' → H' p = some (.lst ys) → ks.length = ys.length → ks.Pairwise (· < ·) → (∀ k ∈ ks, k < xs.length) → (∀ k, k < xs.length → k ∉ ks → F k) → (∀ (m k : Nat) v, ks[m]? = some k → ys[m]? = some v → R k v H') → Q (.ref p) H') :
    kLcT K g tt te vs σ Q (.ref p) H1 :=
  ⟨p, rfl, ⟨xs, SqT.of hp⟩, kLc_some walk_tup hn ok (fun _ g => SqT.of (g.tk _ _ hp)) R F mono (fun i x H H' Kt Kf hi g1 y kt kf => by
    obtain ⟨rfl, e⟩ := y
    exact step i x H' Kt Kf e g1 kt kf) k⟩
end
theorem at_nat {xs : List V} {n : Int} {v : V} (h0 : 0 ≤ n) (h : xs[n.toNat]? = some v) : atI xs n = some v := at_of (j := n.toNat) (by omega) h
theorem get_some {α : Type} {xs : List α} {i : Nat} (h : i < xs.length) : ∃ v, xs[i]? = some v := ⟨xs[i], List.getElem?_eq_getElem h⟩
theorem cut_to (xs : List V) {n : Int} (h0 : 0 ≤ n) : cutV xs none (some n) = xs.take n.toNat := by
  obtain ⟨m, rfl⟩ : ∃ m : Nat, n = m := ⟨n.toNat, by omega⟩
  unfold cutV
  rw [HT.sIx_none, HT.sIx_nat]
  simp only [List.drop_zero, Nat.sub_zero, Int.toNat_natCast]
  by_cases h : m ≤ xs.length
  · rw [Nat.min_eq_left h]
  · rw [Nat.min_eq_right (by omega), List.take_of_length_le (Nat.le_refl _), List.take_of_length_le (by omega)]
theorem cut_from (xs : List V) {n : Int} (h0 : 0 ≤ n) : cutV xs (some n) none = xs.drop n.toNat := by
  obtain ⟨m, rfl⟩ : ∃ m : Nat, n = m := ⟨n.toNat, by omega⟩
  unfold cutV
  rw [HT.sIx_none, HT.sIx_nat]
  simp only [Int.toNat_natCast]
  by_cases h : m ≤ xs.length
  · rw [Nat.min_eq_left h, List.take_of_length_le (by rw [List.length_drop]; exact Nat.le_refl _)]
  · rw [Nat.min_eq_right (by omega), List.drop_of_length_le (Nat.le_refl _), List.drop_of_length_le (by omega)]
    simp
theorem SqL.upd {K : PySem.W.Frag} {H : Hp} {a : Addr} {xs : List V} : SqL K (upd H a (.lst xs)) a xs := SqL.of upd_same
theorem getD_of {α : Type} {xs : List α} {i : Nat} {d v : α} (h : xs[i]? = some v) : xs.getD i d = v := by rw [List.getD_eq_getElem?_getD, h]; rfl
end AW
/-! zip of three tuples of one length; zip of two tuples as a walk; dicts made by comprehensions -/
namespace AW
open PySem PySem.Spec PyProof.Rows L2 RZ

/-- three tuples beside one another, of one length -/
def Itz3 (K : PySem.W.Frag) (a b c : Addr) : It where
  go i H := ∃ xs ys zs : List V, SqT K H a xs ∧ SqT K H b ys ∧ SqT K H c zs ∧ i < xs.length ∧ i < ys.length ∧ i < zs.length
  yld i H v H' := ∃ (T : Addr) (x y u : V), v = .ref T ∧ H T = none ∧ H' = upd H T (.tup [x, y, u]) ∧ (∀ xs, SqT K H a xs → xs[i]? = some x) ∧ (∀ ys, SqT K H b ys → ys[i]? = some y) ∧ ∀ zs, SqT K H c zs → zs[i]? = some u
  stop i H := ∃ xs ys zs : List V, SqT K H a xs ∧ SqT K H b ys ∧ SqT K H c zs ∧ i = xs.length ∧ i = ys.length ∧ i = zs.length

theorem six {z TI TO i1 i2 i3 d : Addr} (h : d ∈ [z, TI, TO, i1, i2, i3]) : d = z ∨ d = TI ∨ d = TO ∨ d = i1 ∨ d = i2 ∨ d = i3 := by simpa using h
theorem turn_zip3 {P : Program} {w : World} {K : PySem.W.Frag} {elts : List Expr} {kk : Nat} {tpos : Pos} {a b c z TI TO i1 i2 i3 : Addr} (D : ZipSep3 z TI TO i1 i2 i3 [i1, a] [i2, b] [i3, c]) :
    Turn P w K (.Tuple elts kk tpos) (Itz3 K a b c) [z, TI, TO, i1, i2, i3] z (fun i h => IsZip h z TI TO .none ∧ IsTupOf3 h TI (.ref i1) (.ref i2) (.ref i3) ∧ (∃ x y u, IsTupOf3 h TO x y u) ∧ h.IsTupleIter i1 a i ∧ h.IsTupleIter i2 b i ∧ h.IsTupleIter i3 c i) := by
  have na : a ≠ i1 ∧ b ≠ i2 ∧ c ≠ i3 ∨ True := .inr trivial
  refine ⟨by simp, ?obj, ?keep, ?item, ?done, ?self⟩
  case obj =>
    rintro i h ⟨s1, s2, ⟨x, y, u, s3⟩, ⟨p1, q1, _, r1⟩, ⟨p2, q2, _, r2⟩, ⟨p3, q3, _, r3⟩⟩ d hd
    rcases six hd with rfl | rfl | rfl | rfl | rfl | rfl
    · exact ⟨_, s1, fun v e => nomatch e⟩
    · exact ⟨_, s2, fun v e => nomatch e⟩
    · exact ⟨_, s3, fun v e => nomatch e⟩
    · exact ⟨p1, q1, fun v e => by rw [r1] at e; cases e⟩
    · exact ⟨p2, q2, fun v e => by rw [r2] at e; cases e⟩
    · exact ⟨p3, q3, fun v e => by rw [r3] at e; cases e⟩
  case keep =>
    rintro i h h' ⟨s1, s2, ⟨x, y, u, s3⟩, t1, t2, t3⟩ k
    exact ⟨k _ (by simp) _ s1, k _ (by simp) _ s2, ⟨x, y, u, k _ (by simp) _ s3⟩, t1.at fun o e => k _ (by simp) o e, t2.at fun o e => k _ (by simp) o e, t3.at fun o e => k _ (by simp) o e⟩
  case self =>
    exact fun A i s Q E st h => wpAny_pyIter_zip st.1 h
  case item =>
    intro X hP hw hK hc i pins s σ H E I hf st hg
    subst hP hw hK
    obtain ⟨s1, s2, ⟨x0, y0, u0, s3⟩, t1, t2, t3⟩ := st
    obtain ⟨xs, ys, zs, qa, qb, qc, la, lb, lc⟩ := hg
    obtain ⟨ia, ra, pa, _⟩ := I.tuple qa
    obtain ⟨ib, rb, pb, _⟩ := I.tuple qb
    obtain ⟨ic, rc, pc, _⟩ := I.tuple qc
    have ea : ∀ {p : Addr} {its : Array Value}, IsTup s.heap p its → p ∉ [z, TI, TO, i1, i2, i3] → p ≠ z := fun _ n e => n (by simp [e])
    have d1 : a ≠ i1 := by
      intro e
      obtain ⟨o, ho, hcl, _⟩ := pa
      obtain ⟨o2, ho2, hcl2, _⟩ := t1
      rw [e, ho2] at ho
      cases ho
      rw [hcl2] at hcl
      exact absurd (Value.type.inj hcl) (by decide)
    have d2 : b ≠ i2 := by
      intro e
      obtain ⟨o, ho, hcl, _⟩ := pb
      obtain ⟨o2, ho2, hcl2, _⟩ := t2
      rw [e, ho2] at ho
      cases ho
      rw [hcl2] at hcl
      exact absurd (Value.type.inj hcl) (by decide)
    have d3 : c ≠ i3 := by
      intro e
      obtain ⟨o, ho, hcl, _⟩ := pc
      obtain ⟨o2, ho2, hcl2, _⟩ := t3
      rw [e, ho2] at ho
      cases ho
      rw [hcl2] at hcl
      exact absurd (Value.type.inj hcl) (by decide)
    have hh : X.A.in1.handled = none := I.ok.hd hc
    have zl : z < s.heap.objs.size := Heap.lt_size s1
    refine wpAny_pyNext_zipD3_item (i := i) D (Draws.tuple hh i1 a d1 ia.toArray) (Draws.tuple hh i2 b d2 ib.toArray) (Draws.tuple hh i3 c d3 ic.toArray) s1 s2 s3 ⟨t1, pa⟩ ⟨t2, pb⟩ ⟨t3, pc⟩
      (by rw [List.size_toArray, ← ra.length]; exact la) (by rw [List.size_toArray, ← rb.length]; exact lb) (by rw [List.size_toArray, ← rc.length]; exact lc) fun x1 x2 x3 h' tk g1 g2 g3 z' TO' v1 v2 v3 hT hsz hk => ?_
    obtain ⟨y1, hy1⟩ := get_some (xs := xs) la
    obtain ⟨y2, hy2⟩ := get_some (xs := ys) lb
    obtain ⟨y3, hy3⟩ := get_some (xs := zs) lc
    have rel : ∀ {l : List V} {us : List Value} {y : V} {x : Value}, Vals l us → l[i]? = some y → us.toArray[i]? = some x → RelV y x := fun r e e2 => by
      obtain ⟨u, eu, ru⟩ := r.get e
      have e3 : some u = some _ := eu.symm.trans (by simpa using e2)
      cases e3
      exact ru
    refine ⟨_, rfl, wpAny_letOwnedTupleGo_zip (s := { s with heap := h', toks := tk }) z' fun h'' z'' sb => ?_⟩
    have hT2 : h''.get? s.heap.objs.size = some { cls := .type "tuple", data := .seq #[x1, x2, x3] } := (sb.2 _ (Nat.ne_of_gt zl)).trans hT
    have new : ObjOk X.prog X.w (upd H s.heap.objs.size (.tup [y1, y2, y3])) h'' s.heap.objs.size (.tup [y1, y2, y3]) :=
      ⟨by show 3 ≤ sizeLine; decide, [x1, x2, x3], .cons (rel ra hy1 g1) (.cons (rel rb hy2 g2) (.cons (rel rc hy3 g3) .nil)), ⟨_, hT2, rfl, _, rfl⟩⟩
    have I1 : Inv X pins σ (upd H s.heap.objs.size (.tup [y1, y2, y3])) { s with heap := h'', toks := tk } :=
      I.turnedNew (ch := [z, TI, TO, i1, i2, i3]) (fun d o hd q => (sb.2 d (fun e => hd (by simp [e]))).trans (hk d o (fun e => hd (by simp [e])) (fun e => hd (by simp [e])) (fun e => hd (by simp [e])) (fun e => hd (by simp [e])) (fun e => hd (by simp [e])) q)) hf (Nat.le_refl _) new
    refine ⟨.ref s.heap.objs.size, _, I1, rfl, ⟨_, y1, y2, y3, rfl, I.hok.fresh (Nat.le_refl _), rfl, fun l hl => by rw [I.tuple_inj hl qa]; exact hy1, fun l hl => by rw [I.tuple_inj hl qb]; exact hy2, fun l hl => by rw [I.tuple_inj hl qc]; exact hy3⟩,
      ⟨z'', ?_, ⟨x1, x2, x3, ?_⟩, ?_, ?_, ?_⟩, fun d hd => ?_⟩
    · exact (sb.2 _ D.TIz).trans (hk _ _ D.TIz D.TITO D.TIi1 D.TIi2 D.TIi3 s2)
    · exact (sb.2 _ D.TOz).trans TO'
    · exact v1.1.at fun o e => (sb.2 _ (fun q => D.zi1 q.symm)).trans e
    · exact v2.1.at fun o e => (sb.2 _ (fun q => D.zi2 q.symm)).trans e
    · exact v3.1.at fun o e => (sb.2 _ (fun q => D.zi3 q.symm)).trans e
    · have hlt : d < s.heap.objs.size := by
        rcases six hd with rfl | rfl | rfl | rfl | rfl | rfl
        · exact zl
        · exact Heap.lt_size s2
        · exact Heap.lt_size s3
        · obtain ⟨_, e, _⟩ := t1; exact Heap.lt_size e
        · obtain ⟨_, e, _⟩ := t2; exact Heap.lt_size e
        · obtain ⟨_, e, _⟩ := t3; exact Heap.lt_size e
      rw [upd_ne (Nat.ne_of_lt hlt)]
      exact (hf d hd).1
  case done =>
    intro X hP hw hK hc i pins s σ H E I hf st hg
    subst hP hw hK
    obtain ⟨s1, s2, ⟨x0, y0, u0, s3⟩, t1, t2, t3⟩ := st
    obtain ⟨xs, ys, zs, qa, qb, qc, la, lb, lc⟩ := hg
    obtain ⟨ia, ra, pa, _⟩ := I.tuple qa
    obtain ⟨ib, rb, pb, _⟩ := I.tuple qb
    obtain ⟨ic, rc, pc, _⟩ := I.tuple qc
    have dd : ∀ {p q : Addr} {its : Array Value} {j : Nat}, IsTup s.heap p its → s.heap.IsTupleIter q p j → p ≠ q := fun {p q its j} hp hq e => by
      obtain ⟨o, ho, hcl, _⟩ := hp
      obtain ⟨o2, ho2, hcl2, _⟩ := hq
      rw [e, ho2] at ho
      cases ho
      rw [hcl2] at hcl
      exact absurd (Value.type.inj hcl) (by decide)
    have hh : X.A.in1.handled = none := I.ok.hd hc
    have sa : i = ia.toArray.size := by rw [List.size_toArray, ← ra.length]; exact la
    have sb : i = ib.toArray.size := by rw [List.size_toArray, ← rb.length]; exact lb
    have sc : i = ic.toArray.size := by rw [List.size_toArray, ← rc.length]; exact lc
    exact wpAny_pyNext_zipD3_end (i := i) D (Draws.tuple hh i1 a (dd pa t1) ia.toArray) (Draws.tuple hh i2 b (dd pb t2) ib.toArray) (Draws.tuple hh i3 c (dd pc t3) ic.toArray) s1 s2 s3 ⟨t1, pa⟩ ⟨t2, pb⟩ ⟨t3, pc⟩
      (Nat.le_of_eq sa) (Nat.le_of_eq sb) (Nat.le_of_eq sc) (.inl sa) fun h' tk hk => ⟨rfl, I.turnedL (ch := [z, TI, TO, i1, i2, i3]) (fun d o hd q => hk d o (fun e => hd (by simp [e])) (fun e => hd (by simp [e])) (fun e => hd (by simp [e])) (fun e => hd (by simp [e])) (fun e => hd (by simp [e])) q) hf⟩
/-- what stands within zip(a, b, c) -/
def iZip3 (K : PySem.W.Frag) (ta : TA) : TI := fun σ H R => ta σ H fun vs H1 => ∃ (a b c : Addr) (xs ys zs : List V), vs = [.ref a, .ref b, .ref c] ∧ SqT K H1 a xs ∧ SqT K H1 b ys ∧ SqT K H1 c zs ∧ R (Itz3 K a b c) H1
theorem no2 {x y z : Nat} (h1 : x ≠ y) (h2 : x ≠ z) : x ∉ [y, z] := fun h => by
  rcases List.mem_cons.mp h with e | e
  · exact h1 e
  · exact h2 (List.mem_singleton.mp e)
theorem sep_new (n a b c : Nat) (la : a < n) (lb : b < n) (lc : c < n) : ZipSep3 (n + 5) (n + 3) (n + 4) n (n + 1) (n + 2) [n, a] [n + 1, b] [n + 2, c] :=
  ⟨(show (n + 3 : Nat) ≠ n + 5 by omega),
    (show (n + 4 : Nat) ≠ n + 5 by omega),
    (show (n + 3 : Nat) ≠ n + 4 by omega),
    (show (n + 3 : Nat) ≠ n by omega),
    (List.mem_cons_self ..),
    (no2 (show (n + 5 : Nat) ≠ n by omega) (show (n + 5 : Nat) ≠ a by omega)),
    (no2 (show (n + 4 : Nat) ≠ n by omega) (show (n + 4 : Nat) ≠ a by omega)),
    (show (n + 3 : Nat) ≠ n + 1 by omega),
    (List.mem_cons_self ..),
    (no2 (show (n + 5 : Nat) ≠ n + 1 by omega) (show (n + 5 : Nat) ≠ b by omega)),
    (no2 (show (n + 4 : Nat) ≠ n + 1 by omega) (show (n + 4 : Nat) ≠ b by omega)),
    (show (n + 3 : Nat) ≠ n + 2 by omega),
    (List.mem_cons_self ..),
    (no2 (show (n + 5 : Nat) ≠ n + 2 by omega) (show (n + 5 : Nat) ≠ c by omega)),
    (no2 (show (n + 4 : Nat) ≠ n + 2 by omega) (show (n + 4 : Nat) ≠ c by omega)),
    (no2 (show (n : Nat) ≠ n + 1 by omega) (show (n : Nat) ≠ b by omega)),
    (no2 (show (n : Nat) ≠ n + 2 by omega) (show (n : Nat) ≠ c by omega)),
    (no2 (show (n + 1 : Nat) ≠ n by omega) (show (n + 1 : Nat) ≠ a by omega)),
    (no2 (show (n + 1 : Nat) ≠ n + 2 by omega) (show (n + 1 : Nat) ≠ c by omega)),
    (no2 (show (n + 2 : Nat) ≠ n by omega) (show (n + 2 : Nat) ≠ a by omega)),
    (no2 (show (n + 2 : Nat) ≠ n + 1 by omega) (show (n + 2 : Nat) ≠ b by omega))⟩
theorem pi_zip3 {X : Cx} {e e2 e3 : Expr} {ta : TA} {p pos tpos : Pos} {elts : List Expr} {kk : Nat} (hg : Gl X "zip") (hm : X.mg "zip" = none) (ha : PA X [e, e2, e3] ta)
    (hs : starEach [e, e2, e3] X.env = (false, eval e X.env) :: starEach [e2, e3] X.env := by rfl) (hpl : (backTo pos (starEach [e2, e3] X.env)).any (·.1) = false := by rfl) :
    PI X (.Tuple elts kk tpos) (.Call (.Name "zip" p) [e, e2, e3] [] pos) (iZip3 X.K ta) := by
  refine ⟨fun pins s σ H R I h => ?_⟩
  refine Call_ (ld_blt I hg hm PyProof.Rows.boot_zip (PyProof.Rows.callWith_type1 (thn (ha.run pos pins s σ H _ I h) fun us s1 ⟨vs, H1, I1, r1, q1⟩ => ?_) hs hpl))
  obtain ⟨a, b, c, xs, ys, zs, rfl, qa, qb, qc, q⟩ := q1
  obtain ⟨ua, us', rfl, r1', rr⟩ : ∃ ua us', us = ua :: us' ∧ RelV (.ref a) ua ∧ Vals [.ref b, .ref c] us' := by
    cases r1 with
    | cons r rr => exact ⟨_, _, rfl, r, rr⟩
  obtain ⟨ub, uc, rfl, r2', r3'⟩ := vals2 rr
  cases r1'
  cases r2'
  cases r3'
  obtain ⟨ia, ra, pa, _⟩ := I1.tuple qa
  obtain ⟨ib, rb, pb, _⟩ := I1.tuple qb
  obtain ⟨ic, rc, pc, _⟩ := I1.tuple qc
  have la : a < s1.heap.objs.size := by obtain ⟨_, e, _⟩ := pa; exact Heap.lt_size e
  have lb : b < s1.heap.objs.size := by obtain ⟨_, e, _⟩ := pb; exact Heap.lt_size e
  have lc : c < s1.heap.objs.size := by obtain ⟨_, e, _⟩ := pc; exact Heap.lt_size e
  refine zip_begins3 (begins_tuple a ia.toArray) (begins_tuple b ib.toArray) (begins_tuple c ic.toArray) pa pb pc fun h' hz hTI hTO g1 g2 g3 _ hk => wpAny_pyIter_zip hz ?_
  have I2 : Inv X pins σ H1 { s1 with heap := h' } := I1.kept (t' := s1.toks) hk
  have sep := sep_new s1.heap.objs.size a b c la lb lc
  refine ⟨s1.heap.objs.size + 5, [s1.heap.objs.size + 5, s1.heap.objs.size + 3, s1.heap.objs.size + 4, s1.heap.objs.size, s1.heap.objs.size + 1, s1.heap.objs.size + 2], _, _, H1, rfl, I2, turn_zip3 sep, ⟨hz, hTI, ⟨_, _, _, hTO⟩, ⟨_, g1, rfl, rfl⟩, ⟨_, g2, rfl, rfl⟩, ⟨_, g3, rfl, rfl⟩⟩, fun d hd => ?_, q⟩
  have hle : s1.heap.objs.size ≤ d := by
    rcases six hd with e | e | e | e | e | e <;> rw [e] <;> first | exact Nat.le_add_right _ _ | exact Nat.le_refl _
  exact I1.fpOk hle (I1.hok.fresh hle)
/-- a new triple of the i-th ones -/
def YTri (xs ys zs : List V) : Nat → Hp → V → Hp → Prop := fun i H v H' => ∃ T x y u, v = .ref T ∧ H T = none ∧ H' = upd H T (.tup [x, y, u]) ∧ xs[i]? = some x ∧ ys[i]? = some y ∧ zs[i]? = some u
section
variable {K : PySem.W.Frag} {a b c : Addr} {xs ys zs : List V}
theorem walk_zip3 (h1 : ys.length = xs.length) (h2 : zs.length = xs.length) : Walk (Itz3 K a b c) xs.length (fun H => H a = some (.tup xs) ∧ H b = some (.tup ys) ∧ H c = some (.tup zs)) (YTri xs ys zs) :=
  ⟨fun i H hi q => ⟨xs, ys, zs, SqT.of q.1, SqT.of q.2.1, SqT.of q.2.2, hi, by omega, by omega⟩, fun H q => ⟨xs, ys, zs, SqT.of q.1, SqT.of q.2.1, SqT.of q.2.2, rfl, h1.symm, h2.symm⟩,
    fun i H v H' _ q ⟨T, x, y, u, e1, e2, e3, e4, e5, e6⟩ => ⟨T, x, y, u, e1, e2, e3, e4 _ (SqT.of q.1), e5 _ (SqT.of q.2.1), e6 _ (SqT.of q.2.2)⟩⟩
theorem walk_zipT (h1 : ys.length = xs.length) : Walk (ItzT K a b) xs.length (fun H => H a = some (.tup xs) ∧ H b = some (.tup ys)) (YPair (fun i => xs[i]?) (fun i => ys[i]?)) :=
  ⟨fun i H hi q => ⟨xs, ys, xs[i], ys[i], SqT.of q.1, SqT.of q.2, List.getElem?_eq_getElem hi, List.getElem?_eq_getElem (by omega)⟩, fun H q => ⟨xs, ys, SqT.of q.1, SqT.of q.2, .inl (Nat.le_refl _)⟩,
    fun i H v H' _ q ⟨T, x, y, e1, e2, e3, e4, e5⟩ => ⟨T, x, y, e1, e2, e3, e4 _ (SqT.of q.1), e5 _ (SqT.of q.2)⟩⟩
end

/-! ### comprehensions that leave the state alone: a pure one; a dict -/
section
variable {J : It} {n : Nat} {G : Hp → Prop} {Y : Nat → Hp → V → Hp → Prop} {g : TG} {tt : TT} {te tk tv : TE} {vs : List Nat} {σ : L2.St} {Q : VK} {H1 : Hp} {K : PySem.W.Frag} {ta : TA}
/-- a comprehension with a test, nothing changed but new objects; B tells the test's word at each turn, v the item's value -/
theorem kLc_pure (wk : Walk J n G Y) (hn : n ≤ 100000) (hG : ∀ H', Adv [] H1 H' → G H') (B : Nat → Bool) (v : Nat → V)
    (step : ∀ i x H H' (Kt : V → Hp → Prop) (Kf : Hp → Prop), i < n → Adv [] H1 H → Y i H x H' → (B i = true → ∀ H4, Adv [] H H4 → Kt (v i) H4) → (B i = false → ∀ H3, Adv [] H H3 → Kf H3) →
      g x (wipe σ vs) H' fun σ2 H2 => wipe σ2 vs = wipe σ vs ∧ tt σ2 H2 fun b H3 => if b = true then te σ2 H3 Kt else Kf H3)
    (k : ∀ p H', H1 p = none → Adv [] H1 H' → H' p = some (.lst (((List.range n).filter B).map v)) → Q (.ref p) H') : kLc J g tt te vs σ Q H1 := by
  intro D hD
  refine lc_it wk (fun i H => i ≤ n ∧ Adv [] H1 H ∧ H D = some (.lst (((List.range i).filter B).map v))) ⟨Nat.zero_le _, Adv.new hD, upd_same⟩ (fun i H _ p => hG H p.2.1) (fun i x H H' hi p y => ?_) fun H p => k D H hD p.2.1 p.2.2
  obtain ⟨_, g1, e1⟩ := p
  have hlen : (((List.range i).filter B).map v).length ≤ 100000 := by
    rw [List.length_map]
    refine Nat.le_trans (List.length_filter_le ..) ?_
    rw [List.length_range]
    omega
  refine step i x H H' _ _ hi g1 y (fun hb H4 g4 => ?_) fun hb H3 g3 => ?_
  · have e4 := g4.keep _ _ (fun z => nomatch z) e1
    refine ⟨_, e4, Nat.lt_of_lt_of_le (Nat.lt_succ_of_le hlen) (by decide), hi, (g1.trans g4).mut hD e4 (fun _ z => by cases z), ?_⟩
    rw [upd_same, List.range_succ, List.filter_append, List.map_append]
    simp [hb]
  · refine ⟨hi, g1.trans g3, ?_⟩
    rw [g3.keep _ _ (fun z => nomatch z) e1, List.range_succ, List.filter_append, List.map_append]
    simp [hb]
theorem kLcR_pure {n : Nat} (hn : n ≤ 100000) (B : Nat → Bool) (v : Nat → V)
    (step : ∀ i H (Kt : V → Hp → Prop) (Kf : Hp → Prop), i < n → Adv [] H1 H → (B i = true → ∀ H4, Adv [] H H4 → Kt (v i) H4) → (B i = false → ∀ H3, Adv [] H H3 → Kf H3) →
      g (.int (i : Nat)) (wipe σ vs) H fun σ2 H2 => wipe σ2 vs = wipe σ vs ∧ tt σ2 H2 fun b H3 => if b = true then te σ2 H3 Kt else Kf H3)
    (k : ∀ p H', H1 p = none → Adv [] H1 H' → H' p = some (.lst (((List.range n).filter B).map v)) → Q (.ref p) H') : kLcR g tt te vs σ Q [.int (n : Nat)] H1 := by
  refine ⟨(n : Nat), rfl, by omega, by omega, ?_⟩
  rw [show ((n : Nat) : Int).toNat = n by omega]
  refine kLc_pure walk_range hn (fun _ _ => trivial) B v (fun i x H H' Kt Kf hi g1 y kt kf => ?_) k
  obtain ⟨rfl, rfl⟩ := y
  show g (.int ((0 : Int) + (i : Nat))) _ _ _
  rw [Int.zero_add]
  exact step i H' Kt Kf hi g1 kt kf
/-- over three tuples of one length -/
def kLc3 (K : PySem.W.Frag) (g : TG) (tt : TT) (te : TE) (vs : List Nat) (σ : L2.St) (Q : VK) (ws : List V) (H1 : Hp) : Prop := ∃ (a b c : Addr) (xs ys zs : List V), ws = [.ref a, .ref b, .ref c] ∧ SqT K H1 a xs ∧ SqT K H1 b ys ∧ SqT K H1 c zs ∧ kLc (Itz3 K a b c) g tt te vs σ Q H1
theorem w_lc3 (h : ta σ H1 (kLc3 K g tt te vs σ Q)) : tLc (iZip3 K ta) g tt te vs σ H1 Q := h
/-- a dict is made, turn by turn -/
def kDc (J : It) (g : TG) (tt : TT) (tk tv : TE) (vs : List Nat) (σ : L2.St) (Q : VK) (H1 : Hp) : Prop := ∀ D, H1 D = none → ∃ W : Nat → Nat → Hp → Prop, (∃ m, W 0 m (upd H1 D (.dK []))) ∧ ∀ i m H, W i m H →
  (J.stop i H ∧ Q (.ref D) H) ∨ (J.go i H ∧ ∃ Nx : Hp → Prop, (∀ H', Nx H' → ∃ m', m' < m ∧ W (i + 1) m' H') ∧ ∀ x H', J.yld i H x H' → g x (wipe σ vs) H' fun σ2 H2 => wipe σ2 vs = wipe σ vs ∧ tt σ2 H2 fun b H3 =>
    if b = true then tk σ2 H3 fun y H4 => tv σ2 H4 fun z H5 => ∃ kvs k, y = kV k ∧ H5 D = some (.dK kvs) ∧ kvs.length < sizeLine ∧ Nx (upd H5 D (.dK (putK kvs k z))) else Nx H3)
/-- all turns give: the dict holds the last of each key -/
def dictOf (key : Nat → Key) (val : Nat → V) : Nat → List (Key × V)
  | 0 => []
  | i + 1 => putK (dictOf key val i) (key i) (val i)
theorem dictOf_len (key : Nat → Key) (val : Nat → V) : ∀ n, (dictOf key val n).length ≤ n
  | 0 => Nat.le_refl _
  | i + 1 => Nat.le_trans (length_putK ..) (Nat.succ_le_succ (dictOf_len key val i))
theorem dictOf_val {key : Nat → Key} {val : Nat → V} : ∀ {n j : Nat}, (∀ a b, a < n → b < n → key a = key b → a = b) → j < n → valV (dictOf key val n) (key j) = some (val j)
  | i + 1, j, hk, hj => by
    show valV (putK (dictOf key val i) (key i) (val i)) (key j) = _
    rw [valV_put]
    by_cases e : key j = key i
    · have ej := hk j i hj (Nat.lt_succ_self i) e
      subst ej
      rw [if_pos rfl]
    · rw [if_neg e]
      refine dictOf_val (fun a b ha hb => hk a b (Nat.lt_succ_of_lt ha) (Nat.lt_succ_of_lt hb)) ?_
      have : j ≠ i := fun z => e (by rw [z])
      omega
theorem kDc_pure (wk : Walk J n G Y) (hn : n ≤ 100000) (hG : ∀ H', Adv [] H1 H' → G H') (key : Nat → Key) (val : Nat → V)
    (step : ∀ i x H H' (Kt : V → V → Hp → Prop), i < n → Adv [] H1 H → Y i H x H' → (∀ H4, Adv [] H H4 → Kt (kV (key i)) (val i) H4) → g x (wipe σ vs) H' fun σ2 H2 => wipe σ2 vs = wipe σ vs ∧ tk σ2 H2 fun y H4 => tv σ2 H4 (Kt y))
    (k : ∀ p H', H1 p = none → Adv [] H1 H' → H' p = some (.dK (dictOf key val n)) → Q (.ref p) H') : kDc J g tYes tk tv vs σ Q H1 := by
  intro D hD
  refine ⟨fun i m H => m = n - i ∧ i ≤ n ∧ Adv [] H1 H ∧ H D = some (.dK (dictOf key val i)), ⟨n, by simp, Nat.zero_le _, Adv.new hD, upd_same⟩, ?_⟩
  rintro i m H ⟨rfl, hi, g1, e1⟩
  have q := hG H g1
  by_cases hlt : i < n
  · refine .inr ⟨wk.goes i H hlt q, fun H' => i + 1 ≤ n ∧ Adv [] H1 H' ∧ H' D = some (.dK (dictOf key val (i + 1))), fun H' p' => ⟨n - (i + 1), by omega, rfl, p'⟩, fun x H' y => ?_⟩
    refine step i x H H' (fun y z H5 => ∃ kvs k, y = kV k ∧ H5 D = some (.dK kvs) ∧ kvs.length < sizeLine ∧ (fun H' => i + 1 ≤ n ∧ Adv [] H1 H' ∧ H' D = some (.dK (dictOf key val (i + 1)))) (upd H5 D (.dK (putK kvs k z)))) hlt g1 (wk.yields i H x H' hlt q y) fun H4 g4 => ?_
    have e4 := g4.keep _ _ (fun z => nomatch z) e1
    exact ⟨_, key i, rfl, e4, Nat.lt_of_le_of_lt (dictOf_len key val i) (Nat.lt_of_lt_of_le (show i < 100001 by omega) (by decide)), hlt, (g1.trans g4).mut hD e4 (fun _ z => by cases z), upd_same⟩
  · have e : i = n := by omega
    subst e
    exact .inl ⟨wk.stops H q, k D H hD g1 e1⟩
/-- a dict over zip(a, b) of tuples; over a tuple -/
def kDcZ (K : PySem.W.Frag) (g : TG) (tt : TT) (tk tv : TE) (vs : List Nat) (σ : L2.St) (Q : VK) (ws : List V) (H1 : Hp) : Prop := ∃ a b xs ys, ws = [.ref a, .ref b] ∧ ((SqL K H1 a xs ∧ SqL K H1 b ys ∧ kDc (Itz K a b) g tt tk tv vs σ Q H1) ∨ (SqT K H1 a xs ∧ SqT K H1 b ys ∧ kDc (ItzT K a b) g tt tk tv vs σ Q H1))
theorem w_dcZ (h : ta σ H1 (kDcZ K g tt tk tv vs σ Q)) : tDc (iZipA K ta) g tt tk tv vs σ H1 Q := h
def kDcT (K : PySem.W.Frag) (g : TG) (tt : TT) (tk tv : TE) (vs : List Nat) (σ : L2.St) (Q : VK) (x : V) (H1 : Hp) : Prop := ∃ a, x = .ref a ∧ (∃ xs, SqT K H1 a xs) ∧ kDc (Itt K a) g tt tk tv vs σ Q H1
theorem w_dcT {tl : TE} (h : tl σ H1 (kDcT K g tt tk tv vs σ Q)) : tDc (iTup K tl) g tt tk tv vs σ H1 Q := h
theorem w_dnew {σ : L2.St} {H : Hp} (q : ∀ r H', H r = none → Adv [] H H' → H' r = some (.dK []) → Q (.ref r) H') : tDNewK σ H Q := w_new q
/-! pairs and triples taken apart -/
theorem w_gtup {n : Nat} {t : TGs} {a : Addr} {xs : List V} {σ : L2.St} {H : Hp} {Q : L2.St → Hp → Prop} (h : SqT K H a xs) (hl : xs.length = n) (q : t xs σ H Q) : gTup K n t (.ref a) σ H Q := ⟨a, xs, rfl, h, hl, q⟩
theorem w_gcons {t : TG} {u : TGs} {v : V} {r : List V} {σ : L2.St} {H : Hp} {Q : L2.St → Hp → Prop} (q : t v σ H fun σ' H' => u r σ' H' Q) : gCons t u (v :: r) σ H Q := ⟨v, r, rfl, q⟩
theorem w_gnil {σ : L2.St} {H : Hp} {Q : L2.St → Hp → Prop} (q : Q σ H) : gNil [] σ H Q := ⟨rfl, q⟩
end
end AW
/-! dicts asked, tuple(..), slices of tuples; what the law speaks of: sayings, worlds, models -/
namespace AW
open PySem PySem.Spec PyProof.Rows L2 RZ
section
variable {σ : L2.St} {H : Hp} {Q : VK} {ta tb te td ty : TE} {K : PySem.W.Frag}
/-- keywords alone, in the parameters' order -/
def gK {α : Type} : List α → List α → List α
  | [], zs => zs
  | _ :: _, _ => []
theorem w_callK {sp : Sp} {E : XK} {tk : TA} (h : tk σ H fun zs H2 => sp zs H2 Q E) : tCallK sp gK E tNil tk σ H Q := h
def kDGet (x y : V) (H : Hp) (Q : VK) : Prop := ∃ a v, x = .ref a ∧ DGet H a y (some v) ∧ Q v H
theorem w_dg (h : td σ H fun x H1 => ty σ H1 fun y H2 => kDGet x y H2 Q) : tDGet td ty σ H Q := h
theorem kDGet_i {d : Addr} {kvs : List (Key × V)} {k : Key} {v : V} (h : H d = some (.dK kvs)) (e : valV kvs k = some v) (q : Q v H) : kDGet (.ref d) (kV k) H Q := ⟨d, v, rfl, e ▸ DGet.k h, q⟩
def kDPut (x y v : V) (H : Hp) (N : Hp → Prop) : Prop := ∃ a H4, x = .ref a ∧ DPut H a y v H4 ∧ N H4
theorem w_dput {D : Ends} {tv : TE} (h : tv σ H fun v H1 => td σ H1 fun x H2 => ty σ H2 fun y H3 => kDPut x y v H3 (D.nx σ)) : sDPut td ty tv D σ H := h
theorem kDPut_i {d : Addr} {kvs : List (Key × V)} {k : Key} {v : V} {N : Hp → Prop} (h : H d = some (.dK kvs)) (hl : kvs.length < 100000) (q : N (upd H d (.dK (putK kvs k v)))) : kDPut (.ref d) (kV k) v H N :=
  ⟨d, _, rfl, DPut.k h (Nat.lt_of_lt_of_le hl (by decide)), q⟩
theorem w_nT {A B : Prop} (h : A) : if (!true) = true then B else A := h
theorem w_nF {A B : Prop} (h : B) : if (!false) = true then B else A := h
/-- tuple(x) -/
theorem w_tup1 (h : ta σ H fun x H1 => kTup K x H1 Q) : tThen ta (kTup K) σ H Q := h
theorem w_tupL {p : Addr} {xs : List V} (h : SqL K H p xs) (q : ∀ r H', H r = none → Adv [] H H' → H' r = some (.tup xs) → Q (.ref r) H') : kTup K (.ref p) H Q := .inl ⟨p, xs, rfl, h, w_new q⟩
/-- a part of a tuple that is not the whole -/
theorem w_slT {p : Addr} {xs : List V} {lo hi : Option Int} (h : H p = some (.tup xs)) (hn : ¬ (HT.sIx xs.length 0 lo = 0 ∧ HT.sIx xs.length xs.length hi = xs.length)) (q : ∀ r H', H r = none → Adv [] H H' → H' r = some (.tup (cutV xs lo hi)) → Q (.ref r) H') : rSlA K (.ref p) lo hi H Q :=
  ⟨p, xs, rfl, SqT.of h, fun z => absurd z hn, fun _ => w_new q⟩
/-- tuples joined, none of them empty -/
theorem w_catT {a b : Addr} {xs ys : List V} (h1 : H a = some (.tup xs)) (h2 : H b = some (.tup ys)) (hz : xs.length + ys.length ≤ 100000) (q0 : xs = [] → Q (.ref b) H) (q1 : xs ≠ [] → ys = [] → Q (.ref a) H)
    (q : ∀ r H', H r = none → Adv [] H H' → H' r = some (.tup (xs ++ ys)) → Q (.ref r) H') : rCatA K (.ref a) (.ref b) H Q :=
  ⟨a, b, xs, ys, rfl, rfl, SqT.of h1, SqT.of h2, Nat.le_trans hz (by decide), q0, q1, fun _ _ => w_new q⟩
/-- joined, whatever they are: a tuple that holds both -/
theorem w_catT' {a b : Addr} {xs ys : List V} (h1 : H a = some (.tup xs)) (h2 : H b = some (.tup ys)) (hz : xs.length + ys.length ≤ 100000) (q : ∀ r H', Adv [] H H' → H' r = some (.tup (xs ++ ys)) → Q (.ref r) H') : rCatA K (.ref a) (.ref b) H Q :=
  w_catT h1 h2 hz (fun e => q _ _ (.refl _ _) (by rw [e]; exact h2)) (fun _ e => q _ _ (.refl _ _) (by rw [e, List.append_nil]; exact h1)) fun r H' _ a e => q r H' a e
end
/-- the dict at d tells the value of each of these names -/
def WD (H : Hp) (d : Addr) (names : List Str) (w : Str → Int) : Prop := ∃ kvs, H d = some (.dK kvs) ∧ ∀ x ∈ names, valV kvs (Sum.inr x) = some (.int (w x))
theorem WD.up {H H' : Hp} {d : Addr} {names : List Str} {w : Str → Int} (h : WD H d names w) (e : Adv [] H H') : WD H' d names w := by
  obtain ⟨kvs, h1, h2⟩ := h
  exact ⟨kvs, e.keep _ _ (fun z => nomatch z) h1, h2⟩
theorem WD.go {st cs : Addr} {H H' : Hp} {d : Addr} {names : List Str} {w : Str → Int} (h : WD H d names w) (hs : StOk st cs H) (e : Go st cs H H') : WD H' d names w := by
  obtain ⟨kvs, h1, h2⟩ := h
  obtain ⟨_, _, _, _, _, _, h3, _⟩ := hs
  exact ⟨kvs, e.keep (ne_of h1 h3 fun z => by cases z) h1, h2⟩
theorem WD.get {H : Hp} {Q : VK} {d : Addr} {names : List Str} {w : Str → Int} {x : Str} (h : WD H d names w) (hx : x ∈ names) (q : Q (.int (w x)) H) : kDGet (.ref d) (.str x) H Q := by
  obtain ⟨kvs, h1, h2⟩ := h
  exact kDGet_i (k := Sum.inr x) h1 (h2 x hx) q

/-! ### sayings -/
def okS (x : Str) : Prop := x.cps.all (· < 0x110000) = true
inductive Say where
  | prod (x y z : Str)
  | ahead (xs ys : List Str)
  | mach (xs : List Str) (s : Int) (mv : List (Int × Int × Int)) (en : List Int)
abbrev nix : Str := Str.ofString ""
def rowD (r : List Int) : PyData := .tuple (r.map .int)
def ctD (t : Int × Int × Int) : PyData := .tuple [.int t.1, .int t.2.1, .int t.2.2]
def sayD : Say → PyData
  | .prod x y z => .tuple [.str "product", .str x, .str y, .str z]
  | .ahead xs ys => .tuple [.str "ahead", .tuple (xs.map .str), .tuple (ys.map .str)]
  | .mach xs s mv en => .tuple [.str "machine", .tuple (xs.map .str), .int s, .tuple (mv.map ctD), .tuple (en.map .int)]
def Say.names : Say → List Str
  | .prod x y z => [x, y, z]
  | .ahead xs ys => xs ++ ys
  | .mach xs _ _ _ => xs
def wt (n : Int) : Prop := -(2 ^ 64) < n ∧ n < 2 ^ 64
def Say.ok : Say → Prop
  | .prod _ _ _ => True
  | .ahead xs ys => xs.length = ys.length ∧ xs.length ≤ 100
  | .mach xs _ mv en => xs.length ≤ 100 ∧ mv.length ≤ 1000 ∧ (mv.map fun m => (m.1, m.2.1)).Nodup ∧ en.length ≤ 100
def isAt (a v : Int) (m : Int × Int × Int) : Bool := decide (m.1 = a) && decide (m.2.1 = v)
/-- the stand behind these values -/
def walkM (mv : List (Int × Int × Int)) : Int → List Int → Option Int
  | here, [] => some here
  | here, v :: vs => match mv.find? (isAt here v) with
    | none => none
    | some m => walkM mv m.2.2 vs
def leL : List Int → List Int → Bool
  | a :: as, b :: bs => if a = b then leL as bs else decide (a < b)
  | [], _ => true
  | _ :: _, [] => false
def holdP (w : Str → Int) : Say → Bool
  | .prod x y z => decide (w x * w y = w z)
  | .ahead xs ys => leL (xs.map w) (ys.map w)
  | .mach xs s mv en => match walkM mv s (xs.map w) with
    | none => false
    | some q => en.any fun e => decide (e = q)
theorem is_tri {H : Hp} {v : V} {t : Int × Int × Int} (h : Is H (ctD t) v) : ∃ a, v = .ref a ∧ H a = some (.tup [.int t.1, .int t.2.1, .int t.2.2]) := by
  obtain ⟨a, vs, rfl, e, h⟩ := h.tup_inv
  cases h with
  | cons h1 h =>
    cases h with
    | cons h2 h =>
      cases h with
      | cons h3 h =>
        cases h
        cases h1
        cases h2
        cases h3
        exact ⟨a, rfl, e⟩
theorem is_prod {H : Hp} {v : V} {x y z : Str} (h : Is H (sayD (.prod x y z)) v) : ∃ a, v = .ref a ∧ H a = some (.tup [.str "product", .str x, .str y, .str z]) := by
  obtain ⟨a, vs, rfl, e, h⟩ := h.tup_inv
  cases h with
  | cons h1 h =>
    cases h with
    | cons h2 h =>
      cases h with
      | cons h3 h =>
        cases h with
        | cons h4 h =>
          cases h
          cases h1
          cases h2
          cases h3
          cases h4
          exact ⟨a, rfl, e⟩
theorem is_ahead {H : Hp} {v : V} {xs ys : List Str} (h : Is H (sayD (.ahead xs ys)) v) : ∃ a p q, v = .ref a ∧ H a = some (.tup [.str "ahead", .ref p, .ref q]) ∧ H p = some (.tup (xs.map V.str)) ∧ H q = some (.tup (ys.map V.str)) := by
  obtain ⟨a, vs, rfl, e, h⟩ := h.tup_inv
  cases h with
  | cons h1 h =>
    cases h with
    | cons h2 h =>
      cases h with
      | cons h3 h =>
        cases h
        cases h1
        obtain ⟨b, v2, rfl, e2, t2⟩ := h2.tup_inv
        obtain ⟨c, v3, rfl, e3, t3⟩ := h3.tup_inv
        rw [t2.strs_inv] at e2
        rw [t3.strs_inv] at e3
        exact ⟨a, b, c, rfl, e, e2, e3⟩
theorem is_mach {H : Hp} {v : V} {xs : List Str} {s : Int} {mv : List (Int × Int × Int)} {en : List Int} (h : Is H (sayD (.mach xs s mv en)) v) : ∃ a p q r vs, v = .ref a ∧ H a = some (.tup [.str "machine", .ref p, .int s, .ref q, .ref r]) ∧ H p = some (.tup (xs.map V.str)) ∧ H q = some (.tup vs) ∧ IsAll H (mv.map ctD) vs ∧ H r = some (.tup (en.map V.int)) := by
  obtain ⟨a, vs, rfl, e, h⟩ := h.tup_inv
  cases h with
  | cons h1 h =>
    cases h with
    | cons h2 h =>
      cases h with
      | cons h3 h =>
        cases h with
        | cons h4 h =>
          cases h with
          | cons h5 h =>
            cases h
            cases h1
            cases h3
            obtain ⟨b, v2, rfl, e2, t2⟩ := h2.tup_inv
            obtain ⟨c, v3, rfl, e3, t3⟩ := h4.tup_inv
            obtain ⟨d, v4, rfl, e4, t4⟩ := h5.tup_inv
            rw [t2.strs_inv] at e2
            rw [t4.ints_inv] at e4
            exact ⟨a, b, c, d, v3, rfl, e, e2, e3, t3, e4⟩
theorem lay_ints : ∀ ns : List Int, PyData.canLayAll0 (ns.map .int) = true
  | [] => by simp [PyData.canLayAll0]
  | n :: ns => by simp [PyData.canLayAll0, PyData.canLay0, lay_ints ns]
theorem lay_strs : ∀ ns : List Str, (∀ x ∈ ns, okS x) → PyData.canLayAll0 (ns.map .str) = true
  | [], _ => by simp [PyData.canLayAll0]
  | n :: ns, h => by
    have h1 : PyData.canLay0 (.str n) = true := h n (List.mem_cons_self ..)
    simp [PyData.canLayAll0, h1, lay_strs ns fun x hx => h x (List.mem_cons_of_mem _ hx)]
theorem deep_ints : ∀ ns : List Int, PyData.depthAll (ns.map .int) ≤ 1
  | [] => by simp [PyData.depthAll]
  | n :: ns => by
    have := deep_ints ns
    simp only [List.map_cons, PyData.depthAll, PyData.depth]
    omega
theorem deep_strs : ∀ ns : List Str, PyData.depthAll (ns.map .str) ≤ 1
  | [] => by simp [PyData.depthAll]
  | n :: ns => by
    have := deep_strs ns
    simp only [List.map_cons, PyData.depthAll, PyData.depth]
    omega
theorem lay_rows : ∀ ts : List (List Int), PyData.canLayAll0 (ts.map rowD) = true
  | [] => by simp [PyData.canLayAll0]
  | t :: ts => by simp [rowD, PyData.canLayAll0, PyData.canLay0, lay_ints t, lay_rows ts]
theorem deep_rows : ∀ ts : List (List Int), PyData.depthAll (ts.map rowD) ≤ 3
  | [] => by simp [PyData.depthAll]
  | t :: ts => by
    have h3 := deep_rows ts
    have h4 := deep_ints t
    simp only [List.map_cons, rowD, PyData.depthAll, PyData.depth]
    omega
theorem lay_tris : ∀ ts : List (Int × Int × Int), PyData.canLayAll0 (ts.map ctD) = true
  | [] => by simp [PyData.canLayAll0]
  | t :: ts => by simp [ctD, PyData.canLayAll0, PyData.canLay0, lay_tris ts]
theorem deep_tris : ∀ ts : List (Int × Int × Int), PyData.depthAll (ts.map ctD) ≤ 3
  | [] => by simp [PyData.depthAll]
  | t :: ts => by
    have h3 := deep_tris ts
    simp only [List.map_cons, ctD, PyData.depthAll, PyData.depth]
    omega
theorem row_shaped (t : List Int) : SeqAt.shaped (rowD t) = true := by
  have h4 := deep_ints t
  have h : (rowD t).depth ≤ 64 := by
    simp only [rowD, PyData.depth]
    omega
  show ((rowD t).canLay0 && decide ((rowD t).depth ≤ 64)) = true
  rw [decide_eq_true h, Bool.and_true]
  simp only [rowD, PyData.canLay0, lay_ints t]
theorem rows_shaped (ts : List (List Int)) : SeqAt.shaped (.tuple (ts.map rowD)) = true := by
  have h4 := deep_rows ts
  have h : (PyData.tuple (ts.map rowD)).depth ≤ 64 := by
    simp only [PyData.depth]
    omega
  show ((PyData.tuple (ts.map rowD)).canLay0 && decide ((PyData.tuple (ts.map rowD)).depth ≤ 64)) = true
  rw [decide_eq_true h, Bool.and_true]
  simp only [PyData.canLay0, lay_rows ts]
/-! ### x in t, t a tuple of data -/
def rInT (K : PySem.W.Frag) : R2 := fun x y H Q => ∃ d ds, Dp K H x d ∧ Dp K H y (.tuple ds) ∧ SeqAt.shaped d = true ∧ SeqAt.shaped (.tuple ds) = true ∧ Q (.bl (ds.any fun z => PyData.eqv z d)) H
theorem op_inT {X : Cx} (hu : X.A.units + 65 < cLine) : OpR X (compareOp .In) (rInT X.K) := by
  intro pins s σ H x y v u Q I rx ry h
  obtain ⟨d, ds, hd, he, sd, se, q⟩ := h
  obtain ⟨as, r1⟩ := Dp.reads I d x v hd rx
  obtain ⟨bs, r2⟩ := Dp.reads I (.tuple ds) y u he ry
  exact SeqAt.in_tuple_reads r2 r1 (SeqAt.canLay_of_shaped se) (SeqAt.canLay_of_shaped sd) (room_in_shaped sd hu) ⟨.bl _, H, I, rfl, q⟩
theorem rows_eqv (a b : List Int) : PyData.eqv (rowD a) (rowD b) = decide (a = b) := by
  unfold rowD
  rw [PyData.eqv]
  exact PySem.W.ked_eqvAll a b
end AW
/-! a dict comprehension that is given to a name -/
namespace AW
open PySem PySem.Spec PyProof.Rows L2 RZ
section
variable {X : Cx}
theorem ps_setDc {i : Nat} {y : Str} {py : Pos} {kx vx tg iter : Expr} {ifs : List Expr} {scope : Scope} {own : List (Str × Nat)} {pos spos : Pos} {wi : TI} {g : TG} {tt : TT} {tk tv : TE}
    (hc : X.calm = true) (hN : X.N.Nodup) (hy : X.N[i]? = some y) (hyl : X.env.scope.names.lookup y = some .local)
    (hsw : swapsWith (.DictComp kx vx [⟨tg, iter, ifs, 0⟩] scope pos) (some (.Name y py)) spos.line X.env = pure true)
    (hi : PI X tg iter wi) (ok : BlkOk X.N X.env.scope scope own)
    (hg : ∀ s H C cl fp, PG (X.blk s H scope (compEnvC scope cl C X.env) fp) tg g)
    (ht : ∀ s H C cl fp, PTs (X.blk s H scope (compEnvC scope cl C X.env) fp) ifs tt)
    (hk : ∀ s H C cl fp, PE (X.blk s H scope (compEnvC scope cl C X.env) fp) kx tk)
    (hv : ∀ s H C cl fp, PE (X.blk s H scope (compEnvC scope cl C X.env) fp) vx tv)
    (hs : ∀ x, foldedSetIterable iter X.env x = pure x := by intro _; rfl) :
    PS X (.Assign [.Name y py] (.DictComp kx vx [⟨tg, iter, ifs, 0⟩] scope pos) spos) (tAsg (tDc wi g tt tk tv (own.map (·.2))) (gName i)) := by
  constructor
  intro pins s σ H D I h
  have h2 : tDc wi g tt tk tv (own.map (·.2)) σ H (fun x H1 => D.nx (σ.set i (some x)) H1) := h
  have core := dc_core (use := some (assign (.Name y py) X.env)) (pos' := firstIterPos [⟨tg, iter, ifs, 0⟩] pos) (pos := pos) (Qf := fun _ s' => SP X pins D .next s') hc hN I hi ok hg ht hk hv hs h2 fun L C s' m H' I' q hn f => ?_
  · rw [exec_Assign_Name_used _ _ _ _ hsw]
    apply wpAny_bind
    apply wpAny_standAt
    apply wpAny_bind
    show wpAny _ X.A (do let _ ← comprehension (.DictComp kx vx [⟨tg, iter, ifs, 0⟩] scope pos) scope X.env (firstIterPos [⟨tg, iter, ifs, 0⟩] pos) newDict false (eval iter X.env) (some (assign (.Name y py) X.env))) _ _ s
    apply wpAny_bind
    exact thn core fun _ s' hq => wpAny_pure (wpAny_pure hq)
  · show wpAny _ _ (assign (.Name y py) X.env (.ref L)) _ _ _
    apply wpAny_assign_Name
    refine store_ok2 (v := V.ref L) I' hN hy (.inl hyl) rfl (fun s2 I2 z => ?_) (.inr hyl)
    obtain ⟨a, sb, ha⟩ := z
    obtain ⟨f0, f1, f2, f3, f4, f5⟩ := f
    have hCa : C ≠ a := by
      rcases ha with z | z
      · rw [z]
        exact f1
      · exact fun e => f4 y a z e.symm
    refine ⟨m, hn.sameBut sb hCa, fun h3 sb3 => ?_⟩
    exact ⟨σ.set i (some (.ref L)), H', I2.turned (t' := s2.toks) (fun b o hb e => (sb3.2 b hb).trans e) f0 f1 f3 f4 f5, q⟩
theorem sw_trueD {kx vx : Expr} {gs : List Comprehension} {scope : Scope} {pos py : Pos} {y : Str} {l : Nat} {env : Env} (hk : env.scope.kind = .function) (hy : env.scope.names.lookup y = some .local) (hl : (py.line == pos.line) = true)
    (ha : (scope.names.any fun (n, k) => n == y && (k == .local || k == .cell)) = false) : swapsWith (.DictComp kx vx gs scope pos) (some (.Name y py)) l env = pure true := by
  have e1 : env.kindOf y = some .local := hy
  have e2 : env.blockKind = .function := by
    unfold Env.blockKind
    rw [hk]
    rfl
  unfold swapsWith
  simp only [e2, e1, ha, Expr.pos, hl]
  rfl
end
/-! ### models -/
def itD (p : Str × Say) : PyData := .tuple [.str p.1, sayD p.2]
def sfD (p : Str × Say × Int) : PyData := .tuple [.str p.1, sayD p.2.1, .int p.2.2]
def domD (p : Str × List Int) : PyData := .tuple [.str p.1, .tuple (p.2.map .int)]
def modD (doms : List (Str × List Int)) (firm : List (Str × Say)) (soft : List (Str × Say × Int)) : PyData := .tuple [.tuple (doms.map domD), .tuple (firm.map itD), .tuple (soft.map sfD)]
/-- the world of a filling -/
def wOf (names : List Str) (f : List Int) (x : Str) : Int := f.getD (names.idxOf x) 0
theorem wOf_wt {names : List Str} {fl : List Int} (h : ∀ v ∈ fl, wt v) (x : Str) : wt (wOf names fl x) := by
  unfold wOf
  rw [List.getD_eq_getElem?_getD]
  cases e : fl[names.idxOf x]? with
  | none => exact ⟨by decide, by decide⟩
  | some v => exact h v (List.mem_of_getElem? e)
theorem is_mod {H : Hp} {v : V} {doms : List (Str × List Int)} {firm : List (Str × Say)} {soft : List (Str × Say × Int)} (h : Is H (modD doms firm soft) v) :
    ∃ a b c d xs ys zs, v = .ref a ∧ H a = some (.tup [.ref b, .ref c, .ref d]) ∧ H b = some (.tup xs) ∧ IsAll H (doms.map domD) xs ∧ H c = some (.tup ys) ∧ IsAll H (firm.map itD) ys ∧ H d = some (.tup zs) ∧ IsAll H (soft.map sfD) zs := by
  obtain ⟨a, vs, rfl, e, h⟩ := h.tup_inv
  cases h with
  | cons h1 h =>
    cases h with
    | cons h2 h =>
      cases h with
      | cons h3 h =>
        cases h
        obtain ⟨b, xs, rfl, e1, t1⟩ := h1.tup_inv
        obtain ⟨c, ys, rfl, e2, t2⟩ := h2.tup_inv
        obtain ⟨d, zs, rfl, e3, t3⟩ := h3.tup_inv
        exact ⟨a, b, c, d, xs, ys, zs, rfl, e, e1, t1, e2, t2, e3, t3⟩
theorem is_dom {H : Hp} {v : V} {p : Str × List Int} (h : Is H (domD p) v) : ∃ a b, v = .ref a ∧ H a = some (.tup [.str p.1, .ref b]) ∧ H b = some (.tup (p.2.map V.int)) := by
  obtain ⟨a, vs, rfl, e, h⟩ := h.tup_inv
  cases h with
  | cons h1 h =>
    cases h with
    | cons h2 h =>
      cases h
      cases h1
      obtain ⟨b, v2, rfl, e2, t2⟩ := h2.tup_inv
      rw [t2.ints_inv] at e2
      exact ⟨a, b, rfl, e, e2⟩
/-- an item of a model's lists: its name, its saying -/
def ItAt (H : Hp) (n : Str) (s : Say) (sv : V) (v : V) : Prop := ∃ a rest, v = .ref a ∧ H a = some (.tup (.str n :: sv :: rest)) ∧ Is H (sayD s) sv
theorem is_it {H : Hp} {v : V} {p : Str × Say} (h : Is H (itD p) v) : ∃ sv, ItAt H p.1 p.2 sv v := by
  obtain ⟨a, vs, rfl, e, h⟩ := h.tup_inv
  cases h with
  | cons h1 h =>
    cases h with
    | cons h2 h =>
      cases h
      cases h1
      exact ⟨_, a, _, rfl, e, h2⟩
theorem is_sf {H : Hp} {v : V} {p : Str × Say × Int} (h : Is H (sfD p) v) : ∃ sv, ItAt H p.1 p.2.1 sv v := by
  obtain ⟨a, vs, rfl, e, h⟩ := h.tup_inv
  cases h with
  | cons h1 h =>
    cases h with
    | cons h2 h =>
      cases h1
      exact ⟨_, a, _, rfl, e, h2⟩
/-- the items one after the other, their sayings' values beside -/
theorem items_of {H : Hp} : ∀ {all : List (Str × Say)} {xs : List V}, xs.length = all.length → (∀ (i : Nat) p x, all[i]? = some p → xs[i]? = some x → ∃ sv, ItAt H p.1 p.2 sv x) →
    ∃ svs : List V, svs.length = all.length ∧ ∀ (i : Nat) p x sv, all[i]? = some p → xs[i]? = some x → svs[i]? = some sv → ItAt H p.1 p.2 sv x
  | [], [], _, _ => ⟨[], rfl, fun i p x sv e => by simp at e⟩
  | p :: all, x :: xs, hl, h => by
    obtain ⟨sv, h0⟩ := h 0 p x rfl rfl
    obtain ⟨svs, h1, h2⟩ := items_of (all := all) (xs := xs) (Nat.succ.inj hl) fun i q y e1 e2 => h (i + 1) q y (by simpa using e1) (by simpa using e2)
    refine ⟨sv :: svs, by simp [h1], fun i q y tv e1 e2 e3 => ?_⟩
    cases i with
    | zero =>
      simp at e1 e2 e3
      subst e1 e2 e3
      exact h0
    | succ i => exact h2 i q y tv (by simpa using e1) (by simpa using e2) (by simpa using e3)
  | [], _ :: _, hl, _ => by simp at hl
  | _ :: _, [], hl, _ => by simp at hl
theorem nodup_inj {α : Type} {l : List α} (h : l.Nodup) {i j : Nat} {x : α} (a : l[i]? = some x) (b : l[j]? = some x) : i = j := L2.nd_ix h a b
end AW
/-! a dict that a comprehension makes, its keys tuples -/
namespace AW
open PySem PySem.Spec PyProof.Rows L2
section
variable {X : Cx} {pins : List (Addr × Obj)} {H : Hp} {s : Shared} {σ : L2.St}
/-- one key more -/
theorem dt_set {E : Value → Shared → Prop} {D b : Addr} {kvs : List (List L2.Key × V)} {k : List L2.Key} {v : V} {r : Value} {Q : Unit → Shared → Prop} (hu : X.A.units + 1 < cLine) (iv : Inv X pins σ H s) (at_ : H D = some (.dT kvs)) (ab : H b = some (.tup (k.map kV))) (room : kvs.length < sizeLine) (rv : RelV v r)
    (fin : ∀ t, Inv X pins σ (upd H D (.dT (putK kvs k v))) t → Q () t) : wpAny (model X.prog X.w) X.A (dictSet D (.ref b) r) Q E s := by
  obtain ⟨z, hd, xs, rel, dd⟩ := dt_of iv.hok at_
  have fits : xs.length ≤ sizeLine := by rw [← Paired.length rel]; exact z
  have more : (putK kvs k v).length ≤ sizeLine := by have := length_putK kvs k v; omega
  refine wpAny_dictSet_heap (hsz := fits) (show (tupleKind (mixKind X.prog X.w)).room X.A from Nat.lt_of_succ_lt hu) (key_of iv.hok ab) dd fun h' new same => fin _ ?_
  obtain ⟨q, es, ep, found, exact_, data, ents, _, nod⟩ := new
  refine d_write iv (by rw [at_]; exact True.intro) same ⟨q, found⟩ ⟨more, hd, _, (rel.put k ab rv).keeps fun c ys ec => ?_, q, es, ep, found, exact_, data, ents, nod⟩
  rw [upd_ne (ne_of ec at_ (fun z => nomatch z))]
  exact ec
/-- what each turn asks: D is the dict that grows -/
def DtTurns (J : It) (g : TG) (tt : TT) (tk tv : TE) (vs : List Nat) (σ : L2.St) (D : Addr) (W : Nat → Nat → Hp → Prop) (Z : Hp → Prop) : Prop := ∀ i m H, W i m H →
  (J.stop i H ∧ Z H) ∨ (J.go i H ∧ ∃ Nx : Hp → Prop, (∀ H', Nx H' → ∃ m', m' < m ∧ W (i + 1) m' H') ∧ ∀ x H', J.yld i H x H' → g x (wipe σ vs) H' fun σ2 H2 => wipe σ2 vs = wipe σ vs ∧ tt σ2 H2 fun b H3 =>
    if b = true then tk σ2 H3 fun y H4 => tv σ2 H4 fun z H5 => ∃ (b : Addr) (k : List L2.Key) (kvs : List (List L2.Key × V)), y = .ref b ∧ H5 b = some (.tup (k.map kV)) ∧ H5 D = some (.dT kvs) ∧ kvs.length < sizeLine ∧ Nx (upd H5 D (.dT (putK kvs k z))) else Nx H3)
def tDcT (wi : TI) (g : TG) (tt : TT) (tk tv : TE) (vs : List Nat) : TE := fun σ H Q => wi σ H fun J H1 => ∀ D, H1 D = none → ∃ W : Nat → Nat → Hp → Prop, (∃ m, W 0 m (upd H1 D (.dT []))) ∧ DtTurns J g tt tk tv vs σ D W (Q (.ref D))
/-- the block's turns, from its start on -/
theorem dt_loop {Z : Hp → Prop} {kx vx tg iter : Expr} {ifs : List Expr} {scope : Scope} {own : List (PySem.Str × Nat)} {pos : Pos} {J : It} {g : TG} {tt : TT} {tk tv : TE} {ce : Env} {s3 s4 : Shared} {H3 : Hp} {fp : List Addr} {it D : Addr} {tn : Nat → Heap → Prop} {W : Nat → Nat → Hp → Prop} {R : Result → Shared → Prop} {m0 : Nat}
    (hu : X.A.units + 1 < cLine) (calm : X.calm = true) (tu : Turn X.prog X.w X.K tg J fp it tn) (pg : PG (X.blk s3 H3 scope ce fp) tg g) (pt : PTs (X.blk s3 H3 scope ce fp) ifs tt) (pk : PE (X.blk s3 H3 scope ce fp) kx tk) (pe : PE (X.blk s3 H3 scope ce fp) vx tv)
    (iv : Inv (X.blk s3 H3 scope ce fp) [] (wipe σ (own.map (·.2))) H3 s4) (st : tn 0 s4.heap) (nf : ∀ b ∈ fp, H3 b = none) (w0 : W 0 m0 H3) (turns : DtTurns J g tt tk tv (own.map (·.2)) σ D W Z)
    (fin : ∀ t H', Inv (X.blk s3 H3 scope ce fp) [] (wipe σ (own.map (·.2))) H' t → Z H' → R (.ok .next) t) :
    codeAny (model X.prog X.w) X.A (.compLoop (.DictComp kx vx [⟨tg, iter, ifs, 0⟩] scope pos) 0 (.ref it) (.ref D) ce) R s4 := by
  have quiet : ∀ {τ : L2.St} {G : Hp} {t : Shared}, Inv (X.blk s3 H3 scope ce fp) [] τ G t → (∀ b ∈ fp, G b = none) → ∀ b ∈ fp, FpOk (X.blk s3 H3 scope ce fp) [] G b := fun {_ G _} jv nb b hb => by
    have q := jv.ok.exf b hb
    refine ⟨nb b hb, q.1, jv.ok.exfs b hb, .inl hb, fun x c e => q.2 x c e, fun p hp => ?_⟩
    exact nomatch (show p ∈ ([] : List (Addr × Obj)) ++ [] from hp)
  refine compLoop_anyD (fun m t => ∃ i G, W i m G ∧ tn i t.heap ∧ (∀ b ∈ fp, G b = none) ∧ Inv (X.blk s3 H3 scope ce fp) [] (wipe σ (own.map (·.2))) G t) ?_ m0 ⟨0, H3, w0, st, nf, iv⟩
  rintro m t ⟨i, G, wi, ti, ni, jv⟩
  cases turns i m G wi with
  | inl over =>
    refine thnF (tu.done (X.blk s3 H3 scope ce fp) rfl rfl rfl calm i [] t _ G (fun _ _ => False) jv (quiet jv ni) ti over.1) fun r t2 z => ?_
    cases z.1
    exact fin t2 G z.2 over.2
  | inr more =>
    obtain ⟨on, Nx, back, step⟩ := more
    refine thnF (tu.item (X.blk s3 H3 scope ce fp) rfl rfl rfl calm i [] t _ G (fun _ _ => False) jv (quiet jv ni) ti on) fun r t2 z => ?_
    obtain ⟨u, rfl, got⟩ := z
    refine thnF got fun _ t3 z => ?_
    obtain ⟨x, G3, jv3, rx, yx, ti3, ni3⟩ := z
    have hold := jv3.pinned (quiet jv3 ni3) (tu.obj _ _ ti3)
    -- what a turn leaves is where the next one begins
    have next : ∀ {τ : L2.St} {t' : Shared} {G' : Hp}, wipe τ (own.map (·.2)) = wipe σ (own.map (·.2)) → Inv (X.blk s3 H3 scope ce fp) ([] ++ pinsAt fp t3.heap) τ G' t' → Nx G' → ∃ m', m' < m ∧ ∃ i G, W i m' G ∧ tn i t'.heap ∧ (∀ b ∈ fp, G b = none) ∧ Inv (X.blk s3 H3 scope ce fp) [] (wipe σ (own.map (·.2))) G t' := by
      intro τ t' G' same kv nx
      obtain ⟨m', less, w'⟩ := back G' nx
      have pin : ∀ b ∈ fp, ∀ o, t3.heap.get? b = some o → t'.heap.get? b = some o ∧ G' b = none := fun b hb o e => by
        have q := kv.pin (b, o) (List.mem_append_right _ (List.mem_append_right _ (mem_pinsAt hb e)))
        exact ⟨q.1, q.2.1⟩
      refine ⟨m', less, i + 1, G', w', tu.keep _ _ _ ti3 fun b hb o e => (pin b hb o e).1, fun b hb => ?_, (kv.unpinned (pins := [])).weak ?_ fun j v e => ?_⟩
      · obtain ⟨o, e, _⟩ := tu.obj _ _ ti3 b hb
        exact (pin b hb o e).2
      · rw [← wipe_length (σ := τ) (vs := own.map (·.2)), same]
      · rw [← same] at e
        exact (wipe_some e).1
    refine thnF (pg.run _ t3 _ G3 x u _ hold rx (step x G3 yx)) fun _ t4 z => ?_
    obtain ⟨τ, G4, jv4, same, z⟩ := z
    refine thnF (pt.run _ t4 τ G4 _ jv4 z) fun b t5 z => ?_
    obtain ⟨G5, jv5, z⟩ := z
    cases b with
    | false => exact next same jv5 z
    | true =>
      refine thnF (pk.run _ t5 τ G5 _ jv5 z) fun kv t6 z => ?_
      obtain ⟨y, G6, jv6, ry, z⟩ := z
      refine thnF (pe.run _ t6 τ G6 _ jv6 z) fun vv t7 z => ?_
      obtain ⟨yv, G7, jv7, rv, bb, k, kvs, rfl, eb, eD, room, nx⟩ := z
      cases (show kv = Value.ref bb from ry)
      exact dt_set (X := X.blk s3 H3 scope ce fp) hu jv7 eD eb room rv fun t8 jv8 => next same jv8 nx
/-- {key: value for target in iter if ..} as a value -/
theorem pe_dcT {kx vx tg iter : Expr} {ifs : List Expr} {scope : Scope} {own : List (PySem.Str × Nat)} {pos : Pos} {wi : TI} {g : TG} {tt : TT} {tk tv : TE} (hu : X.A.units + 1 < cLine) (calm : X.calm = true) (nod : X.N.Nodup) (hi : PI X tg iter wi) (blk : BlkOk X.N X.env.scope scope own)
    (hg : ∀ t G C cl fp, PG (X.blk t G scope (compEnvC scope cl C X.env) fp) tg g) (ht : ∀ t G C cl fp, PTs (X.blk t G scope (compEnvC scope cl C X.env) fp) ifs tt) (hk : ∀ t G C cl fp, PE (X.blk t G scope (compEnvC scope cl C X.env) fp) kx tk) (he : ∀ t G C cl fp, PE (X.blk t G scope (compEnvC scope cl C X.env) fp) vx tv)
    (plain : ∀ x, foldedSetIterable iter X.env x = pure x := by intro _; rfl) : PE X (.DictComp kx vx [⟨tg, iter, ifs, 0⟩] scope pos) (tDcT wi g tt tk tv (own.map (·.2))) := by
  refine ⟨fun pins s σ H Q iv want => ?_⟩
  have cells : ∀ y ∈ scope.names, y.2 = .free → ∃ c, X.env.cells.lookup y.1 = some c := fun y hy e => (blk.free y hy e).elim (fun q => iv.ok.has _ (.inl q)) fun q => iv.ok.has _ (.inr q)
  rw [arm_eval_DictComp]
  refine wpAny_comprehension_free (use := none) rfl plain (closure_ok cells) blk.kind (fun y hy e => by rw [blk.uniq y hy, e]) (thn (hi.run pins s σ H _ iv want) fun xv s1 q1 => thn q1 fun itv s2 q2 => ?_)
  obtain ⟨it, fp, tn, J, H2, rfl, iv2, tu, st, far, q⟩ := q2
  refine wpAny_newObj_type (newEnv_comp ?_)
  have fresh : H2 s2.heap.objs.size = none := iv2.hok.fresh (Nat.le_refl _)
  obtain ⟨W, ⟨m0, w0⟩, turns⟩ := q s2.heap.objs.size fresh
  generalize hs3 : ({ s2 with heap := s2.heap.push { cls := .type "dict", data := .dict #[] } } : Shared) = s3
  generalize hD : s2.heap.objs.size = D at *
  have h3 : ∀ b o, s2.heap.get? b = some o → s3.heap.get? b = some o := fun b o e => by rw [← hs3]; exact Heap.get?_push_of_some _ e
  have z3 : s3.heap.objs.size = D + 1 := by rw [← hs3, ← hD]; exact Heap.size_push ..
  have iv3 : Inv X pins σ (upd H2 D (.dT [])) s3 := by
    rw [← hs3]
    refine iv2.laid (t' := s2.toks) (fun b o e => Heap.get?_push_of_some _ e) (Nat.le_of_eq hD) ?_
    rw [← hD]
    exact dt_empty s2.heap iv2.big
  have low : ∀ b ∈ fp, b < D := fun b hb => by
    obtain ⟨o, e, _⟩ := tu.obj _ _ st b hb
    rw [← hD]
    exact Heap.lt_size e
  generalize hH3 : upd H2 D (.dT []) = H3 at iv3 w0
  have far3 : ∀ b ∈ fp, FpOk X pins H3 b ∧ b < s3.heap.objs.size := fun b hb => by
    have lt := low b hb
    refine ⟨⟨?_, (far b hb).2⟩, by rw [z3]; exact Nat.lt_succ_of_lt lt⟩
    rw [← hH3, upd_ne (Nat.ne_of_lt lt)]
    exact (far b hb).1
  have iv4 := block_start iv3 blk nod far3
  generalize hcl : cellsFrom (s3.heap.objs.size + 1) scope.names (cloFrom X.env.cells scope.names []) = cl at iv4
  have loc : (compEnvC scope cl s3.heap.objs.size X.env).locals = s3.heap.objs.size := rfl
  have run := dt_loop (Z := Q (.ref D)) (iter := iter) (s4 := { s3 with heap := pushCells (s3.heap.push { cls := .type "dict", data := .dict #[] }) scope.names }) (pos := pos) (R := compPost (model X.prog X.w) X.A X.xe none (EP X pins σ Q) (.ref D) s3.heap.objs.size) hu calm tu
    (hg s3 H3 s3.heap.objs.size cl fp) (ht s3 H3 s3.heap.objs.size cl fp) (hk s3 H3 s3.heap.objs.size cl fp) (he s3 H3 s3.heap.objs.size cl fp) iv4 (tu.keep _ _ _ st fun b _ o e => pushCells_keeps _ _ _ _ (Heap.get?_push_of_some _ (h3 b o e))) (fun b hb => (far3 b hb).1.1) w0 turns fun t G jv z => ?_
  · subst hcl
    exact codeAny_compStart_dict run (tu.self X.A 0 _ _ _ (tu.keep _ _ _ st fun b _ o e => pushCells_keeps _ _ _ _ (Heap.get?_push_of_some _ (h3 b o e))) run)
  · -- out of the block
    have back : Inv X pins σ G t := iv3.call' (ch := fp) jv.os jv.base jv.hok jv.bare fun b hb => by
      have f := (far3 b hb).1.2
      exact ⟨f.2.2.1, f.1, f.2.2.2.1, f.2.2.2.2⟩
    have none_ : G s3.heap.objs.size = none := jv.free
    obtain ⟨m, ns, _⟩ := jv.loc
    refine ⟨m, ns, fun h'' sb => ?_⟩
    obtain ⟨f0, f1, f2, f3, f4, f5⟩ := iv3.fpOk (Nat.le_refl _) none_
    exact ⟨.ref D, G, back.turned (t' := t.toks) (fun b o hb e => (sb.2 b hb).trans e) f0 f1 f3 f4 f5, rfl, z⟩
end
section
variable {K : PySem.W.Frag} {g : TG} {tt : TT} {tk tv tl : TE} {vs : List Nat} {σ : L2.St} {Q : VK} {H H1 : Hp}
def kDcTT (K : PySem.W.Frag) (g : TG) (tt : TT) (tk tv : TE) (vs : List Nat) (σ : L2.St) (Q : VK) (x : V) (H1 : Hp) : Prop := ∃ a, x = .ref a ∧ (∃ xs, SqT K H1 a xs) ∧ ∀ D, H1 D = none → ∃ W : Nat → Nat → Hp → Prop, (∃ m, W 0 m (upd H1 D (.dT []))) ∧ DtTurns (Itt K a) g tt tk tv vs σ D W (Q (.ref D))
theorem w_dcTT (h : tl σ H (kDcTT K g tt tk tv vs σ Q)) : tDcT (iTup K tl) g tt tk tv vs σ H Q := h
/-- over a tuple, without a test: what each turn puts in -/
theorem kDcTT_i {p : Addr} {xs : List V} (hp : H1 p = some (.tup xs)) (hn : xs.length ≤ 1000) (key : Nat → List L2.Key) (val : Nat → V)
    (step : ∀ (i : Nat) x H (Kt : V → V → Hp → Prop), xs[i]? = some x → Adv [] H1 H → (∀ b H4, Adv [] H H4 → H4 b = some (.tup ((key i).map kV)) → Kt (.ref b) (val i) H4) → g x (wipe σ vs) H fun σ2 H2 => wipe σ2 vs = wipe σ vs ∧ tk σ2 H2 fun y H3 => tv σ2 H3 fun z H4 => Kt y z H4)
    (k : ∀ D H', Adv [] H1 H' → H' D = some (.dT ((List.range xs.length).foldl (fun kv i => putK kv (key i) (val i)) [])) → Q (.ref D) H') : kDcTT K g tYes tk tv vs σ Q (.ref p) H1 := by
  refine ⟨p, rfl, ⟨xs, SqT.of hp⟩, fun D hD => ?_⟩
  refine ⟨fun i m H => m = xs.length - i ∧ i ≤ xs.length ∧ Adv [] H1 H ∧ ((List.range i).foldl (fun kv i => putK kv (key i) (val i)) []).length ≤ i ∧ H D = some (.dT ((List.range i).foldl (fun kv i => putK kv (key i) (val i)) [])), ⟨xs.length, rfl, Nat.zero_le _, Adv.new (o := .dT []) hD, Nat.le_refl _, by rw [upd_same]; rfl⟩, ?_⟩
  rintro i m H ⟨rfl, hi, ad, hl, eD⟩
  have hp2 := SqT.of (K := K) (ad.tup _ _ hp)
  by_cases hlt : i < xs.length
  · refine .inr ⟨⟨xs, xs[i], hp2, by simp [hlt]⟩, fun H' => i + 1 ≤ xs.length ∧ Adv [] H1 H' ∧ ((List.range (i + 1)).foldl (fun kv i => putK kv (key i) (val i)) []).length ≤ i + 1 ∧ H' D = some (.dT ((List.range (i + 1)).foldl (fun kv i => putK kv (key i) (val i)) [])), fun H' p' => ⟨xs.length - (i + 1), by omega, rfl, p'⟩, fun x H' y => ?_⟩
    obtain ⟨e, y⟩ := y
    subst e
    refine step i x H' _ (y xs hp2) ad fun b H4 a4 eb => ?_
    have e4 := a4.keep _ _ (fun z => nomatch z) eD
    have er : (List.range (i + 1)).foldl (fun kv i => putK kv (key i) (val i)) [] = putK ((List.range i).foldl (fun kv i => putK kv (key i) (val i)) []) (key i) (val i) := by rw [List.range_succ, List.foldl_append]; rfl
    refine ⟨b, key i, _, rfl, eb, e4, Nat.lt_of_le_of_lt (show _ ≤ 1000 by omega) (by decide), hlt, (ad.trans a4).mut hD e4 (fun _ z => by cases z), ?_, ?_⟩
    · rw [er]
      exact Nat.le_trans (length_putK ..) (Nat.succ_le_succ hl)
    · rw [upd_same, er]
  · have e : i = xs.length := by omega
    subst e
    exact .inl ⟨⟨xs, hp2, Nat.le_refl _⟩, k D H ad eD⟩
end
end AW
/-! xs <= ys, lists of ints -/
namespace AW
open PySem PySem.Spec PyProof.Rows L2 RZ
open PySem.SeqAt (firstLt)
theorem firstLt_leL : ∀ (ns ms : List Int) (o : Nat) (N M : List Int), (∀ i, ns[i]? = N[o + i]?) → (∀ i, ms[i]? = M[o + i]?) →
    firstLt (fun j => decide (N.getD j 0 = M.getD j 0)) (fun j => decide (N.getD j 0 ≤ M.getD j 0)) (decide (ns.length ≤ ms.length)) ((List.range (min ns.length ms.length)).map (o + ·)) = leL ns ms
  | [], ms, o, N, M, _, _ => by
    rw [show min ([] : List Int).length ms.length = 0 by simp]
    show decide (0 ≤ ms.length) = leL [] ms
    rw [decide_eq_true (Nat.zero_le _)]
    cases ms <;> rfl
  | n :: ns, [], o, N, M, _, _ => by
    rw [show min (n :: ns).length ([] : List Int).length = 0 by simp]
    show decide ((n :: ns).length ≤ 0) = false
    rw [decide_eq_false (by simp)]
  | n :: ns, m :: ms, o, N, M, h1, h2 => by
    have ih := firstLt_leL ns ms (o + 1) N M (fun i => by rw [show o + 1 + i = o + (i + 1) by omega, ← h1]; rfl) (fun i => by rw [show o + 1 + i = o + (i + 1) by omega, ← h2]; rfl)
    have en : N.getD o 0 = n := by
      have := h1 0
      rw [Nat.add_zero] at this
      rw [List.getD_eq_getElem?_getD, ← this]
      rfl
    have em : M.getD o 0 = m := by
      have := h2 0
      rw [Nat.add_zero] at this
      rw [List.getD_eq_getElem?_getD, ← this]
      rfl
    have er : (List.range (min (n :: ns).length (m :: ms).length)).map (o + ·) = o :: (List.range (min ns.length ms.length)).map (o + 1 + ·) := by
      rw [show min (n :: ns).length (m :: ms).length = min ns.length ms.length + 1 by simp only [List.length_cons]; omega, List.range_succ_eq_map, List.map_cons, List.map_map, Nat.add_zero]
      congr 1
      refine List.map_congr_left fun k _ => ?_
      show o + (k + 1) = o + 1 + k
      omega
    have el : decide ((n :: ns).length ≤ (m :: ms).length) = decide (ns.length ≤ ms.length) := by
      rw [decide_eq_decide]
      simp only [List.length_cons]
      omega
    rw [er, el]
    show (if decide (N.getD o 0 = M.getD o 0) = true then _ else _) = if n = m then leL ns ms else decide (n < m)
    rw [en, em]
    by_cases h : n = m
    · rw [if_pos (decide_eq_true h), if_pos h]
      exact ih
    · rw [if_neg (by rw [decide_eq_false h]; decide), if_neg h, decide_eq_decide]
      omega
def rLeL (K : PySem.W.Frag) : R2 := fun x y H Q => ∃ (a b : Addr) (ns ms : List Int), x = .ref a ∧ y = .ref b ∧ SqL K H a (ns.map V.int) ∧ SqL K H b (ms.map V.int) ∧ Q (.bl (leL ns ms)) H
theorem op_leL {X : Cx} (hu : X.A.units < cLine) : OpR X (compareOp .LtE) (rLeL X.K) := by
  intro pins s σ H x y v u Q I rx ry h
  obtain ⟨a, b, ns, ms, rfl, rfl, ha, hb, q⟩ := h
  cases rx
  cases ry
  obtain ⟨its, r1, p1, _⟩ := I.list ha
  obtain ⟨its2, r2, p2, _⟩ := I.list hb
  have i1 : IntsAre its ns := Vals.ints r1
  have i2 : IntsAre its2 ms := Vals.ints r2
  have e1 : its.toArray.size = ns.length := by rw [List.size_toArray]; exact i1.length
  have e2 : its2.toArray.size = ms.length := by rw [List.size_toArray]; exact i2.length
  have at1 : ∀ j (h1 : j < its.toArray.size), ∃ t, its.toArray[j] = .int (ns.getD j 0) t := fun j h1 => PyProof.Rows.IntsAre.int_at i1 _ _ (by simp at h1; simp [h1])
  have at2 : ∀ j (h1 : j < its2.toArray.size), ∃ t, its2.toArray[j] = .int (ms.getD j 0) t := fun j h1 => PyProof.Rows.IntsAre.int_at i2 _ _ (by simp at h1; simp [h1])
  have R := SeqAt.RcOp.lists_le (A := X.A) (s := s) (e := fun j => decide (ns.getD j 0 = ms.getD j 0)) (r := fun j => decide (ns.getD j 0 ≤ ms.getD j 0)) p1.isList p2.isList hu (fun j h1 h2 => by
    obtain ⟨t, et⟩ := at1 j h1
    obtain ⟨t', et'⟩ := at2 j h2
    rw [et, et']
    have z : (ns.getD j 0 == ms.getD j 0) = decide (ns.getD j 0 = ms.getD j 0) := by
      rw [Bool.eq_iff_iff]; simp
    rw [← z]
    exact SeqAt.EqAt.int_int _ _ _ _) (fun j h1 h2 _ => by
    obtain ⟨t, et⟩ := at1 j h1
    obtain ⟨t', et'⟩ := at2 j h2
    rw [et, et']
    exact fun _ _ _ _ h => PyProof.Rows.le_int h)
  rw [e1, e2] at R
  have e3 := firstLt_leL ns ms 0 ns ms (fun i => by rw [Nat.zero_add]) (fun i => by rw [Nat.zero_add])
  rw [show (List.range (min ns.length ms.length)).map (0 + ·) = List.range (min ns.length ms.length) by
    rw [show ((0 : Nat) + ·) = id from funext fun k => Nat.zero_add k, List.map_id]] at e3
  rw [e3] at R
  have z : wpAny (model X.prog X.w) X.A (compareOp .LtE (.ref a) (.ref b)) (EP X pins σ Q) X.xe s := R X.prog X.w X.xe (EP X pins σ Q) ⟨.bl _, H, I, rfl, q⟩
  exact z
end AW
namespace AW
open PySem PySem.Spec PyProof.Rows L2 RZ
local macro_rules | `(tactic| walk_at "aw1") => `(tactic| first
  | (with_reducible refine w_seq ?_) | (with_reducible refine w_asg ?_) | (with_reducible refine w_gname ?_) | (with_reducible refine w_op ?_) | (with_reducible refine w_un ?_)
  | ((with_reducible refine' w_var ?h ?_); (case h => rfl)) | (with_reducible refine w_c ?_)
  | (with_reducible refine w_I0 ?_) | (with_reducible refine w_U ?_) | (with_reducible refine w_cb ?_) | (with_reducible refine w_nil ?_) | (with_reducible refine w_cons ?_) | (with_reducible refine w_call ?_)
  | (with_reducible refine w_test ?_) | (with_reducible refine w_B ?_) | (with_reducible refine w_bl ?_) | (with_reducible refine w_not ?_) | (with_reducible refine w_yes ?_) | (with_reducible refine iteT ?_) | (with_reducible refine iteF ?_) | (with_reducible refine w_and ?_) | (with_reducible refine w_or ?_)
  | (with_reducible refine w_andV ?_) | (with_reducible refine w_orV ?_) | (with_reducible refine w_notV ?_) | (with_reducible refine w_if ?_)
  | (with_reducible refine w_int1 ?_) | (with_reducible refine w_int1b ?_) | (with_reducible refine w_abs ?_) | (with_reducible refine w_max2 ?_) | (with_reducible refine w_min2 ?_)
  | ((with_reducible refine w_eq ?h ?_); (case h => rfl)) | ((with_reducible refine w_ne ?h ?_); (case h => rfl)) | (with_reducible refine w_isN ?_) | (with_reducible refine w_isB ?_) | (with_reducible refine w_chain ?_)
  | (with_reducible refine w_ret ?_) | (with_reducible refine w_drop ?_) | (with_reducible refine w_ifS ?_) | (with_reducible refine w_gsub ?_) | (with_reducible refine w_augS ?_) | (with_reducible refine w_ipI ?_) | (with_reducible refine w_next ?_)
  | (with_reducible refine w_forR ?_) | (with_reducible refine w_forR2 ?_) | (with_reducible refine w_forL ?_) | (with_reducible refine w_forT ?_) | (with_reducible refine w_lcR ?_) | (with_reducible refine w_lcL ?_) | (with_reducible refine w_lcT ?_) | (with_reducible refine w_sl ?_) | (with_reducible refine w_part ?_) | (with_reducible refine w_noPart ?_) | (with_reducible refine w_in ?_)
  | (with_reducible refine w_gcons ?_) | (with_reducible refine w_gnil ?_) | (with_reducible refine w_lc3 ?_) | (with_reducible refine w_dcZ ?_) | (with_reducible refine w_dcT ?_) | (with_reducible refine w_dg ?_) | (with_reducible refine w_callK ?_) | (with_reducible refine w_dput ?_) | (with_reducible refine w_tup1 ?_)
  | (with_reducible refine w_tup ?_) | (with_reducible refine w_lst ?_)
  | ((with_reducible refine w_I ?h ?_); (case h => first | (exact Or.inr ⟨by decide, by decide⟩) | (exact Or.inl ⟨by decide, by decide⟩) | (show (0 : Int) < _; decide) | (exact ⟨by decide, by decide, by decide⟩) | assumption)))
local macro_rules | `(tactic| walk_at "aw") => `(tactic| repeat (walk_at "aw1"))
/-! ### the draws: what each promises -/
def sp__law_mixed (_ : PySem.W.Frag) : Sp := fun vs H Q _ => ∃ a b : Int, vs = [.int a, .int b] ∧ ∀ n : Int, 0 ≤ n → Q (.int n) H
def sp__law_start (K : PySem.W.Frag) : Sp := fun vs H Q _ => ∃ (a : Addr) (ns : List Int), vs = [.ref a] ∧ SqL K H a (ns.map V.int) ∧ ns.length ≤ 63 ∧ ∀ st cs H', StOk st cs H' → Adv [] H H' → H st = none → Q (.ref st) H'
def sp__law_take (_ : PySem.W.Frag) : Sp := fun vs H Q _ => ∃ (st : Addr) (lim : Int), vs = [.ref st, .int lim] ∧ ∃ cs, StOk st cs H ∧ 0 < lim ∧ lim < 1073741824 ∧ ∀ n H', 0 ≤ n → n < lim → Go st cs H H' → Q (.int n) H'
def sp__law_pick (K : PySem.W.Frag) : Sp := fun vs H Q _ => ∃ (st p : Addr), vs = [.ref st, .ref p] ∧ ∃ cs xs, StOk st cs H ∧ ((SqL K H p xs ∧ p ≠ st) ∨ H p = some (.tup xs)) ∧ 0 < xs.length ∧ xs.length < 1000000 ∧ ∀ (i : Nat) v H', xs[i]? = some v → Go st cs H H' → Q v H'
def sp__law_shuffled (K : PySem.W.Frag) : Sp := fun vs H Q _ => ∃ (st p : Addr), vs = [.ref st, .ref p] ∧ ∃ cs xs, StOk st cs H ∧ SqL K H p xs ∧ p ≠ st ∧ xs.length ≤ 1000 ∧ ∀ q ys H', ys.Perm xs → H q = none → Go st cs H H' → H' q = some (.lst ys) → Q (.ref q) H'
def t__law_mixed  : TS := (tSeq (tAsg (tOp rModI (tCB rInt1 (tCons (tOp rAddI (tOp rAddI (tOp rMulI (tVar 0) (tC (.int 48271))) (tOp rMulI (tVar 1) (tC (.int 69621)))) (tC (.int 97))) tNil)) (tC (.int 2147483647))) (gName 2))
  (tSeq (tAsg (tOp rModI (tCB rInt1 (tCons (tOp rAddI (tOp rAddI (tOp rMulI (tVar 2) (tOp rAddI (tOp rAddI (tVar 2) (tOp rMulI (tC (.int 2)) (tVar 1))) (tC (.int 1)))) (tOp rMulI (tVar 1) (tC (.int 16807)))) (tC (.int 31))) tNil)) (tC (.int 2147483629))) (gName 3))
  (tRet (tOp rModI (tCB rInt1 (tCons (tOp rAddI (tOp rMulI (tVar 3) (tC (.int 40692))) (tVar 2)) tNil)) (tC (.int 2147483587))))))
def t__law_start (K : PySem.W.Frag) : TS := (tSeq (tAsg (tCB (rLen1 K) (tCons (tVar 0) tNil)) (gName 1))
  (tSeq (tFor (iList K (tSl (rSlL K) (tVar 0) tNoPart (tPart (tC (.int 63))))) (gName 2)
  (tAsg (tCall (sp__law_mixed K) [] E0 (tCons (tOp rAddI (tVar 1) (tVar 2)) (tCons (tC (.int 5)) tNil))) (gName 1)))
  (tRet (tLst (tCons (tC (.int 0)) (tCons (tC (.int 0)) (tCons (tC (.int 0)) (tCons (tVar 1) (tCons (tCB (rListOf K) (tCons (tSl (rSlL K) (tVar 0) tNoPart (tPart (tC (.int 63)))) tNil)) (tCons (tC (.int 0)) tNil))))))))))
def t__law_take (K : PySem.W.Frag) : TS := (tSeq (tAsg (tOp (rIxL K) (tVar 0) (tC (.int 4))) (gName 2))
  (tSeq (tAugS (tVar 0) (tC (.int 2)) (tC (.int 1)) (rIxL K) (ipI fun i j => i + j) rSetL)
  (tSeq (tIfS (tAnd (tTest (tOp rEq (tOp (rIxL K) (tVar 0) (tC (.int 0))) (tC (.int 0)))) (tTest (tOp rLtI (tOp (rIxL K) (tVar 0) (tC (.int 1))) (tCB (rLen1 K) (tCons (tVar 2) tNil))))) (tSeq (tAsg (tOp (rIxL K) (tVar 2) (tOp (rIxL K) (tVar 0) (tC (.int 1)))) (gName 3))
  (tSeq (tAugS (tVar 0) (tC (.int 1)) (tC (.int 1)) (rIxL K) (ipI fun i j => i + j) rSetL)
  (tSeq (tIfS (tTest (tOp rLtI (tCB rAbs (tCons (tVar 3) tNil)) (tOp rPowI (tC (.int 10)) (tC (.int 18))))) (tRet (tOp rModI (tCB rInt1 (tCons (tCall (sp__law_mixed K) [] E0 (tCons (tVar 3) (tCons (tOp (rIxL K) (tVar 0) (tC (.int 2))) tNil))) tNil)) (tVar 1))) tNext)
  (tSeq (tAsg (tCB rAbs (tCons (tVar 3) tNil)) (gSub (tVar 0) (tC (.int 0)) rSetL))
  (tAsg (tC (.int 60)) (gSub (tVar 0) (tC (.int 5)) rSetL)))))) tNext)
  (tSeq (tIfS (tTest (tOp rEq (tOp (rIxL K) (tVar 0) (tC (.int 0))) (tC (.int 0)))) (tRet (tOp rModI (tCB rInt1 (tCons (tCall (sp__law_mixed K) [] E0 (tCons (tOp (rIxL K) (tVar 0) (tC (.int 3))) (tCons (tOp (rIxL K) (tVar 0) (tC (.int 2))) tNil))) tNil)) (tVar 1))) tNext)
  (tSeq (tAsg (tOp rModI (tCB rInt1 (tCons (tOp (rIxL K) (tVar 0) (tC (.int 0))) tNil)) (tVar 1)) (gName 4))
  (tSeq (tAugS (tVar 0) (tC (.int 5)) (tC (.int 1)) (rIxL K) (ipI fun i j => i - j) rSetL)
  (tSeq (tAsg (tOp rMulI (tOp rDivI (tOp (rIxL K) (tVar 0) (tC (.int 0))) (tVar 1)) (tCB rInt1 (tCons (tOp rGtI (tOp (rIxL K) (tVar 0) (tC (.int 5))) (tC (.int 0))) tNil))) (gSub (tVar 0) (tC (.int 0)) rSetL))
  (tRet (tVar 4)))))))))
def t__law_pick (K : PySem.W.Frag) : TS := (tRet (tOp (rIxA K) (tVar 1) (tCall (sp__law_take K) [] E0 (tCons (tVar 0) (tCons (tCB (rLen1 K) (tCons (tVar 1) tNil)) tNil)))))
def t__law_shuffled (K : PySem.W.Frag) : TS := (tSeq (tAsg (tCB (rListOf K) (tCons (tVar 1) tNil)) (gName 2))
  (tSeq (tAsg (tLst tNil) (gName 3))
  (tSeq (tFor (iRng1 (tCons (tCB (rLen1 K) (tCons (tVar 1) tNil)) tNil)) (gName 4)
  (tSeq (tAsg (tCall (sp__law_take K) [] E0 (tCons (tVar 0) (tCons (tCB (rLen1 K) (tCons (tVar 2) tNil)) tNil))) (gName 5))
  (tSeq (tDrop (tBM K "list" rAppend (tVar 3) (tCons (tOp (rIxL K) (tVar 2) (tVar 5)) tNil)))
  (tAsg (tOp rCat (tSl (rSlL K) (tVar 2) tNoPart (tPart (tVar 5))) (tSl (rSlL K) (tVar 2) (tPart (tOp rAddI (tVar 5) (tC (.int 1)))) tNoPart)) (gName 2)))))
  (tRet (tVar 3)))))
theorem len__law_mixed {K : PySem.W.Frag} : ∀ (vs : List V) (H : Hp) (Q : VK) (E : XK), sp__law_mixed K vs H Q E → vs.length = 2 := fun vs H Q E h => by
  obtain ⟨_, _, rfl, _⟩ := h
  rfl
theorem pure__law_mixed {K : PySem.W.Frag} (vs : List V) (H : Hp) (Q : VK) (E : XK) (h : sp__law_mixed K vs H Q E) : t__law_mixed { nx := fun _ H' => Q .non H', rt := Q } (start ["number", "k", "first", "second"] vs) H := by
  obtain ⟨a, b, rfl, q⟩ := h
  show t__law_mixed _ [some (.int a), some (.int b), none, none] H
  unfold t__law_mixed
  walk_at "aw"
  refine w_I (.inl ⟨by omega, by omega⟩) ?_
  walk_at "aw"
  exact q _ (by omega)
theorem len__law_take {K : PySem.W.Frag} : ∀ (vs : List V) (H : Hp) (Q : VK) (E : XK), sp__law_take K vs H Q E → vs.length = 2 := fun vs H Q E h => by
  obtain ⟨_, _, rfl, _⟩ := h
  rfl
theorem pure__law_take {K : PySem.W.Frag} (vs : List V) (H : Hp) (Q : VK) (E : XK) (h : sp__law_take K vs H Q E) : t__law_take K { nx := fun _ H' => Q .non H', rt := Q } (start ["state", "limit", "cells", "cell", "value"] vs) H := by
  obtain ⟨st, lim, rfl, cs, ok, hl, hl2, q⟩ := h
  show t__law_take K _ [some (.ref st), some (.int lim), none, none, none] H
  have ok0 := ok
  obtain ⟨s0, s1, s2, s3, s5, ns, hst, h1, hne, hcs, hns⟩ := ok
  unfold t__law_take
  walk_at "aw"
  refine w_ixL (SqL.of hst) rfl ?_
  walk_at "aw"
  refine w_ixL (SqL.of hst) rfl ?_
  walk_at "aw"
  refine w_setL hst rfl ?_
  generalize hH1 : upd H st _ = H1
  have e1 : H1 st = some (.lst [.int s0, .int s1, .int (s2 + 1), .int s3, .ref cs, .int s5]) := by rw [← hH1, upd_same]; rfl
  have g1 : Go st cs H H1 := by
    rw [← hH1]
    exact ⟨Adv.lst hst, ⟨s0, s1, s2 + 1, s3, s5, ns, upd_same, h1, hne, by rw [upd_ne hne]; exact hcs, hns⟩⟩
  have c1 : H1 cs = some (.lst (ns.map V.int)) := g1.keep hne hcs
  clear hH1
  -- behind the first branch: s0 is 0 or not
  have rest : ∀ (H2 : Hp) (s0 s1 s5 : Int) (σ : L2.St) (y3 : Option V), σ = [some (.ref st), some (.int lim), some (.ref cs), y3, none] → 0 ≤ s1 → H2 st = some (.lst [.int s0, .int s1, .int (s2 + 1), .int s3, .ref cs, .int s5]) → Go st cs H H2 → (tSeq (tIfS (tTest (tOp rEq (tOp (rIxL K) (tVar 0) (tC (.int 0))) (tC (.int 0)))) (tRet (tOp rModI (tCB rInt1 (tCons (tCall (sp__law_mixed K) [] E0 (tCons (tOp (rIxL K) (tVar 0) (tC (.int 3))) (tCons (tOp (rIxL K) (tVar 0) (tC (.int 2))) tNil))) tNil)) (tVar 1))) tNext)
  (tSeq (tAsg (tOp rModI (tCB rInt1 (tCons (tOp (rIxL K) (tVar 0) (tC (.int 0))) tNil)) (tVar 1)) (gName 4))
  (tSeq (tAugS (tVar 0) (tC (.int 5)) (tC (.int 1)) (rIxL K) (ipI fun i j => i - j) rSetL)
  (tSeq (tAsg (tOp rMulI (tOp rDivI (tOp (rIxL K) (tVar 0) (tC (.int 0))) (tVar 1)) (tCB rInt1 (tCons (tOp rGtI (tOp (rIxL K) (tVar 0) (tC (.int 5))) (tC (.int 0))) tNil))) (gSub (tVar 0) (tC (.int 0)) rSetL))
  (tRet (tVar 4)))))) { nx := fun _ H' => Q .non H', rt := Q } σ H2 := by
    intro H2 s0 s1 s5 σ y3 eσ hs1 e2 g2
    subst eσ
    have hcs2 : H2 cs = some (.lst (ns.map V.int)) := g2.keep hne hcs
    walk_at "aw"
    refine w_ixL (SqL.of e2) rfl ?_
    walk_at "aw"
    refine w_iteB (fun _ => ?_) fun _ => ?_
    · walk_at "aw"
      refine w_ixL (SqL.of e2) rfl ?_
      walk_at "aw"
      refine w_ixL (SqL.of e2) rfl ?_
      walk_at "aw"
      refine ⟨_, _, rfl, fun n hn => ?_⟩
      walk_at "aw"
      exact q _ _ (Int.emod_nonneg _ (by omega)) (Int.emod_lt_of_pos _ hl) g2
    · walk_at "aw"
      refine w_ixL (SqL.of e2) rfl ?_
      walk_at "aw"
      refine w_ixL (SqL.of e2) rfl ?_
      walk_at "aw"
      refine w_setL e2 rfl ?_
      walk_at "aw"
      refine w_ixL SqL.upd rfl ?_
      walk_at "aw"
      refine w_I ⟨hl, hl2⟩ ?_
      walk_at "aw"
      refine w_ixL SqL.upd rfl ?_
      walk_at "aw"
      generalize hk : (if decide (0 < s5 - 1) = true then (1 : Int) else 0) = k
      have hk1 : -(2 ^ 64) < k ∧ k < 2 ^ 64 := by
        rw [← hk]
        split <;> exact ⟨by decide, by decide⟩
      refine w_I (.inr hk1) ?_
      walk_at "aw"
      refine w_setL upd_same rfl ?_
      walk_at "aw"
      refine q _ _ (Int.emod_nonneg _ (by omega)) (Int.emod_lt_of_pos _ hl) (g2.trans ?_)
      rw [upd_upd]
      exact ⟨Adv.lst e2, ⟨_, s1, s2 + 1, s3, s5 - 1, ns, upd_same, hs1, hne, by rw [upd_ne hne]; exact hcs2, hns⟩⟩
  walk_at "aw"
  refine w_ixL (SqL.of e1) rfl ?_
  walk_at "aw"
  refine w_iteB (fun hz => ?_) fun _ => ?_
  · walk_at "aw"
    refine w_ixL (SqL.of e1) rfl ?_
    walk_at "aw"
    refine w_lenL (SqL.of c1) ?_
    walk_at "aw"
    refine w_iteB (fun hlt => ?_) fun _ => ?_
    · rw [List.length_map] at hlt
      have hat : atI (ns.map V.int) s1 = some (.int (ns.getD s1.toNat 0)) := by
        have hj : s1.toNat < ns.length := by omega
        refine at_of (j := s1.toNat) (by omega) ?_
        rw [List.getElem?_map, List.getElem?_eq_getElem hj, List.getD_eq_getElem?_getD, List.getElem?_eq_getElem hj]
        rfl
      walk_at "aw"
      refine w_ixL (SqL.of e1) rfl ?_
      refine w_ixL (SqL.of c1) hat ?_
      generalize ns.getD s1.toNat 0 = cell
      walk_at "aw"
      refine w_ixL (SqL.of e1) rfl ?_
      walk_at "aw"
      refine w_setL e1 rfl ?_
      generalize hH2 : upd H1 st _ = H2
      have e2 : H2 st = some (.lst [.int s0, .int (s1 + 1), .int (s2 + 1), .int s3, .ref cs, .int s5]) := by rw [← hH2, upd_same]; rfl
      have g2 : Go st cs H H2 := g1.trans (by
        rw [← hH2]
        exact ⟨Adv.lst e1, ⟨s0, s1 + 1, s2 + 1, s3, s5, ns, upd_same, by omega, hne, by rw [upd_ne hne]; exact c1, hns⟩⟩)
      clear hH2
      walk_at "aw"
      refine w_iteB (fun _ => ?_) fun _ => ?_
      · walk_at "aw"
        refine w_ixL (SqL.of e2) rfl ?_
        walk_at "aw"
        refine ⟨_, _, rfl, fun n hn => ?_⟩
        walk_at "aw"
        exact q _ _ (Int.emod_nonneg _ (by omega)) (Int.emod_lt_of_pos _ hl) g2
      · walk_at "aw"
        refine w_setL e2 rfl ?_
        walk_at "aw"
        refine w_setL upd_same rfl ?_
        rw [upd_upd]
        refine rest _ (if cell < 0 then -cell else cell) (s1 + 1) 60 _ _ rfl (by omega) upd_same (g2.trans ?_)
        exact ⟨Adv.lst e2, ⟨_, s1 + 1, s2 + 1, s3, 60, ns, upd_same, by omega, hne, by rw [upd_ne hne]; exact g2.keep hne hcs, hns⟩⟩
    · exact rest _ _ _ _ _ _ rfl h1 e1 g1
  · exact rest _ _ _ _ _ _ rfl h1 e1 g1
theorem len__law_pick {K : PySem.W.Frag} : ∀ (vs : List V) (H : Hp) (Q : VK) (E : XK), sp__law_pick K vs H Q E → vs.length = 2 := fun vs H Q E h => by
  obtain ⟨_, _, rfl, _⟩ := h
  rfl
theorem pure__law_pick {K : PySem.W.Frag} (vs : List V) (H : Hp) (Q : VK) (E : XK) (h : sp__law_pick K vs H Q E) : t__law_pick K { nx := fun _ H' => Q .non H', rt := Q } (start ["state", "some"] vs) H := by
  obtain ⟨st, p, rfl, cs, xs, ok, hp, h0, hl, q⟩ := h
  show t__law_pick K _ [some (.ref st), some (.ref p)] H
  unfold t__law_pick
  walk_at "aw"
  rcases hp with ⟨hp, np⟩ | hp
  · refine w_lenL hp ?_
    walk_at "aw"
    refine ⟨st, _, rfl, cs, ok, by omega, by omega, fun n H' h1 h2 g => ?_⟩
    obtain ⟨v, hv⟩ := get_some (xs := xs) (i := n.toNat) (by omega)
    exact .inl (w_ixL (g.sql np hp) (at_nat h1 hv) (q _ _ _ hv g))
  · refine w_lenT (SqT.of hp) ?_
    walk_at "aw"
    refine ⟨st, _, rfl, cs, ok, by omega, by omega, fun n H' h1 h2 g => ?_⟩
    obtain ⟨v, hv⟩ := get_some (xs := xs) (i := n.toNat) (by omega)
    exact .inr (w_ixT (SqT.of (g.tk _ _ hp)) (at_nat h1 hv) (q _ _ _ hv g))
theorem len__law_start {K : PySem.W.Frag} : ∀ (vs : List V) (H : Hp) (Q : VK) (E : XK), sp__law_start K vs H Q E → vs.length = 1 := fun vs H Q E h => by
  obtain ⟨_, _, rfl, _⟩ := h
  rfl
theorem pure__law_start {K : PySem.W.Frag} (vs : List V) (H : Hp) (Q : VK) (E : XK) (h : sp__law_start K vs H Q E) : t__law_start K { nx := fun _ H' => Q .non H', rt := Q } (start ["script", "seed", "cell"] vs) H := by
  obtain ⟨a, ns, rfl, hs, hl, q⟩ := h
  show t__law_start K _ [some (.ref a), none, none] H
  have hcut : cutV (ns.map V.int) none (some 63) = ns.map V.int := by
    rw [cut_to _ (by omega)]
    exact List.take_of_length_le (by rw [List.length_map]; exact hl)
  unfold t__law_start
  walk_at "aw"
  refine w_lenL hs ?_
  walk_at "aw"
  refine w_slL hs fun r H1 nr a1 e1 => ?_
  rw [hcut] at e1
  refine kForL_i (xs := ns.map V.int) (fun i σ H' => ∃ s y, σ = [some (.ref a), some (.int s), y] ∧ H' = H1) (SqL.of e1) ⟨_, _, rfl, rfl⟩ (fun i σ H' hi p => ?_) (fun i v σ H' hv p => ?_) fun σ H' p => ?_
  · obtain ⟨_, _, _, rfl⟩ := p
    exact SqL.of e1
  · obtain ⟨s, y, rfl, rfl⟩ := p
    rw [List.getElem?_map] at hv
    obtain ⟨n, hn, rfl⟩ := Option.map_eq_some_iff.mp hv
    walk_at "aw"
    exact ⟨_, _, rfl, fun m hm => ⟨m, _, rfl, rfl⟩⟩
  · obtain ⟨s, y, rfl, rfl⟩ := p
    walk_at "aw"
    refine w_slL (a1.sql (fun z => nomatch z) hs) fun r2 H2 nr2 a2 e2 => ?_
    rw [hcut] at e2
    walk_at "aw"
    refine w_listOf (.inl (SqL.of e2)) fun r3 H3 nr3 a3 e3 => ?_
    walk_at "aw"
    refine w_lstD (by simp) fun st H4 nr4 a4 e4 => ?_
    have h3 : H st = none := a1.free (fun z => nomatch z) (a2.free (fun z => nomatch z) (a3.free (fun z => nomatch z) nr4))
    exact q st r3 H4 ⟨0, 0, 0, s, 0, ns, e4, by omega, ne_of_none e3 nr4, a4.keep _ _ (fun z => nomatch z) e3, hl⟩ (a1.trans (a2.trans (a3.trans a4))) h3
theorem len__law_shuffled {K : PySem.W.Frag} : ∀ (vs : List V) (H : Hp) (Q : VK) (E : XK), sp__law_shuffled K vs H Q E → vs.length = 2 := fun vs H Q E h => by
  obtain ⟨_, _, rfl, _⟩ := h
  rfl
theorem pure__law_shuffled {K : PySem.W.Frag} (vs : List V) (H : Hp) (Q : VK) (E : XK) (h : sp__law_shuffled K vs H Q E) : t__law_shuffled K { nx := fun _ H' => Q .non H', rt := Q } (start ["state", "some", "left", "found", "k", "at"] vs) H := by
  obtain ⟨st, p, rfl, cs, xs, ok, hp, np, hl, q⟩ := h
  show t__law_shuffled K _ [some (.ref st), some (.ref p), none, none, none, none] H
  unfold t__law_shuffled
  walk_at "aw"
  refine w_listOf (.inl hp) fun l H1 nl a1 e1 => ?_
  walk_at "aw"
  refine w_lstD (by simp) fun f H2 nf a2 e2 => ?_
  have g2 : Go st cs H H2 := (Go.of ok a1).new a2
  have nf0 : H f = none := a1.free (fun z => nomatch z) nf
  walk_at "aw"
  refine w_lenL (g2.sql np hp) ?_
  refine kForR_i (n := xs.length) (by omega) (fun i σ H' => ∃ y1 y2 l found left, σ = [some (.ref st), some (.ref p), some (.ref l), some (.ref f), y1, y2] ∧ Go st cs H H' ∧ H' f = some (.lst found) ∧ H' l = some (.lst left) ∧ H l = none ∧ l ≠ f ∧ found.length = i ∧ (found ++ left).Perm xs)
    ⟨none, none, l, [], xs, rfl, g2, e2, a2.keep _ _ (fun z => nomatch z) e1, nl, ne_of_none e1 nf, rfl, .refl _⟩ (fun i σ H' hi p => ?_) fun σ H' p => ?_
  · obtain ⟨y1, y2, l, found, left, rfl, g, ef, el, nl0, hlf, hlen, hperm⟩ := p
    have hll : left.length = xs.length - i := by
      have := hperm.length_eq
      rw [List.length_append] at this
      omega
    have nlst : l ≠ st := (ok.ne nl0).1
    have nfst : f ≠ st := (ok.ne nf0).1
    walk_at "aw"
    refine w_lenL (SqL.of el) ?_
    walk_at "aw"
    refine ⟨st, _, rfl, cs, g.ok, by omega, by omega, fun n H3 h1 h2 g3 => ?_⟩
    obtain ⟨v, hv⟩ := get_some (xs := left) (i := n.toNat) (by omega)
    have ef3 := g3.keep nfst ef
    have el3 := g3.keep nlst el
    walk_at "aw"
    refine w_app rfl ef3 ?_
    walk_at "aw"
    refine w_ixL (SqL.of el3) (at_nat h1 hv) ?_
    walk_at "aw"
    refine w_append ef3 (by omega) ?_
    have g4 := (g.trans g3).mutL (o := .lst (found ++ [v])) ok nf0 ef3
    have el4 : (upd H3 f (.lst (found ++ [v]))) l = some (.lst left) := by rw [upd_ne hlf]; exact el3
    walk_at "aw"
    refine w_slL (SqL.of el4) fun r H5 nr a5 e5 => ?_
    walk_at "aw"
    refine w_slL (SqL.of (a5.keep _ _ (fun z => nomatch z) el4)) fun r2 H6 nr2 a6 e6 => ?_
    walk_at "aw"
    rw [cut_to _ h1] at e5
    rw [cut_from _ (by omega)] at e6
    refine w_cat (a6.keep _ _ (fun z => nomatch z) e5) e6 (by rw [List.length_take, List.length_drop]; omega) fun r3 H7 nr3 a7 e7 => ?_
    walk_at "aw"
    have g7 : Go st cs H H7 := ((g4.new a5).new a6).new a7
    have ef7 : H7 f = some (.lst (found ++ [v])) := a7.keep _ _ (fun z => nomatch z) (a6.keep _ _ (fun z => nomatch z) (a5.keep _ _ (fun z => nomatch z) upd_same))
    have hn1 : (n + 1).toNat = n.toNat + 1 := by omega
    rw [hn1] at e7
    refine ⟨_, _, r3, _, _, rfl, g7, ef7, e7, ?_, (ne_of_none (a6.keep _ _ (fun z => nomatch z) (a5.keep _ _ (fun z => nomatch z) upd_same)) nr3).symm, by rw [List.length_append, hlen]; rfl, ?_⟩
    · exact ((g4.new a5).new a6).free ok nr3
    · refine List.Perm.trans ?_ hperm
      rw [List.append_assoc]
      refine List.Perm.append_left found ?_
      have hlt : n.toNat < left.length := (List.getElem?_eq_some_iff.mp hv).1
      have hd : left = left.take n.toNat ++ (v :: left.drop (n.toNat + 1)) := by
        have e := List.take_append_drop n.toNat left
        rw [List.drop_eq_getElem_cons hlt, (List.getElem?_eq_some_iff.mp hv).2] at e
        exact e.symm
      have hm := List.perm_middle (a := v) (l₁ := left.take n.toNat) (l₂ := left.drop (n.toNat + 1))
      rw [← hd] at hm
      exact hm.symm
  · obtain ⟨y1, y2, l, found, left, rfl, g, ef, el, nl0, hlf, hlen, hperm⟩ := p
    have hleft : left = [] := by
      have := hperm.length_eq
      rw [List.length_append] at this
      exact List.length_eq_zero_iff.mp (by omega)
    subst hleft
    rw [List.append_nil] at hperm
    walk_at "aw"
    exact q f found H' hperm nf0 g ef
end AW
namespace AW
open PySem PySem.Spec PyProof.Rows L2 RZ
local macro_rules | `(tactic| walk_at "aw1") => `(tactic| first
  | (with_reducible refine w_seq ?_) | (with_reducible refine w_asg ?_) | (with_reducible refine w_gname ?_) | (with_reducible refine w_op ?_) | (with_reducible refine w_un ?_)
  | ((with_reducible refine' w_var ?h ?_); (case h => rfl)) | (with_reducible refine w_c ?_)
  | (with_reducible refine w_I0 ?_) | (with_reducible refine w_U ?_) | (with_reducible refine w_cb ?_) | (with_reducible refine w_nil ?_) | (with_reducible refine w_cons ?_) | (with_reducible refine w_call ?_)
  | (with_reducible refine w_test ?_) | (with_reducible refine w_B ?_) | (with_reducible refine w_bl ?_) | (with_reducible refine w_not ?_) | (with_reducible refine w_yes ?_) | (with_reducible refine iteT ?_) | (with_reducible refine w_nT ?_) | (with_reducible refine w_nF ?_) | (with_reducible refine iteF ?_) | (with_reducible refine w_and ?_) | (with_reducible refine w_or ?_)
  | (with_reducible refine w_andV ?_) | (with_reducible refine w_orV ?_) | (with_reducible refine w_notV ?_) | (with_reducible refine w_if ?_)
  | (with_reducible refine w_int1 ?_) | (with_reducible refine w_int1b ?_) | (with_reducible refine w_abs ?_) | (with_reducible refine w_max2 ?_) | (with_reducible refine w_min2 ?_)
  | ((with_reducible refine w_eq ?h ?_); (case h => rfl)) | ((with_reducible refine w_ne ?h ?_); (case h => rfl)) | (with_reducible refine w_isN ?_) | (with_reducible refine w_isB ?_) | (with_reducible refine w_chain ?_)
  | (with_reducible refine w_ret ?_) | (with_reducible refine w_drop ?_) | (with_reducible refine w_ifS ?_) | (with_reducible refine w_gsub ?_) | (with_reducible refine w_augS ?_) | (with_reducible refine w_ipI ?_) | (with_reducible refine w_next ?_)
  | (with_reducible refine w_forR ?_) | (with_reducible refine w_forR2 ?_) | (with_reducible refine w_forL ?_) | (with_reducible refine w_forT ?_) | (with_reducible refine w_lcR ?_) | (with_reducible refine w_lcL ?_) | (with_reducible refine w_lcT ?_) | (with_reducible refine w_sl ?_) | (with_reducible refine w_part ?_) | (with_reducible refine w_noPart ?_) | (with_reducible refine w_in ?_)
  | (with_reducible refine w_gcons ?_) | (with_reducible refine w_gnil ?_) | (with_reducible refine w_lc3 ?_) | (with_reducible refine w_dcZ ?_) | (with_reducible refine w_dcT ?_) | (with_reducible refine w_dg ?_) | (with_reducible refine w_callK ?_) | (with_reducible refine w_dput ?_) | (with_reducible refine w_tup1 ?_)
  | (with_reducible refine w_tup ?_) | (with_reducible refine w_lst ?_)
  | ((with_reducible refine w_I ?h ?_); (case h => first | (exact Or.inr ⟨by decide, by decide⟩) | (exact Or.inl ⟨by decide, by decide⟩) | (show (0 : Int) < _; decide) | (exact ⟨by decide, by decide, by decide⟩) | assumption)))
local macro_rules | `(tactic| walk_at "aw") => `(tactic| repeat (walk_at "aw1"))
/-! ### the program's functions: what each promises -/
def sp__product_holds (_ : PySem.W.Frag) : Sp := fun vs H Q _ => ∃ (v : V) (d : Addr), vs = [v, .ref d] ∧ ∃ x y z names w, Is H (sayD (.prod x y z)) v ∧ WD H d names w ∧ (∀ x ∈ names, wt (w x)) ∧ (∀ u ∈ (Say.prod x y z).names, u ∈ names) ∧ ∀ H', Adv [] H H' → Q (.bl (holdP w (.prod x y z))) H'
def sp__ahead_holds (_ : PySem.W.Frag) : Sp := fun vs H Q _ => ∃ (v : V) (d : Addr), vs = [v, .ref d] ∧ ∃ xs ys names w, Is H (sayD (.ahead xs ys)) v ∧ WD H d names w ∧ (Say.ahead xs ys).ok ∧ (∀ u ∈ (Say.ahead xs ys).names, u ∈ names) ∧ ∀ H', Adv [] H H' → Q (.bl (holdP w (.ahead xs ys))) H'
def sp__machine_holds (_ : PySem.W.Frag) : Sp := fun vs H Q _ => ∃ (v : V) (d : Addr), vs = [v, .ref d] ∧ ∃ xs s mv en names w, Is H (sayD (.mach xs s mv en)) v ∧ WD H d names w ∧ (Say.mach xs s mv en).ok ∧ (∀ u ∈ (Say.mach xs s mv en).names, u ∈ names) ∧ ∀ H', Adv [] H H' → Q (.bl (holdP w (.mach xs s mv en))) H'
/-- the stands that are met, as far as one can go -/
def pathM (mv : List (Int × Int × Int)) : Int → List Int → List Int
  | here, [] => [here]
  | here, v :: vs => here :: match mv.find? (isAt here v) with
    | none => []
    | some m => pathM mv m.2.2 vs
def sp_path_of (_ : PySem.W.Frag) : Sp := fun vs H Q _ => ∃ (v : V) (d : Addr), vs = [v, .ref d] ∧ ∃ xs s mv en names w, Is H (sayD (.mach xs s mv en)) v ∧ WD H d names w ∧ (Say.mach xs s mv en).ok ∧ (∀ u ∈ xs, u ∈ names) ∧ ∀ p H', Adv [] H H' → H' p = some (.lst ((pathM mv s (xs.map w)).map V.int)) → Q (.ref p) H'
def mvKey (m : Int × Int × Int) : List L2.Key := [Sum.inl m.1, Sum.inl m.2.1]
def mvD : Int × Int × Int := (0, 0, 0)
def movesK (mv : List (Int × Int × Int)) (n : Nat) : List (List L2.Key × V) := (List.range n).foldl (fun kv i => putK kv (mvKey (mv.getD i mvD)) (V.int (mv.getD i mvD).2.2)) []
theorem moves_val {mv : List (Int × Int × Int)} (hn : (mv.map fun m => (m.1, m.2.1)).Nodup) (a v : Int) : ∀ n, n ≤ mv.length → valV (movesK mv n) [Sum.inl a, Sum.inl v] = ((mv.take n).find? (isAt a v)).map fun m => V.int m.2.2
  | 0, _ => rfl
  | n + 1, h => by
    have ih := moves_val hn a v n (by omega)
    have er : movesK mv (n + 1) = putK (movesK mv n) (mvKey (mv.getD n mvD)) (V.int (mv.getD n mvD).2.2) := by
      unfold movesK
      rw [List.range_succ, List.foldl_append]
      rfl
    obtain ⟨m, hm⟩ := get_some (xs := mv) (i := n) (by omega)
    rw [er, valV_put, getD_of hm, List.take_add_one, hm, List.find?_append]
    by_cases e : isAt a v m = true
    · have e1 : m.1 = a ∧ m.2.1 = v := by
        unfold isAt at e
        rw [Bool.and_eq_true, decide_eq_true_iff, decide_eq_true_iff] at e
        exact e
      have e2 : (mv.take n).find? (isAt a v) = none := by
        rw [List.find?_eq_none]
        intro x hx hc
        unfold isAt at hc
        rw [Bool.and_eq_true, decide_eq_true_iff, decide_eq_true_iff] at hc
        obtain ⟨j, hj, rfl⟩ := List.mem_iff_getElem.mp hx
        rw [List.length_take] at hj
        rw [List.getElem_take] at hc
        have h1 : (mv.map fun m => (m.1, m.2.1))[j]? = some (a, v) := by
          rw [List.getElem?_map, List.getElem?_eq_getElem (by omega)]
          show some ((mv[j]).1, (mv[j]).2.1) = some (a, v)
          rw [hc.1, hc.2]
        have h2 : (mv.map fun m => (m.1, m.2.1))[n]? = some (a, v) := by
          rw [List.getElem?_map, hm]
          show some (m.1, m.2.1) = some (a, v)
          rw [e1.1, e1.2]
        have := nodup_inj hn h1 h2
        omega
      rw [e2, if_pos (by unfold mvKey; rw [e1.1, e1.2])]
      simp [e]
    · have e1 : ¬ ([Sum.inl a, Sum.inl v] : List L2.Key) = mvKey m := fun z => e (by
        unfold mvKey at z
        simp only [List.cons.injEq, Sum.inl.injEq, and_true] at z
        unfold isAt
        rw [decide_eq_true z.1.symm, decide_eq_true z.2.symm]
        rfl)
      rw [if_neg e1, ih]
      cases hf : (mv.take n).find? (isAt a v) <;> simp [e]
def sp__met (K : PySem.W.Frag) : Sp := fun vs H Q _ => ∃ (s : Int) (p : Addr), vs = [.int s, .ref p] ∧ ∃ (nx : Addr) (mv : List (Int × Int × Int)) (vals : List Int) (ts : List V), H p = some (.lst ts) ∧ ts.length = vals.length ∧ (∀ (i : Nat) v t, vals[i]? = some v → ts[i]? = some t → ∃ a, t = .ref a ∧ H a = some (.tup [.int v, .ref nx])) ∧ H nx = some (.dT (movesK mv mv.length)) ∧ (mv.map fun m => (m.1, m.2.1)).Nodup ∧ vals.length ≤ 100 ∧
  ∀ r H', Adv [] H H' → H' r = some (.lst ((pathM mv s vals).map V.int)) → Q (.ref r) H'
theorem path_walk (mv : List (Int × Int × Int)) : ∀ (vs : List Int) (here : Int), (walkM mv here vs = none ↔ ¬ vs.length < (pathM mv here vs).length) ∧ ∀ q, walkM mv here vs = some q → (pathM mv here vs).getLast? = some q
  | [], here => by
    constructor
    · constructor
      · intro h; cases h
      · intro h; exact absurd (by simp [pathM]) h
    · intro q h
      cases h
      rfl
  | v :: vs, here => by
    unfold walkM pathM
    cases hf : mv.find? (isAt here v) with
    | none => simp
    | some m =>
      obtain ⟨h1, h2⟩ := path_walk mv vs m.2.2
      constructor
      · show walkM mv m.2.2 vs = none ↔ _
        rw [h1]
        simp
      · intro q hq
        have h3 := h2 q hq
        show (here :: pathM mv m.2.2 vs).getLast? = some q
        cases hp : pathM mv m.2.2 vs with
        | nil => rw [hp] at h3; cases h3
        | cons a l =>
          rw [hp] at h3
          rw [List.getLast?_cons_cons]
          exact h3
theorem map_range {α β : Type} (xs : List α) (d : α) (f : α → β) : (List.range xs.length).map (fun i => f (xs.getD i d)) = xs.map f := by
  refine List.ext_getElem? fun i => ?_
  rw [List.getElem?_map, List.getElem?_map]
  by_cases h : i < xs.length
  · rw [List.getElem?_range h, List.getElem?_eq_getElem h]
    show some (f (xs.getD i d)) = some (f xs[i])
    rw [getD_of (List.getElem?_eq_getElem h)]
  · rw [List.getElem?_eq_none (by rw [List.length_range]; omega), List.getElem?_eq_none (by omega)]
    rfl
theorem filter_true {α : Type} (l : List α) : l.filter (fun _ => true) = l := List.filter_eq_self.mpr fun _ _ => rfl
theorem at_lastM {pre : List Int} {c : Int} : atI ((pre ++ [c]).map V.int) (-1) = some (.int c) := by
  unfold atI ixN
  rw [if_neg (by omega), List.length_map, List.length_append, List.length_singleton, if_pos (by omega), Option.bind_some, show ((-1 : Int) + ((pre.length + 1 : Nat) : Int)).toNat = pre.length by omega, List.getElem?_map, List.getElem?_append_right (Nat.le_refl _), Nat.sub_self]
  rfl
def kDNin (x y : V) (H : Hp) (Q : VK) : Prop := ∃ a o, x = .ref a ∧ DGet H a y o ∧ Q (.bl (!o.isSome)) H
theorem w_dnin {ty td : TE} {σ : L2.St} {H : Hp} {Q : VK} (h : ty σ H fun y H1 => td σ H1 fun x H2 => kDNin x y H2 Q) : tDNotIn ty td σ H Q := h
theorem kDNin_t {d b : Addr} {kvs : List (List L2.Key × V)} {k : List L2.Key} {H : Hp} {Q : VK} (h : H d = some (.dT kvs)) (hb : H b = some (.tup (k.map kV))) (q : Q (.bl (!(valV kvs k).isSome)) H) : kDNin (.ref d) (.ref b) H Q := ⟨d, _, rfl, DGet.t h hb, q⟩
theorem kDGet_t {d b : Addr} {kvs : List (List L2.Key × V)} {k : List L2.Key} {v : V} {H : Hp} {Q : VK} (h : H d = some (.dT kvs)) (hb : H b = some (.tup (k.map kV))) (e : valV kvs k = some v) (q : Q v H) : kDGet (.ref d) (.ref b) H Q := ⟨d, v, rfl, e ▸ DGet.t h hb, q⟩
/-- a comprehension that leaves the state alone; R tells of each item -/
theorem kLc_rel {J : It} {n : Nat} {G : Hp → Prop} {Y : Nat → Hp → V → Hp → Prop} {g : TG} {te : TE} {vs : List Nat} {σ : L2.St} {Q : VK} {H1 : Hp} (wk : Walk J n G Y) (hn : n ≤ 100000) (hG : ∀ H', Adv [] H1 H' → G H') (R : Nat → V → Hp → Prop) (mono : ∀ i v H H', TK H H' → R i v H → R i v H')
    (step : ∀ i x H H' (Kt : V → Hp → Prop), i < n → Adv [] H1 H → Y i H x H' → (∀ y H4, Adv [] H H4 → R i y H4 → Kt y H4) → g x (wipe σ vs) H' fun σ2 H2 => wipe σ2 vs = wipe σ vs ∧ te σ2 H2 Kt)
    (k : ∀ p H' ys, H1 p = none → Adv [] H1 H' → H' p = some (.lst ys) → ys.length = n → (∀ (i : Nat) v, ys[i]? = some v → R i v H') → Q (.ref p) H') : kLc J g tYes te vs σ Q H1 := by
  intro D hD
  refine lc_it wk (fun i H => Adv [] H1 H ∧ ∃ ys, H D = some (.lst ys) ∧ ys.length = i ∧ ∀ (m : Nat) v, ys[m]? = some v → R m v H) ⟨Adv.new hD, [], upd_same, rfl, fun m v e => by simp at e⟩ (fun i H _ p => hG H p.1)
    (fun i x H H' hi p y => ?_) fun H p => ?_
  · obtain ⟨g1, ys, e1, hl, hr⟩ := p
    refine step i x H H' _ hi g1 y fun v H4 g4 r4 => ?_
    have e4 : H4 D = some (.lst ys) := g4.keep _ _ (fun z => nomatch z) e1
    have t5 : TK H4 (upd H4 D (.lst (ys ++ [v]))) := (Adv.lst e4).tup
    refine ⟨ys, e4, Nat.lt_of_lt_of_le (show ys.length < 100001 by omega) (by decide), (g1.trans g4).mut hD e4 (fun _ z => by cases z), ys ++ [v], upd_same, by rw [List.length_append, hl]; rfl, fun m w e => ?_⟩
    by_cases hm : m < ys.length
    · rw [List.getElem?_append_left hm] at e
      exact mono _ _ _ _ (TK.trans g4.tup t5) (hr m w e)
    · have hm2 : m = ys.length := by
        have := (List.getElem?_eq_some_iff.mp e).1
        rw [List.length_append] at this
        simp at this
        omega
      subst hm2
      rw [List.getElem?_append_right (Nat.le_refl _), Nat.sub_self] at e
      simp at e
      subst e
      rw [hl]
      exact mono _ _ _ _ t5 r4
  · obtain ⟨g1, ys, e1, hl, hr⟩ := p
    exact k D H ys hD g1 e1 hl hr
theorem any_ints (ns : List Int) (m : Int) : ((ns.map PyData.int).any fun z => PyData.eqv z (.int m)) = ns.any fun n => decide (n = m) := by
  rw [List.any_map]
  refine congrArg (fun f => ns.any f) (funext fun z => ?_)
  show PyData.eqv (.int z) (.int m) = _
  simp only [PyData.eqv]
  first | rfl | (rw [Bool.eq_iff_iff]; simp)
theorem int_shaped (i : Int) : SeqAt.shaped (.int i) = true := by
  show ((PyData.int i).canLay0 && decide ((PyData.int i).depth ≤ 64)) = true
  rw [decide_eq_true (by simp [PyData.depth])]
  simp [PyData.canLay0]
def t__product_holds (K : PySem.W.Frag) : TS := (tSeq (tAsg (tSl (rSlA K) (tVar 0) (tPart (tC (.int 1))) tNoPart) (gTup K 3 (gCons (gName 2) (gCons (gName 3) (gCons (gName 4) gNil)))))
  (tRet (tOp rEq (tOp rMulI (tDGet (tVar 1) (tVar 2)) (tDGet (tVar 1) (tVar 3))) (tDGet (tVar 1) (tVar 4)))))
def t__ahead_holds (K : PySem.W.Frag) : TS := (tRet (tOp (rLeL K) (tLc (iTup K (tOp (rIxT K) (tVar 0) (tC (.int 1)))) (gName 2) tYes (tDGet (tVar 1) (tVar 2)) [2]) (tLc (iTup K (tOp (rIxT K) (tVar 0) (tC (.int 2)))) (gName 3) tYes (tDGet (tVar 1) (tVar 3)) [3])))
def t__met (K : PySem.W.Frag) : TS := (tSeq (tAsg (tLst (tCons (tVar 0) tNil)) (gName 2))
  (tSeq (tFor (iList K (tVar 1)) (gTup K 2 (gCons (gName 3) (gCons (gName 4) gNil)))
  (tSeq (tIfS (tB (tDNotIn (tTup (tCons (tOp (rIxL K) (tVar 2) (tUn rNeg (tC (.int 1)))) (tCons (tVar 3) tNil))) (tVar 4))) (tRet (tVar 2)) tNext)
  (tDrop (tBM K "list" rAppend (tVar 2) (tCons (tDGet (tVar 4) (tTup (tCons (tOp (rIxL K) (tVar 2) (tUn rNeg (tC (.int 1)))) (tCons (tVar 3) tNil)))) tNil)))))
  (tRet (tVar 2))))
def t_path_of (K : PySem.W.Frag) : TS := (tSeq (tAsg (tOp (rIxT K) (tVar 0) (tC (.int 1))) (gName 2))
  (tSeq (tIfS (tTest (tOp rEq (tOp (rIxT K) (tVar 0) (tC (.int 0))) (tC (.str "round")))) tNever tNext)
  (tSeq (tIfS (tTest (tOp rEq (tOp (rIxT K) (tVar 0) (tC (.int 0))) (tC (.str "machine")))) (tSeq (tAsg (tDcT (iTup K (tOp (rIxT K) (tVar 0) (tC (.int 3)))) (gTup K 3 (gCons (gName 4) (gCons (gName 5) (gCons (gName 6) gNil)))) tYes (tTup (tCons (tVar 4) (tCons (tVar 5) tNil))) (tVar 6) [4, 5, 6]) (gName 3))
  (tRet (tCall (sp__met K) [] E0 (tCons (tOp (rIxT K) (tVar 0) (tC (.int 2))) (tCons (tLc (iTup K (tVar 2)) (gName 7) tYes (tTup (tCons (tDGet (tVar 1) (tVar 7)) (tCons (tVar 3) tNil))) [7]) tNil))))) tNext)
  tNever)))
def t__machine_holds (K : PySem.W.Frag) : TS := (tSeq (tAsg (tCall (sp_path_of K) [] E0 (tCons (tVar 0) (tCons (tVar 1) tNil))) (gName 2))
  (tRet (tAndV (tOp rGtI (tCB (rLen1 K) (tCons (tVar 2) tNil)) (tCB (rLen1 K) (tCons (tOp (rIxT K) (tVar 0) (tC (.int 1))) tNil))) (tOp (rInT K) (tOp (rIxL K) (tVar 2) (tUn rNeg (tC (.int 1)))) (tOp (rIxT K) (tVar 0) (tC (.int 4)))))))
theorem iteT'' {c : Bool} {A B : Prop} (h : c = true) (a : A) : if c = true then A else B := by rw [if_pos h]; exact a
theorem iteF'' {c : Bool} {A B : Prop} (h : c = false) (a : B) : if c = true then A else B := by rw [if_neg (by rw [h]; decide)]; exact a
theorem len__product_holds {K : PySem.W.Frag} : ∀ (vs : List V) (H : Hp) (Q : VK) (E : XK), sp__product_holds K vs H Q E → vs.length = 2 := fun vs H Q E h => by
  obtain ⟨_, _, rfl, _⟩ := h
  rfl
theorem pure__product_holds {K : PySem.W.Frag} (vs : List V) (H : Hp) (Q : VK) (E : XK) (h : sp__product_holds K vs H Q E) : t__product_holds K { nx := fun _ H' => Q .non H', rt := Q } (start ["saying", "at", "x", "y", "z"] vs) H := by
  obtain ⟨v, d, rfl, x, y, z, names, w, hv, hd, hw, hx, q⟩ := h
  obtain ⟨a, rfl, ea⟩ := is_prod hv
  have h1 := hx x (by simp [Say.names])
  have h2 := hx y (by simp [Say.names])
  have h3 := hx z (by simp [Say.names])
  show t__product_holds K _ [some (.ref a), some (.ref d), none, none, none] H
  unfold t__product_holds
  walk_at "aw"
  refine w_slT ea (show ¬ (HT.sIx 4 0 (some 1) = 0 ∧ HT.sIx 4 4 none = 4) by decide) fun t H1 nt a1 e1 => ?_
  replace e1 : H1 t = some (.tup [.str x, .str y, .str z]) := e1
  have hd := hd.up a1
  refine w_gtup (SqT.of e1) rfl ?_
  walk_at "aw"
  refine hd.get h1 ?_
  walk_at "aw"
  refine hd.get h2 ?_
  refine w_I (.inl (hw x h1)) ?_
  walk_at "aw"
  refine hd.get h3 ?_
  walk_at "aw"
  have e : decide (V.int (w x * w y) = V.int (w z)) = holdP w (.prod x y z) := by
    show _ = decide (w x * w y = w z)
    rw [decide_eq_decide]
    exact ⟨V.int.inj, congrArg _⟩
  rw [e]
  exact q H1 a1
theorem len__ahead_holds {K : PySem.W.Frag} : ∀ (vs : List V) (H : Hp) (Q : VK) (E : XK), sp__ahead_holds K vs H Q E → vs.length = 2 := fun vs H Q E h => by
  obtain ⟨_, _, rfl, _⟩ := h
  rfl
theorem pure__ahead_holds {K : PySem.W.Frag} (vs : List V) (H : Hp) (Q : VK) (E : XK) (h : sp__ahead_holds K vs H Q E) : t__ahead_holds K { nx := fun _ H' => Q .non H', rt := Q } (start ["saying", "at", "x", "y"] vs) H := by
  obtain ⟨v, d, rfl, xs, ys, names, w, hv, hd, ok, hx, q⟩ := h
  obtain ⟨a, p, r, rfl, ea, ep, er⟩ := is_ahead hv
  have o1 := ok.1
  have o2 := ok.2
  have hxs : ∀ x ∈ xs, x ∈ names := fun x h => hx x (List.mem_append_left _ h)
  have hys : ∀ x ∈ ys, x ∈ names := fun x h => hx x (List.mem_append_right _ h)
  show t__ahead_holds K _ [some (.ref a), some (.ref d), none, none] H
  unfold t__ahead_holds
  walk_at "aw"
  refine w_ixT (SqT.of ea) rfl ?_
  refine ⟨p, rfl, ⟨_, SqT.of ep⟩, ?_⟩
  refine kLc_pure (walk_tup (xs := xs.map V.str)) (by rw [List.length_map]; omega) (fun H' g => SqT.of (g.tup _ _ ep)) (fun _ => true) (fun i => .int (w (xs.getD i nix))) (fun i x H2 H3 Kt Kf hi g2 y kt kf => ?_) fun l H1 np g1 el => ?_
  · obtain ⟨rfl, y1⟩ := y
    rw [List.getElem?_map] at y1
    obtain ⟨n1, z1, rfl⟩ := Option.map_eq_some_iff.mp y1
    rw [getD_of z1] at kt
    walk_at "aw"
    refine ⟨rfl, ?_⟩
    walk_at "aw"
    refine (hd.up g2).get (hxs n1 (List.mem_of_getElem? z1)) ?_
    exact kt rfl _ (.refl _ _)
  replace el : H1 l = some (.lst ((xs.map w).map V.int)) := by
    rw [List.map_map, ← map_range xs nix]
    rw [filter_true, List.length_map] at el
    exact el
  walk_at "aw"
  refine w_ixT (SqT.of (g1.tup _ _ ea)) rfl ?_
  have er1 := g1.tup _ _ er
  refine ⟨r, rfl, ⟨_, SqT.of er1⟩, ?_⟩
  refine kLc_pure (walk_tup (xs := ys.map V.str)) (by rw [List.length_map]; omega) (fun H' g => SqT.of (g.tup _ _ er1)) (fun _ => true) (fun i => .int (w (ys.getD i nix))) (fun i x H2 H3 Kt Kf hi g2 y kt kf => ?_) fun m H2 nm g2 em => ?_
  · obtain ⟨rfl, y1⟩ := y
    rw [List.getElem?_map] at y1
    obtain ⟨n1, z1, rfl⟩ := Option.map_eq_some_iff.mp y1
    rw [getD_of z1] at kt
    walk_at "aw"
    refine ⟨rfl, ?_⟩
    walk_at "aw"
    refine ((hd.up g1).up g2).get (hys n1 (List.mem_of_getElem? z1)) ?_
    exact kt rfl _ (.refl _ _)
  replace em : H2 m = some (.lst ((ys.map w).map V.int)) := by
    rw [List.map_map, ← map_range ys nix]
    rw [filter_true, List.length_map] at em
    exact em
  exact ⟨l, m, xs.map w, ys.map w, rfl, rfl, SqL.of (g2.keep _ _ (fun z => nomatch z) el), SqL.of em, q H2 (g1.trans g2)⟩
theorem len__met {K : PySem.W.Frag} : ∀ (vs : List V) (H : Hp) (Q : VK) (E : XK), sp__met K vs H Q E → vs.length = 2 := fun vs H Q E h => by
  obtain ⟨_, _, rfl, _⟩ := h
  rfl
theorem pure__met {K : PySem.W.Frag} (vs : List V) (H : Hp) (Q : VK) (E : XK) (h : sp__met K vs H Q E) : t__met K { nx := fun _ H' => Q .non H', rt := Q } (start ["start", "steps", "path", "v", "nexts"] vs) H := by
  obtain ⟨s, p, rfl, nx, mv, vals, ts, hp, htl, hts, hnx, hnd, hvl, q⟩ := h
  show t__met K _ [some (.int s), some (.ref p), none, none, none] H
  unfold t__met
  walk_at "aw"
  refine w_lstD (by simp) fun l H1 nl a1 e1 => ?_
  walk_at "aw"
  refine kForL_i (xs := ts) (fun i σ H' => ∃ y3 y4 pre cur, σ = [some (.int s), some (.ref p), some (.ref l), y3, y4] ∧ Adv [] H H' ∧ H' l = some (.lst ((pre ++ [cur]).map V.int)) ∧ pathM mv s vals = pre ++ pathM mv cur (vals.drop i) ∧ pre.length ≤ i)
    (SqL.of (a1.keep _ _ (fun z => nomatch z) hp)) ⟨none, none, [], s, rfl, a1, e1, rfl, Nat.le_refl _⟩ (fun i σ H' _ pp => ?_) (fun i v σ H' hv pp => ?_) fun σ H' pp => ?_
  · obtain ⟨_, _, _, _, _, g, _⟩ := pp
    exact SqL.of (g.keep _ _ (fun z => nomatch z) hp)
  · obtain ⟨y3, y4, pre, cur, rfl, g, el, hpath, hpl⟩ := pp
    have hit := (List.getElem?_eq_some_iff.mp hv).1
    obtain ⟨vv, hvv⟩ := get_some (xs := vals) (i := i) (by omega)
    obtain ⟨ta, rfl, eta⟩ := hts i vv v hvv hv
    have hdrop : vals.drop i = vv :: vals.drop (i + 1) := by
      have h1 := (List.getElem?_eq_some_iff.mp hvv).1
      rw [List.drop_eq_getElem_cons h1]
      rw [List.getElem?_eq_getElem h1] at hvv
      rw [Option.some.inj hvv]
    have hnx' := g.keep _ _ (fun z => nomatch z) hnx
    have hval := moves_val hnd cur vv mv.length (Nat.le_refl _)
    rw [List.take_length] at hval
    refine w_gtup (SqT.of (g.tup _ _ eta)) rfl ?_
    walk_at "aw"
    refine w_dnin ?_
    walk_at "aw"
    refine w_ixL (SqL.of el) at_lastM ?_
    walk_at "aw"
    refine w_tupD (by simp) fun t5 H5 nt5 a5 e5 => ?_
    walk_at "aw"
    refine kDNin_t (k := [Sum.inl cur, Sum.inl vv]) (a5.keep _ _ (fun z => nomatch z) hnx') e5 ?_
    have el5 := a5.keep _ _ (fun z => nomatch z) el
    have g5 := g.trans a5
    rw [hdrop] at hpath
    cases hf : mv.find? (isAt cur vv) with
    | none =>
      rw [hf] at hval
      have hp2 : pathM mv cur (vv :: vals.drop (i + 1)) = [cur] := by
        unfold pathM
        rw [hf]
      rw [hp2] at hpath
      rw [hval]
      refine ⟨true, rfl, ?_⟩
      refine iteT'' rfl ?_
      walk_at "aw"
      refine q l H5 g5 ?_
      rw [hpath]
      exact el5
    | some m =>
      rw [hf] at hval
      have hp2 : pathM mv cur (vv :: vals.drop (i + 1)) = cur :: pathM mv m.2.2 (vals.drop (i + 1)) := by
        conv => lhs; unfold pathM
        rw [hf]
      rw [hp2] at hpath
      rw [hval]
      refine ⟨false, rfl, ?_⟩
      refine iteF'' rfl ?_
      walk_at "aw"
      refine w_app rfl el5 ?_
      walk_at "aw"
      refine w_ixL (SqL.of el5) at_lastM ?_
      walk_at "aw"
      refine w_tupD (by simp) fun t6 H6 nt6 a6 e6 => ?_
      have g6 := g5.trans a6
      refine kDGet_t (k := [Sum.inl cur, Sum.inl vv]) (v := .int m.2.2) (a6.keep _ _ (fun z => nomatch z) (a5.keep _ _ (fun z => nomatch z) hnx')) e6 hval ?_
      walk_at "aw"
      have el6 := a6.keep _ _ (fun z => nomatch z) el5
      refine w_append el6 (by rw [List.length_map, List.length_append]; simp; omega) ?_
      refine ⟨_, _, pre ++ [cur], m.2.2, rfl, g6.mut nl el6 (fun _ z => by cases z), ?_, ?_, by rw [List.length_append, List.length_singleton]; omega⟩
      · rw [upd_same, List.map_append (l₂ := [m.2.2])]
        rfl
      · rw [hpath, List.append_assoc]
        rfl
  · obtain ⟨y3, y4, pre, cur, rfl, g, el, hpath, hpl⟩ := pp
    walk_at "aw"
    refine q l H' g ?_
    rw [hpath, htl, List.drop_length]
    exact el
theorem len_path_of {K : PySem.W.Frag} : ∀ (vs : List V) (H : Hp) (Q : VK) (E : XK), sp_path_of K vs H Q E → vs.length = 2 := fun vs H Q E h => by
  obtain ⟨_, _, rfl, _⟩ := h
  rfl
theorem pure_path_of {K : PySem.W.Frag} (vs : List V) (H : Hp) (Q : VK) (E : XK) (h : sp_path_of K vs H Q E) : t_path_of K { nx := fun _ H' => Q .non H', rt := Q } (start ["saying", "at", "xs", "nexts", "before", "v", "behind", "x", "steps", "level"] vs) H := by
  obtain ⟨v, d, rfl, xs, s, mv, en, names, w, hv, hd, ok, hx, q⟩ := h
  obtain ⟨a, p, qq, r, vs, rfl, ea, ep, eq, tq, er⟩ := is_mach hv
  obtain ⟨o1, o2, o3, o4⟩ := ok
  have hvl : vs.length = mv.length := by rw [tq.length, List.length_map]
  show t_path_of K _ [some (.ref a), some (.ref d), none, none, none, none, none, none, none, none] H
  unfold t_path_of
  walk_at "aw"
  refine w_ixT (SqT.of ea) (i := 1) (v := .ref p) rfl ?_
  walk_at "aw"
  refine w_ixT (SqT.of ea) (i := 0) (v := .str "machine") rfl ?_
  walk_at "aw"
  refine w_iteB (fun z => absurd z (by decide)) fun _ => ?_
  walk_at "aw"
  refine w_ixT (SqT.of ea) (i := 0) (v := .str "machine") rfl ?_
  walk_at "aw"
  refine w_iteB (fun _ => ?_) fun z => absurd rfl z
  walk_at "aw"
  refine w_dcTT ?_
  walk_at "aw"
  refine w_ixT (SqT.of ea) (i := 3) (v := .ref qq) rfl ?_
  refine kDcTT_i eq (by omega) (fun i => mvKey (mv.getD i mvD)) (fun i => .int (mv.getD i mvD).2.2) (fun i x H2 Kt hx g2 kt => ?_) fun nx H1 a1 e1 => ?_
  · obtain ⟨dt, z1, h1⟩ := tq.get hx
    rw [List.getElem?_map] at z1
    obtain ⟨m, z2, rfl⟩ := Option.map_eq_some_iff.mp z1
    obtain ⟨ia, rfl, ei⟩ := is_tri h1
    rw [getD_of z2] at kt
    refine w_gtup (SqT.of (g2.tup _ _ ei)) rfl ?_
    walk_at "aw"
    refine ⟨rfl, ?_⟩
    walk_at "aw"
    refine w_tupD (by simp) fun t H3 nt a3 e3 => ?_
    walk_at "aw"
    exact kt _ _ a3 e3
  replace e1 : H1 nx = some (.dT (movesK mv mv.length)) := by
    rw [hvl] at e1
    exact e1
  walk_at "aw"
  refine w_ixT (SqT.of (a1.tup _ _ ea)) (i := 2) (v := .int s) rfl ?_
  walk_at "aw"
  have ep1 := a1.tup _ _ ep
  refine ⟨p, rfl, ⟨_, SqT.of ep1⟩, ?_⟩
  refine kLc_rel (walk_tup (xs := xs.map V.str)) (by rw [List.length_map]; omega) (fun H' g => SqT.of (g.tup _ _ ep1)) (fun i v H => ∃ a, v = .ref a ∧ H a = some (.tup [.int (w (xs.getD i nix)), .ref nx])) (fun i v H H' t h => by
    obtain ⟨a, h1, h2⟩ := h
    exact ⟨a, h1, t _ _ h2⟩) (fun i x H2 H3 Kt hi g2 y kt => ?_) fun l H2 ts nl g2 el htl htr => ?_
  · obtain ⟨rfl, y1⟩ := y
    rw [List.getElem?_map] at y1
    obtain ⟨n1, z1, rfl⟩ := Option.map_eq_some_iff.mp y1
    walk_at "aw"
    refine ⟨rfl, ?_⟩
    walk_at "aw"
    refine ((hd.up a1).up g2).get (hx n1 (List.mem_of_getElem? z1)) ?_
    walk_at "aw"
    refine w_tupD (by simp) fun t H4 nt a4 e4 => ?_
    exact kt _ _ a4 ⟨t, rfl, by rw [getD_of z1]; exact e4⟩
  · rw [List.length_map] at htl
    walk_at "aw"
    refine ⟨s, l, rfl, nx, mv, xs.map w, ts, el, by rw [List.length_map]; exact htl, fun i v t h1 h2 => ?_, g2.keep _ _ (fun z => nomatch z) e1, o3, by rw [List.length_map]; exact o1, fun r H3 a3 e3 => q r H3 (a1.trans (g2.trans a3)) e3⟩
    rw [List.getElem?_map] at h1
    obtain ⟨x, z1, rfl⟩ := Option.map_eq_some_iff.mp h1
    have := htr i t h2
    rw [getD_of z1] at this
    exact this
theorem len__machine_holds {K : PySem.W.Frag} : ∀ (vs : List V) (H : Hp) (Q : VK) (E : XK), sp__machine_holds K vs H Q E → vs.length = 2 := fun vs H Q E h => by
  obtain ⟨_, _, rfl, _⟩ := h
  rfl
theorem pure__machine_holds {K : PySem.W.Frag} (vs : List V) (H : Hp) (Q : VK) (E : XK) (h : sp__machine_holds K vs H Q E) : t__machine_holds K { nx := fun _ H' => Q .non H', rt := Q } (start ["saying", "at", "path"] vs) H := by
  obtain ⟨v, d, rfl, xs, s, mv, en, names, w, hv, hd, ok, hx, q⟩ := h
  obtain ⟨a, p, qq, r, vs, rfl, ea, ep, eq, tq, er⟩ := is_mach hv
  show t__machine_holds K _ [some (.ref a), some (.ref d), none] H
  unfold t__machine_holds
  walk_at "aw"
  refine ⟨_, d, rfl, xs, s, mv, en, names, w, hv, hd, ok, hx, fun l H1 a1 el => ?_⟩
  walk_at "aw"
  refine w_lenL (SqL.of el) ?_
  rw [List.length_map]
  walk_at "aw"
  refine w_ixT (SqT.of (a1.tup _ _ ea)) (i := 1) (v := .ref p) rfl ?_
  walk_at "aw"
  refine w_lenT (SqT.of (a1.tup _ _ ep)) ?_
  rw [List.length_map]
  walk_at "aw"
  obtain ⟨w1, w2⟩ := path_walk mv (xs.map w) s
  rw [List.length_map] at w1
  have e0 : holdP w (.mach xs s mv en) = match walkM mv s (xs.map w) with
    | none => false
    | some q => en.any fun e => decide (e = q) := rfl
  refine w_iteB (fun h1 => ?_) fun h1 => ?_
  · cases hw : walkM mv s (xs.map w) with
    | none => exact absurd (show xs.length < _ by omega) (w1.mp hw)
    | some z =>
      rw [hw] at e0
      have hz := w2 z hw
      obtain ⟨pre, hpre⟩ : ∃ pre, pathM mv s (xs.map w) = pre ++ [z] := by
        have hne : pathM mv s (xs.map w) ≠ [] := fun e => by rw [e] at hz; cases hz
        rw [List.getLast?_eq_some_getLast hne] at hz
        exact ⟨_, by rw [← Option.some.inj hz]; exact (List.dropLast_concat_getLast hne).symm⟩
      rw [hpre] at el
      walk_at "aw"
      refine w_ixL (SqL.of el) at_lastM ?_
      walk_at "aw"
      refine w_ixT (SqT.of (a1.tup _ _ ea)) (i := 4) (v := .ref r) rfl ?_
      refine ⟨.int z, en.map .int, (Is.int _).dp, (Is.tup (a1.tup _ _ er) (IsAll.ints _)).dp, int_shaped _, row_shaped en, ?_⟩
      rw [any_ints]
      have := q H1 a1
      rw [e0] at this
      exact this
  · have hw : walkM mv s (xs.map w) = none := w1.mpr fun h => h1 (by omega)
    rw [hw] at e0
    walk_at "aw"
    have := q H1 a1
    rw [e0] at this
    exact this
end AW
namespace AW
open PySem PySem.Spec PyProof.Rows L2 RZ
local macro_rules | `(tactic| walk_at "aw1") => `(tactic| first
  | (with_reducible refine w_seq ?_) | (with_reducible refine w_asg ?_) | (with_reducible refine w_gname ?_) | (with_reducible refine w_op ?_) | (with_reducible refine w_un ?_)
  | ((with_reducible refine' w_var ?h ?_); (case h => rfl)) | (with_reducible refine w_c ?_)
  | (with_reducible refine w_I0 ?_) | (with_reducible refine w_U ?_) | (with_reducible refine w_cb ?_) | (with_reducible refine w_nil ?_) | (with_reducible refine w_cons ?_) | (with_reducible refine w_call ?_)
  | (with_reducible refine w_test ?_) | (with_reducible refine w_B ?_) | (with_reducible refine w_bl ?_) | (with_reducible refine w_not ?_) | (with_reducible refine w_yes ?_) | (with_reducible refine iteT ?_) | (with_reducible refine iteF ?_) | (with_reducible refine w_and ?_) | (with_reducible refine w_or ?_)
  | (with_reducible refine w_andV ?_) | (with_reducible refine w_orV ?_) | (with_reducible refine w_notV ?_) | (with_reducible refine w_if ?_)
  | (with_reducible refine w_int1 ?_) | (with_reducible refine w_int1b ?_) | (with_reducible refine w_abs ?_) | (with_reducible refine w_max2 ?_) | (with_reducible refine w_min2 ?_)
  | ((with_reducible refine w_eq ?h ?_); (case h => rfl)) | ((with_reducible refine w_ne ?h ?_); (case h => rfl)) | (with_reducible refine w_isN ?_) | (with_reducible refine w_isB ?_) | (with_reducible refine w_chain ?_)
  | (with_reducible refine w_ret ?_) | (with_reducible refine w_drop ?_) | (with_reducible refine w_ifS ?_) | (with_reducible refine w_gsub ?_) | (with_reducible refine w_augS ?_) | (with_reducible refine w_ipI ?_) | (with_reducible refine w_next ?_)
  | (with_reducible refine w_forR ?_) | (with_reducible refine w_forR2 ?_) | (with_reducible refine w_forL ?_) | (with_reducible refine w_forT ?_) | (with_reducible refine w_lcR ?_) | (with_reducible refine w_lcL ?_) | (with_reducible refine w_lcT ?_) | (with_reducible refine w_sl ?_) | (with_reducible refine w_part ?_) | (with_reducible refine w_noPart ?_) | (with_reducible refine w_in ?_)
  | (with_reducible refine w_gcons ?_) | (with_reducible refine w_gnil ?_) | (with_reducible refine w_lc3 ?_) | (with_reducible refine w_dcZ ?_) | (with_reducible refine w_dcT ?_) | (with_reducible refine w_dg ?_) | (with_reducible refine w_callK ?_) | (with_reducible refine w_dput ?_) | (with_reducible refine w_tup1 ?_)
  | (with_reducible refine w_tup ?_) | (with_reducible refine w_lst ?_)
  | ((with_reducible refine w_I ?h ?_); (case h => first | (exact Or.inr ⟨by decide, by decide⟩) | (exact Or.inl ⟨by decide, by decide⟩) | (show (0 : Int) < _; decide) | (exact ⟨by decide, by decide, by decide⟩) | assumption)))
local macro_rules | `(tactic| walk_at "aw") => `(tactic| repeat (walk_at "aw1"))
/-! ### the program's functions over models -/
def sp_values_at (_ : PySem.W.Frag) : Sp := fun vs H Q _ => ∃ (m f : V), vs = [m, f] ∧ ∃ doms firm soft fl, Is H (modD doms firm soft) m ∧ Is H (.tuple (fl.map .int)) f ∧ fl.length = doms.length ∧ (doms.map (·.1)).Nodup ∧ doms.length ≤ 100 ∧
  ∀ d H', Adv [] H H' → WD H' d (doms.map (·.1)) (wOf (doms.map (·.1)) fl) → Q (.ref d) H'
def sp_saying_of (_ : PySem.W.Frag) : Sp := fun vs H Q _ => ∃ (m : V) (n : Str), vs = [m, .str n] ∧ ∃ doms firm soft s, Is H (modD doms firm soft) m ∧ (firm.map (·.1) ++ soft.map (·.1)).Nodup ∧ firm.length ≤ 100 ∧ soft.length ≤ 100 ∧ (n, s) ∈ firm ++ soft.map (fun q => (q.1, q.2.1)) ∧
  ∀ v H', Adv [] H H' → Is H' (sayD s) v → Q v H'
def sp_holds (_ : PySem.W.Frag) : Sp := fun vs H Q _ => ∃ (v : V) (d : Addr), vs = [v, .ref d] ∧ ∃ s names w, Is H (sayD s) v ∧ WD H d names w ∧ (∀ x ∈ names, wt (w x)) ∧ s.ok ∧ (∀ x ∈ s.names, x ∈ names) ∧ ∀ H', Adv [] H H' → Q (.bl (holdP w s)) H'
/-- a model that is right enough for its sayings to be looked at -/
structure ModOk (doms : List (Str × List Int)) (firm : List (Str × Say)) (soft : List (Str × Say × Int)) : Prop where
  dn : (doms.map (·.1)).Nodup
  dl : doms.length ≤ 100
  sn : (firm.map (·.1) ++ soft.map (·.1)).Nodup
  fl : firm.length ≤ 100
  sl : soft.length ≤ 100
  fo : ∀ p ∈ firm, p.2.ok ∧ ∀ x ∈ p.2.names, x ∈ doms.map (·.1)
  so : ∀ p ∈ soft, p.2.1.ok ∧ ∀ x ∈ p.2.1.names, x ∈ doms.map (·.1)
def sp_keeps_saying (_ : PySem.W.Frag) : Sp := fun vs H Q _ => ∃ (m f : V) (n : Str), vs = [m, .str n, f] ∧ ∃ doms firm soft s fl, Is H (modD doms firm soft) m ∧ Is H (.tuple (fl.map .int)) f ∧ fl.length = doms.length ∧ (∀ v ∈ fl, wt v) ∧ ModOk doms firm soft ∧ (n, s) ∈ firm ++ soft.map (fun q => (q.1, q.2.1)) ∧
  ∀ H', Adv [] H H' → Q (.bl (holdP (wOf (doms.map (·.1)) fl) s)) H'
def sp_keeps (_ : PySem.W.Frag) : Sp := fun vs H Q _ => ∃ (m f : V), vs = [m, f] ∧ ∃ doms firm soft fl, Is H (modD doms firm soft) m ∧ Is H (.tuple (fl.map .int)) f ∧ fl.length = doms.length ∧ (∀ v ∈ fl, wt v) ∧ ModOk doms firm soft ∧
  ∀ H', Adv [] H H' → Q (.bl (firm.all fun p => holdP (wOf (doms.map (·.1)) fl) p.2)) H'
def t_values_at (K : PySem.W.Frag) : TS := (tRet (tDc (iZipA K (tCons (tOp (rIxT K) (tVar 0) (tC (.int 0))) (tCons (tVar 1) tNil))) (gTup K 2 (gCons (gName 2) (gCons (gName 3) gNil))) tYes (tOp (rIxT K) (tVar 2) (tC (.int 0))) (tVar 3) [2, 3]))
def t_saying_of (K : PySem.W.Frag) : TS := (tSeq (tAsg (tDc (iTup K (tOp (rCatA K) (tOp (rIxT K) (tVar 0) (tC (.int 1))) (tOp (rIxT K) (tVar 0) (tC (.int 2))))) (gName 3) tYes (tOp (rIxT K) (tVar 3) (tC (.int 0))) (tOp (rIxT K) (tVar 3) (tC (.int 1))) [3]) (gName 2))
  (tRet (tDGet (tVar 2) (tVar 1))))
def t_keeps_saying (K : PySem.W.Frag) : TS := (tRet (tCall (sp_holds K) [] E0 (tCons (tCall (sp_saying_of K) [] E0 (tCons (tVar 0) (tCons (tVar 1) tNil))) (tCons (tCall (sp_values_at K) [] E0 (tCons (tVar 0) (tCons (tVar 2) tNil))) tNil))))
def t_keeps (K : PySem.W.Frag) : TS := (tSeq (tAsg (tCall (sp_values_at K) [] E0 (tCons (tVar 0) (tCons (tVar 1) tNil))) (gName 2))
  (tSeq (tFor (iTup K (tOp (rIxT K) (tVar 0) (tC (.int 1)))) (gTup K 2 (gCons (gName 3) (gCons (gName 4) gNil)))
  (tIfS (tNot (tB (tCall (sp_holds K) [] E0 (tCons (tVar 4) (tCons (tVar 2) tNil))))) (tRet (tC (.bl false))) tNext))
  (tRet (tC (.bl true)))))
theorem len_values_at {K : PySem.W.Frag} : ∀ (vs : List V) (H : Hp) (Q : VK) (E : XK), sp_values_at K vs H Q E → vs.length = 2 := fun vs H Q E h => by
  obtain ⟨_, _, rfl, _⟩ := h
  rfl
theorem pure_values_at {K : PySem.W.Frag} (vs : List V) (H : Hp) (Q : VK) (E : XK) (h : sp_values_at K vs H Q E) : t_values_at K { nx := fun _ H' => Q .non H', rt := Q } (start ["model", "filling", "item", "v"] vs) H := by
  obtain ⟨m, f, rfl, doms, firm, soft, fl, hm, hf, hfl, hnd, hdl, q⟩ := h
  obtain ⟨a, b, c, d, xs, ys, zs, rfl, ea, eb, tb, ec, tc, ed, td⟩ := is_mod hm
  obtain ⟨fa, fv, rfl, ef, tf⟩ := hf.tup_inv
  have efv := tf.ints_inv
  subst efv
  show t_values_at K _ [some (.ref a), some (.ref fa), none, none] H
  unfold t_values_at
  walk_at "aw"
  refine w_ixT (SqT.of ea) rfl ?_
  walk_at "aw"
  have hxl : xs.length = doms.length := by rw [tb.length, List.length_map]
  refine ⟨b, fa, xs, fl.map V.int, rfl, .inr ⟨SqT.of eb, SqT.of ef, ?_⟩⟩
  refine kDc_pure (walk_zipT (K := K) (a := b) (b := fa) (xs := xs) (ys := fl.map V.int) (by simp; omega)) (by omega) (fun H' g => ⟨g.tup _ _ eb, g.tup _ _ ef⟩)
    (fun i => Sum.inr ((doms.map (·.1)).getD i nix)) (fun i => .int (fl.getD i 0)) (fun i x H2 H3 Kt hi g2 y kt => ?_) fun p H' np g' ep => ?_
  · obtain ⟨T, x1, x2, rfl, nT, rfl, y1, y2⟩ := y
    replace y1 : xs[i]? = some x1 := y1
    replace y2 : (fl.map V.int)[i]? = some x2 := y2
    rw [List.getElem?_map] at y2
    obtain ⟨n2, z2, rfl⟩ := Option.map_eq_some_iff.mp y2
    obtain ⟨dd, e1, h1⟩ := tb.get y1
    rw [List.getElem?_map] at e1
    obtain ⟨pr, z1, rfl⟩ := Option.map_eq_some_iff.mp e1
    obtain ⟨pa, pb, rfl, ep1, ep2⟩ := is_dom h1
    have zn : (doms.map (·.1))[i]? = some pr.1 := by rw [List.getElem?_map, z1]; rfl
    rw [getD_of zn, getD_of z2] at kt
    have aT : Adv [] H2 (upd H2 T (.tup [.ref pa, .int n2])) := Adv.new nT
    refine w_gtup (SqT.of upd_same) rfl ?_
    walk_at "aw"
    refine ⟨rfl, ?_⟩
    walk_at "aw"
    refine w_ixT (SqT.of (aT.tup _ _ (g2.tup _ _ ep1))) rfl ?_
    walk_at "aw"
    exact kt _ aT
  · refine q p H' g' ⟨_, ep, fun x hx => ?_⟩
    have hl : (doms.map (·.1)).length = xs.length := by rw [List.length_map, hxl]
    obtain ⟨j, hj, rfl⟩ := List.mem_iff_getElem.mp hx
    have hj' : j < xs.length := by omega
    have hinj : ∀ a b, a < xs.length → b < xs.length → (Sum.inr ((doms.map (·.1)).getD a nix) : Key) = Sum.inr ((doms.map (·.1)).getD b nix) → a = b := fun a b ha hb e => by
      have e := Sum.inr.inj e
      rw [getD_of (List.getElem?_eq_getElem (by omega)), getD_of (List.getElem?_eq_getElem (by omega))] at e
      exact nodup_inj hnd (List.getElem?_eq_getElem (by omega)) (by rw [e]; exact List.getElem?_eq_getElem (by omega))
    have hv := dictOf_val (key := fun i => (Sum.inr ((doms.map (·.1)).getD i nix) : Key)) (val := fun i => .int (fl.getD i 0)) hinj hj'
    rw [getD_of (List.getElem?_eq_getElem hj)] at hv
    rw [hv]
    show some (V.int (fl.getD j 0)) = some (V.int (fl.getD ((doms.map (·.1)).idxOf (doms.map (·.1))[j]) 0))
    rw [hnd.idxOf_getElem j hj]
theorem len_saying_of {K : PySem.W.Frag} : ∀ (vs : List V) (H : Hp) (Q : VK) (E : XK), sp_saying_of K vs H Q E → vs.length = 2 := fun vs H Q E h => by
  obtain ⟨_, _, rfl, _⟩ := h
  rfl
theorem pure_saying_of {K : PySem.W.Frag} (vs : List V) (H : Hp) (Q : VK) (E : XK) (h : sp_saying_of K vs H Q E) : t_saying_of K { nx := fun _ H' => Q .non H', rt := Q } (start ["model", "name", "sayings", "item"] vs) H := by
  obtain ⟨m, n, rfl, doms, firm, soft, s, hm, hnd, hl1, hl2, hmem, q⟩ := h
  obtain ⟨a, b, c, d, xs, ys, zs, rfl, ea, eb, tb, ec, tc, ed, td⟩ := is_mod hm
  show t_saying_of K _ [some (.ref a), some (.str n), none, none] H
  have hly : ys.length = firm.length := by rw [tc.length, List.length_map]
  have hlz : zs.length = soft.length := by rw [td.length, List.length_map]
  have hall : ∀ (i : Nat) p x, (firm ++ soft.map fun q => (q.1, q.2.1))[i]? = some p → (ys ++ zs)[i]? = some x → ∃ sv, ItAt H p.1 p.2 sv x := fun i p x e1 e2 => by
    by_cases hi : i < firm.length
    · rw [List.getElem?_append_left hi] at e1
      rw [List.getElem?_append_left (by omega)] at e2
      obtain ⟨dd, z1, h1⟩ := tc.get e2
      rw [List.getElem?_map, e1] at z1
      cases z1
      exact is_it h1
    · rw [List.getElem?_append_right (by omega)] at e1 e2
      rw [List.getElem?_map] at e1
      obtain ⟨pr, z, rfl⟩ := Option.map_eq_some_iff.mp e1
      obtain ⟨dd, z1, h1⟩ := td.get e2
      rw [hly, List.getElem?_map, z] at z1
      cases z1
      exact is_sf h1
  obtain ⟨svs, hsl, hsv⟩ := items_of (by simp; omega) hall
  generalize hA : (firm ++ soft.map fun q => (q.1, q.2.1)) = all at hall hsl hsv hmem
  have hAl : all.length = ys.length + zs.length := by rw [← hA]; simp; omega
  have hAn : (all.map (·.1)).Nodup := by
    rw [← hA, List.map_append, List.map_map]
    exact hnd
  unfold t_saying_of
  walk_at "aw"
  refine w_ixT (SqT.of ea) rfl ?_
  walk_at "aw"
  refine w_ixT (SqT.of ea) rfl ?_
  refine w_catT' ec ed (by omega) fun r H1 a1 e1 => ?_
  refine ⟨r, rfl, ⟨_, SqT.of e1⟩, ?_⟩
  refine kDc_pure (walk_tup (K := K) (a := r) (xs := ys ++ zs)) (by simp; omega) (fun H' g => SqT.of (g.tup _ _ e1)) (fun i => Sum.inr ((all.map (·.1)).getD i nix)) (fun i => svs.getD i .non) (fun i x H2 H3 Kt hi g2 y kt => ?_) fun p H' np g' ep => ?_
  · obtain ⟨rfl, y1⟩ := y
    rw [List.length_append] at hi
    obtain ⟨pr, z1⟩ := get_some (xs := all) (i := i) (by omega)
    obtain ⟨sv, z2⟩ := get_some (xs := svs) (i := i) (by omega)
    obtain ⟨ia, rest, rfl, ei, hi2⟩ := hsv i pr x sv z1 y1 z2
    have zn : (all.map (·.1))[i]? = some pr.1 := by rw [List.getElem?_map, z1]; rfl
    rw [getD_of zn, getD_of z2] at kt
    have ei2 := g2.tup _ _ (a1.tup _ _ ei)
    walk_at "aw"
    refine ⟨rfl, ?_⟩
    walk_at "aw"
    refine w_ixT (SqT.of ei2) (at_of (j := 0) rfl rfl) ?_
    walk_at "aw"
    refine w_ixT (SqT.of ei2) (at_of (j := 1) rfl rfl) ?_
    exact kt _ (.refl _ _)
  · obtain ⟨j, hj, ej⟩ := List.mem_iff_getElem.mp hmem
    have hjy : j < (ys ++ zs).length := by simp; omega
    obtain ⟨sv, z2⟩ := get_some (xs := svs) (i := j) (by omega)
    obtain ⟨x, z3⟩ := get_some (xs := ys ++ zs) (i := j) hjy
    have z1 : all[j]? = some (n, s) := by rw [List.getElem?_eq_getElem hj, ej]
    obtain ⟨ia, rest, rfl, ei, hi2⟩ := hsv j _ x sv z1 z3 z2
    have zn : ∀ {k : Nat} (hk : k < all.length), (all.map (·.1)).getD k nix = (all.map (·.1))[k]'(by simpa using hk) := fun hk => getD_of (List.getElem?_eq_getElem (by simpa using hk))
    have hinj : ∀ a b, a < (ys ++ zs).length → b < (ys ++ zs).length → (Sum.inr ((all.map (·.1)).getD a nix) : Key) = Sum.inr ((all.map (·.1)).getD b nix) → a = b := fun a b ha hb e => by
      have ha' : a < all.length := by rw [List.length_append] at ha; omega
      have hb' : b < all.length := by rw [List.length_append] at hb; omega
      have e := Sum.inr.inj e
      rw [zn ha', zn hb'] at e
      exact nodup_inj hAn (List.getElem?_eq_getElem (by simpa using ha')) (by rw [e]; exact List.getElem?_eq_getElem (by simpa using hb'))
    have hv := dictOf_val (key := fun i => (Sum.inr ((all.map (·.1)).getD i nix) : Key)) (val := fun i => svs.getD i .non) hinj hjy
    have hn : (all.map (·.1)).getD j nix = n := getD_of (by rw [List.getElem?_map, z1]; rfl)
    rw [hn, getD_of z2] at hv
    walk_at "aw"
    refine kDGet_i (k := Sum.inr n) ep hv ?_
    exact q sv H' (a1.trans g') (hi2.up (a1.trans g').tup)
def S_tell (K : PySem.W.Frag) (fP fA fM : Addr) : Addr → Option Sp := fun f => if f = fP then some (sp__product_holds K) else if f = fA then some (sp__ahead_holds K) else if f = fM then some (sp__machine_holds K) else none
def t_holds (K : PySem.W.Frag) (w : World) (T fP fA fM : Addr) : TS := (tSeq (tAsg (tOp (rIxD K w) (tC (.ref T)) (tOp (rIxT K) (tVar 0) (tC (.int 0)))) (gName 2))
  (tRet (tCallA 2 (S_tell K fP fA fM) (tCons (tVar 0) (tCons (tVar 1) tNil)))))
theorem len_holds {K : PySem.W.Frag} : ∀ (vs : List V) (H : Hp) (Q : VK) (E : XK), sp_holds K vs H Q E → vs.length = 2 := fun vs H Q E h => by
  obtain ⟨_, _, rfl, _⟩ := h
  rfl
theorem w_callA {i : Nat} {S : Addr → Option Sp} {t : TA} {σ : L2.St} {H : Hp} {Q : VK} {f : Addr} {sp : Sp} (h1 : σ[i]? = some (some (.ref f))) (h2 : S f = some sp) (h : t σ H fun vs H1 => sp vs H1 Q (fun _ _ _ => False)) : tCallA i S t σ H Q := ⟨f, sp, h1, h2, h⟩
theorem pure_holds {K : PySem.W.Frag} {wd : World} {T fP fA fM : Addr} (kP : KDct K wd T "product" (.ref fP)) (kA : KDct K wd T "ahead" (.ref fA)) (kM : KDct K wd T "machine" (.ref fM)) (hne : [fP, fA, fM].Nodup) (vs : List V) (H : Hp) (Q : VK) (E : XK) (h : sp_holds K vs H Q E) :
    t_holds K wd T fP fA fM { nx := fun _ H' => Q .non H', rt := Q } (start ["saying", "at", "tell"] vs) H := by
  obtain ⟨v, d, rfl, s, names, w, hv, hd, hw, ok, hx, q⟩ := h
  show t_holds K wd T fP fA fM _ [some v, some (.ref d), none] H
  unfold t_holds
  simp only [List.nodup_cons, List.mem_cons, List.not_mem_nil, or_false, not_or, not_false_eq_true, List.nodup_nil, and_true] at hne
  obtain ⟨⟨n1, n2⟩, n3⟩ := hne
  cases s with
  | prod x y z =>
    obtain ⟨a, rfl, ea⟩ := is_prod hv
    walk_at "aw"
    refine w_ixT (SqT.of ea) rfl ?_
    refine ⟨T, _, _, rfl, rfl, kP, ?_⟩
    walk_at "aw"
    refine w_callA rfl (sp := sp__product_holds K) (if_pos rfl) ?_
    walk_at "aw"
    exact ⟨_, _, rfl, x, y, z, names, w, hv, hd, hw, hx, q⟩
  | ahead xs ys =>
    obtain ⟨a, p, r, rfl, ea, ep, er⟩ := is_ahead hv
    walk_at "aw"
    refine w_ixT (SqT.of ea) rfl ?_
    refine ⟨T, _, _, rfl, rfl, kA, ?_⟩
    walk_at "aw"
    refine w_callA rfl (sp := sp__ahead_holds K) (by unfold S_tell; rw [if_neg (Ne.symm n1), if_pos rfl]) ?_
    walk_at "aw"
    exact ⟨_, _, rfl, xs, ys, names, w, hv, hd, ok, hx, q⟩
  | mach xs s mv en =>
    obtain ⟨a, p, r, e, vs, rfl, ea, ep, er, tr, ee⟩ := is_mach hv
    walk_at "aw"
    refine w_ixT (SqT.of ea) rfl ?_
    refine ⟨T, _, _, rfl, rfl, kM, ?_⟩
    walk_at "aw"
    refine w_callA rfl (sp := sp__machine_holds K) (by unfold S_tell; rw [if_neg (Ne.symm n2), if_neg (Ne.symm n3), if_pos rfl]) ?_
    walk_at "aw"
    exact ⟨_, _, rfl, xs, s, mv, en, names, w, hv, hd, ok, hx, q⟩
theorem len_keeps_saying {K : PySem.W.Frag} : ∀ (vs : List V) (H : Hp) (Q : VK) (E : XK), sp_keeps_saying K vs H Q E → vs.length = 3 := fun vs H Q E h => by
  obtain ⟨_, _, _, rfl, _⟩ := h
  rfl
theorem ModOk.of_mem {doms : List (Str × List Int)} {firm : List (Str × Say)} {soft : List (Str × Say × Int)} (ok : ModOk doms firm soft) {n : Str} {s : Say} (h : (n, s) ∈ firm ++ soft.map fun q => (q.1, q.2.1)) : s.ok ∧ ∀ x ∈ s.names, x ∈ doms.map (·.1) := by
  rcases List.mem_append.mp h with h | h
  · exact ok.fo _ h
  · obtain ⟨q, hq, e⟩ := List.mem_map.mp h
    have := ok.so q hq
    rw [show q.2.1 = s from congrArg Prod.snd e] at this
    exact this
theorem pure_keeps_saying {K : PySem.W.Frag} (vs : List V) (H : Hp) (Q : VK) (E : XK) (h : sp_keeps_saying K vs H Q E) : t_keeps_saying K { nx := fun _ H' => Q .non H', rt := Q } (start ["model", "name", "filling"] vs) H := by
  obtain ⟨m, f, n, rfl, doms, firm, soft, s, fl, hm, hf, hfl, hfw, ok, hmem, q⟩ := h
  show t_keeps_saying K _ [some m, some (.str n), some f] H
  unfold t_keeps_saying
  walk_at "aw"
  refine ⟨m, n, rfl, doms, firm, soft, s, hm, ok.sn, ok.fl, ok.sl, hmem, fun v H1 a1 hv => ?_⟩
  walk_at "aw"
  refine ⟨m, f, rfl, doms, firm, soft, fl, hm.up a1.tup, hf.up a1.tup, hfl, ok.dn, ok.dl, fun d H2 a2 hd => ?_⟩
  walk_at "aw"
  exact ⟨v, d, rfl, s, _, _, hv.up a2.tup, hd, fun x _ => wOf_wt hfw x, (ok.of_mem hmem).1, (ok.of_mem hmem).2, fun H' a3 => q H' (a1.trans (a2.trans a3))⟩
theorem len_keeps {K : PySem.W.Frag} : ∀ (vs : List V) (H : Hp) (Q : VK) (E : XK), sp_keeps K vs H Q E → vs.length = 2 := fun vs H Q E h => by
  obtain ⟨_, _, rfl, _⟩ := h
  rfl
theorem pure_keeps {K : PySem.W.Frag} (vs : List V) (H : Hp) (Q : VK) (E : XK) (h : sp_keeps K vs H Q E) : t_keeps K { nx := fun _ H' => Q .non H', rt := Q } (start ["model", "filling", "at", "name", "saying"] vs) H := by
  obtain ⟨m, f, rfl, doms, firm, soft, fl, hm, hf, hfl, hfw, ok, q⟩ := h
  show t_keeps K _ [some m, some f, none, none, none] H
  unfold t_keeps
  walk_at "aw"
  refine ⟨m, f, rfl, doms, firm, soft, fl, hm, hf, hfl, ok.dn, ok.dl, fun d H1 a1 hd => ?_⟩
  obtain ⟨a, b, c, dd, xs, ys, zs, rfl, ea, eb, tb, ec, tc, ed, td⟩ := is_mod hm
  have hly : ys.length = firm.length := by rw [tc.length, List.length_map]
  walk_at "aw"
  refine w_ixT (SqT.of (a1.tup _ _ ea)) rfl ?_
  refine kForT_i (xs := ys) (fun i σ H' => ∃ y1 y2, σ = [some (.ref a), some f, some (.ref d), y1, y2] ∧ Adv [] H1 H' ∧ i ≤ firm.length ∧ ∀ p ∈ firm.take i, holdP (wOf (doms.map (·.1)) fl) p.2 = true) (SqT.of (a1.tup _ _ ec))
    ⟨none, none, rfl, .refl _ _, Nat.zero_le _, fun p h => by simp at h⟩ (fun i σ H' _ p => ?_) (fun i v σ H' hv p => ?_) fun σ H' p => ?_
  · obtain ⟨_, _, _, g, _⟩ := p
    exact SqT.of (g.tup _ _ (a1.tup _ _ ec))
  · obtain ⟨y1, y2, rfl, g, hi, hh⟩ := p
    obtain ⟨dt, e1, h1⟩ := tc.get hv
    rw [List.getElem?_map] at e1
    obtain ⟨pr, z1, rfl⟩ := Option.map_eq_some_iff.mp e1
    obtain ⟨ia, vs, rfl, ei, h2⟩ := h1.tup_inv
    cases h2 with
    | cons h3 h4 =>
      cases h4 with
      | cons h5 h6 =>
        cases h6
        cases h3
        rename_i sv
        have pmem := List.mem_of_getElem? z1
        have po := ok.fo _ pmem
        refine w_gtup (SqT.of (g.tup _ _ (a1.tup _ _ ei))) rfl ?_
        walk_at "aw"
        refine ⟨_, _, rfl, pr.2, _, _, (h5.up a1.tup).up g.tup, hd.up g, fun x _ => wOf_wt hfw x, po.1, po.2, fun H4 a4 => ?_⟩
        walk_at "aw"
        have hlt : i < firm.length := (List.getElem?_eq_some_iff.mp z1).1
        cases hb : holdP (wOf (doms.map (·.1)) fl) pr.2 with
        | false =>
          refine iteT ?_
          walk_at "aw"
          have hq := q H4 (a1.trans (g.trans a4))
          have e : (firm.all fun p => holdP (wOf (doms.map (·.1)) fl) p.2) = false := List.all_eq_false.mpr ⟨pr, pmem, by rw [hb]; decide⟩
          rw [e] at hq
          exact hq
        | true =>
          refine iteF ?_
          walk_at "aw"
          refine ⟨_, _, rfl, g.trans a4, hlt, fun p hp => ?_⟩
          rw [List.take_add_one, z1] at hp
          rcases List.mem_append.mp hp with hp | hp
          · exact hh p hp
          · rw [show p = pr by simpa using hp]
            exact hb
  · obtain ⟨y1, y2, rfl, g, hi, hh⟩ := p
    walk_at "aw"
    have hq := q H' (a1.trans g)
    have e : (firm.all fun p => holdP (wOf (doms.map (·.1)) fl) p.2) = true := by
      rw [List.all_eq_true]
      exact fun p hp => hh p (by rw [List.take_of_length_le (by omega)]; exact hp)
    rw [e] at hq
    exact hq
end AW
namespace AW
open PySem PySem.Spec PyProof.Rows L2 RZ
local macro_rules | `(tactic| walk_at "aw1") => `(tactic| first
  | (with_reducible refine w_seq ?_) | (with_reducible refine w_asg ?_) | (with_reducible refine w_gname ?_) | (with_reducible refine w_op ?_) | (with_reducible refine w_un ?_)
  | ((with_reducible refine' w_var ?h ?_); (case h => rfl)) | (with_reducible refine w_c ?_)
  | (with_reducible refine w_I0 ?_) | (with_reducible refine w_U ?_) | (with_reducible refine w_cb ?_) | (with_reducible refine w_nil ?_) | (with_reducible refine w_cons ?_) | (with_reducible refine w_call ?_)
  | (with_reducible refine w_test ?_) | (with_reducible refine w_B ?_) | (with_reducible refine w_bl ?_) | (with_reducible refine w_not ?_) | (with_reducible refine w_yes ?_) | (with_reducible refine iteT ?_) | (with_reducible refine iteF ?_) | (with_reducible refine w_and ?_) | (with_reducible refine w_or ?_)
  | (with_reducible refine w_andV ?_) | (with_reducible refine w_orV ?_) | (with_reducible refine w_notV ?_) | (with_reducible refine w_if ?_)
  | (with_reducible refine w_int1 ?_) | (with_reducible refine w_int1b ?_) | (with_reducible refine w_abs ?_) | (with_reducible refine w_max2 ?_) | (with_reducible refine w_min2 ?_)
  | ((with_reducible refine w_eq ?h ?_); (case h => rfl)) | ((with_reducible refine w_ne ?h ?_); (case h => rfl)) | (with_reducible refine w_isN ?_) | (with_reducible refine w_isB ?_) | (with_reducible refine w_chain ?_)
  | (with_reducible refine w_ret ?_) | (with_reducible refine w_drop ?_) | (with_reducible refine w_ifS ?_) | (with_reducible refine w_gsub ?_) | (with_reducible refine w_augS ?_) | (with_reducible refine w_ipI ?_) | (with_reducible refine w_next ?_)
  | (with_reducible refine w_forR ?_) | (with_reducible refine w_forR2 ?_) | (with_reducible refine w_forL ?_) | (with_reducible refine w_forT ?_) | (with_reducible refine w_lcR ?_) | (with_reducible refine w_lcL ?_) | (with_reducible refine w_lcT ?_) | (with_reducible refine w_sl ?_) | (with_reducible refine w_part ?_) | (with_reducible refine w_noPart ?_) | (with_reducible refine w_in ?_)
  | (with_reducible refine w_gcons ?_) | (with_reducible refine w_gnil ?_) | (with_reducible refine w_lc3 ?_) | (with_reducible refine w_dcZ ?_) | (with_reducible refine w_dcT ?_) | (with_reducible refine w_dg ?_) | (with_reducible refine w_callK ?_) | (with_reducible refine w_dput ?_) | (with_reducible refine w_tup1 ?_)
  | (with_reducible refine w_tup ?_) | (with_reducible refine w_lst ?_)
  | ((with_reducible refine w_I ?h ?_); (case h => first | (exact Or.inr ⟨by decide, by decide⟩) | (exact Or.inl ⟨by decide, by decide⟩) | (show (0 : Int) < _; decide) | (exact ⟨by decide, by decide, by decide⟩) | assumption)))
local macro_rules | `(tactic| walk_at "aw") => `(tactic| repeat (walk_at "aw1"))
/-! ### the law's own reading: what each promises -/
def SqA (K : PySem.W.Frag) (H : Hp) (p : Addr) (xs : List V) : Prop := SqL K H p xs ∨ SqT K H p xs
theorem SqA.up {K : PySem.W.Frag} {H H' : Hp} {p : Addr} {xs : List V} (h : SqA K H p xs) (e : Adv [] H H') : SqA K H' p xs := h.imp (fun h => e.sql (fun z => nomatch z) h) fun h => e.sqt (fun _ _ _ z => nomatch z) h
theorem w_ixA {K : PySem.W.Frag} {H : Hp} {Q : VK} {p : Addr} {xs : List V} {i : Int} {v : V} (h : SqA K H p xs) (e : atI xs i = some v) (q : Q v H) : rIxA K (.ref p) (.int i) H Q := h.imp (fun h => w_ixL h e q) fun h => w_ixT h e q
theorem w_lenA {K : PySem.W.Frag} {H : Hp} {Q : VK} {p : Addr} {xs : List V} (h : SqA K H p xs) (q : Q (.int (xs.length : Nat)) H) : rLen1 K [.ref p] H Q := by
  rcases h with h | h
  · exact w_lenL h q
  · exact w_lenT h q
/-- a list of such data -/
def LsAt (H : Hp) (p : Addr) (ds : List PyData) : Prop := ∃ xs, H p = some (.lst xs) ∧ IsAll H ds xs
theorem LsAt.up {H H' : Hp} {p : Addr} {ds : List PyData} (h : LsAt H p ds) (e : Adv [] H H') : LsAt H' p ds := by
  obtain ⟨xs, h1, h2⟩ := h
  exact ⟨xs, e.keep _ _ (fun z => nomatch z) h1, h2.up e.tup⟩
theorem LsAt.go {st cs : Addr} {H H' : Hp} {p : Addr} {ds : List PyData} (h : LsAt H p ds) (n : p ≠ st) (g : Go st cs H H') : LsAt H' p ds := by
  obtain ⟨xs, h1, h2⟩ := h
  exact ⟨xs, g.keep n h1, h2.up g.tk⟩
def sp__law_is_due (_ : PySem.W.Frag) : Sp := fun vs H Q _ => ∃ (a b : Bool), vs = [.bl a, .bl b] ∧ Q (.bl (a == b)) H
def sp__law_world (K : PySem.W.Frag) : Sp := fun vs H Q _ => ∃ (p f : Addr), vs = [.ref p, .ref f] ∧ ∃ (doms : List (Str × List Int)) (fl : List Int), LsAt H p (doms.map domD) ∧ SqA K H f (fl.map V.int) ∧ fl.length = doms.length ∧ (doms.map (·.1)).Nodup ∧ doms.length ≤ 100 ∧
  ∀ d H', Adv [] H H' → H d = none → WD H' d (doms.map (·.1)) (wOf (doms.map (·.1)) fl) → Q (.ref d) H'
/-- a dict of values by name, whatever they are -/
def WV (H : Hp) (d : Addr) (names : List Str) (w : Str → V) : Prop := ∃ kvs, H d = some (.dK kvs) ∧ ∀ x ∈ names, valV kvs (Sum.inr x) = some (w x)
def sp__law_worldV (K : PySem.W.Frag) : Sp := fun vs H Q _ => ∃ (p f : Addr), vs = [.ref p, .ref f] ∧ ∃ (doms : List (Str × List Int)) (fl : List V), LsAt H p (doms.map domD) ∧ SqA K H f fl ∧ fl.length = doms.length ∧ (doms.map (·.1)).Nodup ∧ doms.length ≤ 100 ∧
  ∀ d H', Adv [] H H' → H d = none → WV H' d (doms.map (·.1)) (fun x => fl.getD ((doms.map (·.1)).idxOf x) .non) → Q (.ref d) H'
def sp__law_holds (_ : PySem.W.Frag) : Sp := fun vs H Q _ => ∃ (v : V) (d : Addr), vs = [v, .ref d] ∧ ∃ s names w, Is H (sayD s) v ∧ WD H d names w ∧ (∀ x ∈ names, wt (w x)) ∧ s.ok ∧ (∀ x ∈ s.names, x ∈ names) ∧ ∀ H', Adv [] H H' → Q (.bl (holdP w s)) H'
def endV : Option Int → V
  | none => .non
  | some z => .int z
def sp__law_walk (_ : PySem.W.Frag) : Sp := fun vs H Q _ => ∃ (v : V) (d : Addr), vs = [v, .ref d] ∧ ∃ xs s mv en names w, Is H (sayD (.mach xs s mv en)) v ∧ WD H d names w ∧ (Say.mach xs s mv en).ok ∧ (∀ x ∈ xs, x ∈ names) ∧ ∀ H', Adv [] H H' → Q (endV (walkM mv s (xs.map w))) H'
theorem w_par0 {i j : Nat} {ta : TA} {D : Ends} {σ : L2.St} {H : Hp} (h : ta σ H fun vs H1 => ∃ v w, vs = [v, w] ∧ D.nx ((σ.set i (some v)).set j (some w)) H1) : tPar i j ta D σ H := h
theorem filter_range {α β : Type} (xs : List α) (d : α) (P : α → Bool) (f : α → β) : ((List.range xs.length).filter fun i => P (xs.getD i d)).map (fun i => f (xs.getD i d)) = (xs.filter P).map f := by
  have e : (List.range xs.length).map (fun i => xs.getD i d) = xs := by
    have := map_range xs d id
    rw [List.map_id] at this
    exact this
  have e2 : (xs.filter P) = ((List.range xs.length).filter fun i => P (xs.getD i d)).map (fun i => xs.getD i d) := by
    conv => lhs; rw [← e]
    rw [List.filter_map]
    rfl
  rw [e2, List.map_map]
  rfl
theorem leL_skip : ∀ (i : Nat) (as bs : List Int), (∀ j, j < i → as[j]? = bs[j]?) → i ≤ as.length → i ≤ bs.length → leL as bs = leL (as.drop i) (bs.drop i)
  | 0, _, _, _, _, _ => rfl
  | i + 1, a :: as, b :: bs, h, h1, h2 => by
    have e : a = b := Option.some.inj (h 0 (by omega))
    show (if a = b then leL as bs else _) = _
    rw [if_pos e]
    exact leL_skip i as bs (fun j hj => by simpa using h (j + 1) (by omega)) (Nat.le_of_succ_le_succ h1) (Nat.le_of_succ_le_succ h2)
  | i + 1, [], _, _, h1, _ => absurd h1 (Nat.not_succ_le_zero _)
  | i + 1, _ :: _, [], _, _, h2 => absurd h2 (Nat.not_succ_le_zero _)
def t__law_is_due  : TS := (tRet (tIf (tB (tVar 1)) (tOp rIsB (tVar 0) (tC (.bl true))) (tOp rIsB (tVar 0) (tC (.bl false)))))
def t__law_world (K : PySem.W.Frag) : TS := (tSeq (tAsg tDNewK (gName 2))
  (tSeq (tFor (iRng1 (tCons (tCB (rLen1 K) (tCons (tVar 0) tNil)) tNil)) (gName 3)
  (sDPut (tVar 2) (tOp (rIxT K) (tOp (rIxL K) (tVar 0) (tVar 3)) (tC (.int 0))) (tOp (rIxA K) (tVar 1) (tVar 3))))
  (tRet (tVar 2))))
def t__law_walk (K : PySem.W.Frag) : TS := (tSeq (tAsg (tOp (rIxT K) (tVar 0) (tC (.int 2))) (gName 2))
  (tSeq (tFor (iTup K (tOp (rIxT K) (tVar 0) (tC (.int 1)))) (gName 3)
  (tSeq (tAsg (tLc (iTup K (tOp (rIxT K) (tVar 0) (tC (.int 3)))) (gName 5) (tAnd (tTest (tOp rEq (tOp (rIxT K) (tVar 5) (tC (.int 0))) (tVar 2))) (tTest (tOp rEq (tOp (rIxT K) (tVar 5) (tC (.int 1))) (tDGet (tVar 1) (tVar 3))))) (tOp (rIxT K) (tVar 5) (tC (.int 2))) [5]) (gName 4))
  (tSeq (tIfS (tTest (tOp (rEqD K) (tVar 4) (tLst tNil))) (tRet (tC .non)) tNext)
  (tAsg (tOp (rIxL K) (tVar 4) (tC (.int 0))) (gName 2)))))
  (tRet (tVar 2))))
def t__law_holds (K : PySem.W.Frag) : TS := (tSeq (tIfS (tTest (tOp rEq (tOp (rIxT K) (tVar 0) (tC (.int 0))) (tC (.str "product")))) (tRet (tOp rEq (tOp rMulI (tDGet (tVar 1) (tOp (rIxT K) (tVar 0) (tC (.int 1)))) (tDGet (tVar 1) (tOp (rIxT K) (tVar 0) (tC (.int 2))))) (tDGet (tVar 1) (tOp (rIxT K) (tVar 0) (tC (.int 3)))))) tNext)
  (tSeq (tIfS (tTest (tOp rEq (tOp (rIxT K) (tVar 0) (tC (.int 0))) (tC (.str "machine")))) (tSeq (tAsg (tCall (sp__law_walk K) [] E0 (tCons (tVar 0) (tCons (tVar 1) tNil))) (gName 2))
  (tRet (tAndV (tOp rNotN (tVar 2) (tC .non)) (tOp (rInT K) (tVar 2) (tOp (rIxT K) (tVar 0) (tC (.int 4))))))) tNext)
  (tSeq (tFor (iRng1 (tCons (tCB (rLen1 K) (tCons (tOp (rIxT K) (tVar 0) (tC (.int 1))) tNil)) tNil)) (gName 3)
  (tSeq (tPar 4 5 (tCons (tDGet (tVar 1) (tOp (rIxT K) (tOp (rIxT K) (tVar 0) (tC (.int 1))) (tVar 3))) (tCons (tDGet (tVar 1) (tOp (rIxT K) (tOp (rIxT K) (tVar 0) (tC (.int 2))) (tVar 3))) tNil)))
  (tIfS (tTest (tOp rNe (tVar 4) (tVar 5))) (tRet (tOp rLtI (tVar 4) (tVar 5))) tNext)))
  (tRet (tC (.bl true))))))
theorem len__law_is_due {K : PySem.W.Frag} : ∀ (vs : List V) (H : Hp) (Q : VK) (E : XK), sp__law_is_due K vs H Q E → vs.length = 2 := fun vs H Q E h => by
  obtain ⟨_, _, rfl, _⟩ := h
  rfl
theorem pure__law_is_due {K : PySem.W.Frag} (vs : List V) (H : Hp) (Q : VK) (E : XK) (h : sp__law_is_due K vs H Q E) : t__law_is_due { nx := fun _ H' => Q .non H', rt := Q } (start ["told", "due"] vs) H := by
  obtain ⟨a, b, rfl, q⟩ := h
  show t__law_is_due _ [some (.bl a), some (.bl b)] H
  unfold t__law_is_due
  walk_at "aw"
  cases b <;> cases a <;> walk_at "aw" <;> exact q
theorem len__law_world {K : PySem.W.Frag} : ∀ (vs : List V) (H : Hp) (Q : VK) (E : XK), sp__law_world K vs H Q E → vs.length = 2 := fun vs H Q E h => by
  obtain ⟨_, _, rfl, _⟩ := h
  rfl
theorem idxOf_at {names : List Str} (hn : names.Nodup) {j : Nat} {x : Str} (h : names[j]? = some x) : names.idxOf x = j := by
  obtain ⟨hj, rfl⟩ := List.getElem?_eq_some_iff.mp h
  exact hn.idxOf_getElem j hj
theorem len__law_worldV {K : PySem.W.Frag} : ∀ (vs : List V) (H : Hp) (Q : VK) (E : XK), sp__law_worldV K vs H Q E → vs.length = 2 := fun vs H Q E h => by
  obtain ⟨_, _, rfl, _⟩ := h
  rfl
theorem pure__law_worldV {K : PySem.W.Frag} (vs : List V) (H : Hp) (Q : VK) (E : XK) (h : sp__law_worldV K vs H Q E) : t__law_world K { nx := fun _ H' => Q .non H', rt := Q } (start ["doms", "filling", "at", "k"] vs) H := by
  obtain ⟨p, f, rfl, doms, fl, ⟨xs, hp, tp⟩, hf, hfl, hnd, hdl, q⟩ := h
  show t__law_world K _ [some (.ref p), some (.ref f), none, none] H
  have hxl : xs.length = doms.length := by rw [tp.length, List.length_map]
  unfold t__law_world
  walk_at "aw"
  refine w_dnew fun d H1 nd a1 e1 => ?_
  walk_at "aw"
  refine w_lenL (SqL.of (a1.keep _ _ (fun z => nomatch z) hp)) ?_
  walk_at "aw"
  rw [hxl]
  refine kForR_i (n := doms.length) (by omega) (fun i σ H' => ∃ y kvs, σ = [some (.ref p), some (.ref f), some (.ref d), y] ∧ Adv [] H H' ∧ H' d = some (.dK kvs) ∧ kvs.length ≤ i ∧ ∀ (j : Nat) x v, j < i → (doms.map (·.1))[j]? = some x → fl[j]? = some v → valV kvs (Sum.inr x) = some v)
    ⟨none, [], rfl, a1, e1, Nat.le_refl _, fun j x v hj => absurd hj (Nat.not_lt_zero _)⟩ (fun i σ H' hi pp => ?_) fun σ H' pp => ?_
  · obtain ⟨y, kvs, rfl, g, ed, hk, hv⟩ := pp
    obtain ⟨pr, z1⟩ := get_some (xs := doms) hi
    obtain ⟨n1, z2⟩ := get_some (xs := fl) (i := i) (by omega)
    obtain ⟨x, z3⟩ := get_some (xs := xs) (i := i) (by omega)
    obtain ⟨dt, e2, h2⟩ := tp.get z3
    rw [List.getElem?_map, z1] at e2
    cases e2
    obtain ⟨ia, ib, rfl, e3, e4⟩ := is_dom h2
    walk_at "aw"
    refine w_ixA (hf.up g) (at_of (j := i) rfl z2) ?_
    walk_at "aw"
    refine w_ixL (SqL.of (g.keep _ _ (fun z => nomatch z) hp)) (at_of (j := i) rfl z3) ?_
    walk_at "aw"
    refine w_ixT (SqT.of (g.tup _ _ e3)) rfl ?_
    refine kDPut_i (k := Sum.inr pr.1) ed (by omega) ⟨_, _, rfl, g.mut nd ed (fun _ z => by cases z), upd_same, Nat.le_trans (length_putK ..) (Nat.succ_le_succ hk), fun j x v hj hx hvv => ?_⟩
    rw [valV_put]
    have zi : (doms.map (·.1))[i]? = some pr.1 := by rw [List.getElem?_map, z1]; rfl
    by_cases e : j = i
    · subst e
      rw [zi] at hx
      cases hx
      rw [z2] at hvv
      cases hvv
      rw [if_pos rfl]
    · have hne : ¬ (Sum.inr x : Key) = Sum.inr pr.1 := fun z => e (nodup_inj hnd hx (by rw [Sum.inr.inj z]; exact zi))
      rw [if_neg hne]
      exact hv j x v (by omega) hx hvv
  · obtain ⟨y, kvs, rfl, g, ed, hk, hv⟩ := pp
    walk_at "aw"
    refine q d H' g nd ⟨kvs, ed, fun x hx => ?_⟩
    obtain ⟨j, hj, rfl⟩ := List.mem_iff_getElem.mp hx
    have zj := List.getElem?_eq_getElem hj
    rw [List.length_map] at hj
    obtain ⟨v, hvv⟩ := get_some (xs := fl) (i := j) (by omega)
    rw [hv j _ v hj zj hvv]
    show some v = some (fl.getD _ .non)
    rw [idxOf_at hnd zj, getD_of hvv]
theorem pure__law_world {K : PySem.W.Frag} (vs : List V) (H : Hp) (Q : VK) (E : XK) (h : sp__law_world K vs H Q E) : t__law_world K { nx := fun _ H' => Q .non H', rt := Q } (start ["doms", "filling", "at", "k"] vs) H := by
  obtain ⟨p, f, rfl, doms, fl, hp, hf, hfl, hnd, hdl, q⟩ := h
  refine pure__law_worldV _ H Q E ⟨p, f, rfl, doms, fl.map V.int, hp, hf, by rw [List.length_map]; exact hfl, hnd, hdl, fun d H' a1 nd ⟨kvs, h1, h2⟩ => q d H' a1 nd ⟨kvs, h1, fun x hx => ?_⟩⟩
  rw [h2 x hx]
  unfold wOf
  have hj : (doms.map (·.1)).idxOf x < fl.length := by
    have := List.idxOf_lt_length_of_mem hx
    rw [List.length_map] at this
    omega
  show some ((fl.map V.int).getD ((doms.map (·.1)).idxOf x) .non) = some (.int (fl.getD ((doms.map (·.1)).idxOf x) 0))
  rw [getD_of (List.getElem?_eq_getElem hj), getD_of (v := .int fl[(doms.map (·.1)).idxOf x]) (by rw [List.getElem?_map, List.getElem?_eq_getElem hj]; rfl)]
theorem ints_shaped (xs : List Int) : SeqAt.shaped (.list (xs.map .int)) = true := by
  have h1 := lay_ints xs
  have h2 := deep_ints xs
  have h3 : (PyData.list (xs.map .int)).depth ≤ 64 := by
    simp only [PyData.depth]
    omega
  show ((PyData.list (xs.map .int)).canLay0 && decide ((PyData.list (xs.map .int)).depth ≤ 64)) = true
  rw [decide_eq_true h3, Bool.and_true]
  simp only [PyData.canLay0]
  exact h1
theorem eqv_nilI (xs : List Int) : PyData.eqv (.list (xs.map .int)) (.list []) = xs.isEmpty := by
  cases xs <;> simp [PyData.eqv, PyData.eqvAll]
theorem len__law_walk {K : PySem.W.Frag} : ∀ (vs : List V) (H : Hp) (Q : VK) (E : XK), sp__law_walk K vs H Q E → vs.length = 2 := fun vs H Q E h => by
  obtain ⟨_, _, rfl, _⟩ := h
  rfl
theorem pure__law_walk {K : PySem.W.Frag} (vs : List V) (H : Hp) (Q : VK) (E : XK) (h : sp__law_walk K vs H Q E) : t__law_walk K { nx := fun _ H' => Q .non H', rt := Q } (start ["saying", "at", "here", "x", "after", "move"] vs) H := by
  obtain ⟨v, d, rfl, xs, s, mv, en, names, w, hv, hd, ok, hx, q⟩ := h
  obtain ⟨a, p, qq, r, vs, rfl, ea, ep, eq, tq, er⟩ := is_mach hv
  obtain ⟨o1, o2, o3, o4⟩ := ok
  have hvl : vs.length = mv.length := by rw [tq.length, List.length_map]
  show t__law_walk K _ [some (.ref a), some (.ref d), none, none, none, none] H
  unfold t__law_walk
  walk_at "aw"
  refine w_ixT (SqT.of ea) (i := 2) (v := .int s) rfl ?_
  walk_at "aw"
  refine w_ixT (SqT.of ea) (i := 1) (v := .ref p) rfl ?_
  refine kForT_i (xs := xs.map V.str) (fun i σ H' => ∃ y3 y4 cur, σ = [some (.ref a), some (.ref d), some (.int cur), y3, y4, none] ∧ Adv [] H H' ∧ walkM mv s (xs.map w) = walkM mv cur ((xs.map w).drop i)) (SqT.of ep)
    ⟨none, none, s, rfl, .refl _ _, rfl⟩ (fun i σ H' _ pp => ?_) (fun i v σ H' hv pp => ?_) fun σ H' pp => ?_
  · obtain ⟨_, _, _, _, g, _⟩ := pp
    exact SqT.of (g.tup _ _ ep)
  · obtain ⟨y3, y4, cur, rfl, g, hw⟩ := pp
    rw [List.getElem?_map] at hv
    obtain ⟨x, hx1, rfl⟩ := Option.map_eq_some_iff.mp hv
    have hd' := hd.up g
    have eq' := g.tup _ _ eq
    have hdrop : (xs.map w).drop i = w x :: (xs.map w).drop (i + 1) := by
      have h1 : i < (xs.map w).length := by rw [List.length_map]; exact (List.getElem?_eq_some_iff.mp hx1).1
      rw [List.drop_eq_getElem_cons h1, List.getElem_map]
      rw [List.getElem?_eq_getElem (by simpa using h1)] at hx1
      rw [Option.some.inj hx1]
    rw [hdrop] at hw
    walk_at "aw"
    refine w_ixT (SqT.of (g.tup _ _ ea)) (i := 3) (v := .ref qq) rfl ?_
    refine ⟨qq, rfl, ⟨_, SqT.of eq'⟩, ?_⟩
    refine kLc_pure (walk_tup (xs := vs)) (by omega) (fun H' g => SqT.of (g.tup _ _ eq')) (fun i => isAt cur (w x) (mv.getD i mvD)) (fun i => .int (mv.getD i mvD).2.2) (fun i y H2 H3 Kt Kf hi g2 yy kt kf => ?_) fun l H1 nl g1 el => ?_
    · obtain ⟨rfl, y1⟩ := yy
      obtain ⟨dt, z1, h1⟩ := tq.get y1
      rw [List.getElem?_map] at z1
      obtain ⟨m, z2, rfl⟩ := Option.map_eq_some_iff.mp z1
      obtain ⟨ia, rfl, ei⟩ := is_tri (h1.up g.tup)
      have ei2 := g2.tup _ _ ei
      rw [getD_of z2] at kt kf
      walk_at "aw"
      refine ⟨rfl, ?_⟩
      walk_at "aw"
      refine w_ixT (SqT.of ei2) (i := 0) (v := .int m.1) rfl ?_
      walk_at "aw"
      refine w_iteB (fun h1 => ?_) fun h1 => ?_
      · have h1 := V.int.inj h1
        walk_at "aw"
        refine w_ixT (SqT.of ei2) (i := 1) (v := .int m.2.1) rfl ?_
        walk_at "aw"
        refine (hd'.up g2).get (hx x (List.mem_of_getElem? hx1)) ?_
        walk_at "aw"
        refine w_iteB (fun h2 => ?_) fun h2 => ?_
        · have h2 := V.int.inj h2
          walk_at "aw"
          refine w_ixT (SqT.of ei2) (i := 2) (v := .int m.2.2) rfl ?_
          exact kt (by unfold isAt; rw [decide_eq_true h1, decide_eq_true h2]; rfl) _ (.refl _ _)
        · exact kf (by unfold isAt; rw [decide_eq_false (fun z => h2 (congrArg _ z)), Bool.and_false]) _ (.refl _ _)
      · refine kf (by unfold isAt; rw [decide_eq_false (fun z => h1 (congrArg _ z)), Bool.false_and]) _ (.refl _ _)
    rw [hvl, filter_range mv mvD (isAt cur (w x)) (fun m => V.int m.2.2), show (mv.filter (isAt cur (w x))).map (fun m => V.int m.2.2) = ((mv.filter (isAt cur (w x))).map (·.2.2)).map V.int by rw [List.map_map]; rfl] at el
    walk_at "aw"
    refine w_lstD (by simp) fun l2 H2 nl2 a2 e2 => ?_
    have el2 := a2.keep _ _ (fun z => nomatch z) el
    walk_at "aw"
    refine ⟨.list (((mv.filter (isAt cur (w x))).map (·.2.2)).map .int), .list [], .lst (SqL.of el2) (IsAll.ints _).dp, .lst (SqL.of e2) (IsAll.dp (K := K) IsAll.nil), ints_shaped _, ints_shaped [], ?_⟩
    rw [eqv_nilI]
    have hh : (mv.filter (isAt cur (w x))).head? = mv.find? (isAt cur (w x)) := List.head?_filter
    cases hf : mv.filter (isAt cur (w x)) with
    | nil =>
      rw [hf] at hh
      have hw2 : walkM mv s (xs.map w) = none := by
        rw [hw]
        unfold walkM
        rw [← hh]
        rfl
      walk_at "aw"
      refine iteT'' rfl ?_
      walk_at "aw"
      have := q H2 (g.trans (g1.trans a2))
      rw [hw2] at this
      exact this
    | cons m ms =>
      rw [hf] at hh el2
      walk_at "aw"
      refine iteF'' rfl ?_
      walk_at "aw"
      refine w_ixL (SqL.of el2) (show atI (((m :: ms).map (·.2.2)).map V.int) 0 = some (.int m.2.2) from at_of (j := 0) rfl rfl) ?_
      refine ⟨_, _, m.2.2, rfl, g.trans (g1.trans a2), ?_⟩
      rw [hw]
      conv => lhs; unfold walkM
      rw [← hh]
      rfl
  · obtain ⟨y3, y4, cur, rfl, g, hw⟩ := pp
    walk_at "aw"
    have := q H' g
    rw [hw, List.length_map, List.drop_of_length_le (by rw [List.length_map]; exact Nat.le_refl _)] at this
    exact this
theorem len__law_holds {K : PySem.W.Frag} : ∀ (vs : List V) (H : Hp) (Q : VK) (E : XK), sp__law_holds K vs H Q E → vs.length = 2 := fun vs H Q E h => by
  obtain ⟨_, _, rfl, _⟩ := h
  rfl
theorem pure__law_holds {K : PySem.W.Frag} (vs : List V) (H : Hp) (Q : VK) (E : XK) (h : sp__law_holds K vs H Q E) : t__law_holds K { nx := fun _ H' => Q .non H', rt := Q } (start ["saying", "at", "here", "k", "one", "other"] vs) H := by
  obtain ⟨v, d, rfl, s, names, w, hv, hd, hw, ok, hx, q⟩ := h
  show t__law_holds K _ [some v, some (.ref d), none, none, none, none] H
  unfold t__law_holds
  cases s with
  | prod x y z =>
    obtain ⟨a, rfl, ea⟩ := is_prod hv
    have h1 := hx x (by simp [Say.names])
    have h2 := hx y (by simp [Say.names])
    have h3 := hx z (by simp [Say.names])
    walk_at "aw"
    refine w_ixT (SqT.of ea) (i := 0) (v := .str "product") rfl ?_
    walk_at "aw"
    refine w_iteB (fun _ => ?_) fun h => absurd rfl h
    walk_at "aw"
    refine w_ixT (SqT.of ea) (i := 1) (v := .str x) rfl ?_
    refine hd.get h1 ?_
    walk_at "aw"
    refine w_ixT (SqT.of ea) (i := 2) (v := .str y) rfl ?_
    refine hd.get h2 ?_
    refine w_I (.inl (hw x h1)) ?_
    walk_at "aw"
    refine w_ixT (SqT.of ea) (i := 3) (v := .str z) rfl ?_
    refine hd.get h3 ?_
    walk_at "aw"
    have e : decide (V.int (w x * w y) = V.int (w z)) = holdP w (.prod x y z) := by
      show _ = decide (w x * w y = w z)
      rw [decide_eq_decide]
      exact ⟨V.int.inj, congrArg _⟩
    rw [e]
    exact q H (.refl _ _)
  | mach xs s mv en =>
    obtain ⟨a, p, qq, r, vs, rfl, ea, ep, eq, tq, er⟩ := is_mach hv
    walk_at "aw"
    refine w_ixT (SqT.of ea) (i := 0) (v := .str "machine") rfl ?_
    walk_at "aw"
    refine w_iteB (fun h => absurd h (by decide)) fun _ => ?_
    walk_at "aw"
    refine w_ixT (SqT.of ea) (i := 0) (v := .str "machine") rfl ?_
    walk_at "aw"
    refine w_iteB (fun _ => ?_) fun h => absurd rfl h
    walk_at "aw"
    refine ⟨_, d, rfl, xs, s, mv, en, names, w, hv, hd, ok, hx, fun H1 a1 => ?_⟩
    have e0 : holdP w (.mach xs s mv en) = match walkM mv s (xs.map w) with
      | none => false
      | some q => en.any fun e => decide (e = q) := rfl
    cases hwk : walkM mv s (xs.map w) with
    | none =>
      rw [hwk] at e0
      show _
      walk_at "aw"
      refine ⟨rfl, ?_⟩
      refine ⟨false, rfl, ?_⟩
      refine iteF'' rfl ?_
      have := q H1 a1
      rw [e0] at this
      exact this
    | some z =>
      rw [hwk] at e0
      walk_at "aw"
      refine ⟨rfl, ?_⟩
      refine ⟨true, rfl, ?_⟩
      refine iteT'' rfl ?_
      walk_at "aw"
      refine w_ixT (SqT.of (a1.tup _ _ ea)) (i := 4) (v := .ref r) rfl ?_
      refine ⟨.int z, en.map .int, (Is.int _).dp, (Is.tup (a1.tup _ _ er) (IsAll.ints _)).dp, int_shaped _, row_shaped en, ?_⟩
      rw [any_ints]
      have := q H1 a1
      rw [e0] at this
      exact this
  | ahead xs ys =>
    obtain ⟨a, p, r, rfl, ea, ep, er⟩ := is_ahead hv
    obtain ⟨o1, o2⟩ := ok
    have hxs : ∀ x ∈ xs, x ∈ names := fun x h => hx x (List.mem_append_left _ h)
    have hys : ∀ x ∈ ys, x ∈ names := fun x h => hx x (List.mem_append_right _ h)
    walk_at "aw"
    refine w_ixT (SqT.of ea) (i := 0) (v := .str "ahead") rfl ?_
    walk_at "aw"
    refine w_iteB (fun h => absurd h (by decide)) fun _ => ?_
    walk_at "aw"
    refine w_ixT (SqT.of ea) (i := 0) (v := .str "ahead") rfl ?_
    walk_at "aw"
    refine w_iteB (fun h => absurd h (by decide)) fun _ => ?_
    walk_at "aw"
    refine w_ixT (SqT.of ea) (i := 1) (v := .ref p) rfl ?_
    walk_at "aw"
    refine w_lenT (SqT.of ep) ?_
    rw [List.length_map]
    have e0 : holdP w (.ahead xs ys) = leL (xs.map w) (ys.map w) := rfl
    refine kForR_i (n := xs.length) (by omega) (fun i σ H' => ∃ y3 y4 y5, σ = [some (.ref a), some (.ref d), none, y3, y4, y5] ∧ H' = H ∧ ∀ j, j < i → (xs.map w)[j]? = (ys.map w)[j]?) ⟨none, none, none, rfl, rfl, fun j h => absurd h (Nat.not_lt_zero _)⟩ (fun i σ H' hi pp => ?_) fun σ H' pp => ?_
    · obtain ⟨y3, y4, y5, rfl, rfl, hj⟩ := pp
      obtain ⟨x, hx1⟩ := get_some (xs := xs) hi
      obtain ⟨y, hy1⟩ := get_some (xs := ys) (i := i) (by omega)
      have e1 : (xs.map w)[i]? = some (w x) := by rw [List.getElem?_map, hx1]; rfl
      have e2 : (ys.map w)[i]? = some (w y) := by rw [List.getElem?_map, hy1]; rfl
      walk_at "aw"
      refine w_par0 ?_
      walk_at "aw"
      refine w_ixT (SqT.of ea) (i := 1) (v := .ref p) rfl ?_
      walk_at "aw"
      refine w_ixT (SqT.of ep) (at_of (j := i) (v := .str x) rfl (by rw [List.getElem?_map, hx1]; rfl)) ?_
      refine hd.get (hxs x (List.mem_of_getElem? hx1)) ?_
      walk_at "aw"
      refine w_ixT (SqT.of ea) (i := 2) (v := .ref r) rfl ?_
      walk_at "aw"
      refine w_ixT (SqT.of er) (at_of (j := i) (v := .str y) rfl (by rw [List.getElem?_map, hy1]; rfl)) ?_
      refine hd.get (hys y (List.mem_of_getElem? hy1)) ?_
      walk_at "aw"
      refine ⟨_, _, rfl, ?_⟩
      walk_at "aw"
      by_cases h : w x = w y
      · refine iteF'' (by rw [h]; simp) ?_
        walk_at "aw"
        refine ⟨_, _, _, rfl, rfl, fun j hj2 => ?_⟩
        rcases Nat.lt_or_eq_of_le (Nat.le_of_lt_succ hj2) with h3 | h3
        · exact hj j h3
        · rw [h3, e1, e2, h]
      · refine iteT'' (by rw [Bool.not_eq_true', decide_eq_false_iff_not]; exact fun z => h (V.int.inj z)) ?_
        walk_at "aw"
        have hl := leL_skip i (xs.map w) (ys.map w) hj (by rw [List.length_map]; omega) (by rw [List.length_map]; omega)
        have d1 : (xs.map w).drop i = w x :: (xs.map w).drop (i + 1) := by
          have h1 := (List.getElem?_eq_some_iff.mp e1).1
          rw [List.drop_eq_getElem_cons h1]
          rw [List.getElem?_eq_getElem h1] at e1
          rw [Option.some.inj e1]
        have d2 : (ys.map w).drop i = w y :: (ys.map w).drop (i + 1) := by
          have h1 := (List.getElem?_eq_some_iff.mp e2).1
          rw [List.drop_eq_getElem_cons h1]
          rw [List.getElem?_eq_getElem h1] at e2
          rw [Option.some.inj e2]
        rw [d1, d2] at hl
        have hl2 : leL (w x :: (xs.map w).drop (i + 1)) (w y :: (ys.map w).drop (i + 1)) = decide (w x < w y) := by
          show (if w x = w y then _ else _) = _
          rw [if_neg h]
        rw [hl2] at hl
        have := q _ (.refl _ _)
        rw [e0, hl] at this
        exact this
    · obtain ⟨y3, y4, y5, rfl, rfl, hj⟩ := pp
      walk_at "aw"
      have hl := leL_skip xs.length (xs.map w) (ys.map w) hj (by rw [List.length_map]; omega) (by rw [List.length_map]; omega)
      rw [List.drop_of_length_le (by rw [List.length_map]; omega)] at hl
      have hl2 : leL ([] : List Int) ((ys.map w).drop xs.length) = true := by cases (ys.map w).drop xs.length <;> rfl
      rw [hl2] at hl
      have := q _ (.refl _ _)
      rw [e0, hl] at this
      exact this
end AW
/-! data that can be compared -/
namespace AW
open PySem PySem.Spec PyProof.Rows L2 RZ
theorem say_lay : ∀ (s : Say), (∀ x ∈ s.names, okS x) → (sayD s).canLay0 = true
  | .prod x y z, h => by
    have h1 : PyData.canLay0 (.str x) = true := h x (by simp [Say.names])
    have h2 : PyData.canLay0 (.str y) = true := h y (by simp [Say.names])
    have h3 : PyData.canLay0 (.str z) = true := h z (by simp [Say.names])
    simp only [PyData.canLay0] at h1 h2 h3
    simp only [sayD, PyData.canLay0, PyData.canLayAll0, h1, h2, h3]
    decide +kernel
  | .ahead xs ys, h => by
    simp only [sayD, PyData.canLay0, PyData.canLayAll0, lay_strs xs fun x hx => h x (List.mem_append_left _ hx), lay_strs ys fun x hx => h x (List.mem_append_right _ hx)]
    decide +kernel
  | .mach xs s mv en, h => by
    simp only [sayD, PyData.canLay0, PyData.canLayAll0, lay_strs xs h, lay_tris mv, lay_ints en]
    decide +kernel
theorem say_deep (s : Say) : (sayD s).depth ≤ 5 := by
  cases s with
  | prod x y z =>
    simp only [sayD, PyData.depth, PyData.depthAll]
    omega
  | ahead xs ys =>
    have h1 := deep_strs xs
    have h2 := deep_strs ys
    simp only [sayD, PyData.depth, PyData.depthAll]
    omega
  | mach xs s mv en =>
    have h1 := deep_strs xs
    have h2 := deep_tris mv
    have h3 := deep_ints en
    simp only [sayD, PyData.depth, PyData.depthAll]
    omega
theorem it_lay {p : Str × Say} (h : okS p.1) (h2 : ∀ x ∈ p.2.names, okS x) : (itD p).canLay0 = true := by
  have h1 : PyData.canLay0 (.str p.1) = true := h
  simp only [itD, PyData.canLay0, PyData.canLayAll0, say_lay p.2 h2, Bool.and_true, Bool.true_and]
  exact h1
theorem it_deep (p : Str × Say) : (itD p).depth ≤ 10 := by
  have := say_deep p.2
  simp only [itD, PyData.depth, PyData.depthAll]
  omega
theorem it_shaped {p : Str × Say} (h : okS p.1) (h2 : ∀ x ∈ p.2.names, okS x) : SeqAt.shaped (itD p) = true := by
  have := it_deep p
  show ((itD p).canLay0 && decide ((itD p).depth ≤ 64)) = true
  rw [it_lay h h2, decide_eq_true (by omega)]
  rfl
theorem its_shaped : ∀ ps : List (Str × Say), (∀ p ∈ ps, okS p.1 ∧ ∀ x ∈ p.2.names, okS x) → PyData.canLayAll0 (ps.map itD) = true ∧ PyData.depthAll (ps.map itD) ≤ 10
  | [], _ => by simp [PyData.canLayAll0, PyData.depthAll]
  | p :: ps, h => by
    have h1 := h p (List.mem_cons_self ..)
    have h2 := its_shaped ps fun q hq => h q (List.mem_cons_of_mem _ hq)
    have h3 := it_deep p
    refine ⟨?_, ?_⟩
    · simp only [List.map_cons, PyData.canLayAll0, it_lay h1.1 h1.2, h2.1, Bool.and_true]
    · simp only [List.map_cons, PyData.depthAll]
      omega
theorem its_list {ps : List (Str × Say)} (h : ∀ p ∈ ps, okS p.1 ∧ ∀ x ∈ p.2.names, okS x) : SeqAt.shaped (.list (ps.map itD)) = true := by
  obtain ⟨h1, h2⟩ := its_shaped ps h
  show ((PyData.list (ps.map itD)).canLay0 && decide ((PyData.list (ps.map itD)).depth ≤ 64)) = true
  have h3 : (PyData.list (ps.map itD)).depth ≤ 64 := by
    simp only [PyData.depth]
    omega
  rw [decide_eq_true h3, Bool.and_true]
  simp only [PyData.canLay0]
  exact h1
end AW
namespace AW
open PySem PySem.Spec PyProof.Rows L2 RZ
local macro_rules | `(tactic| walk_at "aw1") => `(tactic| first
  | (with_reducible refine w_seq ?_) | (with_reducible refine w_asg ?_) | (with_reducible refine w_gname ?_) | (with_reducible refine w_op ?_) | (with_reducible refine w_un ?_)
  | ((with_reducible refine' w_var ?h ?_); (case h => rfl)) | (with_reducible refine w_c ?_)
  | (with_reducible refine w_I0 ?_) | (with_reducible refine w_U ?_) | (with_reducible refine w_cb ?_) | (with_reducible refine w_nil ?_) | (with_reducible refine w_cons ?_) | (with_reducible refine w_call ?_)
  | (with_reducible refine w_test ?_) | (with_reducible refine w_B ?_) | (with_reducible refine w_bl ?_) | (with_reducible refine w_not ?_) | (with_reducible refine w_yes ?_) | (with_reducible refine iteT ?_) | (with_reducible refine iteF ?_) | (with_reducible refine w_and ?_) | (with_reducible refine w_or ?_)
  | (with_reducible refine w_andV ?_) | (with_reducible refine w_orV ?_) | (with_reducible refine w_notV ?_) | (with_reducible refine w_if ?_)
  | (with_reducible refine w_int1 ?_) | (with_reducible refine w_int1b ?_) | (with_reducible refine w_abs ?_) | (with_reducible refine w_max2 ?_) | (with_reducible refine w_min2 ?_)
  | ((with_reducible refine w_eq ?h ?_); (case h => rfl)) | ((with_reducible refine w_ne ?h ?_); (case h => rfl)) | (with_reducible refine w_isN ?_) | (with_reducible refine w_isB ?_) | (with_reducible refine w_chain ?_)
  | (with_reducible refine w_ret ?_) | (with_reducible refine w_drop ?_) | (with_reducible refine w_ifS ?_) | (with_reducible refine w_gsub ?_) | (with_reducible refine w_augS ?_) | (with_reducible refine w_ipI ?_) | (with_reducible refine w_next ?_)
  | (with_reducible refine w_forR ?_) | (with_reducible refine w_forR2 ?_) | (with_reducible refine w_forL ?_) | (with_reducible refine w_forT ?_) | (with_reducible refine w_lcR ?_) | (with_reducible refine w_lcL ?_) | (with_reducible refine w_lcT ?_) | (with_reducible refine w_sl ?_) | (with_reducible refine w_part ?_) | (with_reducible refine w_noPart ?_) | (with_reducible refine w_in ?_)
  | (with_reducible refine w_gcons ?_) | (with_reducible refine w_gnil ?_) | (with_reducible refine w_lc3 ?_) | (with_reducible refine w_dcZ ?_) | (with_reducible refine w_dcT ?_) | (with_reducible refine w_dg ?_) | (with_reducible refine w_callK ?_) | (with_reducible refine w_dput ?_) | (with_reducible refine w_tup1 ?_)
  | (with_reducible refine w_tup ?_) | (with_reducible refine w_lst ?_)
  | ((with_reducible refine w_I ?h ?_); (case h => first | (exact Or.inr ⟨by decide, by decide⟩) | (exact Or.inl ⟨by decide, by decide⟩) | (show (0 : Int) < _; decide) | (exact ⟨by decide, by decide, by decide⟩) | assumption)))
local macro_rules | `(tactic| walk_at "aw") => `(tactic| repeat (walk_at "aw1"))
theorem nodup_short : ∀ (n : Nat) (l : List Nat), l.Nodup → (∀ x ∈ l, x < n) → l.length ≤ n
  | 0, l, _, h => by
    cases l with
    | nil => exact Nat.le_refl _
    | cons x l => exact absurd (h x (List.mem_cons_self ..)) (Nat.not_lt_zero _)
  | n + 1, l, hn, h => by
    have h1 := nodup_short n (l.erase n) (hn.erase n) fun x hx => by
      have hm := (hn.mem_erase_iff).mp hx
      have := h x hm.2
      have hne := hm.1
      omega
    by_cases hm : n ∈ l
    · rw [List.length_erase_of_mem hm] at h1
      omega
    · rw [List.erase_of_not_mem hm] at h1
      omega
def sp__law_fillings (_ : PySem.W.Frag) : Sp := fun vs H Q _ => ∃ (p : Addr), vs = [.ref p] ∧ ∃ (doms : List (Str × List Int)) (st cs : Addr), StOk st cs H ∧ p ≠ st ∧ LsAt H p (doms.map domD) ∧ (∀ q ∈ doms, q.2.length ≤ 5 ∧ ∀ v ∈ q.2, wt v) ∧ doms.length ≤ 5 ∧
  ∀ r (rows : List (List Int)) H', Go st cs H H' → H r = none → LsAt H' r (rows.map rowD) → (∀ row ∈ rows, row.length = doms.length ∧ ∀ v ∈ row, wt v) → rows.length ≤ 5 ^ 5 → Q (.ref r) H'
def sp__law_near (_ : PySem.W.Frag) : Sp := fun vs H Q _ => ∃ (st p : Addr) (v : V), vs = [.ref st, .ref p, v] ∧ ∃ (cs : Addr) (doms : List (Str × List Int)) (fl : List Int), StOk st cs H ∧ p ≠ st ∧ LsAt H p (doms.map domD) ∧ Is H (rowD fl) v ∧ fl.length = doms.length ∧ (∀ v ∈ fl, wt v) ∧ 0 < doms.length ∧ doms.length ≤ 100 ∧ (∀ q ∈ doms, 0 < q.2.length ∧ q.2.length ≤ 100 ∧ ∀ v ∈ q.2, wt v) ∧
  ∀ v' (fl' : List Int) H', Go st cs H H' → Is H' (rowD fl') v' → fl'.length = doms.length → (∀ v ∈ fl', wt v) → Q v' H'
def sp__law_parted (_ : PySem.W.Frag) : Sp := fun vs H Q _ => ∃ (st p d : Addr), vs = [.ref st, .ref p, .ref d] ∧ ∃ (cs : Addr) (made : List (Str × Say)) (names : List Str) (w : Str → Int), StOk st cs H ∧ p ≠ st ∧ LsAt H p (made.map itD) ∧ WD H d names w ∧ (∀ x ∈ names, wt (w x)) ∧
  (made.map (·.1)).Nodup ∧ 0 < made.length ∧ made.length ≤ 50 ∧ (∀ q ∈ made, q.2.ok ∧ (∀ x ∈ q.2.names, x ∈ names) ∧ okS q.1 ∧ ∀ x ∈ q.2.names, okS x) ∧
  ∀ r f s (firm soft : List (Str × Say)) H', Go st cs H H' → H' r = some (.lst [.ref f, .ref s]) → f ≠ st → s ≠ st → r ≠ st → LsAt H' f (firm.map itD) → LsAt H' s (soft.map itD) → (firm.map (·.1) ++ soft.map (·.1)).Nodup → (∀ q ∈ firm, q ∈ made) → (∀ q ∈ soft, q ∈ made) → firm.length ≤ 50 → soft.length ≤ 50 → Q (.ref r) H'
def t__law_fillings (K : PySem.W.Frag) : TS := (tSeq (tAsg (tLst (tCons (tTup tNil) tNil)) (gName 1))
  (tSeq (tFor (iList K (tVar 0)) (gName 2)
  (tSeq (tAsg (tLst tNil) (gName 3))
  (tSeq (tFor (iList K (tVar 1)) (gName 4)
  (tAsg (tOp rCat (tVar 3) (tLc (iTup K (tOp (rIxT K) (tVar 2) (tC (.int 1)))) (gName 5) tYes (tOp (rCatA K) (tVar 4) (tTup (tCons (tVar 5) tNil))) [5])) (gName 3)))
  (tAsg (tVar 3) (gName 1)))))
  (tRet (tVar 1))))
def t__law_near (K : PySem.W.Frag) : TS := (tSeq (tAsg (tCB (rListOf K) (tCons (tVar 2) tNil)) (gName 3))
  (tSeq (tFor (iRng1 (tCons (tCall (sp__law_pick K) [] E0 (tCons (tVar 0) (tCons (tLst (tCons (tC (.int 0)) (tCons (tC (.int 1)) (tCons (tC (.int 1)) (tCons (tC (.int 1)) (tCons (tC (.int 2)) (tCons (tC (.int 3)) (tCons (tOp rMulI (tC (.int 2)) (tCB (rLen1 K) (tCons (tVar 1) tNil))) tNil)))))))) tNil))) tNil)) (gName 4)
  (tSeq (tAsg (tCall (sp__law_take K) [] E0 (tCons (tVar 0) (tCons (tCB (rLen1 K) (tCons (tVar 1) tNil)) tNil))) (gName 5))
  (tAsg (tCall (sp__law_pick K) [] E0 (tCons (tVar 0) (tCons (tOp (rIxT K) (tOp (rIxL K) (tVar 1) (tVar 5)) (tC (.int 1))) tNil))) (gSub (tVar 3) (tVar 5) rSetL))))
  (tRet (tThen (tVar 3) (kTup K)))))
def t__law_parted (K : PySem.W.Frag) : TS := (tSeq (tAsg (tCall (sp__law_take K) [] E0 (tCons (tVar 0) (tCons (tCB (rLen1 K) (tCons (tVar 1) tNil)) tNil))) (gName 3))
  (tSeq (tAsg (tLc (iList K (tSl (rSlL K) (tVar 1) (tPart (tVar 3)) tNoPart)) (gName 5) (tOr (tB (tCall (sp__law_holds K) [] E0 (tCons (tOp (rIxT K) (tVar 5) (tC (.int 1))) (tCons (tVar 2) tNil)))) (tTest (tOp rEq (tCall (sp__law_take K) [] E0 (tCons (tVar 0) (tCons (tC (.int 3)) tNil))) (tC (.int 0))))) (tVar 5) [5]) (gName 4))
  (tRet (tLst (tCons (tVar 4) (tCons (tLc (iList K (tVar 1)) (gName 5) (tTest (tOp (rNotInD K) (tVar 5) (tVar 4))) (tVar 5) [5]) tNil))))))
theorem len__law_fillings {K : PySem.W.Frag} : ∀ (vs : List V) (H : Hp) (Q : VK) (E : XK), sp__law_fillings K vs H Q E → vs.length = 1 := fun vs H Q E h => by
  obtain ⟨_, rfl, _⟩ := h
  rfl
theorem pure__law_fillings {K : PySem.W.Frag} (vs : List V) (H : Hp) (Q : VK) (E : XK) (h : sp__law_fillings K vs H Q E) : t__law_fillings K { nx := fun _ H' => Q .non H', rt := Q } (start ["doms", "rows", "pair", "longer", "row", "v"] vs) H := by
  obtain ⟨p, rfl, doms, st, cs, ok, np, ⟨xs, hp, tp⟩, hsz, hdl, q⟩ := h
  show t__law_fillings K _ [some (.ref p), none, none, none, none, none] H
  have hxl : xs.length = doms.length := by rw [tp.length, List.length_map]
  unfold t__law_fillings
  walk_at "aw"
  refine w_tupD (by simp) fun e H1 ne a1 e1 => ?_
  walk_at "aw"
  refine w_lstD (by simp) fun r0 H2 nr0 a2 e2 => ?_
  have g2 : Go st cs H H2 := (Go.of ok a1).new a2
  walk_at "aw"
  refine kForL_i (xs := xs) (fun i σ H' => ∃ r y2 y3 y4 rows, σ = [some (.ref p), some (.ref r), y2, y3, y4, none] ∧ Go st cs H H' ∧ H r = none ∧ LsAt H' r ((rows : List (List Int)).map rowD) ∧ (∀ row ∈ rows, row.length = i ∧ ∀ v ∈ row, wt v) ∧ rows.length ≤ 5 ^ i) (SqL.of (g2.keep np hp))
    ⟨r0, none, none, none, [[]], rfl, g2, (Go.of ok a1).free ok nr0, ⟨_, e2, .cons (.tup (a2.tup _ _ e1) .nil) .nil⟩, fun row h => by rw [List.mem_singleton.mp h]; exact ⟨rfl, fun v hv => absurd hv List.not_mem_nil⟩, Nat.le_refl _⟩ (fun i σ H' hi pp => ?_) (fun i v σ H' hv pp => ?_) fun σ H' pp => ?_
  · obtain ⟨_, _, _, _, _, _, g, _⟩ := pp
    exact SqL.of (g.keep np hp)
  · obtain ⟨r, y2, y3, y4, rows, rfl, g, nr, ⟨rs, er, tr⟩, hrl, hrn⟩ := pp
    have hi : i < doms.length := by
      have := (List.getElem?_eq_some_iff.mp hv).1
      omega
    obtain ⟨dt, z1, h1⟩ := tp.get hv
    rw [List.getElem?_map] at z1
    obtain ⟨pr, z2, rfl⟩ := Option.map_eq_some_iff.mp z1
    obtain ⟨ia, ib, rfl, ea, eb⟩ := is_dom h1
    have hp3 := (hsz pr (List.mem_of_getElem? z2)).1
    have hpw := (hsz pr (List.mem_of_getElem? z2)).2
    walk_at "aw"
    refine w_lstD (by simp) fun l0 H3 nl0 a3 e3 => ?_
    have g3 := g.new a3
    walk_at "aw"
    have nrst : r ≠ st := (ok.ne nr).1
    have hrs : rs.length = rows.length := by rw [tr.length, List.length_map]
    have h36 : rows.length ≤ 5 ^ 5 := Nat.le_trans hrn (Nat.pow_le_pow_right (by omega) (by omega))
    refine kForL_i (xs := rs) (fun j σ H4 => ∃ l y4 more, σ = [some (.ref p), some (.ref r), some (.ref ia), some (.ref l), y4, none] ∧ Go st cs H H4 ∧ Go st cs H' H4 ∧ H l = none ∧ LsAt H4 l ((more : List (List Int)).map rowD) ∧ (∀ row ∈ more, row.length = i + 1 ∧ ∀ v ∈ row, wt v) ∧ more.length ≤ 5 * j) (SqL.of (a3.keep _ _ (fun z => nomatch z) er))
      ⟨l0, y4, [], rfl, g3, .of g.ok a3, g.free ok nl0, ⟨[], e3, .nil⟩, fun row h => absurd h (List.not_mem_nil), Nat.zero_le _⟩ (fun j σ H4 hj pp => ?_) (fun j x σ H4 hx pp => ?_) fun σ H4 pp => ?_
    · obtain ⟨_, _, _, _, _, g4, _⟩ := pp
      exact SqL.of (g4.keep nrst er)
    · obtain ⟨l, y4, more, rfl, g4, g5, nl, ⟨ls, el, tl⟩, hml, hmn⟩ := pp
      obtain ⟨dt, z3, h3⟩ := tr.get hx
      rw [List.getElem?_map] at z3
      obtain ⟨row, z4, rfl⟩ := Option.map_eq_some_iff.mp z3
      obtain ⟨xa, xv, rfl, exa, txa⟩ := h3.tup_inv
      have e5 := txa.ints_inv
      subst e5
      have hrow := (hrl row (List.mem_of_getElem? z4)).1
      have hroww := (hrl row (List.mem_of_getElem? z4)).2
      have exa4 := g5.tk _ _ exa
      have eb4 := g4.tk _ _ eb
      have hlsl : ls.length = more.length := by rw [tl.length, List.length_map]
      have hjr : j < rows.length := by
        have := (List.getElem?_eq_some_iff.mp hx).1
        omega
      walk_at "aw"
      refine w_ixT (SqT.of (g4.tk _ _ ea)) rfl ?_
      refine kLcT_all (xs := pr.2.map V.int) eb4 (by simp; omega) g4.ok (fun k v H => ∃ m, pr.2[k]? = some m ∧ Is H (rowD (row ++ [m])) v) (fun k v H H' t h => by
        obtain ⟨m, h1, h2⟩ := h
        exact ⟨m, h1, h2.up t⟩) (fun k v H5 Kt hk g6 kt => ?_) fun D H5 ys nD g6 eD hyl hyr => ?_
      · rw [List.getElem?_map] at hk
        obtain ⟨m, z5, rfl⟩ := Option.map_eq_some_iff.mp hk
        walk_at "aw"
        refine ⟨rfl, ?_⟩
        walk_at "aw"
        refine w_tupD (by simp) fun t H6 nt a6 e6 => ?_
        refine w_catT' (a6.tup _ _ (g6.tk _ _ exa4)) e6 (by simp; omega) fun t2 H7 a7 e7 => ?_
        refine kt _ _ ((Go.of g6.ok a6).new a7) ⟨m, z5, ?_⟩
        have e8 : row.map V.int ++ [V.int m] = (row ++ [m]).map V.int := by simp
        rw [e8] at e7
        exact .tup e7 (IsAll.ints _)
      · refine w_cat (g6.keep (ok.ne nl).1 el) eD (by rw [hlsl, hyl, List.length_map]; omega) fun l2 H6 nl2 a6 e6 => ?_
        walk_at "aw"
        have g7 := g4.trans g6
        rw [List.length_map] at hyl
        refine ⟨l2, some (.ref xa), more ++ pr.2.map (fun m => row ++ [m]), rfl, g7.new a6, (g5.trans g6).new a6, g7.free ok nl2, ⟨_, e6, ?_⟩, fun r2 hr2 => ?_, ?_⟩
        · rw [List.map_append, List.map_map]
          refine IsAll.append ((tl.up g6.tk).up a6.tup) (IsAll.of _ _ (by rw [List.length_map, hyl]) fun k d v hd hv => ?_)
          rw [List.getElem?_map] at hd
          obtain ⟨m, z6, rfl⟩ := Option.map_eq_some_iff.mp hd
          obtain ⟨m2, z7, h7⟩ := hyr k v hv
          rw [z6] at z7
          cases z7
          exact h7.up a6.tup
        · rcases List.mem_append.mp hr2 with h | h
          · exact hml r2 h
          · obtain ⟨m, hm, rfl⟩ := List.mem_map.mp h
            refine ⟨by rw [List.length_append, hrow]; rfl, fun v hv => ?_⟩
            rcases List.mem_append.mp hv with z | z
            · exact hroww v z
            · rw [List.mem_singleton.mp z]
              exact hpw _ hm
        · rw [List.length_append, List.length_map]
          omega
    · obtain ⟨l, y4, more, rfl, g4, g5, nl, hl, hml, hmn⟩ := pp
      walk_at "aw"
      refine ⟨l, some (.ref ia), some (.ref l), y4, more, rfl, g4, nl, hl, hml, ?_⟩
      rw [Nat.pow_succ]
      omega
  · obtain ⟨r, y2, y3, y4, rows, rfl, g, nr, hr, hrl, hrn⟩ := pp
    walk_at "aw"
    exact q r rows H' g nr hr (fun row h => ⟨by rw [(hrl row h).1, hxl], (hrl row h).2⟩) (Nat.le_trans hrn (Nat.pow_le_pow_right (by omega) (by omega)))
theorem len__law_near {K : PySem.W.Frag} : ∀ (vs : List V) (H : Hp) (Q : VK) (E : XK), sp__law_near K vs H Q E → vs.length = 3 := fun vs H Q E h => by
  obtain ⟨_, _, _, rfl, _⟩ := h
  rfl
theorem pure__law_near {K : PySem.W.Frag} (vs : List V) (H : Hp) (Q : VK) (E : XK) (h : sp__law_near K vs H Q E) : t__law_near K { nx := fun _ H' => Q .non H', rt := Q } (start ["state", "doms", "base", "row", "k", "at"] vs) H := by
  obtain ⟨st, p, v, rfl, cs, doms, fl, ok, np, ⟨xs, hp, tp⟩, hv, hfl, hflw, hd0, hdl, hdd, q⟩ := h
  obtain ⟨va, vv, rfl, ev, tv⟩ := hv.tup_inv
  have e0 := tv.ints_inv
  subst e0
  have hxl : xs.length = doms.length := by rw [tp.length, List.length_map]
  show t__law_near K _ [some (.ref st), some (.ref p), some (.ref va), none, none, none] H
  unfold t__law_near
  walk_at "aw"
  refine w_listOf (.inr (SqT.of ev)) fun f H1 nf a1 e1 => ?_
  have g1 := Go.of ok a1
  walk_at "aw"
  refine w_lenL (SqL.of (g1.keep np hp)) ?_
  walk_at "aw"
  refine w_lstD (by simp) fun l H2 nl a2 e2 => ?_
  walk_at "aw"
  have g2 := g1.new a2
  refine ⟨st, l, rfl, cs, _, g2.ok, .inl ⟨SqL.of e2, (g1.ok.ne nl).1⟩, by simp, by simp, fun i x H3 hx g3 => ?_⟩
  have hxm := List.mem_of_getElem? hx
  obtain ⟨n, rfl, hn⟩ : ∃ n : Nat, x = .int (n : Nat) ∧ n ≤ 1000 := by
    simp only [List.mem_cons, List.not_mem_nil, or_false] at hxm
    rcases hxm with h | h | h | h | h | h | h
    · exact ⟨0, h, by omega⟩
    · exact ⟨1, h, by omega⟩
    · exact ⟨1, h, by omega⟩
    · exact ⟨1, h, by omega⟩
    · exact ⟨2, h, by omega⟩
    · exact ⟨3, h, by omega⟩
    · exact ⟨2 * doms.length, by rw [h, hxl]; exact congrArg V.int (by omega), by omega⟩
  walk_at "aw"
  have g13 : Go st cs H H3 := g2.trans g3
  refine kForR_i (n := n) (by omega) (fun i σ H' => ∃ y1 y2 cur, σ = [some (.ref st), some (.ref p), some (.ref va), some (.ref f), y1, y2] ∧ Go st cs H H' ∧ H' f = some (.lst ((cur : List Int).map V.int)) ∧ cur.length = doms.length ∧ ∀ v ∈ cur, wt v)
    ⟨none, none, fl, rfl, g13, g3.keep (ok.ne nf).1 (a2.keep _ _ (fun z => nomatch z) e1), hfl, hflw⟩ (fun i σ H' hi pp => ?_) fun σ H' pp => ?_
  · obtain ⟨y1, y2, cur, rfl, g, ef, hcl, hcw⟩ := pp
    walk_at "aw"
    refine w_lenL (SqL.of (g.keep np hp)) ?_
    walk_at "aw"
    refine ⟨st, _, rfl, cs, g.ok, by omega, by omega, fun m H4 h1 h2 g4 => ?_⟩
    have g5 := g.trans g4
    obtain ⟨x, hx⟩ := get_some (xs := xs) (i := m.toNat) (by omega)
    obtain ⟨dt, z1, hdt⟩ := tp.get hx
    rw [List.getElem?_map] at z1
    obtain ⟨pr, z2, rfl⟩ := Option.map_eq_some_iff.mp z1
    obtain ⟨ia, ib, rfl, ea, eb⟩ := is_dom hdt
    have hpd := hdd pr (List.mem_of_getElem? z2)
    walk_at "aw"
    refine w_ixL (SqL.of (g5.keep np hp)) (at_nat h1 hx) ?_
    walk_at "aw"
    refine w_ixT (SqT.of (g5.tk _ _ ea)) rfl ?_
    walk_at "aw"
    refine ⟨st, ib, rfl, cs, _, g5.ok, .inr (g5.tk _ _ eb), by rw [List.length_map]; exact hpd.1, by rw [List.length_map]; omega, fun j y H6 hy g6 => ?_⟩
    rw [List.getElem?_map] at hy
    obtain ⟨c, z3, rfl⟩ := Option.map_eq_some_iff.mp hy
    walk_at "aw"
    have ef6 := (g4.trans g6).keep (ok.ne nf).1 ef
    have hix : ixN (cur.map V.int).length m = some m.toNat := by
      unfold ixN
      rw [List.length_map, if_pos h1, if_pos (by omega)]
    refine w_setL ef6 hix ?_
    refine ⟨_, _, cur.set m.toNat c, rfl, (g5.trans g6).mutL ok nf ef6, ?_, by rw [List.length_set]; exact hcl, fun v hv => ?_⟩
    · rw [upd_same, List.map_set]
    · rcases List.mem_or_eq_of_mem_set hv with h | h
      · exact hcw v h
      · rw [h]; exact hpd.2.2 _ (List.mem_of_getElem? z3)
  · obtain ⟨y1, y2, cur, rfl, g, ef, hcl, hcw⟩ := pp
    walk_at "aw"
    refine w_tupL (SqL.of ef) fun t H5 nt a5 e5 => ?_
    exact q _ cur H5 (g.new a5) (.tup e5 (IsAll.ints _)) hcl hcw
theorem len__law_parted {K : PySem.W.Frag} : ∀ (vs : List V) (H : Hp) (Q : VK) (E : XK), sp__law_parted K vs H Q E → vs.length = 3 := fun vs H Q E h => by
  obtain ⟨_, _, _, rfl, _⟩ := h
  rfl
def dfl : Str × Say := (nix, .prod nix nix nix)
/-- the items at these places: their names differ as the places do -/
theorem picked {l : List (Str × Say)} (hn : (l.map (·.1)).Nodup) {ks : List Nat} (hk : ks.Pairwise (· < ·)) (hlt : ∀ k ∈ ks, k < l.length) : ((ks.map fun k => l.getD k dfl).map (·.1)).Nodup ∧ ∀ q ∈ ks.map fun k => l.getD k dfl, q ∈ l := by
  constructor
  · rw [List.map_map, List.Nodup, List.pairwise_map]
    refine List.Pairwise.imp_of_mem ?_ hk
    intro a b ha hb hab e
    have z1 := List.getElem?_eq_getElem (hlt a ha)
    have z2 := List.getElem?_eq_getElem (hlt b hb)
    replace e : (l.getD a dfl).1 = (l.getD b dfl).1 := e
    rw [getD_of z1, getD_of z2] at e
    have y1 : (l.map (·.1))[a]? = some (l[a]'(hlt a ha)).1 := by rw [List.getElem?_map, z1]; rfl
    have y2 : (l.map (·.1))[b]? = some (l[b]'(hlt b hb)).1 := by rw [List.getElem?_map, z2]; rfl
    rw [e] at y1
    have := nodup_inj hn y1 y2
    omega
  · intro q hq
    obtain ⟨k, hk, rfl⟩ := List.mem_map.mp hq
    rw [getD_of (List.getElem?_eq_getElem (hlt k hk))]
    exact List.getElem_mem _
theorem same_name {l : List (Str × Say)} (hn : (l.map (·.1)).Nodup) {p q : Str × Say} (hp : p ∈ l) (hq : q ∈ l) (e : p.1 = q.1) : p = q := by
  obtain ⟨i, hi, rfl⟩ := List.mem_iff_getElem.mp hp
  obtain ⟨j, hj, rfl⟩ := List.mem_iff_getElem.mp hq
  have y1 : (l.map (·.1))[i]? = some (l[i]).1 := by rw [List.getElem?_map, List.getElem?_eq_getElem hi]; rfl
  have y2 : (l.map (·.1))[j]? = some (l[j]).1 := by rw [List.getElem?_map, List.getElem?_eq_getElem hj]; rfl
  rw [e] at y1
  have := nodup_inj hn y1 y2
  subst this
  rfl
theorem pure__law_parted {K : PySem.W.Frag} (vs : List V) (H : Hp) (Q : VK) (E : XK) (h : sp__law_parted K vs H Q E) : t__law_parted K { nx := fun _ H' => Q .non H', rt := Q } (start ["state", "made", "at", "cut", "firm", "one"] vs) H := by
  obtain ⟨st, p, d, rfl, cs, made, names, w, ok, np, ⟨xs, hp, tp⟩, hd, hw, hnd, h0, hl50, hmade, q⟩ := h
  have hxl : xs.length = made.length := by rw [tp.length, List.length_map]
  show t__law_parted K _ [some (.ref st), some (.ref p), some (.ref d), none, none, none] H
  unfold t__law_parted
  walk_at "aw"
  refine w_lenL (SqL.of hp) ?_
  walk_at "aw"
  refine ⟨st, _, rfl, cs, ok, by omega, by omega, fun n H1 h1 h2 g1 => ?_⟩
  walk_at "aw"
  refine w_slL (SqL.of (g1.keep np hp)) fun r1 H2 nr1 a2 e2 => ?_
  rw [cut_from _ h1] at e2
  have g2 := g1.new a2
  have hd2 := (hd.go ok g2)
  have nr1st := (g1.ok.ne nr1).1
  generalize hL : made.drop n.toNat = l
  have hlm : ∀ {k : Nat} {x : V}, (xs.drop n.toNat)[k]? = some x → ∃ pr, l[k]? = some pr ∧ Is H (itD pr) x := fun {k x} e => by
    rw [List.getElem?_drop] at e
    obtain ⟨dt, z1, hdt⟩ := tp.get e
    rw [List.getElem?_map] at z1
    obtain ⟨pr, z2, rfl⟩ := Option.map_eq_some_iff.mp z1
    exact ⟨pr, by rw [← hL, List.getElem?_drop]; exact z2, hdt⟩
  have hlsub : ∀ q ∈ l, q ∈ made := fun q hq => by rw [← hL] at hq; exact List.mem_of_mem_drop hq
  have hln : (l.map (·.1)).Nodup := by
    rw [← hL, List.map_drop]
    exact hnd.sublist (List.drop_sublist ..)
  have hll : (xs.drop n.toNat).length = l.length := by rw [← hL, List.length_drop, List.length_drop, hxl]
  have hl50' : l.length ≤ 50 := by rw [← hL, List.length_drop]; omega
  refine kLcL_some (xs := xs.drop n.toNat) (SqL.of e2) nr1st (by omega) g2.ok (fun k v H => ∃ pr, l[k]? = some pr ∧ Is H (itD pr) v) (fun _ => True) (fun k v H H' t h => by
    obtain ⟨pr, z1, z2⟩ := h
    exact ⟨pr, z1, z2.up t⟩) (fun k x H3 Kt Kf hk g3 kt kf => ?_) fun f H3 ks ys nf g3 ef hks hpw hkl _ hR => ?_
  · obtain ⟨pr, z1, hpr⟩ := hlm hk
    have hm := hmade pr (hlsub pr (List.mem_of_getElem? z1))
    obtain ⟨ia, vs, rfl, ei, h2⟩ := hpr.tup_inv
    have g23 := g2.trans g3
    have hcase : ∃ sv, vs = [.str pr.1, sv] ∧ Is H (sayD pr.2) sv := by
      cases h2 with
      | cons h3 h4 =>
        cases h4 with
        | cons h5 h6 =>
          cases h6
          cases h3
          exact ⟨_, rfl, h5⟩
    obtain ⟨sv, rfl, hsv⟩ := hcase
    walk_at "aw"
    refine ⟨rfl, ?_⟩
    walk_at "aw"
    refine w_ixT (SqT.of (g23.tk _ _ ei)) rfl ?_
    walk_at "aw"
    refine ⟨sv, d, rfl, pr.2, names, w, hsv.up g23.tk, hd2.go g2.ok g3, hw, hm.1, hm.2.1, fun H4 a4 => ?_⟩
    walk_at "aw"
    have g4 := Go.of g3.ok a4
    have done : ∀ H5, Go st cs H3 H5 → Kt (.ref ia) H5 := fun H5 g5 => kt _ _ g5 ⟨pr, z1, hpr.up (g23.trans g5).tk⟩
    cases hb : holdP w pr.2 with
    | true =>
      walk_at "aw"
      exact done _ g4
    | false =>
      walk_at "aw"
      refine ⟨st, _, rfl, cs, g4.ok, by omega, by omega, fun m H5 _ _ g5 => ?_⟩
      walk_at "aw"
      refine w_iteB (fun _ => ?_) fun _ => ?_
      · walk_at "aw"
        exact done _ (g4.trans g5)
      · exact kf _ (g4.trans g5) trivial
  · rw [hll] at hkl
    obtain ⟨hfn, hfm⟩ := picked hln hpw hkl
    generalize hF : (ks.map fun k => l.getD k dfl) = firm at hfn hfm
    have hfl : firm.length = ys.length := by rw [← hF, List.length_map, hks]
    have hys : IsAll H3 (firm.map itD) ys := IsAll.of _ _ (by rw [List.length_map]; omega) fun i dt v e1 e2 => by
      rw [← hF, List.map_map, List.getElem?_map] at e1
      obtain ⟨k, z1, rfl⟩ := Option.map_eq_some_iff.mp e1
      obtain ⟨pr, z2, z3⟩ := hR i k v z1 e2
      show Is H3 (itD (l.getD k dfl)) v
      rw [getD_of z2]
      exact z3
    have hf50 : firm.length ≤ 50 := by
      have hns : ks.Nodup := hpw.imp fun h => Nat.ne_of_lt h
      have := nodup_short l.length ks hns hkl
      omega
    have g23 := g2.trans g3
    have nfst := (g2.ok.ne nf).1
    walk_at "aw"
    refine kLcL_some (xs := xs) (SqL.of (g23.keep np hp)) np (by omega) g3.ok (fun k v H => ∃ pr, made[k]? = some pr ∧ Is H (itD pr) v ∧ pr ∉ firm) (fun _ => True) (fun k v H H' t h => by
      obtain ⟨pr, z1, z2, z3⟩ := h
      exact ⟨pr, z1, z2.up t, z3⟩) (fun k x H4 Kt Kf hk g4 kt kf => ?_) fun s H4 ks2 ys2 ns g4 es hks2 hpw2 hkl2 _ hR2 => ?_
    · obtain ⟨dt, z1, hdt⟩ := tp.get hk
      rw [List.getElem?_map] at z1
      obtain ⟨pr, z2, rfl⟩ := Option.map_eq_some_iff.mp z1
      have hm := hmade pr (List.mem_of_getElem? z2)
      have hx4 := hdt.up (g23.trans g4).tk
      walk_at "aw"
      refine ⟨rfl, ?_⟩
      walk_at "aw"
      refine ⟨itD pr, firm.map itD, hx4.dp, .lst (SqL.of (g4.keep nfst ef)) (hys.up g4.tk).dp, it_shaped hm.2.2.1 hm.2.2.2, its_list fun r hr => (hmade r (hlsub r (hfm r hr))).2.2, ?_⟩
      walk_at "aw"
      cases hb : (firm.map itD).any fun z => PyData.eqv z (itD pr) with
      | true =>
        refine iteF ?_
        exact kf _ (.refl g4.ok) trivial
      | false =>
        refine iteT ?_
        walk_at "aw"
        refine kt _ _ (.refl g4.ok) ⟨pr, z2, hx4, fun hmem => ?_⟩
        rw [List.any_eq_false] at hb
        exact hb (itD pr) (List.mem_map_of_mem hmem) (SeqAt.eqv_refl _ (it_lay hm.2.2.1 hm.2.2.2))
    · rw [hxl] at hkl2
      obtain ⟨hsn, hsm⟩ := picked hnd hpw2 hkl2
      generalize hS : (ks2.map fun k => made.getD k dfl) = soft at hsn hsm
      have hsl : soft.length = ys2.length := by rw [← hS, List.length_map, hks2]
      have hys2 : IsAll H4 (soft.map itD) ys2 := IsAll.of _ _ (by rw [List.length_map]; omega) fun i dt v e1 e2 => by
        rw [← hS, List.map_map, List.getElem?_map] at e1
        obtain ⟨k, z1, rfl⟩ := Option.map_eq_some_iff.mp e1
        obtain ⟨pr, z2, z3, _⟩ := hR2 i k v z1 e2
        show Is H4 (itD (made.getD k dfl)) v
        rw [getD_of z2]
        exact z3
      have hnot : ∀ r ∈ soft, r ∉ firm := fun r hr => by
        obtain ⟨i, hi, rfl⟩ := List.mem_iff_getElem.mp hr
        obtain ⟨v, hv⟩ := get_some (xs := ys2) (i := i) (by omega)
        have hik : i < ks2.length := by omega
        obtain ⟨pr, z2, z3, z4⟩ := hR2 i _ v (List.getElem?_eq_getElem hik) hv
        have e : soft[i] = pr := by
          have : soft[i]? = some pr := by
            rw [← hS, List.getElem?_map, List.getElem?_eq_getElem hik]
            show some (made.getD ks2[i] dfl) = some pr
            rw [getD_of z2]
          rw [List.getElem?_eq_getElem hi] at this
          exact Option.some.inj this
        rw [e]
        exact z4
      have hs50 : soft.length ≤ 50 := by
        have hns : ks2.Nodup := hpw2.imp fun h => Nat.ne_of_lt h
        have := nodup_short made.length ks2 hns hkl2
        omega
      walk_at "aw"
      refine w_lstD (by simp) fun r H5 nr a5 e5 => ?_
      have g5 := g23.trans g4
      refine q r f s firm soft H5 (g5.new a5) e5 nfst (g3.ok.ne ns).1 (g4.ok.ne nr).1 ⟨ys, a5.keep _ _ (fun z => nomatch z) (g4.keep nfst ef), (hys.up g4.tk).up a5.tup⟩ ⟨ys2, a5.keep _ _ (fun z => nomatch z) es, hys2.up a5.tup⟩ ?_ (fun r hr => hlsub r (hfm r hr)) hsm hf50 hs50
      rw [List.nodup_append]
      refine ⟨hfn, hsn, fun a ha b hb e => ?_⟩
      obtain ⟨pa, hpa, rfl⟩ := List.mem_map.mp ha
      obtain ⟨pb, hpb, rfl⟩ := List.mem_map.mp hb
      have := same_name hnd (hlsub pa (hfm pa hpa)) (hsm pb hpb) e
      rw [this] at hpa
      exact hnot pb hpb hpa
end AW
namespace AW
open PySem PySem.Spec PyProof.Rows L2 RZ
local macro_rules | `(tactic| walk_at "aw1") => `(tactic| first
  | (with_reducible refine w_seq ?_) | (with_reducible refine w_asg ?_) | (with_reducible refine w_gname ?_) | (with_reducible refine w_op ?_) | (with_reducible refine w_un ?_)
  | ((with_reducible refine' w_var ?h ?_); (case h => rfl)) | (with_reducible refine w_c ?_)
  | (with_reducible refine w_I0 ?_) | (with_reducible refine w_U ?_) | (with_reducible refine w_cb ?_) | (with_reducible refine w_nil ?_) | (with_reducible refine w_cons ?_) | (with_reducible refine w_call ?_)
  | (with_reducible refine w_test ?_) | (with_reducible refine w_B ?_) | (with_reducible refine w_bl ?_) | (with_reducible refine w_not ?_) | (with_reducible refine w_yes ?_) | (with_reducible refine iteT ?_) | (with_reducible refine iteF ?_) | (with_reducible refine w_and ?_) | (with_reducible refine w_or ?_)
  | (with_reducible refine w_andV ?_) | (with_reducible refine w_orV ?_) | (with_reducible refine w_notV ?_) | (with_reducible refine w_if ?_)
  | (with_reducible refine w_int1 ?_) | (with_reducible refine w_int1b ?_) | (with_reducible refine w_abs ?_) | (with_reducible refine w_max2 ?_) | (with_reducible refine w_min2 ?_)
  | ((with_reducible refine w_eq ?h ?_); (case h => rfl)) | ((with_reducible refine w_ne ?h ?_); (case h => rfl)) | (with_reducible refine w_isN ?_) | (with_reducible refine w_isB ?_) | (with_reducible refine w_chain ?_)
  | (with_reducible refine w_ret ?_) | (with_reducible refine w_drop ?_) | (with_reducible refine w_ifS ?_) | (with_reducible refine w_gsub ?_) | (with_reducible refine w_augS ?_) | (with_reducible refine w_ipI ?_) | (with_reducible refine w_next ?_)
  | (with_reducible refine w_forR ?_) | (with_reducible refine w_forR2 ?_) | (with_reducible refine w_forL ?_) | (with_reducible refine w_forT ?_) | (with_reducible refine w_lcR ?_) | (with_reducible refine w_lcL ?_) | (with_reducible refine w_lcT ?_) | (with_reducible refine w_sl ?_) | (with_reducible refine w_part ?_) | (with_reducible refine w_noPart ?_) | (with_reducible refine w_in ?_)
  | (with_reducible refine w_gcons ?_) | (with_reducible refine w_gnil ?_) | (with_reducible refine w_lc3 ?_) | (with_reducible refine w_dcZ ?_) | (with_reducible refine w_dcT ?_) | (with_reducible refine w_dg ?_) | (with_reducible refine w_callK ?_) | (with_reducible refine w_dput ?_) | (with_reducible refine w_tup1 ?_)
  | (with_reducible refine w_tup ?_) | (with_reducible refine w_lst ?_)
  | ((with_reducible refine w_I ?h ?_); (case h => first | (exact Or.inr ⟨by decide, by decide⟩) | (exact Or.inl ⟨by decide, by decide⟩) | (show (0 : Int) < _; decide) | (exact ⟨by decide, by decide, by decide⟩) | assumption)))
local macro_rules | `(tactic| walk_at "aw") => `(tactic| repeat (walk_at "aw1"))
/-- what the law's models are: their names, their items -/
structure HeldOk (doms : List (Str × List Int)) (firm soft : List (Str × Say)) : Prop where
  dn : (doms.map (·.1)).Nodup
  dl : doms.length ≤ 100
  sn : (firm.map (·.1) ++ soft.map (·.1)).Nodup
  fl : firm.length ≤ 50
  sl : soft.length ≤ 50
  io : ∀ p ∈ firm ++ soft, p.2.ok ∧ ∀ x ∈ p.2.names, x ∈ doms.map (·.1)
def sp__law_are_held (_ : PySem.W.Frag) : Sp := fun vs H Q _ => ∃ (st p f s r : Addr), vs = [.ref st, .ref p, .ref f, .ref s, .ref r] ∧ ∃ (cs : Addr) (doms : List (Str × List Int)) (firm soft : List (Str × Say)) (rows : List (List Int)), StOk st cs H ∧ (p ≠ st ∧ f ≠ st ∧ s ≠ st ∧ r ≠ st) ∧
  LsAt H p (doms.map domD) ∧ LsAt H f (firm.map itD) ∧ LsAt H s (soft.map itD) ∧ LsAt H r (rows.map rowD) ∧ HeldOk doms firm soft ∧ (∀ row ∈ rows, row.length = doms.length ∧ ∀ v ∈ row, wt v) ∧ rows.length ≤ 5000 ∧
  ∀ H', Go st cs H H' → Q (.bl true) H'
def t__law_are_held (K : PySem.W.Frag) : TS := (tSeq (tAsg (tLc (iList K (tVar 3)) (gName 6) tYes (tOp rAddI (tC (.int 1)) (tCall (sp__law_take K) [] E0 (tCons (tVar 0) (tCons (tC (.int 100)) tNil)))) [6]) (gName 5))
  (tSeq (tAsg (tTup (tCons (tThen (tVar 1) (kTup K)) (tCons (tThen (tVar 2) (kTup K)) (tCons (tThen (tLc (iRng1 (tCons (tCB (rLen1 K) (tCons (tVar 3) tNil)) tNil)) (gName 8) tYes (tOp (rCatA K) (tOp (rIxL K) (tVar 3) (tVar 8)) (tTup (tCons (tOp (rIxL K) (tVar 5) (tVar 8)) tNil))) [8]) (kTup K)) tNil)))) (gName 7))
  (tSeq (tFor (iList K (tVar 4)) (gName 9)
  (tSeq (tAsg (tCall (sp__law_world K) [] E0 (tCons (tVar 1) (tCons (tVar 9) tNil))) (gName 10))
  (tSeq (tAsg (tC (.bl true)) (gName 11))
  (tSeq (tFor (iRng1 (tCons (tOp rAddI (tCB (rLen1 K) (tCons (tVar 2) tNil)) (tCB (rLen1 K) (tCons (tVar 3) tNil))) tNil)) (gName 8)
  (tSeq (tAsg (tOp (rIxL K) (tOp rCat (tVar 2) (tVar 3)) (tVar 8)) (gTup K 2 (gCons (gName 12) (gCons (gName 13) gNil))))
  (tSeq (tAsg (tCall (sp__law_holds K) [] E0 (tCons (tVar 13) (tCons (tVar 10) tNil))) (gName 14))
  (tSeq (tAsg (tCallK (sp_keeps_saying K) gK E0 tNil (tCons (tVar 7) (tCons (tVar 12) (tCons (tVar 9) tNil)))) (gName 15))
  (tSeq (tIfS (tNot (tB (tCall (sp__law_is_due K) [] E0 (tCons (tVar 15) (tCons (tVar 14) tNil))))) (tRet (tC (.bl false))) tNext)
  (tAsg (tAndV (tVar 11) (tOrV (tVar 14) (tOp rGeI (tVar 8) (tCB (rLen1 K) (tCons (tVar 2) tNil))))) (gName 11)))))))
  (tSeq (tIfS (tOr (tNot (tB (tCall (sp__law_is_due K) [] E0 (tCons (tCall (sp_keeps K) [] E0 (tCons (tVar 7) (tCons (tVar 9) tNil))) (tCons (tVar 11) tNil))))) (tNot (tB (tCall (sp__law_is_due K) [] E0 (tCons (tCallK (sp_keeps K) gK E0 tNil (tCons (tVar 7) (tCons (tVar 9) tNil))) (tCons (tVar 11) tNil)))))) (tRet (tC (.bl false))) tNext)
  (tIfS (tAnd (tTest (tOp rGtI (tCB (rLen1 K) (tCons (tVar 3) tNil)) (tC (.int 0)))) (tNot (tB (tCall (sp__law_is_due K) [] E0 (tCons (tCall (sp_keeps_saying K) [] E0 (tCons (tVar 7) (tCons (tOp (rIxT K) (tOp (rIxL K) (tVar 3) (tC (.int 0))) (tC (.int 0))) (tCons (tVar 9) tNil)))) (tCons (tCall (sp__law_holds K) [] E0 (tCons (tOp (rIxT K) (tOp (rIxL K) (tVar 3) (tC (.int 0))) (tC (.int 1))) (tCons (tVar 10) tNil))) tNil)))))) (tRet (tC (.bl false))) tNext))))))
  (tRet (tC (.bl true))))))
theorem len__law_are_held {K : PySem.W.Frag} : ∀ (vs : List V) (H : Hp) (Q : VK) (E : XK), sp__law_are_held K vs H Q E → vs.length = 5 := fun vs H Q E h => by
  obtain ⟨_, _, _, _, _, rfl, _⟩ := h
  rfl
theorem ints_of : ∀ {ys : List V}, (∀ (i : Nat) v, ys[i]? = some v → ∃ n : Int, v = .int n) → ∃ ps : List Int, ys = ps.map V.int
  | [], _ => ⟨[], rfl⟩
  | y :: ys, h => by
    obtain ⟨n, rfl⟩ := h 0 y rfl
    obtain ⟨ps, rfl⟩ := ints_of (ys := ys) fun i v e => h (i + 1) v (by simpa using e)
    exact ⟨n :: ps, rfl⟩
/-- the soft sayings with their prices -/
def priced (soft : List (Str × Say)) (ps : List Int) : List (Str × Say × Int) := List.zipWith (fun q n => (q.1, q.2, n)) soft ps
theorem priced_len {soft : List (Str × Say)} {ps : List Int} (h : ps.length = soft.length) : (priced soft ps).length = soft.length := by
  unfold priced
  rw [List.length_zipWith]
  omega
theorem priced_names {soft : List (Str × Say)} {ps : List Int} (h : ps.length = soft.length) : (priced soft ps).map (fun q => (q.1, q.2.1)) = soft := by
  refine List.ext_getElem? fun i => ?_
  unfold priced
  rw [List.getElem?_map, List.getElem?_zipWith]
  by_cases hi : i < soft.length
  · rw [List.getElem?_eq_getElem hi, List.getElem?_eq_getElem (show i < ps.length by omega)]
    rfl
  · rw [List.getElem?_eq_none (by omega)]
    rfl
theorem held_mod {doms : List (Str × List Int)} {firm soft : List (Str × Say)} {ps : List Int} (h : HeldOk doms firm soft) (hl : ps.length = soft.length) : ModOk doms firm (priced soft ps) := by
  have hn := priced_names hl
  refine ⟨h.dn, h.dl, ?_, by have := h.fl; omega, by rw [priced_len hl]; have := h.sl; omega, fun p hp => h.io p (List.mem_append_left _ hp), fun p hp => ?_⟩
  · have e : (priced soft ps).map (·.1) = soft.map (·.1) := by
      rw [← hn, List.map_map]
      congr 1
      rw [hn]
    rw [e]
    exact h.sn
  · exact h.io (p.1, p.2.1) (List.mem_append_right _ (by
      rw [← hn]
      exact List.mem_map.mpr ⟨p, hp, rfl⟩))
theorem it_parts {H : Hp} {v : V} {p : Str × Say} (h : Is H (itD p) v) : ∃ a sv, v = .ref a ∧ H a = some (.tup [.str p.1, sv]) ∧ Is H (sayD p.2) sv := by
  obtain ⟨a, vs, rfl, e, h⟩ := h.tup_inv
  cases h with
  | cons h1 h =>
    cases h with
    | cons h2 h =>
      cases h
      cases h1
      exact ⟨a, _, rfl, e, h2⟩
theorem all_take {f : Str × Say → Bool} {firm : List (Str × Say)} {k : Nat} {p : Str × Say} (h : firm[k]? = some p) : (firm.take (k + 1)).all f = ((firm.take k).all f && f p) := by
  rw [List.take_add_one, h, List.all_append]
  simp
theorem pure__law_are_held {K : PySem.W.Frag} (vs : List V) (H : Hp) (Q : VK) (E : XK) (h : sp__law_are_held K vs H Q E) : t__law_are_held K { nx := fun _ H' => Q .non H', rt := Q } (start ["state", "doms", "firm", "soft", "fillings", "prices", "one", "model", "k", "filling", "at", "whole", "name", "saying", "due", "told"] vs) H := by
  obtain ⟨st, p, f, s, r, rfl, cs, doms, firm, soft, rows, ok, ⟨np, nf, ns, nr⟩, ⟨xs, hp, tp⟩, ⟨fs, hf, tf⟩, ⟨ss, hs, ts⟩, ⟨rs, hr, tr⟩, hok, hrow, hrl, q⟩ := h
  have hxl : xs.length = doms.length := by rw [tp.length, List.length_map]
  have hfl : fs.length = firm.length := by rw [tf.length, List.length_map]
  have hsl : ss.length = soft.length := by rw [ts.length, List.length_map]
  have hrsl : rs.length = rows.length := by rw [tr.length, List.length_map]
  have hf50 := hok.fl
  have hs50 := hok.sl
  have hd100 := hok.dl
  show t__law_are_held K _ [some (.ref st), some (.ref p), some (.ref f), some (.ref s), some (.ref r), none, none, none, none, none, none, none, none, none, none, none] H
  unfold t__law_are_held
  walk_at "aw"
  refine kLcL_all (xs := ss) (SqL.of hs) ns (by omega) ok (fun _ v _ => ∃ n : Int, v = .int n) (fun _ _ _ _ _ h => h) (fun i x H2 Kt hx g2 kt => ?_) fun pr H1 ys npr g1 epr hyl hyr => ?_
  · walk_at "aw"
    refine ⟨rfl, ?_⟩
    walk_at "aw"
    refine ⟨st, _, rfl, cs, g2.ok, by omega, by omega, fun n H3 _ _ g3 => ?_⟩
    walk_at "aw"
    exact kt _ _ g3 ⟨_, rfl⟩
  obtain ⟨ps, rfl⟩ := ints_of hyr
  rw [List.length_map, hsl] at hyl
  have nprst := (ok.ne npr).1
  walk_at "aw"
  refine w_tupL (SqL.of (g1.keep np hp)) fun tD H2 _ a2 e2 => ?_
  have g2 := g1.new a2
  walk_at "aw"
  refine w_tupL (SqL.of (g2.keep nf hf)) fun tF H3 _ a3 e3 => ?_
  have g3 := g2.new a3
  walk_at "aw"
  refine w_lenL (SqL.of (g3.keep ns hs)) ?_
  walk_at "aw"
  rw [hsl]
  have epr3 : H3 pr = some (.lst (ps.map V.int)) := a3.keep _ _ (fun z => nomatch z) (a2.keep _ _ (fun z => nomatch z) epr)
  refine kLcR_all (n := soft.length) (by omega) g3.ok (fun k v H => ∃ q n, soft[k]? = some q ∧ ps[k]? = some n ∧ Is H (sfD (q.1, q.2, n)) v) (fun k v H H' t h => by
    obtain ⟨q, n, z1, z2, z3⟩ := h
    exact ⟨q, n, z1, z2, z3.up t⟩) (fun k H4 Kt hk g4 kt => ?_) fun sl H4 ys2 nsl g4 esl hyl2 hyr2 => ?_
  · obtain ⟨q, z1⟩ := get_some (xs := soft) hk
    obtain ⟨n, z2⟩ := get_some (xs := ps) (i := k) (by omega)
    obtain ⟨x, z3⟩ := get_some (xs := ss) (i := k) (by omega)
    obtain ⟨dt, z4, hx⟩ := ts.get z3
    rw [List.getElem?_map, z1] at z4
    cases z4
    have g34 := g3.trans g4
    obtain ⟨ia, sv, rfl, ei, hsv⟩ := it_parts (hx.up g34.tk)
    walk_at "aw"
    refine ⟨rfl, ?_⟩
    walk_at "aw"
    refine w_ixL (SqL.of (g34.keep ns hs)) (at_of (j := k) rfl z3) ?_
    walk_at "aw"
    refine w_ixL (SqL.of (g4.keep nprst epr3)) (at_of (j := k) rfl (by rw [List.getElem?_map, z2]; rfl)) ?_
    walk_at "aw"
    refine w_tupD (by simp) fun t1 H5 nt1 a5 e5 => ?_
    refine w_catT' (a5.tup _ _ ei) e5 (by simp) fun t2 H6 a6 e6 => ?_
    exact kt _ _ ((Go.of g4.ok a5).new a6) ⟨q, n, z1, z2, .tup e6 (.cons (.str _) (.cons ((hsv.up a5.tup).up a6.tup) (.cons (.int _) .nil)))⟩
  have hso : IsAll H4 ((priced soft ps).map sfD) ys2 := IsAll.of _ _ (by rw [List.length_map, priced_len hyl, hyl2]) fun i dt v h1 h2 => by
    rw [List.getElem?_map] at h1
    obtain ⟨t, z1, rfl⟩ := Option.map_eq_some_iff.mp h1
    obtain ⟨q, n, z2, z3, z4⟩ := hyr2 i v h2
    unfold priced at z1
    rw [List.getElem?_zipWith, z2, z3] at z1
    cases z1
    exact z4
  walk_at "aw"
  refine w_tupL (SqL.of esl) fun tS H5 _ a5 e5 => ?_
  walk_at "aw"
  refine w_tupD (by simp) fun md H6 _ a6 e6 => ?_
  have g36 := (g4.new a5).new a6
  have g6 : Go st cs H H6 := g3.trans g36
  have hmod : Is H6 (modD doms firm (priced soft ps)) (.ref md) := by
    refine .tup e6 (.cons (.tup (g36.tk _ _ (a3.tup _ _ e2)) (tp.up g6.tk)) (.cons (.tup (g36.tk _ _ e3) (tf.up g6.tk)) (.cons (.tup (a6.tup _ _ e5) ((hso.up a5.tup).up a6.tup)) .nil)))
  have hmo := held_mod hok hyl
  walk_at "aw"
  refine kForL_i (xs := rs) (fun i σ H' => ∃ y8 y9 y10 y11 y12 y13 y14 y15, σ = [some (.ref st), some (.ref p), some (.ref f), some (.ref s), some (.ref r), some (.ref pr), none, some (.ref md), y8, y9, y10, y11, y12, y13, y14, y15] ∧ Go st cs H6 H') (SqL.of (g6.keep nr hr))
    ⟨none, none, none, none, none, none, none, none, rfl, .refl g6.ok⟩ (fun i σ H' _ pp => ?_) (fun i v σ H' hv pp => ?_) fun σ H' pp => ?_
  · obtain ⟨_, _, _, _, _, _, _, _, _, g⟩ := pp
    exact SqL.of ((g6.trans g).keep nr hr)
  · obtain ⟨y8, y9, y10, y11, y12, y13, y14, y15, rfl, g⟩ := pp
    have gH := g6.trans g
    obtain ⟨dt, z1, hrv⟩ := tr.get hv
    rw [List.getElem?_map] at z1
    obtain ⟨row, z2, rfl⟩ := Option.map_eq_some_iff.mp z1
    have hrowl := (hrow row (List.mem_of_getElem? z2)).1
    have hroww := (hrow row (List.mem_of_getElem? z2)).2
    obtain ⟨ra, rv, rfl, era, trv⟩ := hrv.tup_inv
    have erv := trv.ints_inv
    subst erv
    generalize hw : wOf (doms.map (·.1)) row = w
    walk_at "aw"
    refine ⟨p, ra, rfl, doms, row, ⟨xs, gH.keep np hp, tp.up gH.tk⟩, .inr (SqT.of (gH.tk _ _ era)), hrowl, hok.dn, hd100, fun d H7 a7 nd hd => ?_⟩
    rw [hw] at hd
    have g7 : Go st cs H' H7 := .of g.ok a7
    walk_at "aw"
    have gH7 := gH.trans g7
    refine w_lenL (SqL.of (gH7.keep nf hf)) ?_
    walk_at "aw"
    refine w_lenL (SqL.of (gH7.keep ns hs)) ?_
    walk_at "aw"
    rw [hfl, hsl, show ((firm.length : Nat) : Int) + (soft.length : Nat) = ((firm.length + soft.length : Nat) : Int) by omega]
    have keepsay : ∀ {H8 : Hp} {n : Str} {sy : Say} {Q' : VK}, Go st cs H7 H8 → (n, sy) ∈ firm ++ soft → (∀ H9, Go st cs H8 H9 → Q' (.bl (holdP w sy)) H9) → sp_keeps_saying K [.ref md, .str n, .ref ra] H8 Q' E0 := fun {H8 n sy Q'} g8 hm hq =>
      ⟨.ref md, .ref ra, n, rfl, doms, firm, priced soft ps, sy, row, hmod.up (g.trans (g7.trans g8)).tk, (Is.tup era (IsAll.ints row)).up (gH7.trans g8).tk, hrowl, hroww, hmo, by rw [priced_names hyl]; exact hm, fun H9 a9 => by
        rw [hw]
        exact hq H9 (.of g8.ok a9)⟩
    have keepall : ∀ {H8 : Hp} {Q' : VK}, Go st cs H7 H8 → (∀ H9, Go st cs H8 H9 → Q' (.bl (firm.all fun p => holdP w p.2)) H9) → sp_keeps K [.ref md, .ref ra] H8 Q' E0 := fun {H8 Q'} g8 hq =>
      ⟨.ref md, .ref ra, rfl, doms, firm, priced soft ps, row, hmod.up (g.trans (g7.trans g8)).tk, (Is.tup era (IsAll.ints row)).up (gH7.trans g8).tk, hrowl, hroww, hmo, fun H9 a9 => by
        rw [hw]
        exact hq H9 (.of g8.ok a9)⟩
    have lawholds : ∀ {H8 : Hp} {v : V} {q : Str × Say} {Q' : VK}, Go st cs H7 H8 → q ∈ firm ++ soft → Is H8 (sayD q.2) v → (∀ H9, Go st cs H8 H9 → Q' (.bl (holdP w q.2)) H9) → sp__law_holds K [v, .ref d] H8 Q' E0 := fun {H8 v q Q'} g8 hm hv hq =>
      ⟨v, d, rfl, q.2, doms.map (·.1), w, hv, hd.go g7.ok g8, (fun x _ => hw ▸ wOf_wt hroww x), (hok.io q hm).1, (hok.io q hm).2, fun H9 a9 => hq H9 (.of g8.ok a9)⟩
    refine kForR_i (n := firm.length + soft.length) (by omega) (fun k σ H' => ∃ y8 y12 y13 y14 y15, σ = [some (.ref st), some (.ref p), some (.ref f), some (.ref s), some (.ref r), some (.ref pr), none, some (.ref md), y8, some (.ref ra), some (.ref d), some (.bl ((firm.take k).all fun p => holdP w p.2)), y12, y13, y14, y15] ∧ Go st cs H7 H')
      ⟨y8, y12, y13, y14, y15, rfl, .refl g7.ok⟩ (fun k σ H8 hk pp => ?_) fun σ H8 pp => ?_
    · obtain ⟨y8, y12, y13, y14, y15, rfl, g8⟩ := pp
      have gH8 := gH7.trans g8
      obtain ⟨it, z3⟩ := get_some (xs := firm ++ soft) (i := k) (by rw [List.length_append]; exact hk)
      obtain ⟨x, z4⟩ := get_some (xs := fs ++ ss) (i := k) (by rw [List.length_append]; omega)
      have tfs : IsAll H ((firm ++ soft).map itD) (fs ++ ss) := by
        rw [List.map_append]
        exact tf.append ts
      obtain ⟨dt, z5, hx⟩ := tfs.get z4
      rw [List.getElem?_map, z3] at z5
      cases z5
      have hmem := List.mem_of_getElem? z3
      walk_at "aw"
      refine w_cat (gH8.keep nf hf) (gH8.keep ns hs) (by omega) fun j H9 nj a9 e9 => ?_
      have g9 := g8.new a9
      obtain ⟨ia, sv, rfl, ei, hsv⟩ := it_parts (hx.up (gH7.trans g9).tk)
      walk_at "aw"
      refine w_ixL (SqL.of e9) (at_of (j := k) rfl z4) ?_
      refine w_gtup (SqT.of ei) rfl ?_
      walk_at "aw"
      refine lawholds g9 hmem hsv fun H10 g10 => ?_
      have g10' := g9.trans g10
      walk_at "aw"
      refine keepsay g10' hmem fun H11 g11 => ?_
      have g11' := g10'.trans g11
      walk_at "aw"
      refine ⟨_, _, rfl, ?_⟩
      rw [show (holdP w it.2 == holdP w it.2) = true from beq_self_eq_true _]
      walk_at "aw"
      refine iteF ?_
      walk_at "aw"
      have hnext : ((firm.take (k + 1)).all fun p => holdP w p.2) = (((firm.take k).all fun p => holdP w p.2) && (holdP w it.2 || decide ((firm.length : Int) ≤ (k : Nat)))) := by
        by_cases hkf : k < firm.length
        · rw [List.getElem?_append_left hkf] at z3
          rw [all_take z3, decide_eq_false (by omega), Bool.or_false]
        · rw [decide_eq_true (by omega), Bool.or_true, Bool.and_true, List.take_of_length_le (by omega), List.take_of_length_le (by omega)]
      have last : ∀ {H12 : Hp} {b : Bool}, Go st cs H7 H12 → ((firm.take (k + 1)).all fun p => holdP w p.2) = b → ∃ y8 y12 y13 y14 y15, ([some (.ref st), some (.ref p), some (.ref f), some (.ref s), some (.ref r), some (.ref pr), none, some (.ref md), some (.int (k : Nat)), some (.ref ra), some (.ref d), some (.bl b), some (.str it.1), some sv, some (.bl (holdP w it.2)), some (.bl (holdP w it.2))] : L2.St) = [some (.ref st), some (.ref p), some (.ref f), some (.ref s), some (.ref r), some (.ref pr), none, some (.ref md), y8, some (.ref ra), some (.ref d), some (.bl ((firm.take (k + 1)).all fun p => holdP w p.2)), y12, y13, y14, y15] ∧ Go st cs H7 H12 :=
        fun g12 e => ⟨_, _, _, _, _, by rw [e], g12⟩
      cases h1 : (firm.take k).all fun p => holdP w p.2 with
      | false =>
        rw [h1, Bool.false_and] at hnext
        walk_at "aw"
        exact last g11' hnext
      | true =>
        rw [h1, Bool.true_and] at hnext
        walk_at "aw"
        cases h2 : holdP w it.2 with
        | true =>
          rw [h2] at hnext last
          walk_at "aw"
          exact last g11' hnext
        | false =>
          rw [h2, Bool.false_or] at hnext
          rw [h2] at last
          walk_at "aw"
          refine w_lenL (SqL.of ((gH7.trans g11').keep nf hf)) ?_
          rw [hfl]
          walk_at "aw"
          exact last g11' hnext
    · obtain ⟨y8, y12, y13, y14, y15, rfl, g8⟩ := pp
      rw [List.take_of_length_le (show firm.length ≤ firm.length + soft.length by omega)]
      walk_at "aw"
      refine keepall g8 fun H9 g9 => ?_
      walk_at "aw"
      refine ⟨_, _, rfl, ?_⟩
      rw [show ((firm.all fun p => holdP w p.2) == (firm.all fun p => holdP w p.2)) = true from beq_self_eq_true _]
      walk_at "aw"
      refine iteF ?_
      walk_at "aw"
      have g9' := g8.trans g9
      refine keepall g9' fun H10 g10 => ?_
      walk_at "aw"
      refine ⟨_, _, rfl, ?_⟩
      rw [show ((firm.all fun p => holdP w p.2) == (firm.all fun p => holdP w p.2)) = true from beq_self_eq_true _]
      walk_at "aw"
      refine iteF ?_
      walk_at "aw"
      have g10' := g9'.trans g10
      have gH10 := gH7.trans g10'
      refine w_lenL (SqL.of (gH10.keep ns hs)) ?_
      rw [hsl]
      walk_at "aw"
      have back : ∀ {H12 : Hp}, Go st cs H7 H12 → ∃ z8 z9 z10 z11 z12 z13 z14 z15, ([some (.ref st), some (.ref p), some (.ref f), some (.ref s), some (.ref r), some (.ref pr), none, some (.ref md), y8, some (.ref ra), some (.ref d), some (.bl (firm.all fun p => holdP w p.2)), y12, y13, y14, y15] : L2.St) = [some (.ref st), some (.ref p), some (.ref f), some (.ref s), some (.ref r), some (.ref pr), none, some (.ref md), z8, z9, z10, z11, z12, z13, z14, z15] ∧ Go st cs H6 H12 :=
        fun g12 => ⟨_, _, _, _, _, _, _, _, rfl, g.trans (g7.trans g12)⟩
      refine w_iteB (fun h0 => ?_) fun _ => ?_
      · obtain ⟨it, z3⟩ := get_some (xs := soft) (i := 0) (by omega)
        obtain ⟨x, z4⟩ := get_some (xs := ss) (i := 0) (by omega)
        obtain ⟨dt, z5, hx⟩ := ts.get z4
        rw [List.getElem?_map, z3] at z5
        cases z5
        have hmem : it ∈ firm ++ soft := List.mem_append_right _ (List.mem_of_getElem? z3)
        obtain ⟨ia, sv, rfl, ei, hsv⟩ := it_parts (hx.up gH10.tk)
        walk_at "aw"
        refine w_ixL (SqL.of (gH10.keep ns hs)) (at_of (j := 0) rfl z4) ?_
        walk_at "aw"
        refine w_ixT (SqT.of ei) rfl ?_
        walk_at "aw"
        refine keepsay g10' hmem fun H11 g11 => ?_
        have g11' := g10'.trans g11
        walk_at "aw"
        refine w_ixL (SqL.of ((gH7.trans g11').keep ns hs)) (at_of (j := 0) rfl z4) ?_
        walk_at "aw"
        refine w_ixT (SqT.of (g11.tk _ _ ei)) rfl ?_
        walk_at "aw"
        refine lawholds g11' hmem (hsv.up g11.tk) fun H12 g12 => ?_
        walk_at "aw"
        refine ⟨_, _, rfl, ?_⟩
        rw [show (holdP w it.2 == holdP w it.2) = true from beq_self_eq_true _]
        walk_at "aw"
        refine iteF ?_
        walk_at "aw"
        exact back (g11'.trans g12)
      · walk_at "aw"
        exact back g10'
  · obtain ⟨y8, y9, y10, y11, y12, y13, y14, y15, rfl, g⟩ := pp
    walk_at "aw"
    exact q H' (g6.trans g)
end AW
namespace AW
open PySem PySem.Spec PyProof.Rows L2 RZ
local macro_rules | `(tactic| walk_at "aw1") => `(tactic| first
  | (with_reducible refine w_seq ?_) | (with_reducible refine w_asg ?_) | (with_reducible refine w_gname ?_) | (with_reducible refine w_op ?_) | (with_reducible refine w_un ?_)
  | ((with_reducible refine' w_var ?h ?_); (case h => rfl)) | (with_reducible refine w_c ?_)
  | (with_reducible refine w_I0 ?_) | (with_reducible refine w_U ?_) | (with_reducible refine w_cb ?_) | (with_reducible refine w_nil ?_) | (with_reducible refine w_cons ?_) | (with_reducible refine w_call ?_)
  | (with_reducible refine w_test ?_) | (with_reducible refine w_B ?_) | (with_reducible refine w_bl ?_) | (with_reducible refine w_not ?_) | (with_reducible refine w_yes ?_) | (with_reducible refine iteT ?_) | (with_reducible refine iteF ?_) | (with_reducible refine w_and ?_) | (with_reducible refine w_or ?_)
  | (with_reducible refine w_andV ?_) | (with_reducible refine w_orV ?_) | (with_reducible refine w_notV ?_) | (with_reducible refine w_if ?_)
  | (with_reducible refine w_int1 ?_) | (with_reducible refine w_int1b ?_) | (with_reducible refine w_abs ?_) | (with_reducible refine w_max2 ?_) | (with_reducible refine w_min2 ?_)
  | ((with_reducible refine w_eq ?h ?_); (case h => rfl)) | ((with_reducible refine w_ne ?h ?_); (case h => rfl)) | (with_reducible refine w_isN ?_) | (with_reducible refine w_isB ?_) | (with_reducible refine w_chain ?_)
  | (with_reducible refine w_ret ?_) | (with_reducible refine w_drop ?_) | (with_reducible refine w_ifS ?_) | (with_reducible refine w_gsub ?_) | (with_reducible refine w_augS ?_) | (with_reducible refine w_ipI ?_) | (with_reducible refine w_next ?_)
  | (with_reducible refine w_forR ?_) | (with_reducible refine w_forR2 ?_) | (with_reducible refine w_forL ?_) | (with_reducible refine w_forT ?_) | (with_reducible refine w_lcR ?_) | (with_reducible refine w_lcL ?_) | (with_reducible refine w_lcT ?_) | (with_reducible refine w_sl ?_) | (with_reducible refine w_part ?_) | (with_reducible refine w_noPart ?_) | (with_reducible refine w_in ?_)
  | (with_reducible refine w_gcons ?_) | (with_reducible refine w_gnil ?_) | (with_reducible refine w_lc3 ?_) | (with_reducible refine w_dcZ ?_) | (with_reducible refine w_dcT ?_) | (with_reducible refine w_dg ?_) | (with_reducible refine w_callK ?_) | (with_reducible refine w_dput ?_) | (with_reducible refine w_tup1 ?_)
  | (with_reducible refine w_tup ?_) | (with_reducible refine w_lst ?_)
  | ((with_reducible refine w_I ?h ?_); (case h => first | (exact Or.inr ⟨by decide, by decide⟩) | (exact Or.inl ⟨by decide, by decide⟩) | (show (0 : Int) < _; decide) | (exact ⟨by decide, by decide, by decide⟩) | assumption)))
local macro_rules | `(tactic| walk_at "aw") => `(tactic| repeat (walk_at "aw1"))
theorem w_par {i j : Nat} {ta : TA} {D : Ends} {σ : L2.St} {H : Hp} (h : ta σ H fun vs H1 => ∃ v w, vs = [v, w] ∧ D.nx ((σ.set i (some v)).set j (some w)) H1) : tPar i j ta D σ H := h
theorem w_rg {i n : Nat} {σ : L2.St} {H : Hp} {Q : VK} (hn : n ≤ 100000) (hσ : σ[i]? = some (some (.int (n : Nat)))) (q : ∀ r H', H r = none → Adv [] H H' → H' r = some (.lst ((List.range n).map fun k => V.int (k : Nat))) → Q (.ref r) H') : tLstRg (tRg1 (tVar i)) σ H Q := by
  refine ⟨_, hσ, n, rfl, .of_le (by omega) (by omega) (by omega) (by omega), fun p hp => ?_⟩
  have e : rgV 0 (n : Nat) = (List.range n).map fun k => V.int (k : Nat) := by
    unfold rgV
    rw [show ((n : Int) - 0).toNat = n by omega]
    refine List.map_congr_left fun k _ => ?_
    rw [Int.zero_add]
  rw [e]
  exact w_new q p hp
theorem flat_rep {v : V} : ∀ n, (List.replicate n [v]).flatten = List.replicate n v
  | 0 => rfl
  | n + 1 => by rw [List.replicate_succ, List.flatten_cons, flat_rep n]; rfl
theorem w_rep {l : Addr} {v : V} {n : Nat} {H : Hp} {Q : VK} (h : H l = some (.lst [v])) (hn : n ≤ 100000) (q : ∀ r H', H r = none → Adv [] H H' → H' r = some (.lst (List.replicate n v)) → Q (.ref r) H') : rRep (.ref l) (.int (n : Nat)) H Q := by
  refine ⟨l, n, [v], rfl, rfl, h, by omega, by omega, by rw [Int.toNat_natCast]; exact Nat.le_trans (by simpa using hn) (by decide), fun p hp => ?_⟩
  rw [Int.toNat_natCast, flat_rep]
  exact w_new q p hp
theorem w_disp1 {i : Nat} {a : Int} {v : V} {σ : L2.St} {H : Hp} {Q : VK} (hσ : σ[i]? = some (some (.int a))) (q : ∀ d H', H d = none → Adv [] H H' → H' d = some (.dK [(Sum.inl a, v)]) → Q (.ref d) H') : tDisp ((tVar i, tC v) :: []) σ H Q := fun d nd =>
  ⟨_, hσ, upd_same, [(Sum.inl a, v)], rfl, by simp, q d _ nd ((Adv.new nd).mut nd upd_same fun _ z => by cases z) upd_same⟩
theorem at_last {xs : List V} {n : Nat} {v : V} (hl : xs.length = n + 1) (h : xs[n]? = some v) : atI xs (-1) = some v := by
  unfold atI ixN
  rw [if_neg (by omega), if_pos (by omega), Option.bind_some, hl, show ((-1 : Int) + ((n + 1 : Nat) : Int)).toNat = n by omega]
  exact h
theorem IsAll.drop {H : Hp} : ∀ {ds : List PyData} {vs : List V} (_ : IsAll H ds vs) (n : Nat), IsAll H (ds.drop n) (vs.drop n)
  | _, _, h, 0 => h
  | _, _, .nil, _ + 1 => .nil
  | _, _, .cons _ t, n + 1 => IsAll.drop t n
theorem IsAll.take {H : Hp} : ∀ {ds : List PyData} {vs : List V} (_ : IsAll H ds vs) (n : Nat), IsAll H (ds.take n) (vs.take n)
  | _, _, _, 0 => .nil
  | _, _, .nil, _ + 1 => .nil
  | _, _, .cons h t, n + 1 => .cons h (IsAll.take t n)
theorem IsAll.shuf {α : Type} {D : α → PyData} {H : Hp} {vs ws : List V} (p : vs.Perm ws) : ∀ {ls : List α}, IsAll H (ls.map D) vs → ∃ ls' : List α, ls'.Perm ls ∧ IsAll H (ls'.map D) ws := by
  induction p with
  | nil => exact fun {ls} h => ⟨ls, .refl _, h⟩
  | cons x _ ih =>
    intro ls h
    cases ls with
    | nil => cases h
    | cons a ls =>
      cases h with
      | cons h1 h2 =>
        obtain ⟨ls', p1, p2⟩ := ih h2
        exact ⟨a :: ls', p1.cons a, .cons h1 p2⟩
  | swap x y l =>
    intro ls h
    cases ls with
    | nil => cases h
    | cons a ls =>
      cases ls with
      | nil =>
        cases h with
        | cons h1 h2 => cases h2
      | cons b ls =>
        cases h with
        | cons h1 h2 =>
          cases h2 with
          | cons h2 h3 => exact ⟨b :: a :: ls, .swap a b ls, .cons h2 (.cons h1 h3)⟩
  | trans _ _ ih1 ih2 =>
    intro ls h
    obtain ⟨l1, p1, h1⟩ := ih1 h
    obtain ⟨l2, p2, h2⟩ := ih2 h1
    exact ⟨l2, p2.trans p1, h2⟩
/-- the draw's list of ints gives an int -/
theorem int_mem {xs : List Int} {i : Nat} {v : V} (h : (xs.map V.int)[i]? = some v) : ∃ n, v = .int n ∧ n ∈ xs := by
  rw [List.getElem?_map] at h
  obtain ⟨n, z, rfl⟩ := Option.map_eq_some_iff.mp h
  exact ⟨n, rfl, List.mem_of_getElem? z⟩
/-- the place before, around -/
def prev (n k : Nat) : Nat := if k = 0 then n - 1 else k - 1
theorem prev_lt {n k : Nat} (h : k < n) : prev n k < n := by
  unfold prev
  split <;> omega
theorem prev_at {n k : Nat} {xs : List V} {v : V} (h : k < n) (hn : xs.length = n) (hv : xs[prev n k]? = some v) : atI xs ((k : Nat) - 1) = some v := by
  unfold prev at hv
  unfold atI ixN
  by_cases h0 : k = 0
  · rw [if_pos h0] at hv
    rw [if_neg (by omega), if_pos (by omega), Option.bind_some, hn, show ((k : Int) - 1 + (n : Nat)).toNat = n - 1 by omega]
    exact hv
  · rw [if_neg h0] at hv
    rw [if_pos (by omega), if_pos (by omega), Option.bind_some, show ((k : Int) - 1).toNat = k - 1 by omega]
    exact hv
/-- each saying under the name of the one behind it -/
def turn (made : List (Str × Say)) : List (Str × Say) := (List.range made.length).map fun k => ((made.getD k dfl).1, (made.getD (prev made.length k) dfl).2)
theorem turn_len (made : List (Str × Say)) : (turn made).length = made.length := by
  unfold turn
  rw [List.length_map, List.length_range]
theorem turn_get {made : List (Str × Say)} {k : Nat} {a b : Str × Say} (ha : made[k]? = some a) (hb : made[prev made.length k]? = some b) : (turn made)[k]? = some (a.1, b.2) := by
  have hk := (List.getElem?_eq_some_iff.mp ha).1
  unfold turn
  rw [List.getElem?_map, List.getElem?_range hk]
  show some ((made.getD k dfl).1, (made.getD (prev made.length k) dfl).2) = _
  rw [getD_of ha, getD_of hb]
theorem turn_names (made : List (Str × Say)) : (turn made).map (·.1) = made.map (·.1) := by
  refine List.ext_getElem? fun k => ?_
  rw [List.getElem?_map, List.getElem?_map]
  by_cases hk : k < made.length
  · have hp := prev_lt hk
    rw [turn_get (List.getElem?_eq_getElem hk) (List.getElem?_eq_getElem hp), List.getElem?_eq_getElem hk]
    rfl
  · rw [List.getElem?_eq_none (by rw [turn_len]; omega), List.getElem?_eq_none (by omega)]
theorem turn_mem {made : List (Str × Say)} {q : Str × Say} (h : q ∈ turn made) : ∃ p ∈ made, q.2 = p.2 := by
  unfold turn at h
  obtain ⟨k, hk, rfl⟩ := List.mem_map.mp h
  have hp := prev_lt (List.mem_range.mp hk)
  exact ⟨_, List.getElem_mem hp, by rw [getD_of (List.getElem?_eq_getElem hp)]⟩
def sp__law_by_turns (_ : PySem.W.Frag) : Sp := fun vs H Q _ => ∃ (st p md f s r : Addr) (b : V), vs = [.ref st, .ref p, .ref md, .ref f, .ref s, .ref r, b] ∧ ∃ (cs : Addr) (doms : List (Str × List Int)) (made firm soft : List (Str × Say)) (rows : List (List Int)) (base : List Int), StOk st cs H ∧
  (p ≠ st ∧ md ≠ st ∧ f ≠ st ∧ s ≠ st ∧ r ≠ st) ∧ LsAt H p (doms.map domD) ∧ LsAt H md (made.map itD) ∧ LsAt H f (firm.map itD) ∧ LsAt H s (soft.map itD) ∧ LsAt H r (rows.map rowD) ∧ Is H (rowD base) b ∧ HeldOk doms firm soft ∧
  (made.map (·.1)).Nodup ∧ 0 < made.length ∧ made.length ≤ 50 ∧ (∀ q ∈ made, q.2.ok ∧ ∀ x ∈ q.2.names, x ∈ doms.map (·.1)) ∧ (∀ row ∈ rows, row.length = doms.length ∧ ∀ v ∈ row, wt v) ∧ rows.length ≤ 5000 ∧ base.length = doms.length ∧ (∀ v ∈ base, wt v) ∧ 0 < doms.length ∧ (∀ q ∈ doms, 0 < q.2.length ∧ q.2.length ≤ 100 ∧ ∀ v ∈ q.2, wt v) ∧
  ∀ H', Go st cs H H' → Q (.bl true) H'
def sp__law_domain (_ : PySem.W.Frag) : Sp := fun vs H Q _ => ∃ (st : Addr) (n : Nat), vs = [.ref st, .int ((n : Nat) + 1)] ∧ ∃ cs, StOk st cs H ∧ n < 1000 ∧ ∀ v (fl : List Int) H', Go st cs H H' → Is H' (rowD fl) v → fl.length = n + 1 → Q v H'
def sp__law_circle (_ : PySem.W.Frag) : Sp := fun vs H Q _ => ∃ (st : Addr) (n : Nat), vs = [.ref st, .int (n : Nat)] ∧ ∃ cs, StOk st cs H ∧ 0 < n ∧ n ≤ 1000 ∧ ∀ r (fl : List Int) H', Go st cs H H' → H r = none → H' r = some (.lst (fl.map V.int)) → fl.length = n → Q (.ref r) H'
def sp__law_around (_ : PySem.W.Frag) : Sp := fun vs H Q _ => ∃ (st : Addr) (a : Int) (m n : Nat), vs = [.ref st, .int a, .int (m : Nat), .int (n : Nat)] ∧ ∃ cs, StOk st cs H ∧ 0 < m ∧ m ≤ 60 ∧ n ≤ 900 ∧ ∀ v (fl : List Int) H', Go st cs H H' → Is H' (rowD fl) v → 0 < fl.length → fl.length ≤ m → Q v H'
def sp__law_works (_ : PySem.W.Frag) : Sp := fun vs H Q _ => ∃ (st p d : Addr), vs = [.ref st, .ref p, .ref d] ∧ ∃ (cs : Addr) (doms : List (Str × List Int)) (w : Str → Int), StOk st cs H ∧ p ≠ st ∧ LsAt H p (doms.map domD) ∧ WD H d (doms.map (·.1)) w ∧ doms.length ≤ 100 ∧
  ∀ v (s : Say) H', Go st cs H H' → Is H' (sayD s) v → s.ok → (∀ x ∈ s.names, x ∈ doms.map (·.1)) → Q v H'
def t__law_by_turns (K : PySem.W.Frag) : TS := (tSeq (tAsg (tOp rCat (tOp rCat (tLst (tCons (tVar 6) tNil)) (tSl (rSlL K) (tVar 5) tNoPart (tPart (tC (.int 2))))) (tLst (tCons (tCall (sp__law_near K) [] E0 (tCons (tVar 0) (tCons (tVar 1) (tCons (tVar 6) tNil)))) tNil))) (gName 7))
  (tSeq (tAsg (tLc (iRng1 (tCons (tCB (rLen1 K) (tCons (tVar 2) tNil)) tNil)) (gName 9) tYes (tTup (tCons (tOp (rIxT K) (tOp (rIxL K) (tVar 2) (tVar 9)) (tC (.int 0))) (tCons (tOp (rIxT K) (tOp (rIxL K) (tVar 2) (tOp rSubI (tVar 9) (tC (.int 1)))) (tC (.int 1))) tNil))) [9]) (gName 8))
  (tSeq (tIfS (tOr (tNot (tB (tCall (sp__law_are_held K) [] E0 (tCons (tVar 0) (tCons (tVar 1) (tCons (tVar 3) (tCons (tVar 4) (tCons (tVar 5) tNil)))))))) (tNot (tB (tCall (sp__law_are_held K) [] E0 (tCons (tVar 0) (tCons (tVar 1) (tCons (tSl (rSlL K) (tVar 8) (tPart (tC (.int 1))) tNoPart) (tCons (tSl (rSlL K) (tVar 8) tNoPart (tPart (tC (.int 1)))) (tCons (tVar 7) tNil))))))))) (tRet (tC (.bl false))) tNext)
  (tRet (tCall (sp__law_are_held K) [] E0 (tCons (tVar 0) (tCons (tVar 1) (tCons (tVar 3) (tCons (tVar 4) (tCons (tVar 7) tNil))))))))))
theorem len__law_by_turns {K : PySem.W.Frag} : ∀ (vs : List V) (H : Hp) (Q : VK) (E : XK), sp__law_by_turns K vs H Q E → vs.length = 7 := fun vs H Q E h => by
  obtain ⟨_, _, _, _, _, _, _, rfl, _⟩ := h
  rfl
theorem turned_held {doms : List (Str × List Int)} {made : List (Str × Say)} (hd : (doms.map (·.1)).Nodup) (hl : doms.length ≤ 100) (hn : (made.map (·.1)).Nodup) (h50 : made.length ≤ 50) (hm : ∀ q ∈ made, q.2.ok ∧ ∀ x ∈ q.2.names, x ∈ doms.map (·.1)) : HeldOk doms ((turn made).drop 1) ((turn made).take 1) := by
  have hp : ((turn made).drop 1 ++ (turn made).take 1).Perm (turn made) := List.perm_append_comm.trans (by rw [List.take_append_drop])
  refine ⟨hd, hl, ?_, by rw [List.length_drop, turn_len]; omega, by rw [List.length_take, turn_len]; omega, fun q hq => ?_⟩
  · rw [← List.map_append]
    refine (hp.map _).nodup_iff.mpr ?_
    rw [turn_names]
    exact hn
  · obtain ⟨p, h1, h2⟩ := turn_mem (hp.mem_iff.mp hq)
    rw [h2]
    exact hm p h1
theorem pure__law_by_turns {K : PySem.W.Frag} (vs : List V) (H : Hp) (Q : VK) (E : XK) (h : sp__law_by_turns K vs H Q E) : t__law_by_turns K { nx := fun _ H' => Q .non H', rt := Q } (start ["state", "doms", "made", "firm", "soft", "fillings", "base", "few", "turned", "k"] vs) H := by
  obtain ⟨st, p, md, f, s, r, b, rfl, cs, doms, made, firm, soft, rows, base, ok, ⟨np, nm, nf, ns, nr⟩, hp, ⟨ms, hm, tm⟩, hf, hs, ⟨rs, hr, tr⟩, hb, hok, hmn, hm0, hm50, hmok, hrow, hrl, hbl, hbw, hd0, hdd, q⟩ := h
  have hml : ms.length = made.length := by rw [tm.length, List.length_map]
  have hrsl : rs.length = rows.length := by rw [tr.length, List.length_map]
  show t__law_by_turns K _ [some (.ref st), some (.ref p), some (.ref md), some (.ref f), some (.ref s), some (.ref r), some b, none, none, none] H
  unfold t__law_by_turns
  walk_at "aw"
  refine w_lstD (by simp) fun l1 H1 nl1 a1 e1 => ?_
  have g1 := Go.of ok a1
  walk_at "aw"
  refine w_slL (SqL.of (g1.keep nr hr)) fun l2 H2 nl2 a2 e2 => ?_
  rw [cut_to _ (by omega)] at e2
  refine w_cat (a2.keep _ _ (fun z => nomatch z) e1) e2 (by rw [List.length_take]; simp; omega) fun l3 H3 nl3 a3 e3 => ?_
  have g3 := (g1.new a2).new a3
  walk_at "aw"
  refine ⟨st, p, b, rfl, cs, doms, base, g3.ok, np, hp.go np g3, hb.up g3.tk, hbl, hbw, hd0, hok.dl, hdd, fun v' fl' H4 g4 hv' hfl' hflw' => ?_⟩
  have g4' := g3.trans g4
  walk_at "aw"
  refine w_lstD (by simp) fun l5 H5 nl5 a5 e5 => ?_
  have nl3st := (g1.new a2).ok.ne nl3
  refine w_cat (a5.keep _ _ (fun z => nomatch z) (g4.keep nl3st.1 e3)) e5 (by rw [List.length_append, List.length_take]; simp; omega) fun few H6 nfew a6 e6 => ?_
  have g6 := (g4'.new a5).new a6
  have nfewst := (g4'.new a5).ok.ne nfew
  have hfew : LsAt H6 few (((base :: rows.take 2) ++ [fl']).map rowD) := by
    refine ⟨_, e6, ?_⟩
    rw [List.map_append, List.map_cons, List.map_take]
    exact IsAll.append (.cons (hb.up g6.tk) ((tr.take 2).up g6.tk)) (.cons ((hv'.up a5.tup).up a6.tup) .nil)
  have hfewl : ∀ row ∈ (base :: rows.take 2) ++ [fl'], row.length = doms.length ∧ ∀ v ∈ row, wt v := fun row hrw => by
    rcases List.mem_append.mp hrw with h | h
    · rcases List.mem_cons.mp h with h | h
      · rw [h]; exact ⟨hbl, hbw⟩
      · exact hrow row (List.mem_of_mem_take h)
    · rw [List.mem_singleton.mp h]
      exact ⟨hfl', hflw'⟩
  have hfewn : ((base :: rows.take 2) ++ [fl']).length ≤ 5000 := by
    rw [List.length_append, List.length_cons, List.length_take]
    simp
    omega
  generalize (base :: rows.take 2) ++ [fl'] = frows at hfew hfewl hfewn
  walk_at "aw"
  refine w_lenL (SqL.of (g6.keep nm hm)) ?_
  rw [hml]
  refine kLcR_all (n := made.length) (by omega) g6.ok (fun k v H => ∃ q, (turn made)[k]? = some q ∧ Is H (itD q) v) (fun k v H H' t h => by
    obtain ⟨q, z1, z2⟩ := h
    exact ⟨q, z1, z2.up t⟩) (fun k H7 Kt hk g7 kt => ?_) fun tu H7 ys ntu g7 etu hyl hyr => ?_
  · have hk2 := prev_lt hk
    obtain ⟨a, za⟩ := get_some (xs := made) hk
    obtain ⟨c, zc⟩ := get_some (xs := made) hk2
    obtain ⟨xa, ya⟩ := get_some (xs := ms) (i := k) (by omega)
    obtain ⟨xc, yc⟩ := get_some (xs := ms) (i := prev made.length k) (by omega)
    obtain ⟨da, z1, ha⟩ := tm.get ya
    rw [List.getElem?_map, za] at z1
    cases z1
    obtain ⟨dc, z2, hc⟩ := tm.get yc
    rw [List.getElem?_map, zc] at z2
    cases z2
    have g67 := g6.trans g7
    obtain ⟨ia, sa, rfl, ea, _⟩ := it_parts (ha.up g67.tk)
    obtain ⟨ic, sc, rfl, ec, hsc⟩ := it_parts (hc.up g67.tk)
    walk_at "aw"
    refine ⟨rfl, ?_⟩
    walk_at "aw"
    refine w_ixL (SqL.of (g67.keep nm hm)) (at_of (j := k) rfl ya) ?_
    walk_at "aw"
    refine w_ixT (SqT.of ea) rfl ?_
    walk_at "aw"
    refine w_ixL (SqL.of (g67.keep nm hm)) (prev_at hk hml yc) ?_
    walk_at "aw"
    refine w_ixT (SqT.of ec) rfl ?_
    walk_at "aw"
    refine w_tupD (by simp) fun t H8 nt a8 e8 => ?_
    exact kt _ _ (Go.of g7.ok a8) ⟨_, turn_get za zc, .tup e8 (.cons (.str _) (.cons (hsc.up a8.tup) .nil))⟩
  have g7' := g6.trans g7
  have ntust := (g6.ok.ne ntu).1
  have htu : IsAll H7 ((turn made).map itD) ys := IsAll.of _ _ (by rw [List.length_map, turn_len, hyl]) fun i d v h1 h2 => by
    rw [List.getElem?_map] at h1
    obtain ⟨q, z1, z2⟩ := hyr i v h2
    rw [z1] at h1
    cases h1
    exact z2
  have hth := turned_held hok.dn hok.dl hmn hm50 hmok
  walk_at "aw"
  refine ⟨st, p, f, s, r, rfl, cs, doms, firm, soft, rows, g7'.ok, ⟨np, nf, ns, nr⟩, hp.go np g7', hf.go nf g7', hs.go ns g7', LsAt.go ⟨rs, hr, tr⟩ nr g7', hok, hrow, hrl, fun H8 g8 => ?_⟩
  walk_at "aw"
  refine iteF ?_
  walk_at "aw"
  have g78 := g7.trans g8
  have g8' := g7'.trans g8
  refine w_slL (SqL.of (g8.keep ntust etu)) fun l9 H9 nl9 a9 e9 => ?_
  rw [cut_from _ (by omega)] at e9
  walk_at "aw"
  refine w_slL (SqL.of (a9.keep _ _ (fun z => nomatch z) (g8.keep ntust etu))) fun l10 H10 nl10 a10 e10 => ?_
  rw [cut_to _ (by omega)] at e10
  have g10 := (g8.new a9).new a10
  have g10' := g7'.trans g10
  walk_at "aw"
  refine ⟨st, p, l9, l10, few, rfl, cs, doms, (turn made).drop 1, (turn made).take 1, frows, g10.ok, ⟨np, (g8.ok.ne nl9).1, ((g8.new a9).ok.ne nl10).1, nfewst.1⟩, hp.go np g10', ⟨_, a10.keep _ _ (fun z => nomatch z) e9, ?_⟩, ⟨_, e10, ?_⟩, hfew.go nfewst.1 (g7.trans g10), hth, hfewl, hfewn, fun H11 g11 => ?_⟩
  · rw [List.map_drop]
    exact (htu.up g10.tk).drop 1
  · rw [List.map_take]
    exact (htu.up g10.tk).take 1
  walk_at "aw"
  refine iteF ?_
  walk_at "aw"
  have g11' := g10'.trans g11
  refine ⟨st, p, f, s, few, rfl, cs, doms, firm, soft, frows, g11.ok, ⟨np, nf, ns, nfewst.1⟩, hp.go np g11', hf.go nf g11', hs.go ns g11', hfew.go nfewst.1 ((g7.trans g10).trans g11), hok, hfewl, hfewn, fun H12 g12 => ?_⟩
  exact q H12 (g11'.trans g12)
end AW
namespace AW
open PySem PySem.Spec PyProof.Rows L2 RZ
local macro_rules | `(tactic| walk_at "aw1") => `(tactic| first
  | (with_reducible refine w_seq ?_) | (with_reducible refine w_asg ?_) | (with_reducible refine w_gname ?_) | (with_reducible refine w_op ?_) | (with_reducible refine w_un ?_)
  | ((with_reducible refine' w_var ?h ?_); (case h => rfl)) | (with_reducible refine w_c ?_)
  | (with_reducible refine w_I0 ?_) | (with_reducible refine w_U ?_) | (with_reducible refine w_cb ?_) | (with_reducible refine w_nil ?_) | (with_reducible refine w_cons ?_) | (with_reducible refine w_call ?_)
  | (with_reducible refine w_test ?_) | (with_reducible refine w_B ?_) | (with_reducible refine w_bl ?_) | (with_reducible refine w_not ?_) | (with_reducible refine w_yes ?_) | (with_reducible refine iteT ?_) | (with_reducible refine iteF ?_) | (with_reducible refine w_and ?_) | (with_reducible refine w_or ?_)
  | (with_reducible refine w_andV ?_) | (with_reducible refine w_orV ?_) | (with_reducible refine w_notV ?_) | (with_reducible refine w_if ?_)
  | (with_reducible refine w_int1 ?_) | (with_reducible refine w_int1b ?_) | (with_reducible refine w_abs ?_) | (with_reducible refine w_max2 ?_) | (with_reducible refine w_min2 ?_)
  | ((with_reducible refine w_eq ?h ?_); (case h => rfl)) | ((with_reducible refine w_ne ?h ?_); (case h => rfl)) | (with_reducible refine w_isN ?_) | (with_reducible refine w_isB ?_) | (with_reducible refine w_chain ?_)
  | (with_reducible refine w_ret ?_) | (with_reducible refine w_drop ?_) | (with_reducible refine w_ifS ?_) | (with_reducible refine w_gsub ?_) | (with_reducible refine w_augS ?_) | (with_reducible refine w_ipI ?_) | (with_reducible refine w_next ?_)
  | (with_reducible refine w_forR ?_) | (with_reducible refine w_forR2 ?_) | (with_reducible refine w_forL ?_) | (with_reducible refine w_forT ?_) | (with_reducible refine w_lcR ?_) | (with_reducible refine w_lcL ?_) | (with_reducible refine w_lcT ?_) | (with_reducible refine w_sl ?_) | (with_reducible refine w_part ?_) | (with_reducible refine w_noPart ?_) | (with_reducible refine w_in ?_)
  | (with_reducible refine w_gcons ?_) | (with_reducible refine w_gnil ?_) | (with_reducible refine w_lc3 ?_) | (with_reducible refine w_dcZ ?_) | (with_reducible refine w_dcT ?_) | (with_reducible refine w_dg ?_) | (with_reducible refine w_callK ?_) | (with_reducible refine w_dput ?_) | (with_reducible refine w_tup1 ?_)
  | (with_reducible refine w_tup ?_) | (with_reducible refine w_lst ?_)
  | ((with_reducible refine w_I ?h ?_); (case h => first | (exact Or.inr ⟨by decide, by decide⟩) | (exact Or.inl ⟨by decide, by decide⟩) | (show (0 : Int) < _; decide) | (exact ⟨by decide, by decide, by decide⟩) | assumption)))
local macro_rules | `(tactic| walk_at "aw") => `(tactic| repeat (walk_at "aw1"))
theorem strs_of : ∀ {ys : List V}, (∀ (i : Nat) v, ys[i]? = some v → ∃ n : Str, v = .str n) → ∃ ps : List Str, ys = ps.map V.str
  | [], _ => ⟨[], rfl⟩
  | y :: ys, h => by
    obtain ⟨n, rfl⟩ := h 0 y rfl
    obtain ⟨ps, rfl⟩ := strs_of (ys := ys) fun i v e => h (i + 1) v (by simpa using e)
    exact ⟨n :: ps, rfl⟩
def SG : Str := "abcdefghijklmnopqrstuvwxyz0123456789."
def SGl : List Nat := SG.cps.toList
theorem SG_len : SGl.length = 37 := by decide +kernel
theorem SG_nd : SGl.Nodup := by decide +kernel
theorem SG_ok : ∀ c ∈ SGl, c < 0x110000 := by decide +kernel
theorem SG_size : SG.length ≤ sizeLine := by decide +kernel
theorem w_sign {i : Int} {H : Hp} {Q : VK} (h0 : 0 ≤ i) (h1 : i < 37) (q : ∀ c, SGl[i.toNat]? = some c → Q (.str ⟨#[c]⟩) H) : rIxS (.str SG) (.int i) H Q := by
  obtain ⟨c, hc⟩ := get_some (xs := SGl) (i := i.toNat) (by rw [SG_len]; omega)
  refine ⟨SG, i, c, rfl, rfl, SG_size, ?_, q c hc⟩
  have e : SG.cps.toList.length = 37 := SG_len
  unfold atI ixN
  rw [e, if_pos h0, if_pos (show i < ((37 : Nat) : Int) from h1), Option.bind_some]
  exact hc
theorem w_addS {x y : Str} {H : Hp} {Q : VK} (h : x.length + y.length ≤ 100000) (q : Q (.str (x ++ y)) H) : rAddS (.str x) (.str y) H Q := ⟨x, y, rfl, rfl, Nat.le_trans h (by decide), q⟩
theorem w_slS {x : Str} {lo hi : Option Int} {H : Hp} {Q : VK} (h : x.length ≤ 100000) (q : Q (.str (cutS x lo hi)) H) : rSlS (.str x) lo hi H Q := ⟨x, rfl, Nat.le_trans h (by decide), q⟩
theorem w_str {i : Int} {H : Hp} {Q : VK} (h : i.natAbs < 1000) (q : Q (.str (Str.ofString (toString i))) H) : rStr1 [.int i] H Q := ⟨i, rfl, by have := Nat.log2_le_self i.natAbs; omega, q⟩
theorem okS_app {x y : Str} (h1 : okS x) (h2 : okS y) : okS (x ++ y) := by
  unfold okS at *
  show ((x.cps ++ y.cps).all _) = true
  rw [Array.all_append, h1, h2]
  rfl
theorem okS_iff {x : Str} : okS x ↔ ∀ c ∈ x.cps.toList, c < 0x110000 := by
  unfold okS
  rw [← Array.all_toList, List.all_eq_true]
  simp
theorem okS_cut {x : Str} {lo hi : Option Int} (h : okS x) : okS (cutS x lo hi) := by
  rw [okS_iff] at h ⊢
  intro c hc
  exact h c (List.mem_of_mem_drop (List.mem_of_mem_take hc))
theorem okS_one {c : Nat} (h : c < 0x110000) : okS ⟨#[c]⟩ := by
  rw [okS_iff]
  intro d hd
  rw [List.mem_singleton.mp hd]
  exact h
theorem len_app {x y : Str} : (x ++ y).length = x.length + y.length := Array.size_append
theorem len_one {c : Nat} : (⟨#[c]⟩ : Str).length = 1 := rfl
theorem lst_app {x y : Str} : (x ++ y).cps.toList = x.cps.toList ++ y.cps.toList := Array.toList_append
theorem lst_one {c : Nat} : (⟨#[c]⟩ : Str).cps.toList = [c] := rfl
theorem join_ok : ∀ ws : List Str, (∀ x ∈ ws, okS x ∧ x.length = 1) → okS (Str.join "" ws) ∧ (Str.join "" ws).length ≤ ws.length
  | [], _ => ⟨by unfold okS; decide +kernel, Nat.le_refl _⟩
  | [x], h => ⟨(h x (List.mem_singleton.mpr rfl)).1, by rw [show Str.join "" [x] = x from rfl, (h x (List.mem_singleton.mpr rfl)).2]; exact Nat.le_refl _⟩
  | x :: y :: ws, h => by
    obtain ⟨h1, h2⟩ := join_ok (y :: ws) fun z hz => h z (List.mem_cons_of_mem _ hz)
    have hx := h x (List.mem_cons_self ..)
    have e : Str.join "" (x :: y :: ws) = x ++ "" ++ Str.join "" (y :: ws) := rfl
    rw [e]
    refine ⟨okS_app (okS_app hx.1 (by unfold okS; decide +kernel)) h1, ?_⟩
    rw [len_app, len_app, hx.2, show (Str.ofString "").length = 0 from by decide +kernel, List.length_cons]
    omega
def SK (k : Int) : Str := Str.ofString (toString k)
def tail2 (k : Nat) : List Nat := (Str.ofString ".").cps.toList ++ ((SK ((k : Int) / 3)).cps.toList ++ ((Str.ofString ".").cps.toList ++ (SK ((k : Int) % 3)).cps.toList))
theorem tail2_inj : ∀ k < 37, ∀ j < 37, tail2 k = tail2 j → k = j := by decide +kernel
theorem SK_ok : ∀ k < 37, okS (SK (k : Nat)) ∧ okS (SK (((k : Nat) : Int) / 3)) ∧ okS (SK (((k : Nat) : Int) % 3)) := by unfold okS; decide +kernel
theorem SK_len : ∀ k < 37, (SK (k : Nat)).length ≤ 2 ∧ (SK (((k : Nat) : Int) / 3)).length ≤ 2 ∧ (SK (((k : Nat) : Int) % 3)).length ≤ 2 := by decide +kernel
theorem mul37 : ∀ t < 37, ∀ d < 37, 0 < t → (t * d) % 37 = 0 → d = 0 := by decide +kernel
theorem step37' {s t : Int} {k j : Nat} (ht : 0 < t ∧ t < 37) (hk : k < 37) (hkj : j ≤ k) (h : (s + t * (k : Nat)) % 37 = (s + t * (j : Nat)) % 37) : k = j := by
  have h1 := Int.emod_eq_emod_iff_emod_sub_eq_zero.mp h
  obtain ⟨d, rfl⟩ := Nat.exists_eq_add_of_le hkj
  obtain ⟨u, rfl⟩ := Int.eq_ofNat_of_zero_le (show 0 ≤ t by omega)
  have h2 : s + (u : Int) * ((j + d : Nat) : Int) - (s + (u : Int) * (j : Nat)) = ((u * d : Nat) : Int) := by
    rw [Int.natCast_add, Int.mul_add, Int.natCast_mul]
    omega
  rw [h2] at h1
  have := mul37 u (by omega) d (by omega) (by omega) (by omega)
  omega
theorem step37 {s t : Int} {k j : Nat} (ht : 0 < t ∧ t < 37) (hk : k < 37) (hj : j < 37) (h : (s + t * (k : Nat)) % 37 = (s + t * (j : Nat)) % 37) : k = j := by
  rcases Nat.le_total j k with h1 | h1
  · exact step37' ht hk h1 h
  · exact (step37' ht hj h1 h.symm).symm
/-- what the k-th name is -/
structure PN (style start step : Int) (A A2 : List Nat) (k : Nat) (nm : Str) : Prop where
  ok : okS nm
  p1 : style ≠ 2 → ∃ c B, SGl[((start + step * (k : Nat)) % 37).toNat]? = some c ∧ nm.cps.toList = A ++ c :: B
  p2 : style = 2 → nm.cps.toList = A2 ++ tail2 k
theorem PN.inj {style start step : Int} {A A2 : List Nat} {k j : Nat} {nm : Str} (ht : 0 < step ∧ step < 37) (hk : k < 37) (hj : j < 37) (a : PN style start step A A2 k nm) (b : PN style start step A A2 j nm) : k = j := by
  by_cases h : style = 2
  · have e := (a.p2 h).symm.trans (b.p2 h)
    exact tail2_inj k hk j hj (List.append_cancel_left e)
  · obtain ⟨c, B, h1, h2⟩ := a.p1 h
    obtain ⟨c', B', h3, h4⟩ := b.p1 h
    have e := List.append_cancel_left (h2.symm.trans h4)
    have e1 : c = c' := (List.cons.inj e).1
    subst e1
    have := nodup_inj SG_nd h1 h3
    refine step37 (s := start) ht hk hj ?_
    have q1 := Int.emod_nonneg (start + step * (k : Nat)) (show (37 : Int) ≠ 0 by decide)
    have q2 := Int.emod_nonneg (start + step * (j : Nat)) (show (37 : Int) ≠ 0 by decide)
    omega
def sp__law_names (_ : PySem.W.Frag) : Sp := fun vs H Q _ => ∃ (st : Addr) (n : Nat), vs = [.ref st, .int (n : Nat)] ∧ ∃ cs, StOk st cs H ∧ n ≤ 37 ∧ ∀ r (names : List Str) H', Go st cs H H' → H r = none → H' r = some (.lst (names.map V.str)) → names.length = n → names.Nodup → (∀ x ∈ names, okS x) → Q (.ref r) H'
def t__law_names (K : PySem.W.Frag) : TS := (tSeq (tAsg (tC (.str "abcdefghijklmnopqrstuvwxyz0123456789.")) (gName 2))
  (tSeq (tAsg (tCall (sp__law_take K) [] E0 (tCons (tVar 0) (tCons (tC (.int 4)) tNil))) (gName 3))
  (tSeq (tPar 4 5 (tCons (tCall (sp__law_take K) [] E0 (tCons (tVar 0) (tCons (tC (.int 37)) tNil))) (tCons (tOp rAddI (tC (.int 1)) (tCall (sp__law_take K) [] E0 (tCons (tVar 0) (tCons (tC (.int 36)) tNil)))) tNil)))
  (tSeq (tAsg (tM1 (rJoin K) (tC (.str "")) (tLc (iRng1 (tCons (tC (.int 24)) tNil)) (gName 7) tYes (tOp rIxS (tVar 2) (tCall (sp__law_take K) [] E0 (tCons (tVar 0) (tCons (tC (.int 37)) tNil)))) [7])) (gName 6))
  (tSeq (tPar 8 9 (tCons (tCall (sp__law_take K) [] E0 (tCons (tVar 0) (tCons (tC (.int 12)) tNil))) (tCons (tOp rAddI (tC (.int 12)) (tCall (sp__law_take K) [] E0 (tCons (tVar 0) (tCons (tC (.int 12)) tNil)))) tNil)))
  (tSeq (tAsg (tLst tNil) (gName 10))
  (tSeq (tFor (iRng1 (tCons (tVar 1) tNil)) (gName 7)
  (tSeq (tAsg (tOp rIxS (tVar 2) (tOp rModI (tCB rInt1 (tCons (tOp rAddI (tVar 4) (tOp rMulI (tVar 5) (tVar 7))) tNil)) (tC (.int 37)))) (gName 11))
  (tSeq (tAsg (tOp rAddS (tOp rAddS (tOp rAddS (tOp rAddS (tSl rSlS (tVar 6) tNoPart (tPart (tVar 8))) (tVar 11)) (tSl rSlS (tVar 6) (tPart (tOp rAddI (tVar 8) (tC (.int 1)))) (tPart (tVar 9)))) (tOp rIxS (tVar 2) (tOp rDivI (tVar 7) (tC (.int 37))))) (tSl rSlS (tVar 6) (tPart (tOp rAddI (tVar 9) (tC (.int 1)))) tNoPart)) (gName 12))
  (tSeq (tIfS (tTest (tOp rEq (tVar 3) (tC (.int 0)))) (tAsg (tOp rAddS (tVar 11) (tOp rRepS (tOp rIxS (tVar 2) (tOp rDivI (tVar 7) (tC (.int 37)))) (tCB rInt1 (tCons (tOp rGtI (tVar 1) (tC (.int 37))) tNil)))) (gName 12)) (tIfS (tTest (tOp rEq (tVar 3) (tC (.int 1)))) (tAsg (tOp rAddS (tOp rAddS (tSl rSlS (tVar 6) tNoPart (tPart (tVar 8))) (tVar 11)) (tCB rStr1 (tCons (tVar 7) tNil))) (gName 12)) (tIfS (tTest (tOp rEq (tVar 3) (tC (.int 2)))) (tAsg (tOp rAddS (tOp rAddS (tOp rAddS (tOp rAddS (tSl rSlS (tVar 6) tNoPart (tPart (tOp rAddI (tC (.int 1)) (tOp rDivI (tVar 8) (tC (.int 4)))))) (tC (.str "."))) (tCB rStr1 (tCons (tOp rDivI (tVar 7) (tC (.int 3))) tNil))) (tC (.str "."))) (tCB rStr1 (tCons (tOp rModI (tCB rInt1 (tCons (tVar 7) tNil)) (tC (.int 3))) tNil))) (gName 12)) tNext)))
  (tDrop (tBM K "list" rAppend (tVar 10) (tCons (tVar 12) tNil)))))))
  (tRet (tCall (sp__law_shuffled K) [] E0 (tCons (tVar 0) (tCons (tVar 10) tNil)))))))))))
theorem len__law_names {K : PySem.W.Frag} : ∀ (vs : List V) (H : Hp) (Q : VK) (E : XK), sp__law_names K vs H Q E → vs.length = 2 := fun vs H Q E h => by
  obtain ⟨_, _, rfl, _⟩ := h
  rfl
theorem w_m1 {r : V → List V → Hp → VK → Prop} {to te : TE} {σ : L2.St} {H : Hp} {Q : VK} (h : to σ H fun x H1 => (∃ a, x = .str a) ∧ te σ H1 fun y H2 => r x [y] H2 Q) : tM1 r to te σ H Q := h
theorem w_join {c : Bool} {ta tb : TE} {σ : L2.St} {H : Hp} {Q : VK} (R : V → Hp → Prop) (h1 : ∀ Q' : VK, c = true → (∀ v H', R v H' → Q' v H') → ta σ H Q') (h2 : ∀ Q' : VK, c = false → (∀ v H', R v H' → Q' v H') → tb σ H Q') (hq : ∀ v H', R v H' → Q v H') : if c = true then ta σ H Q else tb σ H Q := by
  cases c with
  | true => exact iteT (h1 Q rfl hq)
  | false => exact iteF (h2 Q rfl hq)
theorem pure__law_names {K : PySem.W.Frag} (vs : List V) (H : Hp) (Q : VK) (E : XK) (h : sp__law_names K vs H Q E) : t__law_names K { nx := fun _ H' => Q .non H', rt := Q } (start ["state", "many", "signs", "style", "start", "step", "word", "k", "one", "two", "found", "first", "name"] vs) H := by
  obtain ⟨st, n, rfl, cs, ok, hn, q⟩ := h
  show t__law_names K _ [some (.ref st), some (.int (n : Nat)), none, none, none, none, none, none, none, none, none, none, none] H
  unfold t__law_names
  walk_at "aw"
  refine ⟨st, _, rfl, cs, ok, by omega, by omega, fun style H1 hs0 hs4 g1 => ?_⟩
  walk_at "aw"
  refine w_par ?_
  walk_at "aw"
  refine ⟨st, _, rfl, cs, g1.ok, by omega, by omega, fun sta H2 _ _ g2 => ?_⟩
  walk_at "aw"
  refine ⟨st, _, rfl, cs, g2.ok, by omega, by omega, fun ste H3 hst0 hst1 g3 => ?_⟩
  walk_at "aw"
  refine ⟨_, _, rfl, ?_⟩
  have g13 := (g1.trans g2).trans g3
  walk_at "aw"
  refine w_m1 ?_
  walk_at "aw"
  refine ⟨⟨_, rfl⟩, ?_⟩
  walk_at "aw"
  refine kLcR_all (n := 24) (by omega) g13.ok (fun _ v _ => ∃ x : Str, v = .str x ∧ okS x ∧ x.length = 1) (fun _ _ _ _ _ h => h) (fun k H4 Kt hk g4 kt => ?_) fun wl H4 ys nwl g4 ewl hyl hyr => ?_
  · walk_at "aw"
    refine ⟨rfl, ?_⟩
    walk_at "aw"
    refine ⟨st, _, rfl, cs, g4.ok, by omega, by omega, fun m H5 hm0 hm1 g5 => ?_⟩
    refine w_sign hm0 hm1 fun c hc => ?_
    exact kt _ _ g5 ⟨_, rfl, okS_one (SG_ok c (List.mem_of_getElem? hc)), rfl⟩
  obtain ⟨ws, rfl⟩ := strs_of (ys := ys) fun i v h => by
    obtain ⟨x, rfl, _⟩ := hyr i v h
    exact ⟨x, rfl⟩
  have hws : ∀ x ∈ ws, okS x ∧ x.length = 1 := fun x hx => by
    obtain ⟨i, hi, rfl⟩ := List.mem_iff_getElem.mp hx
    obtain ⟨y, e, h⟩ := hyr i (.str ws[i]) (by rw [List.getElem?_map, List.getElem?_eq_getElem hi]; rfl)
    rw [V.str.inj e]
    exact h
  rw [List.length_map] at hyl
  have g4' := g13.trans g4
  obtain ⟨hwok, hwl⟩ := join_ok ws hws
  rw [← TL.join_eq] at hwok hwl
  have hsum : ∀ l : List Str, (∀ x ∈ l, okS x ∧ x.length = 1) → (l.map (·.length)).sum = l.length := fun l => by
    induction l with
    | nil => exact fun _ => rfl
    | cons a l ih =>
      intro h
      rw [List.map_cons, List.sum_cons, ih fun x hx => h x (List.mem_cons_of_mem _ hx), (h a (List.mem_cons_self ..)).2, List.length_cons]
      omega
  refine ⟨Str.ofString "", wl, ws, rfl, rfl, .inl (SqL.of ewl), by rw [hsum ws hws, show (Str.ofString "").length = 0 from by decide +kernel]; omega, ?_⟩
  generalize Txt.join (Str.ofString "") ws = word at hwok hwl
  walk_at "aw"
  refine w_par ?_
  walk_at "aw"
  refine ⟨st, _, rfl, cs, g4'.ok, by omega, by omega, fun one H5 ho0 ho1 g5 => ?_⟩
  walk_at "aw"
  refine ⟨st, _, rfl, cs, g5.ok, by omega, by omega, fun two H6 ht0 ht1 g6 => ?_⟩
  walk_at "aw"
  refine ⟨_, _, rfl, ?_⟩
  walk_at "aw"
  have g46 := (g4'.trans g5).trans g6
  refine w_lstD (by simp) fun f H7 nf a7 e7 => ?_
  have g7 := g46.new a7
  have nf0 : H f = none := g46.free ok nf
  have nfst := (ok.ne nf0).1
  walk_at "aw"
  have hcut : ∀ lo hi, (cutS word lo hi).length ≤ 24 := fun lo hi => by
    have := cutS_length word lo hi
    omega
  have hcok : ∀ {lo hi : Option Int}, okS (cutS word lo hi) := fun {lo hi} => okS_cut hwok
  have hste : (0 : Int) < 1 + ste ∧ 1 + ste < 37 := by omega
  refine kForR_i (n := n) (by omega) (fun i σ H' => ∃ y7 y11 y12 nms, σ = [some (.ref st), some (.int (n : Nat)), some (.str SG), some (.int style), some (.int sta), some (.int (1 + ste)), some (.str word), y7, some (.int one), some (.int (12 + two)), some (.ref f), y11, y12] ∧ Go st cs H H' ∧ H' f = some (.lst ((nms : List Str).map V.str)) ∧ nms.length = i ∧
      ∀ (j : Nat) nm, nms[j]? = some nm → PN style sta (1 + ste) (if style = 0 then [] else (cutS word none (some one)).cps.toList) (cutS word none (some (1 + one / 4))).cps.toList j nm)
    ⟨none, none, none, [], rfl, g7, e7, rfl, fun j nm h => nomatch h⟩ (fun i σ H' hi pp => ?_) fun σ H' pp => ?_
  · obtain ⟨y7, y11, y12, nms, rfl, g, ef, hnl, hpn⟩ := pp
    have hi37 : i < 37 := by omega
    have h1 := hcut none (some one)
    have h2 := hcut (some (one + 1)) (some (12 + two))
    have h3 := hcut (some (12 + two + 1)) none
    have h4 := hcut none (some (1 + one / 4))
    have hdot : (Str.ofString ".").length = 1 := by decide +kernel
    have hdok : okS (Str.ofString ".") := by unfold okS; decide +kernel
    have hsk := SK_len i hi37
    have hskok := SK_ok i hi37
    unfold SK at hsk hskok
    have fin : ∀ {c1 : V} {nm : Str}, PN style sta (1 + ste) (if style = 0 then [] else (cutS word none (some one)).cps.toList) (cutS word none (some (1 + one / 4))).cps.toList i nm →
        ∃ y7 y11 y12 nmz, ([some (.ref st), some (.int (n : Nat)), some (.str SG), some (.int style), some (.int sta), some (.int (1 + ste)), some (.str word), some (.int (i : Nat)), some (.int one), some (.int (12 + two)), some (.ref f), some c1, some (.str nm)] : L2.St) = [some (.ref st), some (.int (n : Nat)), some (.str SG), some (.int style), some (.int sta), some (.int (1 + ste)), some (.str word), y7, some (.int one), some (.int (12 + two)), some (.ref f), y11, y12] ∧
          Go st cs H (upd H' f (.lst (List.map V.str nms ++ [V.str nm]))) ∧ (upd H' f (.lst (List.map V.str nms ++ [V.str nm]))) f = some (.lst ((nmz : List Str).map V.str)) ∧ nmz.length = i + 1 ∧
          ∀ (j : Nat) nm, nmz[j]? = some nm → PN style sta (1 + ste) (if style = 0 then [] else (cutS word none (some one)).cps.toList) (cutS word none (some (1 + one / 4))).cps.toList j nm := fun {c1 nm} hp =>
      ⟨_, _, _, nms ++ [nm], rfl, g.mutL ok nf0 ef, by rw [upd_same, List.map_append]; rfl, by rw [List.length_append, hnl]; rfl, fun j x hx => by
        by_cases hj : j < nms.length
        · rw [List.getElem?_append_left hj] at hx
          exact hpn j x hx
        · rw [List.getElem?_append_right (by omega)] at hx
          have hj0 : j - nms.length = 0 := by
            have := (List.getElem?_eq_some_iff.mp hx).1
            simp at this
            omega
          rw [hj0] at hx
          cases hx
          rw [show j = i by omega]
          exact hp⟩
    walk_at "aw"
    refine w_I (.inl ⟨by omega, by omega⟩) ?_
    walk_at "aw"
    refine w_sign (Int.emod_nonneg _ (by decide)) (Int.emod_lt_of_pos _ (by decide)) fun c hc => ?_
    have hcok1 := okS_one (SG_ok c (List.mem_of_getElem? hc))
    walk_at "aw"
    refine w_slS (by omega) ?_
    walk_at "aw"
    refine w_addS (by rw [len_one]; omega) ?_
    walk_at "aw"
    refine w_slS (by omega) ?_
    refine w_addS (by simp only [len_app, len_one]; omega) ?_
    walk_at "aw"
    refine w_I ⟨by decide, by decide⟩ ?_
    refine w_sign (by omega) (by omega) fun c2 hc2 => ?_
    have hcok2 := okS_one (SG_ok c2 (List.mem_of_getElem? hc2))
    refine w_addS (by simp only [len_app, len_one]; omega) ?_
    walk_at "aw"
    refine w_slS (by omega) ?_
    refine w_addS (by simp only [len_app, len_one]; omega) ?_
    walk_at "aw"
    refine w_iteB (fun hs => ?_) fun hs => ?_
    · have hs := V.int.inj hs
      walk_at "aw"
      refine w_I ⟨by decide, by decide⟩ ?_
      refine w_sign (by omega) (by omega) fun c3 hc3 => ?_
      walk_at "aw"
      rw [decide_eq_false (show ¬ ((37 : Int) < (n : Nat)) by omega)]
      refine ⟨_, _, rfl, rfl, ⟨by decide, fun h => absurd (by decide) h, fun h => absurd (by decide) h⟩, ?_⟩
      rw [show Txt.mul (⟨#[c3]⟩ : Str) (if false = true then 1 else 0) = Str.empty from rfl]
      refine w_addS (by rw [len_one]; exact Nat.le_trans (show 1 + 0 ≤ 100000 by omega) (Nat.le_refl _)) ?_
      walk_at "aw"
      refine w_app rfl ef ?_
      walk_at "aw"
      refine w_append ef (by rw [List.length_map]; omega) ?_
      refine fin ⟨okS_app hcok1 (by unfold okS; decide +kernel), fun _ => ⟨c, [], hc, ?_⟩, fun h => by omega⟩
      rw [if_pos hs, lst_app, lst_one]
      rfl
    · have hs0 : style ≠ 0 := fun z => hs (by rw [z])
      walk_at "aw"
      refine w_iteB (fun hs => ?_) fun hs => ?_
      · have hs := V.int.inj hs
        walk_at "aw"
        refine w_slS (by omega) ?_
        walk_at "aw"
        refine w_addS (by rw [len_one]; omega) ?_
        walk_at "aw"
        refine w_str (by omega) ?_
        refine w_addS (by simp only [len_app, len_one]; omega) ?_
        walk_at "aw"
        refine w_app rfl ef ?_
        walk_at "aw"
        refine w_append ef (by rw [List.length_map]; omega) ?_
        refine fin ⟨okS_app (okS_app hcok hcok1) hskok.1, fun _ => ⟨c, (Str.ofString (toString ((i : Nat) : Int))).cps.toList, hc, ?_⟩, fun h => by omega⟩
        rw [if_neg hs0]
        simp only [lst_app, lst_one, List.append_assoc, List.singleton_append]
      · have hs1 : style ≠ 1 := fun z => hs (by rw [z])
        walk_at "aw"
        refine w_iteB (fun hs => ?_) fun hs => ?_
        · have hs := V.int.inj hs
          walk_at "aw"
          refine w_I ⟨by decide, by decide⟩ ?_
          walk_at "aw"
          refine w_slS (by omega) ?_
          walk_at "aw"
          refine w_addS (by omega) ?_
          walk_at "aw"
          refine w_I ⟨by decide, by decide⟩ ?_
          walk_at "aw"
          refine w_str (by omega) ?_
          refine w_addS (by simp only [len_app]; omega) ?_
          walk_at "aw"
          refine w_addS (by simp only [len_app]; omega) ?_
          walk_at "aw"
          refine w_str (by omega) ?_
          refine w_addS (by simp only [len_app]; omega) ?_
          walk_at "aw"
          refine w_app rfl ef ?_
          walk_at "aw"
          refine w_append ef (by rw [List.length_map]; omega) ?_
          refine fin ⟨okS_app (okS_app (okS_app (okS_app hcok hdok) hskok.2.1) hdok) hskok.2.2, fun h => absurd hs h, fun _ => ?_⟩
          unfold tail2 SK
          simp only [lst_app, List.append_assoc]
        · have hs2 : style ≠ 2 := fun z => hs (by rw [z])
          walk_at "aw"
          refine w_app rfl ef ?_
          walk_at "aw"
          refine w_append ef (by rw [List.length_map]; omega) ?_
          refine fin ⟨okS_app (okS_app (okS_app (okS_app hcok hcok1) hcok) hcok2) hcok, fun _ => ⟨c, (cutS word (some (one + 1)) (some (12 + two))).cps.toList ++ (c2 :: (cutS word (some (12 + two + 1)) none).cps.toList), hc, ?_⟩, fun h => absurd h hs2⟩
          rw [if_neg hs0]
          simp only [lst_app, lst_one, List.append_assoc, List.singleton_append, List.cons_append, List.nil_append]
  · obtain ⟨y7, y11, y12, nms, rfl, g, ef, hnl, hpn⟩ := pp
    have hnd : nms.Nodup := by
      rw [List.Nodup, List.pairwise_iff_getElem]
      intro i j hi hj hij e
      have h1 := hpn i _ (List.getElem?_eq_getElem hi)
      have h2 := hpn j _ (List.getElem?_eq_getElem hj)
      rw [e] at h1
      have := PN.inj hste (by omega) (by omega) h1 h2
      omega
    walk_at "aw"
    refine ⟨st, f, rfl, cs, _, g.ok, SqL.of ef, nfst, by rw [List.length_map]; omega, fun r ys2 H8 hperm nr g8 er => ?_⟩
    obtain ⟨ls, hls, hys⟩ := (IsAll.strs (H := H) nms).shuf hperm.symm
    have e2 := hys.strs_inv
    subst e2
    exact q r ls H8 (g.trans g8) (g.free ok nr) er (by rw [hls.length_eq, hnl]) (hls.nodup_iff.mpr hnd) fun x hx => by
      obtain ⟨j, hj, rfl⟩ := List.mem_iff_getElem.mp (hls.mem_iff.mp hx)
      exact (hpn j _ (List.getElem?_eq_getElem hj)).ok
end AW
/-! sorted(d) of a dict whose keys are tuples of ints -/
namespace AW
open PySem PySem.Spec PyProof.Rows L2 RZ PySem.W
/-- what a key's object stands for -/
def RowIs (H : Hp) (p : Addr × List Int) : Prop := H p.1 = some (.tup (p.2.map V.int)) ∧ p.2 ≠ []
theorem rows_reads {h : Heap} : ∀ {us : List Value} {ns : List Int}, Vals (ns.map V.int) us → ReadsAll h us (ns.map .int) []
  | _, [], r => by
    cases r
    exact .nil
  | _, n :: ns, r => by
    cases r with
    | cons h1 h2 =>
      obtain ⟨t, rfl⟩ := h1
      exact .cons (as := []) (bs := []) (.int n t) (rows_reads h2)
def encR (p : Addr × List Int) : PyData := .tuple (p.2.map .int)
theorem row_reads {P : Program} {w : World} {H : Hp} {h : Heap} (ok : HOk P w H h) {p : Addr × List Int} (r : RowIs H p) : Reads h (.ref p.1) (encR p) [] := by
  obtain ⟨_, its, rv, o, ho, hc, n, hd⟩ := ok _ _ r.1
  exact .tuple ho hc hd (rows_reads rv)
theorem each_refs {R : Value → (Addr × List Int) → Prop} : ∀ {bs : List (Addr × List Int)}, (∀ b ∈ bs, R (.ref b.1) b) → EachIs R (bs.map fun b => Value.ref b.1) bs
  | [], _ => .nil
  | b :: bs, h => .cons (h b (List.mem_cons_self ..)) (each_refs fun x hx => h x (List.mem_cons_of_mem _ hx))
theorem refs_each : ∀ {out : List Value} {bs : List (Addr × List Int)}, EachIs (fun v b => v = Value.ref b.1) out bs → out = (bs.map (·.1)).map Value.ref
  | _, _, .nil => rfl
  | _, _, .cons h t => by rw [h, refs_each t]; rfl
theorem rowsKey : ∀ {kvs : List (List L2.Key × V)} {bs : List Addr} {H : Hp}, IsKeys H kvs bs → (∀ p ∈ kvs, ∃ ns : List Int, ns ≠ [] ∧ p.1 = ns.map Sum.inl) → ∃ ps : List (Addr × List Int), ps.map (·.1) = bs ∧ (∀ p ∈ ps, RowIs H p) ∧ kvs.map (·.1) = ps.map fun p => p.2.map Sum.inl
  | _, _, H, .nil, _ => ⟨[], rfl, fun p h => (List.not_mem_nil h).elim, rfl⟩
  | kv :: kvs, b :: bs, H, .cons h t, g => by
    obtain ⟨ps, h1, h2, h3⟩ := rowsKey t fun p hp => g p (List.mem_cons_of_mem _ hp)
    obtain ⟨ns, n0, e⟩ := g kv (List.mem_cons_self ..)
    refine ⟨(b, ns) :: ps, by rw [← h1]; rfl, fun p hp => ?_, by rw [List.map_cons, List.map_cons, h3, e]⟩
    rcases List.mem_cons.mp hp with z | z
    · rw [z]
      refine ⟨?_, n0⟩
      have h' : H b = some (.tup (kv.1.map kV)) := h
      rw [e, List.map_map] at h'
      exact h'
    · exact h2 p z
def rSortDT : List V → Hp → VK → Prop := fun xs H Q => ∃ (d : Addr) (kvs : List (List L2.Key × V)), xs = [V.ref d] ∧ Rd H d (.dT kvs) ∧ (∀ p ∈ kvs, ∃ ns : List Int, ns ≠ [] ∧ p.1 = ns.map Sum.inl) ∧ kvs.length ≤ 100000 ∧
  ∀ (p : Addr) (ps : List (Addr × List Int)), H p = none → (∀ q ∈ ps, RowIs H q) → (ps.map fun q => q.2.map Sum.inl).Perm (kvs.map (·.1)) → Q (.ref p) (upd H p (.lst (ps.map fun q => V.ref q.1)))
theorem call_sortedDT {X : Cx} (hc : X.calm = true) (hu : X.A.units + 64 < cLine) : CallR X (.builtin "sorted") rSortDT := by
  intro pins s σ H xs us Q I r h
  obtain ⟨d, kvs, rfl, hd, hkey, hlen, q⟩ := h
  obtain ⟨u, rfl, rx⟩ := r.one
  cases rx
  obtain ⟨z, hs, ks, pr, o, es, ep, ho, hx, hdt, he, hn⟩ := (show ObjOk X.prog X.w H s.heap d (.dT kvs) from hd.ok I.hok)
  have l1 : es.size = ks.length := size_of_entries he
  have l2 : kvs.length = ks.length := Paired.length pr
  have h16 : es.size ≤ sizeLine := by rw [l1, ← l2, sizeLine_eq]; omega
  obtain ⟨ps, e1, e2, e3⟩ := rowsKey (isKeys_of pr) hkey
  refine Calls.call_function_entry PyProof.Rows.kind_sorted PyProof.Rows.plain_sorted PyProof.Rows.entry_sorted (PyProof.Rows.args_sorted1 _) ?_
  unfold Builtin.«sorted»
  refine wpAny_bind (m := checkCount "sorted" 1 1 _) (wpAny_pure ?_)
  refine wpAny_bind (PySem.W.kdu_collect (A := X.A.in1) (kdl_raw hs hx hdt) (I.ok.hd hc) ho h16 fun h' tk acc' hk it => ?_)
  have ea : acc'.toList = ks.map fun x => Value.ref x.2.1 := by
    have hl : acc'.toList.length = ks.length := by rw [Array.length_toList, it.1]; exact l1
    apply List.ext_getElem?
    intro j
    rw [List.getElem?_map]
    cases hj : acc'.toList[j]? with
    | none =>
      have h1 := List.getElem?_eq_none_iff.mp hj
      rw [List.getElem?_eq_none (by omega)]
      all_goals rfl
    | some v =>
      obtain ⟨en, hen, hv⟩ := it.2 j v (by rw [← Array.getElem?_toList]; exact hj)
      have qe := entry_at he j
      rw [hen] at qe
      cases hb : ks[j]? with
      | none =>
        rw [hb] at qe
        exact nomatch (show some en = none from qe)
      | some b =>
        rw [hb] at qe
        have e2 : en = entryOfKey (tupleKind (mixKind X.prog X.w)) b := Option.some.inj qe
        rw [hv, e2]
        all_goals rfl
  have eb : acc'.toList = ps.map fun b => Value.ref b.1 := by
    rw [ea]
    have : ks.map (fun x => Value.ref x.2.1) = (ks.map fun x => x.2.1).map Value.ref := by rw [List.map_map]; rfl
    rw [this, ← e1, List.map_map]
    rfl
  have hal : acc'.toList.length = ps.length := by rw [eb, List.length_map]
  have hpl : ps.length = kvs.length := by
    have := congrArg List.length e3
    rw [List.length_map, List.length_map] at this
    omega
  have hz : ps.length ≤ sizeLine := by rw [sizeLine_eq]; omega
  have I1 : Inv X pins σ H { s with heap := h', toks := tk } := I.kept hk
  refine wpAny_bind (wpAny_newList ?_ (by rw [hal]; exact hz))
  have hoL : (h'.push (seqObj "list" acc'.toList.toArray 0)).get? h'.objs.size = some (seqObj "list" acc'.toList.toArray 0) := Heap.get?_push_size _ rfl
  show wpAny _ _ _ _ _ { s with heap := h'.push (seqObj "list" acc'.toList.toArray 0), toks := tk }
  have hrd : ∀ b ∈ ps, Reads (h'.push (seqObj "list" acc'.toList.toArray 0)) (.ref b.1) (encR b) [] := fun b hb => PyProof.Rows.Reads.keeps (fun _ _ e => Heap.get?_push_of_some _ e) (row_reads I1.hok (e2 b hb))
  have eo : EachIs (fun v (b : Addr × List Int) => v = Value.ref b.1) acc'.toList ps := by rw [eb]; exact each_refs fun _ _ => rfl
  have er : EachIs (fun v (b : Addr × List Int) => ∃ as, Reads (h'.push (seqObj "list" acc'.toList.toArray 0)) v (encR b) as ∧ h'.objs.size ∉ as) acc'.toList ps := by
    have q := each_refs (R := fun v (b : Addr × List Int) => ∃ as, Reads (h'.push (seqObj "list" acc'.toList.toArray 0)) v (encR b) as ∧ h'.objs.size ∉ as) (bs := ps) fun b hb => ⟨[], hrd b hb, List.not_mem_nil⟩
    rw [← eb] at q
    exact q
  refine wpAny_bind (wpAny_holding (list_sort_data (s := { s with heap := h'.push (seqObj "list" acc'.toList.toArray 0), toks := tk }) (enc := encR) hoL eo er (AllAlike.of fun b b' => ?_) (.inl fun d hd => ?_) hz (fun b _ => ?_) fun out hol hout => ?_))
  · show alike (.tuple (b.2.map .int)) (.tuple (b'.2.map .int)) = true
    rw [alike]
    exact alike_ints _ _
  · obtain ⟨b, hb, rfl⟩ := List.mem_map.mp hd
    cases hb2 : b.2 with
    | nil => exact absurd hb2 (e2 b hb).2
    | cons x r => exact ⟨.int x, r.map .int, by unfold encR; rw [hb2]; rfl⟩
  · show X.A.units + 1 + 1 + (PyData.tuple (b.2.map .int)).depth < cLine
    rw [PyData.depth, depth_ints]
    omega
  · have eout := refs_each hout
    have hperm := List.mergeSort_perm ps (dataLe false encR)
    generalize ps.mergeSort (dataLe false encR) = qs at eout hperm hout
    obtain ⟨e', he'⟩ := PyProof.Rows.sortedHeap_at (vs := acc'.toList) (out := out.toArray) hoL
    have hlen' : (qs.map fun q => V.ref q.1).length ≤ sizeLine := by rw [List.length_map, hperm.length_eq]; exact hz
    have rv : Vals (qs.map fun q => V.ref q.1) out := by
      rw [eout, show (qs.map fun q => V.ref q.1) = (qs.map (·.1)).map V.ref by rw [List.map_map]; rfl]
      exact vals_refs _
    refine wpAny_pure ⟨_, rfl, .ref h'.objs.size, upd H h'.objs.size (.lst (qs.map fun q => V.ref q.1)), I1.laid (t' := tk) (fun b u e => ?_) (Nat.le_refl _)
      (show ObjOk X.prog X.w _ _ _ (.lst (qs.map fun q => V.ref q.1)) from ⟨hlen', out, e', rv, he'⟩), rfl, q _ qs (I1.hok.fresh (Nat.le_refl _)) (fun p hp => e2 p (hperm.mem_iff.mp hp)) ?_⟩
    · have hb : b < h'.objs.size := Heap.lt_size e
      rw [PyProof.Rows.sortedHeap_old (Nat.ne_of_lt hb) (by rw [size_push']; exact Nat.lt_succ_of_lt hb)]
      exact Heap.get?_push_of_some _ e
    · rw [e3]
      exact hperm.map _
end AW
namespace AW
open PySem PySem.Spec PyProof.Rows L2 RZ
local macro_rules | `(tactic| walk_at "aw1") => `(tactic| first
  | (with_reducible refine w_seq ?_) | (with_reducible refine w_asg ?_) | (with_reducible refine w_gname ?_) | (with_reducible refine w_op ?_) | (with_reducible refine w_un ?_)
  | ((with_reducible refine' w_var ?h ?_); (case h => rfl)) | (with_reducible refine w_c ?_)
  | (with_reducible refine w_I0 ?_) | (with_reducible refine w_U ?_) | (with_reducible refine w_cb ?_) | (with_reducible refine w_nil ?_) | (with_reducible refine w_cons ?_) | (with_reducible refine w_call ?_)
  | (with_reducible refine w_test ?_) | (with_reducible refine w_B ?_) | (with_reducible refine w_bl ?_) | (with_reducible refine w_not ?_) | (with_reducible refine w_yes ?_) | (with_reducible refine iteT ?_) | (with_reducible refine iteF ?_) | (with_reducible refine w_and ?_) | (with_reducible refine w_or ?_)
  | (with_reducible refine w_andV ?_) | (with_reducible refine w_orV ?_) | (with_reducible refine w_notV ?_) | (with_reducible refine w_if ?_)
  | (with_reducible refine w_int1 ?_) | (with_reducible refine w_int1b ?_) | (with_reducible refine w_abs ?_) | (with_reducible refine w_max2 ?_) | (with_reducible refine w_min2 ?_)
  | ((with_reducible refine w_eq ?h ?_); (case h => rfl)) | ((with_reducible refine w_ne ?h ?_); (case h => rfl)) | (with_reducible refine w_isN ?_) | (with_reducible refine w_isB ?_) | (with_reducible refine w_chain ?_)
  | (with_reducible refine w_ret ?_) | (with_reducible refine w_drop ?_) | (with_reducible refine w_ifS ?_) | (with_reducible refine w_gsub ?_) | (with_reducible refine w_augS ?_) | (with_reducible refine w_ipI ?_) | (with_reducible refine w_next ?_)
  | (with_reducible refine w_forR ?_) | (with_reducible refine w_forR2 ?_) | (with_reducible refine w_forL ?_) | (with_reducible refine w_forT ?_) | (with_reducible refine w_lcR ?_) | (with_reducible refine w_lcL ?_) | (with_reducible refine w_lcT ?_) | (with_reducible refine w_sl ?_) | (with_reducible refine w_part ?_) | (with_reducible refine w_noPart ?_) | (with_reducible refine w_in ?_)
  | (with_reducible refine w_gcons ?_) | (with_reducible refine w_gnil ?_) | (with_reducible refine w_lc3 ?_) | (with_reducible refine w_dcZ ?_) | (with_reducible refine w_dcT ?_) | (with_reducible refine w_dg ?_) | (with_reducible refine w_callK ?_) | (with_reducible refine w_dput ?_) | (with_reducible refine w_tup1 ?_)
  | (with_reducible refine w_tup ?_) | (with_reducible refine w_lst ?_)
  | ((with_reducible refine w_I ?h ?_); (case h => first | (exact Or.inr ⟨by decide, by decide⟩) | (exact Or.inl ⟨by decide, by decide⟩) | (show (0 : Int) < _; decide) | (exact ⟨by decide, by decide, by decide⟩) | assumption)))
local macro_rules | `(tactic| walk_at "aw") => `(tactic| repeat (walk_at "aw1"))
theorem w_ifJ {c : TT} {A B : TS} {D : Ends} {σ : L2.St} {H : Hp} (R : L2.St → Hp → Prop) (h1 : ∀ D' : Ends, (∀ σ' H', R σ' H' → D'.nx σ' H') → tIfS c A B D' σ H) (h2 : ∀ σ' H', R σ' H' → D.nx σ' H') : tIfS c A B D σ H := h1 D h2
theorem w_dnewT {σ : L2.St} {H : Hp} {Q : VK} (q : ∀ r H', H r = none → Adv [] H H' → H' r = some (.dT []) → Q (.ref r) H') : tDNewT σ H Q := w_new q
theorem kDPutT_i {d b : Addr} {kvs : List (List L2.Key × V)} {k : List L2.Key} {v : V} {H : Hp} {N : Hp → Prop} (h : H d = some (.dT kvs)) (hb : H b = some (.tup (k.map kV))) (hl : kvs.length < 100000) (q : N (upd H d (.dT (putK kvs k v)))) : kDPut (.ref d) (.ref b) v H N :=
  ⟨d, _, rfl, DPut.t h hb (Nat.lt_of_lt_of_le hl (by decide)), q⟩
theorem Go.mutT {st cs f : Addr} {H H' : Hp} {o : HO} {xs : List (List L2.Key × V)} (a : Go st cs H H') (hs : StOk st cs H) (h : H f = none) (e : H' f = some (.dT xs)) : Go st cs H (upd H' f o) :=
  a.mut h e (fun _ z => by cases z) (hs.ne h).1 (hs.ne h).2
def kvM (m : Int × Int × Int) : List L2.Key × V := (mvKey m, .int m.2.2)
def kOf (a b : Int) : List L2.Key := [Sum.inl a, Sum.inl b]
theorem kOf_eq {a b : Int} {m : Int × Int × Int} : mvKey m = kOf a b ↔ (m.1, m.2.1) = (a, b) := by
  unfold mvKey kOf
  simp
theorem kvM_val (mv : List (Int × Int × Int)) (a b : Int) : (valV (mv.map kvM) (kOf a b) = none → (a, b) ∉ mv.map fun m => (m.1, m.2.1)) ∧ ((a, b) ∈ (mv.map fun m => (m.1, m.2.1)) → ∃ c, valV (mv.map kvM) (kOf a b) = some (.int c)) := by
  have h : ∀ v, valV (mv.map kvM) (kOf a b) = some v → ∃ c, v = .int c := fun v h => by
    unfold valV at h
    obtain ⟨p, h1, rfl⟩ := Option.map_eq_some_iff.mp h
    obtain ⟨m, _, rfl⟩ := List.mem_map.mp (List.mem_of_find?_eq_some h1)
    exact ⟨_, rfl⟩
  have key : (a, b) ∈ (mv.map fun m => (m.1, m.2.1)) → valV (mv.map kvM) (kOf a b) ≠ none := fun hm e => by
    obtain ⟨m, h1, h2⟩ := List.mem_map.mp hm
    unfold valV at e
    rw [Option.map_eq_none_iff, List.find?_eq_none] at e
    have := e (kvM m) (List.mem_map_of_mem h1)
    exact this (decide_eq_true (kOf_eq.mpr h2))
  refine ⟨fun e hm => key hm e, fun hm => ?_⟩
  cases hv : valV (mv.map kvM) (kOf a b) with
  | none => exact absurd hv (key hm)
  | some v =>
    obtain ⟨c, rfl⟩ := h v hv
    exact ⟨c, rfl⟩
theorem kvM_mem {mv : List (Int × Int × Int)} {a b : Int} {v : V} (h : valV (mv.map kvM) (kOf a b) = some v) : (a, b) ∈ mv.map fun m => (m.1, m.2.1) := by
  unfold valV at h
  obtain ⟨p0, h1, _⟩ := Option.map_eq_some_iff.mp h
  obtain ⟨m, h2, rfl⟩ := List.mem_map.mp (List.mem_of_find?_eq_some h1)
  have h3 : decide ((kvM m).1 = kOf a b) = true := List.find?_some (p := fun kv : List L2.Key × V => decide (kv.1 = kOf a b)) h1
  exact List.mem_map.mpr ⟨m, h2, kOf_eq.mp (of_decide_eq_true h3)⟩
theorem kvM_put {mv : List (Int × Int × Int)} {a b c : Int} (h : valV (mv.map kvM) (kOf a b) = none) : putK (mv.map kvM) (kOf a b) (.int c) = (mv ++ [(a, b, c)]).map kvM := by
  rw [putK_new _ h, List.map_append]
  rfl
theorem kvM_nodup {mv : List (Int × Int × Int)} {a b c : Int} (hn : (mv.map fun m => (m.1, m.2.1)).Nodup) (h : valV (mv.map kvM) (kOf a b) = none) : ((mv ++ [(a, b, c)]).map fun m => (m.1, m.2.1)).Nodup := by
  rw [List.map_append, List.nodup_append]
  refine ⟨hn, by simp, fun x hx y hy e => ?_⟩
  simp at hy
  subst hy
  exact (kvM_val mv a b).1 h (e ▸ hx)
/-- the sorted keys, each with what it leads to -/
theorem moves_of {mv : List (Int × Int × Int)} {H : Hp} : ∀ {ps : List (Addr × List Int)} {ys : List V}, ys.length = ps.length → (∀ (i : Nat) q v, ps[i]? = some q → ys[i]? = some v → ∃ a b c, q.2 = [a, b] ∧ Is H (ctD (a, b, c)) v) → ∃ ms : List (Int × Int × Int), IsAll H (ms.map ctD) ys ∧ ms.map (fun m => [m.1, m.2.1]) = ps.map (·.2)
  | [], [], _, _ => ⟨[], .nil, rfl⟩
  | q :: ps, y :: ys, hl, h => by
    obtain ⟨a, b, c, h1, h2⟩ := h 0 q y rfl rfl
    obtain ⟨ms, h3, h4⟩ := moves_of (mv := mv) (ps := ps) (ys := ys) (Nat.succ.inj hl) fun i q v e1 e2 => h (i + 1) q v (by simpa using e1) (by simpa using e2)
    exact ⟨(a, b, c) :: ms, .cons h2 h3, by rw [List.map_cons, List.map_cons, h4, h1]⟩
  | [], _ :: _, hl, _ => by simp at hl
  | _ :: _, [], hl, _ => by simp at hl
theorem ints_in : ∀ {ys : List V}, (∀ (i : Nat) v, ys[i]? = some v → ∃ z : Int, v = .int z) → ∃ zs : List Int, ys = zs.map V.int := fun h => ints_of h
theorem keys_nodup (mv : List (Int × Int × Int)) : (mv.map mvKey).Nodup ↔ (mv.map fun m => (m.1, m.2.1)).Nodup := by
  unfold List.Nodup
  rw [List.pairwise_map, List.pairwise_map]
  have e : ∀ a b : Int × Int × Int, (mvKey a ≠ mvKey b) ↔ ((a.1, a.2.1) ≠ (b.1, b.2.1)) := fun a b => not_congr (kOf_eq (a := b.1) (b := b.2.1) (m := a))
  constructor
  · exact fun h => h.imp fun {a b} z => (e a b).mp z
  · exact fun h => h.imp fun {a b} z => (e a b).mpr z
def InS' (names : List Str) (s : Say) : Prop := s.ok ∧ ∀ x ∈ s.names, x ∈ names
def sp__law_machine (_ : PySem.W.Frag) : Sp := fun vs H Q _ => ∃ (st q d : Addr), vs = [.ref st, .ref q, .ref d] ∧ ∃ (cs : Addr) (doms : List (Str × List Int)) (w : Str → Int), StOk st cs H ∧ q ≠ st ∧ LsAt H q (doms.map domD) ∧ WD H d (doms.map (·.1)) w ∧ 0 < doms.length ∧ doms.length ≤ 100 ∧ (∀ q ∈ doms, 0 < q.2.length ∧ q.2.length ≤ 100) ∧
  ∀ v (s : Say) H', Go st cs H H' → Is H' (sayD s) v → s.ok → (∀ x ∈ s.names, x ∈ doms.map (·.1)) → Q v H'
theorem kLcL_pure6 {K : PySem.W.Frag} {g : TG} {te : TE} {vs : List Nat} {σ : L2.St} {Q : VK} {H1 : Hp} {a : Addr} {xs : List V} (ha : H1 a = some (.lst xs)) (v : Nat → V) (hn : xs.length ≤ 100000)
    (step : ∀ i x H (Kt : V → Hp → Prop), xs[i]? = some x → Adv [] H1 H → (∀ H4, Adv [] H H4 → Kt (v i) H4) → g x (wipe σ vs) H fun σ2 H2 => wipe σ2 vs = wipe σ vs ∧ te σ2 H2 Kt)
    (k : ∀ p H', H1 p = none → Adv [] H1 H' → H' p = some (.lst ((List.range xs.length).map v)) → Q (.ref p) H') : kLcL K g tYes te vs σ Q (.ref a) H1 := by
  refine ⟨a, rfl, ⟨_, SqL.of ha⟩, ?_⟩
  refine kLc_pure (walk_list (xs := xs)) hn (fun H' g => SqL.of (g.keep _ _ (fun z => nomatch z) ha)) (fun _ => true) v (fun i x H2 H3 Kt Kf hi g2 y kt kf => ?_) fun p H' np a1 e => ?_
  · obtain ⟨rfl, y1⟩ := y
    exact step i x _ Kt y1 g2 (kt rfl)
  · rw [filter_true] at e
    exact k p H' np a1 e
def t__law_machine (K : PySem.W.Frag) : TS := (tSeq (tAsg (tLc (iList K (tSl (rSlL K) (tCall (sp__law_shuffled K) [] E0 (tCons (tVar 0) (tCons (tVar 1) tNil))) tNoPart (tPart (tCall (sp__law_pick K) [] E0 (tCons (tVar 0) (tCons (tLst (tCons (tOp rAddI (tC (.int 1)) (tCall (sp__law_take K) [] E0 (tCons (tVar 0) (tCons (tC (.int 12)) tNil)))) (tCons (tOp rAddI (tC (.int 1)) (tCall (sp__law_take K) [] E0 (tCons (tVar 0) (tCons (tC (.int 4)) tNil)))) (tCons (tC (.int 12)) tNil)))) tNil)))))) (gName 4) tYes (tOp (rIxT K) (tVar 4) (tC (.int 0))) [4]) (gName 3))
  (tSeq (tAsg (tOp rAddI (tC (.int 1)) (tCall (sp__law_take K) [] E0 (tCons (tVar 0) (tCons (tC (.int 12)) tNil)))) (gName 5))
  (tSeq (tAsg (tCall (sp__law_take K) [] E0 (tCons (tVar 0) (tCons (tVar 5) tNil))) (gName 6))
  (tSeq (tAsg tDNewT (gName 7))
  (tSeq (tAsg (tVar 6) (gName 8))
  (tSeq (tFor (iList K (tSl (rSlL K) (tVar 3) tNoPart (tPart (tOp rSubI (tCB (rLen1 K) (tCons (tVar 3) tNil)) (tCB rInt1 (tCons (tOp rEq (tCall (sp__law_take K) [] E0 (tCons (tVar 0) (tCons (tC (.int 4)) tNil))) (tC (.int 0))) tNil)))))) (gName 9)
  (tSeq (tIfS (tB (tDNotIn (tTup (tCons (tVar 8) (tCons (tDGet (tVar 2) (tVar 9)) tNil))) (tVar 7))) (sDPut (tVar 7) (tTup (tCons (tVar 8) (tCons (tDGet (tVar 2) (tVar 9)) tNil))) (tCall (sp__law_take K) [] E0 (tCons (tVar 0) (tCons (tVar 5) tNil)))) tNext)
  (tAsg (tDGet (tVar 7) (tTup (tCons (tVar 8) (tCons (tDGet (tVar 2) (tVar 9)) tNil)))) (gName 8))))
  (tSeq (tAsg (tOp rCat (tOp rCat (tLc (iList K (tVar 3)) (gName 9) tYes (tDGet (tVar 2) (tVar 9)) [9]) (tLc (iRng1 (tCons (tC (.int 4)) tNil)) (gName 11) tYes (tCall (sp__law_pick K) [] E0 (tCons (tVar 0) (tCons (tOp (rIxT K) (tCall (sp__law_pick K) [] E0 (tCons (tVar 0) (tCons (tVar 1) tNil))) (tC (.int 1))) tNil))) [11])) (tLst (tCons (tOp rSubI (tCall (sp__law_take K) [] E0 (tCons (tVar 0) (tCons (tC (.int 401)) tNil))) (tC (.int 200))) tNil))) (gName 10))
  (tSeq (tFor (iRng1 (tCons (tCall (sp__law_pick K) [] E0 (tCons (tVar 0) (tCons (tLst (tCons (tC (.int 0)) (tCons (tCall (sp__law_take K) [] E0 (tCons (tVar 0) (tCons (tC (.int 6)) tNil))) (tCons (tCall (sp__law_take K) [] E0 (tCons (tVar 0) (tCons (tC (.int 41)) tNil))) (tCons (tC (.int 40)) tNil))))) tNil))) tNil)) (gName 11)
  (tSeq (tAsg (tTup (tCons (tCall (sp__law_take K) [] E0 (tCons (tVar 0) (tCons (tVar 5) tNil))) (tCons (tCall (sp__law_pick K) [] E0 (tCons (tVar 0) (tCons (tVar 10) tNil))) tNil))) (gName 12))
  (tIfS (tAnd (tB (tDNotIn (tVar 12) (tVar 7))) (tTest (tOp rLtI (tCB rLenT (tCons (tVar 7) tNil)) (tC (.int 40))))) (sDPut (tVar 7) (tVar 12) (tCall (sp__law_take K) [] E0 (tCons (tVar 0) (tCons (tC (.int 12)) tNil)))) tNext)))
  (tSeq (tAsg (tLc (iRng1 (tCons (tC (.int 12)) tNil)) (gName 14) (tOr (tTest (tOp rEq (tCall (sp__law_take K) [] E0 (tCons (tVar 0) (tCons (tC (.int 4)) tNil))) (tC (.int 0)))) (tAnd (tTest (tOp rEq (tVar 14) (tVar 8))) (tTest (tOp rGtI (tCall (sp__law_take K) [] E0 (tCons (tVar 0) (tCons (tC (.int 4)) tNil))) (tC (.int 0)))))) (tVar 14) [14]) (gName 13))
  (tSeq (tIfS (tTest (tOp rEq (tCall (sp__law_take K) [] E0 (tCons (tVar 0) (tCons (tC (.int 10)) tNil))) (tC (.int 0)))) (tAsg (tLst tNil) (gName 13)) tNext)
  (tRet (tTup (tCons (tC (.str "machine")) (tCons (tThen (tVar 3) (kTup K)) (tCons (tVar 6) (tCons (tThen (tLc (iList K (tCB rSortDT (tCons (tVar 7) tNil))) (gName 12) tYes (tOp (rCatA K) (tVar 12) (tTup (tCons (tDGet (tVar 7) (tVar 12)) tNil))) [12]) (kTup K)) (tCons (tThen (tVar 13) (kTup K)) tNil)))))))))))))))))
theorem len__law_machine {K : PySem.W.Frag} : ∀ (vs : List V) (H : Hp) (Q : VK) (E : XK), sp__law_machine K vs H Q E → vs.length = 3 := fun vs H Q E h => by
  obtain ⟨_, _, _, rfl, _⟩ := h
  rfl
theorem pure__law_machine {K : PySem.W.Frag} (vs : List V) (H : Hp) (Q : VK) (E : XK) (h : sp__law_machine K vs H Q E) : t__law_machine K { nx := fun _ H' => Q .non H', rt := Q } (start ["state", "doms", "at", "xs", "pair", "stands", "start", "found", "here", "x", "values", "k", "key", "ends", "q"] vs) H := by
  obtain ⟨st, dq, d, rfl, cs, doms, w, ok, nq, ⟨ds, hq, tq⟩, hd, hd0, hdl, hdd, q⟩ := h
  have hdsl : ds.length = doms.length := by rw [tq.length, List.length_map]
  show t__law_machine K _ [some (.ref st), some (.ref dq), some (.ref d), none, none, none, none, none, none, none, none, none, none, none, none] H
  unfold t__law_machine
  walk_at "aw"
  refine ⟨st, dq, rfl, cs, ds, ok, SqL.of hq, nq, by omega, fun o zs H1 hp1 no g1 eo => ?_⟩
  obtain ⟨es, hes, tz⟩ := tq.shuf hp1.symm
  replace tz := tz.up g1.tk
  have hzl : zs.length = es.length := by rw [tz.length, List.length_map]
  have hel := hes.length_eq
  have nost := (ok.ne no).1
  walk_at "aw"
  refine ⟨st, _, rfl, cs, g1.ok, by omega, by omega, fun z1 H2 h10 h11 g2 => ?_⟩
  walk_at "aw"
  refine ⟨st, _, rfl, cs, g2.ok, by omega, by omega, fun z2 H3 h20 h21 g3 => ?_⟩
  walk_at "aw"
  refine w_lstD (by simp) fun l4 H4 nl4 a4 e4 => ?_
  have j4 := (g2.trans g3).new a4
  walk_at "aw"
  refine ⟨st, l4, rfl, cs, [1 + z1, 1 + z2, 12].map V.int, j4.ok, .inl ⟨SqL.of e4, (g3.ok.ne nl4).1⟩, by simp, by simp, fun i y H5 hy g5 => ?_⟩
  obtain ⟨c, rfl, hc⟩ := int_mem hy
  have hc1 : 1 ≤ c ∧ c ≤ 12 := by
    simp only [List.mem_cons, List.not_mem_nil, or_false] at hc
    omega
  have j5 := j4.trans g5
  walk_at "aw"
  refine w_slL (SqL.of (j5.keep nost eo)) fun r6 H6 nr6 a6 e6 => ?_
  rw [cut_to _ (by omega)] at e6
  have j6 := j5.new a6
  have tz6 : IsAll H6 ((es.take c.toNat).map domD) (zs.take c.toNat) := by
    rw [List.map_take]
    exact (tz.up j6.tk).take _
  have hdsub : ∀ q ∈ es.take c.toNat, q ∈ doms := fun q hq => hes.mem_iff.mp (List.mem_of_mem_take hq)
  have hes1 : 0 < (es.take c.toNat).length ∧ (es.take c.toNat).length ≤ 12 := by
    rw [List.length_take]
    omega
  generalize es.take c.toNat = fs at tz6 hdsub hes1
  generalize zs.take c.toNat = rs at tz6 e6
  have hrsl : rs.length = fs.length := by rw [tz6.length, List.length_map]
  refine kLcL_pure6 e6 (fun i => .str (fs.getD i (nix, [])).1) (by omega) (fun i x H2 Kt hx g2 kt => ?_) fun p H7 np a7 ep => ?_
  · obtain ⟨dt, z1, hx⟩ := tz6.get hx
    rw [List.getElem?_map] at z1
    obtain ⟨q', z2, rfl⟩ := Option.map_eq_some_iff.mp z1
    obtain ⟨ia, ib, rfl, ea, _⟩ := is_dom hx
    rw [getD_of z2] at kt
    walk_at "aw"
    refine ⟨rfl, ?_⟩
    walk_at "aw"
    refine w_ixT (SqT.of (g2.tup _ _ ea)) rfl ?_
    exact kt _ (.refl _ _)
  generalize hXS : fs.map (·.1) = XS
  replace ep : H7 p = some (.lst (XS.map V.str)) := by
    rw [hrsl] at ep
    rw [ep, ← hXS, List.map_map, ← map_range fs (nix, [])]
    rfl
  have hXl : 0 < XS.length ∧ XS.length ≤ 12 := by rw [← hXS, List.length_map]; exact hes1
  have hXm : ∀ x ∈ XS, x ∈ doms.map (·.1) := fun x hx => by
    rw [← hXS] at hx
    obtain ⟨q0, h1, rfl⟩ := List.mem_map.mp hx
    exact List.mem_map_of_mem (hdsub q0 h1)
  have npst := (j6.ok.ne np).1
  have k7 := (g1.trans j6).new a7
  have hd7 := hd.go ok k7
  have ok7 := k7.ok
  have hq7 := k7.keep nq hq
  have tq7 := tq.up k7.tk
  clear tz6 e6 hdsub hXS hrsl
  walk_at "aw"
  refine ⟨st, _, rfl, cs, ok7, by omega, by omega, fun sd H8 h80 h81 g8 => ?_⟩
  walk_at "aw"
  refine ⟨st, _, rfl, cs, g8.ok, by omega, by omega, fun s H9 h90 h91 g9 => ?_⟩
  have g79 := g8.trans g9
  walk_at "aw"
  refine w_dnewT fun f H10 nf a10 e10 => ?_
  have nfst := (g79.ok.ne nf).1
  have ok9 := g79.ok
  have g10 := Go.of ok9 a10
  have ep9 := g79.keep npst ep
  have hd9 := hd7.go ok7 g79
  have hq9 := g79.keep nq hq7
  have tq9 := tq7.up g79.tk
  walk_at "aw"
  refine w_lenL (SqL.of (g10.keep npst ep9)) ?_
  rw [List.length_map]
  walk_at "aw"
  refine ⟨st, _, rfl, cs, g10.ok, by omega, by omega, fun z4 H11 _ _ g11 => ?_⟩
  walk_at "aw"
  have g911 := g10.trans g11
  refine w_slL (SqL.of (g911.keep npst ep9)) fun r12 H12 nr12 a12 e12 => ?_
  rw [cut_to _ (by split <;> omega), ← List.map_take] at e12
  have hYm : ∀ x ∈ XS.take ((XS.length : Nat) - (if decide (V.int z4 = V.int 0) = true then 1 else 0) : Int).toNat, x ∈ doms.map (·.1) := fun x hx => hXm x (List.mem_of_mem_take hx)
  have hYl : (XS.take ((XS.length : Nat) - (if decide (V.int z4 = V.int 0) = true then 1 else 0) : Int).toNat).length ≤ 12 := by rw [List.length_take]; omega
  generalize XS.take ((XS.length : Nat) - (if decide (V.int z4 = V.int 0) = true then 1 else 0) : Int).toNat = YS at e12 hYm hYl
  have g912 := g911.new a12
  have nr12st := (g911.ok.ne nr12).1
  refine kForL_i (xs := YS.map V.str) (fun i σ H' => ∃ y9 cur mv, σ = [some (.ref st), some (.ref dq), some (.ref d), some (.ref p), none, some (.int (1 + sd)), some (.int s), some (.ref f), some (.int cur), y9, none, none, none, none, none] ∧ Go st cs H9 H' ∧ H' r12 = some (.lst (YS.map V.str)) ∧ H' f = some (.dT ((mv : List (Int × Int × Int)).map kvM)) ∧ (mv.map fun m => (m.1, m.2.1)).Nodup ∧ mv.length ≤ i)
    (SqL.of e12) ⟨none, s, [], rfl, g912, e12, a12.keep _ _ (fun z => nomatch z) (g11.keep nfst e10), List.nodup_nil, Nat.le_refl _⟩ (fun i σ H' _ pp => ?_) (fun i v σ H' hv pp => ?_) fun σ H' pp => ?_
  · obtain ⟨_, _, _, _, _, er, _⟩ := pp
    exact SqL.of er
  · obtain ⟨y9, cur, mv, rfl, g, er, ef, hmn, hml⟩ := pp
    rw [List.getElem?_map] at hv
    obtain ⟨x, hx1, rfl⟩ := Option.map_eq_some_iff.mp hv
    have hxm := hYm x (List.mem_of_getElem? hx1)
    have hiY : i < YS.length := (List.getElem?_eq_some_iff.mp hx1).1
    have hdg := hd9.go ok9 g
    refine w_gname ?_
    with_reducible refine w_seq ?_
    refine w_ifJ (fun σ' H'' => ∃ mv', σ' = [some (.ref st), some (.ref dq), some (.ref d), some (.ref p), none, some (.int (1 + sd)), some (.int s), some (.ref f), some (.int cur), some (.str x), none, none, none, none, none] ∧ Go st cs H9 H'' ∧ H'' r12 = some (.lst (YS.map V.str)) ∧ H'' f = some (.dT ((mv' : List (Int × Int × Int)).map kvM)) ∧ (mv'.map fun m => (m.1, m.2.1)).Nodup ∧ mv'.length ≤ i + 1 ∧ (cur, w x) ∈ mv'.map fun m => (m.1, m.2.1)) (fun D' hD' => ?_) fun σ' H'' hR => ?_
    · with_reducible refine w_ifS ?_
      with_reducible refine w_B ?_
      refine w_dnin ?_
      walk_at "aw"
      refine hdg.get hxm ?_
      walk_at "aw"
      refine w_tupD (by simp) fun t H13 nt a13 e13 => ?_
      have ef13 := a13.keep _ _ (fun z => nomatch z) ef
      have g13 := g.new a13
      have er13 := a13.keep _ _ (fun z => nomatch z) er
      walk_at "aw"
      refine kDNin_t (k := kOf cur (w x)) ef13 e13 ?_
      cases hval : valV (mv.map kvM) (kOf cur (w x)) with
      | some v =>
        refine ⟨false, rfl, ?_⟩
        refine iteF'' rfl ?_
        refine w_next ?_
        refine hD' _ _ ⟨mv, rfl, g13, er13, ef13, hmn, by omega, ?_⟩
        exact kvM_mem hval
      | none =>
        refine ⟨true, rfl, ?_⟩
        refine iteT'' rfl ?_
        walk_at "aw"
        refine ⟨st, _, rfl, cs, g13.ok, by omega, by omega, fun c H14 _ _ g14 => ?_⟩
        walk_at "aw"
        refine (hd9.go ok9 (g13.trans g14)).get hxm ?_
        walk_at "aw"
        refine w_tupD (by simp) fun t2 H15 nt2 a15 e15 => ?_
        have g15 := (g13.trans g14).new a15
        have ef15 := a15.keep _ _ (fun z => nomatch z) (g14.keep nfst ef13)
        refine kDPutT_i (k := kOf cur (w x)) ef15 e15 (by rw [List.length_map]; omega) ?_
        rw [kvM_put hval]
        refine hD' _ _ ⟨mv ++ [(cur, w x, c)], rfl, g15.mutT ok9 nf ef15, ?_, upd_same, kvM_nodup hmn hval, by rw [List.length_append, List.length_singleton]; omega, by rw [List.map_append]; exact List.mem_append_right _ (List.mem_singleton.mpr rfl)⟩
        rw [upd_ne (fun z => by
          rw [z] at er
          rw [er] at ef
          cases ef)]
        exact a15.keep _ _ (fun z => nomatch z) (g14.keep nr12st er13)
    · obtain ⟨mv', rfl, g', er', ef', hmn', hml', hmem⟩ := hR
      walk_at "aw"
      refine (hd9.go ok9 g').get hxm ?_
      walk_at "aw"
      refine w_tupD (by simp) fun t2 H15 nt2 a15 e15 => ?_
      obtain ⟨c, hc⟩ := (kvM_val mv' cur (w x)).2 hmem
      refine kDGet_t (k := kOf cur (w x)) (a15.keep _ _ (fun z => nomatch z) ef') e15 hc ?_
      walk_at "aw"
      exact ⟨_, c, mv', rfl, g'.new a15, a15.keep _ _ (fun z => nomatch z) er', a15.keep _ _ (fun z => nomatch z) ef', hmn', hml'⟩
  · obtain ⟨y9, cur, mv, rfl, g, er, ef, hmn, hml⟩ := pp
    rw [List.length_map] at hml
    walk_at "aw"
    refine ⟨p, rfl, ⟨_, SqL.of (g.keep npst ep9)⟩, ?_⟩
    have hdg := hd9.go ok9 g
    have epg := g.keep npst ep9
    refine kLc_pure (walk_list (xs := XS.map V.str)) (by rw [List.length_map]; omega) (fun H' g => SqL.of (g.keep _ _ (fun z => nomatch z) epg)) (fun _ => true) (fun i => .int (w (XS.getD i nix))) (fun i x H2 H3 Kt Kf hi g2 y kt kf => ?_) fun l13 H13 nl13 a13 e13 => ?_
    · obtain ⟨rfl, y1⟩ := y
      rw [List.getElem?_map] at y1
      obtain ⟨n1, z1, rfl⟩ := Option.map_eq_some_iff.mp y1
      rw [getD_of z1] at kt
      walk_at "aw"
      refine ⟨rfl, ?_⟩
      walk_at "aw"
      refine (hdg.up g2).get (hXm n1 (List.mem_of_getElem? z1)) ?_
      exact kt rfl _ (.refl _ _)
    replace e13 : H13 l13 = some (.lst ((XS.map w).map V.int)) := by
      rw [List.map_map, ← map_range XS nix]
      rw [filter_true, List.length_map] at e13
      exact e13
    have g13 := g.new a13
    walk_at "aw"
    refine kLcR_all (n := 4) (by omega) g13.ok (fun _ v _ => ∃ z : Int, v = .int z) (fun _ _ _ _ _ h => h) (fun k H14 Kt hk g14 kt => ?_) fun l14 H14 ys nl14 g14 e14 hyl hyr => ?_
    · have m14 := g13.trans g14
      have hq14 := m14.keep nq hq9
      have tq14 := tq9.up m14.tk
      walk_at "aw"
      refine ⟨rfl, ?_⟩
      walk_at "aw"
      refine ⟨st, dq, rfl, cs, ds, g14.ok, .inl ⟨SqL.of hq14, nq⟩, by omega, by omega, fun j y H15 hy g15 => ?_⟩
      obtain ⟨dt, z2, hdt⟩ := tq14.get hy
      rw [List.getElem?_map] at z2
      obtain ⟨qd, z3, rfl⟩ := Option.map_eq_some_iff.mp z2
      obtain ⟨ia, ib, rfl, ea, eb⟩ := is_dom hdt
      have hqd := hdd qd (List.mem_of_getElem? z3)
      walk_at "aw"
      refine w_ixT (SqT.of (g15.tk _ _ ea)) rfl ?_
      walk_at "aw"
      refine ⟨st, ib, rfl, cs, _, (g14.trans g15).ok, .inr (g15.tk _ _ eb), by rw [List.length_map]; exact hqd.1, by rw [List.length_map]; omega, fun j y H16 hy g16 => ?_⟩
      obtain ⟨z, rfl, _⟩ := int_mem hy
      exact kt _ _ (g15.trans g16) ⟨z, rfl⟩
    obtain ⟨v4, rfl⟩ := ints_in hyr
    rw [List.length_map] at hyl
    have g14' := g13.trans g14
    refine w_cat (g14.keep (g.ok.ne nl13).1 e13) e14 (by simp; omega) fun l15 H15 nl15 a15 e15 => ?_
    have g15 := g14'.new a15
    walk_at "aw"
    refine ⟨st, _, rfl, cs, g15.ok, by omega, by omega, fun z16 H16 _ _ g16 => ?_⟩
    walk_at "aw"
    refine w_lstD (by simp) fun l17 H17 nl17 a17 e17 => ?_
    have g17 := (g15.trans g16).new a17
    refine w_cat (a17.keep _ _ (fun z => nomatch z) (g16.keep (g14'.ok.ne nl15).1 e15)) e17 (by simp; omega) fun va H18 nva a18 e18 => ?_
    obtain ⟨VS, hVS⟩ : ∃ VS : List Int, VS = XS.map w ++ v4 ++ [z16 - 200] := ⟨_, rfl⟩
    replace e18 : H18 va = some (.lst (VS.map V.int)) := by
      rw [e18, hVS, List.map_append, List.map_append]
      rfl
    have hVl : 0 < VS.length ∧ VS.length ≤ 100 := by
      rw [hVS]
      simp only [List.length_append, List.length_map, List.length_cons, List.length_nil]
      omega
    have nvast := (g17.ok.ne nva).1
    have g18 := g17.new a18
    have gg : Go st cs H' H18 := ((((((Go.of g.ok a13).trans g14).new a15).trans g16).new a17).new a18)
    have ef18 := gg.keep nfst ef
    clear hVS e13 e14 e15 e17 er
    walk_at "aw"
    refine ⟨st, _, rfl, cs, g18.ok, by omega, by omega, fun y1 H19 h190 h191 g19 => ?_⟩
    walk_at "aw"
    refine ⟨st, _, rfl, cs, g19.ok, by omega, by omega, fun y2 H20 h200 h201 g20 => ?_⟩
    walk_at "aw"
    refine w_lstD (by simp) fun l21 H21 nl21 a21 e21 => ?_
    have j21 := (g19.trans g20).new a21
    walk_at "aw"
    refine ⟨st, l21, rfl, cs, [0, y1, y2, 40].map V.int, j21.ok, .inl ⟨SqL.of e21, (g20.ok.ne nl21).1⟩, by simp, by simp, fun i y H22 hy g22 => ?_⟩
    obtain ⟨n, rfl, hn⟩ := int_mem hy
    have hn1 : 0 ≤ n ∧ n ≤ 40 := by
      simp only [List.mem_cons, List.not_mem_nil, or_false] at hn
      omega
    have j22 := j21.trans g22
    walk_at "aw"
    rw [show n = ((n.toNat : Nat) : Int) by omega]
    refine kForR_i (n := n.toNat) (by omega) (fun i σ H' => ∃ y11 y12 mv, σ = [some (.ref st), some (.ref dq), some (.ref d), some (.ref p), none, some (.int (1 + sd)), some (.int s), some (.ref f), some (.int cur), y9, some (.ref va), y11, y12, none, none] ∧ Go st cs H9 H' ∧ H' va = some (.lst (VS.map V.int)) ∧ H' f = some (.dT ((mv : List (Int × Int × Int)).map kvM)) ∧ (mv.map fun m => (m.1, m.2.1)).Nodup ∧ mv.length ≤ 12 + i)
      ⟨none, none, mv, rfl, g18.trans j22, j22.keep nvast e18, j22.keep nfst ef18, hmn, by omega⟩ (fun i σ H' hi pp => ?_) fun σ H' pp => ?_
    · obtain ⟨y11, y12, mv, rfl, g, ev, ef, hmn, hml⟩ := pp
      walk_at "aw"
      refine ⟨st, _, rfl, cs, g.ok, by omega, by omega, fun ka H23 _ _ g23 => ?_⟩
      walk_at "aw"
      refine ⟨st, va, rfl, cs, _, g23.ok, .inl ⟨SqL.of (g23.keep nvast ev), nvast⟩, by rw [List.length_map]; exact hVl.1, by rw [List.length_map]; omega, fun j y H24 hy g24 => ?_⟩
      obtain ⟨kb, rfl, _⟩ := int_mem hy
      walk_at "aw"
      refine w_tupD (by simp) fun t H25 nt a25 e25 => ?_
      have j25 := (g23.trans g24).new a25
      have g25 := g.trans j25
      have ef25 := j25.keep nfst ef
      have ev25 := j25.keep nvast ev
      have hskip : ∀ {D' : Ends} {y12' : Option V}, (∀ σ' H'', (∃ y11 y12 mv, σ' = [some (.ref st), some (.ref dq), some (.ref d), some (.ref p), none, some (.int (1 + sd)), some (.int s), some (.ref f), some (.int cur), y9, some (.ref va), y11, y12, none, none] ∧ Go st cs H9 H'' ∧ H'' va = some (.lst (VS.map V.int)) ∧ H'' f = some (.dT ((mv : List (Int × Int × Int)).map kvM)) ∧ (mv.map fun m => (m.1, m.2.1)).Nodup ∧ mv.length ≤ 12 + (i + 1)) → D'.nx σ' H'') → D'.nx [some (.ref st), some (.ref dq), some (.ref d), some (.ref p), none, some (.int (1 + sd)), some (.int s), some (.ref f), some (.int cur), y9, some (.ref va), some (.int (i : Nat)), some (.ref t), none, none] H25 := fun {D' y12'} hD' => hD' _ _ ⟨_, _, mv, rfl, g25, ev25, ef25, hmn, by omega⟩
      refine w_gname ?_
      with_reducible refine w_ifJ _ (fun D' hD' => ?_) (fun _ _ h => h)
      with_reducible refine w_ifS ?_
      with_reducible refine w_and ?_
      with_reducible refine w_B ?_
      refine w_dnin ?_
      walk_at "aw"
      refine kDNin_t (k := kOf ka kb) ef25 e25 ?_
      cases hval : valV (mv.map kvM) (kOf ka kb) with
      | some v =>
        refine ⟨false, rfl, ?_⟩
        refine iteF'' rfl ?_
        walk_at "aw"
        exact hskip (y12' := none) hD'
      | none =>
        refine ⟨true, rfl, ?_⟩
        refine iteT'' rfl ?_
        walk_at "aw"
        refine ⟨f, _, rfl, ef25, ?_⟩
        rw [List.length_map]
        walk_at "aw"
        refine w_iteB (fun _ => ?_) fun _ => ?_
        · walk_at "aw"
          refine ⟨st, _, rfl, cs, g25.ok, by omega, by omega, fun kc H26 _ _ g26 => ?_⟩
          walk_at "aw"
          have ef26 := g26.keep nfst ef25
          refine kDPutT_i (k := kOf ka kb) ef26 (g26.tk _ _ e25) (by rw [List.length_map]; omega) ?_
          rw [kvM_put hval]
          refine hD' _ _ ⟨_, _, mv ++ [(ka, kb, kc)], rfl, (g25.trans g26).mutT ok9 nf ef26, ?_, upd_same, kvM_nodup hmn hval, by rw [List.length_append, List.length_singleton]; omega⟩
          rw [upd_ne (fun z => by
            rw [z] at ev
            rw [ev] at ef
            cases ef)]
          exact g26.keep nvast ev25
        · refine w_next ?_
          exact hskip (y12' := none) hD'
    · obtain ⟨y11, y12, mv, rfl, g, ev, ef, hmn, hml⟩ := pp
      walk_at "aw"
      refine kLcR_some (n := 12) (by omega) g.ok (fun _ v _ => ∃ z : Int, v = .int z) (fun _ => True) (fun _ _ _ _ _ h => h) (fun k H26 Kt Kf hk g26 kt kf => ?_) fun en0 H26 ks ys nen g26 een hkl hkp hkm _ hyr => ?_
      · walk_at "aw"
        refine ⟨rfl, ?_⟩
        walk_at "aw"
        refine ⟨st, _, rfl, cs, g26.ok, by omega, by omega, fun z H27 _ _ g27 => ?_⟩
        walk_at "aw"
        refine w_iteB (fun _ => ?_) fun _ => ?_
        · walk_at "aw"
          exact kt _ _ g27 ⟨_, rfl⟩
        · walk_at "aw"
          refine w_iteB (fun _ => ?_) fun _ => ?_
          · walk_at "aw"
            refine ⟨st, _, rfl, cs, g27.ok, by omega, by omega, fun z H28 _ _ g28 => ?_⟩
            walk_at "aw"
            refine w_iteB (fun _ => ?_) fun _ => ?_
            · walk_at "aw"
              exact kt _ _ (g27.trans g28) ⟨_, rfl⟩
            · exact kf _ (g27.trans g28) trivial
          · exact kf _ g27 trivial
      obtain ⟨ES, rfl⟩ := ints_in (ys := ys) fun i v e => by
        obtain ⟨k, hk⟩ := get_some (xs := ks) (i := i) (by have := (List.getElem?_eq_some_iff.mp e).1; omega)
        exact hyr i k v hk e
      have hEl : ES.length ≤ 12 := by
        have h1 := nodup_short 12 ks (hkp.imp fun h => Nat.ne_of_lt h) hkm
        rw [List.length_map] at hkl
        omega
      have g26' := g.trans g26
      have nenst := (g.ok.ne nen).1
      with_reducible refine w_gname ?_
      with_reducible refine w_seq ?_
      refine w_ifJ (fun σ' H'' => ∃ en ES', σ' = [some (.ref st), some (.ref dq), some (.ref d), some (.ref p), none, some (.int (1 + sd)), some (.int s), some (.ref f), some (.int cur), y9, some (.ref va), y11, y12, some (.ref en), none] ∧ Go st cs H26 H'' ∧ en ≠ st ∧ H'' en = some (.lst ((ES' : List Int).map V.int)) ∧ ES'.length ≤ 12) (fun D' hD' => ?_) fun σ' H27 hR => ?_
      · walk_at "aw"
        refine ⟨st, _, rfl, cs, g26'.ok, by omega, by omega, fun z H27 _ _ g27 => ?_⟩
        walk_at "aw"
        refine w_iteB (fun _ => ?_) fun _ => ?_
        · walk_at "aw"
          refine w_lstD (by simp) fun l28 H28 nl28 a28 e28 => ?_
          walk_at "aw"
          exact hD' _ _ ⟨l28, [], rfl, g27.new a28, ((g26'.trans g27).ok.ne nl28).1, e28, by simp⟩
        · refine w_next ?_
          exact hD' _ _ ⟨en0, ES, rfl, g27, nenst, g27.keep nenst een, hEl⟩
      · obtain ⟨en, ES', rfl, g27, nens, een', hEl'⟩ := hR
        have g27' := g26'.trans g27
        have ef27 := (g26.trans g27).keep nfst ef
        walk_at "aw"
        refine w_tupL (SqL.of (g27'.keep npst ep9)) fun t28 H28 nt28 a28 e28 => ?_
        have g28 := g27'.new a28
        have ef28 := a28.keep _ _ (fun z => nomatch z) ef27
        walk_at "aw"
        refine ⟨f, mv.map kvM, rfl, .of ef28, fun q hq => ?_, by rw [List.length_map]; omega, fun pa ps npa hps hperm => ?_⟩
        · obtain ⟨m, _, rfl⟩ := List.mem_map.mp hq
          exact ⟨[m.1, m.2.1], by simp, rfl⟩
        have apa := Adv.new (o := .lst (ps.map fun q => V.ref q.1)) npa
        have hkeys : (mv.map kvM).map (·.1) = mv.map mvKey := by rw [List.map_map]; rfl
        rw [hkeys] at hperm
        have hpl : ps.length = mv.length := by
          have := hperm.length_eq
          rw [List.length_map, List.length_map] at this
          exact this
        have g29 := g28.new apa
        have npast := (g28.ok.ne npa).1
        have ef29 := apa.keep _ _ (fun z => nomatch z) ef28
        refine kLcL_all SqL.upd npast (by rw [List.length_map]; omega) g29.ok (fun k v H => ∃ q, ps[k]? = some q ∧ ∃ a b c, q.2 = [a, b] ∧ Is H (ctD (a, b, c)) v) (fun k v H H' t h => by
          obtain ⟨q, h1, a, b, c, h2, h3⟩ := h
          exact ⟨q, h1, a, b, c, h2, h3.up t⟩) (fun k y H30 Kt hk g30 kt => ?_) fun l31 H31 ys2 nl31 g31 e31 hyl2 hyr2 => ?_
        · rw [List.getElem?_map] at hk
          obtain ⟨q0, hq0, rfl⟩ := Option.map_eq_some_iff.mp hk
          have hq0m := List.mem_of_getElem? hq0
          have hrow := hps q0 hq0m
          obtain ⟨m, hm, hmk⟩ := List.mem_map.mp (hperm.mem_iff.mp (List.mem_map_of_mem (f := fun q : Addr × List Int => q.2.map (Sum.inl : Int → L2.Key)) hq0m))
          have hq2 : q0.2 = [m.1, m.2.1] := by
            have h1 : (q0.2.map (Sum.inl : Int → L2.Key)) = [m.1, m.2.1].map Sum.inl := hmk.symm
            exact List.map_inj_right (fun a b h => Sum.inl.inj h) |>.mp h1
          have ek : H30 q0.1 = some (.tup [.int m.1, .int m.2.1]) := by
            have := g30.tk _ _ (apa.tup _ _ hrow.1)
            rw [hq2] at this
            exact this
          obtain ⟨c, hc⟩ := (kvM_val mv m.1 m.2.1).2 (List.mem_map.mpr ⟨m, hm, rfl⟩)
          walk_at "aw"
          refine ⟨rfl, ?_⟩
          walk_at "aw"
          refine kDGet_t (k := kOf m.1 m.2.1) (g30.keep nfst ef29) ek hc ?_
          walk_at "aw"
          refine w_tupD (by simp) fun t31 H31 nt31 a31 e31 => ?_
          refine w_catT' (a31.tup _ _ ek) e31 (by simp) fun t32 H32 a32 e32 => ?_
          exact kt _ _ ((Go.of g30.ok a31).new a32) ⟨q0, hq0, m.1, m.2.1, c, hq2, .tup e32 (.cons (.int _) (.cons (.int _) (.cons (.int _) .nil)))⟩
        · rw [List.length_map] at hyl2
          obtain ⟨ms, hms, hmsk⟩ := moves_of (mv := mv) (ps := ps) (ys := ys2) hyl2 fun i q v e1 e2 => by
            obtain ⟨q', z1, a, b, c, z2, z3⟩ := hyr2 i v e2
            rw [e1] at z1
            cases z1
            exact ⟨a, b, c, z2, z3⟩
          have g31' := g29.trans g31
          refine w_tupL (SqL.of e31) fun t32 H32 nt32 a32 e32 => ?_
          walk_at "aw"
          refine w_tupL (SqL.of (a32.keep _ _ (fun z => nomatch z) (g31.keep nens (apa.keep _ _ (fun z => nomatch z) (a28.keep _ _ (fun z => nomatch z) een'))))) fun t33 H33 nt33 a33 e33 => ?_
          walk_at "aw"
          refine w_tupD (by simp) fun t34 H34 nt34 a34 e34 => ?_
          have gall := (((k7.trans g79).trans g31').new a32).new a33
          have hnd : (ms.map fun m => (m.1, m.2.1)).Nodup := by
            rw [← keys_nodup]
            have e : ms.map mvKey = ps.map fun q => q.2.map Sum.inl := by
              have h1 : (ms.map fun m => [m.1, m.2.1]).map (fun l => l.map (Sum.inl : Int → L2.Key)) = (ps.map (·.2)).map (fun l => l.map (Sum.inl : Int → L2.Key)) := by rw [hmsk]
              rw [List.map_map, List.map_map] at h1
              exact h1
            rw [e]
            exact hperm.nodup_iff.mpr ((keys_nodup mv).mpr hmn)
          have hmsl : ms.length = mv.length := by
            have := congrArg List.length hmsk
            rw [List.length_map, List.length_map] at this
            omega
          exact q _ (.mach XS s ms ES') H34 (gall.new a34) (.tup e34 (.cons (.str _) (.cons (.tup (a34.tup _ _ (a33.tup _ _ (a32.tup _ _ (g31.tk _ _ (apa.tup _ _ e28))))) (IsAll.strs _)) (.cons (.int _) (.cons (.tup (a34.tup _ _ (a33.tup _ _ e32)) (((hms.up a32.tup).up a33.tup).up a34.tup)) (.cons (.tup (a34.tup _ _ e33) (IsAll.ints _)) .nil)))))) ⟨by omega, by omega, hnd, by omega⟩ hXm
end AW
namespace AW
open PySem PySem.Spec PyProof.Rows L2 RZ
local macro_rules | `(tactic| walk_at "aw1") => `(tactic| first
  | (with_reducible refine w_seq ?_) | (with_reducible refine w_asg ?_) | (with_reducible refine w_gname ?_) | (with_reducible refine w_op ?_) | (with_reducible refine w_un ?_)
  | ((with_reducible refine' w_var ?h ?_); (case h => rfl)) | (with_reducible refine w_c ?_)
  | (with_reducible refine w_I0 ?_) | (with_reducible refine w_U ?_) | (with_reducible refine w_cb ?_) | (with_reducible refine w_nil ?_) | (with_reducible refine w_cons ?_) | (with_reducible refine w_call ?_)
  | (with_reducible refine w_test ?_) | (with_reducible refine w_B ?_) | (with_reducible refine w_bl ?_) | (with_reducible refine w_not ?_) | (with_reducible refine w_yes ?_) | (with_reducible refine iteT ?_) | (with_reducible refine iteF ?_) | (with_reducible refine w_and ?_) | (with_reducible refine w_or ?_)
  | (with_reducible refine w_andV ?_) | (with_reducible refine w_orV ?_) | (with_reducible refine w_notV ?_) | (with_reducible refine w_if ?_)
  | (with_reducible refine w_int1 ?_) | (with_reducible refine w_int1b ?_) | (with_reducible refine w_abs ?_) | (with_reducible refine w_max2 ?_) | (with_reducible refine w_min2 ?_)
  | ((with_reducible refine w_eq ?h ?_); (case h => rfl)) | ((with_reducible refine w_ne ?h ?_); (case h => rfl)) | (with_reducible refine w_isN ?_) | (with_reducible refine w_isB ?_) | (with_reducible refine w_chain ?_)
  | (with_reducible refine w_ret ?_) | (with_reducible refine w_drop ?_) | (with_reducible refine w_ifS ?_) | (with_reducible refine w_gsub ?_) | (with_reducible refine w_augS ?_) | (with_reducible refine w_ipI ?_) | (with_reducible refine w_next ?_)
  | (with_reducible refine w_forR ?_) | (with_reducible refine w_forR2 ?_) | (with_reducible refine w_forL ?_) | (with_reducible refine w_forT ?_) | (with_reducible refine w_lcR ?_) | (with_reducible refine w_lcL ?_) | (with_reducible refine w_lcT ?_) | (with_reducible refine w_sl ?_) | (with_reducible refine w_part ?_) | (with_reducible refine w_noPart ?_) | (with_reducible refine w_in ?_)
  | (with_reducible refine w_gcons ?_) | (with_reducible refine w_gnil ?_) | (with_reducible refine w_lc3 ?_) | (with_reducible refine w_dcZ ?_) | (with_reducible refine w_dcT ?_) | (with_reducible refine w_dg ?_) | (with_reducible refine w_callK ?_) | (with_reducible refine w_dput ?_) | (with_reducible refine w_tup1 ?_)
  | (with_reducible refine w_tup ?_) | (with_reducible refine w_lst ?_)
  | ((with_reducible refine w_I ?h ?_); (case h => first | (exact Or.inr ⟨by decide, by decide⟩) | (exact Or.inl ⟨by decide, by decide⟩) | (show (0 : Int) < _; decide) | (exact ⟨by decide, by decide, by decide⟩) | assumption)))
local macro_rules | `(tactic| walk_at "aw") => `(tactic| repeat (walk_at "aw1"))
theorem put_keysM {kvs : List (L2.Key × V)} {ks : List Int} {k : Int} {v : V} {P : Int → Prop} (h : kvs.map (·.1) = ks.map Sum.inl) (hP : ∀ k ∈ ks, P k) (hk : P k) : ∃ ks' : List Int, (putK kvs (Sum.inl k) v).map (·.1) = ks'.map Sum.inl ∧ (∀ k ∈ ks', P k) ∧ 0 < ks'.length ∧ ks'.length ≤ ks.length + 1 := by
  unfold putK
  split
  · rename_i ha
    refine ⟨ks, ?_, hP, ?_, by omega⟩
    · rw [← h, List.map_map]
      refine List.map_congr_left fun q _ => ?_
      show (if q.1 = Sum.inl k then (q.1, v) else q).1 = q.1
      split <;> rfl
    · obtain ⟨p, hp, _⟩ := List.any_eq_true.mp ha
      have h1 := congrArg List.length h
      rw [List.length_map, List.length_map] at h1
      have := List.length_pos_of_mem hp
      omega
  · refine ⟨ks ++ [k], ?_, fun x hx => ?_, by simp, by simp⟩
    · rw [List.map_append, List.map_append, h]
      rfl
    · rcases List.mem_append.mp hx with z | z
      · exact hP x z
      · rw [List.mem_singleton.mp z]; exact hk
theorem perm_intsP {ls : List Int} {ys : List V} (h : ys.Perm (ls.map V.int)) : ∃ ns : List Int, ys = ns.map V.int ∧ ns.length = ls.length ∧ ∀ n ∈ ns, n ∈ ls := by
  obtain ⟨ns, rfl⟩ := ints_of (ys := ys) fun i v hv => by
    obtain ⟨k, _, rfl⟩ := List.mem_map.mp (h.mem_iff.mp (List.mem_of_getElem? hv))
    exact ⟨_, rfl⟩
  refine ⟨ns, rfl, by have := h.length_eq; rwa [List.length_map, List.length_map] at this, fun n hn => ?_⟩
  obtain ⟨m, hm, e⟩ := List.mem_map.mp (h.mem_iff.mp (List.mem_map_of_mem (f := V.int) hn))
  rw [← V.int.inj e]
  exact hm
def sp__law_times (_ : PySem.W.Frag) : Sp := fun vs H Q _ => ∃ (st p : Addr) (m : Nat), vs = [.ref st, .ref p, .int (m : Nat)] ∧ ∃ (cs : Addr) (doms : List (Str × List Int)), StOk st cs H ∧ p ≠ st ∧ LsAt H p (doms.map domD) ∧ 0 < doms.length ∧ doms.length ≤ 100 ∧ (∀ q ∈ doms, 0 < q.2.length ∧ q.2.length ≤ 100 ∧ ∀ v ∈ q.2, wt v) ∧ 0 < m ∧ m ≤ 12 ∧
  ∀ v (fl : List Int) H', Go st cs H H' → Is H' (rowD fl) v → 0 < fl.length → fl.length ≤ m → (∀ v ∈ fl, wt v) → Q v H'
def t__law_times (K : PySem.W.Frag) : TS := (tSeq (tAsg tDNewK (gName 3))
  (tSeq (tFor (iRng1 (tCons (tC (.int 12)) tNil)) (gName 4)
  (tSeq (tAsg (tOp rMulI (tCall (sp__law_pick K) [] E0 (tCons (tVar 0) (tCons (tOp (rIxT K) (tCall (sp__law_pick K) [] E0 (tCons (tVar 0) (tCons (tVar 1) tNil))) (tC (.int 1))) tNil))) (tCall (sp__law_pick K) [] E0 (tCons (tVar 0) (tCons (tOp (rIxT K) (tCall (sp__law_pick K) [] E0 (tCons (tVar 0) (tCons (tVar 1) tNil))) (tC (.int 1))) tNil)))) (gName 5))
  (sDPut (tVar 3) (tCB rMax2 (tCons (tUn rNeg (tC (.int 200))) (tCons (tCB rMin2 (tCons (tC (.int 200)) (tCons (tOp rAddI (tVar 5) (tCB rInt1 (tCons (tOp rEq (tCall (sp__law_take K) [] E0 (tCons (tVar 0) (tCons (tC (.int 9)) tNil))) (tC (.int 0))) tNil))) tNil))) tNil))) (tC (.bl true)))))
  (tRet (tThen (tCB (rSortedI K) (tCons (tSl (rSlL K) (tCall (sp__law_shuffled K) [] E0 (tCons (tVar 0) (tCons (tCB rSortDI (tCons (tVar 3) tNil)) tNil))) tNoPart (tPart (tVar 2))) tNil)) (kTup K)))))
theorem len__law_times {K : PySem.W.Frag} : ∀ (vs : List V) (H : Hp) (Q : VK) (E : XK), sp__law_times K vs H Q E → vs.length = 3 := fun vs H Q E h => by
  obtain ⟨_, _, _, rfl, _⟩ := h
  rfl
theorem pure__law_times {K : PySem.W.Frag} (vs : List V) (H : Hp) (Q : VK) (E : XK) (h : sp__law_times K vs H Q E) : t__law_times K { nx := fun _ H' => Q .non H', rt := Q } (start ["state", "doms", "sizes", "found", "k", "v"] vs) H := by
  obtain ⟨st, dq, m, rfl, cs, doms, ok, nq, ⟨ds, hq, tq⟩, hd0, hdl, hdd, hm0, hm12, q⟩ := h
  have hdsl : ds.length = doms.length := by rw [tq.length, List.length_map]
  show t__law_times K _ [some (.ref st), some (.ref dq), some (.int (m : Nat)), none, none, none] H
  unfold t__law_times
  walk_at "aw"
  refine w_dnew fun f H1 nf a1 e1 => ?_
  have nfst := (ok.ne nf).1
  have drawv : ∀ {H2 : Hp} {Q' : VK}, Go st cs H H2 → (∀ (n : Int) H3, Go st cs H2 H3 → wt n → Q' (.int n) H3) → ∀ σ : L2.St, σ[0]? = some (some (.ref st)) → σ[1]? = some (some (.ref dq)) →
      (tCall (sp__law_pick K) [] E0 (tCons (tVar 0) (tCons (tOp (rIxT K) (tCall (sp__law_pick K) [] E0 (tCons (tVar 0) (tCons (tVar 1) tNil))) (tC (.int 1))) tNil))) σ H2 Q' := by
    intro H2 Q' g2 hQ σ h0 h1
    refine w_call ?_
    refine w_cons ?_
    refine w_var h0 ?_
    refine w_cons ?_
    refine w_op ?_
    refine w_call ?_
    refine w_cons ?_
    refine w_var h0 ?_
    refine w_cons ?_
    refine w_var h1 ?_
    refine w_nil ?_
    refine ⟨st, dq, rfl, cs, ds, g2.ok, .inl ⟨SqL.of (g2.keep nq hq), nq⟩, by omega, by omega, fun j y H3 hy g3 => ?_⟩
    obtain ⟨dt, z2, hdt⟩ := (tq.up (g2.trans g3).tk).get hy
    rw [List.getElem?_map] at z2
    obtain ⟨qd, z3, rfl⟩ := Option.map_eq_some_iff.mp z2
    obtain ⟨ia, ib, rfl, ea, eb⟩ := is_dom hdt
    have hqd := hdd qd (List.mem_of_getElem? z3)
    refine w_c ?_
    refine w_ixT (SqT.of ea) rfl ?_
    refine w_nil ?_
    refine ⟨st, ib, rfl, cs, _, (g2.trans g3).ok, .inr eb, by rw [List.length_map]; exact hqd.1, by rw [List.length_map]; omega, fun j y H4 hy g4 => ?_⟩
    obtain ⟨z, rfl, hz⟩ := int_mem hy
    exact hQ z H4 (g3.trans g4) (hqd.2.2 z hz)
  walk_at "aw"
  refine kForR_i (n := 12) (by omega) (fun i σ H' => ∃ y4 y5 kvs ks, σ = [some (.ref st), some (.ref dq), some (.int (m : Nat)), some (.ref f), y4, y5] ∧ Go st cs H H' ∧ H' f = some (.dK kvs) ∧ kvs.map (·.1) = (ks : List Int).map Sum.inl ∧ (∀ k ∈ ks, -200 ≤ k ∧ k ≤ 200) ∧ ks.length ≤ i ∧ (0 < i → 0 < ks.length))
    ⟨none, none, [], [], rfl, Go.of ok a1, e1, rfl, fun k h => absurd h (List.not_mem_nil), Nat.le_refl _, fun h => absurd h (Nat.lt_irrefl _)⟩ (fun i σ H' hi pp => ?_) fun σ H' pp => ?_
  · obtain ⟨y4, y5, kvs, ks, rfl, g, ef, hk, hkb, hkl, _⟩ := pp
    have hkvl : kvs.length = ks.length := by
      have := congrArg List.length hk
      rw [List.length_map, List.length_map] at this
      exact this
    with_reducible refine w_seq ?_
    with_reducible refine w_asg ?_
    with_reducible refine w_op ?_
    refine drawv g (fun n1 H2 g2 hw1 => ?_) _ rfl rfl
    refine drawv (g.trans g2) (fun n2 H3 g3 hw2 => ?_) _ rfl rfl
    have g23 := (g.trans g2).trans g3
    refine w_I (.inl hw1) ?_
    walk_at "aw"
    generalize n1 * n2 = pv
    refine ⟨st, _, rfl, cs, g23.ok, by omega, by omega, fun z H4 _ _ g4 => ?_⟩
    have g24 := g23.trans g4
    walk_at "aw"
    have ef4 := ((g2.trans g3).trans g4).keep nfst ef
    generalize hkk : (if (if pv + (if decide (V.int z = V.int 0) = true then 1 else 0) < 200 then pv + (if decide (V.int z = V.int 0) = true then 1 else 0) else 200) > -200 then (if pv + (if decide (V.int z = V.int 0) = true then 1 else 0) < 200 then pv + (if decide (V.int z = V.int 0) = true then 1 else 0) else 200) else (-200 : Int)) = kk
    have hkk2 : -200 ≤ kk ∧ kk ≤ 200 := by
      rw [← hkk]
      generalize pv + (if decide (V.int z = V.int 0) = true then 1 else 0) = u
      constructor
      · split <;> split <;> omega
      · split <;> split <;> omega
    obtain ⟨ks', h1, h2, h3, h4⟩ := put_keysM (k := kk) (v := .bl true) hk hkb hkk2
    refine kDPut_i (k := Sum.inl kk) ef4 (by omega) ?_
    exact ⟨_, _, _, ks', rfl, g24.mutD ok nf ef4, upd_same, h1, h2, by omega, fun _ => h3⟩
  · obtain ⟨y4, y5, kvs, ks, rfl, g, ef, hk, hkb, hkl, hk0⟩ := pp
    have hk0 := hk0 (by omega)
    walk_at "aw"
    refine ⟨f, kvs, ks, rfl, .of ef, hk, by omega, fun ws r hpm _ nr => ?_⟩
    have ar := Adv.new (o := .lst (ws.map V.int)) nr
    have gr := g.new ar
    have hwl := hpm.length_eq
    walk_at "aw"
    refine ⟨st, r, rfl, cs, _, gr.ok, SqL.of upd_same, (g.ok.ne nr).1, by rw [List.length_map]; omega, fun o ys H2 hp2 no g2 eo => ?_⟩
    obtain ⟨is, rfl, hisl, hism⟩ := perm_intsP hp2
    walk_at "aw"
    refine w_slL (SqL.of eo) fun l3 H3 nl3 a3 e3 => ?_
    rw [cut_to _ (by omega), ← List.map_take, Int.toNat_natCast] at e3
    walk_at "aw"
    refine ⟨l3, _, rfl, SqL.of e3, fun us p4 hpm2 _ np4 => ?_⟩
    have a4 := Adv.new (o := .lst (us.map V.int)) np4
    refine w_tupL SqL.upd fun t5 H5 nt5 a5 e5 => ?_
    have hul : us.length = min m is.length := by rw [hpm2.length_eq, List.length_take]
    refine q _ us H5 ((((gr.trans g2).new a3).new a4).new a5) (.tup e5 (IsAll.ints _)) (by omega) (by omega) fun v hv => ?_
    have h1 := hkb v (hpm.mem_iff.mp (hism v (List.mem_of_mem_take (hpm2.mem_iff.mp hv))))
    exact ⟨by omega, by omega⟩
end AW
namespace AW
open PySem PySem.Spec PyProof.Rows L2 RZ
local macro_rules | `(tactic| walk_at "aw1") => `(tactic| first
  | (with_reducible refine w_seq ?_) | (with_reducible refine w_asg ?_) | (with_reducible refine w_gname ?_) | (with_reducible refine w_op ?_) | (with_reducible refine w_un ?_)
  | ((with_reducible refine' w_var ?h ?_); (case h => rfl)) | (with_reducible refine w_c ?_)
  | (with_reducible refine w_I0 ?_) | (with_reducible refine w_U ?_) | (with_reducible refine w_cb ?_) | (with_reducible refine w_nil ?_) | (with_reducible refine w_cons ?_) | (with_reducible refine w_call ?_)
  | (with_reducible refine w_test ?_) | (with_reducible refine w_B ?_) | (with_reducible refine w_bl ?_) | (with_reducible refine w_not ?_) | (with_reducible refine w_yes ?_) | (with_reducible refine iteT ?_) | (with_reducible refine iteF ?_) | (with_reducible refine w_and ?_) | (with_reducible refine w_or ?_)
  | (with_reducible refine w_andV ?_) | (with_reducible refine w_orV ?_) | (with_reducible refine w_notV ?_) | (with_reducible refine w_if ?_)
  | (with_reducible refine w_int1 ?_) | (with_reducible refine w_int1b ?_) | (with_reducible refine w_abs ?_) | (with_reducible refine w_max2 ?_) | (with_reducible refine w_min2 ?_)
  | ((with_reducible refine w_eq ?h ?_); (case h => rfl)) | ((with_reducible refine w_ne ?h ?_); (case h => rfl)) | (with_reducible refine w_isN ?_) | (with_reducible refine w_isB ?_) | (with_reducible refine w_chain ?_)
  | (with_reducible refine w_ret ?_) | (with_reducible refine w_drop ?_) | (with_reducible refine w_ifS ?_) | (with_reducible refine w_gsub ?_) | (with_reducible refine w_augS ?_) | (with_reducible refine w_ipI ?_) | (with_reducible refine w_next ?_)
  | (with_reducible refine w_forR ?_) | (with_reducible refine w_forR2 ?_) | (with_reducible refine w_forL ?_) | (with_reducible refine w_forT ?_) | (with_reducible refine w_lcR ?_) | (with_reducible refine w_lcL ?_) | (with_reducible refine w_lcT ?_) | (with_reducible refine w_sl ?_) | (with_reducible refine w_part ?_) | (with_reducible refine w_noPart ?_) | (with_reducible refine w_in ?_)
  | (with_reducible refine w_gcons ?_) | (with_reducible refine w_gnil ?_) | (with_reducible refine w_lc3 ?_) | (with_reducible refine w_dcZ ?_) | (with_reducible refine w_dcT ?_) | (with_reducible refine w_dg ?_) | (with_reducible refine w_callK ?_) | (with_reducible refine w_dput ?_) | (with_reducible refine w_tup1 ?_)
  | (with_reducible refine w_tup ?_) | (with_reducible refine w_lst ?_)
  | ((with_reducible refine w_I ?h ?_); (case h => first | (exact Or.inr ⟨by decide, by decide⟩) | (exact Or.inl ⟨by decide, by decide⟩) | (show (0 : Int) < _; decide) | (exact ⟨by decide, by decide, by decide⟩) | assumption)))
local macro_rules | `(tactic| walk_at "aw") => `(tactic| repeat (walk_at "aw1"))
theorem w_ifEJ {c : TT} {a b : TE} {σ : L2.St} {H : Hp} {Q : VK} (R : V → Hp → Prop) (h1 : ∀ Q' : VK, (∀ v H', R v H' → Q' v H') → tIf c a b σ H Q') (h2 : ∀ v H', R v H' → Q v H') : tIf c a b σ H Q := h1 Q h2
theorem nodup_sub_len {α : Type} [BEq α] [LawfulBEq α] : ∀ {l m : List α}, l.Nodup → (∀ x ∈ l, x ∈ m) → l.length ≤ m.length
  | [], _, _, _ => Nat.zero_le _
  | a :: l, m, hn, h => by
    rw [List.nodup_cons] at hn
    have ha := h a (List.mem_cons_self ..)
    have h1 := nodup_sub_len (l := l) (m := m.erase a) hn.2 fun x hx => (List.mem_erase_of_ne (fun e : x = a => hn.1 (by rw [← e]; exact hx))).mpr (h x (List.mem_cons_of_mem _ hx))
    rw [List.length_erase_of_mem ha] at h1
    have := List.length_pos_of_mem ha
    rw [List.length_cons]
    omega
theorem one_left {l m : List Str} (hn : l.Nodup) (h : m.length < l.length) : 0 < (l.filter fun y => !m.any fun z => decide (z = y)).length := by
  apply Decidable.byContradiction
  intro hc
  have h0 : l.filter (fun y => !m.any fun z => decide (z = y)) = [] := List.length_eq_zero_iff.mp (by omega)
  rw [List.filter_eq_nil_iff] at h0
  have := nodup_sub_len hn (m := m) fun x hx => by
    have h1 := h0 x hx
    rw [Bool.not_eq_true, Bool.not_eq_false'] at h1
    obtain ⟨z, hz, e⟩ := List.any_eq_true.mp h1
    rw [← of_decide_eq_true e]
    exact hz
  omega
theorem strs_shaped {xs : List Str} (h : ∀ x ∈ xs, okS x) : SeqAt.shaped (.list (xs.map .str)) = true := by
  have h1 := lay_strs xs h
  have h2 := deep_strs xs
  have h3 : (PyData.list (xs.map .str)).depth ≤ 64 := by
    simp only [PyData.depth]
    omega
  show ((PyData.list (xs.map .str)).canLay0 && decide ((PyData.list (xs.map .str)).depth ≤ 64)) = true
  rw [decide_eq_true h3, Bool.and_true]
  simp only [PyData.canLay0]
  exact h1
theorem str_shaped {x : Str} (h : okS x) : SeqAt.shaped (.str x) = true := by
  have h1 : PyData.canLay0 (.str x) = true := h
  show ((PyData.str x).canLay0 && decide ((PyData.str x).depth ≤ 64)) = true
  rw [h1, decide_eq_true (by simp [PyData.depth])]
  rfl
theorem eqv_nil (xs : List Str) : PyData.eqv (.list (xs.map .str)) (.list []) = xs.isEmpty := by
  cases xs <;> simp [PyData.eqv, PyData.eqvAll]
theorem any_strs (ns : List Str) (m : Str) : ((ns.map PyData.str).any fun z => PyData.eqv z (.str m)) = ns.any fun n => decide (n = m) := by
  rw [List.any_map]
  refine congrArg (fun f => ns.any f) (funext fun z => ?_)
  show PyData.eqv (.str z) (.str m) = _
  simp only [PyData.eqv]
  first | rfl | (rw [Bool.eq_iff_iff]; simp)
theorem strs_in {rs : List Str} : ∀ {ys : List V}, (∀ (i : Nat) v, ys[i]? = some v → ∃ x, v = .str x ∧ x ∈ rs) → ∃ zs : List Str, ys = zs.map V.str ∧ ∀ z ∈ zs, z ∈ rs
  | [], _ => ⟨[], rfl, fun z h => absurd h (List.not_mem_nil)⟩
  | y :: ys, h => by
    obtain ⟨x, rfl, h1⟩ := h 0 _ rfl
    obtain ⟨zs, rfl, h2⟩ := strs_in (ys := ys) fun i v e => h (i + 1) v (by simpa using e)
    exact ⟨x :: zs, rfl, fun z hz => by
      rcases List.mem_cons.mp hz with e | e
      · rw [e]; exact h1
      · exact h2 z e⟩
theorem idx_all {α : Type} {D : α → PyData} {H : Hp} {es : List α} {d : α} {zs : List V} (t : IsAll H (es.map D) zs) : ∀ (R : List Nat), (∀ i ∈ R, i < es.length) → IsAll H ((R.map fun i => es.getD i d).map D) (R.map fun i => zs.getD i .non)
  | [], _ => .nil
  | i :: R, h => by
    have hi := h i (List.mem_cons_self ..)
    have hz : i < zs.length := by rw [t.length, List.length_map]; exact hi
    obtain ⟨dt, e1, e2⟩ := t.get (List.getElem?_eq_getElem hz)
    rw [List.getElem?_map, List.getElem?_eq_getElem hi] at e1
    cases e1
    refine .cons ?_ (idx_all t R fun j hj => h j (List.mem_cons_of_mem _ hj))
    show Is H (D (es.getD i d)) (zs.getD i .non)
    rw [getD_of (List.getElem?_eq_getElem hi), getD_of (List.getElem?_eq_getElem hz)]
    exact e2
def fewV (q : Str × List Int) : Bool := decide (q.2.length ≤ 6)
def sp__law_saying (_ : PySem.W.Frag) : Sp := fun vs H Q _ => ∃ (st q d : Addr) (kind : Str), vs = [.ref st, .str kind, .ref q, .ref d] ∧ ∃ (cs : Addr) (doms : List (Str × List Int)) (w : Str → Int), StOk st cs H ∧ q ≠ st ∧ LsAt H q (doms.map domD) ∧ WD H d (doms.map (·.1)) w ∧ (doms.map (·.1)).Nodup ∧ (∀ x ∈ doms.map (·.1), okS x) ∧ 3 ≤ doms.length ∧ doms.length ≤ 100 ∧ (∀ q ∈ doms, 0 < q.2.length ∧ q.2.length ≤ 100) ∧ 3 ≤ (doms.filter fewV).length ∧ (kind = "product" ∨ kind = "ahead" ∨ kind = "machine") ∧
  ∀ v (s : Say) H', Go st cs H H' → Is H' (sayD s) v → s.ok → (∀ x ∈ s.names, x ∈ doms.map (·.1)) → Q v H'
def t__law_saying (K : PySem.W.Frag) : TS := (tSeq (tIfS (tTest (tOp rEq (tVar 1) (tC (.str "machine")))) (tRet (tCall (sp__law_machine K) [] E0 (tCons (tVar 0) (tCons (tVar 2) (tCons (tVar 3) tNil))))) tNext)
  (tSeq (tIfS (tTest (tOp rEq (tVar 1) (tC (.str "ahead")))) (tSeq (tAsg (tOp rAddI (tC (.int 1)) (tCall (sp__law_take K) [] E0 (tCons (tVar 0) (tCons (tCB rMin2 (tCons (tC (.int 6)) (tCons (tOp rDivI (tCB (rLen1 K) (tCons (tVar 2) tNil)) (tC (.int 2))) tNil))) tNil)))) (gName 4))
  (tSeq (tAsg (tLc (iList K (tCall (sp__law_shuffled K) [] E0 (tCons (tVar 0) (tCons (tVar 2) tNil)))) (gName 6) tYes (tOp (rIxT K) (tVar 6) (tC (.int 0))) [6]) (gName 5))
  (tSeq (tPar 7 8 (tCons (tSl (rSlL K) (tVar 5) tNoPart (tPart (tVar 4))) (tCons (tSl (rSlL K) (tVar 5) (tPart (tVar 4)) tNoPart) tNil)))
  (tSeq (tAsg (tLst tNil) (gName 9))
  (tSeq (tFor (iList K (tVar 7)) (gName 10)
  (tSeq (tAsg (tLc (iList K (tVar 8)) (gName 12) (tAnd (tTest (tOp (rNotInD K) (tVar 12) (tVar 9))) (tAnd (tTest (tOp rEq (tDGet (tVar 3) (tVar 12)) (tDGet (tVar 3) (tVar 10)))) (tTest (tOp rGtI (tCall (sp__law_take K) [] E0 (tCons (tVar 0) (tCons (tC (.int 4)) tNil))) (tC (.int 0)))))) (tVar 12) [12]) (gName 11))
  (tDrop (tBM K "list" rAppend (tVar 9) (tCons (tIf (tTest (tOp (rNeD K) (tVar 11) (tLst tNil))) (tOp (rIxL K) (tVar 11) (tC (.int 0))) (tOp (rIxL K) (tLc (iList K (tVar 8)) (gName 12) (tTest (tOp (rNotInD K) (tVar 12) (tVar 9))) (tVar 12) [12]) (tC (.int 0)))) tNil)))))
  (tRet (tTup (tCons (tVar 1) (tCons (tThen (tVar 7) (kTup K)) (tCons (tThen (tVar 9) (kTup K)) tNil)))))))))) tNext)
  (tSeq (tAsg (tLc (iList K (tCall (sp__law_shuffled K) [] E0 (tCons (tVar 0) (tCons (tVar 2) tNil)))) (gName 6) (tTest (tOp rLeI (tCB (rLen1 K) (tCons (tOp (rIxT K) (tVar 6) (tC (.int 1))) tNil)) (tC (.int 6)))) (tVar 6) [6]) (gName 13))
  (tSeq (tAsg (tLc (iList K (tSl (rSlL K) (tVar 13) (tPart (tC (.int 2))) tNoPart)) (gName 6) (tTest (tOp rEq (tOp (rIxT K) (tVar 6) (tC (.int 0))) (tOp (rIxT K) (tOp (rIxL K) (tVar 2) (tC (.int 0))) (tC (.int 0))))) (tVar 6) [6]) (gName 14))
  (tRet (tTup (tCons (tVar 1) (tCons (tOp (rIxT K) (tOp (rIxL K) (tVar 13) (tC (.int 0))) (tC (.int 0))) (tCons (tOp (rIxT K) (tOp (rIxL K) (tVar 13) (tC (.int 1))) (tC (.int 0))) (tCons (tOp (rIxT K) (tOp (rIxL K) (tOp rCat (tVar 14) (tSl (rSlL K) (tVar 13) (tPart (tC (.int 2))) tNoPart)) (tC (.int 0))) (tC (.int 0))) tNil))))))))))
theorem len__law_saying {K : PySem.W.Frag} : ∀ (vs : List V) (H : Hp) (Q : VK) (E : XK), sp__law_saying K vs H Q E → vs.length = 4 := fun vs H Q E h => by
  obtain ⟨_, _, _, _, rfl, _⟩ := h
  rfl
theorem pure__law_saying {K : PySem.W.Frag} (vs : List V) (H : Hp) (Q : VK) (E : XK) (h : sp__law_saying K vs H Q E) : t__law_saying K { nx := fun _ H' => Q .non H', rt := Q } (start ["state", "kind", "doms", "at", "many", "row", "pair", "one", "rest", "other", "x", "like", "y", "small", "fit"] vs) H := by
  obtain ⟨st, dq, d, kind, rfl, cs, doms, w, ok, nq, ⟨ds, hq, tq⟩, hd, hnd, hok, hd3, hdl, hdd, hsm, hkind, q⟩ := h
  have hdsl : ds.length = doms.length := by rw [tq.length, List.length_map]
  show t__law_saying K _ [some (.ref st), some (.str kind), some (.ref dq), some (.ref d), none, none, none, none, none, none, none, none, none, none, none] H
  unfold t__law_saying
  walk_at "aw"
  rcases hkind with rfl | rfl | rfl
  · refine w_iteB (fun h => absurd h (by decide)) fun _ => ?_
    walk_at "aw"
    refine w_iteB (fun h => absurd h (by decide)) fun _ => ?_
    walk_at "aw"
    refine ⟨st, dq, rfl, cs, ds, ok, SqL.of hq, nq, by omega, fun o zs H1 hp1 no g1 eo => ?_⟩
    obtain ⟨es, hes, tz⟩ := tq.shuf hp1.symm
    replace tz := tz.up g1.tk
    have hzl : zs.length = es.length := by rw [tz.length, List.length_map]
    have hel := hes.length_eq
    refine ⟨o, rfl, ⟨_, SqL.of eo⟩, ?_⟩
    refine kLc_pure (walk_list (xs := zs)) (by omega) (fun H' g => SqL.of (g.keep _ _ (fun z => nomatch z) eo)) (fun i => fewV (es.getD i (nix, []))) (fun i => zs.getD i .non) (fun i x H2 H3 Kt Kf hi g2 y kt kf => ?_) fun p H2 np a2 ep => ?_
    · obtain ⟨rfl, y1⟩ := y
      obtain ⟨dt, z1, hx⟩ := tz.get y1
      rw [List.getElem?_map] at z1
      obtain ⟨q', z2, rfl⟩ := Option.map_eq_some_iff.mp z1
      obtain ⟨ia, ib, rfl, ea, eb⟩ := is_dom hx
      rw [getD_of z2, getD_of y1] at kt
      rw [getD_of z2] at kf
      walk_at "aw"
      refine ⟨rfl, ?_⟩
      walk_at "aw"
      refine w_ixT (SqT.of (g2.tup _ _ ea)) (i := 1) (v := .ref ib) rfl ?_
      walk_at "aw"
      refine w_lenT (SqT.of (g2.tup _ _ eb)) ?_
      rw [List.length_map]
      walk_at "aw"
      refine w_iteB (fun h => ?_) fun h => ?_
      · walk_at "aw"
        exact kt (decide_eq_true (by omega)) _ (.refl _ _)
      · exact kf (decide_eq_false (by omega)) _ (.refl _ _)
    have tsm : IsAll H2 ((es.filter fewV).map domD) (((List.range es.length).filter fun i => fewV (es.getD i (nix, []))).map fun i => zs.getD i .non) := by
      have h1 := idx_all (d := ((nix, []) : Str × List Int)) (tz.up a2.tup) ((List.range es.length).filter fun i => fewV (es.getD i (nix, []))) fun i hi => List.mem_range.mp (List.mem_filter.mp hi).1
      have h2 := filter_range es (nix, []) fewV id
      rw [List.map_id] at h2
      rw [← h2]
      exact h1
    rw [hzl] at ep
    have hsl : (es.filter fewV).length = (doms.filter fewV).length := (hes.filter _).length_eq
    have hsub : ∀ q ∈ es.filter fewV, q ∈ doms := fun q hq => hes.mem_iff.mp (List.mem_filter.mp hq).1
    generalize (((List.range es.length).filter fun i => fewV (es.getD i (nix, []))).map fun i => zs.getD i .non) = sv at ep tsm
    generalize es.filter fewV = SM at tsm hsl hsub
    have hsvl : sv.length = SM.length := by rw [tsm.length, List.length_map]
    have hSM : SM.length ≤ 100 := by
      rw [hsl]
      exact Nat.le_trans (List.length_filter_le ..) hdl
    have g2 := g1.new a2
    have npst := (g1.ok.ne np).1
    have hq2 := g2.keep nq hq
    obtain ⟨x0, hx0⟩ := get_some (xs := ds) (i := 0) (by omega)
    obtain ⟨dt0, z0, hdt0⟩ := (tq.up g2.tk).get hx0
    rw [List.getElem?_map] at z0
    obtain ⟨q0, z0', rfl⟩ := Option.map_eq_some_iff.mp z0
    obtain ⟨ia0, ib0, rfl, ea0, _⟩ := is_dom hdt0
    walk_at "aw"
    refine w_slL (SqL.of ep) fun l3 H3 nl3 a3 e3 => ?_
    rw [cut_from _ (by decide)] at e3
    have g3 := g2.new a3
    have t3 : IsAll H3 ((SM.drop 2).map domD) (sv.drop 2) := by
      rw [List.map_drop]
      exact (tsm.up a3.tup).drop 2
    refine kLcL_some (SqL.of e3) (g2.ok.ne nl3).1 (by rw [List.length_drop]; omega) g3.ok (fun _ v H => ∃ q, q ∈ doms ∧ Is H (domD q) v) (fun _ => True) (fun k v H H' t h => by
      obtain ⟨q, h1, h2⟩ := h
      exact ⟨q, h1, h2.up t⟩) (fun k x H4 Kt Kf hk g4 kt kf => ?_) fun fi H4 ks ys nfi g4 efi hkl hkp hkm _ hyr => ?_
    · obtain ⟨dt, z1, hx⟩ := t3.get hk
      rw [List.getElem?_map] at z1
      obtain ⟨q', z2, rfl⟩ := Option.map_eq_some_iff.mp z1
      obtain ⟨ia, ib, rfl, ea, eb⟩ := is_dom hx
      have hqm := hsub q' (List.mem_of_mem_drop (List.mem_of_getElem? z2))
      walk_at "aw"
      refine ⟨rfl, ?_⟩
      walk_at "aw"
      refine w_ixT (SqT.of (g4.tk _ _ ea)) (i := 0) (v := .str q'.1) rfl ?_
      walk_at "aw"
      refine w_ixL (SqL.of ((g3.trans g4).keep nq hq)) (at_of (j := 0) rfl hx0) ?_
      walk_at "aw"
      refine w_ixT (SqT.of (g4.tk _ _ (a3.tup _ _ ea0))) (i := 0) (v := .str q0.1) rfl ?_
      walk_at "aw"
      refine w_iteB (fun _ => ?_) fun _ => ?_
      · walk_at "aw"
        exact kt _ _ (.refl g4.ok) ⟨q', hqm, hx.up g4.tk⟩
      · exact kf _ (.refl g4.ok) trivial
    have hyl : ys.length ≤ 100 := by
      have h1 := nodup_short (sv.drop 2).length ks (hkp.imp fun h => Nat.ne_of_lt h) hkm
      rw [List.length_drop] at h1
      omega
    have a34 : Go st cs H2 H4 := (Go.of g2.ok a3).trans g4
    have ep4 := a34.keep npst ep
    have tsm4 := tsm.up a34.tk
    have g4' := g2.trans a34
    have nfist := (g3.ok.ne nfi).1
    have item : ∀ {i : Nat} {v : V}, sv[i]? = some v → ∃ qi ia ib, SM[i]? = some qi ∧ v = .ref ia ∧ H4 ia = some (.tup [.str qi.1, .ref ib]) := fun {i v} e => by
      obtain ⟨dt, z1, hx⟩ := tsm4.get e
      rw [List.getElem?_map] at z1
      obtain ⟨q', z2, rfl⟩ := Option.map_eq_some_iff.mp z1
      obtain ⟨ia, ib, rfl, ea, eb⟩ := is_dom hx
      exact ⟨q', ia, ib, z2, rfl, ea⟩
    obtain ⟨s0, hs0⟩ := get_some (xs := sv) (i := 0) (by omega)
    obtain ⟨s1, hs1⟩ := get_some (xs := sv) (i := 1) (by omega)
    obtain ⟨qa, iaa, iba, hqa, rfl, eqa⟩ := item hs0
    obtain ⟨qb, iab, ibb, hqb, rfl, eqb⟩ := item hs1
    walk_at "aw"
    refine w_ixL (SqL.of ep4) (at_of (j := 0) rfl hs0) ?_
    walk_at "aw"
    refine w_ixT (SqT.of eqa) (i := 0) (v := .str qa.1) rfl ?_
    walk_at "aw"
    refine w_ixL (SqL.of ep4) (at_of (j := 1) rfl hs1) ?_
    walk_at "aw"
    refine w_ixT (SqT.of eqb) (i := 0) (v := .str qb.1) rfl ?_
    walk_at "aw"
    refine w_slL (SqL.of ep4) fun l5 H5 nl5 a5 e5 => ?_
    rw [cut_from _ (by decide)] at e5
    refine w_cat (a5.keep _ _ (fun z => nomatch z) efi) e5 (by rw [List.length_drop]; omega) fun l6 H6 nl6 a6 e6 => ?_
    have g6 := (g4'.new a5).new a6
    have t46 : TK H4 H6 := TK.trans a5.tup a6.tup
    obtain ⟨vz, hvz⟩ := get_some (xs := ys ++ sv.drop (2 : Int).toNat) (i := 0) (by rw [List.length_append, List.length_drop]; show 0 < ys.length + (sv.length - 2); omega)
    obtain ⟨qz, hqz, hvq⟩ : ∃ qz, qz ∈ doms ∧ Is H4 (domD qz) vz := by
      rcases List.mem_append.mp (List.mem_of_getElem? hvz) with h | h
      · obtain ⟨i, hi, e⟩ := List.mem_iff_getElem.mp h
        obtain ⟨k, hk⟩ := get_some (xs := ks) (i := i) (by omega)
        exact hyr i k vz hk (by rw [List.getElem?_eq_getElem hi, e])
      · obtain ⟨i, hi, e⟩ := List.mem_iff_getElem.mp (List.mem_of_mem_drop h)
        obtain ⟨dt, z1, hx⟩ := tsm4.get (by rw [List.getElem?_eq_getElem hi, e] : sv[i]? = some vz)
        rw [List.getElem?_map] at z1
        obtain ⟨q', z2, rfl⟩ := Option.map_eq_some_iff.mp z1
        exact ⟨q', hsub q' (List.mem_of_getElem? z2), hx⟩
    obtain ⟨iz, izb, rfl, eiz, _⟩ := is_dom hvq
    walk_at "aw"
    refine w_ixL (SqL.of e6) (at_of (j := 0) rfl hvz) ?_
    walk_at "aw"
    refine w_ixT (SqT.of (t46 _ _ eiz)) (i := 0) (v := .str qz.1) rfl ?_
    walk_at "aw"
    refine w_tupD (by simp) fun t7 H7 nt7 a7 e7 => ?_
    exact q _ (.prod qa.1 qb.1 qz.1) H7 (g6.new a7) (.tup e7 (.cons (.str _) (.cons (.str _) (.cons (.str _) (.cons (.str _) .nil))))) trivial fun x hx => by
      simp only [Say.names, List.mem_cons, List.not_mem_nil, or_false] at hx
      rcases hx with h | h | h
      · rw [h]; exact List.mem_map_of_mem (hsub qa (List.mem_of_getElem? hqa))
      · rw [h]; exact List.mem_map_of_mem (hsub qb (List.mem_of_getElem? hqb))
      · rw [h]; exact List.mem_map_of_mem hqz
  · refine w_iteB (fun h => absurd h (by decide)) fun _ => ?_
    walk_at "aw"
    refine w_iteB (fun _ => ?_) fun h => absurd rfl h
    walk_at "aw"
    refine w_lenL (SqL.of hq) ?_
    rw [hdsl]
    walk_at "aw"
    refine w_I ⟨by decide, by decide⟩ ?_
    walk_at "aw"
    refine ⟨st, _, rfl, cs, ok, by split <;> omega, by split <;> omega, fun z H1 hz0 hz1 g1 => ?_⟩
    have hz2 : z < 6 ∧ 2 * z + 2 ≤ doms.length := by split at hz1 <;> omega
    clear hz1
    have hq1 := g1.keep nq hq
    walk_at "aw"
    refine ⟨st, dq, rfl, cs, ds, g1.ok, SqL.of hq1, nq, by omega, fun o zs H5 hp5 no g5 eo => ?_⟩
    obtain ⟨es, hes, tz⟩ := (tq.up g1.tk).shuf hp5.symm
    replace tz := tz.up g5.tk
    have hzl : zs.length = es.length := by rw [tz.length, List.length_map]
    have hel := hes.length_eq
    refine kLcL_pure6 eo (fun i => .str (es.getD i (nix, [])).1) (by omega) (fun i x H2 Kt hx g2 kt => ?_) fun p H6 np a6 ep => ?_
    · obtain ⟨dt, z1, hx⟩ := tz.get hx
      rw [List.getElem?_map] at z1
      obtain ⟨q', z2, rfl⟩ := Option.map_eq_some_iff.mp z1
      obtain ⟨ia, ib, rfl, ea, _⟩ := is_dom hx
      rw [getD_of z2] at kt
      walk_at "aw"
      refine ⟨rfl, ?_⟩
      walk_at "aw"
      refine w_ixT (SqT.of (g2.tup _ _ ea)) rfl ?_
      exact kt _ (.refl _ _)
    generalize hrs : es.map (·.1) = rs
    replace ep : H6 p = some (.lst (rs.map V.str)) := by
      rw [hzl] at ep
      rw [ep, ← hrs, List.map_map, ← map_range es (nix, [])]
      rfl
    have hrsn : rs.Nodup := by rw [← hrs]; exact (hes.map _).nodup_iff.mpr hnd
    have hrsl : rs.length = doms.length := by rw [← hrs, List.length_map, hel]
    have hrsm : ∀ x, x ∈ rs ↔ x ∈ doms.map (·.1) := fun x => by rw [← hrs]; exact (hes.map _).mem_iff
    have g6 := (g1.trans g5).new a6
    have npst : p ≠ st := ((g1.trans g5).ok.ne np).1
    walk_at "aw"
    refine w_par0 ?_
    walk_at "aw"
    refine w_slL (SqL.of ep) fun l7 H7 nl7 a7 e7 => ?_
    rw [cut_to _ (by omega), ← List.map_take] at e7
    walk_at "aw"
    refine w_slL (SqL.of (a7.keep _ _ (fun z => nomatch z) ep)) fun l8 H8 nl8 a8 e8 => ?_
    rw [cut_from _ (by omega), ← List.map_drop] at e8
    walk_at "aw"
    refine ⟨_, _, rfl, ?_⟩
    walk_at "aw"
    have g7 := g6.new a7
    have g8 := g7.new a8
    have e7' := a8.keep _ _ (fun z => nomatch z) e7
    have nl7st := (g6.ok.ne nl7).1
    have nl8st := (g7.ok.ne nl8).1
    have hOl : (rs.take (1 + z).toNat).length = (1 + z).toNat := by rw [List.length_take]; omega
    have hOm : ∀ x ∈ rs.take (1 + z).toNat, x ∈ rs := fun x hx => List.mem_of_mem_take hx
    have hRl : (1 + z).toNat ≤ (rs.drop (1 + z).toNat).length := by rw [List.length_drop]; omega
    have hRl2 : (rs.drop (1 + z).toNat).length ≤ 100 := by rw [List.length_drop]; omega
    have hRm : ∀ x ∈ rs.drop (1 + z).toNat, x ∈ rs := fun x hx => List.mem_of_mem_drop hx
    have hRn : (rs.drop (1 + z).toNat).Nodup := hrsn.sublist (List.drop_sublist ..)
    generalize rs.take (1 + z).toNat = OS at e7 e7' hOl hOm
    generalize rs.drop (1 + z).toNat = RT at e8 hRl hRl2 hRm hRn
    have hokr : ∀ x ∈ RT, okS x := fun x hx => hok x ((hrsm x).mp (hRm x hx))
    have hd8 := hd.go ok g8
    refine w_lstD (by simp) fun lo H9 nlo a9 e9 => ?_
    have nlost := (g8.ok.ne nlo).1
    have ok8 := g8.ok
    walk_at "aw"
    refine kForL_i (xs := OS.map V.str) (fun i σ H' => ∃ y10 y11 os, σ = [some (.ref st), some (.str "ahead"), some (.ref dq), some (.ref d), some (.int (1 + z)), some (.ref p), none, some (.ref l7), some (.ref l8), some (.ref lo), y10, y11, none, none, none] ∧ Go st cs H8 H' ∧ H' lo = some (.lst ((os : List Str).map V.str)) ∧ os.length = i ∧ ∀ x ∈ os, x ∈ RT)
      (SqL.of (a9.keep _ _ (fun z => nomatch z) e7')) ⟨none, none, [], rfl, Go.of ok8 a9, e9, rfl, fun x h => absurd h (List.not_mem_nil)⟩ (fun i σ H' _ pp => ?_) (fun i v σ H' hv pp => ?_) fun σ H' pp => ?_
    · obtain ⟨_, _, _, _, g, _⟩ := pp
      exact SqL.of (g.keep nl7st e7')
    · obtain ⟨y10, y11, os, rfl, g, elo, hosl, hosm⟩ := pp
      rw [List.getElem?_map] at hv
      obtain ⟨x, hx1, rfl⟩ := Option.map_eq_some_iff.mp hv
      have hxm := (hrsm x).mp (hOm x (List.mem_of_getElem? hx1))
      have hiO : i < OS.length := (List.getElem?_eq_some_iff.mp hx1).1
      have e8' := g.keep nl8st e8
      have hoso : ∀ x ∈ os, okS x := fun x hx => hokr x (hosm x hx)
      walk_at "aw"
      refine kLcL_some (SqL.of e8') nl8st (by rw [List.length_map]; omega) g.ok (fun _ v _ => ∃ y, v = .str y ∧ y ∈ RT) (fun _ => True) (fun _ _ _ _ _ h => h) (fun k y H10 Kt Kf hk g10 kt kf => ?_) fun lk H10 ks ys nlk g10 elk hkl hkp hkm _ hyr => ?_
      · rw [List.getElem?_map] at hk
        obtain ⟨y, hy1, rfl⟩ := Option.map_eq_some_iff.mp hk
        have hym := List.mem_of_getElem? hy1
        have hd10 := hd8.go ok8 (g.trans g10)
        walk_at "aw"
        refine ⟨rfl, ?_⟩
        walk_at "aw"
        refine ⟨.str y, os.map .str, (Is.str y).dp, .lst (SqL.of (g10.keep nlost elo)) (IsAll.strs _).dp, str_shaped (hokr y hym), strs_shaped hoso, ?_⟩
        walk_at "aw"
        cases hb : (!(os.map PyData.str).any fun z => PyData.eqv z (.str y)) with
        | false =>
          refine iteF'' rfl ?_
          exact kf _ (.refl g10.ok) trivial
        | true =>
          refine iteT'' rfl ?_
          walk_at "aw"
          refine hd10.get ((hrsm y).mp (hRm y hym)) ?_
          walk_at "aw"
          refine hd10.get hxm ?_
          walk_at "aw"
          refine w_iteB (fun _ => ?_) fun _ => ?_
          · walk_at "aw"
            refine ⟨st, _, rfl, cs, g10.ok, by omega, by omega, fun z H11 _ _ g11 => ?_⟩
            walk_at "aw"
            refine w_iteB (fun _ => ?_) fun _ => ?_
            · walk_at "aw"
              exact kt _ _ g11 ⟨y, rfl, hym⟩
            · exact kf _ g11 trivial
          · exact kf _ (.refl g10.ok) trivial
      obtain ⟨LK, rfl, hLK⟩ := strs_in (rs := RT) (ys := ys) fun i v e => by
        obtain ⟨k, hk⟩ := get_some (xs := ks) (i := i) (by have := (List.getElem?_eq_some_iff.mp e).1; omega)
        exact hyr i k v hk e
      have g10' := g.trans g10
      have elo10 := g10.keep nlost elo
      walk_at "aw"
      refine w_app rfl elo10 ?_
      with_reducible refine w_cons ?_
      refine w_ifEJ (fun v H' => ∃ y : Str, v = .str y ∧ y ∈ RT ∧ Adv [] H10 H') (fun Q' hQ => ?_) fun v H11 hR => ?_
      · walk_at "aw"
        refine w_lstD (by simp) fun l11 H11 nl11 a11 e11 => ?_
        have elk11 := a11.keep _ _ (fun z => nomatch z) elk
        walk_at "aw"
        refine ⟨.list (LK.map .str), .list [], .lst (SqL.of elk11) (IsAll.strs _).dp, .lst (SqL.of e11) (IsAll.dp (K := K) IsAll.nil), strs_shaped fun x hx => hokr x (hLK x hx), strs_shaped (xs := []) (fun x h => absurd h (List.not_mem_nil)), ?_⟩
        rw [eqv_nil]
        walk_at "aw"
        cases LK with
        | cons a l =>
          refine iteT'' rfl ?_
          walk_at "aw"
          refine w_ixL (SqL.of elk11) (at_of (j := 0) (v := .str a) rfl rfl) ?_
          exact hQ _ _ ⟨a, rfl, hLK a (List.mem_cons_self ..), a11⟩
        | nil =>
          refine iteF'' rfl ?_
          walk_at "aw"
          have e811 := a11.keep _ _ (fun z => nomatch z) (g10.keep nl8st e8')
          have elo11 := a11.keep _ _ (fun z => nomatch z) elo10
          refine ⟨l8, rfl, ⟨_, SqL.of e811⟩, ?_⟩
          refine kLc_pure (walk_list (xs := RT.map V.str)) (by rw [List.length_map]; omega) (fun H' g => SqL.of (g.keep _ _ (fun z => nomatch z) e811)) (fun i => !os.any fun z => decide (z = RT.getD i nix)) (fun i => .str (RT.getD i nix)) (fun i y H2 H3 Kt Kf hi g2 yy kt kf => ?_) fun l12 H12 nl12 a12 e12 => ?_
          · obtain ⟨rfl, y1⟩ := yy
            rw [List.getElem?_map] at y1
            obtain ⟨n1, z1, rfl⟩ := Option.map_eq_some_iff.mp y1
            rw [getD_of z1] at kt kf
            walk_at "aw"
            refine ⟨rfl, ?_⟩
            walk_at "aw"
            refine ⟨.str n1, os.map .str, (Is.str n1).dp, .lst (SqL.of (g2.keep _ _ (fun z => nomatch z) elo11)) (IsAll.strs _).dp, str_shaped (hokr n1 (List.mem_of_getElem? z1)), strs_shaped hoso, ?_⟩
            rw [any_strs]
            walk_at "aw"
            cases hb : !os.any fun z => decide (z = n1) with
            | true =>
              refine iteT'' rfl ?_
              walk_at "aw"
              exact kt hb _ (.refl _ _)
            | false =>
              refine iteF'' rfl ?_
              exact kf hb _ (.refl _ _)
          · rw [List.length_map, filter_range RT nix (fun y => !os.any fun z => decide (z = y)) V.str] at e12
            have hpos := one_left hRn (m := os) (by omega)
            obtain ⟨y, hy⟩ := get_some (xs := RT.filter fun y => !os.any fun z => decide (z = y)) (i := 0) hpos
            walk_at "aw"
            refine w_ixL (SqL.of e12) (at_of (j := 0) (v := .str y) rfl (by rw [List.getElem?_map, hy]; rfl)) ?_
            exact hQ _ _ ⟨y, rfl, (List.mem_filter.mp (List.mem_of_getElem? hy)).1, a11.trans a12⟩
      · obtain ⟨y, rfl, hym, a11⟩ := hR
        walk_at "aw"
        have g11 := g10'.new a11
        have elo11 := a11.keep _ _ (fun z => nomatch z) elo10
        refine w_append elo11 (by rw [List.length_map]; omega) ?_
        refine ⟨_, _, os ++ [y], rfl, g11.mutL ok8 nlo elo11, by rw [upd_same, List.map_append]; rfl, by rw [List.length_append, List.length_singleton, hosl], fun u hu => ?_⟩
        rcases List.mem_append.mp hu with h | h
        · exact hosm u h
        · rw [List.mem_singleton.mp h]; exact hym
    · obtain ⟨y10, y11, os, rfl, g, elo, hosl, hosm⟩ := pp
      rw [List.length_map] at hosl
      walk_at "aw"
      refine w_tupL (SqL.of (g.keep nl7st e7')) fun t12 H12 nt12 a12 e12 => ?_
      walk_at "aw"
      refine w_tupL (SqL.of (a12.keep _ _ (fun z => nomatch z) elo)) fun t13 H13 nt13 a13 e13 => ?_
      walk_at "aw"
      refine w_tupD (by simp) fun t14 H14 nt14 a14 e14 => ?_
      exact q _ (.ahead OS os) H14 ((((g8.trans g).new a12).new a13).new a14) (.tup e14 (.cons (.str _) (.cons (.tup (a14.tup _ _ (a13.tup _ _ e12)) (IsAll.strs _)) (.cons (.tup (a14.tup _ _ e13) (IsAll.strs _)) .nil)))) ⟨by omega, by omega⟩ fun x hx => by
        rcases List.mem_append.mp hx with h | h
        · exact (hrsm x).mp (hOm x h)
        · exact (hrsm x).mp (hRm x (hosm x h))
  · refine w_iteB (fun _ => ?_) fun h => absurd rfl h
    walk_at "aw"
    exact ⟨st, dq, d, rfl, cs, doms, w, ok, nq, ⟨ds, hq, tq⟩, hd, by omega, hdl, hdd, q⟩
end AW
namespace AW
open PySem PySem.Spec PyProof.Rows L2 RZ
local macro_rules | `(tactic| walk_at "aw1") => `(tactic| first
  | (with_reducible refine w_seq ?_) | (with_reducible refine w_asg ?_) | (with_reducible refine w_gname ?_) | (with_reducible refine w_op ?_) | (with_reducible refine w_un ?_)
  | ((with_reducible refine' w_var ?h ?_); (case h => rfl)) | (with_reducible refine w_c ?_)
  | (with_reducible refine w_I0 ?_) | (with_reducible refine w_U ?_) | (with_reducible refine w_cb ?_) | (with_reducible refine w_nil ?_) | (with_reducible refine w_cons ?_) | (with_reducible refine w_call ?_)
  | (with_reducible refine w_test ?_) | (with_reducible refine w_B ?_) | (with_reducible refine w_bl ?_) | (with_reducible refine w_not ?_) | (with_reducible refine w_yes ?_) | (with_reducible refine iteT ?_) | (with_reducible refine iteF ?_) | (with_reducible refine w_and ?_) | (with_reducible refine w_or ?_)
  | (with_reducible refine w_andV ?_) | (with_reducible refine w_orV ?_) | (with_reducible refine w_notV ?_) | (with_reducible refine w_if ?_)
  | (with_reducible refine w_int1 ?_) | (with_reducible refine w_int1b ?_) | (with_reducible refine w_abs ?_) | (with_reducible refine w_max2 ?_) | (with_reducible refine w_min2 ?_)
  | ((with_reducible refine w_eq ?h ?_); (case h => rfl)) | ((with_reducible refine w_ne ?h ?_); (case h => rfl)) | (with_reducible refine w_isN ?_) | (with_reducible refine w_isB ?_) | (with_reducible refine w_chain ?_)
  | (with_reducible refine w_ret ?_) | (with_reducible refine w_drop ?_) | (with_reducible refine w_ifS ?_) | (with_reducible refine w_gsub ?_) | (with_reducible refine w_augS ?_) | (with_reducible refine w_ipI ?_) | (with_reducible refine w_next ?_)
  | (with_reducible refine w_forR ?_) | (with_reducible refine w_forR2 ?_) | (with_reducible refine w_forL ?_) | (with_reducible refine w_forT ?_) | (with_reducible refine w_lcR ?_) | (with_reducible refine w_lcL ?_) | (with_reducible refine w_lcT ?_) | (with_reducible refine w_sl ?_) | (with_reducible refine w_part ?_) | (with_reducible refine w_noPart ?_) | (with_reducible refine w_in ?_)
  | (with_reducible refine w_gcons ?_) | (with_reducible refine w_gnil ?_) | (with_reducible refine w_lc3 ?_) | (with_reducible refine w_dcZ ?_) | (with_reducible refine w_dcT ?_) | (with_reducible refine w_dg ?_) | (with_reducible refine w_callK ?_) | (with_reducible refine w_dput ?_) | (with_reducible refine w_tup1 ?_)
  | (with_reducible refine w_tup ?_) | (with_reducible refine w_lst ?_)
  | ((with_reducible refine w_I ?h ?_); (case h => first | (exact Or.inr ⟨by decide, by decide⟩) | (exact Or.inl ⟨by decide, by decide⟩) | (show (0 : Int) < _; decide) | (exact ⟨by decide, by decide, by decide⟩) | assumption)))
local macro_rules | `(tactic| walk_at "aw") => `(tactic| repeat (walk_at "aw1"))
def sp_law (K : PySem.W.Frag) : Sp := fun vs H Q _ => ∃ (a : Addr) (ns : List Int), vs = [.ref a] ∧ SqL K H a (ns.map V.int) ∧ ns.length ≤ 63 ∧ ∀ H', Q (.bl true) H'
def InS (names : List Str) (s : Say) : Prop := s.ok ∧ ∀ x ∈ s.names, x ∈ names
theorem w_rgC {c : Int} {n : Nat} {σ : L2.St} {H : Hp} {Q : VK} (hn : n ≤ 100000) (hc : c = (n : Nat)) (q : ∀ r H', H r = none → Adv [] H H' → H' r = some (.lst ((List.range n).map fun k => V.int (k : Nat))) → Q (.ref r) H') : tLstRg (tRg1 (tC (.int c))) σ H Q := by
  subst hc
  refine ⟨n, rfl, .of_le (by omega) (by omega) (by omega) (by omega), fun p hp => ?_⟩
  have e : rgV 0 (n : Nat) = (List.range n).map fun k => V.int (k : Nat) := by
    unfold rgV
    rw [show ((n : Int) - 0).toNat = n by omega]
    refine List.map_congr_left fun k _ => ?_
    rw [Int.zero_add]
  rw [e]
  exact w_new q p hp
theorem w_joinS {c : Bool} {t1 t2 : TS} {D : Ends} {σ : L2.St} {H : Hp} (R : L2.St → Hp → Prop) (h1 : ∀ D' : Ends, c = true → (∀ σ' H', R σ' H' → D'.nx σ' H') → t1 D' σ H) (h2 : ∀ D' : Ends, c = false → (∀ σ' H', R σ' H' → D'.nx σ' H') → t2 D' σ H) (hq : ∀ σ' H', R σ' H' → D.nx σ' H') : if c = true then t1 D σ H else t2 D σ H := by
  cases c with
  | true => exact iteT (h1 D rfl hq)
  | false => exact iteF (h2 D rfl hq)
theorem perm_ints {n : Nat} {ys : List V} (h : ys.Perm ((List.range n).map fun k => V.int (k : Nat))) : ys.length = n ∧ ∃ ns : List Int, ys = ns.map V.int := by
  refine ⟨by rw [h.length_eq, List.length_map, List.length_range], ints_of fun i v hv => ?_⟩
  obtain ⟨k, _, rfl⟩ := List.mem_map.mp (h.mem_iff.mp (List.mem_of_getElem? hv))
  exact ⟨_, rfl⟩
theorem made_of {H : Hp} {names : List Str} {P : Say → Prop} : ∀ (mv : List V) (o : Nat), (∀ (i : Nat) v, mv[i]? = some v → ∃ x s, names[o + i]? = some x ∧ P s ∧ Is H (itD (x, s)) v) → ∃ made : List (Str × Say), IsAll H (made.map itD) mv ∧ made.map (·.1) = (names.drop o).take mv.length ∧ ∀ q ∈ made, P q.2
  | [], o, _ => ⟨[], .nil, by simp, fun q h => absurd h (List.not_mem_nil)⟩
  | v :: mv, o, h => by
    obtain ⟨x, s, h1, h2, h3⟩ := h 0 v rfl
    obtain ⟨made, h4, h5, h6⟩ := made_of (names := names) (P := P) mv (o + 1) fun i v e => by
      obtain ⟨x, s, z1, z2⟩ := h (i + 1) v (by simpa using e)
      exact ⟨x, s, by rw [show o + 1 + i = o + (i + 1) by omega]; exact z1, z2⟩
    refine ⟨(x, s) :: made, .cons h3 h4, ?_, fun q hq => ?_⟩
    · have ho : o < names.length := (List.getElem?_eq_some_iff.mp h1).1
      rw [List.map_cons, h5, List.drop_eq_getElem_cons ho, List.length_cons, List.take_succ_cons]
      rw [Nat.add_zero] at h1
      rw [List.getElem?_eq_getElem ho] at h1
      rw [Option.some.inj h1]
    · rcases List.mem_cons.mp hq with e | e
      · rw [e]; exact h2
      · exact h6 q e
theorem ints_pr {P : Int → Prop} : ∀ {ys : List V}, (∀ (i : Nat) v, ys[i]? = some v → ∃ z : Int, v = .int z ∧ P z) → ∃ zs : List Int, ys = zs.map V.int ∧ ∀ z ∈ zs, P z
  | [], _ => ⟨[], rfl, fun z h => absurd h (List.not_mem_nil)⟩
  | y :: ys, h => by
    obtain ⟨z, rfl, h1⟩ := h 0 _ rfl
    obtain ⟨ws, rfl, h2⟩ := ints_pr (ys := ys) fun i v e => h (i + 1) v (by simpa using e)
    exact ⟨z :: ws, rfl, fun y hy => by
      rcases List.mem_cons.mp hy with h | h
      · rw [h]; exact h1
      · exact h2 y h⟩
theorem WD.sub {H : Hp} {d : Addr} {names names' : List Str} {w : Str → Int} (h : WD H d names w) (hs : ∀ x ∈ names', x ∈ names) : WD H d names' w := by
  obtain ⟨kvs, h1, h2⟩ := h
  exact ⟨kvs, h1, fun x hx => h2 x (hs x hx)⟩
theorem three_few {dv : List (Str × List Int)} (h3 : 3 ≤ dv.length) (h : ∀ (i : Nat) q, i < 3 → dv[i]? = some q → q.2.length ≤ 6) : 3 ≤ (dv.filter fewV).length := by
  match dv, h3 with
  | a :: b :: c :: l, _ =>
    have ha : fewV a = true := decide_eq_true (h 0 a (by omega) rfl)
    have hb : fewV b = true := decide_eq_true (h 1 b (by omega) rfl)
    have hc : fewV c = true := decide_eq_true (h 2 c (by omega) rfl)
    rw [List.filter_cons_of_pos ha, List.filter_cons_of_pos hb, List.filter_cons_of_pos hc]
    simp only [List.length_cons]
    omega
def t_law (K : PySem.W.Frag) : TS := (tSeq (tAsg (tCall (sp__law_start K) [] E0 (tCons (tVar 0) tNil)) (gName 1))
  (tSeq (tAsg (tOp rEq (tCall (sp__law_take K) [] E0 (tCons (tVar 1) (tCons (tC (.int 8)) tNil))) (tC (.int 0))) (gName 2))
  (tSeq (tAsg (tOp rCat (tLst (tCons (tOp rAddI (tC (.int 1)) (tCall (sp__law_take K) [] E0 (tCons (tVar 1) (tCons (tC (.int 4)) tNil)))) (tCons (tOp rAddI (tC (.int 1)) (tCall (sp__law_take K) [] E0 (tCons (tVar 1) (tCons (tC (.int 3)) tNil)))) (tCons (tOp rAddI (tC (.int 1)) (tCall (sp__law_take K) [] E0 (tCons (tVar 1) (tCons (tC (.int 3)) tNil)))) tNil)))) (tLc (iRng1 (tCons (tCall (sp__law_take K) [] E0 (tCons (tVar 1) (tCons (tC (.int 2)) tNil))) tNil)) (gName 4) tYes (tOp rAddI (tC (.int 1)) (tCall (sp__law_take K) [] E0 (tCons (tVar 1) (tCons (tC (.int 2)) tNil)))) [4])) (gName 3))
  (tSeq (tIfS (tB (tVar 2)) (tAsg (tOp rCat (tLc (iRng1 (tCons (tC (.int 4)) tNil)) (gName 4) tYes (tOp rAddI (tC (.int 1)) (tCall (sp__law_take K) [] E0 (tCons (tVar 1) (tCons (tC (.int 6)) tNil)))) [4]) (tLc (iRng1 (tCons (tOp rAddI (tC (.int 9)) (tCall (sp__law_take K) [] E0 (tCons (tVar 1) (tCons (tC (.int 12)) tNil)))) tNil)) (gName 4) tYes (tCall (sp__law_pick K) [] E0 (tCons (tVar 1) (tCons (tLst (tCons (tC (.int 1)) (tCons (tC (.int 2)) (tCons (tC (.int 5)) (tCons (tC (.int 12)) (tCons (tC (.int 12)) tNil)))))) tNil))) [4])) (gName 3)) tNext)
  (tSeq (tAsg (tCall (sp__law_names K) [] E0 (tCons (tVar 1) (tCons (tOp rAddI (tCB (rLen1 K) (tCons (tVar 3) tNil)) (tC (.int 5))) tNil))) (gName 5))
  (tSeq (tAsg (tCall (sp__law_pick K) [] E0 (tCons (tVar 1) (tCons (tLst (tCons (tC (.int 0)) (tCons (tUn rNeg (tC (.int 1))) (tCons (tUn rNeg (tC (.int 2))) (tCons (tUn rNeg (tC (.int 5))) (tCons (tC (.int 9)) (tCons (tUn rNeg (tC (.int 14))) (tCons (tOp rSubI (tCall (sp__law_take K) [] E0 (tCons (tVar 1) (tCons (tC (.int 389)) tNil))) (tC (.int 200))) tNil)))))))) tNil))) (gName 6))
  (tSeq (tAsg (tLst tNil) (gName 7))
  (tSeq (tFor (iRng2 (tCons (tC (.int 1)) (tCons (tCB (rLen1 K) (tCons (tVar 3) tNil)) tNil))) (gName 4)
  (tSeq (tAsg (tThen (tLc (iList K (tCB (rSortedI K) (tCons (tSl (rSlL K) (tCall (sp__law_shuffled K) [] E0 (tCons (tVar 1) (tCons (tLstRg (tRg1 (tC (.int 12)))) tNil))) tNoPart (tPart (tOp (rIxL K) (tVar 3) (tVar 4)))) tNil))) (gName 9) tYes (tOp rAddI (tVar 6) (tVar 9)) [9]) (kTup K)) (gName 8))
  (tDrop (tBM K "list" rAppend (tVar 7) (tCons (tTup (tCons (tOp (rIxL K) (tVar 5) (tVar 4)) (tCons (tIf (tTest (tOp rEq (tCall (sp__law_take K) [] E0 (tCons (tVar 1) (tCons (tC (.int 2)) tNil))) (tC (.int 0)))) (tVar 8) (tThen (tLc (iRng1 (tCons (tOp (rIxL K) (tVar 3) (tVar 4)) tNil)) (gName 9) tYes (tOp rAddI (tVar 6) (tVar 9)) [9]) (kTup K))) tNil))) tNil)))))
  (tSeq (tAsg (tOp rCat (tLst (tCons (tTup (tCons (tOp (rIxL K) (tVar 5) (tC (.int 0))) (tCons (tCall (sp__law_times K) [] E0 (tCons (tVar 1) (tCons (tVar 7) (tCons (tOp (rIxL K) (tVar 3) (tC (.int 0))) tNil)))) tNil))) tNil)) (tVar 7)) (gName 7))
  (tSeq (tAsg (tCall (sp__law_shuffled K) [] E0 (tCons (tVar 1) (tCons (tVar 7) tNil))) (gName 10))
  (tSeq (tAsg (tThen (tLc (iList K (tVar 10)) (gName 12) tYes (tCall (sp__law_pick K) [] E0 (tCons (tVar 1) (tCons (tOp (rIxT K) (tVar 12) (tC (.int 1))) tNil))) [12]) (kTup K)) (gName 11))
  (tSeq (tAsg (tCall (sp__law_world K) [] E0 (tCons (tVar 10) (tCons (tVar 11) tNil))) (gName 13))
  (tSeq (tAsg (tOp rCat (tCall (sp__law_shuffled K) [] E0 (tCons (tVar 1) (tCons (tLst (tCons (tC (.str "product")) (tCons (tC (.str "ahead")) (tCons (tC (.str "machine")) (tCons (tC (.str "machine")) tNil))))) tNil))) (tLst (tCons (tCall (sp__law_pick K) [] E0 (tCons (tVar 1) (tCons (tLst (tCons (tC (.str "product")) (tCons (tC (.str "ahead")) (tCons (tC (.str "machine")) tNil)))) tNil))) tNil))) (gName 14))
  (tSeq (tAsg (tLc (iRng1 (tCons (tC (.int 5)) tNil)) (gName 4) tYes (tTup (tCons (tOp (rIxL K) (tVar 5) (tOp rAddI (tCB (rLen1 K) (tCons (tVar 3) tNil)) (tVar 4))) (tCons (tCall (sp__law_saying K) [] E0 (tCons (tVar 1) (tCons (tOp (rIxL K) (tVar 14) (tVar 4)) (tCons (tVar 7) (tCons (tVar 13) tNil))))) tNil))) [4]) (gName 15))
  (tSeq (tAsg (tCall (sp__law_parted K) [] E0 (tCons (tVar 1) (tCons (tVar 15) (tCons (tVar 13) tNil)))) (gName 16))
  (tSeq (tAsg (tIf (tNot (tB (tVar 2))) (tCall (sp__law_fillings K) [] E0 (tCons (tVar 10) tNil)) (tOp rCat (tLst (tCons (tVar 11) tNil)) (tLc (iRng1 (tCons (tC (.int 30)) tNil)) (gName 4) tYes (tCall (sp__law_near K) [] E0 (tCons (tVar 1) (tCons (tVar 10) (tCons (tVar 11) tNil)))) [4]))) (gName 17))
  (tRet (tCall (sp__law_by_turns K) [] E0 (tCons (tVar 1) (tCons (tVar 10) (tCons (tVar 15) (tCons (tOp (rIxL K) (tVar 16) (tC (.int 0))) (tCons (tOp (rIxL K) (tVar 16) (tC (.int 1))) (tCons (tVar 17) (tCons (tVar 11) tNil)))))))))))))))))))))))))
theorem len_law {K : PySem.W.Frag} : ∀ (vs : List V) (H : Hp) (Q : VK) (E : XK), sp_law K vs H Q E → vs.length = 1 := fun vs H Q E h => by
  obtain ⟨_, _, rfl, _⟩ := h
  rfl
theorem pure_law {K : PySem.W.Frag} (vs : List V) (H : Hp) (Q : VK) (E : XK) (h : sp_law K vs H Q E) : t_law K { nx := fun _ H' => Q .non H', rt := Q } (start ["script", "state", "great", "sizes", "k", "names", "low", "doms", "near", "v", "order", "base", "pair", "at", "kinds", "made", "parted", "fillings"] vs) H := by
  obtain ⟨sc, ns, rfl, hsc, hnsl, q⟩ := h
  show t_law K _ [some (.ref sc), none, none, none, none, none, none, none, none, none, none, none, none, none, none, none, none, none] H
  unfold t_law
  walk_at "aw"
  refine ⟨sc, ns, rfl, hsc, hnsl, fun st cs H1 ok _ _ => ?_⟩
  walk_at "aw"
  refine ⟨st, _, rfl, cs, ok, by omega, by omega, fun g H2 _ _ g2 => ?_⟩
  walk_at "aw"
  generalize decide (V.int g = V.int 0) = b
  refine ⟨st, _, rfl, cs, g2.ok, by omega, by omega, fun x1 H3 h10 h11 g3 => ?_⟩
  walk_at "aw"
  refine ⟨st, _, rfl, cs, g3.ok, by omega, by omega, fun x2 H4 h20 h21 g4 => ?_⟩
  walk_at "aw"
  refine ⟨st, _, rfl, cs, g4.ok, by omega, by omega, fun x3 H5 h30 h31 g5 => ?_⟩
  walk_at "aw"
  refine w_lstD (by simp) fun l6 H6 nl6 a6 e6 => ?_
  have g6 := ((g3.trans g4).trans g5).new a6
  have nl6st := (g5.ok.ne nl6).1
  walk_at "aw"
  refine ⟨st, _, rfl, cs, g6.ok, by omega, by omega, fun m H7 hm0 hm1 g7 => ?_⟩
  walk_at "aw"
  rw [show m = ((m.toNat : Nat) : Int) by omega]
  refine kLcR_all (n := m.toNat) (by omega) g7.ok (fun _ v _ => ∃ z : Int, v = .int z ∧ 1 ≤ z ∧ z ≤ 4) (fun _ _ _ _ _ h => h) (fun k H8 Kt hk g8 kt => ?_) fun l8 H8 ys nl8 g8 e8 hyl hyr => ?_
  · walk_at "aw"
    refine ⟨rfl, ?_⟩
    walk_at "aw"
    refine ⟨st, _, rfl, cs, g8.ok, by omega, by omega, fun x H9 hx0 hx1 g9 => ?_⟩
    walk_at "aw"
    exact kt _ _ g9 ⟨_, rfl, by omega, by omega⟩
  obtain ⟨zt, rfl, hzt⟩ := ints_pr hyr
  rw [List.length_map] at hyl
  refine w_cat ((g7.trans g8).keep nl6st e6) e8 (by simp; omega) fun r0 H9 nr0 a9 er0 => ?_
  obtain ⟨zs0, hzs0⟩ : ∃ zs0 : List Int, zs0 = [1 + x1, 1 + x2, 1 + x3] ++ zt := ⟨_, rfl⟩
  replace er0 : H9 r0 = some (.lst (zs0.map V.int)) := by
    rw [er0, hzs0, List.map_append]
    rfl
  have hz0l : 3 ≤ zs0.length ∧ zs0.length ≤ 4 := by
    rw [hzs0, List.length_append]
    simp only [List.length_cons, List.length_nil]
    omega
  have hz0b : ∀ z ∈ zs0, 1 ≤ z ∧ z ≤ 4 := fun z hz => by
    rw [hzs0] at hz
    rcases List.mem_append.mp hz with h | h
    · simp only [List.mem_cons, List.not_mem_nil, or_false] at h
      omega
    · exact hzt z h
  clear hzs0 e8 e6
  have g9 := ((g6.trans g7).trans g8).new a9
  have nr0st := ((g7.trans g8).ok.ne nr0).1
  walk_at "aw"
  refine w_joinS (fun σ' H' => ∃ y4 l zs, σ' = [some (.ref sc), some (.ref st), some (.bl b), some (.ref l), y4, none, none, none, none, none, none, none, none, none, none, none, none, none] ∧ Go st cs H2 H' ∧ l ≠ st ∧ H' l = some (.lst ((zs : List Int).map V.int)) ∧ 3 ≤ zs.length ∧ zs.length ≤ 24 ∧ (∀ z ∈ zs, 1 ≤ z ∧ z ≤ 12) ∧ (b = false → zs.length ≤ 5 ∧ ∀ z ∈ zs, z ≤ 4) ∧ ∀ (i : Nat) z, i < 3 → zs[i]? = some z → z ≤ 6) (fun D' hb kt => ?_) (fun D' hb kt => ?_) fun σ' H4 hR => ?_
  · walk_at "aw"
    refine kLcR_all (n := 4) (by omega) g9.ok (fun _ v _ => ∃ z : Int, v = .int z ∧ 1 ≤ z ∧ z ≤ 6) (fun _ _ _ _ _ h => h) (fun k H5 Kt hk g5 kt2 => ?_) fun la H5 ys nla g5 ela hyl hyr => ?_
    · walk_at "aw"
      refine ⟨rfl, ?_⟩
      walk_at "aw"
      refine ⟨st, _, rfl, cs, g5.ok, by omega, by omega, fun x H6 hx0 hx1 g6 => ?_⟩
      walk_at "aw"
      exact kt2 _ _ g6 ⟨_, rfl, by omega, by omega⟩
    obtain ⟨za, rfl, hza⟩ := ints_pr hyr
    rw [List.length_map] at hyl
    have nlast := (g9.ok.ne nla).1
    have k5 := g9.trans g5
    walk_at "aw"
    refine ⟨st, _, rfl, cs, k5.ok, by omega, by omega, fun m H4 hm0 hm1 g4 => ?_⟩
    walk_at "aw"
    rw [show (9 : Int) + m = (((9 + m).toNat : Nat) : Int) by omega]
    refine kLcR_all (n := (9 + m).toNat) (by omega) g4.ok (fun _ v _ => ∃ z : Int, v = .int z ∧ 1 ≤ z ∧ z ≤ 12) (fun _ _ _ _ _ h => h) (fun k H5 Kt hk g5 kt2 => ?_) fun lb H7 ys nlb g7 elb hyl2 hyr2 => ?_
    · walk_at "aw"
      refine ⟨rfl, ?_⟩
      walk_at "aw"
      refine w_lstD (by simp) fun l7 H7 nl7 a7 e7 => ?_
      walk_at "aw"
      refine ⟨st, l7, rfl, cs, [1, 2, 5, 12, 12].map V.int, (Go.of g5.ok a7).ok, .inl ⟨SqL.of e7, (g5.ok.ne nl7).1⟩, by simp, by simp, fun i y H8 hy g8 => ?_⟩
      obtain ⟨z, rfl, hz⟩ := int_mem hy
      refine kt2 _ _ ((Go.of g5.ok a7).trans g8) ⟨z, rfl, ?_⟩
      simp only [List.mem_cons, List.not_mem_nil, or_false] at hz
      omega
    obtain ⟨zb, rfl, hzb⟩ := ints_pr hyr2
    rw [List.length_map] at hyl2
    have k7 := (k5.trans g4).trans g7
    refine w_cat ((g4.trans g7).keep nlast ela) elb (by simp; omega) fun lc H8 nlc a8 elc => ?_
    rw [← List.map_append] at elc
    walk_at "aw"
    refine kt _ _ ⟨_, lc, za ++ zb, rfl, k7.new a8, (k7.ok.ne nlc).1, elc, by rw [List.length_append]; omega, by rw [List.length_append]; omega, fun z hz => ?_, (fun h => by rw [hb] at h; cases h), fun i z hi hz => ?_⟩
    · rcases List.mem_append.mp hz with h | h
      · have := hza z h; omega
      · exact hzb z h
    · rw [List.getElem?_append_left (by omega)] at hz
      exact (hza z (List.mem_of_getElem? hz)).2
  · walk_at "aw"
    exact kt _ _ ⟨_, r0, zs0, rfl, g9, nr0st, er0, by omega, by omega, fun z h => by have := hz0b z h; omega, fun _ => ⟨by omega, fun z h => (hz0b z h).2⟩, fun i z _ hz => by have := hz0b z (List.mem_of_getElem? hz); omega⟩
  obtain ⟨y4, sl, zs, rfl, g10, nslst, esl, hz3, hz24, hz1, hzb, hz6⟩ := hR
  clear g9 er0 a9 nr0 g8 g7 g6 g5 g3
  walk_at "aw"
  refine w_lenL (SqL.of esl) ?_
  walk_at "aw"
  rw [List.length_map, show ((zs.length : Nat) : Int) + 5 = ((zs.length + 5 : Nat) : Int) by omega]
  refine ⟨st, zs.length + 5, rfl, cs, g10.ok, by omega, fun nm names H5 g5 nnm enm hnl hnd hnok => ?_⟩
  have nnmst := (g10.ok.ne nnm).1
  walk_at "aw"
  refine ⟨st, _, rfl, cs, g5.ok, by omega, by omega, fun lo0 H6 hlo0 hlo1 g6 => ?_⟩
  walk_at "aw"
  refine w_lstD (by simp) fun l6 H6b nl6 a6 e6 => ?_
  have g6b := g6.new a6
  walk_at "aw"
  refine ⟨st, l6, rfl, cs, [0, -1, -2, -5, 9, -14, lo0 - 200].map V.int, g6b.ok, .inl ⟨SqL.of e6, (g6.ok.ne nl6).1⟩, by simp, by simp, fun i x H7 hx g7 => ?_⟩
  obtain ⟨low, rfl, hlowm⟩ := int_mem hx
  have hlow : -1000 ≤ low ∧ low ≤ 1000 := by
    simp only [List.mem_cons, List.not_mem_nil, or_false] at hlowm
    omega
  have g57 := g6b.trans g7
  walk_at "aw"
  refine w_lstD (by simp) fun dm H8 ndm a8 e8 => ?_
  have ndmst := (g7.ok.ne ndm).1
  have esl7 := g57.keep nslst (g5.keep nslst esl)
  have enm7 := g57.keep nnmst enm
  have g8 := Go.of g7.ok a8
  have ok7 := g7.ok
  walk_at "aw"
  refine w_lenL (SqL.of (g8.keep nslst esl7)) ?_
  rw [List.length_map]
  have hwt : ∀ {u : Int}, 0 ≤ u → u < 12 → wt (low + u) := fun h1 h2 => ⟨by omega, by omega⟩
  walk_at "aw"
  refine kForR2_i (by omega) (by omega) (fun i σ H' => ∃ y4 y8 dv xs, σ = [some (.ref sc), some (.ref st), some (.bl b), some (.ref sl), y4, some (.ref nm), some (.int low), some (.ref dm), y8, none, none, none, none, none, none, none, none, none] ∧ Go st cs H7 H' ∧ H' dm = some (.lst xs) ∧ IsAll H' ((dv : List (Str × List Int)).map domD) xs ∧ dv.map (·.1) = (names.drop 1).take i ∧ dv.length = i ∧
      ∀ (j : Nat) q, dv[j]? = some q → 0 < q.2.length ∧ (∃ z, zs[j + 1]? = some z ∧ q.2.length ≤ z.toNat) ∧ ∀ v ∈ q.2, wt v)
    ⟨_, none, [], [], rfl, g8, e8, .nil, rfl, rfl, fun j q h => by simp at h⟩ (fun i σ H' hi pp => ?_) fun σ H' pp => ?_
  · obtain ⟨y4, y8, dv, xs, rfl, g, ed, td, hdn, hdl, hdq⟩ := pp
    have hxl : xs.length = dv.length := by rw [td.length, List.length_map]
    obtain ⟨x, hx⟩ := get_some (xs := names) (i := i + 1) (by omega)
    obtain ⟨z, hz⟩ := get_some (xs := zs) (i := i + 1) (by omega)
    have hzm := List.mem_of_getElem? hz
    have hz2 := hz1 z hzm
    have hk1 : (1 : Int) + (i : Nat) = ((i + 1 : Nat) : Int) := by omega
    rw [hk1]
    walk_at "aw"
    refine w_rgC (n := 12) (by omega) rfl fun l11 H11 nl11 a11 e11 => ?_
    have g11 := g.new a11
    walk_at "aw"
    rw [show ((List.range 12).map fun k => V.int (k : Nat)) = ((List.range 12).map fun k => ((k : Nat) : Int)).map V.int by rw [List.map_map]; rfl] at e11
    refine ⟨st, l11, rfl, cs, _, g11.ok, SqL.of e11, (g.ok.ne nl11).1, by rw [List.length_map, List.length_map, List.length_range]; omega, fun o ys H12 hp12 no g12 eo => ?_⟩
    obtain ⟨is, rfl, hisl, hism⟩ := perm_intsP hp12
    rw [List.length_map, List.length_range] at hisl
    have g12' := g11.trans g12
    walk_at "aw"
    refine w_ixL (SqL.of (g12'.keep nslst esl7)) (at_of (j := i + 1) (v := .int z) rfl (by rw [List.getElem?_map, hz]; rfl)) ?_
    walk_at "aw"
    refine w_slL (SqL.of eo) fun l13 H13 nl13 a13 e13 => ?_
    rw [cut_to _ (by omega), ← List.map_take] at e13
    have g13 := g12'.new a13
    walk_at "aw"
    refine ⟨l13, _, rfl, SqL.of e13, fun ws p14 hpm _ np14 => ?_⟩
    have a14 := Adv.new (o := .lst (ws.map V.int)) np14
    have g14 := g13.new a14
    have hwl : ws.length = z.toNat := by rw [hpm.length_eq, List.length_take]; omega
    have hwm : ∀ u ∈ ws, 0 ≤ u ∧ u < 12 := fun u hu => by
      obtain ⟨k, hk, rfl⟩ := List.mem_map.mp (hism u (List.mem_of_mem_take (hpm.mem_iff.mp hu)))
      have := List.mem_range.mp hk
      omega
    refine kLcL_all SqL.upd (g13.ok.ne np14).1 (by rw [List.length_map]; omega) g14.ok (fun _ v _ => ∃ z : Int, v = .int z ∧ wt z) (fun _ _ _ _ _ h => h) (fun k y H15 Kt hk g15 kt => ?_) fun l15 H15 ys nl15 g15 e15 hyl2 hyr2 => ?_
    · obtain ⟨k0, rfl, hk0⟩ := int_mem hk
      walk_at "aw"
      refine ⟨rfl, ?_⟩
      walk_at "aw"
      exact kt _ _ (.refl g15.ok) ⟨_, rfl, hwt (hwm k0 hk0).1 (hwm k0 hk0).2⟩
    obtain ⟨fl0, rfl, hfl0⟩ := ints_pr hyr2
    rw [List.length_map, List.length_map] at hyl2
    have g15' := g14.trans g15
    refine w_tupL (SqL.of e15) fun t16 H16 nt16 a16 e16 => ?_
    have g16 := g15'.new a16
    have j16 : Go st cs H' H16 := ((((Go.of g.ok a11).trans g12).new a13).new a14).trans (g15.new a16)
    have ed16 := j16.keep ndmst ed
    walk_at "aw"
    refine w_app rfl ed16 ?_
    walk_at "aw"
    refine w_ixL (SqL.of (g16.keep nnmst enm7)) (at_of (j := i + 1) (v := .str x) rfl (by rw [List.getElem?_map, hx]; rfl)) ?_
    walk_at "aw"
    refine ⟨st, _, rfl, cs, g16.ok, by omega, by omega, fun zc H17 _ _ g17 => ?_⟩
    walk_at "aw"
    refine w_join (R := fun v H'' => ∃ fl : List Int, Go st cs H17 H'' ∧ Is H'' (rowD fl) v ∧ fl.length = z.toNat ∧ ∀ v ∈ fl, wt v) (fun Q' hb kt => ?_) (fun Q' hb kt => ?_) fun v H18 hR => ?_
    · walk_at "aw"
      exact kt _ _ ⟨fl0, .refl g17.ok, .tup (g17.tk _ _ e16) (IsAll.ints _), by omega, hfl0⟩
    · walk_at "aw"
      refine w_ixL (SqL.of ((g16.trans g17).keep nslst esl7)) (at_of (j := i + 1) (v := .int z) rfl (by rw [List.getElem?_map, hz]; rfl)) ?_
      walk_at "aw"
      rw [show z = ((z.toNat : Nat) : Int) by omega]
      refine kLcR_all (n := z.toNat) (by omega) g17.ok (fun _ v _ => ∃ z : Int, v = .int z ∧ wt z) (fun _ _ _ _ _ h => h) (fun k H18 Kt hk g18 kt2 => ?_) fun l18 H18 ys nl18 g18 e18 hyl3 hyr3 => ?_
      · walk_at "aw"
        refine ⟨rfl, ?_⟩
        walk_at "aw"
        exact kt2 _ _ (.refl g18.ok) ⟨_, rfl, hwt (by omega) (by omega)⟩
      · obtain ⟨fl1, rfl, hfl1⟩ := ints_pr hyr3
        rw [List.length_map] at hyl3
        refine w_tupL (SqL.of e18) fun t19 H19 nt19 a19 e19 => ?_
        exact kt _ _ ⟨fl1, g18.new a19, .tup e19 (IsAll.ints _), by omega, hfl1⟩
    obtain ⟨fl, g18, hv, hfl, hflw⟩ := hR
    walk_at "aw"
    refine w_tupD (by simp) fun t19 H19 nt19 a19 e19 => ?_
    have gC := ((j16.trans g17).trans g18).new a19
    have ed19 := gC.keep ndmst ed
    walk_at "aw"
    refine w_append ed19 (by omega) ?_
    have u : TK H19 (upd H19 dm (.lst (xs ++ [.ref t19]))) := fun c vs h => (Adv.lst (o := .lst (xs ++ [.ref t19])) ed19).tup c vs h
    refine ⟨_, _, dv ++ [(x, fl)], _, rfl, (g.trans gC).mutL ok7 ndm ed19, upd_same, ?_, ?_, by rw [List.length_append, hdl]; rfl, fun j r hr => ?_⟩
    · rw [List.map_append]
      exact ((td.up gC.tk).up u).append (.cons (.tup (u _ _ e19) (.cons (.str _) (.cons ((hv.up a19.tup).up u) .nil))) .nil)
    · rw [List.map_append, hdn, List.take_add_one, List.getElem?_drop, show 1 + i = i + 1 by omega, hx]
      rfl
    · by_cases hj : j < dv.length
      · rw [List.getElem?_append_left hj] at hr
        exact hdq j r hr
      · have hj2 : j = i := by
          have := (List.getElem?_eq_some_iff.mp hr).1
          rw [List.length_append, List.length_singleton] at this
          omega
        subst hj2
        rw [List.getElem?_append_right (by omega), hdl, Nat.sub_self] at hr
        cases hr
        exact ⟨by show 0 < fl.length; omega, ⟨z, hz, by show fl.length ≤ _; omega⟩, hflw⟩
  obtain ⟨y4, y8, dv0, xs0, rfl, g, ed0, td0, hdn0, hdl0, hdq0⟩ := pp
  have hdl0' : dv0.length = zs.length - 1 := by rw [hdl0]; omega
  have hdn0' : dv0.map (·.1) = (names.drop 1).take (zs.length - 1) := by
    rw [hdn0]
    congr 1
    omega
  clear hdn0 hdl0
  have enm8 := g.keep nnmst enm7
  have esl8 := g.keep nslst esl7
  have okB := g.ok
  obtain ⟨x0, hx0⟩ := get_some (xs := names) (i := 0) (by omega)
  obtain ⟨z0, hz0⟩ := get_some (xs := zs) (i := 0) (by omega)
  have hz0m := hz1 z0 (List.mem_of_getElem? hz0)
  have hq0 : ∀ q ∈ dv0, 0 < q.2.length ∧ q.2.length ≤ 12 ∧ ∀ v ∈ q.2, wt v := fun q hq => by
    obtain ⟨j, hj, rfl⟩ := List.mem_iff_getElem.mp hq
    obtain ⟨h1, ⟨z, h2, h3⟩, h4⟩ := hdq0 j _ (List.getElem?_eq_getElem hj)
    have := hz1 z (List.mem_of_getElem? h2)
    exact ⟨h1, by omega, h4⟩
  walk_at "aw"
  refine w_ixL (SqL.of enm8) (at_of (j := 0) (v := .str x0) rfl (by rw [List.getElem?_map, hx0]; rfl)) ?_
  walk_at "aw"
  refine w_ixL (SqL.of esl8) (at_of (j := 0) (v := .int z0) rfl (by rw [List.getElem?_map, hz0]; rfl)) ?_
  walk_at "aw"
  refine ⟨st, dm, z0.toNat, by rw [show ((z0.toNat : Nat) : Int) = z0 by omega], cs, dv0, okB, ndmst, ⟨xs0, ed0, td0⟩, by omega, by omega, fun q hq => ⟨(hq0 q hq).1, by have := (hq0 q hq).2.1; omega, (hq0 q hq).2.2⟩, by omega, by omega, fun v flT H9 g9 hv hT0 hTl hTw => ?_⟩
  walk_at "aw"
  refine w_tupD (by simp) fun t10 H10 nt10 a10 e10 => ?_
  walk_at "aw"
  refine w_lstD (by simp) fun l11 H11 nl11 a11 e11 => ?_
  walk_at "aw"
  have j11 := (g9.new a10).new a11
  have hx0l : xs0.length = dv0.length := by rw [td0.length, List.length_map]
  refine w_cat e11 (j11.keep ndmst ed0) (by simp; omega) fun dm2 H12 ndm2 a12 e12 => ?_
  have gB := (g9.new a10).new a11
  have ndm2st := (gB.ok.ne ndm2).1
  have gB2 := gB.new a12
  have td12 : IsAll H12 (((x0, flT) :: dv0).map domD) ([V.ref t10] ++ xs0) := by
    refine .cons ?_ ((td0.up j11.tk).up a12.tup)
    exact ((Is.tup e10 (.cons (.str _) (.cons (hv.up a10.tup) .nil))).up a11.tup).up a12.tup
  have hn12 : ((x0, flT) :: dv0).map (·.1) = names.take zs.length := by
    rw [List.map_cons, hdn0']
    cases hc : names with
    | nil => rw [hc] at hx0; cases hx0
    | cons a l =>
      rw [hc] at hx0
      cases hx0
      obtain ⟨n, hn⟩ : ∃ n, zs.length = n + 1 := ⟨zs.length - 1, by omega⟩
      rw [hn]
      rfl
  have hq12 : ∀ (j : Nat) q, ((x0, flT) :: dv0)[j]? = some q → 0 < q.2.length ∧ (∃ z, zs[j]? = some z ∧ q.2.length ≤ z.toNat) ∧ ∀ v ∈ q.2, wt v := fun j q hj => by
    cases j with
    | zero =>
      cases hj
      exact ⟨hT0, ⟨z0, hz0, hTl⟩, hTw⟩
    | succ j => exact hdq0 j q (by simpa using hj)
  have hl12 : ((x0, flT) :: dv0).length = zs.length := by rw [List.length_cons, hdl0']; omega
  have enm12 := gB2.keep nnmst enm8
  have esl12 := gB2.keep nslst esl8
  have ok12 := gB2.ok
  generalize (x0, flT) :: dv0 = dvN at td12 hn12 hq12 hl12
  generalize [V.ref t10] ++ xs0 = xsN at td12 e12
  clear gB2 gB j11 e11 e10 hv hTw hTl hT0 td0 ed0 hdn0' hdl0' hdq0 hq0 g9 a10 a11 a12
  have edN := e12
  clear e12
  revert q
  revert hnok hnd hnl enm12 esl12
  intro hnl hnd hnok enm eslB q
  have hdq : ∀ q ∈ dvN, 0 < q.2.length ∧ q.2.length ≤ 12 ∧ ∀ v ∈ q.2, wt v := fun q hq => by
    obtain ⟨j, hj, rfl⟩ := List.mem_iff_getElem.mp hq
    obtain ⟨h1, ⟨z, h2, h3⟩, h4⟩ := hq12 j _ (List.getElem?_eq_getElem hj)
    have := hz1 z (List.mem_of_getElem? h2)
    exact ⟨h1, by omega, h4⟩
  have hfew : 3 ≤ (dvN.filter fewV).length := three_few (by omega) fun i q hi hq => by
    obtain ⟨h1, ⟨z, h2, h3⟩, h4⟩ := hq12 i q hq
    have := hz6 i z hi h2
    omega
  have hb5 : b = false → dvN.length ≤ 5 ∧ ∀ q ∈ dvN, q.2.length ≤ 5 := fun hb => ⟨by have := (hzb hb).1; omega, fun q hq => by
    obtain ⟨j, hj, rfl⟩ := List.mem_iff_getElem.mp hq
    obtain ⟨h1, ⟨z, h2, h3⟩, h4⟩ := hq12 j _ (List.getElem?_eq_getElem hj)
    have := (hzb hb).2 z (List.mem_of_getElem? h2)
    omega⟩
  have hdnd : (dvN.map (·.1)).Nodup := by rw [hn12]; exact hnd.sublist (List.take_sublist ..)
  have hdnok : ∀ x ∈ dvN.map (·.1), okS x := fun x hx => hnok x (by rw [hn12] at hx; exact List.mem_of_mem_take hx)
  have hd3 : 3 ≤ dvN.length := by omega
  have hdl : dvN.length ≤ 24 := by omega
  have hxl : xsN.length = dvN.length := by rw [td12.length, List.length_map]
  walk_at "aw"
  refine ⟨st, dm2, rfl, cs, xsN, ok12, SqL.of edN, ndm2st, by omega, fun o zv H5 hp5 no g5 eo => ?_⟩
  obtain ⟨es, hes, tz⟩ := td12.shuf hp5.symm
  replace tz := tz.up g5.tk
  have hzl : zv.length = es.length := by rw [tz.length, List.length_map]
  have hel := hes.length_eq
  have nost := (ok12.ne no).1
  have hem : ∀ q ∈ es, q ∈ dvN := fun q hq => hes.mem_iff.mp hq
  have hend : (es.map (·.1)).Nodup := (hes.map _).nodup_iff.mpr hdnd
  have henm : ∀ x, x ∈ es.map (·.1) ↔ x ∈ dvN.map (·.1) := fun x => (hes.map _).mem_iff
  walk_at "aw"
  refine kLcL_all (SqL.of eo) nost (by omega) g5.ok (fun _ v _ => ∃ z : Int, v = .int z ∧ wt z) (fun _ _ _ _ _ h => h) (fun k x H9 Kt hk g9 kt => ?_) fun l9 H9 ys nl9 g9 e9 hyl hyr => ?_
  · obtain ⟨dt, z1, hx⟩ := tz.get hk
    rw [List.getElem?_map] at z1
    obtain ⟨qd, z2, rfl⟩ := Option.map_eq_some_iff.mp z1
    obtain ⟨ia, ib, rfl, ea, eb⟩ := is_dom hx
    have hqd := hdq qd (hem qd (List.mem_of_getElem? z2))
    walk_at "aw"
    refine ⟨rfl, ?_⟩
    walk_at "aw"
    refine w_ixT (SqT.of (g9.tk _ _ ea)) rfl ?_
    walk_at "aw"
    refine ⟨st, ib, rfl, cs, _, g9.ok, .inr (g9.tk _ _ eb), by rw [List.length_map]; exact hqd.1, by rw [List.length_map]; omega, fun j y H10 hy g10 => ?_⟩
    obtain ⟨z, rfl, hzm⟩ := int_mem hy
    exact kt _ _ g10 ⟨z, rfl, hqd.2.2 z hzm⟩
  obtain ⟨bs, rfl, hbw⟩ := ints_pr hyr
  rw [List.length_map, hzl] at hyl
  refine w_tupL (SqL.of e9) fun t10 H10 nt10 a10 e10 => ?_
  have k10 := (g5.trans g9).new a10
  have j10 := g9.new a10
  have hbase : Is H10 (rowD bs) (.ref t10) := .tup e10 (IsAll.ints _)
  walk_at "aw"
  refine ⟨o, t10, rfl, es, bs, ⟨zv, j10.keep nost eo, tz.up j10.tk⟩, .inr (SqT.of e10), by omega, hend, by omega, fun d H11 a11 nd hd => ?_⟩
  have hww : ∀ x, wt (wOf (es.map (·.1)) bs x) := fun x => wOf_wt hbw x
  generalize wOf (es.map (·.1)) bs = w at hd hww
  replace hd : WD H11 d (dvN.map (·.1)) w := hd.sub fun x hx => (henm x).mpr hx
  have k11 := k10.new a11
  have j11 := j10.new a11
  walk_at "aw"
  refine w_lstD (by simp) fun l12 H12 nl12 a12 e12 => ?_
  have m12 := Go.of k11.ok a12
  walk_at "aw"
  refine ⟨st, l12, rfl, cs, _, m12.ok, SqL.of e12, (k11.ok.ne nl12).1, by simp, fun l13 kv H13 hp13 nl13 g13 e13 => ?_⟩
  have m13 := m12.trans g13
  have nl13st := (m12.ok.ne nl13).1
  walk_at "aw"
  refine w_lstD (by simp) fun l14 H14 nl14 a14 e14 => ?_
  have m14 := m13.new a14
  walk_at "aw"
  refine ⟨st, l14, rfl, cs, _, m14.ok, .inl ⟨SqL.of e14, (m13.ok.ne nl14).1⟩, by simp, by simp, fun i x H15 hx g15 => ?_⟩
  have m15 := m14.trans g15
  walk_at "aw"
  refine w_lstD (by simp) fun l16 H16 nl16 a16 e16 => ?_
  have m16 := m15.new a16
  have e13' := a16.keep _ _ (fun z => nomatch z) (g15.keep nl13st (a14.keep _ _ (fun z => nomatch z) e13))
  have hkl : kv.length = 4 := by rw [hp13.length_eq]; rfl
  refine w_cat e13' e16 (by simp; omega) fun kd H17 nkd a17 e17 => ?_
  have m17 := m16.new a17
  have nkdst := (m16.ok.ne nkd).1
  have hkinds : ∀ {i : Nat} {v : V}, (kv ++ [x])[i]? = some v → ∃ kind : Str, v = .str kind ∧ (kind = "product" ∨ kind = "ahead" ∨ kind = "machine") := fun {i v} h => by
    have h4 : ∀ v, v ∈ [V.str "product", V.str "ahead", V.str "machine", V.str "machine"] → ∃ kind : Str, v = .str kind ∧ (kind = "product" ∨ kind = "ahead" ∨ kind = "machine") := fun v hv => by
      simp only [List.mem_cons, List.not_mem_nil, or_false] at hv
      rcases hv with h | h | h | h
      · exact ⟨_, h, .inl rfl⟩
      · exact ⟨_, h, .inr (.inl rfl)⟩
      · exact ⟨_, h, .inr (.inr rfl)⟩
      · exact ⟨_, h, .inr (.inr rfl)⟩
    rcases List.mem_append.mp (List.mem_of_getElem? h) with h | h
    · exact h4 v (hp13.mem_iff.mp h)
    · rw [List.mem_singleton.mp h]
      have h5 := List.mem_of_getElem? hx
      refine h4 x ?_
      simp only [List.mem_cons, List.not_mem_nil, or_false] at h5 ⊢
      rcases h5 with h | h | h
      · exact .inl h
      · exact .inr (.inl h)
      · exact .inr (.inr (.inl h))
  have k17 := k11.trans m17
  generalize hkk : kv ++ [x] = kk at hkinds e17
  have hkkl : kk.length = 5 := by rw [← hkk, List.length_append, hkl]; rfl
  walk_at "aw"
  refine kLcR_all (n := 5) (by omega) m17.ok (fun k v H => ∃ x s, names[zs.length + k]? = some x ∧ InS (dvN.map (·.1)) s ∧ Is H (itD (x, s)) v) (fun k v H H' t h => by
    obtain ⟨x, s, h1, h2, h3⟩ := h
    exact ⟨x, s, h1, h2, h3.up t⟩) (fun k H18 Kt hk g18 kt => ?_) fun md H18 mv nmd g18 emd hml hmr => ?_
  · obtain ⟨x, hx⟩ := get_some (xs := names) (i := zs.length + k) (by omega)
    obtain ⟨kd0, hkd0⟩ := get_some (xs := kk) (i := k) (by omega)
    obtain ⟨kind, rfl, hkind⟩ := hkinds hkd0
    have k18 := k17.trans g18
    have m18 := m17.trans g18
    walk_at "aw"
    refine ⟨rfl, ?_⟩
    walk_at "aw"
    refine w_lenL (SqL.of (k18.keep nslst eslB)) ?_
    walk_at "aw"
    rw [List.length_map, show ((zs.length : Nat) : Int) + (k : Nat) = ((zs.length + k : Nat) : Int) by omega]
    refine w_ixL (SqL.of (k18.keep nnmst enm)) (at_of (j := zs.length + k) (v := .str x) rfl (by rw [List.getElem?_map, hx]; rfl)) ?_
    walk_at "aw"
    refine w_ixL (SqL.of (g18.keep nkdst e17)) (at_of (j := k) rfl hkd0) ?_
    walk_at "aw"
    refine ⟨st, dm2, d, kind, rfl, cs, dvN, w, g18.ok, ndm2st, ⟨xsN, k18.keep ndm2st edN, td12.up k18.tk⟩, hd.go k11.ok m18, hdnd, hdnok, hd3, by omega, fun q' hq => ⟨(hdq q' hq).1, by have := (hdq q' hq).2.1; omega⟩, hfew, hkind, fun v s H19 g19 hs hsok hsin => ?_⟩
    walk_at "aw"
    refine w_tupD (by simp) fun t H20 nt a20 e20 => ?_
    exact kt _ _ (g19.new a20) ⟨x, s, hx, ⟨hsok, hsin⟩, .tup e20 (.cons (.str _) (.cons (hs.up a20.tup) .nil))⟩
  have k18 := k17.trans g18
  have m18 := m17.trans g18
  have nmdst := (m17.ok.ne nmd).1
  obtain ⟨made, tmade, hmnames, hmin⟩ := made_of (P := InS (dvN.map (·.1))) mv zs.length hmr
  have hmadel : made.length = 5 := by
    have := tmade.length
    rw [List.length_map] at this
    omega
  have hmn : (made.map (·.1)).Nodup := by
    rw [hmnames]
    exact hnd.sublist ((List.take_sublist ..).trans (List.drop_sublist ..))
  have hmok : ∀ q ∈ made, InS (dvN.map (·.1)) q.2 ∧ okS q.1 ∧ ∀ x ∈ q.2.names, okS x := fun q' hq => ⟨hmin q' hq, hnok _ (by
    have : q'.1 ∈ made.map (·.1) := List.mem_map_of_mem hq
    rw [hmnames] at this
    exact List.mem_of_mem_drop (List.mem_of_mem_take this)), fun x hx => hdnok x ((hmin q' hq).2 x hx)⟩
  walk_at "aw"
  refine ⟨st, md, d, rfl, cs, made, dvN.map (·.1), w, g18.ok, nmdst, ⟨mv, emd, tmade⟩, hd.go k11.ok m18, fun x hx => hww x, hmn, by omega, by omega, fun q' hq => ⟨(hmok q' hq).1.1, (hmok q' hq).1.2, (hmok q' hq).2.1, (hmok q' hq).2.2⟩, fun r f so firm soft H19 g19 er nfst nsost nrst hf hs hnodup hfm hsm hfl hsl => ?_⟩
  have k19 := k18.trans g19
  have m19 := m18.trans g19
  have j19 := j11.trans m19
  have hsub : ∀ q ∈ firm ++ soft, q ∈ made := fun q' hq => by
    rcases List.mem_append.mp hq with h | h
    · exact hfm q' h
    · exact hsm q' h
  have hheld : HeldOk es firm soft := ⟨hend, by omega, hnodup, hfl, hsl, fun q' hq => ⟨(hmok q' (hsub q' hq)).1.1, fun x hx => (henm x).mpr ((hmok q' (hsub q' hq)).1.2 x hx)⟩⟩
  have hord : LsAt H19 o (es.map domD) := ⟨zv, j19.keep nost eo, tz.up j19.tk⟩
  have hb19 : Is H19 (rowD bs) (.ref t10) := hbase.up (((Go.of k10.ok a11).trans m19)).tk
  walk_at "aw"
  refine w_join (fun v H' => ∃ r rows, v = .ref r ∧ Go st cs H19 H' ∧ r ≠ st ∧ LsAt H' r ((rows : List (List Int)).map rowD) ∧ (∀ row ∈ rows, row.length = es.length ∧ ∀ v ∈ row, wt v) ∧ rows.length ≤ 5000) (fun Q' hb kt => ?_) (fun Q' hb kt => ?_) fun v H26 hR => ?_
  · have hb0 : b = false := by
      cases b with
      | false => rfl
      | true => cases hb
    have hz5 := hb5 hb0
    walk_at "aw"
    refine ⟨o, rfl, es, st, cs, k19.ok, nost, hord, fun q' hq => ⟨hz5.2 q' (hem q' hq), (hdq q' (hem q' hq)).2.2⟩, by omega, fun r rows H26 g26 nr hr hrow hrl => ?_⟩
    exact kt _ _ ⟨r, rows, rfl, g26, (k19.ok.ne nr).1, hr, hrow, Nat.le_trans hrl (by decide)⟩
  · walk_at "aw"
    refine w_lstD (by simp) fun l26 H26 nl26 a26 e26 => ?_
    have g26 := Go.of k19.ok a26
    walk_at "aw"
    refine kLcR_all (n := 30) (by omega) g26.ok (fun k v H => ∃ fl : List Int, (fl.length = es.length ∧ ∀ v ∈ fl, wt v) ∧ Is H (rowD fl) v) (fun k v H H' t h => by
      obtain ⟨fl, h1, h2⟩ := h
      exact ⟨fl, h1, h2.up t⟩) (fun k H27 Kt hk g27 kt => ?_) fun l27 H27 rv nl27 g27 e27 hrvl hrvr => ?_
    · have g2627 := g26.trans g27
      walk_at "aw"
      refine ⟨rfl, ?_⟩
      walk_at "aw"
      refine ⟨st, o, .ref t10, rfl, cs, es, bs, g27.ok, nost, hord.go nost g2627, hb19.up g2627.tk, by omega, hbw, by omega, by omega, fun q' hq => ⟨(hdq q' (hem q' hq)).1, by have := (hdq q' (hem q' hq)).2.1; omega, (hdq q' (hem q' hq)).2.2⟩, fun v' fl' H28 g28 hv' hfl' hfw' => ?_⟩
      exact kt _ _ g28 ⟨fl', ⟨hfl', hfw'⟩, hv'⟩
    · have hrows : ∃ rows : List (List Int), IsAll H27 (rows.map rowD) rv ∧ ∀ row ∈ rows, row.length = es.length ∧ ∀ v ∈ row, wt v := by
        clear e27 hrvl kt
        induction rv with
        | nil => exact ⟨[], .nil, fun _ h => absurd h (List.not_mem_nil)⟩
        | cons a l ih =>
          obtain ⟨fl, h1, h2⟩ := hrvr 0 a rfl
          obtain ⟨rows, h3, h4⟩ := ih fun i v h => hrvr (i + 1) v (by simpa using h)
          exact ⟨fl :: rows, .cons h2 h3, fun row hr => by
            rcases List.mem_cons.mp hr with h | h
            · rw [h]; exact h1
            · exact h4 row h⟩
      obtain ⟨rows, hrw, hrl⟩ := hrows
      refine w_cat (g27.keep (k19.ok.ne nl26).1 e26) e27 (by rw [hrvl]; simp) fun l28 H28 nl28 a28 e28 => ?_
      have g28 := (g26.trans g27).new a28
      have hlen : rows.length = rv.length := by rw [hrw.length, List.length_map]
      exact kt _ _ ⟨l28, bs :: rows, rfl, g28, ((g26.trans g27).ok.ne nl28).1, ⟨_, e28, .cons (hb19.up g28.tk) (hrw.up a28.tup)⟩, fun row hr => by
        rcases List.mem_cons.mp hr with h | h
        · rw [h]; exact ⟨by omega, hbw⟩
        · exact hrl row h, by rw [List.length_cons]; omega⟩
  obtain ⟨rw_, rows, rfl, g26, nrwst, hr, hrow, hrl⟩ := hR
  have gM26 := g19.trans g26
  have er26 := g26.keep nrst er
  walk_at "aw"
  refine w_ixL (SqL.of er26) rfl ?_
  walk_at "aw"
  refine w_ixL (SqL.of er26) rfl ?_
  walk_at "aw"
  refine ⟨st, o, md, f, so, rw_, .ref t10, rfl, cs, es, made, firm, soft, rows, bs, g26.ok, ⟨nost, nmdst, nfst, nsost, nrwst⟩, hord.go nost g26, ⟨mv, gM26.keep nmdst emd, tmade.up gM26.tk⟩, hf.go nfst g26, hs.go nsost g26, hr, hb19.up g26.tk, hheld, hmn, by omega, by omega, fun q' hq => ⟨(hmok q' hq).1.1, fun x hx => (henm x).mpr ((hmok q' hq).1.2 x hx)⟩, hrow, hrl, by omega, hbw, by omega, fun q' hq => ⟨(hdq q' (hem q' hq)).1, by have := (hdq q' (hem q' hq)).2.1; omega, (hdq q' (hem q' hq)).2.2⟩, fun H27 g27 => ?_⟩
  exact q H27
end AW
namespace AW
open PySem PySem.Spec PyProof.Rows L2 RZ
def topS (i : Nat) : Stmt := PySem.Challenge.pw_aswritten_k05_products_aheads_and_machin.main.body.getD i (.Pass ⟨0, 0, 0, 0⟩)
abbrev s__law_mixed : Stmt := topS 33
abbrev n__law_mixed : List Str := ["number", "k", "first", "second"]
theorem sc__law_mixed : FnScope n__law_mixed ["number", "k"] (defScope s__law_mixed) := ⟨rfl, rfl, rfl, by decide +kernel, rfl, by decide +kernel, by decide +kernel⟩
theorem ok__law_mixed {P : Program} {w : World} {K : PySem.W.Frag} {mg : Str → Option Value} {base : Heap} {f : Addr} {fd : FuncData} (F : Fun K "_law_mixed" "_law_mixed" s__law_mixed f fd) (gf : mg "_law_mixed" = some (.ref f))   (m_int : mg "int" = none)  : Cal P w K mg base "_law_mixed" 1 ["number", "k"] (sp__law_mixed K) := by
  refine ⟨f, fd, F.ok sc__law_mixed len__law_mixed (fun cdv A outer s H vs Q E hr h => ⟨t__law_mixed , PSs.nox ?_, pure__law_mixed vs H Q E h⟩), F.kp, F.binds (fun _ _ _ _ _ _ us hl => match us, hl with | [_, _], _ => rfl), gf⟩
  exact (pss_cons (ps_set (i := 2) sc__law_mixed.nd rfl (by first | exact .inl rfl | exact .inr rfl) (pe_op op_mod (pe_callTy call_int1 (by rfl) m_int (by decide +kernel) (pa_cons (pe_op op_add (pe_op op_add (pe_op op_mul (pv 0) pe_int) (pe_op op_mul (pv 1) pe_int)) pe_int) pa_nil)) pe_int))
  (pss_cons (ps_set (i := 3) sc__law_mixed.nd rfl (by first | exact .inl rfl | exact .inr rfl) (pe_op op_mod (pe_callTy call_int1 (by rfl) m_int (by decide +kernel) (pa_cons (pe_op op_add (pe_op op_add (pe_op op_mul (pv 2) (pe_op op_add (pe_op op_add (pv 2) (pe_op op_mul pe_int (pv 1))) pe_int)) (pe_op op_mul (pv 1) pe_int)) pe_int) pa_nil)) pe_int))
  (pss_one (ps_ret (pe_op op_mod (pe_callTy call_int1 (by rfl) m_int (by decide +kernel) (pa_cons (pe_op op_add (pe_op op_mul (pv 3) pe_int) (pv 2)) pa_nil)) pe_int)))))
abbrev s__law_start : Stmt := topS 34
abbrev n__law_start : List Str := ["script", "seed", "cell"]
theorem sc__law_start : FnScope n__law_start ["script"] (defScope s__law_start) := ⟨rfl, rfl, rfl, by decide +kernel, rfl, by decide +kernel, by decide +kernel⟩
theorem ok__law_start {P : Program} {w : World} {K : PySem.W.Frag} {mg : Str → Option Value} {base : Heap} {f : Addr} {fd : FuncData} (F : Fun K "_law_start" "_law_start" s__law_start f fd) (gf : mg "_law_start" = some (.ref f)) (C__law_mixed : Cal P w K mg base "_law_mixed" 1 ["number", "k"] (sp__law_mixed K))  (m_len : mg "len" = none) (m_list : mg "list" = none)  : Cal P w K mg base "_law_start" 2 ["script"] (sp__law_start K) := by
  refine ⟨f, fd, F.ok sc__law_start len__law_start (fun cdv A outer s H vs Q E hr h => ⟨t__law_start K, PSs.nox ?_, pure__law_start vs H Q E h⟩), F.kp, F.binds (fun _ _ _ _ _ _ us hl => match us, hl with | [_], _ => rfl), gf⟩
  exact (pss_cons (ps_set (i := 1) sc__law_start.nd rfl (by first | exact .inl rfl | exact .inr rfl) (pe_callB call_len1 (by rfl) m_len (by decide +kernel) (pa_cons (pv 0) pa_nil)))
  (pss_cons (ps_for PassesOwn.never rfl (pi_list (pe_slice sl_list (pv 0) po_none (po_some pe_int))) (pg_name (i := 2) sc__law_start.nd rfl (by first | exact .inl rfl | exact .inr rfl))
  (pss_one (ps_set (i := 1) sc__law_start.nd rfl (by first | exact .inl rfl | exact .inr rfl) (pe_cal C__law_mixed (hr.mono (by decide)) rfl (pa_cons (pe_op op_add (pv 1) (pv 2)) (pa_cons pe_int pa_nil))))))
  (pss_one (ps_ret (pe_lst (pa_cons pe_int (pa_cons pe_int (pa_cons pe_int (pa_cons (pv 1) (pa_cons (pe_callTy call_listOf (by rfl) m_list (by decide +kernel) (pa_cons (pe_slice sl_list (pv 0) po_none (po_some pe_int)) pa_nil)) (pa_cons pe_int pa_nil)))))))))))
abbrev s__law_take : Stmt := topS 35
abbrev n__law_take : List Str := ["state", "limit", "cells", "cell", "value"]
theorem sc__law_take : FnScope n__law_take ["state", "limit"] (defScope s__law_take) := ⟨rfl, rfl, rfl, by decide +kernel, rfl, by decide +kernel, by decide +kernel⟩
theorem ok__law_take {P : Program} {w : World} {K : PySem.W.Frag} {mg : Str → Option Value} {base : Heap} {f : Addr} {fd : FuncData} (F : Fun K "_law_take" "_law_take" s__law_take f fd) (gf : mg "_law_take" = some (.ref f)) (C__law_mixed : Cal P w K mg base "_law_mixed" 1 ["number", "k"] (sp__law_mixed K))  (m_abs : mg "abs" = none) (m_int : mg "int" = none) (m_len : mg "len" = none)  : Cal P w K mg base "_law_take" 2 ["state", "limit"] (sp__law_take K) := by
  refine ⟨f, fd, F.ok sc__law_take len__law_take (fun cdv A outer s H vs Q E hr h => ⟨t__law_take K, PSs.nox ?_, pure__law_take vs H Q E h⟩), F.kp, F.binds (fun _ _ _ _ _ _ us hl => match us, hl with | [_, _], _ => rfl), gf⟩
  exact (pss_cons (ps_set (i := 2) sc__law_take.nd rfl (by first | exact .inl rfl | exact .inr rfl) (pe_ix ix_list (pv 0) pe_int (fun _ _ => rfl)))
  (pss_cons (ps_augS (pv 0) pe_int get_list pe_int ip_add set_list)
  (pss_cons (ps_if (PW.pt (pw_and (pt_cmpR op_eq (pe_ix ix_list (pv 0) pe_int (fun _ _ => rfl)) pe_int (nomark _)) (pw_and1 (pt_cmpR op_lt (pe_ix ix_list (pv 0) pe_int (fun _ _ => rfl)) (pe_callB call_len1 (by rfl) m_len (by decide +kernel) (pa_cons (pv 2) pa_nil)) (nomark _))))) (pss_cons (ps_set (i := 3) sc__law_take.nd rfl (by first | exact .inl rfl | exact .inr rfl) (pe_ix ix_list (pv 2) (pe_ix ix_list (pv 0) pe_int (fun _ _ => rfl)) (fun _ _ => rfl)))
  (pss_cons (ps_augS (pv 0) pe_int get_list pe_int ip_add set_list)
  (pss_cons (ps_if (pt_cmpR op_lt (pe_callB call_abs1 (by rfl) m_abs (by decide +kernel) (pa_cons (pv 3) pa_nil)) (pe_op op_pow pe_int pe_int) (nomark _)) (pss_one (ps_ret (pe_op op_mod (pe_callTy call_int1 (by rfl) m_int (by decide +kernel) (pa_cons (pe_cal C__law_mixed (hr.mono (by decide)) rfl (pa_cons (pv 3) (pa_cons (pe_ix ix_list (pv 0) pe_int (fun _ _ => rfl)) pa_nil))) pa_nil)) (pv 1)))) pss_nil)
  (pss_cons (ps_asg (pe_callB call_abs1 (by rfl) m_abs (by decide +kernel) (pa_cons (pv 3) pa_nil)) (pg_sub (pv 0) pe_int set_list))
  (pss_one (ps_asg pe_int (pg_sub (pv 0) pe_int set_list))))))) pss_nil)
  (pss_cons (ps_if (pt_cmpR op_eq (pe_ix ix_list (pv 0) pe_int (fun _ _ => rfl)) pe_int (nomark _)) (pss_one (ps_ret (pe_op op_mod (pe_callTy call_int1 (by rfl) m_int (by decide +kernel) (pa_cons (pe_cal C__law_mixed (hr.mono (by decide)) rfl (pa_cons (pe_ix ix_list (pv 0) pe_int (fun _ _ => rfl)) (pa_cons (pe_ix ix_list (pv 0) pe_int (fun _ _ => rfl)) pa_nil))) pa_nil)) (pv 1)))) pss_nil)
  (pss_cons (ps_set (i := 4) sc__law_take.nd rfl (by first | exact .inl rfl | exact .inr rfl) (pe_op op_mod (pe_callTy call_int1 (by rfl) m_int (by decide +kernel) (pa_cons (pe_ix ix_list (pv 0) pe_int (fun _ _ => rfl)) pa_nil)) (pv 1)))
  (pss_cons (ps_augS (pv 0) pe_int get_list pe_int ip_sub set_list)
  (pss_cons (ps_asg (pe_op op_mul (pe_op op_fdiv (pe_ix ix_list (pv 0) pe_int (fun _ _ => rfl)) (pv 1)) (pe_callTy call_int1 (by rfl) m_int (by decide +kernel) (pa_cons (pe_cmpR op_gt (pe_ix ix_list (pv 0) pe_int (fun _ _ => rfl)) pe_int (nomark _)) pa_nil))) (pg_sub (pv 0) pe_int set_list))
  (pss_one (ps_ret (pv 4))))))))))
abbrev s__law_pick : Stmt := topS 36
abbrev n__law_pick : List Str := ["state", "some"]
theorem sc__law_pick : FnScope n__law_pick ["state", "some"] (defScope s__law_pick) := ⟨rfl, rfl, rfl, by decide +kernel, rfl, by decide +kernel, by decide +kernel⟩
theorem ok__law_pick {P : Program} {w : World} {K : PySem.W.Frag} {mg : Str → Option Value} {base : Heap} {f : Addr} {fd : FuncData} (F : Fun K "_law_pick" "_law_pick" s__law_pick f fd) (gf : mg "_law_pick" = some (.ref f)) (C__law_take : Cal P w K mg base "_law_take" 2 ["state", "limit"] (sp__law_take K))  (m_len : mg "len" = none)  : Cal P w K mg base "_law_pick" 3 ["state", "some"] (sp__law_pick K) := by
  refine ⟨f, fd, F.ok sc__law_pick len__law_pick (fun cdv A outer s H vs Q E hr h => ⟨t__law_pick K, PSs.nox ?_, pure__law_pick vs H Q E h⟩), F.kp, F.binds (fun _ _ _ _ _ _ us hl => match us, hl with | [_, _], _ => rfl), gf⟩
  exact (pss_one (ps_ret (pe_ix ix_any (pv 1) (pe_cal C__law_take (hr.mono (by decide)) rfl (pa_cons (pv 0) (pa_cons (pe_callB call_len1 (by rfl) m_len (by decide +kernel) (pa_cons (pv 1) pa_nil)) pa_nil))) (fun _ _ => rfl))))
abbrev s__law_shuffled : Stmt := topS 37
abbrev n__law_shuffled : List Str := ["state", "some", "left", "found", "k", "at"]
theorem sc__law_shuffled : FnScope n__law_shuffled ["state", "some"] (defScope s__law_shuffled) := ⟨rfl, rfl, rfl, by decide +kernel, rfl, by decide +kernel, by decide +kernel⟩
theorem ok__law_shuffled {P : Program} {w : World} {K : PySem.W.Frag} {mg : Str → Option Value} {base : Heap} {f : Addr} {fd : FuncData} (F : Fun K "_law_shuffled" "_law_shuffled" s__law_shuffled f fd) (gf : mg "_law_shuffled" = some (.ref f)) (C__law_take : Cal P w K mg base "_law_take" 2 ["state", "limit"] (sp__law_take K))  (m_len : mg "len" = none) (m_list : mg "list" = none) (m_range : mg "range" = none)  : Cal P w K mg base "_law_shuffled" 3 ["state", "some"] (sp__law_shuffled K) := by
  refine ⟨f, fd, F.ok sc__law_shuffled len__law_shuffled (fun cdv A outer s H vs Q E hr h => ⟨t__law_shuffled K, PSs.nox ?_, pure__law_shuffled vs H Q E h⟩), F.kp, F.binds (fun _ _ _ _ _ _ us hl => match us, hl with | [_, _], _ => rfl), gf⟩
  exact (pss_cons (ps_set (i := 2) sc__law_shuffled.nd rfl (by first | exact .inl rfl | exact .inr rfl) (pe_callTy call_listOf (by rfl) m_list (by decide +kernel) (pa_cons (pv 1) pa_nil)))
  (pss_cons (ps_set (i := 3) sc__law_shuffled.nd rfl (by first | exact .inl rfl | exact .inr rfl) (pe_lst pa_nil))
  (pss_cons (ps_for PassesOwn.never rfl (pi_range1 (by rfl) m_range (pa_cons (pe_callB call_len1 (by rfl) m_len (by decide +kernel) (pa_cons (pv 1) pa_nil)) pa_nil)) (pg_name (i := 4) sc__law_shuffled.nd rfl (by first | exact .inl rfl | exact .inr rfl))
  (pss_cons (ps_set (i := 5) sc__law_shuffled.nd rfl (by first | exact .inl rfl | exact .inr rfl) (pe_cal C__law_take (hr.mono (by decide)) rfl (pa_cons (pv 0) (pa_cons (pe_callB call_len1 (by rfl) m_len (by decide +kernel) (pa_cons (pv 2) pa_nil)) pa_nil))))
  (pss_cons (ps_expr (pe_bm PySem.F.plainAttrs_list PySem.F.slot_list_append PySem.F.type_list_append mt_append (pv 3) (pa_cons (pe_ix ix_list (pv 2) (pv 5) (fun _ _ => rfl)) pa_nil)))
  (pss_one (ps_set (i := 2) sc__law_shuffled.nd rfl (by first | exact .inl rfl | exact .inr rfl) (pe_op op_cat (pe_slice sl_list (pv 2) po_none (po_some (pv 5))) (pe_slice sl_list (pv 2) (po_some (pe_op op_add (pv 5) pe_int)) po_none)))))))
  (pss_one (ps_ret (pv 3))))))
abbrev s__product_holds : Stmt := topS 13
abbrev n__product_holds : List Str := ["saying", "at", "x", "y", "z"]
theorem sc__product_holds : FnScope n__product_holds ["saying", "at"] (defScope s__product_holds) := ⟨rfl, rfl, rfl, by decide +kernel, rfl, by decide +kernel, by decide +kernel⟩
theorem ok__product_holds {P : Program} {w : World} {K : PySem.W.Frag} {mg : Str → Option Value} {base : Heap} {f : Addr} {fd : FuncData} (F : Fun K "_product_holds" "_product_holds" s__product_holds f fd) (gf : mg "_product_holds" = some (.ref f))     : Cal P w K mg base "_product_holds" 1 ["saying", "at"] (sp__product_holds K) := by
  refine ⟨f, fd, F.ok sc__product_holds len__product_holds (fun cdv A outer s H vs Q E hr h => ⟨t__product_holds K, PSs.nox ?_, pure__product_holds vs H Q E h⟩), F.kp, F.binds (fun _ _ _ _ _ _ us hl => match us, hl with | [_, _], _ => rfl), gf⟩
  exact (pss_cons (ps_asg (pe_slice sl_tupA (pv 0) (po_some pe_int) po_none) (pg_tup rfl (pgs_cons (pg_name (i := 2) sc__product_holds.nd rfl (by first | exact .inl rfl | exact .inr rfl)) (pgs_cons (pg_name (i := 3) sc__product_holds.nd rfl (by first | exact .inl rfl | exact .inr rfl)) (pgs_cons (pg_name (i := 4) sc__product_holds.nd rfl (by first | exact .inl rfl | exact .inr rfl)) pgs_nil)))))
  (pss_one (ps_ret (pe_cmpR op_eq (pe_op op_mul (pe_dget (hu_of hr) (pv 1) (pv 2) (fun _ _ => rfl)) (pe_dget (hu_of hr) (pv 1) (pv 3) (fun _ _ => rfl))) (pe_dget (hu_of hr) (pv 1) (pv 4) (fun _ _ => rfl)) (nomark _)))))
abbrev s__ahead_holds : Stmt := topS 14
abbrev n__ahead_holds : List Str := ["saying", "at", "x", "y"]
theorem sc__ahead_holds : FnScope n__ahead_holds ["saying", "at"] (defScope s__ahead_holds) := ⟨rfl, rfl, rfl, by decide +kernel, rfl, by decide +kernel, by decide +kernel⟩
theorem ok__ahead_holds {P : Program} {w : World} {K : PySem.W.Frag} {mg : Str → Option Value} {base : Heap} {f : Addr} {fd : FuncData} (F : Fun K "_ahead_holds" "_ahead_holds" s__ahead_holds f fd) (gf : mg "_ahead_holds" = some (.ref f))     : Cal P w K mg base "_ahead_holds" 1 ["saying", "at"] (sp__ahead_holds K) := by
  refine ⟨f, fd, F.ok sc__ahead_holds len__ahead_holds (fun cdv A outer s H vs Q E hr h => ⟨t__ahead_holds K, PSs.nox ?_, pure__ahead_holds vs H Q E h⟩), F.kp, F.binds (fun _ _ _ _ _ _ us hl => match us, hl with | [_, _], _ => rfl), gf⟩
  exact (pss_one (ps_ret (pe_cmpR (op_leL (Nat.lt_of_succ_lt (hu_of hr))) (pe_lc (own := [("x", 2)]) rfl sc__ahead_holds.nd (pi_tup (pe_ix ix_tup (pv 0) pe_int (fun _ _ => rfl))) (blkOk_by (own := [("x", 2)]) (N := n__ahead_holds) (sc := defScope s__ahead_holds) (by decide +kernel)) (fun _ _ _ _ _ => (pg_name (i := 2) sc__ahead_holds.nd rfl (by first | exact .inl rfl | exact .inr rfl))) (fun _ _ _ _ _ => pts_nil) (fun _ _ _ _ _ => (pe_dget (hu_of hr) (pv 1) (pv 2) (fun _ _ => rfl)))) (pe_lc (own := [("y", 3)]) rfl sc__ahead_holds.nd (pi_tup (pe_ix ix_tup (pv 0) pe_int (fun _ _ => rfl))) (blkOk_by (own := [("y", 3)]) (N := n__ahead_holds) (sc := defScope s__ahead_holds) (by decide +kernel)) (fun _ _ _ _ _ => (pg_name (i := 3) sc__ahead_holds.nd rfl (by first | exact .inl rfl | exact .inr rfl))) (fun _ _ _ _ _ => pts_nil) (fun _ _ _ _ _ => (pe_dget (hu_of hr) (pv 1) (pv 3) (fun _ _ => rfl)))) (nomark _))))
abbrev s__met : Stmt := topS 24
abbrev n__met : List Str := ["start", "steps", "path", "v", "nexts"]
theorem sc__met : FnScope n__met ["start", "steps"] (defScope s__met) := ⟨rfl, rfl, rfl, by decide +kernel, rfl, by decide +kernel, by decide +kernel⟩
theorem ok__met {P : Program} {w : World} {K : PySem.W.Frag} {mg : Str → Option Value} {base : Heap} {f : Addr} {fd : FuncData} (F : Fun K "_met" "_met" s__met f fd) (gf : mg "_met" = some (.ref f))     : Cal P w K mg base "_met" 1 ["start", "steps"] (sp__met K) := by
  refine ⟨f, fd, F.ok sc__met len__met (fun cdv A outer s H vs Q E hr h => ⟨t__met K, PSs.nox ?_, pure__met vs H Q E h⟩), F.kp, F.binds (fun _ _ _ _ _ _ us hl => match us, hl with | [_, _], _ => rfl), gf⟩
  exact (pss_cons (ps_set (i := 2) sc__met.nd rfl (by first | exact .inl rfl | exact .inr rfl) (pe_lst (pa_cons (pv 0) pa_nil)))
  (pss_cons (ps_for PassesOwn.never rfl (pi_list (pv 1)) (pg_tup rfl (pgs_cons (pg_name (i := 3) sc__met.nd rfl (by first | exact .inl rfl | exact .inr rfl)) (pgs_cons (pg_name (i := 4) sc__met.nd rfl (by first | exact .inl rfl | exact .inr rfl)) pgs_nil)))
  (pss_cons (ps_if (pt_cmp (pc_dnotin (hu_of hr) (pe_tup (pa_cons (pe_ix ix_list (pv 2) (pe_un un_neg pe_int) (fun _ _ => rfl)) (pa_cons (pv 3) pa_nil))) (pv 4))) (pss_one (ps_ret (pv 2))) pss_nil)
  (pss_one (ps_expr (pe_bm PySem.F.plainAttrs_list PySem.F.slot_list_append PySem.F.type_list_append mt_append (pv 2) (pa_cons (pe_dget (hu_of hr) (pv 4) (pe_tup (pa_cons (pe_ix ix_list (pv 2) (pe_un un_neg pe_int) (fun _ _ => rfl)) (pa_cons (pv 3) pa_nil))) (fun _ _ => rfl)) pa_nil))))))
  (pss_one (ps_ret (pv 2)))))
abbrev s_path_of : Stmt := topS 22
abbrev n_path_of : List Str := ["saying", "at", "xs", "nexts", "before", "v", "behind", "x", "steps", "level"]
theorem sc_path_of : FnScope n_path_of ["saying", "at"] (defScope s_path_of) := ⟨rfl, rfl, rfl, by decide +kernel, rfl, by decide +kernel, by decide +kernel⟩
theorem ok_path_of {P : Program} {w : World} {K : PySem.W.Frag} {mg : Str → Option Value} {base : Heap} {f : Addr} {fd : FuncData} (F : Fun K "path_of" "path_of" s_path_of f fd) (gf : mg "path_of" = some (.ref f)) (C__met : Cal P w K mg base "_met" 1 ["start", "steps"] (sp__met K))    : Cal P w K mg base "path_of" 2 ["saying", "at"] (sp_path_of K) := by
  refine ⟨f, fd, F.ok sc_path_of len_path_of (fun cdv A outer s H vs Q E hr h => ⟨t_path_of K, PSs.nox ?_, pure_path_of vs H Q E h⟩), F.kp, F.binds (fun _ _ _ _ _ _ us hl => match us, hl with | [_, _], _ => rfl), gf⟩
  exact (pss_cons (ps_set (i := 2) sc_path_of.nd rfl (by first | exact .inl rfl | exact .inr rfl) (pe_ix ix_tup (pv 0) pe_int (fun _ _ => rfl)))
  (pss_cons (ps_if (pt_cmpR op_eq (pe_ix ix_tup (pv 0) pe_int (fun _ _ => rfl)) pe_str (nomark _)) pss_never pss_nil)
  (pss_cons (ps_if (pt_cmpR op_eq (pe_ix ix_tup (pv 0) pe_int (fun _ _ => rfl)) pe_str (nomark _)) (pss_cons (ps_set (i := 3) sc_path_of.nd rfl (by first | exact .inl rfl | exact .inr rfl) (pe_dcT (hu_of hr) (own := [("before", 4), ("v", 5), ("behind", 6)]) rfl sc_path_of.nd (pi_tup (pe_ix ix_tup (pv 0) pe_int (fun _ _ => rfl))) (blkOk_by (own := [("before", 4), ("v", 5), ("behind", 6)]) (N := n_path_of) (sc := defScope s_path_of) (by decide +kernel)) (fun _ _ _ _ _ => (pg_tup rfl (pgs_cons (pg_name (i := 4) sc_path_of.nd rfl (by first | exact .inl rfl | exact .inr rfl)) (pgs_cons (pg_name (i := 5) sc_path_of.nd rfl (by first | exact .inl rfl | exact .inr rfl)) (pgs_cons (pg_name (i := 6) sc_path_of.nd rfl (by first | exact .inl rfl | exact .inr rfl)) pgs_nil))))) (fun _ _ _ _ _ => pts_nil) (fun _ _ _ _ _ => (pe_tup (pa_cons (pv 4) (pa_cons (pv 5) pa_nil)))) (fun _ _ _ _ _ => (pv 6))))
  (pss_one (ps_ret (pe_cal C__met (hr.mono (by decide)) rfl (pa_cons (pe_ix ix_tup (pv 0) pe_int (fun _ _ => rfl)) (pa_cons (pe_lc (own := [("x", 7)]) rfl sc_path_of.nd (pi_tup (pv 2)) (blkOk_by (own := [("x", 7)]) (N := n_path_of) (sc := defScope s_path_of) (by decide +kernel)) (fun _ _ _ _ _ => (pg_name (i := 7) sc_path_of.nd rfl (by first | exact .inl rfl | exact .inr rfl))) (fun _ _ _ _ _ => pts_nil) (fun _ _ _ _ _ => (pe_tup (pa_cons (pe_dget (hu_of hr) (pv 1) (pv 7) (fun _ _ => rfl)) (pa_cons (pv 3) pa_nil))))) pa_nil)))))) pss_nil)
  pss_never)))
abbrev s__machine_holds : Stmt := topS 15
abbrev n__machine_holds : List Str := ["saying", "at", "path"]
theorem sc__machine_holds : FnScope n__machine_holds ["saying", "at"] (defScope s__machine_holds) := ⟨rfl, rfl, rfl, by decide +kernel, rfl, by decide +kernel, by decide +kernel⟩
theorem ok__machine_holds {P : Program} {w : World} {K : PySem.W.Frag} {mg : Str → Option Value} {base : Heap} {f : Addr} {fd : FuncData} (F : Fun K "_machine_holds" "_machine_holds" s__machine_holds f fd) (gf : mg "_machine_holds" = some (.ref f)) (C_path_of : Cal P w K mg base "path_of" 2 ["saying", "at"] (sp_path_of K))  (m_len : mg "len" = none)  : Cal P w K mg base "_machine_holds" 3 ["saying", "at"] (sp__machine_holds K) := by
  refine ⟨f, fd, F.ok sc__machine_holds len__machine_holds (fun cdv A outer s H vs Q E hr h => ⟨t__machine_holds K, PSs.nox ?_, pure__machine_holds vs H Q E h⟩), F.kp, F.binds (fun _ _ _ _ _ _ us hl => match us, hl with | [_, _], _ => rfl), gf⟩
  exact (pss_cons (ps_set (i := 2) sc__machine_holds.nd rfl (by first | exact .inl rfl | exact .inr rfl) (pe_cal C_path_of (hr.mono (by decide)) rfl (pa_cons (pv 0) (pa_cons (pv 1) pa_nil))))
  (pss_one (ps_ret (pe_and (pe_cmpR op_gt (pe_callB call_len1 (by rfl) m_len (by decide +kernel) (pa_cons (pv 2) pa_nil)) (pe_callB call_len1 (by rfl) m_len (by decide +kernel) (pa_cons (pe_ix ix_tup (pv 0) pe_int (fun _ _ => rfl)) pa_nil)) (nomark _)) (pe_one (pe_cmpR (op_inT (units65 hr)) (pe_ix ix_list (pv 2) (pe_un un_neg pe_int) (fun _ _ => rfl)) (pe_ix ix_tup (pv 0) pe_int (fun _ _ => rfl)) (by rfl)))))))
abbrev s_values_at : Stmt := topS 28
abbrev n_values_at : List Str := ["model", "filling", "item", "v"]
theorem sc_values_at : FnScope n_values_at ["model", "filling"] (defScope s_values_at) := ⟨rfl, rfl, rfl, by decide +kernel, rfl, by decide +kernel, by decide +kernel⟩
theorem ok_values_at {P : Program} {w : World} {K : PySem.W.Frag} {mg : Str → Option Value} {base : Heap} {f : Addr} {fd : FuncData} (F : Fun K "values_at" "values_at" s_values_at f fd) (gf : mg "values_at" = some (.ref f))   (m_zip : mg "zip" = none)  : Cal P w K mg base "values_at" 1 ["model", "filling"] (sp_values_at K) := by
  refine ⟨f, fd, F.ok sc_values_at len_values_at (fun cdv A outer s H vs Q E hr h => ⟨t_values_at K, PSs.nox ?_, pure_values_at vs H Q E h⟩), F.kp, F.binds (fun _ _ _ _ _ _ us hl => match us, hl with | [_, _], _ => rfl), gf⟩
  exact (pss_one (ps_ret (pe_dc (own := [("item", 2), ("v", 3)]) rfl sc_values_at.nd (pi_zipA (by rfl) m_zip (pa_cons (pe_ix ix_tup (pv 0) pe_int (fun _ _ => rfl)) (pa_cons (pv 1) pa_nil))) (blkOk_by (own := [("item", 2), ("v", 3)]) (N := n_values_at) (sc := defScope s_values_at) (by decide +kernel)) (fun _ _ _ _ _ => (pg_tup rfl (pgs_cons (pg_name (i := 2) sc_values_at.nd rfl (by first | exact .inl rfl | exact .inr rfl)) (pgs_cons (pg_name (i := 3) sc_values_at.nd rfl (by first | exact .inl rfl | exact .inr rfl)) pgs_nil)))) (fun _ _ _ _ _ => pts_nil) (fun _ _ _ _ _ => (pe_ix ix_tup (pv 2) pe_int (fun _ _ => rfl))) (fun _ _ _ _ _ => (pv 3)))))
abbrev s_saying_of : Stmt := topS 29
abbrev n_saying_of : List Str := ["model", "name", "sayings", "item"]
theorem sc_saying_of : FnScope n_saying_of ["model", "name"] (defScope s_saying_of) := ⟨rfl, rfl, rfl, by decide +kernel, rfl, by decide +kernel, by decide +kernel⟩
theorem ok_saying_of {P : Program} {w : World} {K : PySem.W.Frag} {mg : Str → Option Value} {base : Heap} {f : Addr} {fd : FuncData} (F : Fun K "saying_of" "saying_of" s_saying_of f fd) (gf : mg "saying_of" = some (.ref f))     : Cal P w K mg base "saying_of" 1 ["model", "name"] (sp_saying_of K) := by
  refine ⟨f, fd, F.ok sc_saying_of len_saying_of (fun cdv A outer s H vs Q E hr h => ⟨t_saying_of K, PSs.nox ?_, pure_saying_of vs H Q E h⟩), F.kp, F.binds (fun _ _ _ _ _ _ us hl => match us, hl with | [_, _], _ => rfl), gf⟩
  exact (pss_cons (ps_setDc (i := 2) (own := [("item", 3)]) rfl sc_saying_of.nd rfl rfl (sw_trueD rfl rfl rfl (by decide +kernel)) (pi_tup (pe_op op_catA (pe_ix ix_tup (pv 0) pe_int (fun _ _ => rfl)) (pe_ix ix_tup (pv 0) pe_int (fun _ _ => rfl)))) (blkOk_by (own := [("item", 3)]) (N := n_saying_of) (sc := defScope s_saying_of) (by decide +kernel)) (fun _ _ _ _ _ => (pg_name (i := 3) sc_saying_of.nd rfl (by first | exact .inl rfl | exact .inr rfl))) (fun _ _ _ _ _ => pts_nil) (fun _ _ _ _ _ => (pe_ix ix_tup (pv 3) pe_int (fun _ _ => rfl))) (fun _ _ _ _ _ => (pe_ix ix_tup (pv 3) pe_int (fun _ _ => rfl))))
  (pss_one (ps_ret (pe_dget (hu_of hr) (pv 2) (pv 1) (fun _ _ => rfl)))))
abbrev s_keeps_saying : Stmt := topS 30
abbrev n_keeps_saying : List Str := ["model", "name", "filling"]
theorem sc_keeps_saying : FnScope n_keeps_saying ["model", "name", "filling"] (defScope s_keeps_saying) := ⟨rfl, rfl, rfl, by decide +kernel, rfl, by decide +kernel, by decide +kernel⟩
theorem ok_keeps_saying {P : Program} {w : World} {K : PySem.W.Frag} {mg : Str → Option Value} {base : Heap} {f : Addr} {fd : FuncData} (F : Fun K "keeps_saying" "keeps_saying" s_keeps_saying f fd) (gf : mg "keeps_saying" = some (.ref f)) (C_holds : Cal P w K mg base "holds" 4 ["saying", "at"] (sp_holds K)) (C_saying_of : Cal P w K mg base "saying_of" 1 ["model", "name"] (sp_saying_of K)) (C_values_at : Cal P w K mg base "values_at" 1 ["model", "filling"] (sp_values_at K))    : FnOk P w K mg base CX0 5 f fd ["model", "name", "filling"] (sp_keeps_saying K) := by
  refine F.ok sc_keeps_saying len_keeps_saying (fun cdv A outer s H vs Q E hr h => ⟨t_keeps_saying K, PSs.nox ?_, pure_keeps_saying vs H Q E h⟩)
  exact (pss_one (ps_ret (pe_cal C_holds (hr.mono (by decide)) rfl (pa_cons (pe_cal C_saying_of (hr.mono (by decide)) rfl (pa_cons (pv 0) (pa_cons (pv 1) pa_nil))) (pa_cons (pe_cal C_values_at (hr.mono (by decide)) rfl (pa_cons (pv 0) (pa_cons (pv 2) pa_nil))) pa_nil)))))
abbrev s_keeps : Stmt := topS 31
abbrev n_keeps : List Str := ["model", "filling", "at", "name", "saying"]
theorem sc_keeps : FnScope n_keeps ["model", "filling"] (defScope s_keeps) := ⟨rfl, rfl, rfl, by decide +kernel, rfl, by decide +kernel, by decide +kernel⟩
theorem ok_keeps {P : Program} {w : World} {K : PySem.W.Frag} {mg : Str → Option Value} {base : Heap} {f : Addr} {fd : FuncData} (F : Fun K "keeps" "keeps" s_keeps f fd) (gf : mg "keeps" = some (.ref f)) (C_holds : Cal P w K mg base "holds" 4 ["saying", "at"] (sp_holds K)) (C_values_at : Cal P w K mg base "values_at" 1 ["model", "filling"] (sp_values_at K))    : FnOk P w K mg base CX0 5 f fd ["model", "filling"] (sp_keeps K) := by
  refine F.ok sc_keeps len_keeps (fun cdv A outer s H vs Q E hr h => ⟨t_keeps K, PSs.nox ?_, pure_keeps vs H Q E h⟩)
  exact (pss_cons (ps_set (i := 2) sc_keeps.nd rfl (by first | exact .inl rfl | exact .inr rfl) (pe_cal C_values_at (hr.mono (by decide)) rfl (pa_cons (pv 0) (pa_cons (pv 1) pa_nil))))
  (pss_cons (ps_for PassesOwn.never rfl (pi_tup (pe_ix ix_tup (pv 0) pe_int (fun _ _ => rfl))) (pg_tup rfl (pgs_cons (pg_name (i := 3) sc_keeps.nd rfl (by first | exact .inl rfl | exact .inr rfl)) (pgs_cons (pg_name (i := 4) sc_keeps.nd rfl (by first | exact .inl rfl | exact .inr rfl)) pgs_nil)))
  (pss_one (ps_if (pt_not (pt_val (pe_cal C_holds (hr.mono (by decide)) rfl (pa_cons (pv 4) (pa_cons (pv 2) pa_nil))))) (pss_one (ps_ret pe_bl)) pss_nil)))
  (pss_one (ps_ret pe_bl))))
abbrev s__law_is_due : Stmt := topS 39
abbrev n__law_is_due : List Str := ["told", "due"]
theorem sc__law_is_due : FnScope n__law_is_due ["told", "due"] (defScope s__law_is_due) := ⟨rfl, rfl, rfl, by decide +kernel, rfl, by decide +kernel, by decide +kernel⟩
theorem ok__law_is_due {P : Program} {w : World} {K : PySem.W.Frag} {mg : Str → Option Value} {base : Heap} {f : Addr} {fd : FuncData} (F : Fun K "_law_is_due" "_law_is_due" s__law_is_due f fd) (gf : mg "_law_is_due" = some (.ref f))     : Cal P w K mg base "_law_is_due" 1 ["told", "due"] (sp__law_is_due K) := by
  refine ⟨f, fd, F.ok sc__law_is_due len__law_is_due (fun cdv A outer s H vs Q E hr h => ⟨t__law_is_due , PSs.nox ?_, pure__law_is_due vs H Q E h⟩), F.kp, F.binds (fun _ _ _ _ _ _ us hl => match us, hl with | [_, _], _ => rfl), gf⟩
  exact (pss_one (ps_ret (pe_ifExp (pt_val (pv 1)) (pe_cmpR op_isBl (pv 0) pe_bl (nomark _)) (pe_cmpR op_isBl (pv 0) pe_bl (nomark _)))))
abbrev s__law_world : Stmt := topS 41
abbrev n__law_world : List Str := ["doms", "filling", "at", "k"]
theorem sc__law_world : FnScope n__law_world ["doms", "filling"] (defScope s__law_world) := ⟨rfl, rfl, rfl, by decide +kernel, rfl, by decide +kernel, by decide +kernel⟩
theorem ok__law_world {P : Program} {w : World} {K : PySem.W.Frag} {mg : Str → Option Value} {base : Heap} {f : Addr} {fd : FuncData} (F : Fun K "_law_world" "_law_world" s__law_world f fd) (gf : mg "_law_world" = some (.ref f))   (m_len : mg "len" = none) (m_range : mg "range" = none)  : Cal P w K mg base "_law_world" 1 ["doms", "filling"] (sp__law_world K) := by
  refine ⟨f, fd, F.ok sc__law_world len__law_world (fun cdv A outer s H vs Q E hr h => ⟨t__law_world K, PSs.nox ?_, pure__law_world vs H Q E h⟩), F.kp, F.binds (fun _ _ _ _ _ _ us hl => match us, hl with | [_, _], _ => rfl), gf⟩
  exact (pss_cons (ps_set (i := 2) sc__law_world.nd rfl (by first | exact .inl rfl | exact .inr rfl) pe_dnewK)
  (pss_cons (ps_for PassesOwn.never rfl (pi_range1 (by rfl) m_range (pa_cons (pe_callB call_len1 (by rfl) m_len (by decide +kernel) (pa_cons (pv 0) pa_nil)) pa_nil)) (pg_name (i := 3) sc__law_world.nd rfl (by first | exact .inl rfl | exact .inr rfl))
  (pss_one (ps_dput (hu_of hr) (pv 2) (pe_ix ix_tup (pe_ix ix_list (pv 0) (pv 3) (fun _ _ => rfl)) pe_int (fun _ _ => rfl)) (pe_ix ix_any (pv 1) (pv 3) (fun _ _ => rfl)) rfl)))
  (pss_one (ps_ret (pv 2)))))
abbrev s__law_walk : Stmt := topS 45
abbrev n__law_walk : List Str := ["saying", "at", "here", "x", "after", "move"]
theorem sc__law_walk : FnScope n__law_walk ["saying", "at"] (defScope s__law_walk) := ⟨rfl, rfl, rfl, by decide +kernel, rfl, by decide +kernel, by decide +kernel⟩
theorem ok__law_walk {P : Program} {w : World} {K : PySem.W.Frag} {mg : Str → Option Value} {base : Heap} {f : Addr} {fd : FuncData} (F : Fun K "_law_walk" "_law_walk" s__law_walk f fd) (gf : mg "_law_walk" = some (.ref f))     : Cal P w K mg base "_law_walk" 1 ["saying", "at"] (sp__law_walk K) := by
  refine ⟨f, fd, F.ok sc__law_walk len__law_walk (fun cdv A outer s H vs Q E hr h => ⟨t__law_walk K, PSs.nox ?_, pure__law_walk vs H Q E h⟩), F.kp, F.binds (fun _ _ _ _ _ _ us hl => match us, hl with | [_, _], _ => rfl), gf⟩
  exact (pss_cons (ps_set (i := 2) sc__law_walk.nd rfl (by first | exact .inl rfl | exact .inr rfl) (pe_ix ix_tup (pv 0) pe_int (fun _ _ => rfl)))
  (pss_cons (ps_for PassesOwn.never rfl (pi_tup (pe_ix ix_tup (pv 0) pe_int (fun _ _ => rfl))) (pg_name (i := 3) sc__law_walk.nd rfl (by first | exact .inl rfl | exact .inr rfl))
  (pss_cons (ps_setLc (i := 4) (own := [("move", 5)]) rfl sc__law_walk.nd rfl rfl (sw_true rfl rfl rfl (by decide +kernel)) (pi_tup (pe_ix ix_tup (pv 0) pe_int (fun _ _ => rfl))) (blkOk_by (own := [("move", 5)]) (N := n__law_walk) (sc := defScope s__law_walk) (by decide +kernel)) (fun _ _ _ _ _ => (pg_name (i := 5) sc__law_walk.nd rfl (by first | exact .inl rfl | exact .inr rfl))) (fun _ _ _ _ _ => (pts_one (PW.pt (pw_and (pt_cmpR op_eq (pe_ix ix_tup (pv 5) pe_int (fun _ _ => rfl)) (pv 2) (nomark _)) (pw_and1 (pt_cmpR op_eq (pe_ix ix_tup (pv 5) pe_int (fun _ _ => rfl)) (pe_dget (hu_of hr) (pv 1) (pv 3) (fun _ _ => rfl)) (nomark _))))))) (fun _ _ _ _ _ => (pe_ix ix_tup (pv 5) pe_int (fun _ _ => rfl))))
  (pss_cons (ps_if (pt_cmpR (op_eqD (units64 hr)) (pv 4) (pe_lst pa_nil) (nomark _)) (pss_one (ps_ret pe_non)) pss_nil)
  (pss_one (ps_set (i := 2) sc__law_walk.nd rfl (by first | exact .inl rfl | exact .inr rfl) (pe_ix ix_list (pv 4) pe_int (fun _ _ => rfl)))))))
  (pss_one (ps_ret (pv 2)))))
abbrev s__law_holds : Stmt := topS 46
abbrev n__law_holds : List Str := ["saying", "at", "here", "k", "one", "other"]
theorem sc__law_holds : FnScope n__law_holds ["saying", "at"] (defScope s__law_holds) := ⟨rfl, rfl, rfl, by decide +kernel, rfl, by decide +kernel, by decide +kernel⟩
theorem ok__law_holds {P : Program} {w : World} {K : PySem.W.Frag} {mg : Str → Option Value} {base : Heap} {f : Addr} {fd : FuncData} (F : Fun K "_law_holds" "_law_holds" s__law_holds f fd) (gf : mg "_law_holds" = some (.ref f)) (C__law_walk : Cal P w K mg base "_law_walk" 1 ["saying", "at"] (sp__law_walk K))  (m_len : mg "len" = none) (m_range : mg "range" = none)  : Cal P w K mg base "_law_holds" 2 ["saying", "at"] (sp__law_holds K) := by
  refine ⟨f, fd, F.ok sc__law_holds len__law_holds (fun cdv A outer s H vs Q E hr h => ⟨t__law_holds K, PSs.nox ?_, pure__law_holds vs H Q E h⟩), F.kp, F.binds (fun _ _ _ _ _ _ us hl => match us, hl with | [_, _], _ => rfl), gf⟩
  exact (pss_cons (ps_if (pt_cmpR op_eq (pe_ix ix_tup (pv 0) pe_int (fun _ _ => rfl)) pe_str (nomark _)) (pss_one (ps_ret (pe_cmpR op_eq (pe_op op_mul (pe_dget (hu_of hr) (pv 1) (pe_ix ix_tup (pv 0) pe_int (fun _ _ => rfl)) (fun _ _ => rfl)) (pe_dget (hu_of hr) (pv 1) (pe_ix ix_tup (pv 0) pe_int (fun _ _ => rfl)) (fun _ _ => rfl))) (pe_dget (hu_of hr) (pv 1) (pe_ix ix_tup (pv 0) pe_int (fun _ _ => rfl)) (fun _ _ => rfl)) (nomark _)))) pss_nil)
  (pss_cons (ps_if (pt_cmpR op_eq (pe_ix ix_tup (pv 0) pe_int (fun _ _ => rfl)) pe_str (nomark _)) (pss_cons (ps_set (i := 2) sc__law_holds.nd rfl (by first | exact .inl rfl | exact .inr rfl) (pe_cal C__law_walk (hr.mono (by decide)) rfl (pa_cons (pv 0) (pa_cons (pv 1) pa_nil))))
  (pss_one (ps_ret (pe_and (pe_cmpR op_notN1 (pv 2) pe_non (nomark _)) (pe_one (pe_cmpR (op_inT (units65 hr)) (pv 2) (pe_ix ix_tup (pv 0) pe_int (fun _ _ => rfl)) (by rfl))))))) pss_nil)
  (pss_cons (ps_for PassesOwn.never rfl (pi_range1 (by rfl) m_range (pa_cons (pe_callB call_len1 (by rfl) m_len (by decide +kernel) (pa_cons (pe_ix ix_tup (pv 0) pe_int (fun _ _ => rfl)) pa_nil)) pa_nil)) (pg_name (i := 3) sc__law_holds.nd rfl (by first | exact .inl rfl | exact .inr rfl))
  (pss_cons (ps_par (i := 4) (j := 5) (by rfl) sc__law_holds.nd rfl rfl (by decide) rfl rfl (pa_cons (pe_dget (hu_of hr) (pv 1) (pe_ix ix_tup (pe_ix ix_tup (pv 0) pe_int (fun _ _ => rfl)) (pv 3) (fun _ _ => rfl)) (fun _ _ => rfl)) (pa_cons (pe_dget (hu_of hr) (pv 1) (pe_ix ix_tup (pe_ix ix_tup (pv 0) pe_int (fun _ _ => rfl)) (pv 3) (fun _ _ => rfl)) (fun _ _ => rfl)) pa_nil)) (by rfl))
  (pss_one (ps_if (pt_cmpR op_ne (pv 4) (pv 5) (nomark _)) (pss_one (ps_ret (pe_cmpR op_lt (pv 4) (pv 5) (nomark _)))) pss_nil))))
  (pss_one (ps_ret pe_bl)))))
abbrev s__law_fillings : Stmt := topS 40
abbrev n__law_fillings : List Str := ["doms", "rows", "pair", "longer", "row", "v"]
theorem sc__law_fillings : FnScope n__law_fillings ["doms"] (defScope s__law_fillings) := ⟨rfl, rfl, rfl, by decide +kernel, rfl, by decide +kernel, by decide +kernel⟩
theorem ok__law_fillings {P : Program} {w : World} {K : PySem.W.Frag} {mg : Str → Option Value} {base : Heap} {f : Addr} {fd : FuncData} (F : Fun K "_law_fillings" "_law_fillings" s__law_fillings f fd) (gf : mg "_law_fillings" = some (.ref f))     : Cal P w K mg base "_law_fillings" 1 ["doms"] (sp__law_fillings K) := by
  refine ⟨f, fd, F.ok sc__law_fillings len__law_fillings (fun cdv A outer s H vs Q E hr h => ⟨t__law_fillings K, PSs.nox ?_, pure__law_fillings vs H Q E h⟩), F.kp, F.binds (fun _ _ _ _ _ _ us hl => match us, hl with | [_], _ => rfl), gf⟩
  exact (pss_cons (ps_set (i := 1) sc__law_fillings.nd rfl (by first | exact .inl rfl | exact .inr rfl) (pe_lst (pa_cons (pe_tup pa_nil) pa_nil)))
  (pss_cons (ps_for PassesOwn.never rfl (pi_list (pv 0)) (pg_name (i := 2) sc__law_fillings.nd rfl (by first | exact .inl rfl | exact .inr rfl))
  (pss_cons (ps_set (i := 3) sc__law_fillings.nd rfl (by first | exact .inl rfl | exact .inr rfl) (pe_lst pa_nil))
  (pss_cons (ps_for PassesOwn.never rfl (pi_list (pv 1)) (pg_name (i := 4) sc__law_fillings.nd rfl (by first | exact .inl rfl | exact .inr rfl))
  (pss_one (ps_set (i := 3) sc__law_fillings.nd rfl (by first | exact .inl rfl | exact .inr rfl) (pe_op op_cat (pv 3) (pe_lc (own := [("v", 5)]) rfl sc__law_fillings.nd (pi_tup (pe_ix ix_tup (pv 2) pe_int (fun _ _ => rfl))) (blkOk_by (own := [("v", 5)]) (N := n__law_fillings) (sc := defScope s__law_fillings) (by decide +kernel)) (fun _ _ _ _ _ => (pg_name (i := 5) sc__law_fillings.nd rfl (by first | exact .inl rfl | exact .inr rfl))) (fun _ _ _ _ _ => pts_nil) (fun _ _ _ _ _ => (pe_op op_catA (pv 4) (pe_tup (pa_cons (pv 5) pa_nil)))))))))
  (pss_one (ps_set (i := 1) sc__law_fillings.nd rfl (by first | exact .inl rfl | exact .inr rfl) (pv 3))))))
  (pss_one (ps_ret (pv 1)))))
abbrev s__law_near : Stmt := topS 42
abbrev n__law_near : List Str := ["state", "doms", "base", "row", "k", "at"]
theorem sc__law_near : FnScope n__law_near ["state", "doms", "base"] (defScope s__law_near) := ⟨rfl, rfl, rfl, by decide +kernel, rfl, by decide +kernel, by decide +kernel⟩
theorem ok__law_near {P : Program} {w : World} {K : PySem.W.Frag} {mg : Str → Option Value} {base : Heap} {f : Addr} {fd : FuncData} (F : Fun K "_law_near" "_law_near" s__law_near f fd) (gf : mg "_law_near" = some (.ref f)) (C__law_pick : Cal P w K mg base "_law_pick" 3 ["state", "some"] (sp__law_pick K)) (C__law_take : Cal P w K mg base "_law_take" 2 ["state", "limit"] (sp__law_take K))  (m_len : mg "len" = none) (m_list : mg "list" = none) (m_range : mg "range" = none) (m_tuple : mg "tuple" = none)  : Cal P w K mg base "_law_near" 4 ["state", "doms", "base"] (sp__law_near K) := by
  refine ⟨f, fd, F.ok sc__law_near len__law_near (fun cdv A outer s H vs Q E hr h => ⟨t__law_near K, PSs.nox ?_, pure__law_near vs H Q E h⟩), F.kp, F.binds (fun _ _ _ _ _ _ us hl => match us, hl with | [_, _, _], _ => rfl), gf⟩
  exact (pss_cons (ps_set (i := 3) sc__law_near.nd rfl (by first | exact .inl rfl | exact .inr rfl) (pe_callTy call_listOf (by rfl) m_list (by decide +kernel) (pa_cons (pv 2) pa_nil)))
  (pss_cons (ps_for PassesOwn.never rfl (pi_range1 (by rfl) m_range (pa_cons (pe_cal C__law_pick (hr.mono (by decide)) rfl (pa_cons (pv 0) (pa_cons (pe_lst (pa_cons pe_int (pa_cons pe_int (pa_cons pe_int (pa_cons pe_int (pa_cons pe_int (pa_cons pe_int (pa_cons (pe_op op_mul pe_int (pe_callB call_len1 (by rfl) m_len (by decide +kernel) (pa_cons (pv 1) pa_nil))) pa_nil)))))))) pa_nil))) pa_nil)) (pg_name (i := 4) sc__law_near.nd rfl (by first | exact .inl rfl | exact .inr rfl))
  (pss_cons (ps_set (i := 5) sc__law_near.nd rfl (by first | exact .inl rfl | exact .inr rfl) (pe_cal C__law_take (hr.mono (by decide)) rfl (pa_cons (pv 0) (pa_cons (pe_callB call_len1 (by rfl) m_len (by decide +kernel) (pa_cons (pv 1) pa_nil)) pa_nil))))
  (pss_one (ps_asg (pe_cal C__law_pick (hr.mono (by decide)) rfl (pa_cons (pv 0) (pa_cons (pe_ix ix_tup (pe_ix ix_list (pv 1) (pv 5) (fun _ _ => rfl)) pe_int (fun _ _ => rfl)) pa_nil))) (pg_sub (pv 3) (pv 5) set_list)))))
  (pss_one (ps_ret (pe_tupleOf (by rfl) m_tuple (pv 3))))))
abbrev s__law_parted : Stmt := topS 44
abbrev n__law_parted : List Str := ["state", "made", "at", "cut", "firm", "one"]
theorem sc__law_parted : FnScope n__law_parted ["state", "made", "at"] (defScope s__law_parted) := ⟨rfl, rfl, rfl, by decide +kernel, rfl, by decide +kernel, by decide +kernel⟩
theorem ok__law_parted {P : Program} {w : World} {K : PySem.W.Frag} {mg : Str → Option Value} {base : Heap} {f : Addr} {fd : FuncData} (F : Fun K "_law_parted" "_law_parted" s__law_parted f fd) (gf : mg "_law_parted" = some (.ref f)) (C__law_holds : Cal P w K mg base "_law_holds" 2 ["saying", "at"] (sp__law_holds K)) (C__law_take : Cal P w K mg base "_law_take" 2 ["state", "limit"] (sp__law_take K))  (m_len : mg "len" = none)  : Cal P w K mg base "_law_parted" 3 ["state", "made", "at"] (sp__law_parted K) := by
  refine ⟨f, fd, F.ok sc__law_parted len__law_parted (fun cdv A outer s H vs Q E hr h => ⟨t__law_parted K, PSs.nox ?_, pure__law_parted vs H Q E h⟩), F.kp, F.binds (fun _ _ _ _ _ _ us hl => match us, hl with | [_, _, _], _ => rfl), gf⟩
  exact (pss_cons (ps_set (i := 3) sc__law_parted.nd rfl (by first | exact .inl rfl | exact .inr rfl) (pe_cal C__law_take (hr.mono (by decide)) rfl (pa_cons (pv 0) (pa_cons (pe_callB call_len1 (by rfl) m_len (by decide +kernel) (pa_cons (pv 1) pa_nil)) pa_nil))))
  (pss_cons (ps_set (i := 4) sc__law_parted.nd rfl (by first | exact .inl rfl | exact .inr rfl) (pe_lc (own := [("one", 5)]) rfl sc__law_parted.nd (pi_list (pe_slice sl_list (pv 1) (po_some (pv 3)) po_none)) (blkOk_by (own := [("one", 5)]) (N := n__law_parted) (sc := defScope s__law_parted) (by decide +kernel)) (fun _ _ _ _ _ => (pg_name (i := 5) sc__law_parted.nd rfl (by first | exact .inl rfl | exact .inr rfl))) (fun _ _ _ _ _ => (pts_one (PW.pt (pw_or (pt_val (pe_cal C__law_holds (hr.mono (by decide)) rfl (pa_cons (pe_ix ix_tup (pv 5) pe_int (fun _ _ => rfl)) (pa_cons (pv 2) pa_nil)))) (pw_or1 (pt_cmpR op_eq (pe_cal C__law_take (hr.mono (by decide)) rfl (pa_cons (pv 0) (pa_cons pe_int pa_nil))) pe_int (nomark _))))))) (fun _ _ _ _ _ => (pv 5))))
  (pss_one (ps_ret (pe_lst (pa_cons (pv 4) (pa_cons (pe_lc (own := [("one", 5)]) rfl sc__law_parted.nd (pi_list (pv 1)) (blkOk_by (own := [("one", 5)]) (N := n__law_parted) (sc := defScope s__law_parted) (by decide +kernel)) (fun _ _ _ _ _ => (pg_name (i := 5) sc__law_parted.nd rfl (by first | exact .inl rfl | exact .inr rfl))) (fun _ _ _ _ _ => (pts_one (pt_cmpR (op_notInD (units65 hr)) (pv 5) (pv 4) (by rfl)))) (fun _ _ _ _ _ => (pv 5))) pa_nil)))))))
abbrev s__law_are_held : Stmt := topS 43
abbrev n__law_are_held : List Str := ["state", "doms", "firm", "soft", "fillings", "prices", "one", "model", "k", "filling", "at", "whole", "name", "saying", "due", "told"]
theorem sc__law_are_held : FnScope n__law_are_held ["state", "doms", "firm", "soft", "fillings"] (defScope s__law_are_held) := ⟨rfl, rfl, rfl, by decide +kernel, rfl, by decide +kernel, by decide +kernel⟩
theorem ok__law_are_held {P : Program} {w : World} {K : PySem.W.Frag} {mg : Str → Option Value} {base : Heap} {f : Addr} {fd : FuncData} (F : Fun K "_law_are_held" "_law_are_held" s__law_are_held f fd) (gf : mg "_law_are_held" = some (.ref f)) (C__law_holds : Cal P w K mg base "_law_holds" 2 ["saying", "at"] (sp__law_holds K)) (C__law_is_due : Cal P w K mg base "_law_is_due" 1 ["told", "due"] (sp__law_is_due K)) (C__law_take : Cal P w K mg base "_law_take" 2 ["state", "limit"] (sp__law_take K)) (C__law_world : Cal P w K mg base "_law_world" 1 ["doms", "filling"] (sp__law_world K)) (C_keeps : Cal P w K mg base "keeps" 5 ["model", "filling"] (sp_keeps K)) (C_keeps_saying : Cal P w K mg base "keeps_saying" 5 ["model", "name", "filling"] (sp_keeps_saying K)) (CK_keeps : CalK P w K mg base "keeps" 5 ["model", "filling"] ["model", "filling"] gK (sp_keeps K)) (CK_keeps_saying : CalK P w K mg base "keeps_saying" 5 ["model", "name", "filling"] ["model", "name", "filling"] gK (sp_keeps_saying K)) (m_len : mg "len" = none) (m_range : mg "range" = none) (m_tuple : mg "tuple" = none)  : Cal P w K mg base "_law_are_held" 6 ["state", "doms", "firm", "soft", "fillings"] (sp__law_are_held K) := by
  refine ⟨f, fd, F.ok sc__law_are_held len__law_are_held (fun cdv A outer s H vs Q E hr h => ⟨t__law_are_held K, PSs.nox ?_, pure__law_are_held vs H Q E h⟩), F.kp, F.binds (fun _ _ _ _ _ _ us hl => match us, hl with | [_, _, _, _, _], _ => rfl), gf⟩
  exact (pss_cons (ps_set (i := 5) sc__law_are_held.nd rfl (by first | exact .inl rfl | exact .inr rfl) (pe_lc (own := [("one", 6)]) rfl sc__law_are_held.nd (pi_list (pv 3)) (blkOk_by (own := [("one", 6)]) (N := n__law_are_held) (sc := defScope s__law_are_held) (by decide +kernel)) (fun _ _ _ _ _ => (pg_name (i := 6) sc__law_are_held.nd rfl (by first | exact .inl rfl | exact .inr rfl))) (fun _ _ _ _ _ => pts_nil) (fun _ _ _ _ _ => (pe_op op_add pe_int (pe_cal C__law_take (hr.mono (by decide)) rfl (pa_cons (pv 0) (pa_cons pe_int pa_nil)))))))
  (pss_cons (ps_set (i := 7) sc__law_are_held.nd rfl (by first | exact .inl rfl | exact .inr rfl) (pe_tup (pa_cons (pe_tupleOf (by rfl) m_tuple (pv 1)) (pa_cons (pe_tupleOf (by rfl) m_tuple (pv 2)) (pa_cons (pe_tupleOf (by rfl) m_tuple (pe_lc (own := [("k", 8)]) rfl sc__law_are_held.nd (pi_range1 (by rfl) m_range (pa_cons (pe_callB call_len1 (by rfl) m_len (by decide +kernel) (pa_cons (pv 3) pa_nil)) pa_nil)) (blkOk_by (own := [("k", 8)]) (N := n__law_are_held) (sc := defScope s__law_are_held) (by decide +kernel)) (fun _ _ _ _ _ => (pg_name (i := 8) sc__law_are_held.nd rfl (by first | exact .inl rfl | exact .inr rfl))) (fun _ _ _ _ _ => pts_nil) (fun _ _ _ _ _ => (pe_op op_catA (pe_ix ix_list (pv 3) (pv 8) (fun _ _ => rfl)) (pe_tup (pa_cons (pe_ix ix_list (pv 5) (pv 8) (fun _ _ => rfl)) pa_nil)))))) pa_nil)))))
  (pss_cons (ps_for PassesOwn.never rfl (pi_list (pv 4)) (pg_name (i := 9) sc__law_are_held.nd rfl (by first | exact .inl rfl | exact .inr rfl))
  (pss_cons (ps_set (i := 10) sc__law_are_held.nd rfl (by first | exact .inl rfl | exact .inr rfl) (pe_cal C__law_world (hr.mono (by decide)) rfl (pa_cons (pv 1) (pa_cons (pv 9) pa_nil))))
  (pss_cons (ps_set (i := 11) sc__law_are_held.nd rfl (by first | exact .inl rfl | exact .inr rfl) pe_bl)
  (pss_cons (ps_for PassesOwn.never rfl (pi_range1 (by rfl) m_range (pa_cons (pe_op op_add (pe_callB call_len1 (by rfl) m_len (by decide +kernel) (pa_cons (pv 2) pa_nil)) (pe_callB call_len1 (by rfl) m_len (by decide +kernel) (pa_cons (pv 3) pa_nil))) pa_nil)) (pg_name (i := 8) sc__law_are_held.nd rfl (by first | exact .inl rfl | exact .inr rfl))
  (pss_cons (ps_asg (pe_ix ix_list (pe_op op_cat (pv 2) (pv 3)) (pv 8) (fun _ _ => rfl)) (pg_tup rfl (pgs_cons (pg_name (i := 12) sc__law_are_held.nd rfl (by first | exact .inl rfl | exact .inr rfl)) (pgs_cons (pg_name (i := 13) sc__law_are_held.nd rfl (by first | exact .inl rfl | exact .inr rfl)) pgs_nil))))
  (pss_cons (ps_set (i := 14) sc__law_are_held.nd rfl (by first | exact .inl rfl | exact .inr rfl) (pe_cal C__law_holds (hr.mono (by decide)) rfl (pa_cons (pv 13) (pa_cons (pv 10) pa_nil))))
  (pss_cons (ps_set (i := 15) sc__law_are_held.nd rfl (by first | exact .inl rfl | exact .inr rfl) (pe_calK CK_keeps_saying (hr.mono (by decide)) rfl (pk_cons (pv 7) (pk_cons (pv 12) (pk_cons (pv 9) pk_nil)))))
  (pss_cons (ps_if (pt_not (pt_val (pe_cal C__law_is_due (hr.mono (by decide)) rfl (pa_cons (pv 15) (pa_cons (pv 14) pa_nil))))) (pss_one (ps_ret pe_bl)) pss_nil)
  (pss_one (ps_set (i := 11) sc__law_are_held.nd rfl (by first | exact .inl rfl | exact .inr rfl) (pe_and (pv 11) (pe_one (pe_or (pv 14) (pe_one (pe_cmpR op_ge (pv 8) (pe_callB call_len1 (by rfl) m_len (by decide +kernel) (pa_cons (pv 2) pa_nil)) (nomark _)))))))))))))
  (pss_cons (ps_if (PW.pt (pw_or (pt_not (pt_val (pe_cal C__law_is_due (hr.mono (by decide)) rfl (pa_cons (pe_cal C_keeps (hr.mono (by decide)) rfl (pa_cons (pv 7) (pa_cons (pv 9) pa_nil))) (pa_cons (pv 11) pa_nil))))) (pw_or1 (pt_not (pt_val (pe_cal C__law_is_due (hr.mono (by decide)) rfl (pa_cons (pe_calK CK_keeps (hr.mono (by decide)) rfl (pk_cons (pv 7) (pk_cons (pv 9) pk_nil))) (pa_cons (pv 11) pa_nil)))))))) (pss_one (ps_ret pe_bl)) pss_nil)
  (pss_one (ps_if (PW.pt (pw_and (pt_cmpR op_gt (pe_callB call_len1 (by rfl) m_len (by decide +kernel) (pa_cons (pv 3) pa_nil)) pe_int (nomark _)) (pw_and1 (pt_not (pt_val (pe_cal C__law_is_due (hr.mono (by decide)) rfl (pa_cons (pe_cal C_keeps_saying (hr.mono (by decide)) rfl (pa_cons (pv 7) (pa_cons (pe_ix ix_tup (pe_ix ix_list (pv 3) pe_int (fun _ _ => rfl)) pe_int (fun _ _ => rfl)) (pa_cons (pv 9) pa_nil)))) (pa_cons (pe_cal C__law_holds (hr.mono (by decide)) rfl (pa_cons (pe_ix ix_tup (pe_ix ix_list (pv 3) pe_int (fun _ _ => rfl)) pe_int (fun _ _ => rfl)) (pa_cons (pv 10) pa_nil))) pa_nil)))))))) (pss_one (ps_ret pe_bl)) pss_nil)))))))
  (pss_one (ps_ret pe_bl)))))
abbrev s__law_by_turns : Stmt := topS 50
abbrev n__law_by_turns : List Str := ["state", "doms", "made", "firm", "soft", "fillings", "base", "few", "turned", "k"]
theorem sc__law_by_turns : FnScope n__law_by_turns ["state", "doms", "made", "firm", "soft", "fillings", "base"] (defScope s__law_by_turns) := ⟨rfl, rfl, rfl, by decide +kernel, rfl, by decide +kernel, by decide +kernel⟩
theorem ok__law_by_turns {P : Program} {w : World} {K : PySem.W.Frag} {mg : Str → Option Value} {base : Heap} {f : Addr} {fd : FuncData} (F : Fun K "_law_by_turns" "_law_by_turns" s__law_by_turns f fd) (gf : mg "_law_by_turns" = some (.ref f)) (C__law_are_held : Cal P w K mg base "_law_are_held" 6 ["state", "doms", "firm", "soft", "fillings"] (sp__law_are_held K)) (C__law_near : Cal P w K mg base "_law_near" 4 ["state", "doms", "base"] (sp__law_near K))  (m_len : mg "len" = none) (m_range : mg "range" = none)  : Cal P w K mg base "_law_by_turns" 7 ["state", "doms", "made", "firm", "soft", "fillings", "base"] (sp__law_by_turns K) := by
  refine ⟨f, fd, F.ok sc__law_by_turns len__law_by_turns (fun cdv A outer s H vs Q E hr h => ⟨t__law_by_turns K, PSs.nox ?_, pure__law_by_turns vs H Q E h⟩), F.kp, F.binds (fun _ _ _ _ _ _ us hl => match us, hl with | [_, _, _, _, _, _, _], _ => rfl), gf⟩
  exact (pss_cons (ps_set (i := 7) sc__law_by_turns.nd rfl (by first | exact .inl rfl | exact .inr rfl) (pe_op op_cat (pe_op op_cat (pe_lst (pa_cons (pv 6) pa_nil)) (pe_slice sl_list (pv 5) po_none (po_some pe_int))) (pe_lst (pa_cons (pe_cal C__law_near (hr.mono (by decide)) rfl (pa_cons (pv 0) (pa_cons (pv 1) (pa_cons (pv 6) pa_nil)))) pa_nil))))
  (pss_cons (ps_setLc (i := 8) (own := [("k", 9)]) rfl sc__law_by_turns.nd rfl rfl (sw_true rfl rfl rfl (by decide +kernel)) (pi_range1 (by rfl) m_range (pa_cons (pe_callB call_len1 (by rfl) m_len (by decide +kernel) (pa_cons (pv 2) pa_nil)) pa_nil)) (blkOk_by (own := [("k", 9)]) (N := n__law_by_turns) (sc := defScope s__law_by_turns) (by decide +kernel)) (fun _ _ _ _ _ => (pg_name (i := 9) sc__law_by_turns.nd rfl (by first | exact .inl rfl | exact .inr rfl))) (fun _ _ _ _ _ => pts_nil) (fun _ _ _ _ _ => (pe_tup (pa_cons (pe_ix ix_tup (pe_ix ix_list (pv 2) (pv 9) (fun _ _ => rfl)) pe_int (fun _ _ => rfl)) (pa_cons (pe_ix ix_tup (pe_ix ix_list (pv 2) (pe_op op_sub (pv 9) pe_int) (fun _ _ => rfl)) pe_int (fun _ _ => rfl)) pa_nil)))))
  (pss_cons (ps_if (PW.pt (pw_or (pt_not (pt_val (pe_cal C__law_are_held (hr.mono (by decide)) rfl (pa_cons (pv 0) (pa_cons (pv 1) (pa_cons (pv 3) (pa_cons (pv 4) (pa_cons (pv 5) pa_nil)))))))) (pw_or1 (pt_not (pt_val (pe_cal C__law_are_held (hr.mono (by decide)) rfl (pa_cons (pv 0) (pa_cons (pv 1) (pa_cons (pe_slice sl_list (pv 8) (po_some pe_int) po_none) (pa_cons (pe_slice sl_list (pv 8) po_none (po_some pe_int)) (pa_cons (pv 7) pa_nil))))))))))) (pss_one (ps_ret pe_bl)) pss_nil)
  (pss_one (ps_ret (pe_cal C__law_are_held (hr.mono (by decide)) rfl (pa_cons (pv 0) (pa_cons (pv 1) (pa_cons (pv 3) (pa_cons (pv 4) (pa_cons (pv 7) pa_nil)))))))))))
abbrev s__law_names : Stmt := topS 38
abbrev n__law_names : List Str := ["state", "many", "signs", "style", "start", "step", "word", "k", "one", "two", "found", "first", "name"]
theorem sc__law_names : FnScope n__law_names ["state", "many"] (defScope s__law_names) := ⟨rfl, rfl, rfl, by decide +kernel, rfl, by decide +kernel, by decide +kernel⟩
theorem ok__law_names {P : Program} {w : World} {K : PySem.W.Frag} {mg : Str → Option Value} {base : Heap} {f : Addr} {fd : FuncData} (F : Fun K "_law_names" "_law_names" s__law_names f fd) (gf : mg "_law_names" = some (.ref f)) (C__law_shuffled : Cal P w K mg base "_law_shuffled" 3 ["state", "some"] (sp__law_shuffled K)) (C__law_take : Cal P w K mg base "_law_take" 2 ["state", "limit"] (sp__law_take K))  (m_int : mg "int" = none) (m_range : mg "range" = none) (m_str : mg "str" = none)  : Cal P w K mg base "_law_names" 4 ["state", "many"] (sp__law_names K) := by
  refine ⟨f, fd, F.ok sc__law_names len__law_names (fun cdv A outer s H vs Q E hr h => ⟨t__law_names K, PSs.nox ?_, pure__law_names vs H Q E h⟩), F.kp, F.binds (fun _ _ _ _ _ _ us hl => match us, hl with | [_, _], _ => rfl), gf⟩
  exact (pss_cons (ps_set (i := 2) sc__law_names.nd rfl (by first | exact .inl rfl | exact .inr rfl) pe_str)
  (pss_cons (ps_set (i := 3) sc__law_names.nd rfl (by first | exact .inl rfl | exact .inr rfl) (pe_cal C__law_take (hr.mono (by decide)) rfl (pa_cons (pv 0) (pa_cons pe_int pa_nil))))
  (pss_cons (ps_par (i := 4) (j := 5) (by rfl) sc__law_names.nd rfl rfl (by decide) rfl rfl (pa_cons (pe_cal C__law_take (hr.mono (by decide)) rfl (pa_cons (pv 0) (pa_cons pe_int pa_nil))) (pa_cons (pe_op op_add pe_int (pe_cal C__law_take (hr.mono (by decide)) rfl (pa_cons (pv 0) (pa_cons pe_int pa_nil)))) pa_nil)) (by rfl))
  (pss_cons (ps_set (i := 6) sc__law_names.nd rfl (by first | exact .inl rfl | exact .inr rfl) (pe_joinK pe_str (pe_lc (own := [("k", 7)]) rfl sc__law_names.nd (pi_range1 (by rfl) m_range (pa_cons pe_int pa_nil)) (blkOk_by (own := [("k", 7)]) (N := n__law_names) (sc := defScope s__law_names) (by decide +kernel)) (fun _ _ _ _ _ => (pg_name (i := 7) sc__law_names.nd rfl (by first | exact .inl rfl | exact .inr rfl))) (fun _ _ _ _ _ => pts_nil) (fun _ _ _ _ _ => (pe_ix ix_str (pv 2) (pe_cal C__law_take (hr.mono (by decide)) rfl (pa_cons (pv 0) (pa_cons pe_int pa_nil))) (fun _ _ => rfl))))))
  (pss_cons (ps_par (i := 8) (j := 9) (by rfl) sc__law_names.nd rfl rfl (by decide) rfl rfl (pa_cons (pe_cal C__law_take (hr.mono (by decide)) rfl (pa_cons (pv 0) (pa_cons pe_int pa_nil))) (pa_cons (pe_op op_add pe_int (pe_cal C__law_take (hr.mono (by decide)) rfl (pa_cons (pv 0) (pa_cons pe_int pa_nil)))) pa_nil)) (by rfl))
  (pss_cons (ps_set (i := 10) sc__law_names.nd rfl (by first | exact .inl rfl | exact .inr rfl) (pe_lst pa_nil))
  (pss_cons (ps_for PassesOwn.never rfl (pi_range1 (by rfl) m_range (pa_cons (pv 1) pa_nil)) (pg_name (i := 7) sc__law_names.nd rfl (by first | exact .inl rfl | exact .inr rfl))
  (pss_cons (ps_set (i := 11) sc__law_names.nd rfl (by first | exact .inl rfl | exact .inr rfl) (pe_ix ix_str (pv 2) (pe_op op_mod (pe_callTy call_int1 (by rfl) m_int (by decide +kernel) (pa_cons (pe_op op_add (pv 4) (pe_op op_mul (pv 5) (pv 7))) pa_nil)) pe_int) (fun _ _ => rfl)))
  (pss_cons (ps_set (i := 12) sc__law_names.nd rfl (by first | exact .inl rfl | exact .inr rfl) (pe_op op_addS (pe_op op_addS (pe_op op_addS (pe_op op_addS (pe_slice sl_str (pv 6) po_none (po_some (pv 8))) (pv 11)) (pe_slice sl_str (pv 6) (po_some (pe_op op_add (pv 8) pe_int)) (po_some (pv 9)))) (pe_ix ix_str (pv 2) (pe_op op_fdiv (pv 7) pe_int) (fun _ _ => rfl))) (pe_slice sl_str (pv 6) (po_some (pe_op op_add (pv 9) pe_int)) po_none)))
  (pss_cons (ps_if (pt_cmpR op_eq (pv 3) pe_int (nomark _)) (pss_one (ps_set (i := 12) sc__law_names.nd rfl (by first | exact .inl rfl | exact .inr rfl) (pe_op op_addS (pv 11) (pe_op op_repS (pe_ix ix_str (pv 2) (pe_op op_fdiv (pv 7) pe_int) (fun _ _ => rfl)) (pe_callTy call_int1 (by rfl) m_int (by decide +kernel) (pa_cons (pe_cmpR op_gt (pv 1) pe_int (nomark _)) pa_nil)))))) (pss_one (ps_if (pt_cmpR op_eq (pv 3) pe_int (nomark _)) (pss_one (ps_set (i := 12) sc__law_names.nd rfl (by first | exact .inl rfl | exact .inr rfl) (pe_op op_addS (pe_op op_addS (pe_slice sl_str (pv 6) po_none (po_some (pv 8))) (pv 11)) (pe_callTy call_str_int (by rfl) m_str (by decide +kernel) (pa_cons (pv 7) pa_nil))))) (pss_one (ps_if (pt_cmpR op_eq (pv 3) pe_int (nomark _)) (pss_one (ps_set (i := 12) sc__law_names.nd rfl (by first | exact .inl rfl | exact .inr rfl) (pe_op op_addS (pe_op op_addS (pe_op op_addS (pe_op op_addS (pe_slice sl_str (pv 6) po_none (po_some (pe_op op_add pe_int (pe_op op_fdiv (pv 8) pe_int)))) pe_str) (pe_callTy call_str_int (by rfl) m_str (by decide +kernel) (pa_cons (pe_op op_fdiv (pv 7) pe_int) pa_nil))) pe_str) (pe_callTy call_str_int (by rfl) m_str (by decide +kernel) (pa_cons (pe_op op_mod (pe_callTy call_int1 (by rfl) m_int (by decide +kernel) (pa_cons (pv 7) pa_nil)) pe_int) pa_nil))))) pss_nil)))))
  (pss_one (ps_expr (pe_bm PySem.F.plainAttrs_list PySem.F.slot_list_append PySem.F.type_list_append mt_append (pv 10) (pa_cons (pv 12) pa_nil))))))))
  (pss_one (ps_ret (pe_cal C__law_shuffled (hr.mono (by decide)) rfl (pa_cons (pv 0) (pa_cons (pv 10) pa_nil))))))))))))
abbrev s__law_machine : Stmt := topS 47
abbrev n__law_machine : List Str := ["state", "doms", "at", "xs", "pair", "stands", "start", "found", "here", "x", "values", "k", "key", "ends", "q"]
theorem sc__law_machine : FnScope n__law_machine ["state", "doms", "at"] (defScope s__law_machine) := ⟨rfl, rfl, rfl, by decide +kernel, rfl, by decide +kernel, by decide +kernel⟩
theorem ok__law_machine {P : Program} {w : World} {K : PySem.W.Frag} {mg : Str → Option Value} {base : Heap} {f : Addr} {fd : FuncData} (F : Fun K "_law_machine" "_law_machine" s__law_machine f fd) (gf : mg "_law_machine" = some (.ref f)) (C__law_pick : Cal P w K mg base "_law_pick" 3 ["state", "some"] (sp__law_pick K)) (C__law_shuffled : Cal P w K mg base "_law_shuffled" 3 ["state", "some"] (sp__law_shuffled K)) (C__law_take : Cal P w K mg base "_law_take" 2 ["state", "limit"] (sp__law_take K))  (m_int : mg "int" = none) (m_len : mg "len" = none) (m_range : mg "range" = none) (m_sorted : mg "sorted" = none) (m_tuple : mg "tuple" = none)  : Cal P w K mg base "_law_machine" 4 ["state", "doms", "at"] (sp__law_machine K) := by
  refine ⟨f, fd, F.ok sc__law_machine len__law_machine (fun cdv A outer s H vs Q E hr h => ⟨t__law_machine K, PSs.nox ?_, pure__law_machine vs H Q E h⟩), F.kp, F.binds (fun _ _ _ _ _ _ us hl => match us, hl with | [_, _, _], _ => rfl), gf⟩
  exact (pss_cons (ps_setLc (i := 3) (own := [("pair", 4)]) rfl sc__law_machine.nd rfl rfl (sw_true rfl rfl rfl (by decide +kernel)) (pi_list (pe_slice sl_list (pe_cal C__law_shuffled (hr.mono (by decide)) rfl (pa_cons (pv 0) (pa_cons (pv 1) pa_nil))) po_none (po_some (pe_cal C__law_pick (hr.mono (by decide)) rfl (pa_cons (pv 0) (pa_cons (pe_lst (pa_cons (pe_op op_add pe_int (pe_cal C__law_take (hr.mono (by decide)) rfl (pa_cons (pv 0) (pa_cons pe_int pa_nil)))) (pa_cons (pe_op op_add pe_int (pe_cal C__law_take (hr.mono (by decide)) rfl (pa_cons (pv 0) (pa_cons pe_int pa_nil)))) (pa_cons pe_int pa_nil)))) pa_nil)))))) (blkOk_by (own := [("pair", 4)]) (N := n__law_machine) (sc := defScope s__law_machine) (by decide +kernel)) (fun _ _ _ _ _ => (pg_name (i := 4) sc__law_machine.nd rfl (by first | exact .inl rfl | exact .inr rfl))) (fun _ _ _ _ _ => pts_nil) (fun _ _ _ _ _ => (pe_ix ix_tup (pv 4) pe_int (fun _ _ => rfl))))
  (pss_cons (ps_set (i := 5) sc__law_machine.nd rfl (by first | exact .inl rfl | exact .inr rfl) (pe_op op_add pe_int (pe_cal C__law_take (hr.mono (by decide)) rfl (pa_cons (pv 0) (pa_cons pe_int pa_nil)))))
  (pss_cons (ps_set (i := 6) sc__law_machine.nd rfl (by first | exact .inl rfl | exact .inr rfl) (pe_cal C__law_take (hr.mono (by decide)) rfl (pa_cons (pv 0) (pa_cons (pv 5) pa_nil))))
  (pss_cons (ps_set (i := 7) sc__law_machine.nd rfl (by first | exact .inl rfl | exact .inr rfl) pe_dnewT)
  (pss_cons (ps_set (i := 8) sc__law_machine.nd rfl (by first | exact .inl rfl | exact .inr rfl) (pv 6))
  (pss_cons (ps_for PassesOwn.never rfl (pi_list (pe_slice sl_list (pv 3) po_none (po_some (pe_op op_sub (pe_callB call_len1 (by rfl) m_len (by decide +kernel) (pa_cons (pv 3) pa_nil)) (pe_callTy call_int1 (by rfl) m_int (by decide +kernel) (pa_cons (pe_cmpR op_eq (pe_cal C__law_take (hr.mono (by decide)) rfl (pa_cons (pv 0) (pa_cons pe_int pa_nil))) pe_int (nomark _)) pa_nil)))))) (pg_name (i := 9) sc__law_machine.nd rfl (by first | exact .inl rfl | exact .inr rfl))
  (pss_cons (ps_if (pt_cmp (pc_dnotin (hu_of hr) (pe_tup (pa_cons (pv 8) (pa_cons (pe_dget (hu_of hr) (pv 2) (pv 9) (fun _ _ => rfl)) pa_nil))) (pv 7))) (pss_one (ps_dput (hu_of hr) (pv 7) (pe_tup (pa_cons (pv 8) (pa_cons (pe_dget (hu_of hr) (pv 2) (pv 9) (fun _ _ => rfl)) pa_nil))) (pe_cal C__law_take (hr.mono (by decide)) rfl (pa_cons (pv 0) (pa_cons (pv 5) pa_nil))) rfl)) pss_nil)
  (pss_one (ps_set (i := 8) sc__law_machine.nd rfl (by first | exact .inl rfl | exact .inr rfl) (pe_dget (hu_of hr) (pv 7) (pe_tup (pa_cons (pv 8) (pa_cons (pe_dget (hu_of hr) (pv 2) (pv 9) (fun _ _ => rfl)) pa_nil))) (fun _ _ => rfl))))))
  (pss_cons (ps_set (i := 10) sc__law_machine.nd rfl (by first | exact .inl rfl | exact .inr rfl) (pe_op op_cat (pe_op op_cat (pe_lc (own := [("x", 9)]) rfl sc__law_machine.nd (pi_list (pv 3)) (blkOk_by (own := [("x", 9)]) (N := n__law_machine) (sc := defScope s__law_machine) (by decide +kernel)) (fun _ _ _ _ _ => (pg_name (i := 9) sc__law_machine.nd rfl (by first | exact .inl rfl | exact .inr rfl))) (fun _ _ _ _ _ => pts_nil) (fun _ _ _ _ _ => (pe_dget (hu_of hr) (pv 2) (pv 9) (fun _ _ => rfl)))) (pe_lc (own := [("k", 11)]) rfl sc__law_machine.nd (pi_range1 (by rfl) m_range (pa_cons pe_int pa_nil)) (blkOk_by (own := [("k", 11)]) (N := n__law_machine) (sc := defScope s__law_machine) (by decide +kernel)) (fun _ _ _ _ _ => (pg_name (i := 11) sc__law_machine.nd rfl (by first | exact .inl rfl | exact .inr rfl))) (fun _ _ _ _ _ => pts_nil) (fun _ _ _ _ _ => (pe_cal C__law_pick (hr.mono (by decide)) rfl (pa_cons (pv 0) (pa_cons (pe_ix ix_tup (pe_cal C__law_pick (hr.mono (by decide)) rfl (pa_cons (pv 0) (pa_cons (pv 1) pa_nil))) pe_int (fun _ _ => rfl)) pa_nil)))))) (pe_lst (pa_cons (pe_op op_sub (pe_cal C__law_take (hr.mono (by decide)) rfl (pa_cons (pv 0) (pa_cons pe_int pa_nil))) pe_int) pa_nil))))
  (pss_cons (ps_for PassesOwn.never rfl (pi_range1 (by rfl) m_range (pa_cons (pe_cal C__law_pick (hr.mono (by decide)) rfl (pa_cons (pv 0) (pa_cons (pe_lst (pa_cons pe_int (pa_cons (pe_cal C__law_take (hr.mono (by decide)) rfl (pa_cons (pv 0) (pa_cons pe_int pa_nil))) (pa_cons (pe_cal C__law_take (hr.mono (by decide)) rfl (pa_cons (pv 0) (pa_cons pe_int pa_nil))) (pa_cons pe_int pa_nil))))) pa_nil))) pa_nil)) (pg_name (i := 11) sc__law_machine.nd rfl (by first | exact .inl rfl | exact .inr rfl))
  (pss_cons (ps_set (i := 12) sc__law_machine.nd rfl (by first | exact .inl rfl | exact .inr rfl) (pe_tup (pa_cons (pe_cal C__law_take (hr.mono (by decide)) rfl (pa_cons (pv 0) (pa_cons (pv 5) pa_nil))) (pa_cons (pe_cal C__law_pick (hr.mono (by decide)) rfl (pa_cons (pv 0) (pa_cons (pv 10) pa_nil))) pa_nil))))
  (pss_one (ps_if (PW.pt (pw_and (pt_cmp (pc_dnotin (hu_of hr) (pv 12) (pv 7))) (pw_and1 (pt_cmpR op_lt (pe_callB call_len_dT (by rfl) m_len (by decide +kernel) (pa_cons (pv 7) pa_nil)) pe_int (nomark _))))) (pss_one (ps_dput (hu_of hr) (pv 7) (pv 12) (pe_cal C__law_take (hr.mono (by decide)) rfl (pa_cons (pv 0) (pa_cons pe_int pa_nil))) rfl)) pss_nil))))
  (pss_cons (ps_setLc (i := 13) (own := [("q", 14)]) rfl sc__law_machine.nd rfl rfl (sw_true rfl rfl rfl (by decide +kernel)) (pi_range1 (by rfl) m_range (pa_cons pe_int pa_nil)) (blkOk_by (own := [("q", 14)]) (N := n__law_machine) (sc := defScope s__law_machine) (by decide +kernel)) (fun _ _ _ _ _ => (pg_name (i := 14) sc__law_machine.nd rfl (by first | exact .inl rfl | exact .inr rfl))) (fun _ _ _ _ _ => (pts_one (PW.pt (pw_or (pt_cmpR op_eq (pe_cal C__law_take (hr.mono (by decide)) rfl (pa_cons (pv 0) (pa_cons pe_int pa_nil))) pe_int (nomark _)) (pw_or1 (PW.pt (pw_and (pt_cmpR op_eq (pv 14) (pv 8) (nomark _)) (pw_and1 (pt_cmpR op_gt (pe_cal C__law_take (hr.mono (by decide)) rfl (pa_cons (pv 0) (pa_cons pe_int pa_nil))) pe_int (nomark _)))))))))) (fun _ _ _ _ _ => (pv 14)))
  (pss_cons (ps_if (pt_cmpR op_eq (pe_cal C__law_take (hr.mono (by decide)) rfl (pa_cons (pv 0) (pa_cons pe_int pa_nil))) pe_int (nomark _)) (pss_one (ps_set (i := 13) sc__law_machine.nd rfl (by first | exact .inl rfl | exact .inr rfl) (pe_lst pa_nil))) pss_nil)
  (pss_one (ps_ret (pe_tup (pa_cons pe_str (pa_cons (pe_tupleOf (by rfl) m_tuple (pv 3)) (pa_cons (pv 6) (pa_cons (pe_tupleOf (by rfl) m_tuple (pe_lc (own := [("key", 12)]) rfl sc__law_machine.nd (pi_list (pe_callB (call_sortedDT rfl (units64 hr)) (by rfl) m_sorted (by decide +kernel) (pa_cons (pv 7) pa_nil))) (blkOk_by (own := [("key", 12)]) (N := n__law_machine) (sc := defScope s__law_machine) (by decide +kernel)) (fun _ _ _ _ _ => (pg_name (i := 12) sc__law_machine.nd rfl (by first | exact .inl rfl | exact .inr rfl))) (fun _ _ _ _ _ => pts_nil) (fun _ _ _ _ _ => (pe_op op_catA (pv 12) (pe_tup (pa_cons (pe_dget (hu_of hr) (pv 7) (pv 12) (fun _ _ => rfl)) pa_nil)))))) (pa_cons (pe_tupleOf (by rfl) m_tuple (pv 13)) pa_nil))))))))))))))))))
abbrev s__law_times : Stmt := topS 49
abbrev n__law_times : List Str := ["state", "doms", "sizes", "found", "k", "v"]
theorem sc__law_times : FnScope n__law_times ["state", "doms", "sizes"] (defScope s__law_times) := ⟨rfl, rfl, rfl, by decide +kernel, rfl, by decide +kernel, by decide +kernel⟩
theorem ok__law_times {P : Program} {w : World} {K : PySem.W.Frag} {mg : Str → Option Value} {base : Heap} {f : Addr} {fd : FuncData} (F : Fun K "_law_times" "_law_times" s__law_times f fd) (gf : mg "_law_times" = some (.ref f)) (C__law_pick : Cal P w K mg base "_law_pick" 3 ["state", "some"] (sp__law_pick K)) (C__law_shuffled : Cal P w K mg base "_law_shuffled" 3 ["state", "some"] (sp__law_shuffled K)) (C__law_take : Cal P w K mg base "_law_take" 2 ["state", "limit"] (sp__law_take K))  (m_int : mg "int" = none) (m_max : mg "max" = none) (m_min : mg "min" = none) (m_range : mg "range" = none) (m_sorted : mg "sorted" = none) (m_tuple : mg "tuple" = none)  : Cal P w K mg base "_law_times" 4 ["state", "doms", "sizes"] (sp__law_times K) := by
  refine ⟨f, fd, F.ok sc__law_times len__law_times (fun cdv A outer s H vs Q E hr h => ⟨t__law_times K, PSs.nox ?_, pure__law_times vs H Q E h⟩), F.kp, F.binds (fun _ _ _ _ _ _ us hl => match us, hl with | [_, _, _], _ => rfl), gf⟩
  exact (pss_cons (ps_set (i := 3) sc__law_times.nd rfl (by first | exact .inl rfl | exact .inr rfl) pe_dnewK)
  (pss_cons (ps_for PassesOwn.never rfl (pi_range1 (by rfl) m_range (pa_cons pe_int pa_nil)) (pg_name (i := 4) sc__law_times.nd rfl (by first | exact .inl rfl | exact .inr rfl))
  (pss_cons (ps_set (i := 5) sc__law_times.nd rfl (by first | exact .inl rfl | exact .inr rfl) (pe_op op_mul (pe_cal C__law_pick (hr.mono (by decide)) rfl (pa_cons (pv 0) (pa_cons (pe_ix ix_tup (pe_cal C__law_pick (hr.mono (by decide)) rfl (pa_cons (pv 0) (pa_cons (pv 1) pa_nil))) pe_int (fun _ _ => rfl)) pa_nil))) (pe_cal C__law_pick (hr.mono (by decide)) rfl (pa_cons (pv 0) (pa_cons (pe_ix ix_tup (pe_cal C__law_pick (hr.mono (by decide)) rfl (pa_cons (pv 0) (pa_cons (pv 1) pa_nil))) pe_int (fun _ _ => rfl)) pa_nil)))))
  (pss_one (ps_dput (hu_of hr) (pv 3) (pe_callB (call_max2 rfl) (by rfl) m_max (by decide +kernel) (pa_cons (pe_un un_neg pe_int) (pa_cons (pe_callB (call_min2 rfl) (by rfl) m_min (by decide +kernel) (pa_cons pe_int (pa_cons (pe_op op_add (pv 5) (pe_callTy call_int1 (by rfl) m_int (by decide +kernel) (pa_cons (pe_cmpR op_eq (pe_cal C__law_take (hr.mono (by decide)) rfl (pa_cons (pv 0) (pa_cons pe_int pa_nil))) pe_int (nomark _)) pa_nil))) pa_nil))) pa_nil))) pe_bl rfl))))
  (pss_one (ps_ret (pe_tupleOf (by rfl) m_tuple (pe_callB cr_sortedI (by rfl) m_sorted (by decide +kernel) (pa_cons (pe_slice sl_list (pe_cal C__law_shuffled (hr.mono (by decide)) rfl (pa_cons (pv 0) (pa_cons (pe_callB (call_sortedDI rfl) (by rfl) m_sorted (by decide +kernel) (pa_cons (pv 3) pa_nil)) pa_nil))) po_none (po_some (pv 2))) pa_nil)))))))
abbrev s__law_saying : Stmt := topS 48
abbrev n__law_saying : List Str := ["state", "kind", "doms", "at", "many", "row", "pair", "one", "rest", "other", "x", "like", "y", "small", "fit"]
theorem sc__law_saying : FnScope n__law_saying ["state", "kind", "doms", "at"] (defScope s__law_saying) := ⟨rfl, rfl, rfl, by decide +kernel, rfl, by decide +kernel, by decide +kernel⟩
theorem ok__law_saying {P : Program} {w : World} {K : PySem.W.Frag} {mg : Str → Option Value} {base : Heap} {f : Addr} {fd : FuncData} (F : Fun K "_law_saying" "_law_saying" s__law_saying f fd) (gf : mg "_law_saying" = some (.ref f)) (C__law_machine : Cal P w K mg base "_law_machine" 4 ["state", "doms", "at"] (sp__law_machine K)) (C__law_shuffled : Cal P w K mg base "_law_shuffled" 3 ["state", "some"] (sp__law_shuffled K)) (C__law_take : Cal P w K mg base "_law_take" 2 ["state", "limit"] (sp__law_take K))  (m_len : mg "len" = none) (m_min : mg "min" = none) (m_tuple : mg "tuple" = none)  : Cal P w K mg base "_law_saying" 5 ["state", "kind", "doms", "at"] (sp__law_saying K) := by
  refine ⟨f, fd, F.ok sc__law_saying len__law_saying (fun cdv A outer s H vs Q E hr h => ⟨t__law_saying K, PSs.nox ?_, pure__law_saying vs H Q E h⟩), F.kp, F.binds (fun _ _ _ _ _ _ us hl => match us, hl with | [_, _, _, _], _ => rfl), gf⟩
  exact (pss_cons (ps_if (pt_cmpR op_eq (pv 1) pe_str (nomark _)) (pss_one (ps_ret (pe_cal C__law_machine (hr.mono (by decide)) rfl (pa_cons (pv 0) (pa_cons (pv 2) (pa_cons (pv 3) pa_nil)))))) pss_nil)
  (pss_cons (ps_if (pt_cmpR op_eq (pv 1) pe_str (nomark _)) (pss_cons (ps_set (i := 4) sc__law_saying.nd rfl (by first | exact .inl rfl | exact .inr rfl) (pe_op op_add pe_int (pe_cal C__law_take (hr.mono (by decide)) rfl (pa_cons (pv 0) (pa_cons (pe_callB (call_min2 rfl) (by rfl) m_min (by decide +kernel) (pa_cons pe_int (pa_cons (pe_op op_fdiv (pe_callB call_len1 (by rfl) m_len (by decide +kernel) (pa_cons (pv 2) pa_nil)) pe_int) pa_nil))) pa_nil)))))
  (pss_cons (ps_setLc (i := 5) (own := [("pair", 6)]) rfl sc__law_saying.nd rfl rfl (sw_true rfl rfl rfl (by decide +kernel)) (pi_list (pe_cal C__law_shuffled (hr.mono (by decide)) rfl (pa_cons (pv 0) (pa_cons (pv 2) pa_nil)))) (blkOk_by (own := [("pair", 6)]) (N := n__law_saying) (sc := defScope s__law_saying) (by decide +kernel)) (fun _ _ _ _ _ => (pg_name (i := 6) sc__law_saying.nd rfl (by first | exact .inl rfl | exact .inr rfl))) (fun _ _ _ _ _ => pts_nil) (fun _ _ _ _ _ => (pe_ix ix_tup (pv 6) pe_int (fun _ _ => rfl))))
  (pss_cons (ps_par (i := 7) (j := 8) (by rfl) sc__law_saying.nd rfl rfl (by decide) rfl rfl (pa_cons (pe_slice sl_list (pv 5) po_none (po_some (pv 4))) (pa_cons (pe_slice sl_list (pv 5) (po_some (pv 4)) po_none) pa_nil)) (by rfl))
  (pss_cons (ps_set (i := 9) sc__law_saying.nd rfl (by first | exact .inl rfl | exact .inr rfl) (pe_lst pa_nil))
  (pss_cons (ps_for PassesOwn.never rfl (pi_list (pv 7)) (pg_name (i := 10) sc__law_saying.nd rfl (by first | exact .inl rfl | exact .inr rfl))
  (pss_cons (ps_setLc (i := 11) (own := [("y", 12)]) rfl sc__law_saying.nd rfl rfl (sw_true rfl rfl rfl (by decide +kernel)) (pi_list (pv 8)) (blkOk_by (own := [("y", 12)]) (N := n__law_saying) (sc := defScope s__law_saying) (by decide +kernel)) (fun _ _ _ _ _ => (pg_name (i := 12) sc__law_saying.nd rfl (by first | exact .inl rfl | exact .inr rfl))) (fun _ _ _ _ _ => (pts_one (PW.pt (pw_and (pt_cmpR (op_notInD (units65 hr)) (pv 12) (pv 9) (by rfl)) (pw_and (pt_cmpR op_eq (pe_dget (hu_of hr) (pv 3) (pv 12) (fun _ _ => rfl)) (pe_dget (hu_of hr) (pv 3) (pv 10) (fun _ _ => rfl)) (nomark _)) (pw_and1 (pt_cmpR op_gt (pe_cal C__law_take (hr.mono (by decide)) rfl (pa_cons (pv 0) (pa_cons pe_int pa_nil))) pe_int (nomark _)))))))) (fun _ _ _ _ _ => (pv 12)))
  (pss_one (ps_expr (pe_bm PySem.F.plainAttrs_list PySem.F.slot_list_append PySem.F.type_list_append mt_append (pv 9) (pa_cons (pe_ifExp (pt_cmpR (op_neD (units64 hr)) (pv 11) (pe_lst pa_nil) (nomark _)) (pe_ix ix_list (pv 11) pe_int (fun _ _ => rfl)) (pe_ix ix_list (pe_lc (own := [("y", 12)]) rfl sc__law_saying.nd (pi_list (pv 8)) (blkOk_by (own := [("y", 12)]) (N := n__law_saying) (sc := defScope s__law_saying) (by decide +kernel)) (fun _ _ _ _ _ => (pg_name (i := 12) sc__law_saying.nd rfl (by first | exact .inl rfl | exact .inr rfl))) (fun _ _ _ _ _ => (pts_one (pt_cmpR (op_notInD (units65 hr)) (pv 12) (pv 9) (by rfl)))) (fun _ _ _ _ _ => (pv 12))) pe_int (fun _ _ => rfl))) pa_nil))))))
  (pss_one (ps_ret (pe_tup (pa_cons (pv 1) (pa_cons (pe_tupleOf (by rfl) m_tuple (pv 7)) (pa_cons (pe_tupleOf (by rfl) m_tuple (pv 9)) pa_nil))))))))))) pss_nil)
  (pss_cons (ps_setLc (i := 13) (own := [("pair", 6)]) rfl sc__law_saying.nd rfl rfl (sw_true rfl rfl rfl (by decide +kernel)) (pi_list (pe_cal C__law_shuffled (hr.mono (by decide)) rfl (pa_cons (pv 0) (pa_cons (pv 2) pa_nil)))) (blkOk_by (own := [("pair", 6)]) (N := n__law_saying) (sc := defScope s__law_saying) (by decide +kernel)) (fun _ _ _ _ _ => (pg_name (i := 6) sc__law_saying.nd rfl (by first | exact .inl rfl | exact .inr rfl))) (fun _ _ _ _ _ => (pts_one (pt_cmpR op_le (pe_callB call_len1 (by rfl) m_len (by decide +kernel) (pa_cons (pe_ix ix_tup (pv 6) pe_int (fun _ _ => rfl)) pa_nil)) pe_int (nomark _)))) (fun _ _ _ _ _ => (pv 6)))
  (pss_cons (ps_setLc (i := 14) (own := [("pair", 6)]) rfl sc__law_saying.nd rfl rfl (sw_true rfl rfl rfl (by decide +kernel)) (pi_list (pe_slice sl_list (pv 13) (po_some pe_int) po_none)) (blkOk_by (own := [("pair", 6)]) (N := n__law_saying) (sc := defScope s__law_saying) (by decide +kernel)) (fun _ _ _ _ _ => (pg_name (i := 6) sc__law_saying.nd rfl (by first | exact .inl rfl | exact .inr rfl))) (fun _ _ _ _ _ => (pts_one (pt_cmpR op_eq (pe_ix ix_tup (pv 6) pe_int (fun _ _ => rfl)) (pe_ix ix_tup (pe_ix ix_list (pv 2) pe_int (fun _ _ => rfl)) pe_int (fun _ _ => rfl)) (nomark _)))) (fun _ _ _ _ _ => (pv 6)))
  (pss_one (ps_ret (pe_tup (pa_cons (pv 1) (pa_cons (pe_ix ix_tup (pe_ix ix_list (pv 13) pe_int (fun _ _ => rfl)) pe_int (fun _ _ => rfl)) (pa_cons (pe_ix ix_tup (pe_ix ix_list (pv 13) pe_int (fun _ _ => rfl)) pe_int (fun _ _ => rfl)) (pa_cons (pe_ix ix_tup (pe_ix ix_list (pe_op op_cat (pv 14) (pe_slice sl_list (pv 13) (po_some pe_int) po_none)) pe_int (fun _ _ => rfl)) pe_int (fun _ _ => rfl)) pa_nil)))))))))))
abbrev s_law : Stmt := topS 51
abbrev n_law : List Str := ["script", "state", "great", "sizes", "k", "names", "low", "doms", "near", "v", "order", "base", "pair", "at", "kinds", "made", "parted", "fillings"]
theorem sc_law : FnScope n_law ["script"] (defScope s_law) := ⟨rfl, rfl, rfl, by decide +kernel, rfl, by decide +kernel, by decide +kernel⟩
theorem ok_law {P : Program} {w : World} {K : PySem.W.Frag} {mg : Str → Option Value} {base : Heap} {f : Addr} {fd : FuncData} (F : Fun K "law" "law" s_law f fd) (gf : mg "law" = some (.ref f)) (C__law_by_turns : Cal P w K mg base "_law_by_turns" 7 ["state", "doms", "made", "firm", "soft", "fillings", "base"] (sp__law_by_turns K)) (C__law_fillings : Cal P w K mg base "_law_fillings" 1 ["doms"] (sp__law_fillings K)) (C__law_names : Cal P w K mg base "_law_names" 4 ["state", "many"] (sp__law_names K)) (C__law_near : Cal P w K mg base "_law_near" 4 ["state", "doms", "base"] (sp__law_near K)) (C__law_parted : Cal P w K mg base "_law_parted" 3 ["state", "made", "at"] (sp__law_parted K)) (C__law_pick : Cal P w K mg base "_law_pick" 3 ["state", "some"] (sp__law_pick K)) (C__law_saying : Cal P w K mg base "_law_saying" 5 ["state", "kind", "doms", "at"] (sp__law_saying K)) (C__law_shuffled : Cal P w K mg base "_law_shuffled" 3 ["state", "some"] (sp__law_shuffled K)) (C__law_start : Cal P w K mg base "_law_start" 2 ["script"] (sp__law_start K)) (C__law_take : Cal P w K mg base "_law_take" 2 ["state", "limit"] (sp__law_take K)) (C__law_times : Cal P w K mg base "_law_times" 4 ["state", "doms", "sizes"] (sp__law_times K)) (C__law_world : Cal P w K mg base "_law_world" 1 ["doms", "filling"] (sp__law_world K))  (m_len : mg "len" = none) (m_list : mg "list" = none) (m_range : mg "range" = none) (m_sorted : mg "sorted" = none) (m_tuple : mg "tuple" = none)  : FnOk P w K mg base CX0 8 f fd ["script"] (sp_law K) := by
  refine F.ok sc_law len_law (fun cdv A outer s H vs Q E hr h => ⟨t_law K, PSs.nox ?_, pure_law vs H Q E h⟩)
  exact (pss_cons (ps_set (i := 1) sc_law.nd rfl (by first | exact .inl rfl | exact .inr rfl) (pe_cal C__law_start (hr.mono (by decide)) rfl (pa_cons (pv 0) pa_nil)))
  (pss_cons (ps_set (i := 2) sc_law.nd rfl (by first | exact .inl rfl | exact .inr rfl) (pe_cmpR op_eq (pe_cal C__law_take (hr.mono (by decide)) rfl (pa_cons (pv 1) (pa_cons pe_int pa_nil))) pe_int (nomark _)))
  (pss_cons (ps_set (i := 3) sc_law.nd rfl (by first | exact .inl rfl | exact .inr rfl) (pe_op op_cat (pe_lst (pa_cons (pe_op op_add pe_int (pe_cal C__law_take (hr.mono (by decide)) rfl (pa_cons (pv 1) (pa_cons pe_int pa_nil)))) (pa_cons (pe_op op_add pe_int (pe_cal C__law_take (hr.mono (by decide)) rfl (pa_cons (pv 1) (pa_cons pe_int pa_nil)))) (pa_cons (pe_op op_add pe_int (pe_cal C__law_take (hr.mono (by decide)) rfl (pa_cons (pv 1) (pa_cons pe_int pa_nil)))) pa_nil)))) (pe_lc (own := [("k", 4)]) rfl sc_law.nd (pi_range1 (by rfl) m_range (pa_cons (pe_cal C__law_take (hr.mono (by decide)) rfl (pa_cons (pv 1) (pa_cons pe_int pa_nil))) pa_nil)) (blkOk_by (own := [("k", 4)]) (N := n_law) (sc := defScope s_law) (by decide +kernel)) (fun _ _ _ _ _ => (pg_name (i := 4) sc_law.nd rfl (by first | exact .inl rfl | exact .inr rfl))) (fun _ _ _ _ _ => pts_nil) (fun _ _ _ _ _ => (pe_op op_add pe_int (pe_cal C__law_take (hr.mono (by decide)) rfl (pa_cons (pv 1) (pa_cons pe_int pa_nil))))))))
  (pss_cons (ps_if (pt_val (pv 2)) (pss_one (ps_set (i := 3) sc_law.nd rfl (by first | exact .inl rfl | exact .inr rfl) (pe_op op_cat (pe_lc (own := [("k", 4)]) rfl sc_law.nd (pi_range1 (by rfl) m_range (pa_cons pe_int pa_nil)) (blkOk_by (own := [("k", 4)]) (N := n_law) (sc := defScope s_law) (by decide +kernel)) (fun _ _ _ _ _ => (pg_name (i := 4) sc_law.nd rfl (by first | exact .inl rfl | exact .inr rfl))) (fun _ _ _ _ _ => pts_nil) (fun _ _ _ _ _ => (pe_op op_add pe_int (pe_cal C__law_take (hr.mono (by decide)) rfl (pa_cons (pv 1) (pa_cons pe_int pa_nil)))))) (pe_lc (own := [("k", 4)]) rfl sc_law.nd (pi_range1 (by rfl) m_range (pa_cons (pe_op op_add pe_int (pe_cal C__law_take (hr.mono (by decide)) rfl (pa_cons (pv 1) (pa_cons pe_int pa_nil)))) pa_nil)) (blkOk_by (own := [("k", 4)]) (N := n_law) (sc := defScope s_law) (by decide +kernel)) (fun _ _ _ _ _ => (pg_name (i := 4) sc_law.nd rfl (by first | exact .inl rfl | exact .inr rfl))) (fun _ _ _ _ _ => pts_nil) (fun _ _ _ _ _ => (pe_cal C__law_pick (hr.mono (by decide)) rfl (pa_cons (pv 1) (pa_cons (pe_lst (pa_cons pe_int (pa_cons pe_int (pa_cons pe_int (pa_cons pe_int (pa_cons pe_int pa_nil)))))) pa_nil)))))))) pss_nil)
  (pss_cons (ps_set (i := 5) sc_law.nd rfl (by first | exact .inl rfl | exact .inr rfl) (pe_cal C__law_names (hr.mono (by decide)) rfl (pa_cons (pv 1) (pa_cons (pe_op op_add (pe_callB call_len1 (by rfl) m_len (by decide +kernel) (pa_cons (pv 3) pa_nil)) pe_int) pa_nil))))
  (pss_cons (ps_set (i := 6) sc_law.nd rfl (by first | exact .inl rfl | exact .inr rfl) (pe_cal C__law_pick (hr.mono (by decide)) rfl (pa_cons (pv 1) (pa_cons (pe_lst (pa_cons pe_int (pa_cons (pe_un un_neg pe_int) (pa_cons (pe_un un_neg pe_int) (pa_cons (pe_un un_neg pe_int) (pa_cons pe_int (pa_cons (pe_un un_neg pe_int) (pa_cons (pe_op op_sub (pe_cal C__law_take (hr.mono (by decide)) rfl (pa_cons (pv 1) (pa_cons pe_int pa_nil))) pe_int) pa_nil)))))))) pa_nil))))
  (pss_cons (ps_set (i := 7) sc_law.nd rfl (by first | exact .inl rfl | exact .inr rfl) (pe_lst pa_nil))
  (pss_cons (ps_for PassesOwn.never rfl (pi_range2 (by rfl) m_range (pa_cons pe_int (pa_cons (pe_callB call_len1 (by rfl) m_len (by decide +kernel) (pa_cons (pv 3) pa_nil)) pa_nil))) (pg_name (i := 4) sc_law.nd rfl (by first | exact .inl rfl | exact .inr rfl))
  (pss_cons (ps_set (i := 8) sc_law.nd rfl (by first | exact .inl rfl | exact .inr rfl) (pe_tupleOf (by rfl) m_tuple (pe_lc (own := [("v", 9)]) rfl sc_law.nd (pi_list (pe_callB cr_sortedI (by rfl) m_sorted (by decide +kernel) (pa_cons (pe_slice sl_list (pe_cal C__law_shuffled (hr.mono (by decide)) rfl (pa_cons (pv 1) (pa_cons (pe_listRg rfl (by rfl) m_list (prg_1 (by rfl) m_range pe_int)) pa_nil))) po_none (po_some (pe_ix ix_list (pv 3) (pv 4) (fun _ _ => rfl)))) pa_nil))) (blkOk_by (own := [("v", 9)]) (N := n_law) (sc := defScope s_law) (by decide +kernel)) (fun _ _ _ _ _ => (pg_name (i := 9) sc_law.nd rfl (by first | exact .inl rfl | exact .inr rfl))) (fun _ _ _ _ _ => pts_nil) (fun _ _ _ _ _ => (pe_op op_add (pv 6) (pv 9))))))
  (pss_one (ps_expr (pe_bm PySem.F.plainAttrs_list PySem.F.slot_list_append PySem.F.type_list_append mt_append (pv 7) (pa_cons (pe_tup (pa_cons (pe_ix ix_list (pv 5) (pv 4) (fun _ _ => rfl)) (pa_cons (pe_ifExp (pt_cmpR op_eq (pe_cal C__law_take (hr.mono (by decide)) rfl (pa_cons (pv 1) (pa_cons pe_int pa_nil))) pe_int (nomark _)) (pv 8) (pe_tupleOf (by rfl) m_tuple (pe_lc (own := [("v", 9)]) rfl sc_law.nd (pi_range1 (by rfl) m_range (pa_cons (pe_ix ix_list (pv 3) (pv 4) (fun _ _ => rfl)) pa_nil)) (blkOk_by (own := [("v", 9)]) (N := n_law) (sc := defScope s_law) (by decide +kernel)) (fun _ _ _ _ _ => (pg_name (i := 9) sc_law.nd rfl (by first | exact .inl rfl | exact .inr rfl))) (fun _ _ _ _ _ => pts_nil) (fun _ _ _ _ _ => (pe_op op_add (pv 6) (pv 9)))))) pa_nil))) pa_nil))))))
  (pss_cons (ps_set (i := 7) sc_law.nd rfl (by first | exact .inl rfl | exact .inr rfl) (pe_op op_cat (pe_lst (pa_cons (pe_tup (pa_cons (pe_ix ix_list (pv 5) pe_int (fun _ _ => rfl)) (pa_cons (pe_cal C__law_times (hr.mono (by decide)) rfl (pa_cons (pv 1) (pa_cons (pv 7) (pa_cons (pe_ix ix_list (pv 3) pe_int (fun _ _ => rfl)) pa_nil)))) pa_nil))) pa_nil)) (pv 7)))
  (pss_cons (ps_set (i := 10) sc_law.nd rfl (by first | exact .inl rfl | exact .inr rfl) (pe_cal C__law_shuffled (hr.mono (by decide)) rfl (pa_cons (pv 1) (pa_cons (pv 7) pa_nil))))
  (pss_cons (ps_set (i := 11) sc_law.nd rfl (by first | exact .inl rfl | exact .inr rfl) (pe_tupleOf (by rfl) m_tuple (pe_lc (own := [("pair", 12)]) rfl sc_law.nd (pi_list (pv 10)) (blkOk_by (own := [("pair", 12)]) (N := n_law) (sc := defScope s_law) (by decide +kernel)) (fun _ _ _ _ _ => (pg_name (i := 12) sc_law.nd rfl (by first | exact .inl rfl | exact .inr rfl))) (fun _ _ _ _ _ => pts_nil) (fun _ _ _ _ _ => (pe_cal C__law_pick (hr.mono (by decide)) rfl (pa_cons (pv 1) (pa_cons (pe_ix ix_tup (pv 12) pe_int (fun _ _ => rfl)) pa_nil)))))))
  (pss_cons (ps_set (i := 13) sc_law.nd rfl (by first | exact .inl rfl | exact .inr rfl) (pe_cal C__law_world (hr.mono (by decide)) rfl (pa_cons (pv 10) (pa_cons (pv 11) pa_nil))))
  (pss_cons (ps_set (i := 14) sc_law.nd rfl (by first | exact .inl rfl | exact .inr rfl) (pe_op op_cat (pe_cal C__law_shuffled (hr.mono (by decide)) rfl (pa_cons (pv 1) (pa_cons (pe_lst (pa_cons pe_str (pa_cons pe_str (pa_cons pe_str (pa_cons pe_str pa_nil))))) pa_nil))) (pe_lst (pa_cons (pe_cal C__law_pick (hr.mono (by decide)) rfl (pa_cons (pv 1) (pa_cons (pe_lst (pa_cons pe_str (pa_cons pe_str (pa_cons pe_str pa_nil)))) pa_nil))) pa_nil))))
  (pss_cons (ps_setLc (i := 15) (own := [("k", 4)]) rfl sc_law.nd rfl rfl (sw_true rfl rfl rfl (by decide +kernel)) (pi_range1 (by rfl) m_range (pa_cons pe_int pa_nil)) (blkOk_by (own := [("k", 4)]) (N := n_law) (sc := defScope s_law) (by decide +kernel)) (fun _ _ _ _ _ => (pg_name (i := 4) sc_law.nd rfl (by first | exact .inl rfl | exact .inr rfl))) (fun _ _ _ _ _ => pts_nil) (fun _ _ _ _ _ => (pe_tup (pa_cons (pe_ix ix_list (pv 5) (pe_op op_add (pe_callB call_len1 (by rfl) m_len (by decide +kernel) (pa_cons (pv 3) pa_nil)) (pv 4)) (fun _ _ => rfl)) (pa_cons (pe_cal C__law_saying (hr.mono (by decide)) rfl (pa_cons (pv 1) (pa_cons (pe_ix ix_list (pv 14) (pv 4) (fun _ _ => rfl)) (pa_cons (pv 7) (pa_cons (pv 13) pa_nil))))) pa_nil)))))
  (pss_cons (ps_set (i := 16) sc_law.nd rfl (by first | exact .inl rfl | exact .inr rfl) (pe_cal C__law_parted (hr.mono (by decide)) rfl (pa_cons (pv 1) (pa_cons (pv 15) (pa_cons (pv 13) pa_nil)))))
  (pss_cons (ps_set (i := 17) sc_law.nd rfl (by first | exact .inl rfl | exact .inr rfl) (pe_ifExp (pt_not (pt_val (pv 2))) (pe_cal C__law_fillings (hr.mono (by decide)) rfl (pa_cons (pv 10) pa_nil)) (pe_op op_cat (pe_lst (pa_cons (pv 11) pa_nil)) (pe_lc (own := [("k", 4)]) rfl sc_law.nd (pi_range1 (by rfl) m_range (pa_cons pe_int pa_nil)) (blkOk_by (own := [("k", 4)]) (N := n_law) (sc := defScope s_law) (by decide +kernel)) (fun _ _ _ _ _ => (pg_name (i := 4) sc_law.nd rfl (by first | exact .inl rfl | exact .inr rfl))) (fun _ _ _ _ _ => pts_nil) (fun _ _ _ _ _ => (pe_cal C__law_near (hr.mono (by decide)) rfl (pa_cons (pv 1) (pa_cons (pv 10) (pa_cons (pv 11) pa_nil)))))))))
  (pss_one (ps_ret (pe_cal C__law_by_turns (hr.mono (by decide)) rfl (pa_cons (pv 1) (pa_cons (pv 10) (pa_cons (pv 15) (pa_cons (pe_ix ix_list (pv 16) pe_int (fun _ _ => rfl)) (pa_cons (pe_ix ix_list (pv 16) pe_int (fun _ _ => rfl)) (pa_cons (pv 17) (pa_cons (pv 11) pa_nil))))))))))))))))))))))))))



abbrev s_holds : Stmt := topS 3
abbrev n_holds : List Str := ["saying", "at", "tell"]
theorem sc_holds : FnScope n_holds ["saying", "at"] (defScope s_holds) := ⟨rfl, rfl, rfl, by decide +kernel, rfl, by decide +kernel, by decide +kernel⟩
theorem held_of {P : Program} {w : World} {K : PySem.W.Frag} {mg : Str → Option Value} {base : Heap} {x : Str} {k : Nat} {ps : List Str} {sp : Sp} {a : Addr} (C : Cal P w K mg base x k ps sp) (hk : k ≤ 3) (ga : mg x = some (.ref a)) : Held P w K mg base 3 a sp := by
  obtain ⟨f', fd', h1, h2, h3, h4⟩ := C.ex
  rw [ga] at h4
  cases h4
  exact ⟨fd', _, h1.mono hk, h2, h3⟩
theorem ok_holds {P : Program} {w : World} {K : PySem.W.Frag} {mg : Str → Option Value} {base : Heap} {f T fP fA fM : Addr} {fd : FuncData} (F : Fun K "holds" "holds" s_holds f fd) (gf : mg "holds" = some (.ref f)) (gT : mg "_TELLS" = some (.ref T))
    (kP : KDct K w T "product" (.ref fP)) (kA : KDct K w T "ahead" (.ref fA)) (kM : KDct K w T "machine" (.ref fM)) (hne : [fP, fA, fM].Nodup)
    (gL : mg "_product_holds" = some (.ref fP)) (gS : mg "_ahead_holds" = some (.ref fA)) (gU : mg "_machine_holds" = some (.ref fM))
    (CL : Cal P w K mg base "_product_holds" 1 ["saying", "at"] (sp__product_holds K)) (CS : Cal P w K mg base "_ahead_holds" 1 ["saying", "at"] (sp__ahead_holds K)) (CU : Cal P w K mg base "_machine_holds" 3 ["saying", "at"] (sp__machine_holds K)) : Cal P w K mg base "holds" 4 ["saying", "at"] (sp_holds K) := by
  have A_tell : ∀ (a : Addr) (sp : Sp), S_tell K fP fA fM a = some sp → Held P w K mg base 3 a sp := fun a sp e => by
    unfold S_tell at e
    split at e
    · rename_i z; cases e; subst z; exact held_of CL (by decide) gL
    split at e
    · rename_i z; cases e; subst z; exact held_of CS (by decide) gS
    split at e
    · rename_i z; cases e; subst z; exact held_of CU (by decide) gU
    · cases e
  refine ⟨f, fd, F.ok (k := 3) sc_holds len_holds (fun cdv A outer s H vs Q E hr h => ⟨t_holds K w T fP fA fM, PSs.nox ?_, pure_holds kP kA kM hne vs H Q E h⟩), F.kp, F.binds (fun _ _ _ _ _ _ us hl => match us, hl with | [_, _], _ => rfl), gf⟩
  exact (pss_cons (ps_set (i := 2) sc_holds.nd rfl (by first | exact .inl rfl | exact .inr rfl) (pe_ix ix_kdict (pe_glob rfl gT rfl) (pe_ix ix_tup (pv 0) pe_int (fun _ _ => rfl)) (fun _ _ => rfl)))
  (pss_one (ps_ret (pe_callA A_tell (hr.mono (by decide)) rfl (.inl rfl) (pa_cons (pv 0) (pa_cons (pv 1) pa_nil))))))
theorem FunD.plain {K : PySem.W.Frag} {x qual : Str} {st : Stmt} {f : Addr} {fd : FuncData} (F : FunD K x qual (defArgs st) (defBody st) (defScope st) [] [] f fd) : Fun K x qual st f fd := by
  obtain ⟨⟨oc, od, dV, kV, doc, pm, an, cdv, ct, osl, rfl, lk, hcd, hD, _⟩, kp⟩ := F
  rcases hD with ⟨_, rfl⟩ | ⟨e, _⟩
  · exact ⟨⟨oc, od, kV, doc, pm, an, cdv, ct, osl, rfl, lk, hcd⟩, kp⟩
  · exact absurd rfl e
theorem Fun.kb {K : PySem.W.Frag} {x qual : Str} {st : Stmt} {f : Addr} {fd : FuncData} {ps : List Str} (F : Fun K x qual st f fd) (h0 : 0 < ps.length)
    (h : ∀ (kV doc pm : Value) (an : Option Addr) (cdv ct : Value) (us : List Value), us.length = ps.length → bindArgs (PySem.W.fnOf x qual (defArgs st) (defBody st) (defScope st) .none kV doc pm an cdv ct) ⟨[], ps.zip us⟩ = pure (ps.zip us)) : KBinds K fd ps ps gK gK := by
  obtain ⟨oc, od, kV, doc, pm, an, cdv, ct, osl, rfl, lk, hcd⟩ := F.ex
  refine ⟨fun s us ws _ hl => ?_, fun {vs us zs ws} r rz => ?_⟩
  · cases us with
    | nil => exact .of_eq (h kV doc pm an cdv ct ws hl)
    | cons a r =>
      have : (0 : Nat) = ps.length := hl
      omega
  · cases r with
    | nil => exact rz
    | cons _ _ => exact .nil

end AW
namespace AW
open PySem PySem.Spec PyProof.Rows L2 RZ
theorem ckOf {P : Program} {w : World} {K : PySem.W.Frag} {mg : Str → Option Value} {base : Heap} {x qual : Str} {st : Stmt} {f : Addr} {fd : FuncData} {k : Nat} {ps : List Str} {sp : Sp} (C : FnOk P w K mg base CX0 k f fd ps sp) (F : Fun K x qual st f fd) (gf : mg x = some (.ref f)) (h0 : 0 < ps.length)
    (h : ∀ (kV doc pm : Value) (an : Option Addr) (cdv ct : Value) (us : List Value), us.length = ps.length → bindArgs (PySem.W.fnOf x qual (defArgs st) (defBody st) (defScope st) .none kV doc pm an cdv ct) ⟨[], ps.zip us⟩ = pure (ps.zip us)) : CalK P w K mg base x k ps ps gK sp :=
  ⟨f, fd, gK, C, F.kp, AW.Fun.kb F h0 h, gf⟩
theorem facts7 {P : Program} {w : World} {K : PySem.W.Frag} {h : Heap} {mg : Str → Option Value} {fa : Addr} (X : K.In h) (G : h.Ns mainGlobals mg) (hfa : mg "law" = some (.ref fa))
    {f0 : Addr} {od0 an0 : Option Addr} {sl0 : Array (Option Value)} {oc0 kV0 dc0 pm0 cd0 ct0 : Value} (a0 : PySem.W.nsIn K mainGlobals "holds" = some (some (.ref f0))) (l0 : K.lookup f0 = some ⟨oc0, od0, .func (PySem.W.fnOf "holds" "holds" (defArgs (topS 3)) (defBody (topS 3)) (defScope (topS 3)) .none kV0 dc0 pm0 an0 cd0 ct0), sl0⟩) (c0 : PySem.W.codeIn K cd0 "holds" = true) (k0 : PySem.W.keepIn K (.ref f0) = true)
    {f1 : Addr} {od1 an1 : Option Addr} {sl1 : Array (Option Value)} {oc1 kV1 dc1 pm1 cd1 ct1 : Value} (a1 : PySem.W.nsIn K mainGlobals "_law_mixed" = some (some (.ref f1))) (l1 : K.lookup f1 = some ⟨oc1, od1, .func (PySem.W.fnOf "_law_mixed" "_law_mixed" (defArgs (topS 33)) (defBody (topS 33)) (defScope (topS 33)) .none kV1 dc1 pm1 an1 cd1 ct1), sl1⟩) (c1 : PySem.W.codeIn K cd1 "_law_mixed" = true) (k1 : PySem.W.keepIn K (.ref f1) = true)
    {f2 : Addr} {od2 an2 : Option Addr} {sl2 : Array (Option Value)} {oc2 kV2 dc2 pm2 cd2 ct2 : Value} (a2 : PySem.W.nsIn K mainGlobals "_law_start" = some (some (.ref f2))) (l2 : K.lookup f2 = some ⟨oc2, od2, .func (PySem.W.fnOf "_law_start" "_law_start" (defArgs (topS 34)) (defBody (topS 34)) (defScope (topS 34)) .none kV2 dc2 pm2 an2 cd2 ct2), sl2⟩) (c2 : PySem.W.codeIn K cd2 "_law_start" = true) (k2 : PySem.W.keepIn K (.ref f2) = true)
    {f3 : Addr} {od3 an3 : Option Addr} {sl3 : Array (Option Value)} {oc3 kV3 dc3 pm3 cd3 ct3 : Value} (a3 : PySem.W.nsIn K mainGlobals "_law_take" = some (some (.ref f3))) (l3 : K.lookup f3 = some ⟨oc3, od3, .func (PySem.W.fnOf "_law_take" "_law_take" (defArgs (topS 35)) (defBody (topS 35)) (defScope (topS 35)) .none kV3 dc3 pm3 an3 cd3 ct3), sl3⟩) (c3 : PySem.W.codeIn K cd3 "_law_take" = true) (k3 : PySem.W.keepIn K (.ref f3) = true)
    {f4 : Addr} {od4 an4 : Option Addr} {sl4 : Array (Option Value)} {oc4 kV4 dc4 pm4 cd4 ct4 : Value} (a4 : PySem.W.nsIn K mainGlobals "_law_pick" = some (some (.ref f4))) (l4 : K.lookup f4 = some ⟨oc4, od4, .func (PySem.W.fnOf "_law_pick" "_law_pick" (defArgs (topS 36)) (defBody (topS 36)) (defScope (topS 36)) .none kV4 dc4 pm4 an4 cd4 ct4), sl4⟩) (c4 : PySem.W.codeIn K cd4 "_law_pick" = true) (k4 : PySem.W.keepIn K (.ref f4) = true)
    {f5 : Addr} {od5 an5 : Option Addr} {sl5 : Array (Option Value)} {oc5 kV5 dc5 pm5 cd5 ct5 : Value} (a5 : PySem.W.nsIn K mainGlobals "_law_shuffled" = some (some (.ref f5))) (l5 : K.lookup f5 = some ⟨oc5, od5, .func (PySem.W.fnOf "_law_shuffled" "_law_shuffled" (defArgs (topS 37)) (defBody (topS 37)) (defScope (topS 37)) .none kV5 dc5 pm5 an5 cd5 ct5), sl5⟩) (c5 : PySem.W.codeIn K cd5 "_law_shuffled" = true) (k5 : PySem.W.keepIn K (.ref f5) = true)
    {f6 : Addr} {od6 an6 : Option Addr} {sl6 : Array (Option Value)} {oc6 kV6 dc6 pm6 cd6 ct6 : Value} (a6 : PySem.W.nsIn K mainGlobals "_product_holds" = some (some (.ref f6))) (l6 : K.lookup f6 = some ⟨oc6, od6, .func (PySem.W.fnOf "_product_holds" "_product_holds" (defArgs (topS 13)) (defBody (topS 13)) (defScope (topS 13)) .none kV6 dc6 pm6 an6 cd6 ct6), sl6⟩) (c6 : PySem.W.codeIn K cd6 "_product_holds" = true) (k6 : PySem.W.keepIn K (.ref f6) = true)
    {f7 : Addr} {od7 an7 : Option Addr} {sl7 : Array (Option Value)} {oc7 kV7 dc7 pm7 cd7 ct7 : Value} (a7 : PySem.W.nsIn K mainGlobals "_ahead_holds" = some (some (.ref f7))) (l7 : K.lookup f7 = some ⟨oc7, od7, .func (PySem.W.fnOf "_ahead_holds" "_ahead_holds" (defArgs (topS 14)) (defBody (topS 14)) (defScope (topS 14)) .none kV7 dc7 pm7 an7 cd7 ct7), sl7⟩) (c7 : PySem.W.codeIn K cd7 "_ahead_holds" = true) (k7 : PySem.W.keepIn K (.ref f7) = true)
    {f8 : Addr} {od8 an8 : Option Addr} {sl8 : Array (Option Value)} {oc8 kV8 dc8 pm8 cd8 ct8 : Value} (a8 : PySem.W.nsIn K mainGlobals "_met" = some (some (.ref f8))) (l8 : K.lookup f8 = some ⟨oc8, od8, .func (PySem.W.fnOf "_met" "_met" (defArgs (topS 24)) (defBody (topS 24)) (defScope (topS 24)) .none kV8 dc8 pm8 an8 cd8 ct8), sl8⟩) (c8 : PySem.W.codeIn K cd8 "_met" = true) (k8 : PySem.W.keepIn K (.ref f8) = true)
    {f9 : Addr} {od9 an9 : Option Addr} {sl9 : Array (Option Value)} {oc9 kV9 dc9 pm9 cd9 ct9 : Value} (a9 : PySem.W.nsIn K mainGlobals "path_of" = some (some (.ref f9))) (l9 : K.lookup f9 = some ⟨oc9, od9, .func (PySem.W.fnOf "path_of" "path_of" (defArgs (topS 22)) (defBody (topS 22)) (defScope (topS 22)) .none kV9 dc9 pm9 an9 cd9 ct9), sl9⟩) (c9 : PySem.W.codeIn K cd9 "path_of" = true) (k9 : PySem.W.keepIn K (.ref f9) = true)
    {f10 : Addr} {od10 an10 : Option Addr} {sl10 : Array (Option Value)} {oc10 kV10 dc10 pm10 cd10 ct10 : Value} (a10 : PySem.W.nsIn K mainGlobals "_machine_holds" = some (some (.ref f10))) (l10 : K.lookup f10 = some ⟨oc10, od10, .func (PySem.W.fnOf "_machine_holds" "_machine_holds" (defArgs (topS 15)) (defBody (topS 15)) (defScope (topS 15)) .none kV10 dc10 pm10 an10 cd10 ct10), sl10⟩) (c10 : PySem.W.codeIn K cd10 "_machine_holds" = true) (k10 : PySem.W.keepIn K (.ref f10) = true)
    {f11 : Addr} {od11 an11 : Option Addr} {sl11 : Array (Option Value)} {oc11 kV11 dc11 pm11 cd11 ct11 : Value} (a11 : PySem.W.nsIn K mainGlobals "values_at" = some (some (.ref f11))) (l11 : K.lookup f11 = some ⟨oc11, od11, .func (PySem.W.fnOf "values_at" "values_at" (defArgs (topS 28)) (defBody (topS 28)) (defScope (topS 28)) .none kV11 dc11 pm11 an11 cd11 ct11), sl11⟩) (c11 : PySem.W.codeIn K cd11 "values_at" = true) (k11 : PySem.W.keepIn K (.ref f11) = true)
    {f12 : Addr} {od12 an12 : Option Addr} {sl12 : Array (Option Value)} {oc12 kV12 dc12 pm12 cd12 ct12 : Value} (a12 : PySem.W.nsIn K mainGlobals "saying_of" = some (some (.ref f12))) (l12 : K.lookup f12 = some ⟨oc12, od12, .func (PySem.W.fnOf "saying_of" "saying_of" (defArgs (topS 29)) (defBody (topS 29)) (defScope (topS 29)) .none kV12 dc12 pm12 an12 cd12 ct12), sl12⟩) (c12 : PySem.W.codeIn K cd12 "saying_of" = true) (k12 : PySem.W.keepIn K (.ref f12) = true)
    {f13 : Addr} {od13 an13 : Option Addr} {sl13 : Array (Option Value)} {oc13 kV13 dc13 pm13 cd13 ct13 : Value} (a13 : PySem.W.nsIn K mainGlobals "keeps_saying" = some (some (.ref f13))) (l13 : K.lookup f13 = some ⟨oc13, od13, .func (PySem.W.fnOf "keeps_saying" "keeps_saying" (defArgs (topS 30)) (defBody (topS 30)) (defScope (topS 30)) .none kV13 dc13 pm13 an13 cd13 ct13), sl13⟩) (c13 : PySem.W.codeIn K cd13 "keeps_saying" = true) (k13 : PySem.W.keepIn K (.ref f13) = true)
    {f14 : Addr} {od14 an14 : Option Addr} {sl14 : Array (Option Value)} {oc14 kV14 dc14 pm14 cd14 ct14 : Value} (a14 : PySem.W.nsIn K mainGlobals "keeps" = some (some (.ref f14))) (l14 : K.lookup f14 = some ⟨oc14, od14, .func (PySem.W.fnOf "keeps" "keeps" (defArgs (topS 31)) (defBody (topS 31)) (defScope (topS 31)) .none kV14 dc14 pm14 an14 cd14 ct14), sl14⟩) (c14 : PySem.W.codeIn K cd14 "keeps" = true) (k14 : PySem.W.keepIn K (.ref f14) = true)
    {f15 : Addr} {od15 an15 : Option Addr} {sl15 : Array (Option Value)} {oc15 kV15 dc15 pm15 cd15 ct15 : Value} (a15 : PySem.W.nsIn K mainGlobals "_law_is_due" = some (some (.ref f15))) (l15 : K.lookup f15 = some ⟨oc15, od15, .func (PySem.W.fnOf "_law_is_due" "_law_is_due" (defArgs (topS 39)) (defBody (topS 39)) (defScope (topS 39)) .none kV15 dc15 pm15 an15 cd15 ct15), sl15⟩) (c15 : PySem.W.codeIn K cd15 "_law_is_due" = true) (k15 : PySem.W.keepIn K (.ref f15) = true)
    {f16 : Addr} {od16 an16 : Option Addr} {sl16 : Array (Option Value)} {oc16 kV16 dc16 pm16 cd16 ct16 : Value} (a16 : PySem.W.nsIn K mainGlobals "_law_world" = some (some (.ref f16))) (l16 : K.lookup f16 = some ⟨oc16, od16, .func (PySem.W.fnOf "_law_world" "_law_world" (defArgs (topS 41)) (defBody (topS 41)) (defScope (topS 41)) .none kV16 dc16 pm16 an16 cd16 ct16), sl16⟩) (c16 : PySem.W.codeIn K cd16 "_law_world" = true) (k16 : PySem.W.keepIn K (.ref f16) = true)
    {f17 : Addr} {od17 an17 : Option Addr} {sl17 : Array (Option Value)} {oc17 kV17 dc17 pm17 cd17 ct17 : Value} (a17 : PySem.W.nsIn K mainGlobals "_law_walk" = some (some (.ref f17))) (l17 : K.lookup f17 = some ⟨oc17, od17, .func (PySem.W.fnOf "_law_walk" "_law_walk" (defArgs (topS 45)) (defBody (topS 45)) (defScope (topS 45)) .none kV17 dc17 pm17 an17 cd17 ct17), sl17⟩) (c17 : PySem.W.codeIn K cd17 "_law_walk" = true) (k17 : PySem.W.keepIn K (.ref f17) = true)
    {f18 : Addr} {od18 an18 : Option Addr} {sl18 : Array (Option Value)} {oc18 kV18 dc18 pm18 cd18 ct18 : Value} (a18 : PySem.W.nsIn K mainGlobals "_law_holds" = some (some (.ref f18))) (l18 : K.lookup f18 = some ⟨oc18, od18, .func (PySem.W.fnOf "_law_holds" "_law_holds" (defArgs (topS 46)) (defBody (topS 46)) (defScope (topS 46)) .none kV18 dc18 pm18 an18 cd18 ct18), sl18⟩) (c18 : PySem.W.codeIn K cd18 "_law_holds" = true) (k18 : PySem.W.keepIn K (.ref f18) = true)
    {f19 : Addr} {od19 an19 : Option Addr} {sl19 : Array (Option Value)} {oc19 kV19 dc19 pm19 cd19 ct19 : Value} (a19 : PySem.W.nsIn K mainGlobals "_law_fillings" = some (some (.ref f19))) (l19 : K.lookup f19 = some ⟨oc19, od19, .func (PySem.W.fnOf "_law_fillings" "_law_fillings" (defArgs (topS 40)) (defBody (topS 40)) (defScope (topS 40)) .none kV19 dc19 pm19 an19 cd19 ct19), sl19⟩) (c19 : PySem.W.codeIn K cd19 "_law_fillings" = true) (k19 : PySem.W.keepIn K (.ref f19) = true)
    {f20 : Addr} {od20 an20 : Option Addr} {sl20 : Array (Option Value)} {oc20 kV20 dc20 pm20 cd20 ct20 : Value} (a20 : PySem.W.nsIn K mainGlobals "_law_near" = some (some (.ref f20))) (l20 : K.lookup f20 = some ⟨oc20, od20, .func (PySem.W.fnOf "_law_near" "_law_near" (defArgs (topS 42)) (defBody (topS 42)) (defScope (topS 42)) .none kV20 dc20 pm20 an20 cd20 ct20), sl20⟩) (c20 : PySem.W.codeIn K cd20 "_law_near" = true) (k20 : PySem.W.keepIn K (.ref f20) = true)
    {f21 : Addr} {od21 an21 : Option Addr} {sl21 : Array (Option Value)} {oc21 kV21 dc21 pm21 cd21 ct21 : Value} (a21 : PySem.W.nsIn K mainGlobals "_law_parted" = some (some (.ref f21))) (l21 : K.lookup f21 = some ⟨oc21, od21, .func (PySem.W.fnOf "_law_parted" "_law_parted" (defArgs (topS 44)) (defBody (topS 44)) (defScope (topS 44)) .none kV21 dc21 pm21 an21 cd21 ct21), sl21⟩) (c21 : PySem.W.codeIn K cd21 "_law_parted" = true) (k21 : PySem.W.keepIn K (.ref f21) = true)
    {f22 : Addr} {od22 an22 : Option Addr} {sl22 : Array (Option Value)} {oc22 kV22 dc22 pm22 cd22 ct22 : Value} (a22 : PySem.W.nsIn K mainGlobals "_law_are_held" = some (some (.ref f22))) (l22 : K.lookup f22 = some ⟨oc22, od22, .func (PySem.W.fnOf "_law_are_held" "_law_are_held" (defArgs (topS 43)) (defBody (topS 43)) (defScope (topS 43)) .none kV22 dc22 pm22 an22 cd22 ct22), sl22⟩) (c22 : PySem.W.codeIn K cd22 "_law_are_held" = true) (k22 : PySem.W.keepIn K (.ref f22) = true)
    {f23 : Addr} {od23 an23 : Option Addr} {sl23 : Array (Option Value)} {oc23 kV23 dc23 pm23 cd23 ct23 : Value} (a23 : PySem.W.nsIn K mainGlobals "_law_by_turns" = some (some (.ref f23))) (l23 : K.lookup f23 = some ⟨oc23, od23, .func (PySem.W.fnOf "_law_by_turns" "_law_by_turns" (defArgs (topS 50)) (defBody (topS 50)) (defScope (topS 50)) .none kV23 dc23 pm23 an23 cd23 ct23), sl23⟩) (c23 : PySem.W.codeIn K cd23 "_law_by_turns" = true) (k23 : PySem.W.keepIn K (.ref f23) = true)
    {f24 : Addr} {od24 an24 : Option Addr} {sl24 : Array (Option Value)} {oc24 kV24 dc24 pm24 cd24 ct24 : Value} (a24 : PySem.W.nsIn K mainGlobals "_law_names" = some (some (.ref f24))) (l24 : K.lookup f24 = some ⟨oc24, od24, .func (PySem.W.fnOf "_law_names" "_law_names" (defArgs (topS 38)) (defBody (topS 38)) (defScope (topS 38)) .none kV24 dc24 pm24 an24 cd24 ct24), sl24⟩) (c24 : PySem.W.codeIn K cd24 "_law_names" = true) (k24 : PySem.W.keepIn K (.ref f24) = true)
    {f25 : Addr} {od25 an25 : Option Addr} {sl25 : Array (Option Value)} {oc25 kV25 dc25 pm25 cd25 ct25 : Value} (a25 : PySem.W.nsIn K mainGlobals "_law_machine" = some (some (.ref f25))) (l25 : K.lookup f25 = some ⟨oc25, od25, .func (PySem.W.fnOf "_law_machine" "_law_machine" (defArgs (topS 47)) (defBody (topS 47)) (defScope (topS 47)) .none kV25 dc25 pm25 an25 cd25 ct25), sl25⟩) (c25 : PySem.W.codeIn K cd25 "_law_machine" = true) (k25 : PySem.W.keepIn K (.ref f25) = true)
    {f26 : Addr} {od26 an26 : Option Addr} {sl26 : Array (Option Value)} {oc26 kV26 dc26 pm26 cd26 ct26 : Value} (a26 : PySem.W.nsIn K mainGlobals "_law_times" = some (some (.ref f26))) (l26 : K.lookup f26 = some ⟨oc26, od26, .func (PySem.W.fnOf "_law_times" "_law_times" (defArgs (topS 49)) (defBody (topS 49)) (defScope (topS 49)) .none kV26 dc26 pm26 an26 cd26 ct26), sl26⟩) (c26 : PySem.W.codeIn K cd26 "_law_times" = true) (k26 : PySem.W.keepIn K (.ref f26) = true)
    {f27 : Addr} {od27 an27 : Option Addr} {sl27 : Array (Option Value)} {oc27 kV27 dc27 pm27 cd27 ct27 : Value} (a27 : PySem.W.nsIn K mainGlobals "_law_saying" = some (some (.ref f27))) (l27 : K.lookup f27 = some ⟨oc27, od27, .func (PySem.W.fnOf "_law_saying" "_law_saying" (defArgs (topS 48)) (defBody (topS 48)) (defScope (topS 48)) .none kV27 dc27 pm27 an27 cd27 ct27), sl27⟩) (c27 : PySem.W.codeIn K cd27 "_law_saying" = true) (k27 : PySem.W.keepIn K (.ref f27) = true)
    {f28 : Addr} {od28 an28 : Option Addr} {sl28 : Array (Option Value)} {oc28 kV28 dc28 pm28 cd28 ct28 : Value} (a28 : PySem.W.nsIn K mainGlobals "law" = some (some (.ref f28))) (l28 : K.lookup f28 = some ⟨oc28, od28, .func (PySem.W.fnOf "law" "law" (defArgs (topS 51)) (defBody (topS 51)) (defScope (topS 51)) .none kV28 dc28 pm28 an28 cd28 ct28), sl28⟩) (c28 : PySem.W.codeIn K cd28 "law" = true) (k28 : PySem.W.keepIn K (.ref f28) = true)
    (z_abs : PySem.W.nsIn K mainGlobals "abs" = some none)
    (z_int : PySem.W.nsIn K mainGlobals "int" = some none)
    (z_len : PySem.W.nsIn K mainGlobals "len" = some none)
    (z_list : PySem.W.nsIn K mainGlobals "list" = some none)
    (z_max : PySem.W.nsIn K mainGlobals "max" = some none)
    (z_min : PySem.W.nsIn K mainGlobals "min" = some none)
    (z_range : PySem.W.nsIn K mainGlobals "range" = some none)
    (z_sorted : PySem.W.nsIn K mainGlobals "sorted" = some none)
    (z_str : PySem.W.nsIn K mainGlobals "str" = some none)
    (z_tuple : PySem.W.nsIn K mainGlobals "tuple" = some none)
    (z_zip : PySem.W.nsIn K mainGlobals "zip" = some none)
    {TT : Addr} {es : Array DictEntry} {en : Nat} (aT : PySem.W.nsIn K mainGlobals "_TELLS" = some (some (.ref TT))) (lT : K.lookup TT = some ⟨.type "dict", none, .dict es en, #[]⟩) (kT : PySem.W.KeysLit w.params es.toList)
    (t_product : PySem.W.nsIn K TT "product" = some (some (.ref f6))) (t_ahead : PySem.W.nsIn K TT "ahead" = some (some (.ref f7))) (t_machine : PySem.W.nsIn K TT "machine" = some (some (.ref f10))) (hne : [f6, f7, f10].Nodup) :
    ∃ fd : FuncData, (∀ (s : Shared) (v : Value), BindsTo s fd ⟨[v], []⟩ [("script", v)]) ∧ ∀ base : Heap, K.In base → base.Ns mainGlobals mg → FnOk P w K mg base CX0 8 fa fd ["script"] (sp_law K) := by
  have F_holds := fun_mk (st := topS 3) l0 c0 k0
  have G_holds := PySem.W.mg_of X G a0
  have F__law_mixed := fun_mk (st := topS 33) l1 c1 k1
  have G__law_mixed := PySem.W.mg_of X G a1
  have F__law_start := fun_mk (st := topS 34) l2 c2 k2
  have G__law_start := PySem.W.mg_of X G a2
  have F__law_take := fun_mk (st := topS 35) l3 c3 k3
  have G__law_take := PySem.W.mg_of X G a3
  have F__law_pick := fun_mk (st := topS 36) l4 c4 k4
  have G__law_pick := PySem.W.mg_of X G a4
  have F__law_shuffled := fun_mk (st := topS 37) l5 c5 k5
  have G__law_shuffled := PySem.W.mg_of X G a5
  have F__product_holds := fun_mk (st := topS 13) l6 c6 k6
  have G__product_holds := PySem.W.mg_of X G a6
  have F__ahead_holds := fun_mk (st := topS 14) l7 c7 k7
  have G__ahead_holds := PySem.W.mg_of X G a7
  have F__met := fun_mk (st := topS 24) l8 c8 k8
  have G__met := PySem.W.mg_of X G a8
  have F_path_of := fun_mk (st := topS 22) l9 c9 k9
  have G_path_of := PySem.W.mg_of X G a9
  have F__machine_holds := fun_mk (st := topS 15) l10 c10 k10
  have G__machine_holds := PySem.W.mg_of X G a10
  have F_values_at := fun_mk (st := topS 28) l11 c11 k11
  have G_values_at := PySem.W.mg_of X G a11
  have F_saying_of := fun_mk (st := topS 29) l12 c12 k12
  have G_saying_of := PySem.W.mg_of X G a12
  have F_keeps_saying := fun_mk (st := topS 30) l13 c13 k13
  have G_keeps_saying := PySem.W.mg_of X G a13
  have F_keeps := fun_mk (st := topS 31) l14 c14 k14
  have G_keeps := PySem.W.mg_of X G a14
  have F__law_is_due := fun_mk (st := topS 39) l15 c15 k15
  have G__law_is_due := PySem.W.mg_of X G a15
  have F__law_world := fun_mk (st := topS 41) l16 c16 k16
  have G__law_world := PySem.W.mg_of X G a16
  have F__law_walk := fun_mk (st := topS 45) l17 c17 k17
  have G__law_walk := PySem.W.mg_of X G a17
  have F__law_holds := fun_mk (st := topS 46) l18 c18 k18
  have G__law_holds := PySem.W.mg_of X G a18
  have F__law_fillings := fun_mk (st := topS 40) l19 c19 k19
  have G__law_fillings := PySem.W.mg_of X G a19
  have F__law_near := fun_mk (st := topS 42) l20 c20 k20
  have G__law_near := PySem.W.mg_of X G a20
  have F__law_parted := fun_mk (st := topS 44) l21 c21 k21
  have G__law_parted := PySem.W.mg_of X G a21
  have F__law_are_held := fun_mk (st := topS 43) l22 c22 k22
  have G__law_are_held := PySem.W.mg_of X G a22
  have F__law_by_turns := fun_mk (st := topS 50) l23 c23 k23
  have G__law_by_turns := PySem.W.mg_of X G a23
  have F__law_names := fun_mk (st := topS 38) l24 c24 k24
  have G__law_names := PySem.W.mg_of X G a24
  have F__law_machine := fun_mk (st := topS 47) l25 c25 k25
  have G__law_machine := PySem.W.mg_of X G a25
  have F__law_times := fun_mk (st := topS 49) l26 c26 k26
  have G__law_times := PySem.W.mg_of X G a26
  have F__law_saying := fun_mk (st := topS 48) l27 c27 k27
  have G__law_saying := PySem.W.mg_of X G a27
  have F_law := fun_mk (st := topS 51) l28 c28 k28
  have G_law := PySem.W.mg_of X G a28
  have m_abs := PySem.W.mg_none_of X G z_abs
  have m_int := PySem.W.mg_none_of X G z_int
  have m_len := PySem.W.mg_none_of X G z_len
  have m_list := PySem.W.mg_none_of X G z_list
  have m_max := PySem.W.mg_none_of X G z_max
  have m_min := PySem.W.mg_none_of X G z_min
  have m_range := PySem.W.mg_none_of X G z_range
  have m_sorted := PySem.W.mg_none_of X G z_sorted
  have m_str := PySem.W.mg_none_of X G z_str
  have m_tuple := PySem.W.mg_none_of X G z_tuple
  have m_zip := PySem.W.mg_none_of X G z_zip
  have kP : KDct K w TT "product" (.ref f6) := ⟨es, en, _, lT, kT, t_product, rfl⟩
  have kA : KDct K w TT "ahead" (.ref f7) := ⟨es, en, _, lT, kT, t_ahead, rfl⟩
  have kM : KDct K w TT "machine" (.ref f10) := ⟨es, en, _, lT, kT, t_machine, rfl⟩
  have G__TELLS := PySem.W.mg_of X G aT
  have e := hfa.symm.trans G_law
  cases e
  refine ⟨PySem.W.fnOf "law" "law" (defArgs (topS 51)) (defBody (topS 51)) (defScope (topS 51)) .none kV28 dc28 pm28 an28 cd28 ct28, fun s v => .of_eq rfl, fun base _ _ => ?_⟩
  have C__ahead_holds := ok__ahead_holds (P := P) (w := w) (base := base) F__ahead_holds G__ahead_holds   
  have C__met := ok__met (P := P) (w := w) (base := base) F__met G__met   
  have C_path_of := ok_path_of (P := P) (w := w) (base := base) F_path_of G_path_of C__met  
  have C__machine_holds := ok__machine_holds (P := P) (w := w) (base := base) F__machine_holds G__machine_holds C_path_of  m_len
  have C__product_holds := ok__product_holds (P := P) (w := w) (base := base) F__product_holds G__product_holds   
  have C_holds := ok_holds (P := P) (w := w) (base := base) F_holds G_holds G__TELLS kP kA kM hne G__product_holds G__ahead_holds G__machine_holds C__product_holds C__ahead_holds C__machine_holds
  have C__law_mixed := ok__law_mixed (P := P) (w := w) (base := base) F__law_mixed G__law_mixed   m_int
  have C__law_start := ok__law_start (P := P) (w := w) (base := base) F__law_start G__law_start C__law_mixed  m_len m_list
  have C__law_take := ok__law_take (P := P) (w := w) (base := base) F__law_take G__law_take C__law_mixed  m_abs m_int m_len
  have C__law_pick := ok__law_pick (P := P) (w := w) (base := base) F__law_pick G__law_pick C__law_take  m_len
  have C__law_shuffled := ok__law_shuffled (P := P) (w := w) (base := base) F__law_shuffled G__law_shuffled C__law_take  m_len m_list m_range
  have C_values_at := ok_values_at (P := P) (w := w) (base := base) F_values_at G_values_at   m_zip
  have C_saying_of := ok_saying_of (P := P) (w := w) (base := base) F_saying_of G_saying_of   
  have N_keeps_saying := ok_keeps_saying (P := P) (w := w) (base := base) F_keeps_saying G_keeps_saying C_holds C_saying_of C_values_at  
  have C_keeps_saying : Cal P w K mg base "keeps_saying" 5 ["model", "name", "filling"] (sp_keeps_saying K) := ⟨_, _, N_keeps_saying, F_keeps_saying.kp, F_keeps_saying.binds (fun _ _ _ _ _ _ us hl => match us, hl with | [_, _, _], _ => rfl), G_keeps_saying⟩
  have CK_keeps_saying : CalK P w K mg base "keeps_saying" 5 ["model", "name", "filling"] ["model", "name", "filling"] gK (sp_keeps_saying K) := ckOf N_keeps_saying F_keeps_saying G_keeps_saying (by decide) (fun _ _ _ _ _ _ us hl => match us, hl with | [_, _, _], _ => rfl)
  have N_keeps := ok_keeps (P := P) (w := w) (base := base) F_keeps G_keeps C_holds C_values_at  
  have C_keeps : Cal P w K mg base "keeps" 5 ["model", "filling"] (sp_keeps K) := ⟨_, _, N_keeps, F_keeps.kp, F_keeps.binds (fun _ _ _ _ _ _ us hl => match us, hl with | [_, _], _ => rfl), G_keeps⟩
  have CK_keeps : CalK P w K mg base "keeps" 5 ["model", "filling"] ["model", "filling"] gK (sp_keeps K) := ckOf N_keeps F_keeps G_keeps (by decide) (fun _ _ _ _ _ _ us hl => match us, hl with | [_, _], _ => rfl)
  have C__law_is_due := ok__law_is_due (P := P) (w := w) (base := base) F__law_is_due G__law_is_due   
  have C__law_world := ok__law_world (P := P) (w := w) (base := base) F__law_world G__law_world   m_len m_range
  have C__law_walk := ok__law_walk (P := P) (w := w) (base := base) F__law_walk G__law_walk   
  have C__law_holds := ok__law_holds (P := P) (w := w) (base := base) F__law_holds G__law_holds C__law_walk  m_len m_range
  have C__law_fillings := ok__law_fillings (P := P) (w := w) (base := base) F__law_fillings G__law_fillings   
  have C__law_near := ok__law_near (P := P) (w := w) (base := base) F__law_near G__law_near C__law_pick C__law_take  m_len m_list m_range m_tuple
  have C__law_parted := ok__law_parted (P := P) (w := w) (base := base) F__law_parted G__law_parted C__law_holds C__law_take  m_len
  have C__law_are_held := ok__law_are_held (P := P) (w := w) (base := base) F__law_are_held G__law_are_held C__law_holds C__law_is_due C__law_take C__law_world C_keeps C_keeps_saying CK_keeps CK_keeps_saying m_len m_range m_tuple
  have C__law_by_turns := ok__law_by_turns (P := P) (w := w) (base := base) F__law_by_turns G__law_by_turns C__law_are_held C__law_near  m_len m_range
  have C__law_names := ok__law_names (P := P) (w := w) (base := base) F__law_names G__law_names C__law_shuffled C__law_take  m_int m_range m_str
  have C__law_machine := ok__law_machine (P := P) (w := w) (base := base) F__law_machine G__law_machine C__law_pick C__law_shuffled C__law_take  m_int m_len m_range m_sorted m_tuple
  have C__law_times := ok__law_times (P := P) (w := w) (base := base) F__law_times G__law_times C__law_pick C__law_shuffled C__law_take  m_int m_max m_min m_range m_sorted m_tuple
  have C__law_saying := ok__law_saying (P := P) (w := w) (base := base) F__law_saying G__law_saying C__law_machine C__law_shuffled C__law_take  m_len m_min m_tuple
  exact ok_law F_law G_law C__law_by_turns C__law_fillings C__law_names C__law_near C__law_parted C__law_pick C__law_saying C__law_shuffled C__law_start C__law_take C__law_times C__law_world  m_len m_list m_range m_sorted m_tuple
end AW
open PySem PySem.W PyProof.Rows
set_option maxHeartbeats 0 in
theorem PySem.Challenge.cw_aswritten_k05_products_aheads_and_machin_holds : PySem.Challenge.rw_aswritten_k05_products_aheads_and_machin.Holds := by
  w_on; o_law; k_head; (case hw => w_witness2)
  k_fill
  refine L2.walk_of (l := PySem.Challenge.rw_aswritten_k05_products_aheads_and_machin) (n := 63) (k := 8) (x := "script") (CX := fun _ => L2.CX0) (sp := fun w => AW.sp_law _) rfl (by decide) rfl ⟨rfl, by decide, by decide⟩ (fun w h Y => PySem.W.kIn_of Y) ?F (fun _ _ a ns hl _ hS => ⟨a, ns, rfl, hS, hl, fun _ => rfl⟩) (fun _ _ _ _ _ h => h)
  case F =>
    intro w mg fa h KX G hmg
    refine' AW.facts7 KX G hmg ?a0 ?l0 ?c0 ?k0 ?a1 ?l1 ?c1 ?k1 ?a2 ?l2 ?c2 ?k2 ?a3 ?l3 ?c3 ?k3 ?a4 ?l4 ?c4 ?k4 ?a5 ?l5 ?c5 ?k5 ?a6 ?l6 ?c6 ?k6 ?a7 ?l7 ?c7 ?k7 ?a8 ?l8 ?c8 ?k8 ?a9 ?l9 ?c9 ?k9 ?a10 ?l10 ?c10 ?k10 ?a11 ?l11 ?c11 ?k11 ?a12 ?l12 ?c12 ?k12 ?a13 ?l13 ?c13 ?k13 ?a14 ?l14 ?c14 ?k14 ?a15 ?l15 ?c15 ?k15 ?a16 ?l16 ?c16 ?k16 ?a17 ?l17 ?c17 ?k17 ?a18 ?l18 ?c18 ?k18 ?a19 ?l19 ?c19 ?k19 ?a20 ?l20 ?c20 ?k20 ?a21 ?l21 ?c21 ?k21 ?a22 ?l22 ?c22 ?k22 ?a23 ?l23 ?c23 ?k23 ?a24 ?l24 ?c24 ?k24 ?a25 ?l25 ?c25 ?k25 ?a26 ?l26 ?c26 ?k26 ?a27 ?l27 ?c27 ?k27 ?a28 ?l28 ?c28 ?k28 ?z_abs ?z_int ?z_len ?z_list ?z_max ?z_min ?z_range ?z_sorted ?z_str ?z_tuple ?z_zip ?aT ?lT ?kT ?t_product ?t_ahead ?t_machine ?hne
    (case a0 => k_is); (case l0 => k_is); (case c0 => k_is); (case k0 => k_is); (case a1 => k_is); (case l1 => k_is); (case c1 => k_is); (case k1 => k_is); (case a2 => k_is); (case l2 => k_is); (case c2 => k_is); (case k2 => k_is); (case a3 => k_is); (case l3 => k_is); (case c3 => k_is); (case k3 => k_is); (case a4 => k_is); (case l4 => k_is); (case c4 => k_is); (case k4 => k_is); (case a5 => k_is); (case l5 => k_is); (case c5 => k_is); (case k5 => k_is); (case a6 => k_is); (case l6 => k_is); (case c6 => k_is); (case k6 => k_is); (case a7 => k_is); (case l7 => k_is); (case c7 => k_is); (case k7 => k_is); (case a8 => k_is); (case l8 => k_is); (case c8 => k_is); (case k8 => k_is); (case a9 => k_is); (case l9 => k_is); (case c9 => k_is); (case k9 => k_is); (case a10 => k_is); (case l10 => k_is); (case c10 => k_is); (case k10 => k_is); (case a11 => k_is); (case l11 => k_is); (case c11 => k_is); (case k11 => k_is); (case a12 => k_is); (case l12 => k_is); (case c12 => k_is); (case k12 => k_is); (case a13 => k_is); (case l13 => k_is); (case c13 => k_is); (case k13 => k_is); (case a14 => k_is); (case l14 => k_is); (case c14 => k_is); (case k14 => k_is); (case a15 => k_is); (case l15 => k_is); (case c15 => k_is); (case k15 => k_is); (case a16 => k_is); (case l16 => k_is); (case c16 => k_is); (case k16 => k_is); (case a17 => k_is); (case l17 => k_is); (case c17 => k_is); (case k17 => k_is); (case a18 => k_is); (case l18 => k_is); (case c18 => k_is); (case k18 => k_is); (case a19 => k_is); (case l19 => k_is); (case c19 => k_is); (case k19 => k_is); (case a20 => k_is); (case l20 => k_is); (case c20 => k_is); (case k20 => k_is); (case a21 => k_is); (case l21 => k_is); (case c21 => k_is); (case k21 => k_is); (case a22 => k_is); (case l22 => k_is); (case c22 => k_is); (case k22 => k_is); (case a23 => k_is); (case l23 => k_is); (case c23 => k_is); (case k23 => k_is); (case a24 => k_is); (case l24 => k_is); (case c24 => k_is); (case k24 => k_is); (case a25 => k_is); (case l25 => k_is); (case c25 => k_is); (case k25 => k_is); (case a26 => k_is); (case l26 => k_is); (case c26 => k_is); (case k26 => k_is); (case a27 => k_is); (case l27 => k_is); (case c27 => k_is); (case k27 => k_is); (case a28 => k_is); (case l28 => k_is); (case c28 => k_is); (case k28 => k_is); (case z_abs => k_is); (case z_int => k_is); (case z_len => k_is); (case z_list => k_is); (case z_max => k_is); (case z_min => k_is); (case z_range => k_is); (case z_sorted => k_is); (case z_str => k_is); (case z_tuple => k_is); (case z_zip => k_is); (case aT => k_is); (case lT => k_is)
    (case kT => repeat' (first | exact trivial | refine ⟨⟨_, _, rfl, rfl⟩, ?_⟩))
    (case t_product => k_is); (case t_ahead => k_is); (case t_machine => k_is); (case hne => decide)
