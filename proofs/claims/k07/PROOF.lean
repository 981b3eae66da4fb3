import PyProof.Rows.All
import Wide.All
import OpenK.AllK
import Wide.FinOn
import HandS.ForMost
import HandS.DictComp
import HandS.Zip
import HandS.TupAny
import HandS.Style
import HandS.Deep
import HandS.CallLocal
import HandS.More
import HandS.Conv
import HandS.SortInts
import HandS.Walk
import KE.GoesMore
import KE.KEqDeep
import HandS.SetBool
import HandS.Strs
import KE.DataCmp
import HandS.TupLe
import KE.SortData
import HandS.SetFor
import HandS.Text
import HandS.Defaults
import HandS.Ends
import PySem.Challenge.RW_aswritten_k07_claims_and_whens_held
set_option Elab.async false
set_option linter.all false
set_option maxRecDepth 100000
set_option maxHeartbeats 4000000
/-! own words over the hand layer: names of readings, calls by a bundle, the lists' in-place store, text times number, keywords alone. -/
namespace AW
open PySem PySem.Spec PyProof.Rows L2

abbrev rAddI : R2 := rI0 fun i j => .int (i + j)
abbrev rSubI : R2 := rI0 fun i j => .int (i - j)
abbrev rMulI : R2 := rI CMul fun i j => .int (i * j)
abbrev rDivI : R2 := rI CDiv fun i j => .int (i / j)
abbrev rModI : R2 := rI (fun _ j => 0 < j) fun i j => .int (i % j)
abbrev rPowI : R2 := rI CPow fun i j => .int (i ^ j.toNat)
abbrev rLtI : R2 := rI0 fun i j => .bl (decide (i < j))
abbrev rLeI : R2 := rI0 fun i j => .bl (decide (i ≤ j))
abbrev rGtI : R2 := rI0 fun i j => .bl (decide (j < i))
abbrev rGeI : R2 := rI0 fun i j => .bl (decide (j ≤ i))
abbrev rNeg : V → Hp → VK → Prop := rU fun i => .int (-i)
def rAddS : R2 := fun x y H Q => ∃ i j, x = .str i ∧ y = .str j ∧ i.length + j.length ≤ sizeLine ∧ Q (.str (i ++ j)) H
theorem op_addS {X : Cx} : OpR X (binaryOp .Add) rAddS := op_add_str
def rRepS : R2 := fun x y H Q => ∃ z n, x = .str z ∧ y = .int n ∧ MulOk z n ∧ Q (.str (Txt.mul z n)) H
theorem op_repS {X : Cx} : OpR X (binaryOp .Mult) rRepS := by
  intro pins s σ H x y v u Q I rx ry h
  obtain ⟨z, n, rfl, rfl, ok, q⟩ := h
  obtain ⟨t, rfl⟩ := rx
  obtain ⟨t', rfl⟩ := ry
  exact SB.mul ok fun t2 k => ⟨.str _, H, I.tok _, ⟨_, rfl⟩, q⟩
def rLen1 (K : PySem.W.Frag) : List V → Hp → VK → Prop := fun xs H Q => ∃ x n, xs = [x] ∧ LenV K x H n ∧ Q (.int n) H
theorem call_len1 {X : Cx} : CallR X (.builtin "len") (rLen1 X.K) := call_len
def rAbs : List V → Hp → VK → Prop := fun xs H Q => ∃ i, xs = [.int i] ∧ Q (.int (if i < 0 then -i else i)) H
theorem call_abs1 {X : Cx} : CallR X (.builtin "abs") rAbs := call_abs
def rInt1 : List V → Hp → VK → Prop := fun xs H Q => (∃ i, xs = [.int i] ∧ Q (.int i) H) ∨ ∃ k, xs = [.bl k] ∧ Q (.int (if k then 1 else 0)) H
def rStr1 : List V → Hp → VK → Prop := fun xs H Q => ∃ i, xs = [.int i] ∧ i.natAbs.log2 < 1920 ∧ Q (.str (toString i)) H
def rMax2 : List V → Hp → VK → Prop := fun xs H Q => ∃ i j, xs = [.int i, .int j] ∧ Q (.int (if j > i then j else i)) H
def rMin2 : List V → Hp → VK → Prop := fun xs H Q => ∃ i j, xs = [.int i, .int j] ∧ Q (.int (if j < i then j else i)) H
def rListOf (K : PySem.W.Frag) : List V → Hp → VK → Prop := fun xs H Q => ∃ p ys, xs = [.ref p] ∧ (SqL K H p ys ∨ SqT K H p ys) ∧ ∀ l, H l = none → Q (.ref l) (upd H l (.lst ys))
theorem call_listOf {X : Cx} : CallR X (.type "list") (rListOf X.K) := call_list_of
def rSortDI : List V → Hp → VK → Prop := fun xs H Q => ∃ (a : Addr) (kvs : List (Key × V)) (ks : List Int), xs = [.ref a] ∧ Rd H a (.dK kvs) ∧ kvs.map (·.1) = ks.map Sum.inl ∧ ks.length < 64 ∧
    ∀ (ys : List Int) (p : Addr), ys.Perm ks → ys.Pairwise (· ≤ ·) → H p = none → Q (.ref p) (upd H p (.lst (ys.map V.int)))
def rIxA (K : PySem.W.Frag) : R2 := fun x y H Q => rIxL K x y H Q ∨ rIxT K x y H Q
theorem ix_any {X : Cx} : IxR X (rIxA X.K) := ix_list.or ix_tup
def rIsN : R2 := fun x y H Q => y = .non ∧ Q (.bl (decide (x = .non))) H
theorem op_isN1 {X : Cx} : OpR X (compareOp .Is) rIsN := op_isN
def rJoin (K : PySem.W.Frag) : V → List V → Hp → VK → Prop := fun x xs H Q => ∃ a p, ∃ ys : List Str, x = .str a ∧ xs = [.ref p] ∧ (SqL K H p (ys.map V.str) ∨ SqT K H p (ys.map V.str)) ∧
  (ys.map (·.length)).sum + ys.length * a.length ≤ 16777216 ∧ Q (.str (Txt.join a ys)) H
theorem units64 {A : Around} {k : Nat} (hr : Room k A) : A.units + 64 < cLine := hr.units
theorem units65 {A : Around} {k : Nat} (hr : Room k A) : A.units + 65 < cLine := by have := hr.un; omega
section
variable {X : Cx}
theorem pe_joinK {o e : Expr} {to te : TE} {apos pos : Pos} (ho : PE X o to) (he : PE X e te) (hs : starEach [e] X.env = [(false, eval e X.env)] := by rfl) (hbase : attributeBase o "join" X.env (eval o X.env) = eval o X.env := by rfl) (hline : (apos.endLine == pos.line) = true := by rfl) :
    PE X (.Call (.Attribute o "join" apos) [e] [] pos) (tM1 (rJoin X.K) to te) := pe_join ho he hs hbase hline

/-! ### a def by name, with all that a call asks of it -/
structure Cal (P : Program) (w : World) (K : PySem.W.Frag) (mg : Str → Option Value) (base : Heap) (x : Str) (k : Nat) (ps : List Str) (sp : Sp) : Prop where
  ex : ∃ (f : Addr) (fd : FuncData), FnOk P w K mg base CX0 k f fd ps sp ∧ PySem.W.keepIn K (.ref f) = true ∧ Binds K fd ps [] ∧ mg x = some (.ref f)
theorem pe_cal {x : Str} {k : Nat} {ps : List Str} {sp : Sp} {e : Expr} {es : List Expr} {t : TA} {p pos : Pos} (C : Cal X.prog X.w X.K X.mg X.base x k ps sp) (hr : Room k X.A) (hg : Gl X x) (ha : PA X (e :: es) t)
    (hdb : (x == ("__debug__" : Str)) = false := by decide) (he : starEach (e :: es) X.env = (false, eval e X.env) :: starEach es X.env := by rfl) (hpl : (backTo pos (starEach es X.env)).any (·.1) = false := by rfl) :
    PE X (.Call (.Name x p) (e :: es) [] pos) (tCall sp [] E0 t) := by
  refine ⟨fun pins s σ H Q I h => ?_⟩
  obtain ⟨f, fd, F, hk, hb, hm⟩ := C.ex
  exact (pe_call F hr hg hm hk hb .nil pass0 ha hdb he hpl).run pins s σ H Q I h
/-- how keywords alone bind -/
structure CalK (P : Program) (w : World) (K : PySem.W.Frag) (mg : Str → Option Value) (base : Heap) (x : Str) (k : Nat) (ps ks : List Str) (gV : List V → List V → List V) (sp : Sp) : Prop where
  ex : ∃ (f : Addr) (fd : FuncData) (g : List Value → List Value → List Value), FnOk P w K mg base CX0 k f fd ps sp ∧ PySem.W.keepIn K (.ref f) = true ∧ KBinds K fd ps ks g gV ∧ mg x = some (.ref f)
theorem pe_calK {x : Str} {k : Nat} {ps ks : List Str} {gV : List V → List V → List V} {sp : Sp} {kws : List Keyword} {tk : TA} {p pos : Pos} (C : CalK X.prog X.w X.K X.mg X.base x k ps ks gV sp) (hr : Room k X.A) (hg : Gl X x) (hkw : PK X kws tk)
    (hall : (backToKw pos (keywordEach kws X.env)).all (·.1.isSome) = true := by rfl) (hks : (backToKw pos (keywordEach kws X.env)).filterMap (·.1) = ks := by rfl)
    (hdb : (x == ("__debug__" : Str)) = false := by decide)
    (hpl : ((backTo pos (starEach [] X.env)).any (·.1) || (backToKw pos (keywordEach kws X.env)).any (·.1.isNone)) = false := by rfl) :
    PE X (.Call (.Name x p) [] kws pos) (tCallK sp gV E0 tNil tk) := by
  refine ⟨fun pins s σ H Q I h => ?_⟩
  obtain ⟨f, fd, g, F, hk, hb, hm⟩ := C.ex
  refine wpAny_Call_Name_kw (ld_glob I hg hm ?_ hdb)
  refine PySem.W.callWith_KW0 (h₀ := X.base) I.ok.mod.kin hk hall (thn (hkw.run pos pins s σ H _ I h) fun ws s2 ⟨zs, H2, I2, rz, q2⟩ => ⟨I2.kIn, ?_⟩) hpl
  rw [hks]
  exact run_fnk (us := []) F hr hb pass0 I2 .nil rz q2
end
/-- a list's item, by values -/
theorem get_list {X : Cx} : PGet X (rIxL X.K) := by
  intro pins s σ H o i ov iv Q I ro ri h
  obtain ⟨p, xs, j, z, rfl, rfl, hq, he, q⟩ := h
  cases ro
  obtain ⟨t, rfl⟩ := ri
  obtain ⟨its, r, pl, hz⟩ := I.list hq
  obtain ⟨m, h1, h2, h3, h4, h5⟩ := atI_get he
  obtain ⟨w, ew, rw'⟩ := r.get h2
  have hl := r.length
  have hn := line63
  have fin : EP X pins σ Q w s := ⟨z, H, I, rw', q⟩
  by_cases h0 : 0 ≤ j
  · have hj : j.toNat = m := by
      rw [seqIndex_of h0 h5] at h1
      exact Option.some.inj h1
    exact wpAny_getItem_list pl.isList h0 (by omega) (by rw [hj]; simpa using ew) fin
  · have hj : (j + (its.toArray.size : Int)).toNat = m := by
      rw [seqIndex_neg (by omega) h4] at h1
      rw [List.size_toArray, ← hl]
      exact Option.some.inj h1
    exact wpAny_getItem_list_neg pl.isList (by omega) (by rw [List.size_toArray] <;> omega) (by omega) (by rw [hj]; simpa using ew) fin
end AW
/-! heaps that go on, the law's state, readings of one def at a time -/
namespace AW
open PySem PySem.Spec PyProof.Rows L2

/-- what goes on: all but the objects of S; tuples and locked things always -/
structure Adv (S : List Addr) (H H' : Hp) : Prop where
  keep : ∀ a o, a ∉ S → H a = some o → H' a = some o
  tup : ∀ a xs, H a = some (.tup xs) → H' a = some (.tup xs)
theorem Adv.refl (S : List Addr) (H : Hp) : Adv S H H := ⟨fun _ _ _ h => h, fun _ _ h => h⟩
theorem Adv.trans {S : List Addr} {H H1 H2 : Hp} (a : Adv S H H1) (b : Adv S H1 H2) : Adv S H H2 := ⟨fun c o n h => b.keep c o n (a.keep c o n h), fun c xs h => b.tup c xs (a.tup c xs h)⟩
theorem Adv.mono {S S' : List Addr} {H H' : Hp} (a : Adv S H H') (h : ∀ b ∈ S, b ∈ S') : Adv S' H H' := ⟨fun c o n q => a.keep c o (fun m => n (h c m)) q, a.tup⟩
theorem Adv.any {S : List Addr} {H H' : Hp} (a : Adv [] H H') : Adv S H H' := a.mono fun _ h => nomatch h
theorem Adv.new {H : Hp} {p : Addr} {o : HO} (h : H p = none) : Adv [] H (upd H p o) :=
  ⟨fun a u _ e => by rw [upd_ne (ne_of_none e h)]; exact e, fun a xs e => by rw [upd_ne (ne_of_none e h)]; exact e⟩
/-- an object that is no tuple is changed -/
theorem Adv.set {H : Hp} {f : Addr} {o u : HO} (e : H f = some u) (nt : ∀ xs, u ≠ .tup xs) : Adv [f] H (upd H f o) :=
  ⟨fun a v n q => by rw [upd_ne (fun z => n (by rw [z]; exact List.mem_singleton.mpr rfl))]; exact q, fun a xs q => by rw [upd_ne (ne_of q e (nt xs).symm)]; exact q⟩
theorem Adv.lst {H : Hp} {f : Addr} {o : HO} {ys : List V} (e : H f = some (.lst ys)) : Adv [f] H (upd H f o) := Adv.set e (fun _ z => by cases z)
theorem Adv.dct {H : Hp} {f : Addr} {o : HO} {ys : List (Key × V)} (e : H f = some (.dK ys)) : Adv [f] H (upd H f o) := Adv.set e (fun _ z => by cases z)
/-- what H does not know yet need not be named -/
theorem Adv.drop {S : List Addr} {f : Addr} {H H' : Hp} (a : Adv (f :: S) H H') (h : H f = none) : Adv S H H' :=
  ⟨fun b o n e => a.keep b o (fun m => by
    rcases List.mem_cons.mp m with z | z
    · rw [z] at e; rw [h] at e; cases e
    · exact n z) e, a.tup⟩
/-- f is new, the rest goes on, f is changed -/
theorem Adv.mut {S : List Addr} {f : Addr} {H H' : Hp} {o u : HO} (a : Adv S H H') (h : H f = none) (e : H' f = some u) (nt : ∀ xs, u ≠ .tup xs) : Adv S H (upd H' f o) :=
  ⟨fun b v n q => by rw [upd_ne (ne_of_none q h)]; exact a.keep b v n q, fun b xs q => by rw [upd_ne (ne_of_none q h)]; exact a.tup b xs q⟩
theorem Adv.free {S : List Addr} {H H' : Hp} {p : Addr} (a : Adv S H H') (hS : p ∉ S) (h : H' p = none) : H p = none := by
  cases q : H p with
  | none => rfl
  | some o =>
    rw [a.keep p o hS q] at h
    cases h
section
variable {K : PySem.W.Frag} {S : List Addr} {H H' : Hp} {a : Addr} {xs : List V}
theorem Adv.sqt (e : Adv S H H') (hf : ∀ o u, H a = some (.frz o u) → a ∉ S) (h : SqT K H a xs) : SqT K H' a xs := by
  rcases h with (h | ⟨o, h⟩) | h
  · exact .inl (.inl (e.tup _ _ h))
  · exact .inl (.inr ⟨o, e.keep _ _ (hf _ _ h) h⟩)
  · exact .inr h
theorem Adv.sql (e : Adv S H H') (hn : a ∉ S) (h : SqL K H a xs) : SqL K H' a xs := by
  rcases h with (h | ⟨o, h⟩) | h
  · exact .inl (.inl (e.keep _ _ hn h))
  · exact .inl (.inr ⟨o, e.keep _ _ hn h⟩)
  · exact .inr h
end
theorem w_new {H : Hp} {o : HO} {Q : V → Hp → Prop} (h : ∀ p H', H p = none → Adv [] H H' → H' p = some o → Q (.ref p) H') : ∀ p, H p = none → Q (.ref p) (upd H p o) := fun p hp => h p _ hp (Adv.new hp) upd_same

/-! ### the law's state at st: six places, the fifth the cells at cs -/
def StOk (st cs : Addr) (H : Hp) : Prop := ∃ (s0 s1 s2 s3 s5 : Int) (ns : List Int),
  H st = some (.lst [.int s0, .int s1, .int s2, .int s3, .ref cs, .int s5]) ∧ 0 ≤ s1 ∧ cs ≠ st ∧ H cs = some (.lst (ns.map V.int)) ∧ ns.length ≤ 63
/-- a new object is neither -/
theorem StOk.ne {st cs p : Addr} {H : Hp} (h : StOk st cs H) (hp : H p = none) : p ≠ st ∧ p ≠ cs := by
  obtain ⟨_, _, _, _, _, _, h1, _, _, h2, _⟩ := h
  exact ⟨(ne_of_none h1 hp).symm, (ne_of_none h2 hp).symm⟩
theorem StOk.keep {st cs : Addr} {H H' : Hp} {S : List Addr} (h : StOk st cs H) (e : Adv S H H') (h1 : st ∉ S) (h2 : cs ∉ S) : StOk st cs H' := by
  obtain ⟨s0, s1, s2, s3, s5, ns, a, b, c, d, l⟩ := h
  exact ⟨s0, s1, s2, s3, s5, ns, e.keep _ _ h1 a, b, c, e.keep _ _ h2 d, l⟩
/-- the run goes on: the state alone is changed -/
structure Go (st cs : Addr) (H H' : Hp) : Prop where
  adv : Adv [st] H H'
  ok : StOk st cs H'
theorem Go.refl {st cs : Addr} {H : Hp} (h : StOk st cs H) : Go st cs H H := ⟨.refl _ _, h⟩
theorem Go.trans {st cs : Addr} {H H1 H2 : Hp} (a : Go st cs H H1) (b : Go st cs H1 H2) : Go st cs H H2 := ⟨a.adv.trans b.adv, b.ok⟩
theorem Go.of {st cs : Addr} {H H' : Hp} (h : StOk st cs H) (e : Adv [] H H') : Go st cs H H' := ⟨e.any, h.keep e (fun z => nomatch z) fun z => nomatch z⟩
theorem Go.new {st cs : Addr} {H H' : Hp} (a : Go st cs H H') {H2 : Hp} (e : Adv [] H' H2) : Go st cs H H2 := a.trans (.of a.ok e)
theorem Go.mut {st cs f : Addr} {H H' : Hp} {o u : HO} (a : Go st cs H H') (h : H f = none) (e : H' f = some u) (nt : ∀ xs, u ≠ .tup xs) (n1 : f ≠ st) (n2 : f ≠ cs) : Go st cs H (upd H' f o) :=
  ⟨a.adv.mut h e nt, a.ok.keep (Adv.set e nt) (fun z => n1 (List.mem_singleton.mp z).symm) fun z => n2 (List.mem_singleton.mp z).symm⟩
theorem Go.mutL {st cs f : Addr} {H H' : Hp} {o : HO} {xs : List V} (a : Go st cs H H') (hs : StOk st cs H) (h : H f = none) (e : H' f = some (.lst xs)) : Go st cs H (upd H' f o) :=
  a.mut h e (fun _ z => by cases z) (hs.ne h).1 (hs.ne h).2
theorem Go.mutD {st cs f : Addr} {H H' : Hp} {o : HO} {xs : List (Key × V)} (a : Go st cs H H') (hs : StOk st cs H) (h : H f = none) (e : H' f = some (.dK xs)) : Go st cs H (upd H' f o) :=
  a.mut h e (fun _ z => by cases z) (hs.ne h).1 (hs.ne h).2
theorem Go.keep {st cs a : Addr} {H H' : Hp} {o : HO} (g : Go st cs H H') (n : a ≠ st) (h : H a = some o) : H' a = some o := g.adv.keep a o (fun z => n (List.mem_singleton.mp z)) h
theorem Go.sql {st cs a : Addr} {K : PySem.W.Frag} {H H' : Hp} {xs : List V} (g : Go st cs H H') (n : a ≠ st) (h : SqL K H a xs) : SqL K H' a xs := g.adv.sql (fun z => n (List.mem_singleton.mp z)) h
theorem Go.free {st cs p : Addr} {H H' : Hp} (g : Go st cs H H') (hs : StOk st cs H) (h : H' p = none) : H p = none := g.adv.free (fun z => (g.ok.ne h).1 (List.mem_singleton.mp z)) h
/-- what stands at st is a list: a tuple stands elsewhere -/
theorem StOk.notT {st cs a : Addr} {H : Hp} {xs : List V} (h : StOk st cs H) (e : H a = some (.tup xs)) : a ≠ st := by
  obtain ⟨_, _, _, _, _, _, h1, _⟩ := h
  exact ne_of e h1 (fun z => by cases z)
end AW
/-! one step of a reading at a time -/
namespace AW
open PySem PySem.Spec PyProof.Rows L2
section
variable {σ : L2.St} {H : Hp} {Q : VK} {ta tb te : TE} {t u : TT} {D : Ends} {t1 t2 : TS} {K : PySem.W.Frag}
theorem w_var {i : Nat} {v : V} (h : σ[i]? = some (some v)) (q : Q v H) : tVar i σ H Q := ⟨v, h, q⟩
theorem w_c {v : V} (q : Q v H) : tC v σ H Q := q
theorem w_op {r : R2} (h : ta σ H fun x H1 => tb σ H1 fun y H2 => r x y H2 Q) : tOp r ta tb σ H Q := h
theorem w_un {r : V → Hp → VK → Prop} (h : ta σ H fun x H1 => r x H1 Q) : tUn r ta σ H Q := h
theorem w_I0 {g : Int → Int → V} {i j : Int} (q : Q (g i j) H) : rI0 g (.int i) (.int j) H Q := ⟨i, j, rfl, rfl, q⟩
theorem w_I {C : Int → Int → Prop} {g : Int → Int → V} {i j : Int} (c : C i j) (q : Q (g i j) H) : rI C g (.int i) (.int j) H Q := ⟨i, j, rfl, rfl, c, q⟩
theorem w_U {g : Int → V} {i : Int} (q : Q (g i) H) : rU g (.int i) H Q := ⟨i, rfl, q⟩
theorem w_cb {r : List V → Hp → VK → Prop} {a : TA} (h : a σ H fun vs H1 => r vs H1 Q) : tCB r a σ H Q := h
theorem w_nil {Q : List V → Hp → Prop} (q : Q [] H) : tNil σ H Q := q
theorem w_cons {Q : List V → Hp → Prop} {a : TA} (h : ta σ H fun x H1 => a σ H1 fun xs H2 => Q (x :: xs) H2) : tCons ta a σ H Q := h
theorem w_call {sp : Sp} {E : XK} {a : TA} (h : a σ H fun vs H1 => sp vs H1 Q E) : tCall sp [] E a σ H Q := by
  show a σ H fun vs H1 => sp (vs ++ []) H1 Q E
  have e : (fun (vs : List V) (H1 : Hp) => sp (vs ++ []) H1 Q E) = fun vs H1 => sp vs H1 Q E := by
    funext vs H1
    rw [List.append_nil]
  rw [e]
  exact h
theorem w_test {Q : Bool → Hp → Prop} (h : te σ H fun x H1 => ∃ k, x = .bl k ∧ Q k H1) : tTest te σ H Q := h
theorem w_B {Q : Bool → Hp → Prop} (h : te σ H fun x H1 => ∃ k, x = .bl k ∧ Q k H1) : tB te σ H Q := h
theorem w_bl {k : Bool} {P : Bool → Prop} (q : P k) : ∃ k', V.bl k = .bl k' ∧ P k' := ⟨k, rfl, q⟩
theorem w_yes {Q : Bool → Hp → Prop} (q : Q true H) : tYes σ H Q := q
theorem w_not {Q : Bool → Hp → Prop} (h : t σ H fun c H1 => Q (!c) H1) : tNot t σ H Q := h
theorem w_and {Q : Bool → Hp → Prop} (h : t σ H fun c H1 => if c = true then u σ H1 Q else Q false H1) : tAnd t u σ H Q := h
theorem w_or {Q : Bool → Hp → Prop} (h : t σ H fun c H1 => if c = true then Q true H1 else u σ H1 Q) : tOr t u σ H Q := h
theorem w_andV (h : ta σ H fun x H1 => ∃ c, x = .bl c ∧ if c = true then tb σ H1 Q else Q (.bl false) H1) : tAndV ta tb σ H Q := h
theorem w_orV (h : ta σ H fun x H1 => ∃ c, x = .bl c ∧ if c = true then Q (.bl true) H1 else tb σ H1 Q) : tOrV ta tb σ H Q := h
theorem w_notV (h : ta σ H fun x H1 => ∃ c, x = .bl c ∧ Q (.bl (!c)) H1) : tNotV ta σ H Q := h
theorem w_if (h : t σ H fun c H1 => if c = true then ta σ H1 Q else tb σ H1 Q) : tIf t ta tb σ H Q := h
def kTupD (xs : List V) (H : Hp) (Q : VK) : Prop := xs.length ≤ sizeLine ∧ ∀ p, H p = none → Q (.ref p) (upd H p (.tup xs))
theorem w_tup {a : TA} (h : a σ H fun xs H1 => kTupD xs H1 Q) : tTup a σ H Q := h
def kLstD (xs : List V) (H : Hp) (Q : VK) : Prop := xs.length ≤ sizeLine ∧ ∀ p, H p = none → Q (.ref p) (upd H p (.lst xs))
theorem w_lst {a : TA} (h : a σ H fun xs H1 => kLstD xs H1 Q) : tLst a σ H Q := h
theorem w_int1 {i : Int} (q : Q (.int i) H) : rInt1 [.int i] H Q := .inl ⟨i, rfl, q⟩
theorem w_int1b {k : Bool} (q : Q (.int (if k then 1 else 0)) H) : rInt1 [.bl k] H Q := .inr ⟨k, rfl, q⟩
theorem w_abs {i : Int} (q : Q (.int (if i < 0 then -i else i)) H) : rAbs [.int i] H Q := ⟨i, rfl, q⟩
theorem w_max2 {i j : Int} (q : Q (.int (if j > i then j else i)) H) : rMax2 [.int i, .int j] H Q := ⟨i, j, rfl, q⟩
theorem w_min2 {i j : Int} (q : Q (.int (if j < i then j else i)) H) : rMin2 [.int i, .int j] H Q := ⟨i, j, rfl, q⟩
theorem w_eq {x y : V} (h : scal x y = true) (q : Q (.bl (decide (x = y))) H) : rEq x y H Q := ⟨h, q⟩
theorem w_ne {x y : V} (h : scal x y = true) (q : Q (.bl (!decide (x = y))) H) : rNe x y H Q := ⟨h, q⟩
theorem w_isN {x : V} (q : Q (.bl (decide (x = .non))) H) : rIsN x .non H Q := ⟨rfl, q⟩
theorem w_isB {a b : Bool} (q : Q (.bl (decide (a = b))) H) : rIsB (.bl a) (.bl b) H Q := ⟨a, b, rfl, rfl, q⟩
theorem w_chain {r r' : R2} {tc : TE} (h : ta σ H fun x H1 => tb σ H1 fun y H2 => r x y H2 fun z H3 => ∃ k, z = .bl k ∧ (if k = true then tc σ H3 fun w' H4 => r' y w' H4 Q else Q (.bl false) H3)) : tChain r r' ta tb tc σ H Q := h
/-- a list's item at a place -/
theorem w_ixL {p : Addr} {xs : List V} {i : Int} {v : V} (h : SqL K H p xs) (e : atI xs i = some v) (q : Q v H) : rIxL K (.ref p) (.int i) H Q := ⟨p, xs, i, v, rfl, rfl, h, e, q⟩
theorem w_ixT {p : Addr} {xs : List V} {i : Int} {v : V} (h : SqT K H p xs) (e : atI xs i = some v) (q : Q v H) : rIxT K (.ref p) (.int i) H Q := ⟨p, xs, i, v, rfl, rfl, h, e, q⟩
theorem w_lenL {p : Addr} {xs : List V} (h : SqL K H p xs) (q : Q (.int (xs.length : Nat)) H) : rLen1 K [.ref p] H Q := ⟨.ref p, xs.length, rfl, .inl ⟨xs, h, rfl⟩, q⟩
theorem w_lenT {p : Addr} {xs : List V} (h : SqT K H p xs) (q : Q (.int (xs.length : Nat)) H) : rLen1 K [.ref p] H Q := ⟨.ref p, xs.length, rfl, .inr ⟨xs, h, rfl⟩, q⟩
/-! statements -/
theorem w_seq (h : t1 { D with nx := t2 D } σ H) : tSeq t1 t2 D σ H := h
theorem w_next (q : D.nx σ H) : tNext D σ H := q
theorem w_ret (h : te σ H D.rt) : tRet te D σ H := h
theorem w_drop (h : te σ H fun _ H1 => D.nx σ H1) : tDrop te D σ H := h
theorem w_asg {g : TG} (h : te σ H fun x H1 => g x σ H1 D.nx) : tAsg te g D σ H := h
theorem w_gname {i : Nat} {v : V} {Q : L2.St → Hp → Prop} (q : Q (σ.set i (some v)) H) : gName i v σ H Q := q
theorem w_ifS (h : t σ H fun b H1 => if b = true then t1 D σ H1 else t2 D σ H1) : tIfS t t1 t2 D σ H := h
theorem w_gsub {s : TSet} {v : V} {Q : L2.St → Hp → Prop} (h : ta σ H fun o H1 => tb σ H1 fun i H2 => s o i v H2 fun H3 => Q σ H3) : gSub ta tb s v σ H Q := h
theorem w_setL {p : Addr} {xs : List V} {k : Int} {j : Nat} {v : V} {Q : Hp → Prop} (h : H p = some (.lst xs)) (e : ixN xs.length k = some j) (q : Q (upd H p (.lst (xs.set j v)))) : rSetL (.ref p) (.int k) v H Q := ⟨p, xs, k, j, rfl, rfl, h, e, q⟩
theorem w_augS {to ti : TE} {tget : V → V → Hp → VK → Prop} {tip : TIp} {tset : TSet} (h : to σ H fun o H1 => ti σ H1 fun i H2 => tget o i H2 fun x H3 => te σ H3 fun y H4 => tip x y H4 fun z H5 => tset o i z H5 fun H6 => D.nx σ H6) : tAugS to ti te tget tip tset D σ H := h
theorem w_ipI {f : Int → Int → Int} {i j : Int} (q : Q (.int (f i j)) H) : ipI f (.int i) (.int j) H Q := ⟨i, j, rfl, rfl, q⟩
theorem w_ite {c A B : Prop} [Decidable c] (h1 : c → A) (h2 : ¬c → B) : if c then A else B := ite2 h1 h2
theorem w_iteB {c : Prop} [Decidable c] {A B : Prop} (h1 : c → A) (h2 : ¬c → B) : if (decide c) = true then A else B := ite2 (fun h => h1 (of_decide_eq_true h)) fun h => h2 fun z => h (decide_eq_true z)
theorem w_iteNB {c : Prop} [Decidable c] {A B : Prop} (h1 : ¬c → A) (h2 : c → B) : if (!decide c) = true then A else B := ite2 (fun h => h1 fun z => by rw [decide_eq_true z] at h; cases h) fun h => h2 (Classical.byContradiction fun z => h (by rw [decide_eq_false z]; rfl))
/-! slices, lists joined, append -/
theorem w_sl {r : V → Option Int → Option Int → Hp → VK → Prop} {tl th : TO} (h : te σ H fun x H1 => tl σ H1 fun l H2 => th σ H2 fun u H3 => r x l u H3 Q) : tSl r te tl th σ H Q := h
theorem w_part {Q : Option Int → Hp → Prop} (h : te σ H fun x H1 => ∃ i, x = .int i ∧ Q (some i) H1) : tPart te σ H Q := h
theorem w_noPart {Q : Option Int → Hp → Prop} (q : Q none H) : tNoPart σ H Q := q
theorem w_in {i : Int} {P : Int → Prop} (q : P i) : ∃ k, V.int i = .int k ∧ P k := ⟨i, rfl, q⟩
theorem w_slL {p : Addr} {xs : List V} {lo hi : Option Int} (h : SqL K H p xs) (q : ∀ r H', H r = none → Adv [] H H' → H' r = some (.lst (cutV xs lo hi)) → Q (.ref r) H') : rSlL K (.ref p) lo hi H Q := ⟨p, xs, rfl, h, w_new q⟩
theorem w_cat {a b : Addr} {xs ys : List V} (h1 : H a = some (.lst xs)) (h2 : H b = some (.lst ys)) (hz : xs.length + ys.length ≤ 100000) (q : ∀ r H', H r = none → Adv [] H H' → H' r = some (.lst (xs ++ ys)) → Q (.ref r) H') : rCat (.ref a) (.ref b) H Q :=
  ⟨a, b, xs, ys, rfl, rfl, h1, h2, Nat.le_trans hz (by decide), w_new q⟩
theorem w_listOf {p : Addr} {xs : List V} (h : SqL K H p xs ∨ SqT K H p xs) (q : ∀ r H', H r = none → Adv [] H H' → H' r = some (.lst xs) → Q (.ref r) H') : rListOf K [.ref p] H Q := ⟨p, xs, rfl, h, w_new q⟩
theorem w_app {i : Nat} {l : Addr} {xs0 : List V} {a : TA} (hσ : σ[i]? = some (some (.ref l))) (h0 : H l = some (.lst xs0)) (h : a σ H fun vs H2 => rAppend (.ref l) vs H2 Q) : tBM K "list" rAppend (tVar i) a σ H Q :=
  ⟨.ref l, hσ, .inl ⟨rfl, xs0, SqL.of h0⟩, h⟩
theorem w_append {l : Addr} {xs : List V} {y : V} (h : H l = some (.lst xs)) (hz : xs.length < 100000) (q : Q .non (upd H l (.lst (xs ++ [y])))) : rAppend (.ref l) [y] H Q :=
  ⟨l, xs, y, rfl, rfl, h, Nat.lt_of_lt_of_le hz (by decide), q⟩
theorem w_lstD {xs : List V} (hz : xs.length ≤ 100000) (q : ∀ r H', H r = none → Adv [] H H' → H' r = some (.lst xs) → Q (.ref r) H') : kLstD xs H Q := ⟨Nat.le_trans hz (by decide), w_new q⟩
theorem w_tupD {xs : List V} (hz : xs.length ≤ 100000) (q : ∀ r H', H r = none → Adv [] H H' → H' r = some (.tup xs) → Q (.ref r) H') : kTupD xs H Q := ⟨Nat.le_trans hz (by decide), w_new q⟩
/-! loops -/
def kFor (J : It) (g : TG) (tb : TS) (D : Ends) (σ : L2.St) (H1 : Hp) : Prop := ∃ W : Nat → Nat → L2.St → Hp → Prop, (∃ m, W 0 m σ H1) ∧ ∀ i m σ H, W i m σ H →
  (J.stop i H ∧ D.nx σ H) ∨ (J.go i H ∧ ∃ N : L2.St → Hp → Prop, (∀ σ' H', N σ' H' → ∃ m', m' < m ∧ W (i + 1) m' σ' H') ∧ ∀ v H', J.yld i H v H' → g v σ H' fun σ2 H2 => tb { D with nx := N, ct := N, bk := D.nx } σ2 H2)
def kForR (g : TG) (tb : TS) (D : Ends) (σ : L2.St) (vs : List V) (H1 : Hp) : Prop := ∃ j : Int, vs = [.int j] ∧ -(2 ^ 62) ≤ j ∧ j < 2 ^ 62 ∧ kFor (Itr 0 j.toNat) g tb D σ H1
theorem w_forR {a : TA} {g : TG} {tb : TS} (h : a σ H (kForR g tb D σ)) : tFor (iRng1 a) g tb D σ H := h
theorem kForR_i {n : Nat} {j : Nat} {tb : TS} (hn : n ≤ 1000000) (Pv : Nat → L2.St → Hp → Prop) (h0 : Pv 0 σ H) (hs : ∀ i σ' H', i < n → Pv i σ' H' → tb { D with nx := Pv (i + 1), ct := Pv (i + 1), bk := D.nx } (σ'.set j (some (.int (i : Nat)))) H')
    (hd : ∀ σ' H', Pv n σ' H' → D.nx σ' H') : kForR (gName j) tb D σ [.int (n : Nat)] H := by
  refine ⟨n, rfl, by omega, by omega, ?_⟩
  have e : ((n : Nat) : Int).toNat = n := by omega
  rw [e]
  refine for_range (lo := 0) (n := n) Pv h0 (fun i σ' H' hi p => ?_) hd
  show tb { D with nx := Pv (i + 1), ct := Pv (i + 1), bk := D.nx } (σ'.set j (some (.int ((0 : Int) + (i : Nat))))) H'
  rw [Int.zero_add]
  exact hs i σ' H' hi p
def kForR2 (g : TG) (tb : TS) (D : Ends) (σ : L2.St) (vs : List V) (H1 : Hp) : Prop := ∃ i j : Int, vs = [.int i, .int j] ∧ (-(2 ^ 62) ≤ i ∧ i < 2 ^ 62 ∧ -(2 ^ 62) ≤ j ∧ j < 2 ^ 62) ∧ kFor (Itr i (j - i).toNat) g tb D σ H1
theorem w_forR2 {a : TA} {g : TG} {tb : TS} (h : a σ H (kForR2 g tb D σ)) : tFor (iRng2 a) g tb D σ H := h
theorem kForR2_i {lo hi : Int} {j : Nat} {tb : TS} (h1 : -1000000 ≤ lo ∧ lo ≤ 1000000) (h2 : -1000000 ≤ hi ∧ hi ≤ 1000000) (Pv : Nat → L2.St → Hp → Prop) (h0 : Pv 0 σ H)
    (hs : ∀ i σ' H', i < (hi - lo).toNat → Pv i σ' H' → tb { D with nx := Pv (i + 1), ct := Pv (i + 1), bk := D.nx } (σ'.set j (some (.int (lo + (i : Nat))))) H') (hd : ∀ σ' H', Pv (hi - lo).toNat σ' H' → D.nx σ' H') : kForR2 (gName j) tb D σ [.int lo, .int hi] H :=
  ⟨lo, hi, rfl, ⟨by omega, by omega, by omega, by omega⟩, for_range (lo := lo) (n := (hi - lo).toNat) Pv h0 (fun i σ' H' hi p => hs i σ' H' hi p) hd⟩
def kForL (K : PySem.W.Frag) (g : TG) (tb : TS) (D : Ends) (σ : L2.St) (x : V) (H1 : Hp) : Prop := ∃ a, x = .ref a ∧ (∃ xs, SqL K H1 a xs) ∧ kFor (Itl K a) g tb D σ H1
theorem w_forL {tl : TE} {g : TG} {tb : TS} (h : tl σ H (kForL K g tb D σ)) : tFor (iList K tl) g tb D σ H := h
theorem kForL_i {p : Addr} {xs : List V} {g : TG} {tb : TS} (Pv : Nat → L2.St → Hp → Prop) (hp : SqL K H p xs) (h0 : Pv 0 σ H) (hl : ∀ i σ' H', i ≤ xs.length → Pv i σ' H' → SqL K H' p xs)
    (hs : ∀ i v σ' H', xs[i]? = some v → Pv i σ' H' → g v σ' H' fun σ2 H2 => tb { D with nx := Pv (i + 1), ct := Pv (i + 1), bk := D.nx } σ2 H2) (hd : ∀ σ' H', Pv xs.length σ' H' → D.nx σ' H') : kForL K g tb D σ (.ref p) H :=
  ⟨p, rfl, ⟨xs, hp⟩, for_list Pv h0 hl hs hd⟩
def kForT (K : PySem.W.Frag) (g : TG) (tb : TS) (D : Ends) (σ : L2.St) (x : V) (H1 : Hp) : Prop := ∃ a, x = .ref a ∧ (∃ xs, SqT K H1 a xs) ∧ kFor (Itt K a) g tb D σ H1
theorem w_forT {tl : TE} {g : TG} {tb : TS} (h : tl σ H (kForT K g tb D σ)) : tFor (iTup K tl) g tb D σ H := h
theorem kForT_i {p : Addr} {xs : List V} {g : TG} {tb : TS} (Pv : Nat → L2.St → Hp → Prop) (hp : SqT K H p xs) (h0 : Pv 0 σ H) (hl : ∀ i σ' H', i ≤ xs.length → Pv i σ' H' → SqT K H' p xs)
    (hs : ∀ i v σ' H', xs[i]? = some v → Pv i σ' H' → g v σ' H' fun σ2 H2 => tb { D with nx := Pv (i + 1), ct := Pv (i + 1), bk := D.nx } σ2 H2) (hd : ∀ σ' H', Pv xs.length σ' H' → D.nx σ' H') : kForT K g tb D σ (.ref p) H :=
  ⟨p, rfl, ⟨xs, hp⟩, for_tup Pv h0 hl hs hd⟩
/-! comprehensions -/
def kLc (J : It) (g : TG) (tt : TT) (te : TE) (vs : List Nat) (σ : L2.St) (Q : VK) (H1 : Hp) : Prop := ∀ D, H1 D = none → ∃ W : Nat → Nat → Hp → Prop, (∃ m, W 0 m (upd H1 D (.lst []))) ∧ ∀ i m H, W i m H →
  (J.stop i H ∧ Q (.ref D) H) ∨ (J.go i H ∧ ∃ Nx : Hp → Prop, (∀ H', Nx H' → ∃ m', m' < m ∧ W (i + 1) m' H') ∧ ∀ x H', J.yld i H x H' → g x (wipe σ vs) H' fun σ2 H2 => wipe σ2 vs = wipe σ vs ∧ tt σ2 H2 fun b H3 =>
    if b = true then te σ2 H3 fun y H4 => ∃ acc, H4 D = some (.lst acc) ∧ acc.length < sizeLine ∧ Nx (upd H4 D (.lst (acc ++ [y]))) else Nx H3)
def kLcR (g : TG) (tt : TT) (te : TE) (vs : List Nat) (σ : L2.St) (Q : VK) (ws : List V) (H1 : Hp) : Prop := ∃ j : Int, ws = [.int j] ∧ -(2 ^ 62) ≤ j ∧ j < 2 ^ 62 ∧ kLc (Itr 0 j.toNat) g tt te vs σ Q H1
def kLcL (K : PySem.W.Frag) (g : TG) (tt : TT) (te : TE) (vs : List Nat) (σ : L2.St) (Q : VK) (x : V) (H1 : Hp) : Prop := ∃ a, x = .ref a ∧ (∃ xs, SqL K H1 a xs) ∧ kLc (Itl K a) g tt te vs σ Q H1
def kLcT (K : PySem.W.Frag) (g : TG) (tt : TT) (te : TE) (vs : List Nat) (σ : L2.St) (Q : VK) (x : V) (H1 : Hp) : Prop := ∃ a, x = .ref a ∧ (∃ xs, SqT K H1 a xs) ∧ kLc (Itt K a) g tt te vs σ Q H1
theorem w_lcR {a : TA} {g : TG} {vs : List Nat} (h : a σ H (kLcR g t te vs σ Q)) : tLc (iRng1 a) g t te vs σ H Q := h
theorem w_lcL {tl : TE} {g : TG} {vs : List Nat} (h : tl σ H (kLcL K g t te vs σ Q)) : tLc (iList K tl) g t te vs σ H Q := h
theorem w_lcT {tl : TE} {g : TG} {vs : List Nat} (h : tl σ H (kLcT K g t te vs σ Q)) : tLc (iTup K tl) g t te vs σ H Q := h
/-- a list is made, turn by turn, while the run goes on: R tells of each item that is given, at the places that are taken -/
structure Mk (st cs : Addr) (H0 : Hp) (R : Nat → V → Hp → Prop) (l : Addr) (i : Nat) (H : Hp) : Prop where
  go : Go st cs H0 H
  new : H0 l = none
  ok0 : StOk st cs H0
  at_ : ∃ (ks : List Nat) (ys : List V), H l = some (.lst ys) ∧ ks.length = ys.length ∧ ks.Pairwise (· < ·) ∧ (∀ k ∈ ks, k < i) ∧ ∀ (m : Nat) k v, ks[m]? = some k → ys[m]? = some v → R k v H
end
end AW
/-! data that stand in tuples; lists made by comprehensions while the run goes on -/
namespace AW
open PySem PySem.Spec PyProof.Rows L2

/-- tuples are kept -/
def TK (H H' : Hp) : Prop := ∀ a xs, H a = some (.tup xs) → H' a = some (.tup xs)
theorem TK.refl (H : Hp) : TK H H := fun _ _ h => h
theorem TK.trans {H H1 H2 : Hp} (a : TK H H1) (b : TK H1 H2) : TK H H2 := fun c xs h => b c xs (a c xs h)
theorem Go.tk {st cs : Addr} {H H' : Hp} (g : Go st cs H H') : TK H H' := g.adv.tup
mutual
/-- the value stands for the datum: scalars, and tuples of such -/
inductive Is (H : Hp) : PyData → V → Prop where
  | non : Is H .none .non
  | bl (b : Bool) : Is H (.bool b) (.bl b)
  | int (i : Int) : Is H (.int i) (.int i)
  | str (x : Str) : Is H (.str x) (.str x)
  | tup {a : Addr} {xs : List V} {ds : List PyData} : H a = some (.tup xs) → IsAll H ds xs → Is H (.tuple ds) (.ref a)
inductive IsAll (H : Hp) : List PyData → List V → Prop where
  | nil : IsAll H [] []
  | cons {d : PyData} {ds : List PyData} {v : V} {vs : List V} : Is H d v → IsAll H ds vs → IsAll H (d :: ds) (v :: vs)
end
mutual
theorem Is.up {H H' : Hp} (k : TK H H') : ∀ {d : PyData} {v : V}, Is H d v → Is H' d v
  | _, _, .non => .non
  | _, _, .bl b => .bl b
  | _, _, .int i => .int i
  | _, _, .str x => .str x
  | _, _, .tup e h => .tup (k _ _ e) (IsAll.up k h)
theorem IsAll.up {H H' : Hp} (k : TK H H') : ∀ {ds : List PyData} {vs : List V}, IsAll H ds vs → IsAll H' ds vs
  | _, _, .nil => .nil
  | _, _, .cons h t => .cons (Is.up k h) (IsAll.up k t)
end
mutual
theorem Is.dp {K : PySem.W.Frag} {H : Hp} : ∀ {d : PyData} {v : V}, Is H d v → Dp K H v d
  | _, _, .non => .non
  | _, _, .bl b => .bl b
  | _, _, .int i => .int i
  | _, _, .str x => .str x
  | _, _, .tup e h => .tup (SqT.of e) (IsAll.dp h)
theorem IsAll.dp {K : PySem.W.Frag} {H : Hp} : ∀ {ds : List PyData} {vs : List V}, IsAll H ds vs → DpAll K H vs ds
  | _, _, .nil => .nil
  | _, _, .cons h t => .cons (Is.dp h) (IsAll.dp t)
end
theorem IsAll.length {H : Hp} : ∀ {ds : List PyData} {vs : List V}, IsAll H ds vs → vs.length = ds.length
  | _, _, .nil => rfl
  | _, _, .cons _ t => congrArg (· + 1) t.length
theorem IsAll.get {H : Hp} : ∀ {ds : List PyData} {vs : List V} {i : Nat} {v : V}, IsAll H ds vs → vs[i]? = some v → ∃ d, ds[i]? = some d ∧ Is H d v
  | _, _, _, _, .nil, e => by simp at e
  | _, _, 0, _, .cons h _, e => by
    simp at e
    subst e
    exact ⟨_, rfl, h⟩
  | _, _, i + 1, v, .cons _ t, e => by
    obtain ⟨d, h1, h2⟩ := IsAll.get (i := i) (v := v) t (by simpa using e)
    exact ⟨d, by simpa using h1, h2⟩
theorem IsAll.get' {H : Hp} : ∀ {ds : List PyData} {vs : List V} {i : Nat} {d : PyData}, IsAll H ds vs → ds[i]? = some d → ∃ v, vs[i]? = some v ∧ Is H d v
  | _, _, _, _, .nil, e => by simp at e
  | _, _, 0, _, .cons h _, e => by
    simp at e
    subst e
    exact ⟨_, rfl, h⟩
  | _, _, i + 1, d, .cons _ t, e => by
    obtain ⟨v, h1, h2⟩ := IsAll.get' (i := i) (d := d) t (by simpa using e)
    exact ⟨v, by simpa using h1, h2⟩
theorem IsAll.of {H : Hp} : ∀ (ds : List PyData) (vs : List V), vs.length = ds.length → (∀ (i : Nat) d v, ds[i]? = some d → vs[i]? = some v → Is H d v) → IsAll H ds vs
  | [], [], _, _ => .nil
  | d :: ds, v :: vs, hl, h => .cons (h 0 d v rfl rfl) (IsAll.of ds vs (Nat.succ.inj hl) fun i d' v' h1 h2 => h (i + 1) d' v' (by simpa using h1) (by simpa using h2))
  | [], _ :: _, hl, _ => by simp at hl
  | _ :: _, [], hl, _ => by simp at hl
theorem IsAll.append {H : Hp} : ∀ {ds es : List PyData} {vs ws : List V}, IsAll H ds vs → IsAll H es ws → IsAll H (ds ++ es) (vs ++ ws)
  | _, _, _, _, .nil, h => h
  | _, _, _, _, .cons a t, h => .cons a (IsAll.append t h)
theorem IsAll.ints {H : Hp} : ∀ (ns : List Int), IsAll H (ns.map .int) (ns.map V.int)
  | [] => .nil
  | n :: ns => .cons (.int n) (IsAll.ints ns)
theorem IsAll.strs {H : Hp} : ∀ (ns : List Str), IsAll H (ns.map .str) (ns.map V.str)
  | [] => .nil
  | n :: ns => .cons (.str n) (IsAll.strs ns)
theorem IsAll.ints_inv {H : Hp} : ∀ {ns : List Int} {vs : List V}, IsAll H (ns.map .int) vs → vs = ns.map V.int
  | [], _, .nil => rfl
  | n :: ns, _, .cons h t => by
    cases h
    rw [IsAll.ints_inv t]
    rfl
theorem IsAll.strs_inv {H : Hp} : ∀ {ns : List Str} {vs : List V}, IsAll H (ns.map .str) vs → vs = ns.map V.str
  | [], _, .nil => rfl
  | n :: ns, _, .cons h t => by
    cases h
    rw [IsAll.strs_inv t]
    rfl
theorem Is.int_inv {H : Hp} {n : Int} {v : V} (h : Is H (.int n) v) : v = .int n := by
  cases h
  rfl
theorem Is.str_inv {H : Hp} {n : Str} {v : V} (h : Is H (.str n) v) : v = .str n := by
  cases h
  rfl
theorem Is.tup_inv {H : Hp} {ds : List PyData} {v : V} (h : Is H (.tuple ds) v) : ∃ a xs, v = .ref a ∧ H a = some (.tup xs) ∧ IsAll H ds xs := by
  cases h with
  | tup e t => exact ⟨_, _, rfl, e, t⟩
theorem IsAll.perm {H : Hp} {ds : List PyData} {vs ws : List V} (h : IsAll H ds vs) (p : ws.Perm vs) : ∃ es, es.Perm ds ∧ IsAll H es ws := by
  induction p generalizing ds with
  | nil => cases h; exact ⟨[], .refl _, .nil⟩
  | cons x p ih =>
    cases h with
    | cons a t =>
      obtain ⟨es, h1, h2⟩ := ih t
      exact ⟨_ :: es, h1.cons _, .cons a h2⟩
  | swap x y l =>
    cases h with
    | cons a t =>
      cases t with
      | cons b t => exact ⟨_, List.Perm.swap .., .cons b (.cons a t)⟩
  | trans p q ih1 ih2 =>
    obtain ⟨es, h1, h2⟩ := ih2 h
    obtain ⟨fs, h3, h4⟩ := ih1 h2
    exact ⟨fs, h3.trans h1, h4⟩

section
variable {K : PySem.W.Frag} {st cs : Addr} {J : It} {n : Nat} {G : Hp → Prop} {Y : Nat → Hp → V → Hp → Prop} {g : TG} {tt : TT} {te : TE} {vs : List Nat} {σ : L2.St} {Q : VK} {H1 : Hp}
/-- a comprehension without a test -/
theorem kLc_all (wk : Walk J n G Y) (hn : n ≤ 100000) (ok : StOk st cs H1) (hG : ∀ H', Go st cs H1 H' → G H') (R : Nat → V → Hp → Prop) (mono : ∀ i v H H', TK H H' → R i v H → R i v H')
    (step : ∀ i x H H' (Kt : V → Hp → Prop), i < n → Go st cs H1 H → Y i H x H' → (∀ y H4, Go st cs H H4 → R i y H4 → Kt y H4) → g x (wipe σ vs) H' fun σ2 H2 => wipe σ2 vs = wipe σ vs ∧ te σ2 H2 Kt)
    (k : ∀ p H' ys, H1 p = none → Go st cs H1 H' → H' p = some (.lst ys) → ys.length = n → (∀ (i : Nat) v, ys[i]? = some v → R i v H') → Q (.ref p) H') : kLc J g tYes te vs σ Q H1 := by
  intro D hD
  have nD := ok.ne hD
  refine lc_it wk (fun i H => Go st cs H1 H ∧ ∃ ys, H D = some (.lst ys) ∧ ys.length = i ∧ ∀ (m : Nat) v, ys[m]? = some v → R m v H) ⟨.of ok (Adv.new hD), [], upd_same, rfl, fun m v e => by simp at e⟩ (fun i H _ p => hG H p.1)
    (fun i x H H' hi p y => ?_) fun H p => ?_
  · obtain ⟨g1, ys, e1, hl, hr⟩ := p
    refine step i x H H' _ hi g1 y fun v H4 g4 r4 => ?_
    have e4 : H4 D = some (.lst ys) := g4.keep nD.1 e1
    have t5 : TK H4 (upd H4 D (.lst (ys ++ [v]))) := (Adv.lst e4).tup
    refine ⟨ys, e4, Nat.lt_of_lt_of_le (show ys.length < 100001 by omega) (by decide), (g1.trans g4).mutL ok hD e4, ys ++ [v], upd_same, by rw [List.length_append, hl]; rfl, fun m w e => ?_⟩
    by_cases hm : m < ys.length
    · rw [List.getElem?_append_left hm] at e
      exact mono _ _ _ _ (g4.tk.trans t5) (hr m w e)
    · have hm2 : m = ys.length := by
        have := (List.getElem?_eq_some_iff.mp e).1
        rw [List.length_append] at this
        simp at this
        omega
      subst hm2
      rw [List.getElem?_append_right (Nat.le_refl _), Nat.sub_self] at e
      simp at e
      subst e
      rw [hl]
      exact mono _ _ _ _ t5 r4
  · obtain ⟨g1, ys, e1, hl, hr⟩ := p
    exact k D H ys hD g1 e1 hl hr
/-- a comprehension with a test: ks the places that are taken, in order; F tells of the others -/
theorem kLc_some (wk : Walk J n G Y) (hn : n ≤ 100000) (ok : StOk st cs H1) (hG : ∀ H', Go st cs H1 H' → G H') (R : Nat → V → Hp → Prop) (F : Nat → Prop) (mono : ∀ i v H H', TK H H' → R i v H → R i v H')
    (step : ∀ i x H H' (Kt : V → Hp → Prop) (Kf : Hp → Prop), i < n → Go st cs H1 H → Y i H x H' → (∀ y H4, Go st cs H H4 → R i y H4 → Kt y H4) → (∀ H3, Go st cs H H3 → F i → Kf H3) →
      g x (wipe σ vs) H' fun σ2 H2 => wipe σ2 vs = wipe σ vs ∧ tt σ2 H2 fun b H3 => if b = true then te σ2 H3 Kt else Kf H3)
    (k : ∀ p H' (ks : List Nat) ys, H1 p = none → Go st cs H1 H' → H' p = some (.lst ys) → ks.length = ys.length → ks.Pairwise (· < ·) → (∀ k ∈ ks, k < n) → (∀ k, k < n → k ∉ ks → F k) → (∀ (m k : Nat) v, ks[m]? = some k → ys[m]? = some v → R k v H') → Q (.ref p) H') :
    kLc J g tt te vs σ Q H1 := by
  intro D hD
  have nD := ok.ne hD
  refine lc_it wk (fun i H => Go st cs H1 H ∧ ∃ (ks : List Nat) (ys : List V), H D = some (.lst ys) ∧ ks.length = ys.length ∧ ks.Pairwise (· < ·) ∧ (∀ k ∈ ks, k < i) ∧ (∀ k, k < i → k ∉ ks → F k) ∧ ks.length ≤ i ∧ ∀ (m : Nat) k v, ks[m]? = some k → ys[m]? = some v → R k v H)
    ⟨.of ok (Adv.new hD), [], [], upd_same, rfl, .nil, fun k h => (nomatch h), fun k h => absurd h (Nat.not_lt_zero _), Nat.le_refl _, fun m k v e => by simp at e⟩ (fun i H _ p => hG H p.1) (fun i x H H' hi p y => ?_) fun H p => ?_
  · obtain ⟨g1, ks, ys, e1, hl, hp, hk, hf, hle, hr⟩ := p
    refine step i x H H' _ _ hi g1 y (fun v H4 g4 r4 => ?_) fun H3 g3 f3 => ?_
    · have e4 : H4 D = some (.lst ys) := g4.keep nD.1 e1
      have t5 : TK H4 (upd H4 D (.lst (ys ++ [v]))) := (Adv.lst e4).tup
      refine ⟨ys, e4, Nat.lt_of_lt_of_le (show ys.length < 100001 by omega) (by decide), (g1.trans g4).mutL ok hD e4, ks ++ [i], ys ++ [v], upd_same, by rw [List.length_append, List.length_append, hl]; rfl, ?_, fun k h => ?_, fun k h1 h2 => ?_, by rw [List.length_append]; simp; omega, fun m k w e1 e2 => ?_⟩
      · rw [List.pairwise_append]
        exact ⟨hp, List.pairwise_singleton .., fun a ha b hb => by rw [List.mem_singleton.mp hb]; exact hk a ha⟩
      · rcases List.mem_append.mp h with h | h
        · exact Nat.lt_succ_of_lt (hk k h)
        · rw [List.mem_singleton.mp h]
          exact Nat.lt_succ_self _
      · have h3 : k ≠ i := fun z => h2 (List.mem_append_right _ (by rw [z]; exact List.mem_singleton.mpr rfl))
        exact hf k (by omega) fun z => h2 (List.mem_append_left _ z)
      · by_cases hm : m < ys.length
        · rw [List.getElem?_append_left hm] at e2
          rw [List.getElem?_append_left (by omega)] at e1
          exact mono _ _ _ _ (g4.tk.trans t5) (hr m k w e1 e2)
        · have hm2 : m = ys.length := by
            have := (List.getElem?_eq_some_iff.mp e2).1
            rw [List.length_append] at this
            simp at this
            omega
          subst hm2
          rw [List.getElem?_append_right (Nat.le_refl _), Nat.sub_self] at e2
          rw [← hl, List.getElem?_append_right (Nat.le_refl _), Nat.sub_self] at e1
          simp at e1 e2
          subst e1 e2
          exact mono _ _ _ _ t5 r4
    · refine ⟨g1.trans g3, ks, ys, g3.keep nD.1 e1, hl, hp, fun k h => Nat.lt_succ_of_lt (hk k h), fun k h1 h2 => ?_, by omega, fun m k w e1 e2 => mono _ _ _ _ g3.tk (hr m k w e1 e2)⟩
      by_cases hki : k = i
      · subst hki
        exact f3
      · exact hf k (by omega) h2
  · obtain ⟨g1, ks, ys, e1, hl, hp, hk, hf, hle, hr⟩ := p
    exact k D H ks ys hD g1 e1 hl hp hk hf hr
theorem kLcR_all {n : Nat} (hn : n ≤ 100000) (ok : StOk st cs H1) (R : Nat → V → Hp → Prop) (mono : ∀ i v H H', TK H H' → R i v H → R i v H')
    (step : ∀ i H (Kt : V → Hp → Prop), i < n → Go st cs H1 H → (∀ y H4, Go st cs H H4 → R i y H4 → Kt y H4) → g (.int (i : Nat)) (wipe σ vs) H fun σ2 H2 => wipe σ2 vs = wipe σ vs ∧ te σ2 H2 Kt)
    (k : ∀ p H' ys, H1 p = none → Go st cs H1 H' → H' p = some (.lst ys) → ys.length = n → (∀ (i : Nat) v, ys[i]? = some v → R i v H') → Q (.ref p) H') : kLcR g tYes te vs σ Q [.int (n : Nat)] H1 := by
  refine ⟨n, rfl, by omega, by omega, ?_⟩
  have e : ((n : Nat) : Int).toNat = n := by omega
  rw [e]
  refine kLc_all walk_range hn ok (fun _ _ => trivial) R mono (fun i x H H' Kt hi g1 y kt => ?_) k
  obtain ⟨rfl, rfl⟩ := y
  show g (.int ((0 : Int) + (i : Nat))) _ _ _
  rw [Int.zero_add]
  exact step i H' Kt hi g1 kt
theorem kLcR_some {n : Nat} (hn : n ≤ 100000) (ok : StOk st cs H1) (R : Nat → V → Hp → Prop) (F : Nat → Prop) (mono : ∀ i v H H', TK H H' → R i v H → R i v H')
    (step : ∀ i H (Kt : V → Hp → Prop) (Kf : Hp → Prop), i < n → Go st cs H1 H → (∀ y H4, Go st cs H H4 → R i y H4 → Kt y H4) → (∀ H3, Go st cs H H3 → F i → Kf H3) →
      g (.int (i : Nat)) (wipe σ vs) H fun σ2 H2 => wipe σ2 vs = wipe σ vs ∧ tt σ2 H2 fun b H3 => if b = true then te σ2 H3 Kt else Kf H3)
    (k : ∀ p H' (ks : List Nat) ys, H1 p = none → Go st cs H1 H' → H' p = some (.lst ys) → ks.length = ys.length → ks.Pairwise (· < ·) → (∀ k ∈ ks, k < n) → (∀ k, k < n → k ∉ ks → F k) → (∀ (m k : Nat) v, ks[m]? = some k → ys[m]? = some v → R k v H') → Q (.ref p) H') :
    kLcR g tt te vs σ Q [.int (n : Nat)] H1 := by
  refine ⟨n, rfl, by omega, by omega, ?_⟩
  have e : ((n : Nat) : Int).toNat = n := by omega
  rw [e]
  refine kLc_some walk_range hn ok (fun _ _ => trivial) R F mono (fun i x H H' Kt Kf hi g1 y kt kf => ?_) k
  obtain ⟨rfl, rfl⟩ := y
  show g (.int ((0 : Int) + (i : Nat))) _ _ _
  rw [Int.zero_add]
  exact step i H' Kt Kf hi g1 kt kf
theorem kLcL_all {p : Addr} {xs : List V} (hp : SqL K H1 p xs) (np : p ≠ st) (hn : xs.length ≤ 100000) (ok : StOk st cs H1) (R : Nat → V → Hp → Prop) (mono : ∀ i v H H', TK H H' → R i v H → R i v H')
    (step : ∀ i x H (Kt : V → Hp → Prop), xs[i]? = some x → Go st cs H1 H → (∀ y H4, Go st cs H H4 → R i y H4 → Kt y H4) → g x (wipe σ vs) H fun σ2 H2 => wipe σ2 vs = wipe σ vs ∧ te σ2 H2 Kt)
    (k : ∀ p H' ys, H1 p = none → Go st cs H1 H' → H' p = some (.lst ys) → ys.length = xs.length → (∀ (i : Nat) v, ys[i]? = some v → R i v H') → Q (.ref p) H') : kLcL K g tYes te vs σ Q (.ref p) H1 :=
  ⟨p, rfl, ⟨xs, hp⟩, kLc_all walk_list hn ok (fun _ g => g.sql np hp) R mono (fun i x H H' Kt hi g1 y kt => by
    obtain ⟨rfl, e⟩ := y
    exact step i x H' Kt e g1 kt) k⟩
theorem kLcL_some {p : Addr} {xs : List V} (hp : SqL K H1 p xs) (np : p ≠ st) (hn : xs.length ≤ 100000) (ok : StOk st cs H1) (R : Nat → V → Hp → Prop) (F : Nat → Prop) (mono : ∀ i v H H', TK H H' → R i v H → R i v H')
    (step : ∀ i x H (Kt : V → Hp → Prop) (Kf : Hp → Prop), xs[i]? = some x → Go st cs H1 H → (∀ y H4, Go st cs H H4 → R i y H4 → Kt y H4) → (∀ H3, Go st cs H H3 → F i → Kf H3) →
      g x (wipe σ vs) H fun σ2 H2 => wipe σ2 vs = wipe σ vs ∧ tt σ2 H2 fun b H3 => if b = true then te σ2 H3 Kt else Kf H3)
    (k : ∀ p H' (ks : List Nat) ys, H1 p = none → Go st cs H1 H' → H' p = some (.lst ys) → ks.length = ys.length → ks.Pairwise (· < ·) → (∀ k ∈ ks, k < xs.length) → (∀ k, k < xs.length → k ∉ ks → F k) → (∀ (m k : Nat) v, ks[m]? = some k → ys[m]? = some v → R k v H') → Q (.ref p) H') :
    kLcL K g tt te vs σ Q (.ref p) H1 :=
  ⟨p, rfl, ⟨xs, hp⟩, kLc_some walk_list hn ok (fun _ g => g.sql np hp) R F mono (fun i x H H' Kt Kf hi g1 y kt kf => by
    obtain ⟨rfl, e⟩ := y
    exact step i x H' Kt Kf e g1 kt kf) k⟩
theorem kLcT_all {p : Addr} {xs : List V} (hp : H1 p = some (.tup xs)) (hn : xs.length ≤ 100000) (ok : StOk st cs H1) (R : Nat → V → Hp → Prop) (mono : ∀ i v H H', TK H H' → R i v H → R i v H')
    (step : ∀ i x H (Kt : V → Hp → Prop), xs[i]? = some x → Go st cs H1 H → (∀ y H4, Go st cs H H4 → R i y H4 → Kt y H4) → g x (wipe σ vs) H fun σ2 H2 => wipe σ2 vs = wipe σ vs ∧ te σ2 H2 Kt)
    (k : ∀ p H' ys, H1 p = none → Go st cs H1 H' → H' p = some (.lst ys) → ys.length = xs.length → (∀ (i : Nat) v, ys[i]? = some v → R i v H') → Q (.ref p) H') : kLcT K g tYes te vs σ Q (.ref p) H1 :=
  ⟨p, rfl, ⟨xs, SqT.of hp⟩, kLc_all walk_tup hn ok (fun _ g => SqT.of (g.tk _ _ hp)) R mono (fun i x H H' Kt hi g1 y kt => by
    obtain ⟨rfl, e⟩ := y
    exact step i x H' Kt e g1 kt) k⟩
theorem kLcT_some {p : Addr} {xs : List V} (hp : H1 p = some (.tup xs)) (hn : xs.length ≤ 100000) (ok : StOk st cs H1) (R : Nat → V → Hp → Prop) (F : Nat → Prop) (mono : ∀ i v H H', TK H H' → R i v H → R i v H')
    (step : ∀ i x H (Kt : V → Hp → Prop) (Kf : Hp → Prop), xs[i]? = some x → Go st cs H1 H → (∀ y H4, Go st cs H H4 → R i y H4 → Kt y H4) → (∀ H3, Go st cs H H3 → F i → Kf H3) →
      g x (wipe σ vs) H fun σ2 H2 => wipe σ2 vs = wipe σ vs ∧ tt σ2 H2 fun b H3 => if b = true then te σ2 H3 Kt else Kf H3)
    (k : ∀ p H' (ks : List Nat) ys, H1 p = none → Go st cs H1 H' → H' p = some (.lst ys) → ks.length = ys.length → ks.Pairwise (· < ·) → (∀ k ∈ ks, k < xs.length) → (∀ k, k < xs.length → k ∉ ks → F k) → (∀ (m k : Nat) v, ks[m]? = some k → ys[m]? = some v → R k v H') → Q (.ref p) H') :
    kLcT K g tt te vs σ Q (.ref p) H1 :=
  ⟨p, rfl, ⟨xs, SqT.of hp⟩, kLc_some walk_tup hn ok (fun _ g => SqT.of (g.tk _ _ hp)) R F mono (fun i x H H' Kt Kf hi g1 y kt kf => by
    obtain ⟨rfl, e⟩ := y
    exact step i x H' Kt Kf e g1 kt kf) k⟩
end
theorem at_nat {xs : List V} {n : Int} {v : V} (h0 : 0 ≤ n) (h : xs[n.toNat]? = some v) : atI xs n = some v := at_of (j := n.toNat) (by omega) h
theorem get_some {α : Type} {xs : List α} {i : Nat} (h : i < xs.length) : ∃ v, xs[i]? = some v := ⟨xs[i], List.getElem?_eq_getElem h⟩
theorem cut_to (xs : List V) {n : Int} (h0 : 0 ≤ n) : cutV xs none (some n) = xs.take n.toNat := by
  obtain ⟨m, rfl⟩ : ∃ m : Nat, n = m := ⟨n.toNat, by omega⟩
  unfold cutV
  rw [HT.sIx_none, HT.sIx_nat]
  simp only [List.drop_zero, Nat.sub_zero, Int.toNat_natCast]
  by_cases h : m ≤ xs.length
  · rw [Nat.min_eq_left h]
  · rw [Nat.min_eq_right (by omega), List.take_of_length_le (Nat.le_refl _), List.take_of_length_le (by omega)]
theorem cut_from (xs : List V) {n : Int} (h0 : 0 ≤ n) : cutV xs (some n) none = xs.drop n.toNat := by
  obtain ⟨m, rfl⟩ : ∃ m : Nat, n = m := ⟨n.toNat, by omega⟩
  unfold cutV
  rw [HT.sIx_none, HT.sIx_nat]
  simp only [Int.toNat_natCast]
  by_cases h : m ≤ xs.length
  · rw [Nat.min_eq_left h, List.take_of_length_le (by rw [List.length_drop]; exact Nat.le_refl _)]
  · rw [Nat.min_eq_right (by omega), List.drop_of_length_le (Nat.le_refl _), List.drop_of_length_le (by omega)]
    simp
theorem SqL.upd {K : PySem.W.Frag} {H : Hp} {a : Addr} {xs : List V} : SqL K (upd H a (.lst xs)) a xs := SqL.of upd_same
theorem getD_of {α : Type} {xs : List α} {i : Nat} {d v : α} (h : xs[i]? = some v) : xs.getD i d = v := by rw [List.getD_eq_getElem?_getD, h]; rfl
end AW
/-! zip of three tuples of one length; zip of two tuples as a walk; dicts made by comprehensions -/
namespace AW
open PySem PySem.Spec PyProof.Rows L2 RZ

/-- three tuples beside one another, of one length -/
def Itz3 (K : PySem.W.Frag) (a b c : Addr) : It where
  go i H := ∃ xs ys zs : List V, SqT K H a xs ∧ SqT K H b ys ∧ SqT K H c zs ∧ i < xs.length ∧ i < ys.length ∧ i < zs.length
  yld i H v H' := ∃ (T : Addr) (x y u : V), v = .ref T ∧ H T = none ∧ H' = upd H T (.tup [x, y, u]) ∧ (∀ xs, SqT K H a xs → xs[i]? = some x) ∧ (∀ ys, SqT K H b ys → ys[i]? = some y) ∧ ∀ zs, SqT K H c zs → zs[i]? = some u
  stop i H := ∃ xs ys zs : List V, SqT K H a xs ∧ SqT K H b ys ∧ SqT K H c zs ∧ i = xs.length ∧ i = ys.length ∧ i = zs.length

theorem six {z TI TO i1 i2 i3 d : Addr} (h : d ∈ [z, TI, TO, i1, i2, i3]) : d = z ∨ d = TI ∨ d = TO ∨ d = i1 ∨ d = i2 ∨ d = i3 := by simpa using h
theorem turn_zip3 {P : Program} {w : World} {K : PySem.W.Frag} {elts : List Expr} {kk : Nat} {tpos : Pos} {a b c z TI TO i1 i2 i3 : Addr} (D : ZipSep3 z TI TO i1 i2 i3 [i1, a] [i2, b] [i3, c]) :
    Turn P w K (.Tuple elts kk tpos) (Itz3 K a b c) [z, TI, TO, i1, i2, i3] z (fun i h => IsZip h z TI TO .none ∧ IsTupOf3 h TI (.ref i1) (.ref i2) (.ref i3) ∧ (∃ x y u, IsTupOf3 h TO x y u) ∧ h.IsTupleIter i1 a i ∧ h.IsTupleIter i2 b i ∧ h.IsTupleIter i3 c i) := by
  have na : a ≠ i1 ∧ b ≠ i2 ∧ c ≠ i3 ∨ True := .inr trivial
  refine ⟨by simp, ?obj, ?keep, ?item, ?done, ?self⟩
  case obj =>
    rintro i h ⟨s1, s2, ⟨x, y, u, s3⟩, ⟨p1, q1, _, r1⟩, ⟨p2, q2, _, r2⟩, ⟨p3, q3, _, r3⟩⟩ d hd
    rcases six hd with rfl | rfl | rfl | rfl | rfl | rfl
    · exact ⟨_, s1, fun v e => nomatch e⟩
    · exact ⟨_, s2, fun v e => nomatch e⟩
    · exact ⟨_, s3, fun v e => nomatch e⟩
    · exact ⟨p1, q1, fun v e => by rw [r1] at e; cases e⟩
    · exact ⟨p2, q2, fun v e => by rw [r2] at e; cases e⟩
    · exact ⟨p3, q3, fun v e => by rw [r3] at e; cases e⟩
  case keep =>
    rintro i h h' ⟨s1, s2, ⟨x, y, u, s3⟩, t1, t2, t3⟩ k
    exact ⟨k _ (by simp) _ s1, k _ (by simp) _ s2, ⟨x, y, u, k _ (by simp) _ s3⟩, t1.at fun o e => k _ (by simp) o e, t2.at fun o e => k _ (by simp) o e, t3.at fun o e => k _ (by simp) o e⟩
  case self =>
    exact fun A i s Q E st h => wpAny_pyIter_zip st.1 h
  case item =>
    intro X hP hw hK hc i pins s σ H E I hf st hg
    subst hP hw hK
    obtain ⟨s1, s2, ⟨x0, y0, u0, s3⟩, t1, t2, t3⟩ := st
    obtain ⟨xs, ys, zs, qa, qb, qc, la, lb, lc⟩ := hg
    obtain ⟨ia, ra, pa, _⟩ := I.tuple qa
    obtain ⟨ib, rb, pb, _⟩ := I.tuple qb
    obtain ⟨ic, rc, pc, _⟩ := I.tuple qc
    have ea : ∀ {p : Addr} {its : Array Value}, IsTup s.heap p its → p ∉ [z, TI, TO, i1, i2, i3] → p ≠ z := fun _ n e => n (by simp [e])
    have d1 : a ≠ i1 := by
      intro e
      obtain ⟨o, ho, hcl, _⟩ := pa
      obtain ⟨o2, ho2, hcl2, _⟩ := t1
      rw [e, ho2] at ho
      cases ho
      rw [hcl2] at hcl
      exact absurd (Value.type.inj hcl) (by decide)
    have d2 : b ≠ i2 := by
      intro e
      obtain ⟨o, ho, hcl, _⟩ := pb
      obtain ⟨o2, ho2, hcl2, _⟩ := t2
      rw [e, ho2] at ho
      cases ho
      rw [hcl2] at hcl
      exact absurd (Value.type.inj hcl) (by decide)
    have d3 : c ≠ i3 := by
      intro e
      obtain ⟨o, ho, hcl, _⟩ := pc
      obtain ⟨o2, ho2, hcl2, _⟩ := t3
      rw [e, ho2] at ho
      cases ho
      rw [hcl2] at hcl
      exact absurd (Value.type.inj hcl) (by decide)
    have hh : X.A.in1.handled = none := I.ok.hd hc
    have zl : z < s.heap.objs.size := Heap.lt_size s1
    refine wpAny_pyNext_zipD3_item (i := i) D (Draws.tuple hh i1 a d1 ia.toArray) (Draws.tuple hh i2 b d2 ib.toArray) (Draws.tuple hh i3 c d3 ic.toArray) s1 s2 s3 ⟨t1, pa⟩ ⟨t2, pb⟩ ⟨t3, pc⟩
      (by rw [List.size_toArray, ← ra.length]; exact la) (by rw [List.size_toArray, ← rb.length]; exact lb) (by rw [List.size_toArray, ← rc.length]; exact lc) fun x1 x2 x3 h' tk g1 g2 g3 z' TO' v1 v2 v3 hT hsz hk => ?_
    obtain ⟨y1, hy1⟩ := get_some (xs := xs) la
    obtain ⟨y2, hy2⟩ := get_some (xs := ys) lb
    obtain ⟨y3, hy3⟩ := get_some (xs := zs) lc
    have rel : ∀ {l : List V} {us : List Value} {y : V} {x : Value}, Vals l us → l[i]? = some y → us.toArray[i]? = some x → RelV y x := fun r e e2 => by
      obtain ⟨u, eu, ru⟩ := r.get e
      have e3 : some u = some _ := eu.symm.trans (by simpa using e2)
      cases e3
      exact ru
    refine ⟨_, rfl, wpAny_letOwnedTupleGo_zip (s := { s with heap := h', toks := tk }) z' fun h'' z'' sb => ?_⟩
    have hT2 : h''.get? s.heap.objs.size = some { cls := .type "tuple", data := .seq #[x1, x2, x3] } := (sb.2 _ (Nat.ne_of_gt zl)).trans hT
    have new : ObjOk X.prog X.w (upd H s.heap.objs.size (.tup [y1, y2, y3])) h'' s.heap.objs.size (.tup [y1, y2, y3]) :=
      ⟨by show 3 ≤ sizeLine; decide, [x1, x2, x3], .cons (rel ra hy1 g1) (.cons (rel rb hy2 g2) (.cons (rel rc hy3 g3) .nil)), ⟨_, hT2, rfl, _, rfl⟩⟩
    have I1 : Inv X pins σ (upd H s.heap.objs.size (.tup [y1, y2, y3])) { s with heap := h'', toks := tk } :=
      I.turnedNew (ch := [z, TI, TO, i1, i2, i3]) (fun d o hd q => (sb.2 d (fun e => hd (by simp [e]))).trans (hk d o (fun e => hd (by simp [e])) (fun e => hd (by simp [e])) (fun e => hd (by simp [e])) (fun e => hd (by simp [e])) (fun e => hd (by simp [e])) q)) hf (Nat.le_refl _) new
    refine ⟨.ref s.heap.objs.size, _, I1, rfl, ⟨_, y1, y2, y3, rfl, I.hok.fresh (Nat.le_refl _), rfl, fun l hl => by rw [I.tuple_inj hl qa]; exact hy1, fun l hl => by rw [I.tuple_inj hl qb]; exact hy2, fun l hl => by rw [I.tuple_inj hl qc]; exact hy3⟩,
      ⟨z'', ?_, ⟨x1, x2, x3, ?_⟩, ?_, ?_, ?_⟩, fun d hd => ?_⟩
    · exact (sb.2 _ D.TIz).trans (hk _ _ D.TIz D.TITO D.TIi1 D.TIi2 D.TIi3 s2)
    · exact (sb.2 _ D.TOz).trans TO'
    · exact v1.1.at fun o e => (sb.2 _ (fun q => D.zi1 q.symm)).trans e
    · exact v2.1.at fun o e => (sb.2 _ (fun q => D.zi2 q.symm)).trans e
    · exact v3.1.at fun o e => (sb.2 _ (fun q => D.zi3 q.symm)).trans e
    · have hlt : d < s.heap.objs.size := by
        rcases six hd with rfl | rfl | rfl | rfl | rfl | rfl
        · exact zl
        · exact Heap.lt_size s2
        · exact Heap.lt_size s3
        · obtain ⟨_, e, _⟩ := t1; exact Heap.lt_size e
        · obtain ⟨_, e, _⟩ := t2; exact Heap.lt_size e
        · obtain ⟨_, e, _⟩ := t3; exact Heap.lt_size e
      rw [upd_ne (Nat.ne_of_lt hlt)]
      exact (hf d hd).1
  case done =>
    intro X hP hw hK hc i pins s σ H E I hf st hg
    subst hP hw hK
    obtain ⟨s1, s2, ⟨x0, y0, u0, s3⟩, t1, t2, t3⟩ := st
    obtain ⟨xs, ys, zs, qa, qb, qc, la, lb, lc⟩ := hg
    obtain ⟨ia, ra, pa, _⟩ := I.tuple qa
    obtain ⟨ib, rb, pb, _⟩ := I.tuple qb
    obtain ⟨ic, rc, pc, _⟩ := I.tuple qc
    have dd : ∀ {p q : Addr} {its : Array Value} {j : Nat}, IsTup s.heap p its → s.heap.IsTupleIter q p j → p ≠ q := fun {p q its j} hp hq e => by
      obtain ⟨o, ho, hcl, _⟩ := hp
      obtain ⟨o2, ho2, hcl2, _⟩ := hq
      rw [e, ho2] at ho
      cases ho
      rw [hcl2] at hcl
      exact absurd (Value.type.inj hcl) (by decide)
    have hh : X.A.in1.handled = none := I.ok.hd hc
    have sa : i = ia.toArray.size := by rw [List.size_toArray, ← ra.length]; exact la
    have sb : i = ib.toArray.size := by rw [List.size_toArray, ← rb.length]; exact lb
    have sc : i = ic.toArray.size := by rw [List.size_toArray, ← rc.length]; exact lc
    exact wpAny_pyNext_zipD3_end (i := i) D (Draws.tuple hh i1 a (dd pa t1) ia.toArray) (Draws.tuple hh i2 b (dd pb t2) ib.toArray) (Draws.tuple hh i3 c (dd pc t3) ic.toArray) s1 s2 s3 ⟨t1, pa⟩ ⟨t2, pb⟩ ⟨t3, pc⟩
      (Nat.le_of_eq sa) (Nat.le_of_eq sb) (Nat.le_of_eq sc) (.inl sa) fun h' tk hk => ⟨rfl, I.turnedL (ch := [z, TI, TO, i1, i2, i3]) (fun d o hd q => hk d o (fun e => hd (by simp [e])) (fun e => hd (by simp [e])) (fun e => hd (by simp [e])) (fun e => hd (by simp [e])) (fun e => hd (by simp [e])) q) hf⟩
/-- what stands within zip(a, b, c) -/
def iZip3 (K : PySem.W.Frag) (ta : TA) : TI := fun σ H R => ta σ H fun vs H1 => ∃ (a b c : Addr) (xs ys zs : List V), vs = [.ref a, .ref b, .ref c] ∧ SqT K H1 a xs ∧ SqT K H1 b ys ∧ SqT K H1 c zs ∧ R (Itz3 K a b c) H1
theorem no2 {x y z : Nat} (h1 : x ≠ y) (h2 : x ≠ z) : x ∉ [y, z] := fun h => by
  rcases List.mem_cons.mp h with e | e
  · exact h1 e
  · exact h2 (List.mem_singleton.mp e)
theorem sep_new (n a b c : Nat) (la : a < n) (lb : b < n) (lc : c < n) : ZipSep3 (n + 5) (n + 3) (n + 4) n (n + 1) (n + 2) [n, a] [n + 1, b] [n + 2, c] :=
  ⟨(show (n + 3 : Nat) ≠ n + 5 by omega),
    (show (n + 4 : Nat) ≠ n + 5 by omega),
    (show (n + 3 : Nat) ≠ n + 4 by omega),
    (show (n + 3 : Nat) ≠ n by omega),
    (List.mem_cons_self ..),
    (no2 (show (n + 5 : Nat) ≠ n by omega) (show (n + 5 : Nat) ≠ a by omega)),
    (no2 (show (n + 4 : Nat) ≠ n by omega) (show (n + 4 : Nat) ≠ a by omega)),
    (show (n + 3 : Nat) ≠ n + 1 by omega),
    (List.mem_cons_self ..),
    (no2 (show (n + 5 : Nat) ≠ n + 1 by omega) (show (n + 5 : Nat) ≠ b by omega)),
    (no2 (show (n + 4 : Nat) ≠ n + 1 by omega) (show (n + 4 : Nat) ≠ b by omega)),
    (show (n + 3 : Nat) ≠ n + 2 by omega),
    (List.mem_cons_self ..),
    (no2 (show (n + 5 : Nat) ≠ n + 2 by omega) (show (n + 5 : Nat) ≠ c by omega)),
    (no2 (show (n + 4 : Nat) ≠ n + 2 by omega) (show (n + 4 : Nat) ≠ c by omega)),
    (no2 (show (n : Nat) ≠ n + 1 by omega) (show (n : Nat) ≠ b by omega)),
    (no2 (show (n : Nat) ≠ n + 2 by omega) (show (n : Nat) ≠ c by omega)),
    (no2 (show (n + 1 : Nat) ≠ n by omega) (show (n + 1 : Nat) ≠ a by omega)),
    (no2 (show (n + 1 : Nat) ≠ n + 2 by omega) (show (n + 1 : Nat) ≠ c by omega)),
    (no2 (show (n + 2 : Nat) ≠ n by omega) (show (n + 2 : Nat) ≠ a by omega)),
    (no2 (show (n + 2 : Nat) ≠ n + 1 by omega) (show (n + 2 : Nat) ≠ b by omega))⟩
theorem pi_zip3 {X : Cx} {e e2 e3 : Expr} {ta : TA} {p pos tpos : Pos} {elts : List Expr} {kk : Nat} (hg : Gl X "zip") (hm : X.mg "zip" = none) (ha : PA X [e, e2, e3] ta)
    (hs : starEach [e, e2, e3] X.env = (false, eval e X.env) :: starEach [e2, e3] X.env := by rfl) (hpl : (backTo pos (starEach [e2, e3] X.env)).any (·.1) = false := by rfl) :
    PI X (.Tuple elts kk tpos) (.Call (.Name "zip" p) [e, e2, e3] [] pos) (iZip3 X.K ta) := by
  refine ⟨fun pins s σ H R I h => ?_⟩
  refine Call_ (ld_blt I hg hm PyProof.Rows.boot_zip (PyProof.Rows.callWith_type1 (thn (ha.run pos pins s σ H _ I h) fun us s1 ⟨vs, H1, I1, r1, q1⟩ => ?_) hs hpl))
  obtain ⟨a, b, c, xs, ys, zs, rfl, qa, qb, qc, q⟩ := q1
  obtain ⟨ua, us', rfl, r1', rr⟩ : ∃ ua us', us = ua :: us' ∧ RelV (.ref a) ua ∧ Vals [.ref b, .ref c] us' := by
    cases r1 with
    | cons r rr => exact ⟨_, _, rfl, r, rr⟩
  obtain ⟨ub, uc, rfl, r2', r3'⟩ := vals2 rr
  cases r1'
  cases r2'
  cases r3'
  obtain ⟨ia, ra, pa, _⟩ := I1.tuple qa
  obtain ⟨ib, rb, pb, _⟩ := I1.tuple qb
  obtain ⟨ic, rc, pc, _⟩ := I1.tuple qc
  have la : a < s1.heap.objs.size := by obtain ⟨_, e, _⟩ := pa; exact Heap.lt_size e
  have lb : b < s1.heap.objs.size := by obtain ⟨_, e, _⟩ := pb; exact Heap.lt_size e
  have lc : c < s1.heap.objs.size := by obtain ⟨_, e, _⟩ := pc; exact Heap.lt_size e
  refine zip_begins3 (begins_tuple a ia.toArray) (begins_tuple b ib.toArray) (begins_tuple c ic.toArray) pa pb pc fun h' hz hTI hTO g1 g2 g3 _ hk => wpAny_pyIter_zip hz ?_
  have I2 : Inv X pins σ H1 { s1 with heap := h' } := I1.kept (t' := s1.toks) hk
  have sep := sep_new s1.heap.objs.size a b c la lb lc
  refine ⟨s1.heap.objs.size + 5, [s1.heap.objs.size + 5, s1.heap.objs.size + 3, s1.heap.objs.size + 4, s1.heap.objs.size, s1.heap.objs.size + 1, s1.heap.objs.size + 2], _, _, H1, rfl, I2, turn_zip3 sep, ⟨hz, hTI, ⟨_, _, _, hTO⟩, ⟨_, g1, rfl, rfl⟩, ⟨_, g2, rfl, rfl⟩, ⟨_, g3, rfl, rfl⟩⟩, fun d hd => ?_, q⟩
  have hle : s1.heap.objs.size ≤ d := by
    rcases six hd with e | e | e | e | e | e <;> rw [e] <;> first | exact Nat.le_add_right _ _ | exact Nat.le_refl _
  exact I1.fpOk hle (I1.hok.fresh hle)
/-- a new triple of the i-th ones -/
def YTri (xs ys zs : List V) : Nat → Hp → V → Hp → Prop := fun i H v H' => ∃ T x y u, v = .ref T ∧ H T = none ∧ H' = upd H T (.tup [x, y, u]) ∧ xs[i]? = some x ∧ ys[i]? = some y ∧ zs[i]? = some u
section
variable {K : PySem.W.Frag} {a b c : Addr} {xs ys zs : List V}
theorem walk_zip3 (h1 : ys.length = xs.length) (h2 : zs.length = xs.length) : Walk (Itz3 K a b c) xs.length (fun H => H a = some (.tup xs) ∧ H b = some (.tup ys) ∧ H c = some (.tup zs)) (YTri xs ys zs) :=
  ⟨fun i H hi q => ⟨xs, ys, zs, SqT.of q.1, SqT.of q.2.1, SqT.of q.2.2, hi, by omega, by omega⟩, fun H q => ⟨xs, ys, zs, SqT.of q.1, SqT.of q.2.1, SqT.of q.2.2, rfl, h1.symm, h2.symm⟩,
    fun i H v H' _ q ⟨T, x, y, u, e1, e2, e3, e4, e5, e6⟩ => ⟨T, x, y, u, e1, e2, e3, e4 _ (SqT.of q.1), e5 _ (SqT.of q.2.1), e6 _ (SqT.of q.2.2)⟩⟩
theorem walk_zipT (h1 : ys.length = xs.length) : Walk (ItzT K a b) xs.length (fun H => H a = some (.tup xs) ∧ H b = some (.tup ys)) (YPair (fun i => xs[i]?) (fun i => ys[i]?)) :=
  ⟨fun i H hi q => ⟨xs, ys, xs[i], ys[i], SqT.of q.1, SqT.of q.2, List.getElem?_eq_getElem hi, List.getElem?_eq_getElem (by omega)⟩, fun H q => ⟨xs, ys, SqT.of q.1, SqT.of q.2, .inl (Nat.le_refl _)⟩,
    fun i H v H' _ q ⟨T, x, y, e1, e2, e3, e4, e5⟩ => ⟨T, x, y, e1, e2, e3, e4 _ (SqT.of q.1), e5 _ (SqT.of q.2)⟩⟩
end

/-! ### comprehensions that leave the state alone: a pure one; a dict -/
section
variable {J : It} {n : Nat} {G : Hp → Prop} {Y : Nat → Hp → V → Hp → Prop} {g : TG} {tt : TT} {te tk tv : TE} {vs : List Nat} {σ : L2.St} {Q : VK} {H1 : Hp} {K : PySem.W.Frag} {ta : TA}
/-- a comprehension with a test, nothing changed but new objects; B tells the test's word at each turn, v the item's value -/
theorem kLc_pure (wk : Walk J n G Y) (hn : n ≤ 100000) (hG : ∀ H', Adv [] H1 H' → G H') (B : Nat → Bool) (v : Nat → V)
    (step : ∀ i x H H' (Kt : V → Hp → Prop) (Kf : Hp → Prop), i < n → Adv [] H1 H → Y i H x H' → (B i = true → ∀ H4, Adv [] H H4 → Kt (v i) H4) → (B i = false → ∀ H3, Adv [] H H3 → Kf H3) →
      g x (wipe σ vs) H' fun σ2 H2 => wipe σ2 vs = wipe σ vs ∧ tt σ2 H2 fun b H3 => if b = true then te σ2 H3 Kt else Kf H3)
    (k : ∀ p H', H1 p = none → Adv [] H1 H' → H' p = some (.lst (((List.range n).filter B).map v)) → Q (.ref p) H') : kLc J g tt te vs σ Q H1 := by
  intro D hD
  refine lc_it wk (fun i H => i ≤ n ∧ Adv [] H1 H ∧ H D = some (.lst (((List.range i).filter B).map v))) ⟨Nat.zero_le _, Adv.new hD, upd_same⟩ (fun i H _ p => hG H p.2.1) (fun i x H H' hi p y => ?_) fun H p => k D H hD p.2.1 p.2.2
  obtain ⟨_, g1, e1⟩ := p
  have hlen : (((List.range i).filter B).map v).length ≤ 100000 := by
    rw [List.length_map]
    refine Nat.le_trans (List.length_filter_le ..) ?_
    rw [List.length_range]
    omega
  refine step i x H H' _ _ hi g1 y (fun hb H4 g4 => ?_) fun hb H3 g3 => ?_
  · have e4 := g4.keep _ _ (fun z => nomatch z) e1
    refine ⟨_, e4, Nat.lt_of_lt_of_le (Nat.lt_succ_of_le hlen) (by decide), hi, (g1.trans g4).mut hD e4 (fun _ z => by cases z), ?_⟩
    rw [upd_same, List.range_succ, List.filter_append, List.map_append]
    simp [hb]
  · refine ⟨hi, g1.trans g3, ?_⟩
    rw [g3.keep _ _ (fun z => nomatch z) e1, List.range_succ, List.filter_append, List.map_append]
    simp [hb]
theorem kLcR_pure {n : Nat} (hn : n ≤ 100000) (B : Nat → Bool) (v : Nat → V)
    (step : ∀ i H (Kt : V → Hp → Prop) (Kf : Hp → Prop), i < n → Adv [] H1 H → (B i = true → ∀ H4, Adv [] H H4 → Kt (v i) H4) → (B i = false → ∀ H3, Adv [] H H3 → Kf H3) →
      g (.int (i : Nat)) (wipe σ vs) H fun σ2 H2 => wipe σ2 vs = wipe σ vs ∧ tt σ2 H2 fun b H3 => if b = true then te σ2 H3 Kt else Kf H3)
    (k : ∀ p H', H1 p = none → Adv [] H1 H' → H' p = some (.lst (((List.range n).filter B).map v)) → Q (.ref p) H') : kLcR g tt te vs σ Q [.int (n : Nat)] H1 := by
  refine ⟨(n : Nat), rfl, by omega, by omega, ?_⟩
  rw [show ((n : Nat) : Int).toNat = n by omega]
  refine kLc_pure walk_range hn (fun _ _ => trivial) B v (fun i x H H' Kt Kf hi g1 y kt kf => ?_) k
  obtain ⟨rfl, rfl⟩ := y
  show g (.int ((0 : Int) + (i : Nat))) _ _ _
  rw [Int.zero_add]
  exact step i H' Kt Kf hi g1 kt kf
/-- over three tuples of one length -/
def kLc3 (K : PySem.W.Frag) (g : TG) (tt : TT) (te : TE) (vs : List Nat) (σ : L2.St) (Q : VK) (ws : List V) (H1 : Hp) : Prop := ∃ (a b c : Addr) (xs ys zs : List V), ws = [.ref a, .ref b, .ref c] ∧ SqT K H1 a xs ∧ SqT K H1 b ys ∧ SqT K H1 c zs ∧ kLc (Itz3 K a b c) g tt te vs σ Q H1
theorem w_lc3 (h : ta σ H1 (kLc3 K g tt te vs σ Q)) : tLc (iZip3 K ta) g tt te vs σ H1 Q := h
/-- a dict is made, turn by turn -/
def kDc (J : It) (g : TG) (tt : TT) (tk tv : TE) (vs : List Nat) (σ : L2.St) (Q : VK) (H1 : Hp) : Prop := ∀ D, H1 D = none → ∃ W : Nat → Nat → Hp → Prop, (∃ m, W 0 m (upd H1 D (.dK []))) ∧ ∀ i m H, W i m H →
  (J.stop i H ∧ Q (.ref D) H) ∨ (J.go i H ∧ ∃ Nx : Hp → Prop, (∀ H', Nx H' → ∃ m', m' < m ∧ W (i + 1) m' H') ∧ ∀ x H', J.yld i H x H' → g x (wipe σ vs) H' fun σ2 H2 => wipe σ2 vs = wipe σ vs ∧ tt σ2 H2 fun b H3 =>
    if b = true then tk σ2 H3 fun y H4 => tv σ2 H4 fun z H5 => ∃ kvs k, y = kV k ∧ H5 D = some (.dK kvs) ∧ kvs.length < sizeLine ∧ Nx (upd H5 D (.dK (putK kvs k z))) else Nx H3)
/-- all turns give: the dict holds the last of each key -/
def dictOf (key : Nat → Key) (val : Nat → V) : Nat → List (Key × V)
  | 0 => []
  | i + 1 => putK (dictOf key val i) (key i) (val i)
theorem dictOf_len (key : Nat → Key) (val : Nat → V) : ∀ n, (dictOf key val n).length ≤ n
  | 0 => Nat.le_refl _
  | i + 1 => Nat.le_trans (length_putK ..) (Nat.succ_le_succ (dictOf_len key val i))
theorem dictOf_val {key : Nat → Key} {val : Nat → V} : ∀ {n j : Nat}, (∀ a b, a < n → b < n → key a = key b → a = b) → j < n → valV (dictOf key val n) (key j) = some (val j)
  | i + 1, j, hk, hj => by
    show valV (putK (dictOf key val i) (key i) (val i)) (key j) = _
    rw [valV_put]
    by_cases e : key j = key i
    · have ej := hk j i hj (Nat.lt_succ_self i) e
      subst ej
      rw [if_pos rfl]
    · rw [if_neg e]
      refine dictOf_val (fun a b ha hb => hk a b (Nat.lt_succ_of_lt ha) (Nat.lt_succ_of_lt hb)) ?_
      have : j ≠ i := fun z => e (by rw [z])
      omega
theorem kDc_pure (wk : Walk J n G Y) (hn : n ≤ 100000) (hG : ∀ H', Adv [] H1 H' → G H') (key : Nat → Key) (val : Nat → V)
    (step : ∀ i x H H' (Kt : V → V → Hp → Prop), i < n → Adv [] H1 H → Y i H x H' → (∀ H4, Adv [] H H4 → Kt (kV (key i)) (val i) H4) → g x (wipe σ vs) H' fun σ2 H2 => wipe σ2 vs = wipe σ vs ∧ tk σ2 H2 fun y H4 => tv σ2 H4 (Kt y))
    (k : ∀ p H', H1 p = none → Adv [] H1 H' → H' p = some (.dK (dictOf key val n)) → Q (.ref p) H') : kDc J g tYes tk tv vs σ Q H1 := by
  intro D hD
  refine ⟨fun i m H => m = n - i ∧ i ≤ n ∧ Adv [] H1 H ∧ H D = some (.dK (dictOf key val i)), ⟨n, by simp, Nat.zero_le _, Adv.new hD, upd_same⟩, ?_⟩
  rintro i m H ⟨rfl, hi, g1, e1⟩
  have q := hG H g1
  by_cases hlt : i < n
  · refine .inr ⟨wk.goes i H hlt q, fun H' => i + 1 ≤ n ∧ Adv [] H1 H' ∧ H' D = some (.dK (dictOf key val (i + 1))), fun H' p' => ⟨n - (i + 1), by omega, rfl, p'⟩, fun x H' y => ?_⟩
    refine step i x H H' (fun y z H5 => ∃ kvs k, y = kV k ∧ H5 D = some (.dK kvs) ∧ kvs.length < sizeLine ∧ (fun H' => i + 1 ≤ n ∧ Adv [] H1 H' ∧ H' D = some (.dK (dictOf key val (i + 1)))) (upd H5 D (.dK (putK kvs k z)))) hlt g1 (wk.yields i H x H' hlt q y) fun H4 g4 => ?_
    have e4 := g4.keep _ _ (fun z => nomatch z) e1
    exact ⟨_, key i, rfl, e4, Nat.lt_of_le_of_lt (dictOf_len key val i) (Nat.lt_of_lt_of_le (show i < 100001 by omega) (by decide)), hlt, (g1.trans g4).mut hD e4 (fun _ z => by cases z), upd_same⟩
  · have e : i = n := by omega
    subst e
    exact .inl ⟨wk.stops H q, k D H hD g1 e1⟩
/-- a dict over zip(a, b) of tuples; over a tuple -/
def kDcZ (K : PySem.W.Frag) (g : TG) (tt : TT) (tk tv : TE) (vs : List Nat) (σ : L2.St) (Q : VK) (ws : List V) (H1 : Hp) : Prop := ∃ a b xs ys, ws = [.ref a, .ref b] ∧ ((SqL K H1 a xs ∧ SqL K H1 b ys ∧ kDc (Itz K a b) g tt tk tv vs σ Q H1) ∨ (SqT K H1 a xs ∧ SqT K H1 b ys ∧ kDc (ItzT K a b) g tt tk tv vs σ Q H1))
theorem w_dcZ (h : ta σ H1 (kDcZ K g tt tk tv vs σ Q)) : tDc (iZipA K ta) g tt tk tv vs σ H1 Q := h
def kDcT (K : PySem.W.Frag) (g : TG) (tt : TT) (tk tv : TE) (vs : List Nat) (σ : L2.St) (Q : VK) (x : V) (H1 : Hp) : Prop := ∃ a, x = .ref a ∧ (∃ xs, SqT K H1 a xs) ∧ kDc (Itt K a) g tt tk tv vs σ Q H1
theorem w_dcT {tl : TE} (h : tl σ H1 (kDcT K g tt tk tv vs σ Q)) : tDc (iTup K tl) g tt tk tv vs σ H1 Q := h
theorem w_dnew {σ : L2.St} {H : Hp} (q : ∀ r H', H r = none → Adv [] H H' → H' r = some (.dK []) → Q (.ref r) H') : tDNewK σ H Q := w_new q
/-! pairs and triples taken apart -/
theorem w_gtup {n : Nat} {t : TGs} {a : Addr} {xs : List V} {σ : L2.St} {H : Hp} {Q : L2.St → Hp → Prop} (h : SqT K H a xs) (hl : xs.length = n) (q : t xs σ H Q) : gTup K n t (.ref a) σ H Q := ⟨a, xs, rfl, h, hl, q⟩
theorem w_gcons {t : TG} {u : TGs} {v : V} {r : List V} {σ : L2.St} {H : Hp} {Q : L2.St → Hp → Prop} (q : t v σ H fun σ' H' => u r σ' H' Q) : gCons t u (v :: r) σ H Q := ⟨v, r, rfl, q⟩
theorem w_gnil {σ : L2.St} {H : Hp} {Q : L2.St → Hp → Prop} (q : Q σ H) : gNil [] σ H Q := ⟨rfl, q⟩
end
end AW
/-! dicts asked, tuple(..), slices of tuples; what the law speaks of: sayings, worlds, models -/
namespace AW
open PySem PySem.Spec PyProof.Rows L2 RZ
section
variable {σ : L2.St} {H : Hp} {Q : VK} {ta tb te td ty : TE} {K : PySem.W.Frag}
/-- keywords alone, in the parameters' order -/
def gK {α : Type} : List α → List α → List α
  | [], zs => zs
  | _ :: _, _ => []
theorem w_callK {sp : Sp} {E : XK} {tk : TA} (h : tk σ H fun zs H2 => sp zs H2 Q E) : tCallK sp gK E tNil tk σ H Q := h
def kDGet (x y : V) (H : Hp) (Q : VK) : Prop := ∃ a v, x = .ref a ∧ DGet H a y (some v) ∧ Q v H
theorem w_dg (h : td σ H fun x H1 => ty σ H1 fun y H2 => kDGet x y H2 Q) : tDGet td ty σ H Q := h
theorem kDGet_i {d : Addr} {kvs : List (Key × V)} {k : Key} {v : V} (h : H d = some (.dK kvs)) (e : valV kvs k = some v) (q : Q v H) : kDGet (.ref d) (kV k) H Q := ⟨d, v, rfl, e ▸ DGet.k h, q⟩
def kDPut (x y v : V) (H : Hp) (N : Hp → Prop) : Prop := ∃ a H4, x = .ref a ∧ DPut H a y v H4 ∧ N H4
theorem w_dput {D : Ends} {tv : TE} (h : tv σ H fun v H1 => td σ H1 fun x H2 => ty σ H2 fun y H3 => kDPut x y v H3 (D.nx σ)) : sDPut td ty tv D σ H := h
theorem kDPut_i {d : Addr} {kvs : List (Key × V)} {k : Key} {v : V} {N : Hp → Prop} (h : H d = some (.dK kvs)) (hl : kvs.length < 100000) (q : N (upd H d (.dK (putK kvs k v)))) : kDPut (.ref d) (kV k) v H N :=
  ⟨d, _, rfl, DPut.k h (Nat.lt_of_lt_of_le hl (by decide)), q⟩
theorem w_nT {A B : Prop} (h : A) : if (!true) = true then B else A := h
theorem w_nF {A B : Prop} (h : B) : if (!false) = true then B else A := h
/-- tuple(x) -/
theorem w_tup1 (h : ta σ H fun x H1 => kTup K x H1 Q) : tThen ta (kTup K) σ H Q := h
theorem w_tupL {p : Addr} {xs : List V} (h : SqL K H p xs) (q : ∀ r H', H r = none → Adv [] H H' → H' r = some (.tup xs) → Q (.ref r) H') : kTup K (.ref p) H Q := .inl ⟨p, xs, rfl, h, w_new q⟩
/-- a part of a tuple that is not the whole -/
theorem w_slT {p : Addr} {xs : List V} {lo hi : Option Int} (h : H p = some (.tup xs)) (hn : ¬ (HT.sIx xs.length 0 lo = 0 ∧ HT.sIx xs.length xs.length hi = xs.length)) (q : ∀ r H', H r = none → Adv [] H H' → H' r = some (.tup (cutV xs lo hi)) → Q (.ref r) H') : rSlA K (.ref p) lo hi H Q :=
  ⟨p, xs, rfl, SqT.of h, fun z => absurd z hn, fun _ => w_new q⟩
/-- tuples joined, none of them empty -/
theorem w_catT {a b : Addr} {xs ys : List V} (h1 : H a = some (.tup xs)) (h2 : H b = some (.tup ys)) (hz : xs.length + ys.length ≤ 100000) (q0 : xs = [] → Q (.ref b) H) (q1 : xs ≠ [] → ys = [] → Q (.ref a) H)
    (q : ∀ r H', H r = none → Adv [] H H' → H' r = some (.tup (xs ++ ys)) → Q (.ref r) H') : rCatA K (.ref a) (.ref b) H Q :=
  ⟨a, b, xs, ys, rfl, rfl, SqT.of h1, SqT.of h2, Nat.le_trans hz (by decide), q0, q1, fun _ _ => w_new q⟩
/-- joined, whatever they are: a tuple that holds both -/
theorem w_catT' {a b : Addr} {xs ys : List V} (h1 : H a = some (.tup xs)) (h2 : H b = some (.tup ys)) (hz : xs.length + ys.length ≤ 100000) (q : ∀ r H', Adv [] H H' → H' r = some (.tup (xs ++ ys)) → Q (.ref r) H') : rCatA K (.ref a) (.ref b) H Q :=
  w_catT h1 h2 hz (fun e => q _ _ (.refl _ _) (by rw [e]; exact h2)) (fun _ e => q _ _ (.refl _ _) (by rw [e, List.append_nil]; exact h1)) fun r H' _ a e => q r H' a e
end
/-- the dict at d tells the value of each of these names -/
def WD (H : Hp) (d : Addr) (names : List Str) (w : Str → Int) : Prop := ∃ kvs, H d = some (.dK kvs) ∧ ∀ x ∈ names, valV kvs (Sum.inr x) = some (.int (w x))
theorem WD.up {H H' : Hp} {d : Addr} {names : List Str} {w : Str → Int} (h : WD H d names w) (e : Adv [] H H') : WD H' d names w := by
  obtain ⟨kvs, h1, h2⟩ := h
  exact ⟨kvs, e.keep _ _ (fun z => nomatch z) h1, h2⟩
theorem WD.go {st cs : Addr} {H H' : Hp} {d : Addr} {names : List Str} {w : Str → Int} (h : WD H d names w) (hs : StOk st cs H) (e : Go st cs H H') : WD H' d names w := by
  obtain ⟨kvs, h1, h2⟩ := h
  obtain ⟨_, _, _, _, _, _, h3, _⟩ := hs
  exact ⟨kvs, e.keep (ne_of h1 h3 fun z => by cases z) h1, h2⟩
theorem WD.get {H : Hp} {Q : VK} {d : Addr} {names : List Str} {w : Str → Int} {x : Str} (h : WD H d names w) (hx : x ∈ names) (q : Q (.int (w x)) H) : kDGet (.ref d) (.str x) H Q := by
  obtain ⟨kvs, h1, h2⟩ := h
  exact kDGet_i (k := Sum.inr x) h1 (h2 x hx) q

/-! ### sayings -/
def okS (x : Str) : Prop := x.cps.all (· < 0x110000) = true
abbrev nix : Str := Str.ofString ""
abbrev Wd := Str → Int
def atW (b : Bool) : Str := if b = true then "from" else "is"
def manyW (b : Bool) : Str := if b = true then "and" else "or"
/-- a claim, as data: of so many levels, over these names, and what it tells of a world -/
inductive ClD (names : List Str) : Nat → PyData → (Wd → Bool) → Prop
  | one {m : Nat} {x : Str} {v : Int} (b : Bool) (hx : x ∈ names) : ClD names (m + 1) (.tuple [.str (atW b), .str x, .int v]) (fun w => if b = true then decide (v ≤ w x) else decide (w x = v))
  | neg {m : Nat} {d : PyData} {f : Wd → Bool} (h : ClD names m d f) : ClD names (m + 1) (.tuple [.str "not", d]) (fun w => !f w)
  | many {m : Nat} (b : Bool) (ds : List PyData) (fs : List (Wd → Bool)) (hl : ds.length = fs.length) (h1 : ds.length ≤ 100) (h : ∀ (i : Nat) d f, ds[i]? = some d → fs[i]? = some f → ClD names m d f) :
      ClD names (m + 1) (.tuple [.str (manyW b), .tuple ds]) (fun w => if b = true then fs.all (· w) else fs.any (· w))
theorem ClD.mono {names names' : List Str} (hs : ∀ x ∈ names, x ∈ names') : ∀ {m : Nat} {d : PyData} {f : Wd → Bool}, ClD names m d f → ClD names' m d f := by
  intro m d f h
  induction h with
  | one b hx => exact .one b (hs _ hx)
  | neg h ih => exact .neg ih
  | many b ds fs hl h1 h ih => exact .many b ds fs hl h1 ih
theorem ClD.le {names : List Str} {m : Nat} {d : PyData} {f : Wd → Bool} (h : ClD names m d f) : ∀ {n : Nat}, m ≤ n → ClD names n d f := by
  induction h with
  | one b hx =>
    intro n hn
    obtain ⟨k, rfl⟩ : ∃ k, n = k + 1 := ⟨n - 1, by omega⟩
    exact .one b hx
  | neg h ih =>
    intro n hn
    obtain ⟨k, rfl⟩ : ∃ k, n = k + 1 := ⟨n - 1, by omega⟩
    exact .neg (ih (by omega))
  | many b ds fs hl h1 h ih =>
    intro n hn
    obtain ⟨k, rfl⟩ : ∃ k, n = k + 1 := ⟨n - 1, by omega⟩
    exact .many b ds fs hl h1 fun i d f e1 e2 => ih i d f e1 e2 (by omega)
inductive Say where
  | sums (least : Bool) (ts : List (Str × Int)) (n : Int)
  | unlike (xs : List Str)
  | counts (xs : List Str) (ts : List (Int × Int × Int))
  | tab (b : Bool) (xs : List Str) (rows : List (List Int))
  | top (xs : List Str) (r : Str)
  | ahead (xs ys : List Str)
  | claim (d : PyData) (f : Wd → Bool) (ns : List Str)
  | when (d : PyData) (f : Wd → Bool) (ns : List Str) (s : Say)
def trD (t : Str × Int) : PyData := .tuple [.str t.1, .int t.2]
def ctD (t : Int × Int × Int) : PyData := .tuple [.int t.1, .int t.2.1, .int t.2.2]
def rowD (r : List Int) : PyData := .tuple (r.map .int)
def sumW (b : Bool) : Str := if b = true then "least" else "same"
def tabW (b : Bool) : Str := if b = true then "table" else "bar"
def sayD : Say → PyData
  | .sums b ts n => .tuple [.str (sumW b), .tuple (ts.map trD), .int n]
  | .unlike xs => .tuple [.str "unlike", .tuple (xs.map .str)]
  | .counts xs ts => .tuple [.str "counts", .tuple (xs.map .str), .tuple (ts.map ctD)]
  | .tab b xs rows => .tuple [.str (tabW b), .tuple (xs.map .str), .tuple (rows.map rowD)]
  | .top xs r => .tuple [.str "top", .tuple (xs.map .str), .str r]
  | .ahead xs ys => .tuple [.str "ahead", .tuple (xs.map .str), .tuple (ys.map .str)]
  | .claim d _ _ => .tuple [.str "claim", d]
  | .when d _ _ s => .tuple [.str "when", d, sayD s]
def Say.names : Say → List Str
  | .sums _ ts _ => ts.map (·.1)
  | .unlike xs => xs
  | .counts xs _ => xs
  | .tab _ xs _ => xs
  | .top xs r => r :: xs
  | .ahead xs ys => xs ++ ys
  | .claim _ _ ns => ns
  | .when _ _ ns s => ns ++ s.names
def wt (n : Int) : Prop := -(2 ^ 64) < n ∧ n < 2 ^ 64
def Say.isWhen : Say → Bool
  | .when .. => true
  | _ => false
/-- least alone is asked here, of the sums -/
def Say.ok : Say → Prop
  | .sums b ts _ => b = true ∧ ts.length ≤ 100 ∧ ∀ t ∈ ts, wt t.2
  | .unlike xs => xs.length ≤ 100
  | .counts xs ts => xs.length ≤ 100 ∧ ts.length ≤ 100
  | .tab _ xs rows => xs.length ≤ 100 ∧ rows.length ≤ 1000
  | .top xs _ => 0 < xs.length ∧ xs.length ≤ 100 ∧ ∀ x ∈ xs, okS x
  | .ahead xs ys => xs.length = ys.length ∧ xs.length ≤ 100
  | .claim d f ns => ClD ns 8 d f
  | .when d f ns s => ClD ns 8 d f ∧ s.isWhen = false ∧ s.ok
def weigh (w : Str → Int) (ts : List (Str × Int)) : Int := (ts.map fun t => t.2 * w t.1).sum
def numb (w : Str → Int) (xs : List Str) (v : Int) : Nat := (xs.map w).count v
def cntOk (w : Str → Int) (xs : List Str) (t : Int × Int × Int) : Bool := decide (t.2.1 ≤ (numb w xs t.1 : Nat)) && decide (((numb w xs t.1 : Nat) : Int) ≤ t.2.2)
def leL : List Int → List Int → Bool
  | a :: as, b :: bs => if a = b then leL as bs else decide (a < b)
  | [], _ => true
  | _ :: _, [] => false
def holdP (w : Str → Int) : Say → Bool
  | .sums b ts n => if b = true then decide (n ≤ weigh w ts) else decide (weigh w ts = n)
  | .unlike xs => decide ((xs.map w).Nodup)
  | .counts xs ts => ts.all (cntOk w xs)
  | .tab b xs rows => rows.any (fun row => decide (row = xs.map w)) == b
  | .top xs r => xs.all (fun x => !decide (w r < w x)) && xs.any (fun x => decide (w x = w r))
  | .ahead xs ys => leL (xs.map w) (ys.map w)
  | .claim _ f _ => f w
  | .when _ f _ s => !f w || holdP w s
theorem is_pair {H : Hp} {v : V} {t : Str × Int} (h : Is H (trD t) v) : ∃ a, v = .ref a ∧ H a = some (.tup [.str t.1, .int t.2]) := by
  obtain ⟨a, vs, rfl, e, h⟩ := h.tup_inv
  cases h with
  | cons h1 h =>
    cases h with
    | cons h2 h =>
      cases h
      cases h1
      cases h2
      exact ⟨a, rfl, e⟩
theorem is_tri {H : Hp} {v : V} {t : Int × Int × Int} (h : Is H (ctD t) v) : ∃ a, v = .ref a ∧ H a = some (.tup [.int t.1, .int t.2.1, .int t.2.2]) := by
  obtain ⟨a, vs, rfl, e, h⟩ := h.tup_inv
  cases h with
  | cons h1 h =>
    cases h with
    | cons h2 h =>
      cases h with
      | cons h3 h =>
        cases h
        cases h1
        cases h2
        cases h3
        exact ⟨a, rfl, e⟩
theorem is_sums {H : Hp} {v : V} {b : Bool} {ts : List (Str × Int)} {n : Int} (h : Is H (sayD (.sums b ts n)) v) : ∃ a c, v = .ref a ∧ H a = some (.tup [.str (sumW b), .ref c, .int n]) ∧ Is H (.tuple (ts.map trD)) (.ref c) := by
  obtain ⟨a, vs, rfl, e, h⟩ := h.tup_inv
  cases h with
  | cons h1 h =>
    cases h with
    | cons h2 h =>
      cases h with
      | cons h3 h =>
        cases h
        cases h1
        cases h3
        have h2' := h2
        obtain ⟨c, _, rfl, _, _⟩ := h2.tup_inv
        exact ⟨a, c, rfl, e, h2'⟩
theorem is_unlike {H : Hp} {v : V} {xs : List Str} (h : Is H (sayD (.unlike xs)) v) : ∃ a b, v = .ref a ∧ H a = some (.tup [.str "unlike", .ref b]) ∧ H b = some (.tup (xs.map V.str)) := by
  obtain ⟨a, vs, rfl, e, h⟩ := h.tup_inv
  cases h with
  | cons h1 h =>
    cases h with
    | cons h2 h =>
      cases h
      cases h1
      obtain ⟨b, v2, rfl, e2, t2⟩ := h2.tup_inv
      rw [t2.strs_inv] at e2
      exact ⟨a, b, rfl, e, e2⟩
theorem is_counts {H : Hp} {v : V} {xs : List Str} {ts : List (Int × Int × Int)} (h : Is H (sayD (.counts xs ts)) v) : ∃ a b c vs, v = .ref a ∧ H a = some (.tup [.str "counts", .ref b, .ref c]) ∧ H b = some (.tup (xs.map V.str)) ∧ H c = some (.tup vs) ∧ IsAll H (ts.map ctD) vs := by
  obtain ⟨a, vs, rfl, e, h⟩ := h.tup_inv
  cases h with
  | cons h1 h =>
    cases h with
    | cons h2 h =>
      cases h with
      | cons h3 h =>
        cases h
        cases h1
        obtain ⟨b, v2, rfl, e2, t2⟩ := h2.tup_inv
        obtain ⟨c, v3, rfl, e3, t3⟩ := h3.tup_inv
        rw [t2.strs_inv] at e2
        exact ⟨a, b, c, v3, rfl, e, e2, e3, t3⟩
theorem is_row {H : Hp} {v : V} {t : List Int} (h : Is H (rowD t) v) : ∃ a, v = .ref a ∧ H a = some (.tup (t.map V.int)) := by
  obtain ⟨a, vs, rfl, e, h⟩ := h.tup_inv
  rw [h.ints_inv] at e
  exact ⟨a, rfl, e⟩
theorem is_tab {H : Hp} {v : V} {b : Bool} {xs : List Str} {rows : List (List Int)} (h : Is H (sayD (.tab b xs rows)) v) : ∃ a p c vs, v = .ref a ∧ H a = some (.tup [.str (tabW b), .ref p, .ref c]) ∧ H p = some (.tup (xs.map V.str)) ∧ H c = some (.tup vs) ∧ IsAll H (rows.map rowD) vs := by
  obtain ⟨a, vs, rfl, e, h⟩ := h.tup_inv
  cases h with
  | cons h1 h =>
    cases h with
    | cons h2 h =>
      cases h with
      | cons h3 h =>
        cases h
        cases h1
        obtain ⟨b, v2, rfl, e2, t2⟩ := h2.tup_inv
        obtain ⟨c, v3, rfl, e3, t3⟩ := h3.tup_inv
        rw [t2.strs_inv] at e2
        exact ⟨a, b, c, v3, rfl, e, e2, e3, t3⟩
theorem is_top {H : Hp} {v : V} {xs : List Str} {r : Str} (h : Is H (sayD (.top xs r)) v) : ∃ a p, v = .ref a ∧ H a = some (.tup [.str "top", .ref p, .str r]) ∧ H p = some (.tup (xs.map V.str)) := by
  obtain ⟨a, vs, rfl, e, h⟩ := h.tup_inv
  cases h with
  | cons h1 h =>
    cases h with
    | cons h2 h =>
      cases h with
      | cons h3 h =>
        cases h
        cases h1
        cases h3
        obtain ⟨b, v2, rfl, e2, t2⟩ := h2.tup_inv
        rw [t2.strs_inv] at e2
        exact ⟨a, b, rfl, e, e2⟩
theorem is_ahead {H : Hp} {v : V} {xs ys : List Str} (h : Is H (sayD (.ahead xs ys)) v) : ∃ a p q, v = .ref a ∧ H a = some (.tup [.str "ahead", .ref p, .ref q]) ∧ H p = some (.tup (xs.map V.str)) ∧ H q = some (.tup (ys.map V.str)) := by
  obtain ⟨a, vs, rfl, e, h⟩ := h.tup_inv
  cases h with
  | cons h1 h =>
    cases h with
    | cons h2 h =>
      cases h with
      | cons h3 h =>
        cases h
        cases h1
        obtain ⟨b, v2, rfl, e2, t2⟩ := h2.tup_inv
        obtain ⟨c, v3, rfl, e3, t3⟩ := h3.tup_inv
        rw [t2.strs_inv] at e2
        rw [t3.strs_inv] at e3
        exact ⟨a, b, c, rfl, e, e2, e3⟩
theorem is_one {H : Hp} {v : V} {x : Str} {n : Int} {b : Bool} (h : Is H (.tuple [.str (atW b), .str x, .int n]) v) : ∃ a, v = .ref a ∧ H a = some (.tup [.str (atW b), .str x, .int n]) := by
  obtain ⟨a, vs, rfl, e, h⟩ := h.tup_inv
  cases h with
  | cons h1 h =>
    cases h with
    | cons h2 h =>
      cases h with
      | cons h3 h =>
        cases h
        cases h1
        cases h2
        cases h3
        exact ⟨a, rfl, e⟩
theorem is_two {H : Hp} {v : V} {x : Str} {d : PyData} (h : Is H (.tuple [.str x, d]) v) : ∃ a u, v = .ref a ∧ H a = some (.tup [.str x, u]) ∧ Is H d u := by
  obtain ⟨a, vs, rfl, e, h⟩ := h.tup_inv
  cases h with
  | cons h1 h =>
    cases h with
    | cons h2 h =>
      cases h
      cases h1
      exact ⟨a, _, rfl, e, h2⟩
theorem is_three {H : Hp} {v : V} {x : Str} {d d' : PyData} (h : Is H (.tuple [.str x, d, d']) v) : ∃ a u u', v = .ref a ∧ H a = some (.tup [.str x, u, u']) ∧ Is H d u ∧ Is H d' u' := by
  obtain ⟨a, vs, rfl, e, h⟩ := h.tup_inv
  cases h with
  | cons h1 h =>
    cases h with
    | cons h2 h =>
      cases h with
      | cons h3 h =>
        cases h
        cases h1
        exact ⟨a, _, _, rfl, e, h2, h3⟩
theorem lay_ints : ∀ ns : List Int, PyData.canLayAll0 (ns.map .int) = true
  | [] => by simp [PyData.canLayAll0]
  | n :: ns => by simp [PyData.canLayAll0, PyData.canLay0, lay_ints ns]
theorem lay_strs : ∀ ns : List Str, (∀ x ∈ ns, okS x) → PyData.canLayAll0 (ns.map .str) = true
  | [], _ => by simp [PyData.canLayAll0]
  | n :: ns, h => by
    have h1 : PyData.canLay0 (.str n) = true := h n (List.mem_cons_self ..)
    simp [PyData.canLayAll0, h1, lay_strs ns fun x hx => h x (List.mem_cons_of_mem _ hx)]
theorem deep_ints : ∀ ns : List Int, PyData.depthAll (ns.map .int) ≤ 1
  | [] => by simp [PyData.depthAll]
  | n :: ns => by
    have := deep_ints ns
    simp only [List.map_cons, PyData.depthAll, PyData.depth]
    omega
theorem deep_strs : ∀ ns : List Str, PyData.depthAll (ns.map .str) ≤ 1
  | [] => by simp [PyData.depthAll]
  | n :: ns => by
    have := deep_strs ns
    simp only [List.map_cons, PyData.depthAll, PyData.depth]
    omega
theorem lay_rows : ∀ ts : List (List Int), PyData.canLayAll0 (ts.map rowD) = true
  | [] => by simp [PyData.canLayAll0]
  | t :: ts => by simp [rowD, PyData.canLayAll0, PyData.canLay0, lay_ints t, lay_rows ts]
theorem deep_rows : ∀ ts : List (List Int), PyData.depthAll (ts.map rowD) ≤ 3
  | [] => by simp [PyData.depthAll]
  | t :: ts => by
    have h3 := deep_rows ts
    have h4 := deep_ints t
    simp only [List.map_cons, rowD, PyData.depthAll, PyData.depth]
    omega
theorem lay_tris : ∀ ts : List (Int × Int × Int), PyData.canLayAll0 (ts.map ctD) = true
  | [] => by simp [PyData.canLayAll0]
  | t :: ts => by simp [ctD, PyData.canLayAll0, PyData.canLay0, lay_tris ts]
theorem deep_tris : ∀ ts : List (Int × Int × Int), PyData.depthAll (ts.map ctD) ≤ 3
  | [] => by simp [PyData.depthAll]
  | t :: ts => by
    have h3 := deep_tris ts
    simp only [List.map_cons, ctD, PyData.depthAll, PyData.depth]
    omega
theorem row_shaped (t : List Int) : SeqAt.shaped (rowD t) = true := by
  have h4 := deep_ints t
  have h : (rowD t).depth ≤ 64 := by
    simp only [rowD, PyData.depth]
    omega
  show ((rowD t).canLay0 && decide ((rowD t).depth ≤ 64)) = true
  rw [decide_eq_true h, Bool.and_true]
  simp only [rowD, PyData.canLay0, lay_ints t]
theorem rows_shaped (ts : List (List Int)) : SeqAt.shaped (.tuple (ts.map rowD)) = true := by
  have h4 := deep_rows ts
  have h : (PyData.tuple (ts.map rowD)).depth ≤ 64 := by
    simp only [PyData.depth]
    omega
  show ((PyData.tuple (ts.map rowD)).canLay0 && decide ((PyData.tuple (ts.map rowD)).depth ≤ 64)) = true
  rw [decide_eq_true h, Bool.and_true]
  simp only [PyData.canLay0, lay_rows ts]
/-! ### x in t, t a tuple of data -/
def rInT (K : PySem.W.Frag) : R2 := fun x y H Q => ∃ d ds, Dp K H x d ∧ Dp K H y (.tuple ds) ∧ SeqAt.shaped d = true ∧ SeqAt.shaped (.tuple ds) = true ∧ Q (.bl (ds.any fun z => PyData.eqv z d)) H
theorem op_inT {X : Cx} (hu : X.A.units + 65 < cLine) : OpR X (compareOp .In) (rInT X.K) := by
  intro pins s σ H x y v u Q I rx ry h
  obtain ⟨d, ds, hd, he, sd, se, q⟩ := h
  obtain ⟨as, r1⟩ := Dp.reads I d x v hd rx
  obtain ⟨bs, r2⟩ := Dp.reads I (.tuple ds) y u he ry
  exact SeqAt.in_tuple_reads r2 r1 (SeqAt.canLay_of_shaped se) (SeqAt.canLay_of_shaped sd) (room_in_shaped sd hu) ⟨.bl _, H, I, rfl, q⟩
theorem rows_eqv (a b : List Int) : PyData.eqv (rowD a) (rowD b) = decide (a = b) := by
  unfold rowD
  rw [PyData.eqv]
  exact PySem.W.ked_eqvAll a b
end AW
/-! a dict comprehension that is given to a name -/
namespace AW
open PySem PySem.Spec PyProof.Rows L2 RZ
section
variable {X : Cx}
theorem ps_setDc {i : Nat} {y : Str} {py : Pos} {kx vx tg iter : Expr} {ifs : List Expr} {scope : Scope} {own : List (Str × Nat)} {pos spos : Pos} {wi : TI} {g : TG} {tt : TT} {tk tv : TE}
    (hc : X.calm = true) (hN : X.N.Nodup) (hy : X.N[i]? = some y) (hyl : X.env.scope.names.lookup y = some .local)
    (hsw : swapsWith (.DictComp kx vx [⟨tg, iter, ifs, 0⟩] scope pos) (some (.Name y py)) spos.line X.env = pure true)
    (hi : PI X tg iter wi) (ok : BlkOk X.N X.env.scope scope own)
    (hg : ∀ s H C cl fp, PG (X.blk s H scope (compEnvC scope cl C X.env) fp) tg g)
    (ht : ∀ s H C cl fp, PTs (X.blk s H scope (compEnvC scope cl C X.env) fp) ifs tt)
    (hk : ∀ s H C cl fp, PE (X.blk s H scope (compEnvC scope cl C X.env) fp) kx tk)
    (hv : ∀ s H C cl fp, PE (X.blk s H scope (compEnvC scope cl C X.env) fp) vx tv)
    (hs : ∀ x, foldedSetIterable iter X.env x = pure x := by intro _; rfl) :
    PS X (.Assign [.Name y py] (.DictComp kx vx [⟨tg, iter, ifs, 0⟩] scope pos) spos) (tAsg (tDc wi g tt tk tv (own.map (·.2))) (gName i)) := by
  constructor
  intro pins s σ H D I h
  have h2 : tDc wi g tt tk tv (own.map (·.2)) σ H (fun x H1 => D.nx (σ.set i (some x)) H1) := h
  have core := dc_core (use := some (assign (.Name y py) X.env)) (pos' := firstIterPos [⟨tg, iter, ifs, 0⟩] pos) (pos := pos) (Qf := fun _ s' => SP X pins D .next s') hc hN I hi ok hg ht hk hv hs h2 fun L C s' m H' I' q hn f => ?_
  · rw [exec_Assign_Name_used _ _ _ _ hsw]
    apply wpAny_bind
    apply wpAny_standAt
    apply wpAny_bind
    show wpAny _ X.A (do let _ ← comprehension (.DictComp kx vx [⟨tg, iter, ifs, 0⟩] scope pos) scope X.env (firstIterPos [⟨tg, iter, ifs, 0⟩] pos) newDict false (eval iter X.env) (some (assign (.Name y py) X.env))) _ _ s
    apply wpAny_bind
    exact thn core fun _ s' hq => wpAny_pure (wpAny_pure hq)
  · show wpAny _ _ (assign (.Name y py) X.env (.ref L)) _ _ _
    apply wpAny_assign_Name
    refine store_ok2 (v := V.ref L) I' hN hy (.inl hyl) rfl (fun s2 I2 z => ?_) (.inr hyl)
    obtain ⟨a, sb, ha⟩ := z
    obtain ⟨f0, f1, f2, f3, f4, f5⟩ := f
    have hCa : C ≠ a := by
      rcases ha with z | z
      · rw [z]
        exact f1
      · exact fun e => f4 y a z e.symm
    refine ⟨m, hn.sameBut sb hCa, fun h3 sb3 => ?_⟩
    exact ⟨σ.set i (some (.ref L)), H', I2.turned (t' := s2.toks) (fun b o hb e => (sb3.2 b hb).trans e) f0 f1 f3 f4 f5, q⟩
theorem sw_trueD {kx vx : Expr} {gs : List Comprehension} {scope : Scope} {pos py : Pos} {y : Str} {l : Nat} {env : Env} (hk : env.scope.kind = .function) (hy : env.scope.names.lookup y = some .local) (hl : (py.line == pos.line) = true)
    (ha : (scope.names.any fun (n, k) => n == y && (k == .local || k == .cell)) = false) : swapsWith (.DictComp kx vx gs scope pos) (some (.Name y py)) l env = pure true := by
  have e1 : env.kindOf y = some .local := hy
  have e2 : env.blockKind = .function := by
    unfold Env.blockKind
    rw [hk]
    rfl
  unfold swapsWith
  simp only [e2, e1, ha, Expr.pos, hl]
  rfl
end
/-! ### models -/
def itD (p : Str × Say) : PyData := .tuple [.str p.1, sayD p.2]
def sfD (p : Str × Say × Int) : PyData := .tuple [.str p.1, sayD p.2.1, .int p.2.2]
def domD (p : Str × List Int) : PyData := .tuple [.str p.1, .tuple (p.2.map .int)]
def modD (doms : List (Str × List Int)) (firm : List (Str × Say)) (soft : List (Str × Say × Int)) : PyData := .tuple [.tuple (doms.map domD), .tuple (firm.map itD), .tuple (soft.map sfD)]
/-- the world of a filling -/
def wOf (names : List Str) (f : List Int) (x : Str) : Int := f.getD (names.idxOf x) 0
theorem is_mod {H : Hp} {v : V} {doms : List (Str × List Int)} {firm : List (Str × Say)} {soft : List (Str × Say × Int)} (h : Is H (modD doms firm soft) v) :
    ∃ a b c d xs ys zs, v = .ref a ∧ H a = some (.tup [.ref b, .ref c, .ref d]) ∧ H b = some (.tup xs) ∧ IsAll H (doms.map domD) xs ∧ H c = some (.tup ys) ∧ IsAll H (firm.map itD) ys ∧ H d = some (.tup zs) ∧ IsAll H (soft.map sfD) zs := by
  obtain ⟨a, vs, rfl, e, h⟩ := h.tup_inv
  cases h with
  | cons h1 h =>
    cases h with
    | cons h2 h =>
      cases h with
      | cons h3 h =>
        cases h
        obtain ⟨b, xs, rfl, e1, t1⟩ := h1.tup_inv
        obtain ⟨c, ys, rfl, e2, t2⟩ := h2.tup_inv
        obtain ⟨d, zs, rfl, e3, t3⟩ := h3.tup_inv
        exact ⟨a, b, c, d, xs, ys, zs, rfl, e, e1, t1, e2, t2, e3, t3⟩
theorem is_dom {H : Hp} {v : V} {p : Str × List Int} (h : Is H (domD p) v) : ∃ a b, v = .ref a ∧ H a = some (.tup [.str p.1, .ref b]) ∧ H b = some (.tup (p.2.map V.int)) := by
  obtain ⟨a, vs, rfl, e, h⟩ := h.tup_inv
  cases h with
  | cons h1 h =>
    cases h with
    | cons h2 h =>
      cases h
      cases h1
      obtain ⟨b, v2, rfl, e2, t2⟩ := h2.tup_inv
      rw [t2.ints_inv] at e2
      exact ⟨a, b, rfl, e, e2⟩
/-- an item of a model's lists: its name, its saying -/
def ItAt (H : Hp) (n : Str) (s : Say) (sv : V) (v : V) : Prop := ∃ a rest, v = .ref a ∧ H a = some (.tup (.str n :: sv :: rest)) ∧ Is H (sayD s) sv
theorem is_it {H : Hp} {v : V} {p : Str × Say} (h : Is H (itD p) v) : ∃ sv, ItAt H p.1 p.2 sv v := by
  obtain ⟨a, vs, rfl, e, h⟩ := h.tup_inv
  cases h with
  | cons h1 h =>
    cases h with
    | cons h2 h =>
      cases h
      cases h1
      exact ⟨_, a, _, rfl, e, h2⟩
theorem is_sf {H : Hp} {v : V} {p : Str × Say × Int} (h : Is H (sfD p) v) : ∃ sv, ItAt H p.1 p.2.1 sv v := by
  obtain ⟨a, vs, rfl, e, h⟩ := h.tup_inv
  cases h with
  | cons h1 h =>
    cases h with
    | cons h2 h =>
      cases h1
      exact ⟨_, a, _, rfl, e, h2⟩
/-- the items one after the other, their sayings' values beside -/
theorem items_of {H : Hp} : ∀ {all : List (Str × Say)} {xs : List V}, xs.length = all.length → (∀ (i : Nat) p x, all[i]? = some p → xs[i]? = some x → ∃ sv, ItAt H p.1 p.2 sv x) →
    ∃ svs : List V, svs.length = all.length ∧ ∀ (i : Nat) p x sv, all[i]? = some p → xs[i]? = some x → svs[i]? = some sv → ItAt H p.1 p.2 sv x
  | [], [], _, _ => ⟨[], rfl, fun i p x sv e => by simp at e⟩
  | p :: all, x :: xs, hl, h => by
    obtain ⟨sv, h0⟩ := h 0 p x rfl rfl
    obtain ⟨svs, h1, h2⟩ := items_of (all := all) (xs := xs) (Nat.succ.inj hl) fun i q y e1 e2 => h (i + 1) q y (by simpa using e1) (by simpa using e2)
    refine ⟨sv :: svs, by simp [h1], fun i q y tv e1 e2 e3 => ?_⟩
    cases i with
    | zero =>
      simp at e1 e2 e3
      subst e1 e2 e3
      exact h0
    | succ i => exact h2 i q y tv (by simpa using e1) (by simpa using e2) (by simpa using e3)
  | [], _ :: _, hl, _ => by simp at hl
  | _ :: _, [], hl, _ => by simp at hl
theorem nodup_inj {α : Type} {l : List α} (h : l.Nodup) {i j : Nat} {x : α} (a : l[i]? = some x) (b : l[j]? = some x) : i = j := L2.nd_ix h a b
end AW
/-! a set that a comprehension makes of ints -/
namespace AW
open PySem PySem.Spec PyProof.Rows L2 PpSet
section
variable {X : Cx} {pins : List (Addr × Obj)} {H : Hp} {s : Shared} {σ : L2.St}
/-- one int more -/
theorem si_add {E : Value → Shared → Prop} {D : Addr} {S : Int → Bool} {n : Nat} {k : Int} {u : Value} {Q : Value → Shared → Prop} (iv : Inv X pins σ H s) (at_ : H D = some (SetO X.w D S n)) (hn : n + 1 < scanBound) (ru : RelV (.int k) u)
    (fin : ∀ t, Inv X pins σ (upd H D (SetO X.w D (fun j => S j || decide (j = k)) (if S k = true then n else n + 1))) t → Q .none t) : wpAny (model X.prog X.w) X.A (call (.builtin "set.add") [.ref D, u]) Q E s := by
  obtain ⟨tk, rfl⟩ := ru
  refine setR_add (setO_get iv at_) hn fun hp same more => fin _ ?_
  obtain ⟨o, es, ep, tb, found, rest⟩ := more
  exact iv.write (e := D) (t' := s.toks + 1) (by rw [at_]; trivial) (.inl rfl) (fun b x nb eb => (same.2 b nb).trans eb) ⟨o, found⟩ (setO_new ⟨o, es, ep, tb, found, rest⟩)
/-- what each turn asks: D is the set that grows -/
def SiTurns (w : World) (J : It) (g : TG) (tt : TT) (te : TE) (vs : List Nat) (σ : L2.St) (D : Addr) (W : Nat → Nat → Hp → Prop) (Z : Hp → Prop) : Prop := ∀ i m H, W i m H →
  (J.stop i H ∧ Z H) ∨ (J.go i H ∧ ∃ Nx : Hp → Prop, (∀ H', Nx H' → ∃ m', m' < m ∧ W (i + 1) m' H') ∧ ∀ x H', J.yld i H x H' → g x (wipe σ vs) H' fun σ2 H2 => wipe σ2 vs = wipe σ vs ∧ tt σ2 H2 fun b H3 =>
    if b = true then te σ2 H3 fun y H4 => ∃ (c : Int) (S : Int → Bool) (n : Nat), y = .int c ∧ H4 D = some (SetO w D S n) ∧ n + 1 < scanBound ∧ Nx (upd H4 D (SetO w D (fun j => S j || decide (j = c)) (if S c = true then n else n + 1))) else Nx H3)
def tSi (w : World) (wi : TI) (g : TG) (tt : TT) (te : TE) (vs : List Nat) : TE := fun σ H Q => wi σ H fun J H1 => ∀ D, H1 D = none → ∃ W : Nat → Nat → Hp → Prop, (∃ m, W 0 m (upd H1 D (SetO w D (fun _ => false) 0))) ∧ SiTurns w J g tt te vs σ D W (Q (.ref D))
/-- the block's turns, from its start on -/
theorem si_loop {Z : Hp → Prop} {elt tg iter : Expr} {ifs : List Expr} {scope : Scope} {own : List (PySem.Str × Nat)} {pos : Pos} {J : It} {g : TG} {tt : TT} {te : TE} {ce : Env} {s3 s4 : Shared} {H3 : Hp} {fp : List Addr} {it D : Addr} {tn : Nat → Heap → Prop} {W : Nat → Nat → Hp → Prop} {R : Result → Shared → Prop} {m0 : Nat}
    (calm : X.calm = true) (tu : Turn X.prog X.w X.K tg J fp it tn) (pg : PG (X.blk s3 H3 scope ce fp) tg g) (pt : PTs (X.blk s3 H3 scope ce fp) ifs tt) (pe : PE (X.blk s3 H3 scope ce fp) elt te)
    (iv : Inv (X.blk s3 H3 scope ce fp) [] (wipe σ (own.map (·.2))) H3 s4) (st : tn 0 s4.heap) (nf : ∀ b ∈ fp, H3 b = none) (w0 : W 0 m0 H3) (turns : SiTurns X.w J g tt te (own.map (·.2)) σ D W Z)
    (fin : ∀ t H', Inv (X.blk s3 H3 scope ce fp) [] (wipe σ (own.map (·.2))) H' t → Z H' → R (.ok .next) t) :
    codeAny (model X.prog X.w) X.A (.compLoop (.SetComp elt [⟨tg, iter, ifs, 0⟩] scope pos) 0 (.ref it) (.ref D) ce) R s4 := by
  have quiet : ∀ {τ : L2.St} {G : Hp} {t : Shared}, Inv (X.blk s3 H3 scope ce fp) [] τ G t → (∀ b ∈ fp, G b = none) → ∀ b ∈ fp, FpOk (X.blk s3 H3 scope ce fp) [] G b := fun {_ G _} jv nb b hb => by
    have q := jv.ok.exf b hb
    refine ⟨nb b hb, q.1, jv.ok.exfs b hb, .inl hb, fun x c e => q.2 x c e, fun p hp => ?_⟩
    exact nomatch (show p ∈ ([] : List (Addr × Obj)) ++ [] from hp)
  refine compLoopS_any (fun m t => ∃ i G, W i m G ∧ tn i t.heap ∧ (∀ b ∈ fp, G b = none) ∧ Inv (X.blk s3 H3 scope ce fp) [] (wipe σ (own.map (·.2))) G t) ?_ m0 ⟨0, H3, w0, st, nf, iv⟩
  rintro m t ⟨i, G, wi, ti, ni, jv⟩
  cases turns i m G wi with
  | inl over =>
    refine thnF (tu.done (X.blk s3 H3 scope ce fp) rfl rfl rfl calm i [] t _ G (fun _ _ => False) jv (quiet jv ni) ti over.1) fun r t2 z => ?_
    cases z.1
    exact fin t2 G z.2 over.2
  | inr more =>
    obtain ⟨on, Nx, back, step⟩ := more
    refine thnF (tu.item (X.blk s3 H3 scope ce fp) rfl rfl rfl calm i [] t _ G (fun _ _ => False) jv (quiet jv ni) ti on) fun r t2 z => ?_
    obtain ⟨u, rfl, got⟩ := z
    refine thnF got fun _ t3 z => ?_
    obtain ⟨x, G3, jv3, rx, yx, ti3, ni3⟩ := z
    have hold := jv3.pinned (quiet jv3 ni3) (tu.obj _ _ ti3)
    -- what a turn leaves is where the next one begins
    have next : ∀ {τ : L2.St} {t' : Shared} {G' : Hp}, wipe τ (own.map (·.2)) = wipe σ (own.map (·.2)) → Inv (X.blk s3 H3 scope ce fp) ([] ++ pinsAt fp t3.heap) τ G' t' → Nx G' → ∃ m', m' < m ∧ ∃ i G, W i m' G ∧ tn i t'.heap ∧ (∀ b ∈ fp, G b = none) ∧ Inv (X.blk s3 H3 scope ce fp) [] (wipe σ (own.map (·.2))) G t' := by
      intro τ t' G' same kv nx
      obtain ⟨m', less, w'⟩ := back G' nx
      have pin : ∀ b ∈ fp, ∀ o, t3.heap.get? b = some o → t'.heap.get? b = some o ∧ G' b = none := fun b hb o e => by
        have q := kv.pin (b, o) (List.mem_append_right _ (List.mem_append_right _ (mem_pinsAt hb e)))
        exact ⟨q.1, q.2.1⟩
      refine ⟨m', less, i + 1, G', w', tu.keep _ _ _ ti3 fun b hb o e => (pin b hb o e).1, fun b hb => ?_, (kv.unpinned (pins := [])).weak ?_ fun j v e => ?_⟩
      · obtain ⟨o, e, _⟩ := tu.obj _ _ ti3 b hb
        exact (pin b hb o e).2
      · rw [← wipe_length (σ := τ) (vs := own.map (·.2)), same]
      · rw [← same] at e
        exact (wipe_some e).1
    refine thnF (pg.run _ t3 _ G3 x u _ hold rx (step x G3 yx)) fun _ t4 z => ?_
    obtain ⟨τ, G4, jv4, same, z⟩ := z
    refine thnF (pt.run _ t4 τ G4 _ jv4 z) fun b t5 z => ?_
    obtain ⟨G5, jv5, z⟩ := z
    cases b with
    | false => exact next same jv5 z
    | true =>
      refine thnF (pe.run _ t5 τ G5 _ jv5 z) fun v t6 z => ?_
      obtain ⟨y, G6, jv6, ry, c, S, n, rfl, eD, room, nx⟩ := z
      exact si_add (X := X.blk s3 H3 scope ce fp) jv6 eD room ry fun t7 jv7 => next same jv7 nx
/-- {elt for target in iter if ..} as a value -/
theorem pe_si {elt tg iter : Expr} {ifs : List Expr} {scope : Scope} {own : List (PySem.Str × Nat)} {pos : Pos} {wi : TI} {g : TG} {tt : TT} {te : TE} (calm : X.calm = true) (nod : X.N.Nodup) (hi : PI X tg iter wi) (blk : BlkOk X.N X.env.scope scope own)
    (hg : ∀ t G C cl fp, PG (X.blk t G scope (compEnvC scope cl C X.env) fp) tg g) (ht : ∀ t G C cl fp, PTs (X.blk t G scope (compEnvC scope cl C X.env) fp) ifs tt) (he : ∀ t G C cl fp, PE (X.blk t G scope (compEnvC scope cl C X.env) fp) elt te)
    (plain : ∀ x, foldedSetIterable iter X.env x = pure x := by intro _; rfl) : PE X (.SetComp elt [⟨tg, iter, ifs, 0⟩] scope pos) (tSi X.w wi g tt te (own.map (·.2))) := by
  refine ⟨fun pins s σ H Q iv want => ?_⟩
  have cells : ∀ y ∈ scope.names, y.2 = .free → ∃ c, X.env.cells.lookup y.1 = some c := fun y hy e => (blk.free y hy e).elim (fun q => iv.ok.has _ (.inl q)) fun q => iv.ok.has _ (.inr q)
  rw [PpSet.eval_SetComp]
  refine wpAny_comprehension_free (use := none) rfl plain (closure_ok cells) blk.kind (fun y hy e => by rw [blk.uniq y hy, e]) (thn (hi.run pins s σ H _ iv want) fun xv s1 q1 => thn q1 fun itv s2 q2 => ?_)
  obtain ⟨it, fp, tn, J, H2, rfl, iv2, tu, st, far, q⟩ := q2
  refine newSet_ok (newEnv_comp ?_)
  have fresh : H2 s2.heap.objs.size = none := iv2.hok.fresh (Nat.le_refl _)
  obtain ⟨W, ⟨m0, w0⟩, turns⟩ := q s2.heap.objs.size fresh
  generalize hs3 : ({ s2 with heap := s2.heap.push { cls := .type "set", dict := none, data := .set #[] 0 (.fresh 0 0 (!X.w.params.followText "set-order")) } } : Shared) = s3
  generalize hD : s2.heap.objs.size = D at *
  have h3 : ∀ b o, s2.heap.get? b = some o → s3.heap.get? b = some o := fun b o e => by rw [← hs3]; exact Heap.get?_push_of_some _ e
  have z3 : s3.heap.objs.size = D + 1 := by rw [← hs3, ← hD]; exact Heap.size_push ..
  have iv3 : Inv X pins σ (upd H2 D (SetO X.w D (fun _ => false) 0)) s3 := by
    rw [← hs3]
    refine iv2.laid (t' := s2.toks) (fun b o e => Heap.get?_push_of_some _ e) (Nat.le_of_eq hD) ?_
    rw [← hD]
    exact setO_new (setR_fresh X.w)
  have low : ∀ b ∈ fp, b < D := fun b hb => by
    obtain ⟨o, e, _⟩ := tu.obj _ _ st b hb
    rw [← hD]
    exact Heap.lt_size e
  generalize hH3 : upd H2 D (SetO X.w D (fun _ => false) 0) = H3 at iv3 w0
  have far3 : ∀ b ∈ fp, FpOk X pins H3 b ∧ b < s3.heap.objs.size := fun b hb => by
    have lt := low b hb
    refine ⟨⟨?_, (far b hb).2⟩, by rw [z3]; exact Nat.lt_succ_of_lt lt⟩
    rw [← hH3, upd_ne (Nat.ne_of_lt lt)]
    exact (far b hb).1
  have iv4 := block_start iv3 blk nod far3
  generalize hcl : cellsFrom (s3.heap.objs.size + 1) scope.names (cloFrom X.env.cells scope.names []) = cl at iv4
  have loc : (compEnvC scope cl s3.heap.objs.size X.env).locals = s3.heap.objs.size := rfl
  have run := si_loop (Z := Q (.ref D)) (iter := iter) (s4 := { s3 with heap := pushCells (s3.heap.push { cls := .type "dict", data := .dict #[] }) scope.names }) (pos := pos) (R := compPost (model X.prog X.w) X.A X.xe none (EP X pins σ Q) (.ref D) s3.heap.objs.size) calm tu
    (hg s3 H3 s3.heap.objs.size cl fp) (ht s3 H3 s3.heap.objs.size cl fp) (he s3 H3 s3.heap.objs.size cl fp) iv4 (tu.keep _ _ _ st fun b _ o e => pushCells_keeps _ _ _ _ (Heap.get?_push_of_some _ (h3 b o e))) (fun b hb => (far3 b hb).1.1) w0 turns fun t G jv z => ?_
  · subst hcl
    exact PpSet.codeAny_compStart_set run (tu.self X.A 0 _ _ _ (tu.keep _ _ _ st fun b _ o e => pushCells_keeps _ _ _ _ (Heap.get?_push_of_some _ (h3 b o e))) run)
  · -- out of the block
    have back : Inv X pins σ G t := iv3.call' (ch := fp) jv.os jv.base jv.hok jv.bare fun b hb => by
      have f := (far3 b hb).1.2
      exact ⟨f.2.2.1, f.1, f.2.2.2.1, f.2.2.2.2⟩
    have none_ : G s3.heap.objs.size = none := jv.free
    obtain ⟨m, ns, _⟩ := jv.loc
    refine ⟨m, ns, fun h'' sb => ?_⟩
    obtain ⟨f0, f1, f2, f3, f4, f5⟩ := iv3.fpOk (Nat.le_refl _) none_
    exact ⟨.ref D, G, back.turned (t' := t.toks) (fun b o hb e => (sb.2 b hb).trans e) f0 f1 f3 f4 f5, rfl, z⟩
end
section
variable {K : PySem.W.Frag} {w : World} {g : TG} {tt : TT} {te tl : TE} {vs : List Nat} {σ : L2.St} {Q : VK} {H H1 : Hp}
/-- len of a set of ints -/
def rLenS (w : World) : List V → Hp → VK → Prop := fun xs H Q => ∃ (a : Addr) (S : Int → Bool) (n : Nat), xs = [.ref a] ∧ H a = some (SetO w a S n) ∧ n ≤ 100000 ∧ Q (.int (n : Nat)) H
theorem call_lenS {X : Cx} : CallR X (.builtin "len") (rLenS X.w) := by
  intro pins s σ H xs us Q iv r want
  obtain ⟨a, S, n, rfl, at_, hn, q⟩ := want
  obtain ⟨u, rfl, ru⟩ := vals1 r
  cases ru
  obtain ⟨o, es, ep, tb, found, exact_, data, _, _, _, _, fits, size, _⟩ := setO_get iv at_
  exact call_len_set found exact_ data fits (by rw [size]; omega) ⟨.int n, H, iv.tok _, ⟨_, by rw [size]⟩, q⟩
def kSiT (K : PySem.W.Frag) (w : World) (g : TG) (tt : TT) (te : TE) (vs : List Nat) (σ : L2.St) (Q : VK) (x : V) (H1 : Hp) : Prop := ∃ a, x = .ref a ∧ (∃ xs, SqT K H1 a xs) ∧ ∀ D, H1 D = none → ∃ W : Nat → Nat → Hp → Prop, (∃ m, W 0 m (upd H1 D (SetO w D (fun _ => false) 0))) ∧ SiTurns w (Itt K a) g tt te vs σ D W (Q (.ref D))
theorem w_siT (h : tl σ H (kSiT K w g tt te vs σ Q)) : tSi w (iTup K tl) g tt te vs σ H Q := h
/-- over a tuple, without a test, the state of nothing changed: n members of m turns, all if they differ -/
theorem kSiT_ints {p : Addr} {xs : List V} (hp : H1 p = some (.tup xs)) (hn : xs.length ≤ 1000) (f : Nat → Int)
    (step : ∀ (i : Nat) x H (Kt : V → Hp → Prop), xs[i]? = some x → Adv [] H1 H → (∀ H4, Adv [] H H4 → Kt (.int (f i)) H4) → g x (wipe σ vs) H fun σ2 H2 => wipe σ2 vs = wipe σ vs ∧ te σ2 H2 Kt)
    (k : ∀ D H' S n, Adv [] H1 H' → H' D = some (SetO w D S n) → n ≤ xs.length → (n = xs.length ↔ ((List.range xs.length).map f).Nodup) → Q (.ref D) H') : kSiT K w g tYes te vs σ Q (.ref p) H1 := by
  refine ⟨p, rfl, ⟨xs, SqT.of hp⟩, fun D hD => ?_⟩
  have nt : ∀ (S : Int → Bool) n (ys : List V), SetO w D S n ≠ .tup ys := fun S n ys z => by unfold SetO at z; cases z
  refine ⟨fun i m H => m = xs.length - i ∧ i ≤ xs.length ∧ Adv [] H1 H ∧ ∃ S n, H D = some (SetO w D S n) ∧ n ≤ i ∧ (n = i ↔ ((List.range i).map f).Nodup) ∧ ∀ j, S j = true ↔ j ∈ (List.range i).map f,
    ⟨xs.length, rfl, Nat.zero_le _, Adv.new hD, _, 0, upd_same, Nat.le_refl _, ⟨fun _ => List.nodup_nil, fun _ => rfl⟩, fun j => by simp⟩, ?_⟩
  rintro i m H ⟨rfl, hi, ad, S, n, eD, hni, hnd, hS⟩
  have hp2 := SqT.of (K := K) (ad.tup _ _ hp)
  by_cases hlt : i < xs.length
  · refine .inr ⟨⟨xs, xs[i], hp2, by simp [hlt]⟩, fun H' => i + 1 ≤ xs.length ∧ Adv [] H1 H' ∧ ∃ S n, H' D = some (SetO w D S n) ∧ n ≤ i + 1 ∧ (n = i + 1 ↔ ((List.range (i + 1)).map f).Nodup) ∧ ∀ j, S j = true ↔ j ∈ (List.range (i + 1)).map f, fun H' p' => ⟨xs.length - (i + 1), by omega, rfl, p'⟩, fun x H' y => ?_⟩
    obtain ⟨e, y⟩ := y
    subst e
    refine step i x H' _ (y xs hp2) ad fun H4 a4 => ?_
    have e4 := a4.keep _ _ (fun z => nomatch z) eD
    have er : (List.range (i + 1)).map f = (List.range i).map f ++ [f i] := by rw [List.range_succ, List.map_append]; rfl
    refine ⟨f i, S, n, rfl, e4, Nat.lt_of_le_of_lt (show n + 1 ≤ 1001 by omega) (by decide), hlt, (ad.trans a4).mut hD e4 (nt _ _), _, _, upd_same, ?_, ?_, fun j => ?_⟩
    · split <;> omega
    · rw [er, List.nodup_append]
      cases hc : S (f i) with
      | true =>
        rw [if_pos rfl]
        refine ⟨fun z => by omega, fun z => ?_⟩
        exact absurd rfl (z.2.2 (f i) ((hS _).mp hc) (f i) (List.mem_singleton.mpr rfl))
      | false =>
        rw [if_neg (by decide)]
        have hc2 : f i ∉ (List.range i).map f := fun z => by rw [(hS _).mpr z] at hc; cases hc
        refine ⟨fun z => ⟨hnd.mp (by omega), by simp, fun a ha b hb => by rw [List.mem_singleton.mp hb]; exact fun e => hc2 (e ▸ ha)⟩, fun z => by have := hnd.mpr z.1; omega⟩
    · rw [er, List.mem_append, List.mem_singleton, Bool.or_eq_true, decide_eq_true_eq, hS]
  · have e : i = xs.length := by omega
    subst e
    exact .inl ⟨⟨xs, hp2, Nat.le_refl _⟩, k D H S n ad eD hni hnd⟩
end
end AW
/-! xs <= ys, lists of ints -/
namespace AW
open PySem PySem.Spec PyProof.Rows L2 RZ
open PySem.SeqAt (firstLt)
theorem firstLt_leL : ∀ (ns ms : List Int) (o : Nat) (N M : List Int), (∀ i, ns[i]? = N[o + i]?) → (∀ i, ms[i]? = M[o + i]?) →
    firstLt (fun j => decide (N.getD j 0 = M.getD j 0)) (fun j => decide (N.getD j 0 ≤ M.getD j 0)) (decide (ns.length ≤ ms.length)) ((List.range (min ns.length ms.length)).map (o + ·)) = leL ns ms
  | [], ms, o, N, M, _, _ => by
    rw [show min ([] : List Int).length ms.length = 0 by simp]
    show decide (0 ≤ ms.length) = leL [] ms
    rw [decide_eq_true (Nat.zero_le _)]
    cases ms <;> rfl
  | n :: ns, [], o, N, M, _, _ => by
    rw [show min (n :: ns).length ([] : List Int).length = 0 by simp]
    show decide ((n :: ns).length ≤ 0) = false
    rw [decide_eq_false (by simp)]
  | n :: ns, m :: ms, o, N, M, h1, h2 => by
    have ih := firstLt_leL ns ms (o + 1) N M (fun i => by rw [show o + 1 + i = o + (i + 1) by omega, ← h1]; rfl) (fun i => by rw [show o + 1 + i = o + (i + 1) by omega, ← h2]; rfl)
    have en : N.getD o 0 = n := by
      have := h1 0
      rw [Nat.add_zero] at this
      rw [List.getD_eq_getElem?_getD, ← this]
      rfl
    have em : M.getD o 0 = m := by
      have := h2 0
      rw [Nat.add_zero] at this
      rw [List.getD_eq_getElem?_getD, ← this]
      rfl
    have er : (List.range (min (n :: ns).length (m :: ms).length)).map (o + ·) = o :: (List.range (min ns.length ms.length)).map (o + 1 + ·) := by
      rw [show min (n :: ns).length (m :: ms).length = min ns.length ms.length + 1 by simp only [List.length_cons]; omega, List.range_succ_eq_map, List.map_cons, List.map_map, Nat.add_zero]
      congr 1
      refine List.map_congr_left fun k _ => ?_
      show o + (k + 1) = o + 1 + k
      omega
    have el : decide ((n :: ns).length ≤ (m :: ms).length) = decide (ns.length ≤ ms.length) := by
      rw [decide_eq_decide]
      simp only [List.length_cons]
      omega
    rw [er, el]
    show (if decide (N.getD o 0 = M.getD o 0) = true then _ else _) = if n = m then leL ns ms else decide (n < m)
    rw [en, em]
    by_cases h : n = m
    · rw [if_pos (decide_eq_true h), if_pos h]
      exact ih
    · rw [if_neg (by rw [decide_eq_false h]; decide), if_neg h, decide_eq_decide]
      omega
def rLeL (K : PySem.W.Frag) : R2 := fun x y H Q => ∃ (a b : Addr) (ns ms : List Int), x = .ref a ∧ y = .ref b ∧ SqL K H a (ns.map V.int) ∧ SqL K H b (ms.map V.int) ∧ Q (.bl (leL ns ms)) H
theorem op_leL {X : Cx} (hu : X.A.units < cLine) : OpR X (compareOp .LtE) (rLeL X.K) := by
  intro pins s σ H x y v u Q I rx ry h
  obtain ⟨a, b, ns, ms, rfl, rfl, ha, hb, q⟩ := h
  cases rx
  cases ry
  obtain ⟨its, r1, p1, _⟩ := I.list ha
  obtain ⟨its2, r2, p2, _⟩ := I.list hb
  have i1 : IntsAre its ns := Vals.ints r1
  have i2 : IntsAre its2 ms := Vals.ints r2
  have e1 : its.toArray.size = ns.length := by rw [List.size_toArray]; exact i1.length
  have e2 : its2.toArray.size = ms.length := by rw [List.size_toArray]; exact i2.length
  have at1 : ∀ j (h1 : j < its.toArray.size), ∃ t, its.toArray[j] = .int (ns.getD j 0) t := fun j h1 => PyProof.Rows.IntsAre.int_at i1 _ _ (by simp at h1; simp [h1])
  have at2 : ∀ j (h1 : j < its2.toArray.size), ∃ t, its2.toArray[j] = .int (ms.getD j 0) t := fun j h1 => PyProof.Rows.IntsAre.int_at i2 _ _ (by simp at h1; simp [h1])
  have R := SeqAt.RcOp.lists_le (A := X.A) (s := s) (e := fun j => decide (ns.getD j 0 = ms.getD j 0)) (r := fun j => decide (ns.getD j 0 ≤ ms.getD j 0)) p1.isList p2.isList hu (fun j h1 h2 => by
    obtain ⟨t, et⟩ := at1 j h1
    obtain ⟨t', et'⟩ := at2 j h2
    rw [et, et']
    have z : (ns.getD j 0 == ms.getD j 0) = decide (ns.getD j 0 = ms.getD j 0) := by
      rw [Bool.eq_iff_iff]; simp
    rw [← z]
    exact SeqAt.EqAt.int_int _ _ _ _) (fun j h1 h2 _ => by
    obtain ⟨t, et⟩ := at1 j h1
    obtain ⟨t', et'⟩ := at2 j h2
    rw [et, et']
    exact fun _ _ _ _ h => PyProof.Rows.le_int h)
  rw [e1, e2] at R
  have e3 := firstLt_leL ns ms 0 ns ms (fun i => by rw [Nat.zero_add]) (fun i => by rw [Nat.zero_add])
  rw [show (List.range (min ns.length ms.length)).map (0 + ·) = List.range (min ns.length ms.length) by
    rw [show ((0 : Nat) + ·) = id from funext fun k => Nat.zero_add k, List.map_id]] at e3
  rw [e3] at R
  have z : wpAny (model X.prog X.w) X.A (compareOp .LtE (.ref a) (.ref b)) (EP X pins σ Q) X.xe s := R X.prog X.w X.xe (EP X pins σ Q) ⟨.bl _, H, I, rfl, q⟩
  exact z
end AW
/-! sorted(d) of a dict whose keys are tuples of ints -/
namespace AW
open PySem PySem.Spec PyProof.Rows L2 RZ PySem.W
/-- what a key's object stands for -/
def RowIs (H : Hp) (p : Addr × List Int) : Prop := H p.1 = some (.tup (p.2.map V.int)) ∧ p.2 ≠ []
theorem rows_reads {h : Heap} : ∀ {us : List Value} {ns : List Int}, Vals (ns.map V.int) us → ReadsAll h us (ns.map .int) []
  | _, [], r => by
    cases r
    exact .nil
  | _, n :: ns, r => by
    cases r with
    | cons h1 h2 =>
      obtain ⟨t, rfl⟩ := h1
      exact .cons (as := []) (bs := []) (.int n t) (rows_reads h2)
def encR (p : Addr × List Int) : PyData := .tuple (p.2.map .int)
theorem row_reads {P : Program} {w : World} {H : Hp} {h : Heap} (ok : HOk P w H h) {p : Addr × List Int} (r : RowIs H p) : Reads h (.ref p.1) (encR p) [] := by
  obtain ⟨_, its, rv, o, ho, hc, n, hd⟩ := ok _ _ r.1
  exact .tuple ho hc hd (rows_reads rv)
theorem each_refs {R : Value → (Addr × List Int) → Prop} : ∀ {bs : List (Addr × List Int)}, (∀ b ∈ bs, R (.ref b.1) b) → EachIs R (bs.map fun b => Value.ref b.1) bs
  | [], _ => .nil
  | b :: bs, h => .cons (h b (List.mem_cons_self ..)) (each_refs fun x hx => h x (List.mem_cons_of_mem _ hx))
theorem refs_each : ∀ {out : List Value} {bs : List (Addr × List Int)}, EachIs (fun v b => v = Value.ref b.1) out bs → out = (bs.map (·.1)).map Value.ref
  | _, _, .nil => rfl
  | _, _, .cons h t => by rw [h, refs_each t]; rfl
theorem rowsKey : ∀ {kvs : List (List L2.Key × V)} {bs : List Addr} {H : Hp}, IsKeys H kvs bs → (∀ p ∈ kvs, ∃ ns : List Int, ns ≠ [] ∧ p.1 = ns.map Sum.inl) → ∃ ps : List (Addr × List Int), ps.map (·.1) = bs ∧ (∀ p ∈ ps, RowIs H p) ∧ kvs.map (·.1) = ps.map fun p => p.2.map Sum.inl
  | _, _, H, .nil, _ => ⟨[], rfl, fun p h => (List.not_mem_nil h).elim, rfl⟩
  | kv :: kvs, b :: bs, H, .cons h t, g => by
    obtain ⟨ps, h1, h2, h3⟩ := rowsKey t fun p hp => g p (List.mem_cons_of_mem _ hp)
    obtain ⟨ns, n0, e⟩ := g kv (List.mem_cons_self ..)
    refine ⟨(b, ns) :: ps, by rw [← h1]; rfl, fun p hp => ?_, by rw [List.map_cons, List.map_cons, h3, e]⟩
    rcases List.mem_cons.mp hp with z | z
    · rw [z]
      refine ⟨?_, n0⟩
      have h' : H b = some (.tup (kv.1.map kV)) := h
      rw [e, List.map_map] at h'
      exact h'
    · exact h2 p z
def rSortDT : List V → Hp → VK → Prop := fun xs H Q => ∃ (d : Addr) (kvs : List (List L2.Key × V)), xs = [V.ref d] ∧ Rd H d (.dT kvs) ∧ (∀ p ∈ kvs, ∃ ns : List Int, ns ≠ [] ∧ p.1 = ns.map Sum.inl) ∧ kvs.length ≤ 100000 ∧
  ∀ (p : Addr) (ps : List (Addr × List Int)), H p = none → (∀ q ∈ ps, RowIs H q) → (ps.map fun q => q.2.map Sum.inl).Perm (kvs.map (·.1)) → Q (.ref p) (upd H p (.lst (ps.map fun q => V.ref q.1)))
theorem call_sortedDT {X : Cx} (hc : X.calm = true) (hu : X.A.units + 64 < cLine) : CallR X (.builtin "sorted") rSortDT := by
  intro pins s σ H xs us Q I r h
  obtain ⟨d, kvs, rfl, hd, hkey, hlen, q⟩ := h
  obtain ⟨u, rfl, rx⟩ := r.one
  cases rx
  obtain ⟨z, hs, ks, pr, o, es, ep, ho, hx, hdt, he, hn⟩ := (show ObjOk X.prog X.w H s.heap d (.dT kvs) from hd.ok I.hok)
  have l1 : es.size = ks.length := size_of_entries he
  have l2 : kvs.length = ks.length := Paired.length pr
  have h16 : es.size ≤ sizeLine := by rw [l1, ← l2, sizeLine_eq]; omega
  obtain ⟨ps, e1, e2, e3⟩ := rowsKey (isKeys_of pr) hkey
  refine Calls.call_function_entry PyProof.Rows.kind_sorted PyProof.Rows.plain_sorted PyProof.Rows.entry_sorted (PyProof.Rows.args_sorted1 _) ?_
  unfold Builtin.«sorted»
  refine wpAny_bind (m := checkCount "sorted" 1 1 _) (wpAny_pure ?_)
  refine wpAny_bind (PySem.W.kdu_collect (A := X.A.in1) (kdl_raw hs hx hdt) (I.ok.hd hc) ho h16 fun h' tk acc' hk it => ?_)
  have ea : acc'.toList = ks.map fun x => Value.ref x.2.1 := by
    have hl : acc'.toList.length = ks.length := by rw [Array.length_toList, it.1]; exact l1
    apply List.ext_getElem?
    intro j
    rw [List.getElem?_map]
    cases hj : acc'.toList[j]? with
    | none =>
      have h1 := List.getElem?_eq_none_iff.mp hj
      rw [List.getElem?_eq_none (by omega)]
      all_goals rfl
    | some v =>
      obtain ⟨en, hen, hv⟩ := it.2 j v (by rw [← Array.getElem?_toList]; exact hj)
      have qe := entry_at he j
      rw [hen] at qe
      cases hb : ks[j]? with
      | none =>
        rw [hb] at qe
        exact nomatch (show some en = none from qe)
      | some b =>
        rw [hb] at qe
        have e2 : en = entryOfKey (tupleKind (mixKind X.prog X.w)) b := Option.some.inj qe
        rw [hv, e2]
        all_goals rfl
  have eb : acc'.toList = ps.map fun b => Value.ref b.1 := by
    rw [ea]
    have : ks.map (fun x => Value.ref x.2.1) = (ks.map fun x => x.2.1).map Value.ref := by rw [List.map_map]; rfl
    rw [this, ← e1, List.map_map]
    rfl
  have hal : acc'.toList.length = ps.length := by rw [eb, List.length_map]
  have hpl : ps.length = kvs.length := by
    have := congrArg List.length e3
    rw [List.length_map, List.length_map] at this
    omega
  have hz : ps.length ≤ sizeLine := by rw [sizeLine_eq]; omega
  have I1 : Inv X pins σ H { s with heap := h', toks := tk } := I.kept hk
  refine wpAny_bind (wpAny_newList ?_ (by rw [hal]; exact hz))
  have hoL : (h'.push (seqObj "list" acc'.toList.toArray 0)).get? h'.objs.size = some (seqObj "list" acc'.toList.toArray 0) := Heap.get?_push_size _ rfl
  show wpAny _ _ _ _ _ { s with heap := h'.push (seqObj "list" acc'.toList.toArray 0), toks := tk }
  have hrd : ∀ b ∈ ps, Reads (h'.push (seqObj "list" acc'.toList.toArray 0)) (.ref b.1) (encR b) [] := fun b hb => PyProof.Rows.Reads.keeps (fun _ _ e => Heap.get?_push_of_some _ e) (row_reads I1.hok (e2 b hb))
  have eo : EachIs (fun v (b : Addr × List Int) => v = Value.ref b.1) acc'.toList ps := by rw [eb]; exact each_refs fun _ _ => rfl
  have er : EachIs (fun v (b : Addr × List Int) => ∃ as, Reads (h'.push (seqObj "list" acc'.toList.toArray 0)) v (encR b) as ∧ h'.objs.size ∉ as) acc'.toList ps := by
    have q := each_refs (R := fun v (b : Addr × List Int) => ∃ as, Reads (h'.push (seqObj "list" acc'.toList.toArray 0)) v (encR b) as ∧ h'.objs.size ∉ as) (bs := ps) fun b hb => ⟨[], hrd b hb, List.not_mem_nil⟩
    rw [← eb] at q
    exact q
  refine wpAny_bind (wpAny_holding (list_sort_data (s := { s with heap := h'.push (seqObj "list" acc'.toList.toArray 0), toks := tk }) (enc := encR) hoL eo er (AllAlike.of fun b b' => ?_) (.inl fun d hd => ?_) hz (fun b _ => ?_) fun out hol hout => ?_))
  · show alike (.tuple (b.2.map .int)) (.tuple (b'.2.map .int)) = true
    rw [alike]
    exact alike_ints _ _
  · obtain ⟨b, hb, rfl⟩ := List.mem_map.mp hd
    cases hb2 : b.2 with
    | nil => exact absurd hb2 (e2 b hb).2
    | cons x r => exact ⟨.int x, r.map .int, by unfold encR; rw [hb2]; rfl⟩
  · show X.A.units + 1 + 1 + (PyData.tuple (b.2.map .int)).depth < cLine
    rw [PyData.depth, depth_ints]
    omega
  · have eout := refs_each hout
    have hperm := List.mergeSort_perm ps (dataLe false encR)
    generalize ps.mergeSort (dataLe false encR) = qs at eout hperm hout
    obtain ⟨e', he'⟩ := PyProof.Rows.sortedHeap_at (vs := acc'.toList) (out := out.toArray) hoL
    have hlen' : (qs.map fun q => V.ref q.1).length ≤ sizeLine := by rw [List.length_map, hperm.length_eq]; exact hz
    have rv : Vals (qs.map fun q => V.ref q.1) out := by
      rw [eout, show (qs.map fun q => V.ref q.1) = (qs.map (·.1)).map V.ref by rw [List.map_map]; rfl]
      exact vals_refs _
    refine wpAny_pure ⟨_, rfl, .ref h'.objs.size, upd H h'.objs.size (.lst (qs.map fun q => V.ref q.1)), I1.laid (t' := tk) (fun b u e => ?_) (Nat.le_refl _)
      (show ObjOk X.prog X.w _ _ _ (.lst (qs.map fun q => V.ref q.1)) from ⟨hlen', out, e', rv, he'⟩), rfl, q _ qs (I1.hok.fresh (Nat.le_refl _)) (fun p hp => e2 p (hperm.mem_iff.mp hp)) ?_⟩
    · have hb : b < h'.objs.size := Heap.lt_size e
      rw [PyProof.Rows.sortedHeap_old (Nat.ne_of_lt hb) (by rw [size_push']; exact Nat.lt_succ_of_lt hb)]
      exact Heap.get?_push_of_some _ e
    · rw [e3]
      exact hperm.map _
end AW
namespace AW
open PySem PySem.Spec PyProof.Rows L2 RZ
local macro_rules | `(tactic| walk_at "aw1") => `(tactic| first
  | (with_reducible refine w_seq ?_) | (with_reducible refine w_asg ?_) | (with_reducible refine w_gname ?_) | (with_reducible refine w_op ?_) | (with_reducible refine w_un ?_)
  | ((with_reducible refine' w_var ?h ?_); (case h => rfl)) | (with_reducible refine w_c ?_)
  | (with_reducible refine w_I0 ?_) | (with_reducible refine w_U ?_) | (with_reducible refine w_cb ?_) | (with_reducible refine w_nil ?_) | (with_reducible refine w_cons ?_) | (with_reducible refine w_call ?_)
  | (with_reducible refine w_test ?_) | (with_reducible refine w_B ?_) | (with_reducible refine w_bl ?_) | (with_reducible refine w_not ?_) | (with_reducible refine w_yes ?_) | (with_reducible refine iteT ?_) | (with_reducible refine iteF ?_) | (with_reducible refine w_and ?_) | (with_reducible refine w_or ?_)
  | (with_reducible refine w_andV ?_) | (with_reducible refine w_orV ?_) | (with_reducible refine w_notV ?_) | (with_reducible refine w_if ?_)
  | (with_reducible refine w_int1 ?_) | (with_reducible refine w_int1b ?_) | (with_reducible refine w_abs ?_) | (with_reducible refine w_max2 ?_) | (with_reducible refine w_min2 ?_)
  | ((with_reducible refine w_eq ?h ?_); (case h => rfl)) | ((with_reducible refine w_ne ?h ?_); (case h => rfl)) | (with_reducible refine w_isN ?_) | (with_reducible refine w_isB ?_) | (with_reducible refine w_chain ?_)
  | (with_reducible refine w_ret ?_) | (with_reducible refine w_drop ?_) | (with_reducible refine w_ifS ?_) | (with_reducible refine w_gsub ?_) | (with_reducible refine w_augS ?_) | (with_reducible refine w_ipI ?_) | (with_reducible refine w_next ?_)
  | (with_reducible refine w_forR ?_) | (with_reducible refine w_forR2 ?_) | (with_reducible refine w_forL ?_) | (with_reducible refine w_forT ?_) | (with_reducible refine w_lcR ?_) | (with_reducible refine w_lcL ?_) | (with_reducible refine w_lcT ?_) | (with_reducible refine w_sl ?_) | (with_reducible refine w_part ?_) | (with_reducible refine w_noPart ?_) | (with_reducible refine w_in ?_)
  | (with_reducible refine w_gcons ?_) | (with_reducible refine w_gnil ?_) | (with_reducible refine w_lc3 ?_) | (with_reducible refine w_dcZ ?_) | (with_reducible refine w_dcT ?_) | (with_reducible refine w_dg ?_) | (with_reducible refine w_callK ?_) | (with_reducible refine w_dput ?_) | (with_reducible refine w_tup1 ?_)
  | (with_reducible refine w_tup ?_) | (with_reducible refine w_lst ?_)
  | ((with_reducible refine w_I ?h ?_); (case h => first | (exact Or.inr ⟨by decide, by decide⟩) | (exact Or.inl ⟨by decide, by decide⟩) | (show (0 : Int) < _; decide) | (exact ⟨by decide, by decide, by decide⟩) | assumption)))
local macro_rules | `(tactic| walk_at "aw") => `(tactic| repeat (walk_at "aw1"))
/-! ### the draws: what each promises -/
def sp__law_mixed (_ : PySem.W.Frag) : Sp := fun vs H Q _ => ∃ a b : Int, vs = [.int a, .int b] ∧ ∀ n : Int, 0 ≤ n → Q (.int n) H
def sp__law_start (K : PySem.W.Frag) : Sp := fun vs H Q _ => ∃ (a : Addr) (ns : List Int), vs = [.ref a] ∧ SqL K H a (ns.map V.int) ∧ ns.length ≤ 63 ∧ ∀ st cs H', StOk st cs H' → Adv [] H H' → H st = none → Q (.ref st) H'
def sp__law_take (_ : PySem.W.Frag) : Sp := fun vs H Q _ => ∃ (st : Addr) (lim : Int), vs = [.ref st, .int lim] ∧ ∃ cs, StOk st cs H ∧ 0 < lim ∧ lim < 1073741824 ∧ ∀ n H', 0 ≤ n → n < lim → Go st cs H H' → Q (.int n) H'
def sp__law_pick (K : PySem.W.Frag) : Sp := fun vs H Q _ => ∃ (st p : Addr), vs = [.ref st, .ref p] ∧ ∃ cs xs, StOk st cs H ∧ ((SqL K H p xs ∧ p ≠ st) ∨ H p = some (.tup xs)) ∧ 0 < xs.length ∧ xs.length < 1000000 ∧ ∀ (i : Nat) v H', xs[i]? = some v → Go st cs H H' → Q v H'
def sp__law_shuffled (K : PySem.W.Frag) : Sp := fun vs H Q _ => ∃ (st p : Addr), vs = [.ref st, .ref p] ∧ ∃ cs xs, StOk st cs H ∧ SqL K H p xs ∧ p ≠ st ∧ xs.length ≤ 1000 ∧ ∀ q ys H', ys.Perm xs → H q = none → Go st cs H H' → H' q = some (.lst ys) → Q (.ref q) H'
def t__law_mixed  : TS := (tSeq (tAsg (tOp rModI (tCB rInt1 (tCons (tOp rAddI (tOp rAddI (tOp rMulI (tVar 0) (tC (.int 48271))) (tOp rMulI (tVar 1) (tC (.int 69621)))) (tC (.int 97))) tNil)) (tC (.int 2147483647))) (gName 2))
  (tSeq (tAsg (tOp rModI (tCB rInt1 (tCons (tOp rAddI (tOp rAddI (tOp rMulI (tVar 2) (tOp rAddI (tOp rAddI (tVar 2) (tOp rMulI (tC (.int 2)) (tVar 1))) (tC (.int 1)))) (tOp rMulI (tVar 1) (tC (.int 16807)))) (tC (.int 31))) tNil)) (tC (.int 2147483629))) (gName 3))
  (tRet (tOp rModI (tCB rInt1 (tCons (tOp rAddI (tOp rMulI (tVar 3) (tC (.int 40692))) (tVar 2)) tNil)) (tC (.int 2147483587))))))
def t__law_start (K : PySem.W.Frag) : TS := (tSeq (tAsg (tCB (rLen1 K) (tCons (tVar 0) tNil)) (gName 1))
  (tSeq (tFor (iList K (tSl (rSlL K) (tVar 0) tNoPart (tPart (tC (.int 63))))) (gName 2)
  (tAsg (tCall (sp__law_mixed K) [] E0 (tCons (tOp rAddI (tVar 1) (tVar 2)) (tCons (tC (.int 5)) tNil))) (gName 1)))
  (tRet (tLst (tCons (tC (.int 0)) (tCons (tC (.int 0)) (tCons (tC (.int 0)) (tCons (tVar 1) (tCons (tCB (rListOf K) (tCons (tSl (rSlL K) (tVar 0) tNoPart (tPart (tC (.int 63)))) tNil)) (tCons (tC (.int 0)) tNil))))))))))
def t__law_take (K : PySem.W.Frag) : TS := (tSeq (tAsg (tOp (rIxL K) (tVar 0) (tC (.int 4))) (gName 2))
  (tSeq (tAugS (tVar 0) (tC (.int 2)) (tC (.int 1)) (rIxL K) (ipI fun i j => i + j) rSetL)
  (tSeq (tIfS (tAnd (tTest (tOp rEq (tOp (rIxL K) (tVar 0) (tC (.int 0))) (tC (.int 0)))) (tTest (tOp rLtI (tOp (rIxL K) (tVar 0) (tC (.int 1))) (tCB (rLen1 K) (tCons (tVar 2) tNil))))) (tSeq (tAsg (tOp (rIxL K) (tVar 2) (tOp (rIxL K) (tVar 0) (tC (.int 1)))) (gName 3))
  (tSeq (tAugS (tVar 0) (tC (.int 1)) (tC (.int 1)) (rIxL K) (ipI fun i j => i + j) rSetL)
  (tSeq (tIfS (tTest (tOp rLtI (tCB rAbs (tCons (tVar 3) tNil)) (tOp rPowI (tC (.int 10)) (tC (.int 18))))) (tRet (tOp rModI (tCB rInt1 (tCons (tCall (sp__law_mixed K) [] E0 (tCons (tVar 3) (tCons (tOp (rIxL K) (tVar 0) (tC (.int 2))) tNil))) tNil)) (tVar 1))) tNext)
  (tSeq (tAsg (tCB rAbs (tCons (tVar 3) tNil)) (gSub (tVar 0) (tC (.int 0)) rSetL))
  (tAsg (tC (.int 60)) (gSub (tVar 0) (tC (.int 5)) rSetL)))))) tNext)
  (tSeq (tIfS (tTest (tOp rEq (tOp (rIxL K) (tVar 0) (tC (.int 0))) (tC (.int 0)))) (tRet (tOp rModI (tCB rInt1 (tCons (tCall (sp__law_mixed K) [] E0 (tCons (tOp (rIxL K) (tVar 0) (tC (.int 3))) (tCons (tOp (rIxL K) (tVar 0) (tC (.int 2))) tNil))) tNil)) (tVar 1))) tNext)
  (tSeq (tAsg (tOp rModI (tCB rInt1 (tCons (tOp (rIxL K) (tVar 0) (tC (.int 0))) tNil)) (tVar 1)) (gName 4))
  (tSeq (tAugS (tVar 0) (tC (.int 5)) (tC (.int 1)) (rIxL K) (ipI fun i j => i - j) rSetL)
  (tSeq (tAsg (tOp rMulI (tOp rDivI (tOp (rIxL K) (tVar 0) (tC (.int 0))) (tVar 1)) (tCB rInt1 (tCons (tOp rGtI (tOp (rIxL K) (tVar 0) (tC (.int 5))) (tC (.int 0))) tNil))) (gSub (tVar 0) (tC (.int 0)) rSetL))
  (tRet (tVar 4)))))))))
def t__law_pick (K : PySem.W.Frag) : TS := (tRet (tOp (rIxA K) (tVar 1) (tCall (sp__law_take K) [] E0 (tCons (tVar 0) (tCons (tCB (rLen1 K) (tCons (tVar 1) tNil)) tNil)))))
def t__law_shuffled (K : PySem.W.Frag) : TS := (tSeq (tAsg (tCB (rListOf K) (tCons (tVar 1) tNil)) (gName 2))
  (tSeq (tAsg (tLst tNil) (gName 3))
  (tSeq (tFor (iRng1 (tCons (tCB (rLen1 K) (tCons (tVar 1) tNil)) tNil)) (gName 4)
  (tSeq (tAsg (tCall (sp__law_take K) [] E0 (tCons (tVar 0) (tCons (tCB (rLen1 K) (tCons (tVar 2) tNil)) tNil))) (gName 5))
  (tSeq (tDrop (tBM K "list" rAppend (tVar 3) (tCons (tOp (rIxL K) (tVar 2) (tVar 5)) tNil)))
  (tAsg (tOp rCat (tSl (rSlL K) (tVar 2) tNoPart (tPart (tVar 5))) (tSl (rSlL K) (tVar 2) (tPart (tOp rAddI (tVar 5) (tC (.int 1)))) tNoPart)) (gName 2)))))
  (tRet (tVar 3)))))
theorem len__law_mixed {K : PySem.W.Frag} : ∀ (vs : List V) (H : Hp) (Q : VK) (E : XK), sp__law_mixed K vs H Q E → vs.length = 2 := fun vs H Q E h => by
  obtain ⟨_, _, rfl, _⟩ := h
  rfl
theorem pure__law_mixed {K : PySem.W.Frag} (vs : List V) (H : Hp) (Q : VK) (E : XK) (h : sp__law_mixed K vs H Q E) : t__law_mixed { nx := fun _ H' => Q .non H', rt := Q } (start ["number", "k", "first", "second"] vs) H := by
  obtain ⟨a, b, rfl, q⟩ := h
  show t__law_mixed _ [some (.int a), some (.int b), none, none] H
  unfold t__law_mixed
  walk_at "aw"
  refine w_I (.inl ⟨by omega, by omega⟩) ?_
  walk_at "aw"
  exact q _ (by omega)
theorem len__law_take {K : PySem.W.Frag} : ∀ (vs : List V) (H : Hp) (Q : VK) (E : XK), sp__law_take K vs H Q E → vs.length = 2 := fun vs H Q E h => by
  obtain ⟨_, _, rfl, _⟩ := h
  rfl
theorem pure__law_take {K : PySem.W.Frag} (vs : List V) (H : Hp) (Q : VK) (E : XK) (h : sp__law_take K vs H Q E) : t__law_take K { nx := fun _ H' => Q .non H', rt := Q } (start ["state", "limit", "cells", "cell", "value"] vs) H := by
  obtain ⟨st, lim, rfl, cs, ok, hl, hl2, q⟩ := h
  show t__law_take K _ [some (.ref st), some (.int lim), none, none, none] H
  have ok0 := ok
  obtain ⟨s0, s1, s2, s3, s5, ns, hst, h1, hne, hcs, hns⟩ := ok
  unfold t__law_take
  walk_at "aw"
  refine w_ixL (SqL.of hst) rfl ?_
  walk_at "aw"
  refine w_ixL (SqL.of hst) rfl ?_
  walk_at "aw"
  refine w_setL hst rfl ?_
  generalize hH1 : upd H st _ = H1
  have e1 : H1 st = some (.lst [.int s0, .int s1, .int (s2 + 1), .int s3, .ref cs, .int s5]) := by rw [← hH1, upd_same]; rfl
  have g1 : Go st cs H H1 := by
    rw [← hH1]
    exact ⟨Adv.lst hst, ⟨s0, s1, s2 + 1, s3, s5, ns, upd_same, h1, hne, by rw [upd_ne hne]; exact hcs, hns⟩⟩
  have c1 : H1 cs = some (.lst (ns.map V.int)) := g1.keep hne hcs
  clear hH1
  -- behind the first branch: s0 is 0 or not
  have rest : ∀ (H2 : Hp) (s0 s1 s5 : Int) (σ : L2.St) (y3 : Option V), σ = [some (.ref st), some (.int lim), some (.ref cs), y3, none] → 0 ≤ s1 → H2 st = some (.lst [.int s0, .int s1, .int (s2 + 1), .int s3, .ref cs, .int s5]) → Go st cs H H2 → (tSeq (tIfS (tTest (tOp rEq (tOp (rIxL K) (tVar 0) (tC (.int 0))) (tC (.int 0)))) (tRet (tOp rModI (tCB rInt1 (tCons (tCall (sp__law_mixed K) [] E0 (tCons (tOp (rIxL K) (tVar 0) (tC (.int 3))) (tCons (tOp (rIxL K) (tVar 0) (tC (.int 2))) tNil))) tNil)) (tVar 1))) tNext)
  (tSeq (tAsg (tOp rModI (tCB rInt1 (tCons (tOp (rIxL K) (tVar 0) (tC (.int 0))) tNil)) (tVar 1)) (gName 4))
  (tSeq (tAugS (tVar 0) (tC (.int 5)) (tC (.int 1)) (rIxL K) (ipI fun i j => i - j) rSetL)
  (tSeq (tAsg (tOp rMulI (tOp rDivI (tOp (rIxL K) (tVar 0) (tC (.int 0))) (tVar 1)) (tCB rInt1 (tCons (tOp rGtI (tOp (rIxL K) (tVar 0) (tC (.int 5))) (tC (.int 0))) tNil))) (gSub (tVar 0) (tC (.int 0)) rSetL))
  (tRet (tVar 4)))))) { nx := fun _ H' => Q .non H', rt := Q } σ H2 := by
    intro H2 s0 s1 s5 σ y3 eσ hs1 e2 g2
    subst eσ
    have hcs2 : H2 cs = some (.lst (ns.map V.int)) := g2.keep hne hcs
    walk_at "aw"
    refine w_ixL (SqL.of e2) rfl ?_
    walk_at "aw"
    refine w_iteB (fun _ => ?_) fun _ => ?_
    · walk_at "aw"
      refine w_ixL (SqL.of e2) rfl ?_
      walk_at "aw"
      refine w_ixL (SqL.of e2) rfl ?_
      walk_at "aw"
      refine ⟨_, _, rfl, fun n hn => ?_⟩
      walk_at "aw"
      exact q _ _ (Int.emod_nonneg _ (by omega)) (Int.emod_lt_of_pos _ hl) g2
    · walk_at "aw"
      refine w_ixL (SqL.of e2) rfl ?_
      walk_at "aw"
      refine w_ixL (SqL.of e2) rfl ?_
      walk_at "aw"
      refine w_setL e2 rfl ?_
      walk_at "aw"
      refine w_ixL SqL.upd rfl ?_
      walk_at "aw"
      refine w_I ⟨hl, hl2⟩ ?_
      walk_at "aw"
      refine w_ixL SqL.upd rfl ?_
      walk_at "aw"
      generalize hk : (if decide (0 < s5 - 1) = true then (1 : Int) else 0) = k
      have hk1 : -(2 ^ 64) < k ∧ k < 2 ^ 64 := by
        rw [← hk]
        split <;> exact ⟨by decide, by decide⟩
      refine w_I (.inr hk1) ?_
      walk_at "aw"
      refine w_setL upd_same rfl ?_
      walk_at "aw"
      refine q _ _ (Int.emod_nonneg _ (by omega)) (Int.emod_lt_of_pos _ hl) (g2.trans ?_)
      rw [upd_upd]
      exact ⟨Adv.lst e2, ⟨_, s1, s2 + 1, s3, s5 - 1, ns, upd_same, hs1, hne, by rw [upd_ne hne]; exact hcs2, hns⟩⟩
  walk_at "aw"
  refine w_ixL (SqL.of e1) rfl ?_
  walk_at "aw"
  refine w_iteB (fun hz => ?_) fun _ => ?_
  · walk_at "aw"
    refine w_ixL (SqL.of e1) rfl ?_
    walk_at "aw"
    refine w_lenL (SqL.of c1) ?_
    walk_at "aw"
    refine w_iteB (fun hlt => ?_) fun _ => ?_
    · rw [List.length_map] at hlt
      have hat : atI (ns.map V.int) s1 = some (.int (ns.getD s1.toNat 0)) := by
        have hj : s1.toNat < ns.length := by omega
        refine at_of (j := s1.toNat) (by omega) ?_
        rw [List.getElem?_map, List.getElem?_eq_getElem hj, List.getD_eq_getElem?_getD, List.getElem?_eq_getElem hj]
        rfl
      walk_at "aw"
      refine w_ixL (SqL.of e1) rfl ?_
      refine w_ixL (SqL.of c1) hat ?_
      generalize ns.getD s1.toNat 0 = cell
      walk_at "aw"
      refine w_ixL (SqL.of e1) rfl ?_
      walk_at "aw"
      refine w_setL e1 rfl ?_
      generalize hH2 : upd H1 st _ = H2
      have e2 : H2 st = some (.lst [.int s0, .int (s1 + 1), .int (s2 + 1), .int s3, .ref cs, .int s5]) := by rw [← hH2, upd_same]; rfl
      have g2 : Go st cs H H2 := g1.trans (by
        rw [← hH2]
        exact ⟨Adv.lst e1, ⟨s0, s1 + 1, s2 + 1, s3, s5, ns, upd_same, by omega, hne, by rw [upd_ne hne]; exact c1, hns⟩⟩)
      clear hH2
      walk_at "aw"
      refine w_iteB (fun _ => ?_) fun _ => ?_
      · walk_at "aw"
        refine w_ixL (SqL.of e2) rfl ?_
        walk_at "aw"
        refine ⟨_, _, rfl, fun n hn => ?_⟩
        walk_at "aw"
        exact q _ _ (Int.emod_nonneg _ (by omega)) (Int.emod_lt_of_pos _ hl) g2
      · walk_at "aw"
        refine w_setL e2 rfl ?_
        walk_at "aw"
        refine w_setL upd_same rfl ?_
        rw [upd_upd]
        refine rest _ (if cell < 0 then -cell else cell) (s1 + 1) 60 _ _ rfl (by omega) upd_same (g2.trans ?_)
        exact ⟨Adv.lst e2, ⟨_, s1 + 1, s2 + 1, s3, 60, ns, upd_same, by omega, hne, by rw [upd_ne hne]; exact g2.keep hne hcs, hns⟩⟩
    · exact rest _ _ _ _ _ _ rfl h1 e1 g1
  · exact rest _ _ _ _ _ _ rfl h1 e1 g1
theorem len__law_pick {K : PySem.W.Frag} : ∀ (vs : List V) (H : Hp) (Q : VK) (E : XK), sp__law_pick K vs H Q E → vs.length = 2 := fun vs H Q E h => by
  obtain ⟨_, _, rfl, _⟩ := h
  rfl
theorem pure__law_pick {K : PySem.W.Frag} (vs : List V) (H : Hp) (Q : VK) (E : XK) (h : sp__law_pick K vs H Q E) : t__law_pick K { nx := fun _ H' => Q .non H', rt := Q } (start ["state", "some"] vs) H := by
  obtain ⟨st, p, rfl, cs, xs, ok, hp, h0, hl, q⟩ := h
  show t__law_pick K _ [some (.ref st), some (.ref p)] H
  unfold t__law_pick
  walk_at "aw"
  rcases hp with ⟨hp, np⟩ | hp
  · refine w_lenL hp ?_
    walk_at "aw"
    refine ⟨st, _, rfl, cs, ok, by omega, by omega, fun n H' h1 h2 g => ?_⟩
    obtain ⟨v, hv⟩ := get_some (xs := xs) (i := n.toNat) (by omega)
    exact .inl (w_ixL (g.sql np hp) (at_nat h1 hv) (q _ _ _ hv g))
  · refine w_lenT (SqT.of hp) ?_
    walk_at "aw"
    refine ⟨st, _, rfl, cs, ok, by omega, by omega, fun n H' h1 h2 g => ?_⟩
    obtain ⟨v, hv⟩ := get_some (xs := xs) (i := n.toNat) (by omega)
    exact .inr (w_ixT (SqT.of (g.tk _ _ hp)) (at_nat h1 hv) (q _ _ _ hv g))
theorem len__law_start {K : PySem.W.Frag} : ∀ (vs : List V) (H : Hp) (Q : VK) (E : XK), sp__law_start K vs H Q E → vs.length = 1 := fun vs H Q E h => by
  obtain ⟨_, _, rfl, _⟩ := h
  rfl
theorem pure__law_start {K : PySem.W.Frag} (vs : List V) (H : Hp) (Q : VK) (E : XK) (h : sp__law_start K vs H Q E) : t__law_start K { nx := fun _ H' => Q .non H', rt := Q } (start ["script", "seed", "cell"] vs) H := by
  obtain ⟨a, ns, rfl, hs, hl, q⟩ := h
  show t__law_start K _ [some (.ref a), none, none] H
  have hcut : cutV (ns.map V.int) none (some 63) = ns.map V.int := by
    rw [cut_to _ (by omega)]
    exact List.take_of_length_le (by rw [List.length_map]; exact hl)
  unfold t__law_start
  walk_at "aw"
  refine w_lenL hs ?_
  walk_at "aw"
  refine w_slL hs fun r H1 nr a1 e1 => ?_
  rw [hcut] at e1
  refine kForL_i (xs := ns.map V.int) (fun i σ H' => ∃ s y, σ = [some (.ref a), some (.int s), y] ∧ H' = H1) (SqL.of e1) ⟨_, _, rfl, rfl⟩ (fun i σ H' hi p => ?_) (fun i v σ H' hv p => ?_) fun σ H' p => ?_
  · obtain ⟨_, _, _, rfl⟩ := p
    exact SqL.of e1
  · obtain ⟨s, y, rfl, rfl⟩ := p
    rw [List.getElem?_map] at hv
    obtain ⟨n, hn, rfl⟩ := Option.map_eq_some_iff.mp hv
    walk_at "aw"
    exact ⟨_, _, rfl, fun m hm => ⟨m, _, rfl, rfl⟩⟩
  · obtain ⟨s, y, rfl, rfl⟩ := p
    walk_at "aw"
    refine w_slL (a1.sql (fun z => nomatch z) hs) fun r2 H2 nr2 a2 e2 => ?_
    rw [hcut] at e2
    walk_at "aw"
    refine w_listOf (.inl (SqL.of e2)) fun r3 H3 nr3 a3 e3 => ?_
    walk_at "aw"
    refine w_lstD (by simp) fun st H4 nr4 a4 e4 => ?_
    have h3 : H st = none := a1.free (fun z => nomatch z) (a2.free (fun z => nomatch z) (a3.free (fun z => nomatch z) nr4))
    exact q st r3 H4 ⟨0, 0, 0, s, 0, ns, e4, by omega, ne_of_none e3 nr4, a4.keep _ _ (fun z => nomatch z) e3, hl⟩ (a1.trans (a2.trans (a3.trans a4))) h3
theorem len__law_shuffled {K : PySem.W.Frag} : ∀ (vs : List V) (H : Hp) (Q : VK) (E : XK), sp__law_shuffled K vs H Q E → vs.length = 2 := fun vs H Q E h => by
  obtain ⟨_, _, rfl, _⟩ := h
  rfl
theorem pure__law_shuffled {K : PySem.W.Frag} (vs : List V) (H : Hp) (Q : VK) (E : XK) (h : sp__law_shuffled K vs H Q E) : t__law_shuffled K { nx := fun _ H' => Q .non H', rt := Q } (start ["state", "some", "left", "found", "k", "at"] vs) H := by
  obtain ⟨st, p, rfl, cs, xs, ok, hp, np, hl, q⟩ := h
  show t__law_shuffled K _ [some (.ref st), some (.ref p), none, none, none, none] H
  unfold t__law_shuffled
  walk_at "aw"
  refine w_listOf (.inl hp) fun l H1 nl a1 e1 => ?_
  walk_at "aw"
  refine w_lstD (by simp) fun f H2 nf a2 e2 => ?_
  have g2 : Go st cs H H2 := (Go.of ok a1).new a2
  have nf0 : H f = none := a1.free (fun z => nomatch z) nf
  walk_at "aw"
  refine w_lenL (g2.sql np hp) ?_
  refine kForR_i (n := xs.length) (by omega) (fun i σ H' => ∃ y1 y2 l found left, σ = [some (.ref st), some (.ref p), some (.ref l), some (.ref f), y1, y2] ∧ Go st cs H H' ∧ H' f = some (.lst found) ∧ H' l = some (.lst left) ∧ H l = none ∧ l ≠ f ∧ found.length = i ∧ (found ++ left).Perm xs)
    ⟨none, none, l, [], xs, rfl, g2, e2, a2.keep _ _ (fun z => nomatch z) e1, nl, ne_of_none e1 nf, rfl, .refl _⟩ (fun i σ H' hi p => ?_) fun σ H' p => ?_
  · obtain ⟨y1, y2, l, found, left, rfl, g, ef, el, nl0, hlf, hlen, hperm⟩ := p
    have hll : left.length = xs.length - i := by
      have := hperm.length_eq
      rw [List.length_append] at this
      omega
    have nlst : l ≠ st := (ok.ne nl0).1
    have nfst : f ≠ st := (ok.ne nf0).1
    walk_at "aw"
    refine w_lenL (SqL.of el) ?_
    walk_at "aw"
    refine ⟨st, _, rfl, cs, g.ok, by omega, by omega, fun n H3 h1 h2 g3 => ?_⟩
    obtain ⟨v, hv⟩ := get_some (xs := left) (i := n.toNat) (by omega)
    have ef3 := g3.keep nfst ef
    have el3 := g3.keep nlst el
    walk_at "aw"
    refine w_app rfl ef3 ?_
    walk_at "aw"
    refine w_ixL (SqL.of el3) (at_nat h1 hv) ?_
    walk_at "aw"
    refine w_append ef3 (by omega) ?_
    have g4 := (g.trans g3).mutL (o := .lst (found ++ [v])) ok nf0 ef3
    have el4 : (upd H3 f (.lst (found ++ [v]))) l = some (.lst left) := by rw [upd_ne hlf]; exact el3
    walk_at "aw"
    refine w_slL (SqL.of el4) fun r H5 nr a5 e5 => ?_
    walk_at "aw"
    refine w_slL (SqL.of (a5.keep _ _ (fun z => nomatch z) el4)) fun r2 H6 nr2 a6 e6 => ?_
    walk_at "aw"
    rw [cut_to _ h1] at e5
    rw [cut_from _ (by omega)] at e6
    refine w_cat (a6.keep _ _ (fun z => nomatch z) e5) e6 (by rw [List.length_take, List.length_drop]; omega) fun r3 H7 nr3 a7 e7 => ?_
    walk_at "aw"
    have g7 : Go st cs H H7 := ((g4.new a5).new a6).new a7
    have ef7 : H7 f = some (.lst (found ++ [v])) := a7.keep _ _ (fun z => nomatch z) (a6.keep _ _ (fun z => nomatch z) (a5.keep _ _ (fun z => nomatch z) upd_same))
    have hn1 : (n + 1).toNat = n.toNat + 1 := by omega
    rw [hn1] at e7
    refine ⟨_, _, r3, _, _, rfl, g7, ef7, e7, ?_, (ne_of_none (a6.keep _ _ (fun z => nomatch z) (a5.keep _ _ (fun z => nomatch z) upd_same)) nr3).symm, by rw [List.length_append, hlen]; rfl, ?_⟩
    · exact ((g4.new a5).new a6).free ok nr3
    · refine List.Perm.trans ?_ hperm
      rw [List.append_assoc]
      refine List.Perm.append_left found ?_
      have hlt : n.toNat < left.length := (List.getElem?_eq_some_iff.mp hv).1
      have hd : left = left.take n.toNat ++ (v :: left.drop (n.toNat + 1)) := by
        have e := List.take_append_drop n.toNat left
        rw [List.drop_eq_getElem_cons hlt, (List.getElem?_eq_some_iff.mp hv).2] at e
        exact e.symm
      have hm := List.perm_middle (a := v) (l₁ := left.take n.toNat) (l₂ := left.drop (n.toNat + 1))
      rw [← hd] at hm
      exact hm.symm
  · obtain ⟨y1, y2, l, found, left, rfl, g, ef, el, nl0, hlf, hlen, hperm⟩ := p
    have hleft : left = [] := by
      have := hperm.length_eq
      rw [List.length_append] at this
      exact List.length_eq_zero_iff.mp (by omega)
    subst hleft
    rw [List.append_nil] at hperm
    walk_at "aw"
    exact q f found H' hperm nf0 g ef
end AW
namespace AW
open PySem PySem.Spec PyProof.Rows L2 RZ
local macro_rules | `(tactic| walk_at "aw1") => `(tactic| first
  | (with_reducible refine w_seq ?_) | (with_reducible refine w_asg ?_) | (with_reducible refine w_gname ?_) | (with_reducible refine w_op ?_) | (with_reducible refine w_un ?_)
  | ((with_reducible refine' w_var ?h ?_); (case h => rfl)) | (with_reducible refine w_c ?_)
  | (with_reducible refine w_I0 ?_) | (with_reducible refine w_U ?_) | (with_reducible refine w_cb ?_) | (with_reducible refine w_nil ?_) | (with_reducible refine w_cons ?_) | (with_reducible refine w_call ?_)
  | (with_reducible refine w_test ?_) | (with_reducible refine w_B ?_) | (with_reducible refine w_bl ?_) | (with_reducible refine w_not ?_) | (with_reducible refine w_yes ?_) | (with_reducible refine iteT ?_) | (with_reducible refine iteF ?_) | (with_reducible refine w_and ?_) | (with_reducible refine w_or ?_)
  | (with_reducible refine w_andV ?_) | (with_reducible refine w_orV ?_) | (with_reducible refine w_notV ?_) | (with_reducible refine w_if ?_)
  | (with_reducible refine w_int1 ?_) | (with_reducible refine w_int1b ?_) | (with_reducible refine w_abs ?_) | (with_reducible refine w_max2 ?_) | (with_reducible refine w_min2 ?_)
  | ((with_reducible refine w_eq ?h ?_); (case h => rfl)) | ((with_reducible refine w_ne ?h ?_); (case h => rfl)) | (with_reducible refine w_isN ?_) | (with_reducible refine w_isB ?_) | (with_reducible refine w_chain ?_)
  | (with_reducible refine w_ret ?_) | (with_reducible refine w_drop ?_) | (with_reducible refine w_ifS ?_) | (with_reducible refine w_gsub ?_) | (with_reducible refine w_augS ?_) | (with_reducible refine w_ipI ?_) | (with_reducible refine w_next ?_)
  | (with_reducible refine w_forR ?_) | (with_reducible refine w_forR2 ?_) | (with_reducible refine w_forL ?_) | (with_reducible refine w_forT ?_) | (with_reducible refine w_lcR ?_) | (with_reducible refine w_lcL ?_) | (with_reducible refine w_lcT ?_) | (with_reducible refine w_sl ?_) | (with_reducible refine w_part ?_) | (with_reducible refine w_noPart ?_) | (with_reducible refine w_in ?_)
  | (with_reducible refine w_gcons ?_) | (with_reducible refine w_gnil ?_) | (with_reducible refine w_lc3 ?_) | (with_reducible refine w_dcZ ?_) | (with_reducible refine w_dcT ?_) | (with_reducible refine w_dg ?_) | (with_reducible refine w_callK ?_) | (with_reducible refine w_dput ?_) | (with_reducible refine w_tup1 ?_)
  | (with_reducible refine w_tup ?_) | (with_reducible refine w_lst ?_)
  | ((with_reducible refine w_I ?h ?_); (case h => first | (exact Or.inr ⟨by decide, by decide⟩) | (exact Or.inl ⟨by decide, by decide⟩) | (show (0 : Int) < _; decide) | (exact ⟨by decide, by decide, by decide⟩) | assumption)))
local macro_rules | `(tactic| walk_at "aw") => `(tactic| repeat (walk_at "aw1"))
/-! ### the program's functions: what each promises -/
def sp_is_true (_ : PySem.W.Frag) (m : Nat) : Sp := fun vs H Q _ => ∃ (v : V) (d : Addr), vs = [v, .ref d] ∧ ∃ D f names w, Is H D v ∧ WD H d names w ∧ ClD names m D f ∧ ∀ H', Adv [] H H' → Q (.bl (f w)) H'
def sp_weighed (_ : PySem.W.Frag) : Sp := fun vs H Q _ => ∃ (v : V) (d : Addr), vs = [v, .ref d] ∧ ∃ ts names w, Is H (.tuple (ts.map trD)) v ∧ WD H d names w ∧ (∀ t ∈ ts, t.1 ∈ names) ∧ (∀ t ∈ ts, wt t.2) ∧ ts.length ≤ 100 ∧ ∀ H', Adv [] H H' → Q (.int (weigh w ts)) H'
def sp__least_holds (_ : PySem.W.Frag) : Sp := fun vs H Q _ => ∃ (v : V) (d : Addr), vs = [v, .ref d] ∧ ∃ ts n names w, Is H (sayD (.sums true ts n)) v ∧ WD H d names w ∧ (Say.sums true ts n).ok ∧ (∀ x ∈ (Say.sums true ts n).names, x ∈ names) ∧ ∀ H', Adv [] H H' → Q (.bl (holdP w (.sums true ts n))) H'
def sp__unlike_holds (_ : PySem.W.Frag) : Sp := fun vs H Q _ => ∃ (v : V) (d : Addr), vs = [v, .ref d] ∧ ∃ xs names w, Is H (sayD (.unlike xs)) v ∧ WD H d names w ∧ (Say.unlike xs).ok ∧ (∀ x ∈ xs, x ∈ names) ∧ ∀ H', Adv [] H H' → Q (.bl (holdP w (.unlike xs))) H'
def sp__counts_holds (_ : PySem.W.Frag) : Sp := fun vs H Q _ => ∃ (v : V) (d : Addr), vs = [v, .ref d] ∧ ∃ xs ts names w, Is H (sayD (.counts xs ts)) v ∧ WD H d names w ∧ (Say.counts xs ts).ok ∧ (∀ x ∈ xs, x ∈ names) ∧ ∀ H', Adv [] H H' → Q (.bl (holdP w (.counts xs ts))) H'
def sp__table_holds (_ : PySem.W.Frag) : Sp := fun vs H Q _ => ∃ (v : V) (d : Addr), vs = [v, .ref d] ∧ ∃ b xs rows names w, Is H (sayD (.tab b xs rows)) v ∧ WD H d names w ∧ (Say.tab b xs rows).ok ∧ (∀ x ∈ xs, x ∈ names) ∧ ∀ H', Adv [] H H' → Q (.bl (rows.any fun row => decide (row = xs.map w))) H'
def sp__bar_holds (_ : PySem.W.Frag) : Sp := fun vs H Q _ => ∃ (v : V) (d : Addr), vs = [v, .ref d] ∧ ∃ b xs rows names w, Is H (sayD (.tab b xs rows)) v ∧ WD H d names w ∧ (Say.tab b xs rows).ok ∧ (∀ x ∈ xs, x ∈ names) ∧ ∀ H', Adv [] H H' → Q (.bl (!rows.any fun row => decide (row = xs.map w))) H'
def sp__top_holds (_ : PySem.W.Frag) : Sp := fun vs H Q _ => ∃ (v : V) (d : Addr), vs = [v, .ref d] ∧ ∃ xs r names w, Is H (sayD (.top xs r)) v ∧ WD H d names w ∧ (Say.top xs r).ok ∧ (∀ x ∈ (Say.top xs r).names, x ∈ names) ∧ ∀ H', Adv [] H H' → Q (.bl (holdP w (.top xs r))) H'
def sp__ahead_holds (_ : PySem.W.Frag) : Sp := fun vs H Q _ => ∃ (v : V) (d : Addr), vs = [v, .ref d] ∧ ∃ xs ys names w, Is H (sayD (.ahead xs ys)) v ∧ WD H d names w ∧ (Say.ahead xs ys).ok ∧ (∀ u ∈ (Say.ahead xs ys).names, u ∈ names) ∧ ∀ H', Adv [] H H' → Q (.bl (holdP w (.ahead xs ys))) H'
def sp__claim_holds (_ : PySem.W.Frag) : Sp := fun vs H Q _ => ∃ (v : V) (d : Addr), vs = [v, .ref d] ∧ ∃ D f ns names w, Is H (sayD (.claim D f ns)) v ∧ WD H d names w ∧ (Say.claim D f ns).ok ∧ (∀ x ∈ ns, x ∈ names) ∧ ∀ H', Adv [] H H' → Q (.bl (f w)) H'
theorem map_range {α β : Type} (xs : List α) (d : α) (f : α → β) : (List.range xs.length).map (fun i => f (xs.getD i d)) = xs.map f := by
  refine List.ext_getElem? fun i => ?_
  rw [List.getElem?_map, List.getElem?_map]
  by_cases h : i < xs.length
  · rw [List.getElem?_range h, List.getElem?_eq_getElem h]
    show some (f (xs.getD i d)) = some (f xs[i])
    rw [getD_of (List.getElem?_eq_getElem h)]
  · rw [List.getElem?_eq_none (by rw [List.length_range]; omega), List.getElem?_eq_none (by omega)]
    rfl
theorem filter_true {α : Type} (l : List α) : l.filter (fun _ => true) = l := List.filter_eq_self.mpr fun _ _ => rfl
def t_is_true (K : PySem.W.Frag) (m : Nat) : TS := (tSeq (tAsg (tOp (rIxT K) (tVar 0) (tC (.int 0))) (gName 2))
  (tSeq (tIfS (tTest (tOp rEq (tVar 2) (tC (.str "from")))) (tRet (tOp rGeI (tDGet (tVar 1) (tOp (rIxT K) (tVar 0) (tC (.int 1)))) (tOp (rIxT K) (tVar 0) (tC (.int 2))))) tNext)
  (tSeq (tIfS (tTest (tOp rEq (tVar 2) (tC (.str "is")))) (tRet (tOp rEq (tDGet (tVar 1) (tOp (rIxT K) (tVar 0) (tC (.int 1)))) (tOp (rIxT K) (tVar 0) (tC (.int 2))))) tNext)
  (tSeq (tIfS (tTest (tOp rEq (tVar 2) (tC (.str "not")))) (tRet (tNotV (tCall (sp_is_true K m) [] E0 (tCons (tOp (rIxT K) (tVar 0) (tC (.int 1))) (tCons (tVar 1) tNil))))) tNext)
  (tSeq (tAsg (tLc (iTup K (tOp (rIxT K) (tVar 0) (tC (.int 1)))) (gName 4) tYes (tCall (sp_is_true K m) [] E0 (tCons (tVar 4) (tCons (tVar 1) tNil))) [4]) (gName 3))
  (tRet (tIf (tTest (tOp rEq (tVar 2) (tC (.str "and")))) (tCB (rAll K) (tCons (tVar 3) tNil)) (tCB (rAny K) (tCons (tVar 3) tNil)))))))))
def t_weighed (K : PySem.W.Frag) : TS := (tRet (tCB (rSum K) (tCons (tLc (iTup K (tVar 0)) (gTup K 2 (gCons (gName 2) (gCons (gName 3) gNil))) tYes (tOp rMulI (tVar 3) (tDGet (tVar 1) (tVar 2))) [2, 3]) tNil)))
def t__least_holds (K : PySem.W.Frag) : TS := (tRet (tOp rGeI (tCall (sp_weighed K) [] E0 (tCons (tOp (rIxT K) (tVar 0) (tC (.int 1))) (tCons (tVar 1) tNil))) (tOp (rIxT K) (tVar 0) (tC (.int 2)))))
def t__unlike_holds (K : PySem.W.Frag) (w : World) : TS := (tRet (tOp rEq (tCB (rLenS w) (tCons (tSi w (iTup K (tOp (rIxT K) (tVar 0) (tC (.int 1)))) (gName 2) tYes (tDGet (tVar 1) (tVar 2)) [2]) tNil)) (tCB (rLen1 K) (tCons (tOp (rIxT K) (tVar 0) (tC (.int 1))) tNil))))
def t__counts_holds (K : PySem.W.Frag) : TS := (tSeq (tAsg (tLc (iTup K (tOp (rIxT K) (tVar 0) (tC (.int 1)))) (gName 3) tYes (tDGet (tVar 1) (tVar 3)) [3]) (gName 2))
  (tRet (tCB (rAll K) (tCons (tLc (iTup K (tOp (rIxT K) (tVar 0) (tC (.int 2)))) (gTup K 3 (gCons (gName 4) (gCons (gName 5) (gCons (gName 6) gNil)))) tYes (tChain rLeI rLeI (tVar 5) (tBM K "list" (rCntI K) (tVar 2) (tCons (tVar 4) tNil)) (tVar 6)) [4, 5, 6]) tNil))))
def t__table_holds (K : PySem.W.Frag) : TS := (tRet (tOp (rInT K) (tThen (tLc (iTup K (tOp (rIxT K) (tVar 0) (tC (.int 1)))) (gName 2) tYes (tDGet (tVar 1) (tVar 2)) [2]) (kTup K)) (tOp (rIxT K) (tVar 0) (tC (.int 2)))))
def t__bar_holds (K : PySem.W.Frag) : TS := (tRet (tNotV (tCall (sp__table_holds K) [] E0 (tCons (tVar 0) (tCons (tVar 1) tNil)))))
def t__top_holds (K : PySem.W.Frag) : TS := (tRet (tOp rEq (tDGet (tVar 1) (tOp (rIxT K) (tVar 0) (tC (.int 2)))) (tCB (rMax K) (tCons (tLc (iTup K (tOp (rIxT K) (tVar 0) (tC (.int 1)))) (gName 2) tYes (tDGet (tVar 1) (tVar 2)) [2]) tNil))))
def t__ahead_holds (K : PySem.W.Frag) : TS := (tRet (tOp (rLeL K) (tLc (iTup K (tOp (rIxT K) (tVar 0) (tC (.int 1)))) (gName 2) tYes (tDGet (tVar 1) (tVar 2)) [2]) (tLc (iTup K (tOp (rIxT K) (tVar 0) (tC (.int 2)))) (gName 3) tYes (tDGet (tVar 1) (tVar 3)) [3])))
def t__claim_holds (K : PySem.W.Frag) : TS := (tRet (tCall (sp_is_true K 8) [] E0 (tCons (tOp (rIxT K) (tVar 0) (tC (.int 1))) (tCons (tVar 1) tNil))))
theorem len_weighed {K : PySem.W.Frag} : ∀ (vs : List V) (H : Hp) (Q : VK) (E : XK), sp_weighed K vs H Q E → vs.length = 2 := fun vs H Q E h => by
  obtain ⟨_, _, rfl, _⟩ := h
  rfl
theorem len__least_holds {K : PySem.W.Frag} : ∀ (vs : List V) (H : Hp) (Q : VK) (E : XK), sp__least_holds K vs H Q E → vs.length = 2 := fun vs H Q E h => by
  obtain ⟨_, _, rfl, _⟩ := h
  rfl
theorem len__unlike_holds {K : PySem.W.Frag} : ∀ (vs : List V) (H : Hp) (Q : VK) (E : XK), sp__unlike_holds K vs H Q E → vs.length = 2 := fun vs H Q E h => by
  obtain ⟨_, _, rfl, _⟩ := h
  rfl
theorem len__counts_holds {K : PySem.W.Frag} : ∀ (vs : List V) (H : Hp) (Q : VK) (E : XK), sp__counts_holds K vs H Q E → vs.length = 2 := fun vs H Q E h => by
  obtain ⟨_, _, rfl, _⟩ := h
  rfl
theorem pure_weighed {K : PySem.W.Frag} (vs : List V) (H : Hp) (Q : VK) (E : XK) (h : sp_weighed K vs H Q E) : t_weighed K { nx := fun _ H' => Q .non H', rt := Q } (start ["terms", "at", "x", "weight"] vs) H := by
  obtain ⟨v, d, rfl, ts, names, w, hv, hd, hn, hw, hl, q⟩ := h
  obtain ⟨a, vs, rfl, ea, ta⟩ := hv.tup_inv
  have hvl : vs.length = ts.length := by rw [ta.length, List.length_map]
  show t_weighed K _ [some (.ref a), some (.ref d), none, none] H
  unfold t_weighed
  walk_at "aw"
  refine ⟨a, rfl, ⟨_, SqT.of ea⟩, ?_⟩
  refine kLc_pure (walk_tup (xs := vs)) (by omega) (fun H' g => SqT.of (g.tup _ _ ea)) (fun _ => true) (fun i => .int ((ts.getD i (nix, 0)).2 * w (ts.getD i (nix, 0)).1)) (fun i x H2 H3 Kt Kf hi g2 y kt kf => ?_) fun p H' np g' ep => ?_
  · obtain ⟨rfl, y1⟩ := y
    obtain ⟨dt, z1, h1⟩ := ta.get y1
    rw [List.getElem?_map] at z1
    obtain ⟨t, z2, rfl⟩ := Option.map_eq_some_iff.mp z1
    obtain ⟨ia, rfl, ei⟩ := is_pair h1
    have hm := List.mem_of_getElem? z2
    rw [getD_of z2] at kt
    refine w_gtup (SqT.of (g2.tup _ _ ei)) rfl ?_
    walk_at "aw"
    refine ⟨rfl, ?_⟩
    walk_at "aw"
    refine (hd.up g2).get (hn t hm) ?_
    refine w_I (.inl (hw t hm)) ?_
    exact kt rfl _ (.refl _ _)
  · have e2 : H' p = some (.lst ((ts.map fun t => t.2 * w t.1).map V.int)) := by
      rw [List.map_map, ← map_range ts (nix, 0)]
      rw [filter_true, hvl] at ep
      exact ep
    exact ⟨p, _, rfl, SqL.of e2, q _ g'⟩
theorem pure__least_holds {K : PySem.W.Frag} (vs : List V) (H : Hp) (Q : VK) (E : XK) (h : sp__least_holds K vs H Q E) : t__least_holds K { nx := fun _ H' => Q .non H', rt := Q } (start ["saying", "at"] vs) H := by
  obtain ⟨v, d, rfl, ts, n, names, w, hv, hd, ok, hx, q⟩ := h
  obtain ⟨a, c, rfl, ea, hc⟩ := is_sums hv
  show t__least_holds K _ [some (.ref a), some (.ref d)] H
  unfold t__least_holds
  walk_at "aw"
  refine w_ixT (SqT.of ea) rfl ?_
  walk_at "aw"
  refine ⟨_, _, rfl, ts, names, w, hc, hd, fun t ht => hx _ (List.mem_map_of_mem ht), ok.2.2, ok.2.1, fun H' a1 => ?_⟩
  walk_at "aw"
  refine w_ixT (SqT.of (a1.tup _ _ ea)) rfl ?_
  walk_at "aw"
  exact q H' a1
theorem w_cnt {σ : L2.St} {i : Nat} {p : Addr} {ns : List Int} {H : Hp} {Q : VK} {K : PySem.W.Frag} {a : TA} (hσ : σ[i]? = some (some (.ref p))) (h : SqL K H p (ns.map V.int)) (ha : a σ H fun vs H2 => rCntI K (.ref p) vs H2 Q) : tBM K "list" (rCntI K) (tVar i) a σ H Q :=
  ⟨.ref p, hσ, .inl ⟨rfl, _, h⟩, ha⟩
theorem pure__counts_holds {K : PySem.W.Frag} (vs : List V) (H : Hp) (Q : VK) (E : XK) (h : sp__counts_holds K vs H Q E) : t__counts_holds K { nx := fun _ H' => Q .non H', rt := Q } (start ["saying", "at", "values", "x", "v", "low", "high"] vs) H := by
  obtain ⟨v, d, rfl, xs, ts, names, w, hv, hd, ok, hx, q⟩ := h
  obtain ⟨a, b, c, vs, rfl, ea, eb, ec, tc⟩ := is_counts hv
  have hvl : vs.length = ts.length := by rw [tc.length, List.length_map]
  have o1 := ok.1
  have o2 := ok.2
  show t__counts_holds K _ [some (.ref a), some (.ref d), none, none, none, none, none] H
  unfold t__counts_holds
  walk_at "aw"
  refine w_ixT (SqT.of ea) rfl ?_
  refine ⟨b, rfl, ⟨_, SqT.of eb⟩, ?_⟩
  refine kLc_pure (walk_tup (xs := xs.map V.str)) (by rw [List.length_map]; omega) (fun H' g => SqT.of (g.tup _ _ eb)) (fun _ => true) (fun i => .int (w (xs.getD i nix))) (fun i x H2 H3 Kt Kf hi g2 y kt kf => ?_) fun p H1 np g1 ep => ?_
  · obtain ⟨rfl, y1⟩ := y
    rw [List.getElem?_map] at y1
    obtain ⟨n1, z1, rfl⟩ := Option.map_eq_some_iff.mp y1
    rw [getD_of z1] at kt
    walk_at "aw"
    refine ⟨rfl, ?_⟩
    walk_at "aw"
    refine (hd.up g2).get (hx n1 (List.mem_of_getElem? z1)) ?_
    exact kt rfl _ (.refl _ _)
  replace ep : H1 p = some (.lst ((xs.map w).map V.int)) := by
    rw [List.map_map, ← map_range xs nix]
    rw [filter_true, List.length_map] at ep
    exact ep
  walk_at "aw"
  refine w_ixT (SqT.of (g1.tup _ _ ea)) rfl ?_
  refine ⟨c, rfl, ⟨_, SqT.of (g1.tup _ _ ec)⟩, ?_⟩
  refine kLc_pure (walk_tup (xs := vs)) (by omega) (fun H' g => SqT.of (g.tup _ _ (g1.tup _ _ ec))) (fun _ => true) (fun i => .bl (cntOk w xs (ts.getD i (0, 0, 0)))) (fun i x H2 H3 Kt Kf hi g2 y kt kf => ?_) fun r H' nr g' er => ?_
  · obtain ⟨rfl, y1⟩ := y
    obtain ⟨dt, z1, h1⟩ := tc.get y1
    rw [List.getElem?_map] at z1
    obtain ⟨t, z2, rfl⟩ := Option.map_eq_some_iff.mp z1
    obtain ⟨ia, rfl, ei⟩ := is_tri h1
    rw [getD_of z2] at kt
    refine w_gtup (SqT.of (g2.tup _ _ (g1.tup _ _ ei))) rfl ?_
    walk_at "aw"
    refine ⟨rfl, ?_⟩
    walk_at "aw"
    refine w_cnt rfl (SqL.of (g2.keep _ _ (fun z => nomatch z) ep)) ?_
    walk_at "aw"
    refine ⟨p, xs.map w, _, rfl, rfl, SqL.of (g2.keep _ _ (fun z => nomatch z) ep), ?_⟩
    walk_at "aw"
    refine w_iteB (fun h1 => ?_) fun h1 => ?_
    · walk_at "aw"
      have e : cntOk w xs t = decide (((numb w xs t.1 : Nat) : Int) ≤ t.2.2) := by
        unfold cntOk
        rw [decide_eq_true (show t.2.1 ≤ ((numb w xs t.1 : Nat) : Int) from h1), Bool.true_and]
      rw [e] at kt
      exact kt rfl _ (.refl _ _)
    · have e : cntOk w xs t = false := by
        unfold cntOk
        rw [decide_eq_false (show ¬ t.2.1 ≤ ((numb w xs t.1 : Nat) : Int) from h1), Bool.false_and]
      rw [e] at kt
      exact kt rfl _ (.refl _ _)
  · replace er : H' r = some (.lst ((ts.map (cntOk w xs)).map V.bl)) := by
      rw [List.map_map, ← map_range ts (0, 0, 0)]
      rw [filter_true, hvl] at er
      exact er
    refine ⟨r, _, rfl, SqL.of er, ?_⟩
    have e2 : ((ts.map (cntOk w xs)).all id) = holdP w (.counts xs ts) := by
      rw [List.all_map]
      rfl
    rw [e2]
    exact q H' (g1.trans g')
theorem pure__unlike_holds {K : PySem.W.Frag} {W : World} (vs : List V) (H : Hp) (Q : VK) (E : XK) (h : sp__unlike_holds K vs H Q E) : t__unlike_holds K W { nx := fun _ H' => Q .non H', rt := Q } (start ["saying", "at", "x"] vs) H := by
  obtain ⟨v, d, rfl, xs, names, w, hv, hd, hok, hn, q⟩ := h
  have hok : xs.length ≤ 100 := hok
  obtain ⟨a, b, rfl, ea, eb⟩ := is_unlike hv
  show t__unlike_holds K W _ [some (.ref a), some (.ref d), none] H
  unfold t__unlike_holds
  walk_at "aw"
  refine w_siT ?_
  walk_at "aw"
  refine w_ixT (SqT.of ea) (i := 1) (v := .ref b) rfl ?_
  refine kSiT_ints eb (by rw [List.length_map]; omega) (fun i => w (xs.getD i nix)) (fun i x H1 Kt hx a1 kt => ?_) fun D H1 S n a1 eD hl hnd => ?_
  · rw [List.getElem?_map] at hx
    obtain ⟨s, hs, rfl⟩ := Option.map_eq_some_iff.mp hx
    walk_at "aw"
    refine ⟨rfl, ?_⟩
    walk_at "aw"
    have e0 : xs.getD i nix = s := getD_of hs
    rw [e0] at kt
    exact (hd.up a1).get (hn s (List.mem_of_getElem? hs)) (kt _ (.refl _ _))
  · rw [List.length_map] at hl hnd
    walk_at "aw"
    refine ⟨D, S, n, rfl, eD, by omega, ?_⟩
    walk_at "aw"
    refine w_ixT (SqT.of (a1.tup _ _ ea)) (i := 1) (v := .ref b) rfl ?_
    walk_at "aw"
    refine w_lenT (SqT.of (a1.tup _ _ eb)) ?_
    rw [List.length_map]
    walk_at "aw"
    have er : (List.range xs.length).map (fun i => w (xs.getD i nix)) = xs.map w := by
      refine List.ext_getElem (by simp) fun i h1 h2 => ?_
      rw [List.length_map, List.length_range] at h1
      rw [List.getElem_map, List.getElem_map, List.getElem_range, getD_of (List.getElem?_eq_getElem h1)]
    rw [er] at hnd
    have e2 : decide (V.int (n : Nat) = V.int (xs.length : Nat)) = holdP w (.unlike xs) := by
      show _ = decide ((xs.map w).Nodup)
      rw [decide_eq_decide, ← hnd]
      exact ⟨fun z => by have := V.int.inj z; omega, fun z => by rw [z]⟩
    rw [e2]
    exact q H1 a1
theorem len__table_holds {K : PySem.W.Frag} : ∀ (vs : List V) (H : Hp) (Q : VK) (E : XK), sp__table_holds K vs H Q E → vs.length = 2 := fun vs H Q E h => by
  obtain ⟨_, _, rfl, _⟩ := h
  rfl
theorem len__bar_holds {K : PySem.W.Frag} : ∀ (vs : List V) (H : Hp) (Q : VK) (E : XK), sp__bar_holds K vs H Q E → vs.length = 2 := fun vs H Q E h => by
  obtain ⟨_, _, rfl, _⟩ := h
  rfl
theorem len__top_holds {K : PySem.W.Frag} : ∀ (vs : List V) (H : Hp) (Q : VK) (E : XK), sp__top_holds K vs H Q E → vs.length = 2 := fun vs H Q E h => by
  obtain ⟨_, _, rfl, _⟩ := h
  rfl
theorem any_rows (rows : List (List Int)) (d : List Int) : ((rows.map rowD).any fun z => PyData.eqv z (rowD d)) = rows.any fun row => decide (row = d) := by
  rw [List.any_map]
  congr 1
  funext z
  exact rows_eqv z d
theorem pure__table_holds {K : PySem.W.Frag} (vs : List V) (H : Hp) (Q : VK) (E : XK) (h : sp__table_holds K vs H Q E) : t__table_holds K { nx := fun _ H' => Q .non H', rt := Q } (start ["saying", "at", "x"] vs) H := by
  obtain ⟨v, d, rfl, b, xs, rows, names, w, hv, hd, ok, hx, q⟩ := h
  obtain ⟨a, p, c, vs, rfl, ea, ep, ec, tc⟩ := is_tab hv
  have o1 := ok.1
  show t__table_holds K _ [some (.ref a), some (.ref d), none] H
  unfold t__table_holds
  walk_at "aw"
  refine w_ixT (SqT.of ea) rfl ?_
  refine ⟨p, rfl, ⟨_, SqT.of ep⟩, ?_⟩
  refine kLc_pure (walk_tup (xs := xs.map V.str)) (by rw [List.length_map]; omega) (fun H' g => SqT.of (g.tup _ _ ep)) (fun _ => true) (fun i => .int (w (xs.getD i nix))) (fun i x H2 H3 Kt Kf hi g2 y kt kf => ?_) fun l H1 np g1 el => ?_
  · obtain ⟨rfl, y1⟩ := y
    rw [List.getElem?_map] at y1
    obtain ⟨n1, z1, rfl⟩ := Option.map_eq_some_iff.mp y1
    rw [getD_of z1] at kt
    walk_at "aw"
    refine ⟨rfl, ?_⟩
    walk_at "aw"
    refine (hd.up g2).get (hx n1 (List.mem_of_getElem? z1)) ?_
    exact kt rfl _ (.refl _ _)
  replace el : H1 l = some (.lst ((xs.map w).map V.int)) := by
    rw [List.map_map, ← map_range xs nix]
    rw [filter_true, List.length_map] at el
    exact el
  refine w_tupL (SqL.of el) fun t H2 nt a2 e2 => ?_
  walk_at "aw"
  refine w_ixT (SqT.of (a2.tup _ _ (g1.tup _ _ ea))) rfl ?_
  have g2 := g1.trans a2
  refine ⟨rowD (xs.map w), rows.map rowD, (Is.tup e2 (IsAll.ints _)).dp, (Is.tup (g2.tup _ _ ec) (tc.up g2.tup)).dp, row_shaped _, rows_shaped _, ?_⟩
  rw [any_rows]
  exact q H2 g2
theorem pure__bar_holds {K : PySem.W.Frag} (vs : List V) (H : Hp) (Q : VK) (E : XK) (h : sp__bar_holds K vs H Q E) : t__bar_holds K { nx := fun _ H' => Q .non H', rt := Q } (start ["saying", "at"] vs) H := by
  obtain ⟨v, d, rfl, b, xs, rows, names, w, hv, hd, ok, hx, q⟩ := h
  show t__bar_holds K _ [some v, some (.ref d)] H
  unfold t__bar_holds
  walk_at "aw"
  refine ⟨v, d, rfl, b, xs, rows, names, w, hv, hd, ok, hx, fun H' a1 => ?_⟩
  walk_at "aw"
  exact q H' a1
theorem pure__top_holds {K : PySem.W.Frag} (vs : List V) (H : Hp) (Q : VK) (E : XK) (h : sp__top_holds K vs H Q E) : t__top_holds K { nx := fun _ H' => Q .non H', rt := Q } (start ["saying", "at", "x"] vs) H := by
  obtain ⟨v, d, rfl, xs, r, names, w, hv, hd, ok, hx, q⟩ := h
  obtain ⟨a, p, rfl, ea, ep⟩ := is_top hv
  have o1 := ok.1
  have o2 := ok.2.1
  have hr := hx r (List.mem_cons_self ..)
  have hxs : ∀ x ∈ xs, x ∈ names := fun x h => hx x (List.mem_cons_of_mem _ h)
  show t__top_holds K _ [some (.ref a), some (.ref d), none] H
  unfold t__top_holds
  walk_at "aw"
  refine w_ixT (SqT.of ea) rfl ?_
  refine hd.get hr ?_
  walk_at "aw"
  refine w_ixT (SqT.of ea) rfl ?_
  refine ⟨p, rfl, ⟨_, SqT.of ep⟩, ?_⟩
  refine kLc_pure (walk_tup (xs := xs.map V.str)) (by rw [List.length_map]; omega) (fun H' g => SqT.of (g.tup _ _ ep)) (fun _ => true) (fun i => .int (w (xs.getD i nix))) (fun i x H2 H3 Kt Kf hi g2 y kt kf => ?_) fun l H1 np g1 el => ?_
  · obtain ⟨rfl, y1⟩ := y
    rw [List.getElem?_map] at y1
    obtain ⟨n1, z1, rfl⟩ := Option.map_eq_some_iff.mp y1
    rw [getD_of z1] at kt
    walk_at "aw"
    refine ⟨rfl, ?_⟩
    walk_at "aw"
    refine (hd.up g2).get (hxs n1 (List.mem_of_getElem? z1)) ?_
    exact kt rfl _ (.refl _ _)
  replace el : H1 l = some (.lst ((xs.map w).map V.int)) := by
    rw [List.map_map, ← map_range xs nix]
    rw [filter_true, List.length_map] at el
    exact el
  walk_at "aw"
  refine ⟨l, xs.map w, rfl, SqL.of el, by rw [List.length_map]; exact o1, fun m hm hmx => ?_⟩
  walk_at "aw"
  have e : decide (V.int (w r) = V.int m) = holdP w (.top xs r) := by
    show _ = (xs.all (fun x => !decide (w r < w x)) && xs.any (fun x => decide (w x = w r)))
    rw [Bool.eq_iff_iff, decide_eq_true_iff, Bool.and_eq_true, List.all_eq_true, List.any_eq_true]
    constructor
    · intro z
      have z := V.int.inj z
      refine ⟨fun x hx => ?_, ?_⟩
      · have := hmx (w x) (List.mem_map_of_mem hx)
        rw [Bool.not_eq_true', decide_eq_false_iff_not]
        omega
      · obtain ⟨x, h1, h2⟩ := List.mem_map.mp hm
        exact ⟨x, h1, decide_eq_true (by omega)⟩
    · rintro ⟨h1, x, h2, h3⟩
      have h3 := of_decide_eq_true h3
      obtain ⟨y, h4, h5⟩ := List.mem_map.mp hm
      have h6 := h1 y h4
      rw [Bool.not_eq_true', decide_eq_false_iff_not] at h6
      have := hmx (w x) (List.mem_map_of_mem h2)
      rw [show w r = m by omega]
  rw [e]
  exact q H1 g1
theorem len__ahead_holds {K : PySem.W.Frag} : ∀ (vs : List V) (H : Hp) (Q : VK) (E : XK), sp__ahead_holds K vs H Q E → vs.length = 2 := fun vs H Q E h => by
  obtain ⟨_, _, rfl, _⟩ := h
  rfl
theorem pure__ahead_holds {K : PySem.W.Frag} (vs : List V) (H : Hp) (Q : VK) (E : XK) (h : sp__ahead_holds K vs H Q E) : t__ahead_holds K { nx := fun _ H' => Q .non H', rt := Q } (start ["saying", "at", "x", "y"] vs) H := by
  obtain ⟨v, d, rfl, xs, ys, names, w, hv, hd, ok, hx, q⟩ := h
  obtain ⟨a, p, r, rfl, ea, ep, er⟩ := is_ahead hv
  have o1 := ok.1
  have o2 := ok.2
  have hxs : ∀ x ∈ xs, x ∈ names := fun x h => hx x (List.mem_append_left _ h)
  have hys : ∀ x ∈ ys, x ∈ names := fun x h => hx x (List.mem_append_right _ h)
  show t__ahead_holds K _ [some (.ref a), some (.ref d), none, none] H
  unfold t__ahead_holds
  walk_at "aw"
  refine w_ixT (SqT.of ea) rfl ?_
  refine ⟨p, rfl, ⟨_, SqT.of ep⟩, ?_⟩
  refine kLc_pure (walk_tup (xs := xs.map V.str)) (by rw [List.length_map]; omega) (fun H' g => SqT.of (g.tup _ _ ep)) (fun _ => true) (fun i => .int (w (xs.getD i nix))) (fun i x H2 H3 Kt Kf hi g2 y kt kf => ?_) fun l H1 np g1 el => ?_
  · obtain ⟨rfl, y1⟩ := y
    rw [List.getElem?_map] at y1
    obtain ⟨n1, z1, rfl⟩ := Option.map_eq_some_iff.mp y1
    rw [getD_of z1] at kt
    walk_at "aw"
    refine ⟨rfl, ?_⟩
    walk_at "aw"
    refine (hd.up g2).get (hxs n1 (List.mem_of_getElem? z1)) ?_
    exact kt rfl _ (.refl _ _)
  replace el : H1 l = some (.lst ((xs.map w).map V.int)) := by
    rw [List.map_map, ← map_range xs nix]
    rw [filter_true, List.length_map] at el
    exact el
  walk_at "aw"
  refine w_ixT (SqT.of (g1.tup _ _ ea)) rfl ?_
  have er1 := g1.tup _ _ er
  refine ⟨r, rfl, ⟨_, SqT.of er1⟩, ?_⟩
  refine kLc_pure (walk_tup (xs := ys.map V.str)) (by rw [List.length_map]; omega) (fun H' g => SqT.of (g.tup _ _ er1)) (fun _ => true) (fun i => .int (w (ys.getD i nix))) (fun i x H2 H3 Kt Kf hi g2 y kt kf => ?_) fun m H2 nm g2 em => ?_
  · obtain ⟨rfl, y1⟩ := y
    rw [List.getElem?_map] at y1
    obtain ⟨n1, z1, rfl⟩ := Option.map_eq_some_iff.mp y1
    rw [getD_of z1] at kt
    walk_at "aw"
    refine ⟨rfl, ?_⟩
    walk_at "aw"
    refine ((hd.up g1).up g2).get (hys n1 (List.mem_of_getElem? z1)) ?_
    exact kt rfl _ (.refl _ _)
  replace em : H2 m = some (.lst ((ys.map w).map V.int)) := by
    rw [List.map_map, ← map_range ys nix]
    rw [filter_true, List.length_map] at em
    exact em
  exact ⟨l, m, xs.map w, ys.map w, rfl, rfl, SqL.of (g2.keep _ _ (fun z => nomatch z) el), SqL.of em, q H2 (g1.trans g2)⟩
theorem no_is_true {K : PySem.W.Frag} {vs : List V} {H : Hp} {Q : VK} {E : XK} (h : sp_is_true K 0 vs H Q E) : False := by
  obtain ⟨_, _, _, _, _, _, _, _, _, hc, _⟩ := h
  cases hc
theorem len_is_true {K : PySem.W.Frag} {m : Nat} : ∀ (vs : List V) (H : Hp) (Q : VK) (E : XK), sp_is_true K m vs H Q E → vs.length = 2 := fun vs H Q E h => by
  obtain ⟨_, _, rfl, _⟩ := h
  rfl
theorem int_eqd (a b : Int) : decide (V.int a = V.int b) = decide (a = b) := by
  rw [decide_eq_decide]
  exact ⟨V.int.inj, congrArg _⟩
theorem fs_map (fs : List (Wd → Bool)) (w : Wd) : (List.range fs.length).map (fun i => V.bl (fs.getD i (fun _ => false) w)) = (fs.map (· w)).map V.bl := by
  rw [List.map_map]
  exact map_range fs (fun _ => false) fun f => V.bl (f w)
theorem pure_is_true {K : PySem.W.Frag} {m : Nat} (vs : List V) (H : Hp) (Q : VK) (E : XK) (h : sp_is_true K (m + 1) vs H Q E) : t_is_true K m { nx := fun _ H' => Q .non H', rt := Q } (start ["claim", "at", "word", "truths", "part"] vs) H := by
  obtain ⟨v, d, rfl, D, f, names, w, hv, hd, hc, q⟩ := h
  show t_is_true K m _ [some v, some (.ref d), none, none, none] H
  unfold t_is_true
  cases hc with
  | one b hx =>
    rename_i x n
    obtain ⟨a, rfl, ea⟩ := is_one hv
    have q0 := q H (.refl _ _)
    walk_at "aw"
    refine w_ixT (SqT.of ea) rfl ?_
    walk_at "aw"
    cases b with
    | true =>
      refine w_iteB (fun _ => ?_) fun h => absurd rfl h
      walk_at "aw"
      refine w_ixT (SqT.of ea) rfl ?_
      refine hd.get hx ?_
      walk_at "aw"
      refine w_ixT (SqT.of ea) rfl ?_
      walk_at "aw"
      exact q0
    | false =>
      refine w_iteB (fun h => absurd h (by decide)) fun _ => ?_
      walk_at "aw"
      refine w_iteB (fun _ => ?_) fun h => absurd rfl h
      walk_at "aw"
      refine w_ixT (SqT.of ea) rfl ?_
      refine hd.get hx ?_
      walk_at "aw"
      refine w_ixT (SqT.of ea) rfl ?_
      walk_at "aw"
      rw [int_eqd]
      exact q0
  | neg h =>
    rename_i d' f'
    obtain ⟨a, u, rfl, ea, hu⟩ := is_two hv
    walk_at "aw"
    refine w_ixT (SqT.of ea) rfl ?_
    walk_at "aw"
    refine w_iteB (fun h => absurd h (by decide)) fun _ => ?_
    walk_at "aw"
    refine w_iteB (fun h => absurd h (by decide)) fun _ => ?_
    walk_at "aw"
    refine w_iteB (fun _ => ?_) fun h => absurd rfl h
    walk_at "aw"
    refine w_ixT (SqT.of ea) rfl ?_
    walk_at "aw"
    refine ⟨u, d, rfl, d', f', names, w, hu, hd, h, fun H' a1 => ?_⟩
    walk_at "aw"
    exact q H' a1
  | many b ds fs hl h1 h =>
    obtain ⟨a, u, rfl, ea, hu⟩ := is_two hv
    obtain ⟨c, xs, rfl, ec, tc⟩ := hu.tup_inv
    have hxl : xs.length = ds.length := tc.length
    walk_at "aw"
    refine w_ixT (SqT.of ea) rfl ?_
    walk_at "aw"
    refine w_iteB (fun h => absurd h (by cases b <;> decide)) fun _ => ?_
    walk_at "aw"
    refine w_iteB (fun h => absurd h (by cases b <;> decide)) fun _ => ?_
    walk_at "aw"
    refine w_iteB (fun h => absurd h (by cases b <;> decide)) fun _ => ?_
    walk_at "aw"
    refine w_ixT (SqT.of ea) rfl ?_
    refine ⟨c, rfl, ⟨_, SqT.of ec⟩, ?_⟩
    refine kLc_pure (walk_tup (xs := xs)) (by omega) (fun H' g => SqT.of (g.tup _ _ ec)) (fun _ => true) (fun i => .bl (fs.getD i (fun _ => false) w)) (fun i x H2 H3 Kt Kf hi g2 y kt kf => ?_) fun l H1 np g1 el => ?_
    · obtain ⟨rfl, y1⟩ := y
      obtain ⟨dt, z1, hdt⟩ := tc.get y1
      obtain ⟨fn, z2⟩ := get_some (xs := fs) (i := i) (by omega)
      rw [getD_of z2] at kt
      walk_at "aw"
      refine ⟨rfl, ?_⟩
      walk_at "aw"
      exact ⟨x, d, rfl, dt, fn, names, w, hdt.up g2.tup, hd.up g2, h i dt fn z1 z2, fun H' a1 => kt rfl _ a1⟩
    replace el : H1 l = some (.lst ((fs.map (· w)).map V.bl)) := by
      rw [filter_true, hxl, hl, fs_map] at el
      exact el
    have q1 := q H1 g1
    walk_at "aw"
    cases b with
    | true =>
      refine w_iteB (fun _ => ?_) fun h => absurd rfl h
      walk_at "aw"
      refine ⟨l, _, rfl, SqL.of el, ?_⟩
      replace q1 : Q (.bl (fs.all (· w))) H1 := q1
      rw [List.all_map]
      exact q1
    | false =>
      refine w_iteB (fun h => absurd h (by decide)) fun _ => ?_
      walk_at "aw"
      refine ⟨l, _, rfl, SqL.of el, ?_⟩
      replace q1 : Q (.bl (fs.any (· w))) H1 := q1
      rw [List.any_map]
      exact q1
theorem len__claim_holds {K : PySem.W.Frag} : ∀ (vs : List V) (H : Hp) (Q : VK) (E : XK), sp__claim_holds K vs H Q E → vs.length = 2 := fun vs H Q E h => by
  obtain ⟨_, _, rfl, _⟩ := h
  rfl
theorem pure__claim_holds {K : PySem.W.Frag} (vs : List V) (H : Hp) (Q : VK) (E : XK) (h : sp__claim_holds K vs H Q E) : t__claim_holds K { nx := fun _ H' => Q .non H', rt := Q } (start ["saying", "at"] vs) H := by
  obtain ⟨v, d, rfl, D, f, ns, names, w, hv, hd, ok, hx, q⟩ := h
  have ok : ClD ns 8 D f := ok
  obtain ⟨a, u, rfl, ea, hu⟩ := is_two hv
  show t__claim_holds K _ [some (.ref a), some (.ref d)] H
  unfold t__claim_holds
  walk_at "aw"
  refine w_ixT (SqT.of ea) rfl ?_
  walk_at "aw"
  exact ⟨u, d, rfl, D, f, names, w, hu, hd, ok.mono hx, q⟩
end AW
namespace AW
open PySem PySem.Spec PyProof.Rows L2 RZ
local macro_rules | `(tactic| walk_at "aw1") => `(tactic| first
  | (with_reducible refine w_seq ?_) | (with_reducible refine w_asg ?_) | (with_reducible refine w_gname ?_) | (with_reducible refine w_op ?_) | (with_reducible refine w_un ?_)
  | ((with_reducible refine' w_var ?h ?_); (case h => rfl)) | (with_reducible refine w_c ?_)
  | (with_reducible refine w_I0 ?_) | (with_reducible refine w_U ?_) | (with_reducible refine w_cb ?_) | (with_reducible refine w_nil ?_) | (with_reducible refine w_cons ?_) | (with_reducible refine w_call ?_)
  | (with_reducible refine w_test ?_) | (with_reducible refine w_B ?_) | (with_reducible refine w_bl ?_) | (with_reducible refine w_not ?_) | (with_reducible refine w_yes ?_) | (with_reducible refine iteT ?_) | (with_reducible refine iteF ?_) | (with_reducible refine w_and ?_) | (with_reducible refine w_or ?_)
  | (with_reducible refine w_andV ?_) | (with_reducible refine w_orV ?_) | (with_reducible refine w_notV ?_) | (with_reducible refine w_if ?_)
  | (with_reducible refine w_int1 ?_) | (with_reducible refine w_int1b ?_) | (with_reducible refine w_abs ?_) | (with_reducible refine w_max2 ?_) | (with_reducible refine w_min2 ?_)
  | ((with_reducible refine w_eq ?h ?_); (case h => rfl)) | ((with_reducible refine w_ne ?h ?_); (case h => rfl)) | (with_reducible refine w_isN ?_) | (with_reducible refine w_isB ?_) | (with_reducible refine w_chain ?_)
  | (with_reducible refine w_ret ?_) | (with_reducible refine w_drop ?_) | (with_reducible refine w_ifS ?_) | (with_reducible refine w_gsub ?_) | (with_reducible refine w_augS ?_) | (with_reducible refine w_ipI ?_) | (with_reducible refine w_next ?_)
  | (with_reducible refine w_forR ?_) | (with_reducible refine w_forR2 ?_) | (with_reducible refine w_forL ?_) | (with_reducible refine w_forT ?_) | (with_reducible refine w_lcR ?_) | (with_reducible refine w_lcL ?_) | (with_reducible refine w_lcT ?_) | (with_reducible refine w_sl ?_) | (with_reducible refine w_part ?_) | (with_reducible refine w_noPart ?_) | (with_reducible refine w_in ?_)
  | (with_reducible refine w_gcons ?_) | (with_reducible refine w_gnil ?_) | (with_reducible refine w_lc3 ?_) | (with_reducible refine w_dcZ ?_) | (with_reducible refine w_dcT ?_) | (with_reducible refine w_dg ?_) | (with_reducible refine w_callK ?_) | (with_reducible refine w_dput ?_) | (with_reducible refine w_tup1 ?_)
  | (with_reducible refine w_tup ?_) | (with_reducible refine w_lst ?_)
  | ((with_reducible refine w_I ?h ?_); (case h => first | (exact Or.inr ⟨by decide, by decide⟩) | (exact Or.inl ⟨by decide, by decide⟩) | (show (0 : Int) < _; decide) | (exact ⟨by decide, by decide, by decide⟩) | assumption)))
local macro_rules | `(tactic| walk_at "aw") => `(tactic| repeat (walk_at "aw1"))
/-! ### the program's functions over models -/
def sp_values_at (_ : PySem.W.Frag) : Sp := fun vs H Q _ => ∃ (m f : V), vs = [m, f] ∧ ∃ doms firm soft fl, Is H (modD doms firm soft) m ∧ Is H (.tuple (fl.map .int)) f ∧ fl.length = doms.length ∧ (doms.map (·.1)).Nodup ∧ doms.length ≤ 100 ∧
  ∀ d H', Adv [] H H' → WD H' d (doms.map (·.1)) (wOf (doms.map (·.1)) fl) → Q (.ref d) H'
def sp_saying_of (_ : PySem.W.Frag) : Sp := fun vs H Q _ => ∃ (m : V) (n : Str), vs = [m, .str n] ∧ ∃ doms firm soft s, Is H (modD doms firm soft) m ∧ (firm.map (·.1) ++ soft.map (·.1)).Nodup ∧ firm.length ≤ 100 ∧ soft.length ≤ 100 ∧ (n, s) ∈ firm ++ soft.map (fun q => (q.1, q.2.1)) ∧
  ∀ v H', Adv [] H H' → Is H' (sayD s) v → Q v H'
def sp_holds (_ : PySem.W.Frag) : Sp := fun vs H Q _ => ∃ (v : V) (d : Addr), vs = [v, .ref d] ∧ ∃ s names w, Is H (sayD s) v ∧ WD H d names w ∧ s.ok ∧ (∀ x ∈ s.names, x ∈ names) ∧ ∀ H', Adv [] H H' → Q (.bl (holdP w s)) H'
def sp_holds0 (_ : PySem.W.Frag) : Sp := fun vs H Q _ => ∃ (v : V) (d : Addr), vs = [v, .ref d] ∧ ∃ s names w, Is H (sayD s) v ∧ WD H d names w ∧ s.ok ∧ s.isWhen = false ∧ (∀ x ∈ s.names, x ∈ names) ∧ ∀ H', Adv [] H H' → Q (.bl (holdP w s)) H'
def sp__when_holds (_ : PySem.W.Frag) : Sp := fun vs H Q _ => ∃ (v : V) (d : Addr), vs = [v, .ref d] ∧ ∃ D f ns s names w, Is H (sayD (.when D f ns s)) v ∧ WD H d names w ∧ (Say.when D f ns s).ok ∧ (∀ x ∈ (Say.when D f ns s).names, x ∈ names) ∧ ∀ H', Adv [] H H' → Q (.bl (holdP w (.when D f ns s))) H'
/-- a model that is right enough for its sayings to be looked at -/
structure ModOk (doms : List (Str × List Int)) (firm : List (Str × Say)) (soft : List (Str × Say × Int)) : Prop where
  dn : (doms.map (·.1)).Nodup
  dl : doms.length ≤ 100
  sn : (firm.map (·.1) ++ soft.map (·.1)).Nodup
  fl : firm.length ≤ 100
  sl : soft.length ≤ 100
  fo : ∀ p ∈ firm, p.2.ok ∧ ∀ x ∈ p.2.names, x ∈ doms.map (·.1)
  so : ∀ p ∈ soft, p.2.1.ok ∧ ∀ x ∈ p.2.1.names, x ∈ doms.map (·.1)
def sp_keeps_saying (_ : PySem.W.Frag) : Sp := fun vs H Q _ => ∃ (m f : V) (n : Str), vs = [m, .str n, f] ∧ ∃ doms firm soft s fl, Is H (modD doms firm soft) m ∧ Is H (.tuple (fl.map .int)) f ∧ fl.length = doms.length ∧ ModOk doms firm soft ∧ (n, s) ∈ firm ++ soft.map (fun q => (q.1, q.2.1)) ∧
  ∀ H', Adv [] H H' → Q (.bl (holdP (wOf (doms.map (·.1)) fl) s)) H'
def sp_keeps (_ : PySem.W.Frag) : Sp := fun vs H Q _ => ∃ (m f : V), vs = [m, f] ∧ ∃ doms firm soft fl, Is H (modD doms firm soft) m ∧ Is H (.tuple (fl.map .int)) f ∧ fl.length = doms.length ∧ ModOk doms firm soft ∧
  ∀ H', Adv [] H H' → Q (.bl (firm.all fun p => holdP (wOf (doms.map (·.1)) fl) p.2)) H'
def t_values_at (K : PySem.W.Frag) : TS := (tRet (tDc (iZipA K (tCons (tOp (rIxT K) (tVar 0) (tC (.int 0))) (tCons (tVar 1) tNil))) (gTup K 2 (gCons (gName 2) (gCons (gName 3) gNil))) tYes (tOp (rIxT K) (tVar 2) (tC (.int 0))) (tVar 3) [2, 3]))
def t_saying_of (K : PySem.W.Frag) : TS := (tSeq (tAsg (tDc (iTup K (tOp (rCatA K) (tOp (rIxT K) (tVar 0) (tC (.int 1))) (tOp (rIxT K) (tVar 0) (tC (.int 2))))) (gName 3) tYes (tOp (rIxT K) (tVar 3) (tC (.int 0))) (tOp (rIxT K) (tVar 3) (tC (.int 1))) [3]) (gName 2))
  (tRet (tDGet (tVar 2) (tVar 1))))
def t__when_holds (K : PySem.W.Frag) : TS := (tRet (tOrV (tNotV (tCall (sp_is_true K 8) [] E0 (tCons (tOp (rIxT K) (tVar 0) (tC (.int 1))) (tCons (tVar 1) tNil)))) (tCall (sp_holds0 K) [] E0 (tCons (tOp (rIxT K) (tVar 0) (tC (.int 2))) (tCons (tVar 1) tNil)))))
def t_keeps_saying (K : PySem.W.Frag) : TS := (tRet (tCall (sp_holds K) [] E0 (tCons (tCall (sp_saying_of K) [] E0 (tCons (tVar 0) (tCons (tVar 1) tNil))) (tCons (tCall (sp_values_at K) [] E0 (tCons (tVar 0) (tCons (tVar 2) tNil))) tNil))))
def t_keeps (K : PySem.W.Frag) : TS := (tSeq (tAsg (tCall (sp_values_at K) [] E0 (tCons (tVar 0) (tCons (tVar 1) tNil))) (gName 2))
  (tSeq (tFor (iTup K (tOp (rIxT K) (tVar 0) (tC (.int 1)))) (gTup K 2 (gCons (gName 3) (gCons (gName 4) gNil)))
  (tIfS (tNot (tB (tCall (sp_holds K) [] E0 (tCons (tVar 4) (tCons (tVar 2) tNil))))) (tRet (tC (.bl false))) tNext))
  (tRet (tC (.bl true)))))
theorem len_values_at {K : PySem.W.Frag} : ∀ (vs : List V) (H : Hp) (Q : VK) (E : XK), sp_values_at K vs H Q E → vs.length = 2 := fun vs H Q E h => by
  obtain ⟨_, _, rfl, _⟩ := h
  rfl
theorem pure_values_at {K : PySem.W.Frag} (vs : List V) (H : Hp) (Q : VK) (E : XK) (h : sp_values_at K vs H Q E) : t_values_at K { nx := fun _ H' => Q .non H', rt := Q } (start ["model", "filling", "item", "v"] vs) H := by
  obtain ⟨m, f, rfl, doms, firm, soft, fl, hm, hf, hfl, hnd, hdl, q⟩ := h
  obtain ⟨a, b, c, d, xs, ys, zs, rfl, ea, eb, tb, ec, tc, ed, td⟩ := is_mod hm
  obtain ⟨fa, fv, rfl, ef, tf⟩ := hf.tup_inv
  have efv := tf.ints_inv
  subst efv
  show t_values_at K _ [some (.ref a), some (.ref fa), none, none] H
  unfold t_values_at
  walk_at "aw"
  refine w_ixT (SqT.of ea) rfl ?_
  walk_at "aw"
  have hxl : xs.length = doms.length := by rw [tb.length, List.length_map]
  refine ⟨b, fa, xs, fl.map V.int, rfl, .inr ⟨SqT.of eb, SqT.of ef, ?_⟩⟩
  refine kDc_pure (walk_zipT (K := K) (a := b) (b := fa) (xs := xs) (ys := fl.map V.int) (by simp; omega)) (by omega) (fun H' g => ⟨g.tup _ _ eb, g.tup _ _ ef⟩)
    (fun i => Sum.inr ((doms.map (·.1)).getD i nix)) (fun i => .int (fl.getD i 0)) (fun i x H2 H3 Kt hi g2 y kt => ?_) fun p H' np g' ep => ?_
  · obtain ⟨T, x1, x2, rfl, nT, rfl, y1, y2⟩ := y
    replace y1 : xs[i]? = some x1 := y1
    replace y2 : (fl.map V.int)[i]? = some x2 := y2
    rw [List.getElem?_map] at y2
    obtain ⟨n2, z2, rfl⟩ := Option.map_eq_some_iff.mp y2
    obtain ⟨dd, e1, h1⟩ := tb.get y1
    rw [List.getElem?_map] at e1
    obtain ⟨pr, z1, rfl⟩ := Option.map_eq_some_iff.mp e1
    obtain ⟨pa, pb, rfl, ep1, ep2⟩ := is_dom h1
    have zn : (doms.map (·.1))[i]? = some pr.1 := by rw [List.getElem?_map, z1]; rfl
    rw [getD_of zn, getD_of z2] at kt
    have aT : Adv [] H2 (upd H2 T (.tup [.ref pa, .int n2])) := Adv.new nT
    refine w_gtup (SqT.of upd_same) rfl ?_
    walk_at "aw"
    refine ⟨rfl, ?_⟩
    walk_at "aw"
    refine w_ixT (SqT.of (aT.tup _ _ (g2.tup _ _ ep1))) rfl ?_
    walk_at "aw"
    exact kt _ aT
  · refine q p H' g' ⟨_, ep, fun x hx => ?_⟩
    have hl : (doms.map (·.1)).length = xs.length := by rw [List.length_map, hxl]
    obtain ⟨j, hj, rfl⟩ := List.mem_iff_getElem.mp hx
    have hj' : j < xs.length := by omega
    have hinj : ∀ a b, a < xs.length → b < xs.length → (Sum.inr ((doms.map (·.1)).getD a nix) : Key) = Sum.inr ((doms.map (·.1)).getD b nix) → a = b := fun a b ha hb e => by
      have e := Sum.inr.inj e
      rw [getD_of (List.getElem?_eq_getElem (by omega)), getD_of (List.getElem?_eq_getElem (by omega))] at e
      exact nodup_inj hnd (List.getElem?_eq_getElem (by omega)) (by rw [e]; exact List.getElem?_eq_getElem (by omega))
    have hv := dictOf_val (key := fun i => (Sum.inr ((doms.map (·.1)).getD i nix) : Key)) (val := fun i => .int (fl.getD i 0)) hinj hj'
    rw [getD_of (List.getElem?_eq_getElem hj)] at hv
    rw [hv]
    show some (V.int (fl.getD j 0)) = some (V.int (fl.getD ((doms.map (·.1)).idxOf (doms.map (·.1))[j]) 0))
    rw [hnd.idxOf_getElem j hj]
theorem len_saying_of {K : PySem.W.Frag} : ∀ (vs : List V) (H : Hp) (Q : VK) (E : XK), sp_saying_of K vs H Q E → vs.length = 2 := fun vs H Q E h => by
  obtain ⟨_, _, rfl, _⟩ := h
  rfl
theorem pure_saying_of {K : PySem.W.Frag} (vs : List V) (H : Hp) (Q : VK) (E : XK) (h : sp_saying_of K vs H Q E) : t_saying_of K { nx := fun _ H' => Q .non H', rt := Q } (start ["model", "name", "sayings", "item"] vs) H := by
  obtain ⟨m, n, rfl, doms, firm, soft, s, hm, hnd, hl1, hl2, hmem, q⟩ := h
  obtain ⟨a, b, c, d, xs, ys, zs, rfl, ea, eb, tb, ec, tc, ed, td⟩ := is_mod hm
  show t_saying_of K _ [some (.ref a), some (.str n), none, none] H
  have hly : ys.length = firm.length := by rw [tc.length, List.length_map]
  have hlz : zs.length = soft.length := by rw [td.length, List.length_map]
  have hall : ∀ (i : Nat) p x, (firm ++ soft.map fun q => (q.1, q.2.1))[i]? = some p → (ys ++ zs)[i]? = some x → ∃ sv, ItAt H p.1 p.2 sv x := fun i p x e1 e2 => by
    by_cases hi : i < firm.length
    · rw [List.getElem?_append_left hi] at e1
      rw [List.getElem?_append_left (by omega)] at e2
      obtain ⟨dd, z1, h1⟩ := tc.get e2
      rw [List.getElem?_map, e1] at z1
      cases z1
      exact is_it h1
    · rw [List.getElem?_append_right (by omega)] at e1 e2
      rw [List.getElem?_map] at e1
      obtain ⟨pr, z, rfl⟩ := Option.map_eq_some_iff.mp e1
      obtain ⟨dd, z1, h1⟩ := td.get e2
      rw [hly, List.getElem?_map, z] at z1
      cases z1
      exact is_sf h1
  obtain ⟨svs, hsl, hsv⟩ := items_of (by simp; omega) hall
  generalize hA : (firm ++ soft.map fun q => (q.1, q.2.1)) = all at hall hsl hsv hmem
  have hAl : all.length = ys.length + zs.length := by rw [← hA]; simp; omega
  have hAn : (all.map (·.1)).Nodup := by
    rw [← hA, List.map_append, List.map_map]
    exact hnd
  unfold t_saying_of
  walk_at "aw"
  refine w_ixT (SqT.of ea) rfl ?_
  walk_at "aw"
  refine w_ixT (SqT.of ea) rfl ?_
  refine w_catT' ec ed (by omega) fun r H1 a1 e1 => ?_
  refine ⟨r, rfl, ⟨_, SqT.of e1⟩, ?_⟩
  refine kDc_pure (walk_tup (K := K) (a := r) (xs := ys ++ zs)) (by simp; omega) (fun H' g => SqT.of (g.tup _ _ e1)) (fun i => Sum.inr ((all.map (·.1)).getD i nix)) (fun i => svs.getD i .non) (fun i x H2 H3 Kt hi g2 y kt => ?_) fun p H' np g' ep => ?_
  · obtain ⟨rfl, y1⟩ := y
    rw [List.length_append] at hi
    obtain ⟨pr, z1⟩ := get_some (xs := all) (i := i) (by omega)
    obtain ⟨sv, z2⟩ := get_some (xs := svs) (i := i) (by omega)
    obtain ⟨ia, rest, rfl, ei, hi2⟩ := hsv i pr x sv z1 y1 z2
    have zn : (all.map (·.1))[i]? = some pr.1 := by rw [List.getElem?_map, z1]; rfl
    rw [getD_of zn, getD_of z2] at kt
    have ei2 := g2.tup _ _ (a1.tup _ _ ei)
    walk_at "aw"
    refine ⟨rfl, ?_⟩
    walk_at "aw"
    refine w_ixT (SqT.of ei2) (at_of (j := 0) rfl rfl) ?_
    walk_at "aw"
    refine w_ixT (SqT.of ei2) (at_of (j := 1) rfl rfl) ?_
    exact kt _ (.refl _ _)
  · obtain ⟨j, hj, ej⟩ := List.mem_iff_getElem.mp hmem
    have hjy : j < (ys ++ zs).length := by simp; omega
    obtain ⟨sv, z2⟩ := get_some (xs := svs) (i := j) (by omega)
    obtain ⟨x, z3⟩ := get_some (xs := ys ++ zs) (i := j) hjy
    have z1 : all[j]? = some (n, s) := by rw [List.getElem?_eq_getElem hj, ej]
    obtain ⟨ia, rest, rfl, ei, hi2⟩ := hsv j _ x sv z1 z3 z2
    have zn : ∀ {k : Nat} (hk : k < all.length), (all.map (·.1)).getD k nix = (all.map (·.1))[k]'(by simpa using hk) := fun hk => getD_of (List.getElem?_eq_getElem (by simpa using hk))
    have hinj : ∀ a b, a < (ys ++ zs).length → b < (ys ++ zs).length → (Sum.inr ((all.map (·.1)).getD a nix) : Key) = Sum.inr ((all.map (·.1)).getD b nix) → a = b := fun a b ha hb e => by
      have ha' : a < all.length := by rw [List.length_append] at ha; omega
      have hb' : b < all.length := by rw [List.length_append] at hb; omega
      have e := Sum.inr.inj e
      rw [zn ha', zn hb'] at e
      exact nodup_inj hAn (List.getElem?_eq_getElem (by simpa using ha')) (by rw [e]; exact List.getElem?_eq_getElem (by simpa using hb'))
    have hv := dictOf_val (key := fun i => (Sum.inr ((all.map (·.1)).getD i nix) : Key)) (val := fun i => svs.getD i .non) hinj hjy
    have hn : (all.map (·.1)).getD j nix = n := getD_of (by rw [List.getElem?_map, z1]; rfl)
    rw [hn, getD_of z2] at hv
    walk_at "aw"
    refine kDGet_i (k := Sum.inr n) ep hv ?_
    exact q sv H' (a1.trans g') (hi2.up (a1.trans g').tup)
def t_holds (K : PySem.W.Frag) (w : World) (T : Addr) (S : Addr → Option Sp) : TS := (tSeq (tAsg (tOp (rIxD K w) (tC (.ref T)) (tOp (rIxT K) (tVar 0) (tC (.int 0)))) (gName 2))
  (tRet (tCallA 2 S (tCons (tVar 0) (tCons (tVar 1) tNil)))))
theorem len_holds {K : PySem.W.Frag} : ∀ (vs : List V) (H : Hp) (Q : VK) (E : XK), sp_holds K vs H Q E → vs.length = 2 := fun vs H Q E h => by
  obtain ⟨_, _, rfl, _⟩ := h
  rfl
theorem len_holds0 {K : PySem.W.Frag} : ∀ (vs : List V) (H : Hp) (Q : VK) (E : XK), sp_holds0 K vs H Q E → vs.length = 2 := fun vs H Q E h => by
  obtain ⟨_, _, rfl, _⟩ := h
  rfl
theorem len__when_holds {K : PySem.W.Frag} : ∀ (vs : List V) (H : Hp) (Q : VK) (E : XK), sp__when_holds K vs H Q E → vs.length = 2 := fun vs H Q E h => by
  obtain ⟨_, _, rfl, _⟩ := h
  rfl
theorem w_callA {i : Nat} {S : Addr → Option Sp} {t : TA} {σ : L2.St} {H : Hp} {Q : VK} {f : Addr} {sp : Sp} (h1 : σ[i]? = some (some (.ref f))) (h2 : S f = some sp) (h : t σ H fun vs H1 => sp vs H1 Q (fun _ _ _ => False)) : tCallA i S t σ H Q := ⟨f, sp, h1, h2, h⟩
/-- what the table of tellers has for the sayings but "when" -/
structure Tells (K : PySem.W.Frag) (wd : World) (T : Addr) (S : Addr → Option Sp) : Prop where
  least : ∃ a, KDct K wd T "least" (.ref a) ∧ S a = some (sp__least_holds K)
  unlike : ∃ a, KDct K wd T "unlike" (.ref a) ∧ S a = some (sp__unlike_holds K)
  counts : ∃ a, KDct K wd T "counts" (.ref a) ∧ S a = some (sp__counts_holds K)
  table : ∃ a, KDct K wd T "table" (.ref a) ∧ S a = some (sp__table_holds K)
  bar : ∃ a, KDct K wd T "bar" (.ref a) ∧ S a = some (sp__bar_holds K)
  top : ∃ a, KDct K wd T "top" (.ref a) ∧ S a = some (sp__top_holds K)
  ahead : ∃ a, KDct K wd T "ahead" (.ref a) ∧ S a = some (sp__ahead_holds K)
  claim : ∃ a, KDct K wd T "claim" (.ref a) ∧ S a = some (sp__claim_holds K)
theorem pure_holds0 {K : PySem.W.Frag} {wd : World} {T : Addr} {S : Addr → Option Sp} (tl : Tells K wd T S) (vs : List V) (H : Hp) (Q : VK) (E : XK) (h : sp_holds0 K vs H Q E) :
    t_holds K wd T S { nx := fun _ H' => Q .non H', rt := Q } (start ["saying", "at", "tell"] vs) H := by
  obtain ⟨v, d, rfl, s, names, w, hv, hd, ok, nw, hx, q⟩ := h
  show t_holds K wd T S _ [some v, some (.ref d), none] H
  unfold t_holds
  cases s with
  | sums b ts n =>
    obtain ⟨fa, kT, sT⟩ := tl.least
    obtain ⟨rfl, ok1, ok2⟩ := ok
    obtain ⟨a, c, rfl, ea, hc⟩ := is_sums hv
    walk_at "aw"
    refine w_ixT (SqT.of ea) rfl ?_
    refine ⟨T, _, _, rfl, rfl, kT, ?_⟩
    walk_at "aw"
    refine w_callA rfl sT ?_
    walk_at "aw"
    exact ⟨_, _, rfl, ts, n, names, w, hv, hd, ⟨rfl, ok1, ok2⟩, hx, q⟩
  | unlike xs =>
    obtain ⟨fa, kT, sT⟩ := tl.unlike
    obtain ⟨a, c, rfl, ea, hc⟩ := is_unlike hv
    walk_at "aw"
    refine w_ixT (SqT.of ea) rfl ?_
    refine ⟨T, _, _, rfl, rfl, kT, ?_⟩
    walk_at "aw"
    refine w_callA rfl sT ?_
    walk_at "aw"
    exact ⟨_, _, rfl, xs, names, w, hv, hd, ok, hx, q⟩
  | counts xs ts =>
    obtain ⟨fa, kT, sT⟩ := tl.counts
    obtain ⟨a, b, c, vs, rfl, ea, eb, ec, tc⟩ := is_counts hv
    walk_at "aw"
    refine w_ixT (SqT.of ea) rfl ?_
    refine ⟨T, _, _, rfl, rfl, kT, ?_⟩
    walk_at "aw"
    refine w_callA rfl sT ?_
    walk_at "aw"
    exact ⟨_, _, rfl, xs, ts, names, w, hv, hd, ok, hx, q⟩
  | tab b xs rows =>
    obtain ⟨a, p, c, vs, rfl, ea, ep, ec, tc⟩ := is_tab hv
    have e0 : holdP w (.tab b xs rows) = (rows.any (fun row => decide (row = xs.map w)) == b) := rfl
    cases b with
    | true =>
      obtain ⟨fa, kT, sT⟩ := tl.table
      walk_at "aw"
      refine w_ixT (SqT.of ea) rfl ?_
      refine ⟨T, _, _, rfl, rfl, kT, ?_⟩
      walk_at "aw"
      refine w_callA rfl sT ?_
      walk_at "aw"
      refine ⟨_, _, rfl, _, xs, rows, names, w, hv, hd, ok, hx, fun H' a1 => ?_⟩
      have := q H' a1
      rw [e0, show (rows.any (fun row => decide (row = xs.map w)) == true) = rows.any (fun row => decide (row = xs.map w)) by cases rows.any (fun row => decide (row = xs.map w)) <;> rfl] at this
      exact this
    | false =>
      obtain ⟨fa, kT, sT⟩ := tl.bar
      walk_at "aw"
      refine w_ixT (SqT.of ea) rfl ?_
      refine ⟨T, _, _, rfl, rfl, kT, ?_⟩
      walk_at "aw"
      refine w_callA rfl sT ?_
      walk_at "aw"
      refine ⟨_, _, rfl, _, xs, rows, names, w, hv, hd, ok, hx, fun H' a1 => ?_⟩
      have := q H' a1
      rw [e0, show (rows.any (fun row => decide (row = xs.map w)) == false) = !rows.any (fun row => decide (row = xs.map w)) by cases rows.any (fun row => decide (row = xs.map w)) <;> rfl] at this
      exact this
  | top xs r =>
    obtain ⟨fa, kT, sT⟩ := tl.top
    obtain ⟨a, p, rfl, ea, ep⟩ := is_top hv
    walk_at "aw"
    refine w_ixT (SqT.of ea) rfl ?_
    refine ⟨T, _, _, rfl, rfl, kT, ?_⟩
    walk_at "aw"
    refine w_callA rfl sT ?_
    walk_at "aw"
    exact ⟨_, _, rfl, xs, r, names, w, hv, hd, ok, hx, q⟩
  | ahead xs ys =>
    obtain ⟨fa, kT, sT⟩ := tl.ahead
    obtain ⟨a, p, r, rfl, ea, ep, er⟩ := is_ahead hv
    walk_at "aw"
    refine w_ixT (SqT.of ea) rfl ?_
    refine ⟨T, _, _, rfl, rfl, kT, ?_⟩
    walk_at "aw"
    refine w_callA rfl sT ?_
    walk_at "aw"
    exact ⟨_, _, rfl, xs, ys, names, w, hv, hd, ok, hx, q⟩
  | claim D f ns =>
    obtain ⟨fa, kT, sT⟩ := tl.claim
    obtain ⟨a, u, rfl, ea, hu⟩ := is_two hv
    walk_at "aw"
    refine w_ixT (SqT.of ea) rfl ?_
    refine ⟨T, _, _, rfl, rfl, kT, ?_⟩
    walk_at "aw"
    refine w_callA rfl sT ?_
    walk_at "aw"
    exact ⟨_, _, rfl, D, f, ns, names, w, hv, hd, ok, hx, q⟩
  | when D f ns s => cases nw
theorem pure_holds {K : PySem.W.Frag} {wd : World} {T : Addr} {S : Addr → Option Sp} (tl : Tells K wd T S) (tw : ∃ a, KDct K wd T "when" (.ref a) ∧ S a = some (sp__when_holds K)) (vs : List V) (H : Hp) (Q : VK) (E : XK) (h : sp_holds K vs H Q E) :
    t_holds K wd T S { nx := fun _ H' => Q .non H', rt := Q } (start ["saying", "at", "tell"] vs) H := by
  obtain ⟨v, d, rfl, s, names, w, hv, hd, ok, hx, q⟩ := h
  cases hw : s.isWhen with
  | false => exact pure_holds0 (E := E) tl _ _ _ ⟨v, d, rfl, s, names, w, hv, hd, ok, hw, hx, q⟩
  | true =>
    show t_holds K wd T S _ [some v, some (.ref d), none] H
    unfold t_holds
    cases s with
    | when D f ns s =>
      obtain ⟨fa, kT, sT⟩ := tw
      obtain ⟨a, u, u', rfl, ea, hu, hu'⟩ := is_three hv
      walk_at "aw"
      refine w_ixT (SqT.of ea) rfl ?_
      refine ⟨T, _, _, rfl, rfl, kT, ?_⟩
      walk_at "aw"
      refine w_callA rfl sT ?_
      walk_at "aw"
      exact ⟨_, _, rfl, D, f, ns, s, names, w, hv, hd, ok, hx, q⟩
    | _ => cases hw
theorem pure__when_holds {K : PySem.W.Frag} (vs : List V) (H : Hp) (Q : VK) (E : XK) (h : sp__when_holds K vs H Q E) : t__when_holds K { nx := fun _ H' => Q .non H', rt := Q } (start ["saying", "at"] vs) H := by
  obtain ⟨v, d, rfl, D, f, ns, s, names, w, hv, hd, ok, hx, q⟩ := h
  obtain ⟨ok1, ok2, ok3⟩ := ok
  obtain ⟨a, u, u', rfl, ea, hu, hu'⟩ := is_three hv
  have hx1 : ∀ x ∈ ns, x ∈ names := fun x h => hx x (List.mem_append_left _ h)
  have hx2 : ∀ x ∈ s.names, x ∈ names := fun x h => hx x (List.mem_append_right _ h)
  have e0 : holdP w (.when D f ns s) = (!f w || holdP w s) := rfl
  rw [e0] at q
  show t__when_holds K _ [some (.ref a), some (.ref d)] H
  unfold t__when_holds
  walk_at "aw"
  refine w_ixT (SqT.of ea) rfl ?_
  walk_at "aw"
  refine ⟨u, d, rfl, D, f, names, w, hu, hd, ok1.mono hx1, fun H1 a1 => ?_⟩
  walk_at "aw"
  cases hb : f w with
  | false =>
    rw [hb] at q
    exact q H1 a1
  | true =>
    rw [hb] at q
    walk_at "aw"
    refine w_nT ?_
    walk_at "aw"
    refine w_ixT (SqT.of (a1.tup _ _ ea)) rfl ?_
    walk_at "aw"
    exact ⟨u', d, rfl, s, names, w, hu'.up a1.tup, hd.up a1, ok3, ok2, hx2, fun H2 a2 => q H2 (a1.trans a2)⟩
theorem len_keeps_saying {K : PySem.W.Frag} : ∀ (vs : List V) (H : Hp) (Q : VK) (E : XK), sp_keeps_saying K vs H Q E → vs.length = 3 := fun vs H Q E h => by
  obtain ⟨_, _, _, rfl, _⟩ := h
  rfl
theorem ModOk.of_mem {doms : List (Str × List Int)} {firm : List (Str × Say)} {soft : List (Str × Say × Int)} (ok : ModOk doms firm soft) {n : Str} {s : Say} (h : (n, s) ∈ firm ++ soft.map fun q => (q.1, q.2.1)) : s.ok ∧ ∀ x ∈ s.names, x ∈ doms.map (·.1) := by
  rcases List.mem_append.mp h with h | h
  · exact ok.fo _ h
  · obtain ⟨q, hq, e⟩ := List.mem_map.mp h
    have := ok.so q hq
    rw [show q.2.1 = s from congrArg Prod.snd e] at this
    exact this
theorem pure_keeps_saying {K : PySem.W.Frag} (vs : List V) (H : Hp) (Q : VK) (E : XK) (h : sp_keeps_saying K vs H Q E) : t_keeps_saying K { nx := fun _ H' => Q .non H', rt := Q } (start ["model", "name", "filling"] vs) H := by
  obtain ⟨m, f, n, rfl, doms, firm, soft, s, fl, hm, hf, hfl, ok, hmem, q⟩ := h
  show t_keeps_saying K _ [some m, some (.str n), some f] H
  unfold t_keeps_saying
  walk_at "aw"
  refine ⟨m, n, rfl, doms, firm, soft, s, hm, ok.sn, ok.fl, ok.sl, hmem, fun v H1 a1 hv => ?_⟩
  walk_at "aw"
  refine ⟨m, f, rfl, doms, firm, soft, fl, hm.up a1.tup, hf.up a1.tup, hfl, ok.dn, ok.dl, fun d H2 a2 hd => ?_⟩
  walk_at "aw"
  exact ⟨v, d, rfl, s, _, _, hv.up a2.tup, hd, (ok.of_mem hmem).1, (ok.of_mem hmem).2, fun H' a3 => q H' (a1.trans (a2.trans a3))⟩
theorem len_keeps {K : PySem.W.Frag} : ∀ (vs : List V) (H : Hp) (Q : VK) (E : XK), sp_keeps K vs H Q E → vs.length = 2 := fun vs H Q E h => by
  obtain ⟨_, _, rfl, _⟩ := h
  rfl
theorem pure_keeps {K : PySem.W.Frag} (vs : List V) (H : Hp) (Q : VK) (E : XK) (h : sp_keeps K vs H Q E) : t_keeps K { nx := fun _ H' => Q .non H', rt := Q } (start ["model", "filling", "at", "name", "saying"] vs) H := by
  obtain ⟨m, f, rfl, doms, firm, soft, fl, hm, hf, hfl, ok, q⟩ := h
  show t_keeps K _ [some m, some f, none, none, none] H
  unfold t_keeps
  walk_at "aw"
  refine ⟨m, f, rfl, doms, firm, soft, fl, hm, hf, hfl, ok.dn, ok.dl, fun d H1 a1 hd => ?_⟩
  obtain ⟨a, b, c, dd, xs, ys, zs, rfl, ea, eb, tb, ec, tc, ed, td⟩ := is_mod hm
  have hly : ys.length = firm.length := by rw [tc.length, List.length_map]
  walk_at "aw"
  refine w_ixT (SqT.of (a1.tup _ _ ea)) rfl ?_
  refine kForT_i (xs := ys) (fun i σ H' => ∃ y1 y2, σ = [some (.ref a), some f, some (.ref d), y1, y2] ∧ Adv [] H1 H' ∧ i ≤ firm.length ∧ ∀ p ∈ firm.take i, holdP (wOf (doms.map (·.1)) fl) p.2 = true) (SqT.of (a1.tup _ _ ec))
    ⟨none, none, rfl, .refl _ _, Nat.zero_le _, fun p h => by simp at h⟩ (fun i σ H' _ p => ?_) (fun i v σ H' hv p => ?_) fun σ H' p => ?_
  · obtain ⟨_, _, _, g, _⟩ := p
    exact SqT.of (g.tup _ _ (a1.tup _ _ ec))
  · obtain ⟨y1, y2, rfl, g, hi, hh⟩ := p
    obtain ⟨dt, e1, h1⟩ := tc.get hv
    rw [List.getElem?_map] at e1
    obtain ⟨pr, z1, rfl⟩ := Option.map_eq_some_iff.mp e1
    obtain ⟨ia, vs, rfl, ei, h2⟩ := h1.tup_inv
    cases h2 with
    | cons h3 h4 =>
      cases h4 with
      | cons h5 h6 =>
        cases h6
        cases h3
        rename_i sv
        have pmem := List.mem_of_getElem? z1
        have po := ok.fo _ pmem
        refine w_gtup (SqT.of (g.tup _ _ (a1.tup _ _ ei))) rfl ?_
        walk_at "aw"
        refine ⟨_, _, rfl, pr.2, _, _, (h5.up a1.tup).up g.tup, hd.up g, po.1, po.2, fun H4 a4 => ?_⟩
        walk_at "aw"
        have hlt : i < firm.length := (List.getElem?_eq_some_iff.mp z1).1
        cases hb : holdP (wOf (doms.map (·.1)) fl) pr.2 with
        | false =>
          refine iteT ?_
          walk_at "aw"
          have hq := q H4 (a1.trans (g.trans a4))
          have e : (firm.all fun p => holdP (wOf (doms.map (·.1)) fl) p.2) = false := List.all_eq_false.mpr ⟨pr, pmem, by rw [hb]; decide⟩
          rw [e] at hq
          exact hq
        | true =>
          refine iteF ?_
          walk_at "aw"
          refine ⟨_, _, rfl, g.trans a4, hlt, fun p hp => ?_⟩
          rw [List.take_add_one, z1] at hp
          rcases List.mem_append.mp hp with hp | hp
          · exact hh p hp
          · rw [show p = pr by simpa using hp]
            exact hb
  · obtain ⟨y1, y2, rfl, g, hi, hh⟩ := p
    walk_at "aw"
    have hq := q H' (a1.trans g)
    have e : (firm.all fun p => holdP (wOf (doms.map (·.1)) fl) p.2) = true := by
      rw [List.all_eq_true]
      exact fun p hp => hh p (by rw [List.take_of_length_le (by omega)]; exact hp)
    rw [e] at hq
    exact hq
end AW
namespace AW
open PySem PySem.Spec PyProof.Rows L2 RZ
local macro_rules | `(tactic| walk_at "aw1") => `(tactic| first
  | (with_reducible refine w_seq ?_) | (with_reducible refine w_asg ?_) | (with_reducible refine w_gname ?_) | (with_reducible refine w_op ?_) | (with_reducible refine w_un ?_)
  | ((with_reducible refine' w_var ?h ?_); (case h => rfl)) | (with_reducible refine w_c ?_)
  | (with_reducible refine w_I0 ?_) | (with_reducible refine w_U ?_) | (with_reducible refine w_cb ?_) | (with_reducible refine w_nil ?_) | (with_reducible refine w_cons ?_) | (with_reducible refine w_call ?_)
  | (with_reducible refine w_test ?_) | (with_reducible refine w_B ?_) | (with_reducible refine w_bl ?_) | (with_reducible refine w_not ?_) | (with_reducible refine w_yes ?_) | (with_reducible refine iteT ?_) | (with_reducible refine iteF ?_) | (with_reducible refine w_and ?_) | (with_reducible refine w_or ?_)
  | (with_reducible refine w_andV ?_) | (with_reducible refine w_orV ?_) | (with_reducible refine w_notV ?_) | (with_reducible refine w_if ?_)
  | (with_reducible refine w_int1 ?_) | (with_reducible refine w_int1b ?_) | (with_reducible refine w_abs ?_) | (with_reducible refine w_max2 ?_) | (with_reducible refine w_min2 ?_)
  | ((with_reducible refine w_eq ?h ?_); (case h => rfl)) | ((with_reducible refine w_ne ?h ?_); (case h => rfl)) | (with_reducible refine w_isN ?_) | (with_reducible refine w_isB ?_) | (with_reducible refine w_chain ?_)
  | (with_reducible refine w_ret ?_) | (with_reducible refine w_drop ?_) | (with_reducible refine w_ifS ?_) | (with_reducible refine w_gsub ?_) | (with_reducible refine w_augS ?_) | (with_reducible refine w_ipI ?_) | (with_reducible refine w_next ?_)
  | (with_reducible refine w_forR ?_) | (with_reducible refine w_forR2 ?_) | (with_reducible refine w_forL ?_) | (with_reducible refine w_forT ?_) | (with_reducible refine w_lcR ?_) | (with_reducible refine w_lcL ?_) | (with_reducible refine w_lcT ?_) | (with_reducible refine w_sl ?_) | (with_reducible refine w_part ?_) | (with_reducible refine w_noPart ?_) | (with_reducible refine w_in ?_)
  | (with_reducible refine w_gcons ?_) | (with_reducible refine w_gnil ?_) | (with_reducible refine w_lc3 ?_) | (with_reducible refine w_dcZ ?_) | (with_reducible refine w_dcT ?_) | (with_reducible refine w_dg ?_) | (with_reducible refine w_callK ?_) | (with_reducible refine w_dput ?_) | (with_reducible refine w_tup1 ?_)
  | (with_reducible refine w_tup ?_) | (with_reducible refine w_lst ?_)
  | ((with_reducible refine w_I ?h ?_); (case h => first | (exact Or.inr ⟨by decide, by decide⟩) | (exact Or.inl ⟨by decide, by decide⟩) | (show (0 : Int) < _; decide) | (exact ⟨by decide, by decide, by decide⟩) | assumption)))
local macro_rules | `(tactic| walk_at "aw") => `(tactic| repeat (walk_at "aw1"))
/-! ### the law's own reading: what each promises -/
def SqA (K : PySem.W.Frag) (H : Hp) (p : Addr) (xs : List V) : Prop := SqL K H p xs ∨ SqT K H p xs
theorem SqA.up {K : PySem.W.Frag} {H H' : Hp} {p : Addr} {xs : List V} (h : SqA K H p xs) (e : Adv [] H H') : SqA K H' p xs := h.imp (fun h => e.sql (fun z => nomatch z) h) fun h => e.sqt (fun _ _ _ z => nomatch z) h
theorem w_ixA {K : PySem.W.Frag} {H : Hp} {Q : VK} {p : Addr} {xs : List V} {i : Int} {v : V} (h : SqA K H p xs) (e : atI xs i = some v) (q : Q v H) : rIxA K (.ref p) (.int i) H Q := h.imp (fun h => w_ixL h e q) fun h => w_ixT h e q
theorem w_lenA {K : PySem.W.Frag} {H : Hp} {Q : VK} {p : Addr} {xs : List V} (h : SqA K H p xs) (q : Q (.int (xs.length : Nat)) H) : rLen1 K [.ref p] H Q := by
  rcases h with h | h
  · exact w_lenL h q
  · exact w_lenT h q
/-- a list of such data -/
def LsAt (H : Hp) (p : Addr) (ds : List PyData) : Prop := ∃ xs, H p = some (.lst xs) ∧ IsAll H ds xs
theorem LsAt.up {H H' : Hp} {p : Addr} {ds : List PyData} (h : LsAt H p ds) (e : Adv [] H H') : LsAt H' p ds := by
  obtain ⟨xs, h1, h2⟩ := h
  exact ⟨xs, e.keep _ _ (fun z => nomatch z) h1, h2.up e.tup⟩
theorem LsAt.go {st cs : Addr} {H H' : Hp} {p : Addr} {ds : List PyData} (h : LsAt H p ds) (n : p ≠ st) (g : Go st cs H H') : LsAt H' p ds := by
  obtain ⟨xs, h1, h2⟩ := h
  exact ⟨xs, g.keep n h1, h2.up g.tk⟩
def sp__law_is_due (_ : PySem.W.Frag) : Sp := fun vs H Q _ => ∃ (a b : Bool), vs = [.bl a, .bl b] ∧ Q (.bl (a == b)) H
def sp__law_world (K : PySem.W.Frag) : Sp := fun vs H Q _ => ∃ (p f : Addr), vs = [.ref p, .ref f] ∧ ∃ (doms : List (Str × List Int)) (fl : List Int), LsAt H p (doms.map domD) ∧ SqA K H f (fl.map V.int) ∧ fl.length = doms.length ∧ (doms.map (·.1)).Nodup ∧ doms.length ≤ 100 ∧
  ∀ d H', Adv [] H H' → H d = none → WD H' d (doms.map (·.1)) (wOf (doms.map (·.1)) fl) → Q (.ref d) H'
/-- a dict of values by name, whatever they are -/
def WV (H : Hp) (d : Addr) (names : List Str) (w : Str → V) : Prop := ∃ kvs, H d = some (.dK kvs) ∧ ∀ x ∈ names, valV kvs (Sum.inr x) = some (w x)
def sp__law_worldV (K : PySem.W.Frag) : Sp := fun vs H Q _ => ∃ (p f : Addr), vs = [.ref p, .ref f] ∧ ∃ (doms : List (Str × List Int)) (fl : List V), LsAt H p (doms.map domD) ∧ SqA K H f fl ∧ fl.length = doms.length ∧ (doms.map (·.1)).Nodup ∧ doms.length ≤ 100 ∧
  ∀ d H', Adv [] H H' → H d = none → WV H' d (doms.map (·.1)) (fun x => fl.getD ((doms.map (·.1)).idxOf x) .non) → Q (.ref d) H'
def sp__law_true (_ : PySem.W.Frag) (m : Nat) : Sp := fun vs H Q _ => ∃ (v : V) (d : Addr), vs = [v, .ref d] ∧ ∃ D f names w, Is H D v ∧ WD H d names w ∧ ClD names m D f ∧ ∀ H', Adv [] H H' → Q (.bl (f w)) H'
def sp__law_holds (_ : PySem.W.Frag) (m : Nat) : Sp := fun vs H Q _ => ∃ (v : V) (d : Addr), vs = [v, .ref d] ∧ ∃ s names w, Is H (sayD s) v ∧ WD H d names w ∧ s.ok ∧ (∀ x ∈ s.names, x ∈ names) ∧ 0 < m ∧ (s.isWhen = true → 1 < m) ∧ ∀ H', Adv [] H H' → Q (.bl (holdP w s)) H'
def t__law_is_due  : TS := (tRet (tIf (tB (tVar 1)) (tOp rIsB (tVar 0) (tC (.bl true))) (tOp rIsB (tVar 0) (tC (.bl false)))))
def t__law_world (K : PySem.W.Frag) : TS := (tSeq (tAsg tDNewK (gName 2))
  (tSeq (tFor (iRng1 (tCons (tCB (rLen1 K) (tCons (tVar 0) tNil)) tNil)) (gName 3)
  (sDPut (tVar 2) (tOp (rIxT K) (tOp (rIxL K) (tVar 0) (tVar 3)) (tC (.int 0))) (tOp (rIxA K) (tVar 1) (tVar 3))))
  (tRet (tVar 2))))
def t__law_true (K : PySem.W.Frag) (m : Nat) : TS := (tSeq (tIfS (tTest (tOp rEq (tOp (rIxT K) (tVar 0) (tC (.int 0))) (tC (.str "from")))) (tRet (tOp rGeI (tDGet (tVar 1) (tOp (rIxT K) (tVar 0) (tC (.int 1)))) (tOp (rIxT K) (tVar 0) (tC (.int 2))))) tNext)
  (tSeq (tIfS (tTest (tOp rEq (tOp (rIxT K) (tVar 0) (tC (.int 0))) (tC (.str "is")))) (tRet (tOp rEq (tDGet (tVar 1) (tOp (rIxT K) (tVar 0) (tC (.int 1)))) (tOp (rIxT K) (tVar 0) (tC (.int 2))))) tNext)
  (tSeq (tIfS (tTest (tOp rEq (tOp (rIxT K) (tVar 0) (tC (.int 0))) (tC (.str "not")))) (tRet (tNotV (tCall (sp__law_true K m) [] E0 (tCons (tOp (rIxT K) (tVar 0) (tC (.int 1))) (tCons (tVar 1) tNil))))) tNext)
  (tSeq (tAsg (tCB (rLen1 K) (tCons (tLc (iTup K (tOp (rIxT K) (tVar 0) (tC (.int 1)))) (gName 3) (tB (tCall (sp__law_true K m) [] E0 (tCons (tVar 3) (tCons (tVar 1) tNil)))) (tVar 3) [3]) tNil)) (gName 2))
  (tRet (tIf (tTest (tOp rEq (tOp (rIxT K) (tVar 0) (tC (.int 0))) (tC (.str "and")))) (tOp rEq (tVar 2) (tCB (rLen1 K) (tCons (tOp (rIxT K) (tVar 0) (tC (.int 1))) tNil))) (tOp rGtI (tVar 2) (tC (.int 0)))))))))
def t__law_holds (K : PySem.W.Frag) (m : Nat) : TS := (tSeq (tAsg (tOp (rIxT K) (tVar 0) (tC (.int 0))) (gName 2))
  (tSeq (tIfS (tTest (tOp rEq (tVar 2) (tC (.str "claim")))) (tRet (tCall (sp__law_true K 8) [] E0 (tCons (tOp (rIxT K) (tVar 0) (tC (.int 1))) (tCons (tVar 1) tNil)))) tNext)
  (tSeq (tIfS (tTest (tOp rEq (tVar 2) (tC (.str "when")))) (tRet (tOrV (tNotV (tCall (sp__law_true K 8) [] E0 (tCons (tOp (rIxT K) (tVar 0) (tC (.int 1))) (tCons (tVar 1) tNil)))) (tCall (sp__law_holds K m) [] E0 (tCons (tOp (rIxT K) (tVar 0) (tC (.int 2))) (tCons (tVar 1) tNil))))) tNext)
  (tSeq (tIfS (tTest (tOp rEq (tVar 2) (tC (.str "least")))) (tRet (tOp rGeI (tCB (rSum K) (tCons (tLc (iTup K (tOp (rIxT K) (tVar 0) (tC (.int 1)))) (gName 3) tYes (tOp rMulI (tOp (rIxT K) (tVar 3) (tC (.int 1))) (tDGet (tVar 1) (tOp (rIxT K) (tVar 3) (tC (.int 0))))) [3]) tNil)) (tOp (rIxT K) (tVar 0) (tC (.int 2))))) tNext)
  (tSeq (tAsg (tLc (iTup K (tOp (rIxT K) (tVar 0) (tC (.int 1)))) (gName 5) tYes (tDGet (tVar 1) (tVar 5)) [5]) (gName 4))
  (tSeq (tIfS (tTest (tOp rEq (tVar 2) (tC (.str "unlike")))) (tRet (tOp rEq (tCB (rLen1 K) (tCons (tLc (iList K (tVar 4)) (gName 6) (tTest (tOp rGtI (tBM K "list" (rCntI K) (tVar 4) (tCons (tVar 6) tNil)) (tC (.int 1)))) (tVar 6) [6]) tNil)) (tC (.int 0)))) tNext)
  (tSeq (tIfS (tTest (tOp rEq (tVar 2) (tC (.str "top")))) (tRet (tOp rEq (tCB (rMax K) (tCons (tVar 4) tNil)) (tDGet (tVar 1) (tOp (rIxT K) (tVar 0) (tC (.int 2)))))) tNext)
  (tSeq (tIfS (tTest (tOp rEq (tVar 2) (tC (.str "ahead")))) (tRet (tOp (rLeL K) (tVar 4) (tLc (iTup K (tOp (rIxT K) (tVar 0) (tC (.int 2)))) (gName 5) tYes (tDGet (tVar 1) (tVar 5)) [5]))) tNext)
  (tSeq (tIfS (tTest (tOp rEq (tVar 2) (tC (.str "counts")))) (tRet (tOp rEq (tCB (rLen1 K) (tCons (tLc (iTup K (tOp (rIxT K) (tVar 0) (tC (.int 2)))) (gName 7) (tNot (tTest (tChain rLeI rLeI (tOp (rIxT K) (tVar 7) (tC (.int 1))) (tBM K "list" (rCntI K) (tVar 4) (tCons (tOp (rIxT K) (tVar 7) (tC (.int 0))) tNil)) (tOp (rIxT K) (tVar 7) (tC (.int 2)))))) (tVar 7) [7]) tNil)) (tC (.int 0)))) tNext)
  (tRet (tOp rEq (tOp (rInT K) (tThen (tVar 4) (kTup K)) (tOp (rIxT K) (tVar 0) (tC (.int 2)))) (tOp rEq (tVar 2) (tC (.str "table"))))))))))))))
theorem len__law_is_due {K : PySem.W.Frag} : ∀ (vs : List V) (H : Hp) (Q : VK) (E : XK), sp__law_is_due K vs H Q E → vs.length = 2 := fun vs H Q E h => by
  obtain ⟨_, _, rfl, _⟩ := h
  rfl
theorem pure__law_is_due {K : PySem.W.Frag} (vs : List V) (H : Hp) (Q : VK) (E : XK) (h : sp__law_is_due K vs H Q E) : t__law_is_due { nx := fun _ H' => Q .non H', rt := Q } (start ["told", "due"] vs) H := by
  obtain ⟨a, b, rfl, q⟩ := h
  show t__law_is_due _ [some (.bl a), some (.bl b)] H
  unfold t__law_is_due
  walk_at "aw"
  cases b <;> cases a <;> walk_at "aw" <;> exact q
theorem len__law_world {K : PySem.W.Frag} : ∀ (vs : List V) (H : Hp) (Q : VK) (E : XK), sp__law_world K vs H Q E → vs.length = 2 := fun vs H Q E h => by
  obtain ⟨_, _, rfl, _⟩ := h
  rfl
theorem idxOf_at {names : List Str} (hn : names.Nodup) {j : Nat} {x : Str} (h : names[j]? = some x) : names.idxOf x = j := by
  obtain ⟨hj, rfl⟩ := List.getElem?_eq_some_iff.mp h
  exact hn.idxOf_getElem j hj
theorem len__law_worldV {K : PySem.W.Frag} : ∀ (vs : List V) (H : Hp) (Q : VK) (E : XK), sp__law_worldV K vs H Q E → vs.length = 2 := fun vs H Q E h => by
  obtain ⟨_, _, rfl, _⟩ := h
  rfl
theorem pure__law_worldV {K : PySem.W.Frag} (vs : List V) (H : Hp) (Q : VK) (E : XK) (h : sp__law_worldV K vs H Q E) : t__law_world K { nx := fun _ H' => Q .non H', rt := Q } (start ["doms", "filling", "at", "k"] vs) H := by
  obtain ⟨p, f, rfl, doms, fl, ⟨xs, hp, tp⟩, hf, hfl, hnd, hdl, q⟩ := h
  show t__law_world K _ [some (.ref p), some (.ref f), none, none] H
  have hxl : xs.length = doms.length := by rw [tp.length, List.length_map]
  unfold t__law_world
  walk_at "aw"
  refine w_dnew fun d H1 nd a1 e1 => ?_
  walk_at "aw"
  refine w_lenL (SqL.of (a1.keep _ _ (fun z => nomatch z) hp)) ?_
  walk_at "aw"
  rw [hxl]
  refine kForR_i (n := doms.length) (by omega) (fun i σ H' => ∃ y kvs, σ = [some (.ref p), some (.ref f), some (.ref d), y] ∧ Adv [] H H' ∧ H' d = some (.dK kvs) ∧ kvs.length ≤ i ∧ ∀ (j : Nat) x v, j < i → (doms.map (·.1))[j]? = some x → fl[j]? = some v → valV kvs (Sum.inr x) = some v)
    ⟨none, [], rfl, a1, e1, Nat.le_refl _, fun j x v hj => absurd hj (Nat.not_lt_zero _)⟩ (fun i σ H' hi pp => ?_) fun σ H' pp => ?_
  · obtain ⟨y, kvs, rfl, g, ed, hk, hv⟩ := pp
    obtain ⟨pr, z1⟩ := get_some (xs := doms) hi
    obtain ⟨n1, z2⟩ := get_some (xs := fl) (i := i) (by omega)
    obtain ⟨x, z3⟩ := get_some (xs := xs) (i := i) (by omega)
    obtain ⟨dt, e2, h2⟩ := tp.get z3
    rw [List.getElem?_map, z1] at e2
    cases e2
    obtain ⟨ia, ib, rfl, e3, e4⟩ := is_dom h2
    walk_at "aw"
    refine w_ixA (hf.up g) (at_of (j := i) rfl z2) ?_
    walk_at "aw"
    refine w_ixL (SqL.of (g.keep _ _ (fun z => nomatch z) hp)) (at_of (j := i) rfl z3) ?_
    walk_at "aw"
    refine w_ixT (SqT.of (g.tup _ _ e3)) rfl ?_
    refine kDPut_i (k := Sum.inr pr.1) ed (by omega) ⟨_, _, rfl, g.mut nd ed (fun _ z => by cases z), upd_same, Nat.le_trans (length_putK ..) (Nat.succ_le_succ hk), fun j x v hj hx hvv => ?_⟩
    rw [valV_put]
    have zi : (doms.map (·.1))[i]? = some pr.1 := by rw [List.getElem?_map, z1]; rfl
    by_cases e : j = i
    · subst e
      rw [zi] at hx
      cases hx
      rw [z2] at hvv
      cases hvv
      rw [if_pos rfl]
    · have hne : ¬ (Sum.inr x : Key) = Sum.inr pr.1 := fun z => e (nodup_inj hnd hx (by rw [Sum.inr.inj z]; exact zi))
      rw [if_neg hne]
      exact hv j x v (by omega) hx hvv
  · obtain ⟨y, kvs, rfl, g, ed, hk, hv⟩ := pp
    walk_at "aw"
    refine q d H' g nd ⟨kvs, ed, fun x hx => ?_⟩
    obtain ⟨j, hj, rfl⟩ := List.mem_iff_getElem.mp hx
    have zj := List.getElem?_eq_getElem hj
    rw [List.length_map] at hj
    obtain ⟨v, hvv⟩ := get_some (xs := fl) (i := j) (by omega)
    rw [hv j _ v hj zj hvv]
    show some v = some (fl.getD _ .non)
    rw [idxOf_at hnd zj, getD_of hvv]
theorem pure__law_world {K : PySem.W.Frag} (vs : List V) (H : Hp) (Q : VK) (E : XK) (h : sp__law_world K vs H Q E) : t__law_world K { nx := fun _ H' => Q .non H', rt := Q } (start ["doms", "filling", "at", "k"] vs) H := by
  obtain ⟨p, f, rfl, doms, fl, hp, hf, hfl, hnd, hdl, q⟩ := h
  refine pure__law_worldV _ H Q E ⟨p, f, rfl, doms, fl.map V.int, hp, hf, by rw [List.length_map]; exact hfl, hnd, hdl, fun d H' a1 nd ⟨kvs, h1, h2⟩ => q d H' a1 nd ⟨kvs, h1, fun x hx => ?_⟩⟩
  rw [h2 x hx]
  unfold wOf
  have hj : (doms.map (·.1)).idxOf x < fl.length := by
    have := List.idxOf_lt_length_of_mem hx
    rw [List.length_map] at this
    omega
  show some ((fl.map V.int).getD ((doms.map (·.1)).idxOf x) .non) = some (.int (fl.getD ((doms.map (·.1)).idxOf x) 0))
  rw [getD_of (List.getElem?_eq_getElem hj), getD_of (v := .int fl[(doms.map (·.1)).idxOf x]) (by rw [List.getElem?_map, List.getElem?_eq_getElem hj]; rfl)]
theorem no__law_true {K : PySem.W.Frag} {vs : List V} {H : Hp} {Q : VK} {E : XK} (h : sp__law_true K 0 vs H Q E) : False := by
  obtain ⟨_, _, _, _, _, _, _, _, _, hc, _⟩ := h
  cases hc
theorem len__law_true {K : PySem.W.Frag} {m : Nat} : ∀ (vs : List V) (H : Hp) (Q : VK) (E : XK), sp__law_true K m vs H Q E → vs.length = 2 := fun vs H Q E h => by
  obtain ⟨_, _, rfl, _⟩ := h
  rfl
theorem no__law_holds {K : PySem.W.Frag} {vs : List V} {H : Hp} {Q : VK} {E : XK} (h : sp__law_holds K 0 vs H Q E) : False := by
  obtain ⟨_, _, _, _, _, _, _, _, _, _, hc, _⟩ := h
  exact absurd hc (Nat.lt_irrefl _)
theorem len__law_holds {K : PySem.W.Frag} {m : Nat} : ∀ (vs : List V) (H : Hp) (Q : VK) (E : XK), sp__law_holds K m vs H Q E → vs.length = 2 := fun vs H Q E h => by
  obtain ⟨_, _, rfl, _⟩ := h
  rfl
theorem nat_eqd (a b : Nat) : decide (V.int (a : Nat) = V.int (b : Nat)) = decide (a = b) := by
  rw [decide_eq_decide]
  exact ⟨fun h => by have := V.int.inj h; omega, fun h => by rw [h]⟩
theorem none_left {n : Nat} {B : Nat → Bool} {c : Bool} (h : c = true ↔ ∀ i, i < n → B i = false) : decide (V.int (((List.range n).filter B).length : Nat) = V.int 0) = c := by
  rw [Bool.eq_iff_iff, decide_eq_true_iff, h]
  constructor
  · intro e i hi
    have e := V.int.inj e
    cases hb : B i with
    | false => rfl
    | true =>
      have hm : i ∈ (List.range n).filter B := List.mem_filter.mpr ⟨List.mem_range.mpr hi, hb⟩
      have := List.length_pos_of_mem hm
      omega
  · intro e
    have : (List.range n).filter B = [] := List.filter_eq_nil_iff.mpr fun i hi => by rw [e i (List.mem_range.mp hi)]; decide
    rw [this]
    rfl
theorem all_left {n : Nat} {B : Nat → Bool} {c : Bool} (h : c = true ↔ ∀ i, i < n → B i = true) : decide (((List.range n).filter B).length = n) = c := by
  rw [Bool.eq_iff_iff, decide_eq_true_iff, h]
  constructor
  · intro e i hi
    have e2 : ((List.range n).filter B).length = (List.range n).length := by rw [e, List.length_range]
    exact List.length_filter_eq_length_iff.mp e2 i (List.mem_range.mpr hi)
  · intro e
    have e2 := List.length_filter_eq_length_iff.mpr fun i (hi : i ∈ List.range n) => e i (List.mem_range.mp hi)
    rw [e2, List.length_range]
theorem some_left {n : Nat} {B : Nat → Bool} {c : Bool} (h : c = true ↔ ∃ i, i < n ∧ B i = true) : decide ((0 : Int) < (((List.range n).filter B).length : Nat)) = c := by
  rw [Bool.eq_iff_iff, decide_eq_true_iff, h]
  constructor
  · intro e
    have e : 0 < ((List.range n).filter B).length := by omega
    obtain ⟨i, hi⟩ := List.exists_mem_of_length_pos e
    have := List.mem_filter.mp hi
    exact ⟨i, List.mem_range.mp this.1, this.2⟩
  · rintro ⟨i, hi, hb⟩
    have hm : i ∈ (List.range n).filter B := List.mem_filter.mpr ⟨List.mem_range.mpr hi, hb⟩
    have := List.length_pos_of_mem hm
    omega
theorem all_getD {fs : List (Wd → Bool)} {w : Wd} : fs.all (· w) = true ↔ ∀ i, i < fs.length → fs.getD i (fun _ => false) w = true := by
  rw [List.all_eq_true]
  constructor
  · intro h i hi
    rw [getD_of (List.getElem?_eq_getElem hi)]
    exact h _ (List.getElem_mem hi)
  · intro h f hf
    obtain ⟨i, hi, rfl⟩ := List.mem_iff_getElem.mp hf
    have := h i hi
    rw [getD_of (List.getElem?_eq_getElem hi)] at this
    exact this
theorem any_getD {fs : List (Wd → Bool)} {w : Wd} : fs.any (· w) = true ↔ ∃ i, i < fs.length ∧ fs.getD i (fun _ => false) w = true := by
  rw [List.any_eq_true]
  constructor
  · rintro ⟨f, hf, h⟩
    obtain ⟨i, hi, rfl⟩ := List.mem_iff_getElem.mp hf
    exact ⟨i, hi, by rw [getD_of (List.getElem?_eq_getElem hi)]; exact h⟩
  · rintro ⟨i, hi, h⟩
    rw [getD_of (List.getElem?_eq_getElem hi)] at h
    exact ⟨_, List.getElem_mem hi, h⟩
theorem pure__law_true {K : PySem.W.Frag} {m : Nat} (vs : List V) (H : Hp) (Q : VK) (E : XK) (h : sp__law_true K (m + 1) vs H Q E) : t__law_true K m { nx := fun _ H' => Q .non H', rt := Q } (start ["claim", "at", "right", "one"] vs) H := by
  obtain ⟨v, d, rfl, D, f, names, w, hv, hd, hc, q⟩ := h
  show t__law_true K m _ [some v, some (.ref d), none, none] H
  unfold t__law_true
  cases hc with
  | one b hx =>
    rename_i x n
    obtain ⟨a, rfl, ea⟩ := is_one hv
    have q0 := q H (.refl _ _)
    walk_at "aw"
    refine w_ixT (SqT.of ea) rfl ?_
    walk_at "aw"
    cases b with
    | true =>
      refine w_iteB (fun _ => ?_) fun h => absurd rfl h
      walk_at "aw"
      refine w_ixT (SqT.of ea) rfl ?_
      refine hd.get hx ?_
      walk_at "aw"
      refine w_ixT (SqT.of ea) rfl ?_
      walk_at "aw"
      exact q0
    | false =>
      refine w_iteB (fun h => absurd h (by decide)) fun _ => ?_
      walk_at "aw"
      refine w_ixT (SqT.of ea) rfl ?_
      walk_at "aw"
      refine w_iteB (fun _ => ?_) fun h => absurd rfl h
      walk_at "aw"
      refine w_ixT (SqT.of ea) rfl ?_
      refine hd.get hx ?_
      walk_at "aw"
      refine w_ixT (SqT.of ea) rfl ?_
      walk_at "aw"
      rw [int_eqd]
      exact q0
  | neg h =>
    rename_i d' f'
    obtain ⟨a, u, rfl, ea, hu⟩ := is_two hv
    walk_at "aw"
    refine w_ixT (SqT.of ea) rfl ?_
    walk_at "aw"
    refine w_iteB (fun h => absurd h (by decide)) fun _ => ?_
    walk_at "aw"
    refine w_ixT (SqT.of ea) rfl ?_
    walk_at "aw"
    refine w_iteB (fun h => absurd h (by decide)) fun _ => ?_
    walk_at "aw"
    refine w_ixT (SqT.of ea) rfl ?_
    walk_at "aw"
    refine w_iteB (fun _ => ?_) fun h => absurd rfl h
    walk_at "aw"
    refine w_ixT (SqT.of ea) rfl ?_
    walk_at "aw"
    refine ⟨u, d, rfl, d', f', names, w, hu, hd, h, fun H' a1 => ?_⟩
    walk_at "aw"
    exact q H' a1
  | many b ds fs hl h1 h =>
    obtain ⟨a, u, rfl, ea, hu⟩ := is_two hv
    obtain ⟨c, xs, rfl, ec, tc⟩ := hu.tup_inv
    have hxl : xs.length = ds.length := tc.length
    walk_at "aw"
    refine w_ixT (SqT.of ea) rfl ?_
    walk_at "aw"
    refine w_iteB (fun h => absurd h (by cases b <;> decide)) fun _ => ?_
    walk_at "aw"
    refine w_ixT (SqT.of ea) rfl ?_
    walk_at "aw"
    refine w_iteB (fun h => absurd h (by cases b <;> decide)) fun _ => ?_
    walk_at "aw"
    refine w_ixT (SqT.of ea) rfl ?_
    walk_at "aw"
    refine w_iteB (fun h => absurd h (by cases b <;> decide)) fun _ => ?_
    walk_at "aw"
    refine w_ixT (SqT.of ea) rfl ?_
    refine ⟨c, rfl, ⟨_, SqT.of ec⟩, ?_⟩
    refine kLc_pure (walk_tup (xs := xs)) (by omega) (fun H' g => SqT.of (g.tup _ _ ec)) (fun i => fs.getD i (fun _ => false) w) (fun i => xs.getD i .non) (fun i x H2 H3 Kt Kf hi g2 y kt kf => ?_) fun l H1 np g1 el => ?_
    · obtain ⟨rfl, y1⟩ := y
      obtain ⟨dt, z1, hdt⟩ := tc.get y1
      obtain ⟨fn, z2⟩ := get_some (xs := fs) (i := i) (by omega)
      rw [getD_of z2, getD_of y1] at kt
      rw [getD_of z2] at kf
      walk_at "aw"
      refine ⟨rfl, ?_⟩
      walk_at "aw"
      refine ⟨x, d, rfl, dt, fn, names, w, hdt.up g2.tup, hd.up g2, h i dt fn z1 z2, fun H' a1 => ?_⟩
      walk_at "aw"
      cases hb : fn w with
      | true =>
        walk_at "aw"
        exact kt hb _ a1
      | false => exact kf hb _ a1
    rw [hxl, hl] at el
    have q1 := q H1 g1
    walk_at "aw"
    refine w_lenL (SqL.of el) ?_
    rw [List.length_map]
    walk_at "aw"
    refine w_ixT (SqT.of (g1.tup _ _ ea)) rfl ?_
    walk_at "aw"
    cases b with
    | true =>
      refine w_iteB (fun _ => ?_) fun h => absurd rfl h
      walk_at "aw"
      refine w_ixT (SqT.of (g1.tup _ _ ea)) (i := 1) (v := .ref c) rfl ?_
      walk_at "aw"
      refine w_lenT (SqT.of (g1.tup _ _ ec)) ?_
      walk_at "aw"
      rw [hxl, hl, nat_eqd, all_left all_getD]
      exact q1
    | false =>
      refine w_iteB (fun h => absurd h (by decide)) fun _ => ?_
      walk_at "aw"
      rw [some_left any_getD]
      exact q1
theorem count_nodup (l : List Int) : l.Nodup ↔ ∀ i, i < l.length → l.count (l.getD i 0) ≤ 1 := by
  constructor
  · intro h i hi
    exact List.nodup_iff_count.mp h _
  · intro h
    refine List.nodup_iff_count.mpr fun a => ?_
    by_cases ha : a ∈ l
    · obtain ⟨i, hi, rfl⟩ := List.mem_iff_getElem.mp ha
      have := h i hi
      rw [getD_of (List.getElem?_eq_getElem hi)] at this
      exact this
    · rw [List.count_eq_zero.mpr ha]
      omega
theorem mem_maps (xs : List Str) (w : Wd) {i : Nat} {v : V} (h : ((xs.map w).map V.int)[i]? = some v) : i < xs.length ∧ v = .int ((xs.map w).getD i 0) := by
  rw [List.getElem?_map] at h
  obtain ⟨n, z, rfl⟩ := Option.map_eq_some_iff.mp h
  have := (List.getElem?_eq_some_iff.mp z).1
  rw [List.length_map] at this
  exact ⟨this, by rw [getD_of z]⟩
theorem pure__law_holds {K : PySem.W.Frag} {m : Nat} (vs : List V) (H : Hp) (Q : VK) (E : XK) (h : sp__law_holds K (m + 1) vs H Q E) : t__law_holds K m { nx := fun _ H' => Q .non H', rt := Q } (start ["saying", "at", "kind", "term", "values", "x", "v", "one"] vs) H := by
  obtain ⟨v, d, rfl, s, names, w, hv, hd, ok, hx, h0, hw, q⟩ := h
  show t__law_holds K m _ [some v, some (.ref d), none, none, none, none, none, none] H
  unfold t__law_holds
  cases s with
  | claim D f ns =>
    have ok : ClD ns 8 D f := ok
    obtain ⟨a, u, rfl, ea, hu⟩ := is_two hv
    walk_at "aw"
    refine w_ixT (SqT.of ea) rfl ?_
    walk_at "aw"
    refine w_iteB (fun _ => ?_) fun h => absurd rfl h
    walk_at "aw"
    refine w_ixT (SqT.of ea) rfl ?_
    walk_at "aw"
    exact ⟨u, d, rfl, D, f, names, w, hu, hd, ok.mono hx, q⟩
  | when D f ns s =>
    obtain ⟨ok1, ok2, ok3⟩ := ok
    have hm := hw rfl
    obtain ⟨a, u, u', rfl, ea, hu, hu'⟩ := is_three hv
    have hx1 : ∀ x ∈ ns, x ∈ names := fun x h => hx x (List.mem_append_left _ h)
    have hx2 : ∀ x ∈ s.names, x ∈ names := fun x h => hx x (List.mem_append_right _ h)
    have e0 : holdP w (.when D f ns s) = (!f w || holdP w s) := rfl
    rw [e0] at q
    walk_at "aw"
    refine w_ixT (SqT.of ea) rfl ?_
    walk_at "aw"
    refine w_iteB (fun h => absurd h (by decide)) fun _ => ?_
    walk_at "aw"
    refine w_iteB (fun _ => ?_) fun h => absurd rfl h
    walk_at "aw"
    refine w_ixT (SqT.of ea) rfl ?_
    walk_at "aw"
    refine ⟨u, d, rfl, D, f, names, w, hu, hd, ok1.mono hx1, fun H1 a1 => ?_⟩
    walk_at "aw"
    cases hb : f w with
    | false =>
      rw [hb] at q
      exact q H1 a1
    | true =>
      rw [hb] at q
      walk_at "aw"
      refine w_nT ?_
      walk_at "aw"
      refine w_ixT (SqT.of (a1.tup _ _ ea)) rfl ?_
      walk_at "aw"
      exact ⟨u', d, rfl, s, names, w, hu'.up a1.tup, hd.up a1, ok3, hx2, by omega, (fun z => by rw [ok2] at z; cases z), fun H2 a2 => q H2 (a1.trans a2)⟩
  | sums b ts n =>
    obtain ⟨rfl, ok1, ok2⟩ := ok
    obtain ⟨a, c, rfl, ea, hc⟩ := is_sums hv
    obtain ⟨c', vs, z, ec, tc⟩ := hc.tup_inv
    cases z
    have hvl : vs.length = ts.length := by rw [tc.length, List.length_map]
    walk_at "aw"
    refine w_ixT (SqT.of ea) rfl ?_
    walk_at "aw"
    refine w_iteB (fun h => absurd h (by decide)) fun _ => ?_
    walk_at "aw"
    refine w_iteB (fun h => absurd h (by decide)) fun _ => ?_
    walk_at "aw"
    refine w_iteB (fun _ => ?_) fun h => absurd rfl h
    walk_at "aw"
    refine w_ixT (SqT.of ea) rfl ?_
    refine ⟨_, rfl, ⟨_, SqT.of ec⟩, ?_⟩
    refine kLc_pure (walk_tup (xs := vs)) (by omega) (fun H' g => SqT.of (g.tup _ _ ec)) (fun _ => true) (fun i => .int ((ts.getD i (nix, 0)).2 * w (ts.getD i (nix, 0)).1)) (fun i x H2 H3 Kt Kf hi g2 y kt kf => ?_) fun l H1 np g1 el => ?_
    · obtain ⟨rfl, y1⟩ := y
      obtain ⟨dt, z1, h1⟩ := tc.get y1
      rw [List.getElem?_map] at z1
      obtain ⟨t, z2, rfl⟩ := Option.map_eq_some_iff.mp z1
      obtain ⟨ia, rfl, ei⟩ := is_pair h1
      have hm := List.mem_of_getElem? z2
      rw [getD_of z2] at kt
      walk_at "aw"
      refine ⟨rfl, ?_⟩
      walk_at "aw"
      refine w_ixT (SqT.of (g2.tup _ _ ei)) rfl ?_
      walk_at "aw"
      refine w_ixT (SqT.of (g2.tup _ _ ei)) rfl ?_
      refine (hd.up g2).get (hx t.1 (List.mem_map_of_mem hm)) ?_
      refine w_I (.inl (ok2 t hm)) ?_
      exact kt rfl _ (.refl _ _)
    have e2 : H1 l = some (.lst ((ts.map fun t => t.2 * w t.1).map V.int)) := by
      rw [List.map_map, ← map_range ts (nix, 0)]
      rw [filter_true, hvl] at el
      exact el
    walk_at "aw"
    refine ⟨l, _, rfl, SqL.of e2, ?_⟩
    walk_at "aw"
    refine w_ixT (SqT.of (g1.tup _ _ ea)) rfl ?_
    walk_at "aw"
    exact q H1 g1
  | unlike xs =>
    have ok : xs.length ≤ 100 := ok
    have hxs : ∀ x ∈ xs, x ∈ names := hx
    obtain ⟨a, p, rfl, ea, ep⟩ := is_unlike hv
    walk_at "aw"
    refine w_ixT (SqT.of ea) rfl ?_
    walk_at "aw"
    refine w_iteB (fun h => absurd h (by decide)) fun _ => ?_
    walk_at "aw"
    refine w_iteB (fun h => absurd h (by decide)) fun _ => ?_
    walk_at "aw"
    refine w_iteB (fun h => absurd h (by decide)) fun _ => ?_
    walk_at "aw"
    refine w_ixT (SqT.of ea) rfl ?_
    refine ⟨p, rfl, ⟨_, SqT.of ep⟩, ?_⟩
    refine kLc_pure (walk_tup (xs := xs.map V.str)) (by rw [List.length_map]; omega) (fun H' g => SqT.of (g.tup _ _ ep)) (fun _ => true) (fun i => .int (w (xs.getD i nix))) (fun i x H2 H3 Kt Kf hi g2 y kt kf => ?_) fun l H1 np g1 el => ?_
    · obtain ⟨rfl, y1⟩ := y
      rw [List.getElem?_map] at y1
      obtain ⟨n1, z1, rfl⟩ := Option.map_eq_some_iff.mp y1
      rw [getD_of z1] at kt
      walk_at "aw"
      refine ⟨rfl, ?_⟩
      walk_at "aw"
      refine (hd.up g2).get (hxs n1 (List.mem_of_getElem? z1)) ?_
      exact kt rfl _ (.refl _ _)
    replace el : H1 l = some (.lst ((xs.map w).map V.int)) := by
      rw [List.map_map, ← map_range xs nix]
      rw [filter_true, List.length_map] at el
      exact el
    walk_at "aw"
    refine w_iteB (fun _ => ?_) fun h => absurd rfl h
    walk_at "aw"
    refine ⟨l, rfl, ⟨_, SqL.of el⟩, ?_⟩
    refine kLc_pure (walk_list (xs := (xs.map w).map V.int)) (by rw [List.length_map, List.length_map]; omega) (fun H' g => SqL.of (g.keep _ _ (fun z => nomatch z) el)) (fun i => decide ((1 : Int) < ((xs.map w).count ((xs.map w).getD i 0) : Nat))) (fun i => .int ((xs.map w).getD i 0)) (fun i x H2 H3 Kt Kf hi g2 y kt kf => ?_) fun r H2 nr g2 er => ?_
    · obtain ⟨rfl, y1⟩ := y
      obtain ⟨hi, rfl⟩ := mem_maps xs w y1
      have el2 := g2.keep _ _ (fun z => nomatch z) el
      walk_at "aw"
      refine ⟨rfl, ?_⟩
      walk_at "aw"
      refine w_cnt rfl (SqL.of el2) ?_
      walk_at "aw"
      refine ⟨l, xs.map w, _, rfl, rfl, SqL.of el2, ?_⟩
      walk_at "aw"
      refine w_iteB (fun h => ?_) fun h => ?_
      · walk_at "aw"
        exact kt (decide_eq_true h) _ (.refl _ _)
      · exact kf (decide_eq_false h) _ (.refl _ _)
    walk_at "aw"
    refine w_lenL (SqL.of er) ?_
    rw [List.length_map, List.length_map, List.length_map]
    walk_at "aw"
    have q1 := q H2 (g1.trans g2)
    have e3 : decide (V.int (((List.range xs.length).filter fun i => decide ((1 : Int) < ((xs.map w).count ((xs.map w).getD i 0) : Nat))).length : Nat) = V.int 0) = holdP w (.unlike xs) := by
      refine none_left ?_
      show decide ((xs.map w).Nodup) = true ↔ _
      rw [decide_eq_true_iff, count_nodup, List.length_map]
      exact forall_congr' fun i => imp_congr_right fun hi => by rw [decide_eq_false_iff_not]; omega
    rw [e3]
    exact q1
  | top xs r =>
    obtain ⟨a, p, rfl, ea, ep⟩ := is_top hv
    have o1 := ok.1
    have o2 := ok.2.1
    have hr := hx r (List.mem_cons_self ..)
    have hxs : ∀ x ∈ xs, x ∈ names := fun x h => hx x (List.mem_cons_of_mem _ h)
    walk_at "aw"
    refine w_ixT (SqT.of ea) rfl ?_
    walk_at "aw"
    refine w_iteB (fun h => absurd h (by decide)) fun _ => ?_
    walk_at "aw"
    refine w_iteB (fun h => absurd h (by decide)) fun _ => ?_
    walk_at "aw"
    refine w_iteB (fun h => absurd h (by decide)) fun _ => ?_
    walk_at "aw"
    refine w_ixT (SqT.of ea) rfl ?_
    refine ⟨p, rfl, ⟨_, SqT.of ep⟩, ?_⟩
    refine kLc_pure (walk_tup (xs := xs.map V.str)) (by rw [List.length_map]; omega) (fun H' g => SqT.of (g.tup _ _ ep)) (fun _ => true) (fun i => .int (w (xs.getD i nix))) (fun i x H2 H3 Kt Kf hi g2 y kt kf => ?_) fun l H1 np g1 el => ?_
    · obtain ⟨rfl, y1⟩ := y
      rw [List.getElem?_map] at y1
      obtain ⟨n1, z1, rfl⟩ := Option.map_eq_some_iff.mp y1
      rw [getD_of z1] at kt
      walk_at "aw"
      refine ⟨rfl, ?_⟩
      walk_at "aw"
      refine (hd.up g2).get (hxs n1 (List.mem_of_getElem? z1)) ?_
      exact kt rfl _ (.refl _ _)
    replace el : H1 l = some (.lst ((xs.map w).map V.int)) := by
      rw [List.map_map, ← map_range xs nix]
      rw [filter_true, List.length_map] at el
      exact el
    walk_at "aw"
    refine w_iteB (fun h => absurd h (by decide)) fun _ => ?_
    walk_at "aw"
    refine w_iteB (fun _ => ?_) fun h => absurd rfl h
    walk_at "aw"
    refine ⟨l, xs.map w, rfl, SqL.of el, by rw [List.length_map]; exact o1, fun m hm hmx => ?_⟩
    walk_at "aw"
    refine w_ixT (SqT.of (g1.tup _ _ ea)) rfl ?_
    refine (hd.up g1).get hr ?_
    walk_at "aw"
    have e : decide (V.int m = V.int (w r)) = holdP w (.top xs r) := by
      show _ = (xs.all (fun x => !decide (w r < w x)) && xs.any (fun x => decide (w x = w r)))
      rw [Bool.eq_iff_iff, decide_eq_true_iff, Bool.and_eq_true, List.all_eq_true, List.any_eq_true]
      constructor
      · intro z
        have z := V.int.inj z
        refine ⟨fun x hx => ?_, ?_⟩
        · have := hmx (w x) (List.mem_map_of_mem hx)
          rw [Bool.not_eq_true', decide_eq_false_iff_not]
          omega
        · obtain ⟨x, h1, h2⟩ := List.mem_map.mp hm
          exact ⟨x, h1, decide_eq_true (by omega)⟩
      · rintro ⟨h1, x, h2, h3⟩
        have h3 := of_decide_eq_true h3
        obtain ⟨y, h4, h5⟩ := List.mem_map.mp hm
        have h6 := h1 y h4
        rw [Bool.not_eq_true', decide_eq_false_iff_not] at h6
        have := hmx (w x) (List.mem_map_of_mem h2)
        rw [show w r = m by omega]
    rw [e]
    exact q H1 g1
  | ahead xs ys =>
    obtain ⟨a, p, r, rfl, ea, ep, er⟩ := is_ahead hv
    have o1 := ok.1
    have o2 := ok.2
    have hxs : ∀ x ∈ xs, x ∈ names := fun x h => hx x (List.mem_append_left _ h)
    have hys : ∀ x ∈ ys, x ∈ names := fun x h => hx x (List.mem_append_right _ h)
    walk_at "aw"
    refine w_ixT (SqT.of ea) rfl ?_
    walk_at "aw"
    refine w_iteB (fun h => absurd h (by decide)) fun _ => ?_
    walk_at "aw"
    refine w_iteB (fun h => absurd h (by decide)) fun _ => ?_
    walk_at "aw"
    refine w_iteB (fun h => absurd h (by decide)) fun _ => ?_
    walk_at "aw"
    refine w_ixT (SqT.of ea) rfl ?_
    refine ⟨p, rfl, ⟨_, SqT.of ep⟩, ?_⟩
    refine kLc_pure (walk_tup (xs := xs.map V.str)) (by rw [List.length_map]; omega) (fun H' g => SqT.of (g.tup _ _ ep)) (fun _ => true) (fun i => .int (w (xs.getD i nix))) (fun i x H2 H3 Kt Kf hi g2 y kt kf => ?_) fun l H1 np g1 el => ?_
    · obtain ⟨rfl, y1⟩ := y
      rw [List.getElem?_map] at y1
      obtain ⟨n1, z1, rfl⟩ := Option.map_eq_some_iff.mp y1
      rw [getD_of z1] at kt
      walk_at "aw"
      refine ⟨rfl, ?_⟩
      walk_at "aw"
      refine (hd.up g2).get (hxs n1 (List.mem_of_getElem? z1)) ?_
      exact kt rfl _ (.refl _ _)
    replace el : H1 l = some (.lst ((xs.map w).map V.int)) := by
      rw [List.map_map, ← map_range xs nix]
      rw [filter_true, List.length_map] at el
      exact el
    walk_at "aw"
    refine w_iteB (fun h => absurd h (by decide)) fun _ => ?_
    walk_at "aw"
    refine w_iteB (fun h => absurd h (by decide)) fun _ => ?_
    walk_at "aw"
    refine w_iteB (fun _ => ?_) fun h => absurd rfl h
    walk_at "aw"
    refine w_ixT (SqT.of (g1.tup _ _ ea)) rfl ?_
    have er1 := g1.tup _ _ er
    refine ⟨r, rfl, ⟨_, SqT.of er1⟩, ?_⟩
    refine kLc_pure (walk_tup (xs := ys.map V.str)) (by rw [List.length_map]; omega) (fun H' g => SqT.of (g.tup _ _ er1)) (fun _ => true) (fun i => .int (w (ys.getD i nix))) (fun i x H2 H3 Kt Kf hi g2 y kt kf => ?_) fun m H2 nm g2 em => ?_
    · obtain ⟨rfl, y1⟩ := y
      rw [List.getElem?_map] at y1
      obtain ⟨n1, z1, rfl⟩ := Option.map_eq_some_iff.mp y1
      rw [getD_of z1] at kt
      walk_at "aw"
      refine ⟨rfl, ?_⟩
      walk_at "aw"
      refine ((hd.up g1).up g2).get (hys n1 (List.mem_of_getElem? z1)) ?_
      exact kt rfl _ (.refl _ _)
    replace em : H2 m = some (.lst ((ys.map w).map V.int)) := by
      rw [List.map_map, ← map_range ys nix]
      rw [filter_true, List.length_map] at em
      exact em
    exact ⟨l, m, xs.map w, ys.map w, rfl, rfl, SqL.of (g2.keep _ _ (fun z => nomatch z) el), SqL.of em, q H2 (g1.trans g2)⟩
  | counts xs ts =>
    obtain ⟨a, p, c, vs, rfl, ea, ep, ec, tc⟩ := is_counts hv
    have hvl : vs.length = ts.length := by rw [tc.length, List.length_map]
    have o1 := ok.1
    have o2 := ok.2
    have hxs : ∀ x ∈ xs, x ∈ names := hx
    walk_at "aw"
    refine w_ixT (SqT.of ea) rfl ?_
    walk_at "aw"
    refine w_iteB (fun h => absurd h (by decide)) fun _ => ?_
    walk_at "aw"
    refine w_iteB (fun h => absurd h (by decide)) fun _ => ?_
    walk_at "aw"
    refine w_iteB (fun h => absurd h (by decide)) fun _ => ?_
    walk_at "aw"
    refine w_ixT (SqT.of ea) rfl ?_
    refine ⟨p, rfl, ⟨_, SqT.of ep⟩, ?_⟩
    refine kLc_pure (walk_tup (xs := xs.map V.str)) (by rw [List.length_map]; omega) (fun H' g => SqT.of (g.tup _ _ ep)) (fun _ => true) (fun i => .int (w (xs.getD i nix))) (fun i x H2 H3 Kt Kf hi g2 y kt kf => ?_) fun l H1 np g1 el => ?_
    · obtain ⟨rfl, y1⟩ := y
      rw [List.getElem?_map] at y1
      obtain ⟨n1, z1, rfl⟩ := Option.map_eq_some_iff.mp y1
      rw [getD_of z1] at kt
      walk_at "aw"
      refine ⟨rfl, ?_⟩
      walk_at "aw"
      refine (hd.up g2).get (hxs n1 (List.mem_of_getElem? z1)) ?_
      exact kt rfl _ (.refl _ _)
    replace el : H1 l = some (.lst ((xs.map w).map V.int)) := by
      rw [List.map_map, ← map_range xs nix]
      rw [filter_true, List.length_map] at el
      exact el
    walk_at "aw"
    refine w_iteB (fun h => absurd h (by decide)) fun _ => ?_
    walk_at "aw"
    refine w_iteB (fun h => absurd h (by decide)) fun _ => ?_
    walk_at "aw"
    refine w_iteB (fun h => absurd h (by decide)) fun _ => ?_
    walk_at "aw"
    refine w_iteB (fun _ => ?_) fun h => absurd rfl h
    walk_at "aw"
    refine w_ixT (SqT.of (g1.tup _ _ ea)) rfl ?_
    refine ⟨c, rfl, ⟨_, SqT.of (g1.tup _ _ ec)⟩, ?_⟩
    refine kLc_pure (walk_tup (xs := vs)) (by omega) (fun H' g => SqT.of (g.tup _ _ (g1.tup _ _ ec))) (fun i => !cntOk w xs (ts.getD i (0, 0, 0))) (fun i => vs.getD i .non) (fun i x H2 H3 Kt Kf hi g2 y kt kf => ?_) fun r H2 nr g2 er => ?_
    · obtain ⟨rfl, y1⟩ := y
      obtain ⟨dt, z1, h1⟩ := tc.get y1
      rw [List.getElem?_map] at z1
      obtain ⟨t, z2, rfl⟩ := Option.map_eq_some_iff.mp z1
      obtain ⟨ia, rfl, ei⟩ := is_tri h1
      rw [getD_of z2, getD_of y1] at kt
      rw [getD_of z2] at kf
      have ei2 := g2.tup _ _ (g1.tup _ _ ei)
      have el2 := g2.keep _ _ (fun z => nomatch z) el
      walk_at "aw"
      refine ⟨rfl, ?_⟩
      walk_at "aw"
      refine w_ixT (SqT.of ei2) rfl ?_
      refine w_cnt rfl (SqL.of el2) ?_
      walk_at "aw"
      refine w_ixT (SqT.of ei2) rfl ?_
      refine ⟨l, xs.map w, _, rfl, rfl, SqL.of el2, ?_⟩
      walk_at "aw"
      refine w_iteB (fun h1 => ?_) fun h1 => ?_
      · walk_at "aw"
        refine w_ixT (SqT.of ei2) rfl ?_
        walk_at "aw"
        have e : cntOk w xs t = decide (((numb w xs t.1 : Nat) : Int) ≤ t.2.2) := by
          unfold cntOk
          rw [decide_eq_true (show t.2.1 ≤ ((numb w xs t.1 : Nat) : Int) from h1), Bool.true_and]
        rw [e] at kt kf
        refine w_iteNB (fun h => ?_) fun h => ?_
        · walk_at "aw"
          exact kt (by rw [decide_eq_false (show ¬ ((numb w xs t.1 : Nat) : Int) ≤ t.2.2 from h)]; rfl) _ (.refl _ _)
        · exact kf (by rw [decide_eq_true (show ((numb w xs t.1 : Nat) : Int) ≤ t.2.2 from h)]; rfl) _ (.refl _ _)
      · have e : cntOk w xs t = false := by
          unfold cntOk
          rw [decide_eq_false (show ¬ t.2.1 ≤ ((numb w xs t.1 : Nat) : Int) from h1), Bool.false_and]
        rw [e] at kt
        refine ⟨_, rfl, ?_⟩
        refine w_nF ?_
        walk_at "aw"
        exact kt rfl _ (.refl _ _)
    walk_at "aw"
    refine w_lenL (SqL.of er) ?_
    rw [List.length_map]
    walk_at "aw"
    have q1 := q H2 (g1.trans g2)
    have e3 : decide (V.int (((List.range vs.length).filter fun i => !cntOk w xs (ts.getD i (0, 0, 0))).length : Nat) = V.int 0) = holdP w (.counts xs ts) := by
      refine none_left ?_
      show ts.all (cntOk w xs) = true ↔ _
      rw [List.all_eq_true, hvl]
      constructor
      · intro h i hi
        rw [getD_of (List.getElem?_eq_getElem hi), h _ (List.getElem_mem hi)]
        rfl
      · intro h t ht
        obtain ⟨i, hi, rfl⟩ := List.mem_iff_getElem.mp ht
        have := h i hi
        rw [getD_of (List.getElem?_eq_getElem hi)] at this
        simpa using this
    rw [e3]
    exact q1
  | tab b xs rows =>
    obtain ⟨a, p, c, vs, rfl, ea, ep, ec, tc⟩ := is_tab hv
    have o1 := ok.1
    have hxs : ∀ x ∈ xs, x ∈ names := hx
    walk_at "aw"
    refine w_ixT (SqT.of ea) rfl ?_
    walk_at "aw"
    refine w_iteB (fun h => absurd h (by cases b <;> decide)) fun _ => ?_
    walk_at "aw"
    refine w_iteB (fun h => absurd h (by cases b <;> decide)) fun _ => ?_
    walk_at "aw"
    refine w_iteB (fun h => absurd h (by cases b <;> decide)) fun _ => ?_
    walk_at "aw"
    refine w_ixT (SqT.of ea) rfl ?_
    refine ⟨p, rfl, ⟨_, SqT.of ep⟩, ?_⟩
    refine kLc_pure (walk_tup (xs := xs.map V.str)) (by rw [List.length_map]; omega) (fun H' g => SqT.of (g.tup _ _ ep)) (fun _ => true) (fun i => .int (w (xs.getD i nix))) (fun i x H2 H3 Kt Kf hi g2 y kt kf => ?_) fun l H1 np g1 el => ?_
    · obtain ⟨rfl, y1⟩ := y
      rw [List.getElem?_map] at y1
      obtain ⟨n1, z1, rfl⟩ := Option.map_eq_some_iff.mp y1
      rw [getD_of z1] at kt
      walk_at "aw"
      refine ⟨rfl, ?_⟩
      walk_at "aw"
      refine (hd.up g2).get (hxs n1 (List.mem_of_getElem? z1)) ?_
      exact kt rfl _ (.refl _ _)
    replace el : H1 l = some (.lst ((xs.map w).map V.int)) := by
      rw [List.map_map, ← map_range xs nix]
      rw [filter_true, List.length_map] at el
      exact el
    walk_at "aw"
    refine w_iteB (fun h => absurd h (by cases b <;> decide)) fun _ => ?_
    walk_at "aw"
    refine w_iteB (fun h => absurd h (by cases b <;> decide)) fun _ => ?_
    walk_at "aw"
    refine w_iteB (fun h => absurd h (by cases b <;> decide)) fun _ => ?_
    walk_at "aw"
    refine w_iteB (fun h => absurd h (by cases b <;> decide)) fun _ => ?_
    walk_at "aw"
    refine w_tupL (SqL.of el) fun t H2 nt a2 e2 => ?_
    walk_at "aw"
    refine w_ixT (SqT.of (a2.tup _ _ (g1.tup _ _ ea))) rfl ?_
    have g2 := g1.trans a2
    refine ⟨rowD (xs.map w), rows.map rowD, (Is.tup e2 (IsAll.ints _)).dp, (Is.tup (g2.tup _ _ ec) (tc.up g2.tup)).dp, row_shaped _, rows_shaped _, ?_⟩
    rw [any_rows]
    walk_at "aw"
    have q1 := q H2 g2
    rw [show holdP w (.tab b xs rows) = (rows.any (fun row => decide (row = xs.map w)) == b) from rfl] at q1
    generalize (rows.any fun row => decide (row = xs.map w)) = A at q1 ⊢
    have e5 : decide (V.bl A = V.bl (decide (V.str (tabW b) = V.str (Str.ofString "table")))) = (A == b) := by
      cases b
      · rw [decide_eq_false (show ¬ V.str (tabW false) = V.str (Str.ofString "table") from fun z => absurd (V.str.inj z) (by decide))]
        cases A <;> decide
      · rw [decide_eq_true (show V.str (tabW true) = V.str (Str.ofString "table") from rfl)]
        cases A <;> decide
    rw [e5]
    exact q1
end AW
/-! data that can be compared -/
namespace AW
open PySem PySem.Spec PyProof.Rows L2 RZ
theorem clall_lay {ds : List PyData} (h : ∀ d ∈ ds, d.canLay0 = true) : PyData.canLayAll0 ds = true := by
  induction ds with
  | nil => simp [PyData.canLayAll0]
  | cons d ds ih => simp [PyData.canLayAll0, h d (List.mem_cons_self ..), ih fun e he => h e (List.mem_cons_of_mem _ he)]
theorem clall_deep {ds : List PyData} {n : Nat} (h : ∀ d ∈ ds, d.depth ≤ n) : PyData.depthAll ds ≤ n := by
  induction ds with
  | nil => simp [PyData.depthAll]
  | cons d ds ih =>
    have h1 := h d (List.mem_cons_self ..)
    have h2 := ih fun e he => h e (List.mem_cons_of_mem _ he)
    simp only [PyData.depthAll]
    omega
theorem str_lay {x : Str} (h : okS x) : PyData.canLay0 (.str x) = true := h
theorem cl_lay {names : List Str} (hn : ∀ x ∈ names, okS x) {m : Nat} {d : PyData} {f : Wd → Bool} (h : ClD names m d f) : d.canLay0 = true := by
  induction h with
  | one b hx =>
    have h1 := str_lay (hn _ hx)
    simp only [PyData.canLay0] at h1
    simp only [PyData.canLay0, PyData.canLayAll0, h1]
    cases b <;> decide +kernel
  | neg h ih =>
    simp only [PyData.canLay0, PyData.canLayAll0, ih]
    decide +kernel
  | many b ds fs hl h1 h ih =>
    have e : PyData.canLayAll0 ds = true := clall_lay fun d hd => by
      obtain ⟨i, hi, rfl⟩ := List.mem_iff_getElem.mp hd
      exact ih i _ _ (List.getElem?_eq_getElem hi) (List.getElem?_eq_getElem (by omega : i < fs.length))
    simp only [PyData.canLay0, PyData.canLayAll0, e]
    cases b <;> decide +kernel
theorem cl_deep {names : List Str} {m : Nat} {d : PyData} {f : Wd → Bool} (h : ClD names m d f) : d.depth ≤ 3 * m + 2 := by
  induction h with
  | one b hx =>
    simp only [PyData.depth, PyData.depthAll]
    omega
  | neg h ih =>
    simp only [PyData.depth, PyData.depthAll]
    omega
  | @many m b ds fs hl h1 h ih =>
    have e : PyData.depthAll ds ≤ 3 * m + 2 := clall_deep fun d hd => by
      obtain ⟨i, hi, rfl⟩ := List.mem_iff_getElem.mp hd
      exact ih i _ _ (List.getElem?_eq_getElem hi) (List.getElem?_eq_getElem (by omega : i < fs.length))
    simp only [PyData.depth, PyData.depthAll]
    omega
theorem lay_pairs : ∀ ts : List (Str × Int), (∀ x ∈ ts.map (·.1), okS x) → PyData.canLayAll0 (ts.map trD) = true
  | [], _ => by simp [PyData.canLayAll0]
  | t :: ts, h => by
    have h1 := str_lay (h t.1 (List.mem_cons_self ..))
    simp only [PyData.canLay0] at h1
    simp [trD, PyData.canLayAll0, PyData.canLay0, h1, lay_pairs ts fun x hx => h x (List.mem_cons_of_mem _ hx)]
theorem deep_pairs : ∀ ts : List (Str × Int), PyData.depthAll (ts.map trD) ≤ 3
  | [] => by simp [PyData.depthAll]
  | t :: ts => by
    have h3 := deep_pairs ts
    simp only [List.map_cons, trD, PyData.depthAll, PyData.depth]
    omega
theorem say_lay : ∀ (s : Say), (∀ x ∈ s.names, okS x) → s.ok → (sayD s).canLay0 = true
  | .sums b ts n, h, _ => by
    simp only [sayD, PyData.canLay0, PyData.canLayAll0, lay_pairs ts h]
    cases b <;> decide +kernel
  | .unlike xs, h, _ => by
    simp only [sayD, PyData.canLay0, PyData.canLayAll0, lay_strs xs h]
    decide +kernel
  | .counts xs ts, h, _ => by
    simp only [sayD, PyData.canLay0, PyData.canLayAll0, lay_strs xs h, lay_tris ts]
    decide +kernel
  | .tab b xs rows, h, _ => by
    simp only [sayD, PyData.canLay0, PyData.canLayAll0, lay_strs xs h, lay_rows rows]
    cases b <;> decide +kernel
  | .top xs r, h, _ => by
    have h1 : PyData.canLay0 (.str r) = true := h r (List.mem_cons_self ..)
    simp only [PyData.canLay0] at h1
    simp only [sayD, PyData.canLay0, PyData.canLayAll0, lay_strs xs fun x hx => h x (List.mem_cons_of_mem _ hx), h1]
    decide +kernel
  | .ahead xs ys, h, _ => by
    simp only [sayD, PyData.canLay0, PyData.canLayAll0, lay_strs xs fun x hx => h x (List.mem_append_left _ hx), lay_strs ys fun x hx => h x (List.mem_append_right _ hx)]
    decide +kernel
  | .claim d f ns, h, ok => by
    simp only [sayD, PyData.canLay0, PyData.canLayAll0, cl_lay h ok]
    decide +kernel
  | .when d f ns s, h, ok => by
    simp only [sayD, PyData.canLay0, PyData.canLayAll0, cl_lay (fun x hx => h x (List.mem_append_left _ hx)) ok.1, say_lay s (fun x hx => h x (List.mem_append_right _ hx)) ok.2.2]
    decide +kernel
theorem say_deep : ∀ (s : Say), s.ok → (sayD s).depth ≤ (if s.isWhen = true then 40 else 30)
  | .sums b ts n, _ => by
    have h2 := deep_pairs ts
    show _ ≤ 30
    simp only [sayD, PyData.depth, PyData.depthAll]
    omega
  | .unlike xs, _ => by
    have h1 := deep_strs xs
    show _ ≤ 30
    simp only [sayD, PyData.depth, PyData.depthAll]
    omega
  | .counts xs ts, _ => by
    have h1 := deep_strs xs
    have h2 := deep_tris ts
    show _ ≤ 30
    simp only [sayD, PyData.depth, PyData.depthAll]
    omega
  | .tab b xs rows, _ => by
    have h1 := deep_strs xs
    have h2 := deep_rows rows
    show _ ≤ 30
    simp only [sayD, PyData.depth, PyData.depthAll]
    omega
  | .top xs r, _ => by
    have h1 := deep_strs xs
    show _ ≤ 30
    simp only [sayD, PyData.depth, PyData.depthAll]
    omega
  | .ahead xs ys, _ => by
    have h1 := deep_strs xs
    have h2 := deep_strs ys
    show _ ≤ 30
    simp only [sayD, PyData.depth, PyData.depthAll]
    omega
  | .claim d f ns, ok => by
    have h1 := cl_deep ok
    show _ ≤ 30
    simp only [sayD, PyData.depth, PyData.depthAll]
    omega
  | .when d f ns s, ok => by
    have h1 := cl_deep ok.1
    have h2 := say_deep s ok.2.2
    rw [if_neg (by rw [ok.2.1]; decide)] at h2
    show _ ≤ 40
    simp only [sayD, PyData.depth, PyData.depthAll]
    omega
theorem it_lay {p : Str × Say} (h : okS p.1) (h2 : (∀ x ∈ p.2.names, okS x) ∧ p.2.ok) : (itD p).canLay0 = true := by
  have h1 : PyData.canLay0 (.str p.1) = true := h
  simp only [itD, PyData.canLay0, PyData.canLayAll0, say_lay p.2 h2.1 h2.2, Bool.and_true, Bool.true_and]
  exact h1
theorem it_deep (p : Str × Say) (ok : p.2.ok) : (itD p).depth ≤ 50 := by
  have h := say_deep p.2 ok
  have : (sayD p.2).depth ≤ 40 := Nat.le_trans h (by split <;> omega)
  simp only [itD, PyData.depth, PyData.depthAll]
  omega
theorem it_shaped {p : Str × Say} (h : okS p.1) (h2 : (∀ x ∈ p.2.names, okS x) ∧ p.2.ok) : SeqAt.shaped (itD p) = true := by
  have := it_deep p h2.2
  show ((itD p).canLay0 && decide ((itD p).depth ≤ 64)) = true
  rw [it_lay h h2, decide_eq_true (by omega)]
  rfl
theorem its_shaped : ∀ ps : List (Str × Say), (∀ p ∈ ps, okS p.1 ∧ (∀ x ∈ p.2.names, okS x) ∧ p.2.ok) → PyData.canLayAll0 (ps.map itD) = true ∧ PyData.depthAll (ps.map itD) ≤ 50
  | [], _ => by simp [PyData.canLayAll0, PyData.depthAll]
  | p :: ps, h => by
    have h1 := h p (List.mem_cons_self ..)
    have h2 := its_shaped ps fun q hq => h q (List.mem_cons_of_mem _ hq)
    have h3 := it_deep p h1.2.2
    refine ⟨?_, ?_⟩
    · simp only [List.map_cons, PyData.canLayAll0, it_lay h1.1 h1.2, h2.1, Bool.and_true]
    · simp only [List.map_cons, PyData.depthAll]
      omega
theorem its_list {ps : List (Str × Say)} (h : ∀ p ∈ ps, okS p.1 ∧ (∀ x ∈ p.2.names, okS x) ∧ p.2.ok) : SeqAt.shaped (.list (ps.map itD)) = true := by
  obtain ⟨h1, h2⟩ := its_shaped ps h
  show ((PyData.list (ps.map itD)).canLay0 && decide ((PyData.list (ps.map itD)).depth ≤ 64)) = true
  have h3 : (PyData.list (ps.map itD)).depth ≤ 64 := by
    simp only [PyData.depth]
    omega
  rw [decide_eq_true h3, Bool.and_true]
  simp only [PyData.canLay0]
  exact h1
end AW
namespace AW
open PySem PySem.Spec PyProof.Rows L2 RZ
local macro_rules | `(tactic| walk_at "aw1") => `(tactic| first
  | (with_reducible refine w_seq ?_) | (with_reducible refine w_asg ?_) | (with_reducible refine w_gname ?_) | (with_reducible refine w_op ?_) | (with_reducible refine w_un ?_)
  | ((with_reducible refine' w_var ?h ?_); (case h => rfl)) | (with_reducible refine w_c ?_)
  | (with_reducible refine w_I0 ?_) | (with_reducible refine w_U ?_) | (with_reducible refine w_cb ?_) | (with_reducible refine w_nil ?_) | (with_reducible refine w_cons ?_) | (with_reducible refine w_call ?_)
  | (with_reducible refine w_test ?_) | (with_reducible refine w_B ?_) | (with_reducible refine w_bl ?_) | (with_reducible refine w_not ?_) | (with_reducible refine w_yes ?_) | (with_reducible refine iteT ?_) | (with_reducible refine iteF ?_) | (with_reducible refine w_and ?_) | (with_reducible refine w_or ?_)
  | (with_reducible refine w_andV ?_) | (with_reducible refine w_orV ?_) | (with_reducible refine w_notV ?_) | (with_reducible refine w_if ?_)
  | (with_reducible refine w_int1 ?_) | (with_reducible refine w_int1b ?_) | (with_reducible refine w_abs ?_) | (with_reducible refine w_max2 ?_) | (with_reducible refine w_min2 ?_)
  | ((with_reducible refine w_eq ?h ?_); (case h => rfl)) | ((with_reducible refine w_ne ?h ?_); (case h => rfl)) | (with_reducible refine w_isN ?_) | (with_reducible refine w_isB ?_) | (with_reducible refine w_chain ?_)
  | (with_reducible refine w_ret ?_) | (with_reducible refine w_drop ?_) | (with_reducible refine w_ifS ?_) | (with_reducible refine w_gsub ?_) | (with_reducible refine w_augS ?_) | (with_reducible refine w_ipI ?_) | (with_reducible refine w_next ?_)
  | (with_reducible refine w_forR ?_) | (with_reducible refine w_forR2 ?_) | (with_reducible refine w_forL ?_) | (with_reducible refine w_forT ?_) | (with_reducible refine w_lcR ?_) | (with_reducible refine w_lcL ?_) | (with_reducible refine w_lcT ?_) | (with_reducible refine w_sl ?_) | (with_reducible refine w_part ?_) | (with_reducible refine w_noPart ?_) | (with_reducible refine w_in ?_)
  | (with_reducible refine w_gcons ?_) | (with_reducible refine w_gnil ?_) | (with_reducible refine w_lc3 ?_) | (with_reducible refine w_dcZ ?_) | (with_reducible refine w_dcT ?_) | (with_reducible refine w_dg ?_) | (with_reducible refine w_callK ?_) | (with_reducible refine w_dput ?_) | (with_reducible refine w_tup1 ?_)
  | (with_reducible refine w_tup ?_) | (with_reducible refine w_lst ?_)
  | ((with_reducible refine w_I ?h ?_); (case h => first | (exact Or.inr ⟨by decide, by decide⟩) | (exact Or.inl ⟨by decide, by decide⟩) | (show (0 : Int) < _; decide) | (exact ⟨by decide, by decide, by decide⟩) | assumption)))
local macro_rules | `(tactic| walk_at "aw") => `(tactic| repeat (walk_at "aw1"))
theorem nodup_short : ∀ (n : Nat) (l : List Nat), l.Nodup → (∀ x ∈ l, x < n) → l.length ≤ n
  | 0, l, _, h => by
    cases l with
    | nil => exact Nat.le_refl _
    | cons x l => exact absurd (h x (List.mem_cons_self ..)) (Nat.not_lt_zero _)
  | n + 1, l, hn, h => by
    have h1 := nodup_short n (l.erase n) (hn.erase n) fun x hx => by
      have hm := (hn.mem_erase_iff).mp hx
      have := h x hm.2
      have hne := hm.1
      omega
    by_cases hm : n ∈ l
    · rw [List.length_erase_of_mem hm] at h1
      omega
    · rw [List.erase_of_not_mem hm] at h1
      omega
def sp__law_fillings (_ : PySem.W.Frag) : Sp := fun vs H Q _ => ∃ (p : Addr), vs = [.ref p] ∧ ∃ (doms : List (Str × List Int)) (st cs : Addr), StOk st cs H ∧ p ≠ st ∧ LsAt H p (doms.map domD) ∧ (∀ q ∈ doms, q.2.length ≤ 5) ∧ doms.length ≤ 5 ∧
  ∀ r (rows : List (List Int)) H', Go st cs H H' → H r = none → LsAt H' r (rows.map rowD) → (∀ row ∈ rows, row.length = doms.length) → rows.length ≤ 5 ^ 5 → Q (.ref r) H'
def sp__law_near (_ : PySem.W.Frag) : Sp := fun vs H Q _ => ∃ (st p : Addr) (v : V), vs = [.ref st, .ref p, v] ∧ ∃ (cs : Addr) (doms : List (Str × List Int)) (fl : List Int), StOk st cs H ∧ p ≠ st ∧ LsAt H p (doms.map domD) ∧ Is H (rowD fl) v ∧ fl.length = doms.length ∧ 0 < doms.length ∧ doms.length ≤ 100 ∧ (∀ q ∈ doms, 0 < q.2.length ∧ q.2.length ≤ 100) ∧
  ∀ v' (fl' : List Int) H', Go st cs H H' → Is H' (rowD fl') v' → fl'.length = doms.length → Q v' H'
def sp__law_parted (_ : PySem.W.Frag) : Sp := fun vs H Q _ => ∃ (st p d : Addr), vs = [.ref st, .ref p, .ref d] ∧ ∃ (cs : Addr) (made : List (Str × Say)) (names : List Str) (w : Str → Int), StOk st cs H ∧ p ≠ st ∧ LsAt H p (made.map itD) ∧ WD H d names w ∧
  (made.map (·.1)).Nodup ∧ 0 < made.length ∧ made.length ≤ 50 ∧ (∀ q ∈ made, q.2.ok ∧ (∀ x ∈ q.2.names, x ∈ names) ∧ okS q.1 ∧ ∀ x ∈ q.2.names, okS x) ∧
  ∀ r f s (firm soft : List (Str × Say)) H', Go st cs H H' → H' r = some (.lst [.ref f, .ref s]) → f ≠ st → s ≠ st → r ≠ st → LsAt H' f (firm.map itD) → LsAt H' s (soft.map itD) → (firm.map (·.1) ++ soft.map (·.1)).Nodup → (∀ q ∈ firm, q ∈ made) → (∀ q ∈ soft, q ∈ made) → firm.length ≤ 50 → soft.length ≤ 50 → Q (.ref r) H'
def t__law_fillings (K : PySem.W.Frag) : TS := (tSeq (tAsg (tLst (tCons (tTup tNil) tNil)) (gName 1))
  (tSeq (tFor (iList K (tVar 0)) (gName 2)
  (tSeq (tAsg (tLst tNil) (gName 3))
  (tSeq (tFor (iList K (tVar 1)) (gName 4)
  (tAsg (tOp rCat (tVar 3) (tLc (iTup K (tOp (rIxT K) (tVar 2) (tC (.int 1)))) (gName 5) tYes (tOp (rCatA K) (tVar 4) (tTup (tCons (tVar 5) tNil))) [5])) (gName 3)))
  (tAsg (tVar 3) (gName 1)))))
  (tRet (tVar 1))))
def t__law_near (K : PySem.W.Frag) : TS := (tSeq (tAsg (tCB (rListOf K) (tCons (tVar 2) tNil)) (gName 3))
  (tSeq (tFor (iRng1 (tCons (tCall (sp__law_pick K) [] E0 (tCons (tVar 0) (tCons (tLst (tCons (tC (.int 0)) (tCons (tC (.int 1)) (tCons (tC (.int 1)) (tCons (tC (.int 1)) (tCons (tC (.int 2)) (tCons (tC (.int 3)) (tCons (tOp rMulI (tC (.int 2)) (tCB (rLen1 K) (tCons (tVar 1) tNil))) tNil)))))))) tNil))) tNil)) (gName 4)
  (tSeq (tAsg (tCall (sp__law_take K) [] E0 (tCons (tVar 0) (tCons (tCB (rLen1 K) (tCons (tVar 1) tNil)) tNil))) (gName 5))
  (tAsg (tCall (sp__law_pick K) [] E0 (tCons (tVar 0) (tCons (tOp (rIxT K) (tOp (rIxL K) (tVar 1) (tVar 5)) (tC (.int 1))) tNil))) (gSub (tVar 3) (tVar 5) rSetL))))
  (tRet (tThen (tVar 3) (kTup K)))))
def t__law_parted (K : PySem.W.Frag) : TS := (tSeq (tAsg (tCall (sp__law_take K) [] E0 (tCons (tVar 0) (tCons (tCB (rLen1 K) (tCons (tVar 1) tNil)) tNil))) (gName 3))
  (tSeq (tAsg (tLc (iList K (tSl (rSlL K) (tVar 1) (tPart (tVar 3)) tNoPart)) (gName 5) (tOr (tB (tCall (sp__law_holds K 2) [] E0 (tCons (tOp (rIxT K) (tVar 5) (tC (.int 1))) (tCons (tVar 2) tNil)))) (tTest (tOp rEq (tCall (sp__law_take K) [] E0 (tCons (tVar 0) (tCons (tC (.int 3)) tNil))) (tC (.int 0))))) (tVar 5) [5]) (gName 4))
  (tRet (tLst (tCons (tVar 4) (tCons (tLc (iList K (tVar 1)) (gName 5) (tTest (tOp (rNotInD K) (tVar 5) (tVar 4))) (tVar 5) [5]) tNil))))))
theorem len__law_fillings {K : PySem.W.Frag} : ∀ (vs : List V) (H : Hp) (Q : VK) (E : XK), sp__law_fillings K vs H Q E → vs.length = 1 := fun vs H Q E h => by
  obtain ⟨_, rfl, _⟩ := h
  rfl
theorem pure__law_fillings {K : PySem.W.Frag} (vs : List V) (H : Hp) (Q : VK) (E : XK) (h : sp__law_fillings K vs H Q E) : t__law_fillings K { nx := fun _ H' => Q .non H', rt := Q } (start ["doms", "rows", "pair", "longer", "row", "v"] vs) H := by
  obtain ⟨p, rfl, doms, st, cs, ok, np, ⟨xs, hp, tp⟩, hsz, hdl, q⟩ := h
  show t__law_fillings K _ [some (.ref p), none, none, none, none, none] H
  have hxl : xs.length = doms.length := by rw [tp.length, List.length_map]
  unfold t__law_fillings
  walk_at "aw"
  refine w_tupD (by simp) fun e H1 ne a1 e1 => ?_
  walk_at "aw"
  refine w_lstD (by simp) fun r0 H2 nr0 a2 e2 => ?_
  have g2 : Go st cs H H2 := (Go.of ok a1).new a2
  walk_at "aw"
  refine kForL_i (xs := xs) (fun i σ H' => ∃ r y2 y3 y4 rows, σ = [some (.ref p), some (.ref r), y2, y3, y4, none] ∧ Go st cs H H' ∧ H r = none ∧ LsAt H' r ((rows : List (List Int)).map rowD) ∧ (∀ row ∈ rows, row.length = i) ∧ rows.length ≤ 5 ^ i) (SqL.of (g2.keep np hp))
    ⟨r0, none, none, none, [[]], rfl, g2, (Go.of ok a1).free ok nr0, ⟨_, e2, .cons (.tup (a2.tup _ _ e1) .nil) .nil⟩, fun row h => by rw [List.mem_singleton.mp h]; rfl, Nat.le_refl _⟩ (fun i σ H' hi pp => ?_) (fun i v σ H' hv pp => ?_) fun σ H' pp => ?_
  · obtain ⟨_, _, _, _, _, _, g, _⟩ := pp
    exact SqL.of (g.keep np hp)
  · obtain ⟨r, y2, y3, y4, rows, rfl, g, nr, ⟨rs, er, tr⟩, hrl, hrn⟩ := pp
    have hi : i < doms.length := by
      have := (List.getElem?_eq_some_iff.mp hv).1
      omega
    obtain ⟨dt, z1, h1⟩ := tp.get hv
    rw [List.getElem?_map] at z1
    obtain ⟨pr, z2, rfl⟩ := Option.map_eq_some_iff.mp z1
    obtain ⟨ia, ib, rfl, ea, eb⟩ := is_dom h1
    have hp3 := hsz pr (List.mem_of_getElem? z2)
    walk_at "aw"
    refine w_lstD (by simp) fun l0 H3 nl0 a3 e3 => ?_
    have g3 := g.new a3
    walk_at "aw"
    have nrst : r ≠ st := (ok.ne nr).1
    have hrs : rs.length = rows.length := by rw [tr.length, List.length_map]
    have h36 : rows.length ≤ 5 ^ 5 := Nat.le_trans hrn (Nat.pow_le_pow_right (by omega) (by omega))
    refine kForL_i (xs := rs) (fun j σ H4 => ∃ l y4 more, σ = [some (.ref p), some (.ref r), some (.ref ia), some (.ref l), y4, none] ∧ Go st cs H H4 ∧ Go st cs H' H4 ∧ H l = none ∧ LsAt H4 l ((more : List (List Int)).map rowD) ∧ (∀ row ∈ more, row.length = i + 1) ∧ more.length ≤ 5 * j) (SqL.of (a3.keep _ _ (fun z => nomatch z) er))
      ⟨l0, y4, [], rfl, g3, .of g.ok a3, g.free ok nl0, ⟨[], e3, .nil⟩, fun row h => absurd h (List.not_mem_nil), Nat.zero_le _⟩ (fun j σ H4 hj pp => ?_) (fun j x σ H4 hx pp => ?_) fun σ H4 pp => ?_
    · obtain ⟨_, _, _, _, _, g4, _⟩ := pp
      exact SqL.of (g4.keep nrst er)
    · obtain ⟨l, y4, more, rfl, g4, g5, nl, ⟨ls, el, tl⟩, hml, hmn⟩ := pp
      obtain ⟨dt, z3, h3⟩ := tr.get hx
      rw [List.getElem?_map] at z3
      obtain ⟨row, z4, rfl⟩ := Option.map_eq_some_iff.mp z3
      obtain ⟨xa, xv, rfl, exa, txa⟩ := h3.tup_inv
      have e5 := txa.ints_inv
      subst e5
      have hrow := hrl row (List.mem_of_getElem? z4)
      have exa4 := g5.tk _ _ exa
      have eb4 := g4.tk _ _ eb
      have hlsl : ls.length = more.length := by rw [tl.length, List.length_map]
      have hjr : j < rows.length := by
        have := (List.getElem?_eq_some_iff.mp hx).1
        omega
      walk_at "aw"
      refine w_ixT (SqT.of (g4.tk _ _ ea)) rfl ?_
      refine kLcT_all (xs := pr.2.map V.int) eb4 (by simp; omega) g4.ok (fun k v H => ∃ m, pr.2[k]? = some m ∧ Is H (rowD (row ++ [m])) v) (fun k v H H' t h => by
        obtain ⟨m, h1, h2⟩ := h
        exact ⟨m, h1, h2.up t⟩) (fun k v H5 Kt hk g6 kt => ?_) fun D H5 ys nD g6 eD hyl hyr => ?_
      · rw [List.getElem?_map] at hk
        obtain ⟨m, z5, rfl⟩ := Option.map_eq_some_iff.mp hk
        walk_at "aw"
        refine ⟨rfl, ?_⟩
        walk_at "aw"
        refine w_tupD (by simp) fun t H6 nt a6 e6 => ?_
        refine w_catT' (a6.tup _ _ (g6.tk _ _ exa4)) e6 (by simp; omega) fun t2 H7 a7 e7 => ?_
        refine kt _ _ ((Go.of g6.ok a6).new a7) ⟨m, z5, ?_⟩
        have e8 : row.map V.int ++ [V.int m] = (row ++ [m]).map V.int := by simp
        rw [e8] at e7
        exact .tup e7 (IsAll.ints _)
      · refine w_cat (g6.keep (ok.ne nl).1 el) eD (by rw [hlsl, hyl, List.length_map]; omega) fun l2 H6 nl2 a6 e6 => ?_
        walk_at "aw"
        have g7 := g4.trans g6
        rw [List.length_map] at hyl
        refine ⟨l2, some (.ref xa), more ++ pr.2.map (fun m => row ++ [m]), rfl, g7.new a6, (g5.trans g6).new a6, g7.free ok nl2, ⟨_, e6, ?_⟩, fun r2 hr2 => ?_, ?_⟩
        · rw [List.map_append, List.map_map]
          refine IsAll.append ((tl.up g6.tk).up a6.tup) (IsAll.of _ _ (by rw [List.length_map, hyl]) fun k d v hd hv => ?_)
          rw [List.getElem?_map] at hd
          obtain ⟨m, z6, rfl⟩ := Option.map_eq_some_iff.mp hd
          obtain ⟨m2, z7, h7⟩ := hyr k v hv
          rw [z6] at z7
          cases z7
          exact h7.up a6.tup
        · rcases List.mem_append.mp hr2 with h | h
          · exact hml r2 h
          · obtain ⟨m, _, rfl⟩ := List.mem_map.mp h
            rw [List.length_append, hrow]
            rfl
        · rw [List.length_append, List.length_map]
          omega
    · obtain ⟨l, y4, more, rfl, g4, g5, nl, hl, hml, hmn⟩ := pp
      walk_at "aw"
      refine ⟨l, some (.ref ia), some (.ref l), y4, more, rfl, g4, nl, hl, hml, ?_⟩
      rw [Nat.pow_succ]
      omega
  · obtain ⟨r, y2, y3, y4, rows, rfl, g, nr, hr, hrl, hrn⟩ := pp
    walk_at "aw"
    exact q r rows H' g nr hr (fun row h => by rw [hrl row h, hxl]) (Nat.le_trans hrn (Nat.pow_le_pow_right (by omega) (by omega)))
theorem len__law_near {K : PySem.W.Frag} : ∀ (vs : List V) (H : Hp) (Q : VK) (E : XK), sp__law_near K vs H Q E → vs.length = 3 := fun vs H Q E h => by
  obtain ⟨_, _, _, rfl, _⟩ := h
  rfl
theorem pure__law_near {K : PySem.W.Frag} (vs : List V) (H : Hp) (Q : VK) (E : XK) (h : sp__law_near K vs H Q E) : t__law_near K { nx := fun _ H' => Q .non H', rt := Q } (start ["state", "doms", "base", "row", "k", "at"] vs) H := by
  obtain ⟨st, p, v, rfl, cs, doms, fl, ok, np, ⟨xs, hp, tp⟩, hv, hfl, hd0, hdl, hdd, q⟩ := h
  obtain ⟨va, vv, rfl, ev, tv⟩ := hv.tup_inv
  have e0 := tv.ints_inv
  subst e0
  have hxl : xs.length = doms.length := by rw [tp.length, List.length_map]
  show t__law_near K _ [some (.ref st), some (.ref p), some (.ref va), none, none, none] H
  unfold t__law_near
  walk_at "aw"
  refine w_listOf (.inr (SqT.of ev)) fun f H1 nf a1 e1 => ?_
  have g1 := Go.of ok a1
  walk_at "aw"
  refine w_lenL (SqL.of (g1.keep np hp)) ?_
  walk_at "aw"
  refine w_lstD (by simp) fun l H2 nl a2 e2 => ?_
  walk_at "aw"
  have g2 := g1.new a2
  refine ⟨st, l, rfl, cs, _, g2.ok, .inl ⟨SqL.of e2, (g1.ok.ne nl).1⟩, by simp, by simp, fun i x H3 hx g3 => ?_⟩
  have hxm := List.mem_of_getElem? hx
  obtain ⟨n, rfl, hn⟩ : ∃ n : Nat, x = .int (n : Nat) ∧ n ≤ 1000 := by
    simp only [List.mem_cons, List.not_mem_nil, or_false] at hxm
    rcases hxm with h | h | h | h | h | h | h
    · exact ⟨0, h, by omega⟩
    · exact ⟨1, h, by omega⟩
    · exact ⟨1, h, by omega⟩
    · exact ⟨1, h, by omega⟩
    · exact ⟨2, h, by omega⟩
    · exact ⟨3, h, by omega⟩
    · exact ⟨2 * doms.length, by rw [h, hxl]; exact congrArg V.int (by omega), by omega⟩
  walk_at "aw"
  have g13 : Go st cs H H3 := g2.trans g3
  refine kForR_i (n := n) (by omega) (fun i σ H' => ∃ y1 y2 cur, σ = [some (.ref st), some (.ref p), some (.ref va), some (.ref f), y1, y2] ∧ Go st cs H H' ∧ H' f = some (.lst ((cur : List Int).map V.int)) ∧ cur.length = doms.length)
    ⟨none, none, fl, rfl, g13, g3.keep (ok.ne nf).1 (a2.keep _ _ (fun z => nomatch z) e1), hfl⟩ (fun i σ H' hi pp => ?_) fun σ H' pp => ?_
  · obtain ⟨y1, y2, cur, rfl, g, ef, hcl⟩ := pp
    walk_at "aw"
    refine w_lenL (SqL.of (g.keep np hp)) ?_
    walk_at "aw"
    refine ⟨st, _, rfl, cs, g.ok, by omega, by omega, fun m H4 h1 h2 g4 => ?_⟩
    have g5 := g.trans g4
    obtain ⟨x, hx⟩ := get_some (xs := xs) (i := m.toNat) (by omega)
    obtain ⟨dt, z1, hdt⟩ := tp.get hx
    rw [List.getElem?_map] at z1
    obtain ⟨pr, z2, rfl⟩ := Option.map_eq_some_iff.mp z1
    obtain ⟨ia, ib, rfl, ea, eb⟩ := is_dom hdt
    have hpd := hdd pr (List.mem_of_getElem? z2)
    walk_at "aw"
    refine w_ixL (SqL.of (g5.keep np hp)) (at_nat h1 hx) ?_
    walk_at "aw"
    refine w_ixT (SqT.of (g5.tk _ _ ea)) rfl ?_
    walk_at "aw"
    refine ⟨st, ib, rfl, cs, _, g5.ok, .inr (g5.tk _ _ eb), by rw [List.length_map]; exact hpd.1, by rw [List.length_map]; omega, fun j y H6 hy g6 => ?_⟩
    rw [List.getElem?_map] at hy
    obtain ⟨c, z3, rfl⟩ := Option.map_eq_some_iff.mp hy
    walk_at "aw"
    have ef6 := (g4.trans g6).keep (ok.ne nf).1 ef
    have hix : ixN (cur.map V.int).length m = some m.toNat := by
      unfold ixN
      rw [List.length_map, if_pos h1, if_pos (by omega)]
    refine w_setL ef6 hix ?_
    refine ⟨_, _, cur.set m.toNat c, rfl, (g5.trans g6).mutL ok nf ef6, ?_, by rw [List.length_set]; exact hcl⟩
    rw [upd_same, List.map_set]
  · obtain ⟨y1, y2, cur, rfl, g, ef, hcl⟩ := pp
    walk_at "aw"
    refine w_tupL (SqL.of ef) fun t H5 nt a5 e5 => ?_
    exact q _ cur H5 (g.new a5) (.tup e5 (IsAll.ints _)) hcl
theorem len__law_parted {K : PySem.W.Frag} : ∀ (vs : List V) (H : Hp) (Q : VK) (E : XK), sp__law_parted K vs H Q E → vs.length = 3 := fun vs H Q E h => by
  obtain ⟨_, _, _, rfl, _⟩ := h
  rfl
def dfl : Str × Say := (nix, .top [] nix)
/-- the items at these places: their names differ as the places do -/
theorem picked {l : List (Str × Say)} (hn : (l.map (·.1)).Nodup) {ks : List Nat} (hk : ks.Pairwise (· < ·)) (hlt : ∀ k ∈ ks, k < l.length) : ((ks.map fun k => l.getD k dfl).map (·.1)).Nodup ∧ ∀ q ∈ ks.map fun k => l.getD k dfl, q ∈ l := by
  constructor
  · rw [List.map_map, List.Nodup, List.pairwise_map]
    refine List.Pairwise.imp_of_mem ?_ hk
    intro a b ha hb hab e
    have z1 := List.getElem?_eq_getElem (hlt a ha)
    have z2 := List.getElem?_eq_getElem (hlt b hb)
    replace e : (l.getD a dfl).1 = (l.getD b dfl).1 := e
    rw [getD_of z1, getD_of z2] at e
    have y1 : (l.map (·.1))[a]? = some (l[a]'(hlt a ha)).1 := by rw [List.getElem?_map, z1]; rfl
    have y2 : (l.map (·.1))[b]? = some (l[b]'(hlt b hb)).1 := by rw [List.getElem?_map, z2]; rfl
    rw [e] at y1
    have := nodup_inj hn y1 y2
    omega
  · intro q hq
    obtain ⟨k, hk, rfl⟩ := List.mem_map.mp hq
    rw [getD_of (List.getElem?_eq_getElem (hlt k hk))]
    exact List.getElem_mem _
theorem same_name {l : List (Str × Say)} (hn : (l.map (·.1)).Nodup) {p q : Str × Say} (hp : p ∈ l) (hq : q ∈ l) (e : p.1 = q.1) : p = q := by
  obtain ⟨i, hi, rfl⟩ := List.mem_iff_getElem.mp hp
  obtain ⟨j, hj, rfl⟩ := List.mem_iff_getElem.mp hq
  have y1 : (l.map (·.1))[i]? = some (l[i]).1 := by rw [List.getElem?_map, List.getElem?_eq_getElem hi]; rfl
  have y2 : (l.map (·.1))[j]? = some (l[j]).1 := by rw [List.getElem?_map, List.getElem?_eq_getElem hj]; rfl
  rw [e] at y1
  have := nodup_inj hn y1 y2
  subst this
  rfl
theorem pure__law_parted {K : PySem.W.Frag} (vs : List V) (H : Hp) (Q : VK) (E : XK) (h : sp__law_parted K vs H Q E) : t__law_parted K { nx := fun _ H' => Q .non H', rt := Q } (start ["state", "made", "at", "cut", "firm", "one"] vs) H := by
  obtain ⟨st, p, d, rfl, cs, made, names, w, ok, np, ⟨xs, hp, tp⟩, hd, hnd, h0, hl50, hmade, q⟩ := h
  have hxl : xs.length = made.length := by rw [tp.length, List.length_map]
  show t__law_parted K _ [some (.ref st), some (.ref p), some (.ref d), none, none, none] H
  unfold t__law_parted
  walk_at "aw"
  refine w_lenL (SqL.of hp) ?_
  walk_at "aw"
  refine ⟨st, _, rfl, cs, ok, by omega, by omega, fun n H1 h1 h2 g1 => ?_⟩
  walk_at "aw"
  refine w_slL (SqL.of (g1.keep np hp)) fun r1 H2 nr1 a2 e2 => ?_
  rw [cut_from _ h1] at e2
  have g2 := g1.new a2
  have hd2 := (hd.go ok g2)
  have nr1st := (g1.ok.ne nr1).1
  generalize hL : made.drop n.toNat = l
  have hlm : ∀ {k : Nat} {x : V}, (xs.drop n.toNat)[k]? = some x → ∃ pr, l[k]? = some pr ∧ Is H (itD pr) x := fun {k x} e => by
    rw [List.getElem?_drop] at e
    obtain ⟨dt, z1, hdt⟩ := tp.get e
    rw [List.getElem?_map] at z1
    obtain ⟨pr, z2, rfl⟩ := Option.map_eq_some_iff.mp z1
    exact ⟨pr, by rw [← hL, List.getElem?_drop]; exact z2, hdt⟩
  have hlsub : ∀ q ∈ l, q ∈ made := fun q hq => by rw [← hL] at hq; exact List.mem_of_mem_drop hq
  have hln : (l.map (·.1)).Nodup := by
    rw [← hL, List.map_drop]
    exact hnd.sublist (List.drop_sublist ..)
  have hll : (xs.drop n.toNat).length = l.length := by rw [← hL, List.length_drop, List.length_drop, hxl]
  have hl50' : l.length ≤ 50 := by rw [← hL, List.length_drop]; omega
  refine kLcL_some (xs := xs.drop n.toNat) (SqL.of e2) nr1st (by omega) g2.ok (fun k v H => ∃ pr, l[k]? = some pr ∧ Is H (itD pr) v) (fun _ => True) (fun k v H H' t h => by
    obtain ⟨pr, z1, z2⟩ := h
    exact ⟨pr, z1, z2.up t⟩) (fun k x H3 Kt Kf hk g3 kt kf => ?_) fun f H3 ks ys nf g3 ef hks hpw hkl _ hR => ?_
  · obtain ⟨pr, z1, hpr⟩ := hlm hk
    have hm := hmade pr (hlsub pr (List.mem_of_getElem? z1))
    obtain ⟨ia, vs, rfl, ei, h2⟩ := hpr.tup_inv
    have g23 := g2.trans g3
    have hcase : ∃ sv, vs = [.str pr.1, sv] ∧ Is H (sayD pr.2) sv := by
      cases h2 with
      | cons h3 h4 =>
        cases h4 with
        | cons h5 h6 =>
          cases h6
          cases h3
          exact ⟨_, rfl, h5⟩
    obtain ⟨sv, rfl, hsv⟩ := hcase
    walk_at "aw"
    refine ⟨rfl, ?_⟩
    walk_at "aw"
    refine w_ixT (SqT.of (g23.tk _ _ ei)) rfl ?_
    walk_at "aw"
    refine ⟨sv, d, rfl, pr.2, names, w, hsv.up g23.tk, hd2.go g2.ok g3, hm.1, hm.2.1, by decide, fun _ => by decide, fun H4 a4 => ?_⟩
    walk_at "aw"
    have g4 := Go.of g3.ok a4
    have done : ∀ H5, Go st cs H3 H5 → Kt (.ref ia) H5 := fun H5 g5 => kt _ _ g5 ⟨pr, z1, hpr.up (g23.trans g5).tk⟩
    cases hb : holdP w pr.2 with
    | true =>
      walk_at "aw"
      exact done _ g4
    | false =>
      walk_at "aw"
      refine ⟨st, _, rfl, cs, g4.ok, by omega, by omega, fun m H5 _ _ g5 => ?_⟩
      walk_at "aw"
      refine w_iteB (fun _ => ?_) fun _ => ?_
      · walk_at "aw"
        exact done _ (g4.trans g5)
      · exact kf _ (g4.trans g5) trivial
  · rw [hll] at hkl
    obtain ⟨hfn, hfm⟩ := picked hln hpw hkl
    generalize hF : (ks.map fun k => l.getD k dfl) = firm at hfn hfm
    have hfl : firm.length = ys.length := by rw [← hF, List.length_map, hks]
    have hys : IsAll H3 (firm.map itD) ys := IsAll.of _ _ (by rw [List.length_map]; omega) fun i dt v e1 e2 => by
      rw [← hF, List.map_map, List.getElem?_map] at e1
      obtain ⟨k, z1, rfl⟩ := Option.map_eq_some_iff.mp e1
      obtain ⟨pr, z2, z3⟩ := hR i k v z1 e2
      show Is H3 (itD (l.getD k dfl)) v
      rw [getD_of z2]
      exact z3
    have hf50 : firm.length ≤ 50 := by
      have hns : ks.Nodup := hpw.imp fun h => Nat.ne_of_lt h
      have := nodup_short l.length ks hns hkl
      omega
    have g23 := g2.trans g3
    have nfst := (g2.ok.ne nf).1
    walk_at "aw"
    refine kLcL_some (xs := xs) (SqL.of (g23.keep np hp)) np (by omega) g3.ok (fun k v H => ∃ pr, made[k]? = some pr ∧ Is H (itD pr) v ∧ pr ∉ firm) (fun _ => True) (fun k v H H' t h => by
      obtain ⟨pr, z1, z2, z3⟩ := h
      exact ⟨pr, z1, z2.up t, z3⟩) (fun k x H4 Kt Kf hk g4 kt kf => ?_) fun s H4 ks2 ys2 ns g4 es hks2 hpw2 hkl2 _ hR2 => ?_
    · obtain ⟨dt, z1, hdt⟩ := tp.get hk
      rw [List.getElem?_map] at z1
      obtain ⟨pr, z2, rfl⟩ := Option.map_eq_some_iff.mp z1
      have hm := hmade pr (List.mem_of_getElem? z2)
      have hx4 := hdt.up (g23.trans g4).tk
      walk_at "aw"
      refine ⟨rfl, ?_⟩
      walk_at "aw"
      refine ⟨itD pr, firm.map itD, hx4.dp, .lst (SqL.of (g4.keep nfst ef)) (hys.up g4.tk).dp, it_shaped hm.2.2.1 ⟨hm.2.2.2, hm.1⟩, its_list fun r hr => have z := hmade r (hlsub r (hfm r hr)); ⟨z.2.2.1, z.2.2.2, z.1⟩, ?_⟩
      walk_at "aw"
      cases hb : (firm.map itD).any fun z => PyData.eqv z (itD pr) with
      | true =>
        refine iteF ?_
        exact kf _ (.refl g4.ok) trivial
      | false =>
        refine iteT ?_
        walk_at "aw"
        refine kt _ _ (.refl g4.ok) ⟨pr, z2, hx4, fun hmem => ?_⟩
        rw [List.any_eq_false] at hb
        exact hb (itD pr) (List.mem_map_of_mem hmem) (SeqAt.eqv_refl _ (it_lay hm.2.2.1 ⟨hm.2.2.2, hm.1⟩))
    · rw [hxl] at hkl2
      obtain ⟨hsn, hsm⟩ := picked hnd hpw2 hkl2
      generalize hS : (ks2.map fun k => made.getD k dfl) = soft at hsn hsm
      have hsl : soft.length = ys2.length := by rw [← hS, List.length_map, hks2]
      have hys2 : IsAll H4 (soft.map itD) ys2 := IsAll.of _ _ (by rw [List.length_map]; omega) fun i dt v e1 e2 => by
        rw [← hS, List.map_map, List.getElem?_map] at e1
        obtain ⟨k, z1, rfl⟩ := Option.map_eq_some_iff.mp e1
        obtain ⟨pr, z2, z3, _⟩ := hR2 i k v z1 e2
        show Is H4 (itD (made.getD k dfl)) v
        rw [getD_of z2]
        exact z3
      have hnot : ∀ r ∈ soft, r ∉ firm := fun r hr => by
        obtain ⟨i, hi, rfl⟩ := List.mem_iff_getElem.mp hr
        obtain ⟨v, hv⟩ := get_some (xs := ys2) (i := i) (by omega)
        have hik : i < ks2.length := by omega
        obtain ⟨pr, z2, z3, z4⟩ := hR2 i _ v (List.getElem?_eq_getElem hik) hv
        have e : soft[i] = pr := by
          have : soft[i]? = some pr := by
            rw [← hS, List.getElem?_map, List.getElem?_eq_getElem hik]
            show some (made.getD ks2[i] dfl) = some pr
            rw [getD_of z2]
          rw [List.getElem?_eq_getElem hi] at this
          exact Option.some.inj this
        rw [e]
        exact z4
      have hs50 : soft.length ≤ 50 := by
        have hns : ks2.Nodup := hpw2.imp fun h => Nat.ne_of_lt h
        have := nodup_short made.length ks2 hns hkl2
        omega
      walk_at "aw"
      refine w_lstD (by simp) fun r H5 nr a5 e5 => ?_
      have g5 := g23.trans g4
      refine q r f s firm soft H5 (g5.new a5) e5 nfst (g3.ok.ne ns).1 (g4.ok.ne nr).1 ⟨ys, a5.keep _ _ (fun z => nomatch z) (g4.keep nfst ef), (hys.up g4.tk).up a5.tup⟩ ⟨ys2, a5.keep _ _ (fun z => nomatch z) es, hys2.up a5.tup⟩ ?_ (fun r hr => hlsub r (hfm r hr)) hsm hf50 hs50
      rw [List.nodup_append]
      refine ⟨hfn, hsn, fun a ha b hb e => ?_⟩
      obtain ⟨pa, hpa, rfl⟩ := List.mem_map.mp ha
      obtain ⟨pb, hpb, rfl⟩ := List.mem_map.mp hb
      have := same_name hnd (hlsub pa (hfm pa hpa)) (hsm pb hpb) e
      rw [this] at hpa
      exact hnot pb hpb hpa
end AW
namespace AW
open PySem PySem.Spec PyProof.Rows L2 RZ
local macro_rules | `(tactic| walk_at "aw1") => `(tactic| first
  | (with_reducible refine w_seq ?_) | (with_reducible refine w_asg ?_) | (with_reducible refine w_gname ?_) | (with_reducible refine w_op ?_) | (with_reducible refine w_un ?_)
  | ((with_reducible refine' w_var ?h ?_); (case h => rfl)) | (with_reducible refine w_c ?_)
  | (with_reducible refine w_I0 ?_) | (with_reducible refine w_U ?_) | (with_reducible refine w_cb ?_) | (with_reducible refine w_nil ?_) | (with_reducible refine w_cons ?_) | (with_reducible refine w_call ?_)
  | (with_reducible refine w_test ?_) | (with_reducible refine w_B ?_) | (with_reducible refine w_bl ?_) | (with_reducible refine w_not ?_) | (with_reducible refine w_yes ?_) | (with_reducible refine iteT ?_) | (with_reducible refine iteF ?_) | (with_reducible refine w_and ?_) | (with_reducible refine w_or ?_)
  | (with_reducible refine w_andV ?_) | (with_reducible refine w_orV ?_) | (with_reducible refine w_notV ?_) | (with_reducible refine w_if ?_)
  | (with_reducible refine w_int1 ?_) | (with_reducible refine w_int1b ?_) | (with_reducible refine w_abs ?_) | (with_reducible refine w_max2 ?_) | (with_reducible refine w_min2 ?_)
  | ((with_reducible refine w_eq ?h ?_); (case h => rfl)) | ((with_reducible refine w_ne ?h ?_); (case h => rfl)) | (with_reducible refine w_isN ?_) | (with_reducible refine w_isB ?_) | (with_reducible refine w_chain ?_)
  | (with_reducible refine w_ret ?_) | (with_reducible refine w_drop ?_) | (with_reducible refine w_ifS ?_) | (with_reducible refine w_gsub ?_) | (with_reducible refine w_augS ?_) | (with_reducible refine w_ipI ?_) | (with_reducible refine w_next ?_)
  | (with_reducible refine w_forR ?_) | (with_reducible refine w_forR2 ?_) | (with_reducible refine w_forL ?_) | (with_reducible refine w_forT ?_) | (with_reducible refine w_lcR ?_) | (with_reducible refine w_lcL ?_) | (with_reducible refine w_lcT ?_) | (with_reducible refine w_sl ?_) | (with_reducible refine w_part ?_) | (with_reducible refine w_noPart ?_) | (with_reducible refine w_in ?_)
  | (with_reducible refine w_gcons ?_) | (with_reducible refine w_gnil ?_) | (with_reducible refine w_lc3 ?_) | (with_reducible refine w_dcZ ?_) | (with_reducible refine w_dcT ?_) | (with_reducible refine w_dg ?_) | (with_reducible refine w_callK ?_) | (with_reducible refine w_dput ?_) | (with_reducible refine w_tup1 ?_)
  | (with_reducible refine w_tup ?_) | (with_reducible refine w_lst ?_)
  | ((with_reducible refine w_I ?h ?_); (case h => first | (exact Or.inr ⟨by decide, by decide⟩) | (exact Or.inl ⟨by decide, by decide⟩) | (show (0 : Int) < _; decide) | (exact ⟨by decide, by decide, by decide⟩) | assumption)))
local macro_rules | `(tactic| walk_at "aw") => `(tactic| repeat (walk_at "aw1"))
/-- what the law's models are: their names, their items -/
structure HeldOk (doms : List (Str × List Int)) (firm soft : List (Str × Say)) : Prop where
  dn : (doms.map (·.1)).Nodup
  dl : doms.length ≤ 100
  sn : (firm.map (·.1) ++ soft.map (·.1)).Nodup
  fl : firm.length ≤ 50
  sl : soft.length ≤ 50
  io : ∀ p ∈ firm ++ soft, p.2.ok ∧ ∀ x ∈ p.2.names, x ∈ doms.map (·.1)
def sp__law_are_held (_ : PySem.W.Frag) : Sp := fun vs H Q _ => ∃ (st p f s r : Addr), vs = [.ref st, .ref p, .ref f, .ref s, .ref r] ∧ ∃ (cs : Addr) (doms : List (Str × List Int)) (firm soft : List (Str × Say)) (rows : List (List Int)), StOk st cs H ∧ (p ≠ st ∧ f ≠ st ∧ s ≠ st ∧ r ≠ st) ∧
  LsAt H p (doms.map domD) ∧ LsAt H f (firm.map itD) ∧ LsAt H s (soft.map itD) ∧ LsAt H r (rows.map rowD) ∧ HeldOk doms firm soft ∧ (∀ row ∈ rows, row.length = doms.length) ∧ rows.length ≤ 5000 ∧
  ∀ H', Go st cs H H' → Q (.bl true) H'
def t__law_are_held (K : PySem.W.Frag) : TS := (tSeq (tAsg (tLc (iList K (tVar 3)) (gName 6) tYes (tOp rAddI (tC (.int 1)) (tCall (sp__law_take K) [] E0 (tCons (tVar 0) (tCons (tC (.int 100)) tNil)))) [6]) (gName 5))
  (tSeq (tAsg (tTup (tCons (tThen (tVar 1) (kTup K)) (tCons (tThen (tVar 2) (kTup K)) (tCons (tThen (tLc (iRng1 (tCons (tCB (rLen1 K) (tCons (tVar 3) tNil)) tNil)) (gName 8) tYes (tOp (rCatA K) (tOp (rIxL K) (tVar 3) (tVar 8)) (tTup (tCons (tOp (rIxL K) (tVar 5) (tVar 8)) tNil))) [8]) (kTup K)) tNil)))) (gName 7))
  (tSeq (tFor (iList K (tVar 4)) (gName 9)
  (tSeq (tAsg (tCall (sp__law_world K) [] E0 (tCons (tVar 1) (tCons (tVar 9) tNil))) (gName 10))
  (tSeq (tAsg (tC (.bl true)) (gName 11))
  (tSeq (tFor (iRng1 (tCons (tOp rAddI (tCB (rLen1 K) (tCons (tVar 2) tNil)) (tCB (rLen1 K) (tCons (tVar 3) tNil))) tNil)) (gName 8)
  (tSeq (tAsg (tOp (rIxL K) (tOp rCat (tVar 2) (tVar 3)) (tVar 8)) (gTup K 2 (gCons (gName 12) (gCons (gName 13) gNil))))
  (tSeq (tAsg (tCall (sp__law_holds K 2) [] E0 (tCons (tVar 13) (tCons (tVar 10) tNil))) (gName 14))
  (tSeq (tAsg (tCallK (sp_keeps_saying K) gK E0 tNil (tCons (tVar 7) (tCons (tVar 12) (tCons (tVar 9) tNil)))) (gName 15))
  (tSeq (tIfS (tNot (tB (tCall (sp__law_is_due K) [] E0 (tCons (tVar 15) (tCons (tVar 14) tNil))))) (tRet (tC (.bl false))) tNext)
  (tAsg (tAndV (tVar 11) (tOrV (tVar 14) (tOp rGeI (tVar 8) (tCB (rLen1 K) (tCons (tVar 2) tNil))))) (gName 11)))))))
  (tSeq (tIfS (tOr (tNot (tB (tCall (sp__law_is_due K) [] E0 (tCons (tCall (sp_keeps K) [] E0 (tCons (tVar 7) (tCons (tVar 9) tNil))) (tCons (tVar 11) tNil))))) (tNot (tB (tCall (sp__law_is_due K) [] E0 (tCons (tCallK (sp_keeps K) gK E0 tNil (tCons (tVar 7) (tCons (tVar 9) tNil))) (tCons (tVar 11) tNil)))))) (tRet (tC (.bl false))) tNext)
  (tIfS (tAnd (tTest (tOp rGtI (tCB (rLen1 K) (tCons (tVar 3) tNil)) (tC (.int 0)))) (tNot (tB (tCall (sp__law_is_due K) [] E0 (tCons (tCall (sp_keeps_saying K) [] E0 (tCons (tVar 7) (tCons (tOp (rIxT K) (tOp (rIxL K) (tVar 3) (tC (.int 0))) (tC (.int 0))) (tCons (tVar 9) tNil)))) (tCons (tCall (sp__law_holds K 2) [] E0 (tCons (tOp (rIxT K) (tOp (rIxL K) (tVar 3) (tC (.int 0))) (tC (.int 1))) (tCons (tVar 10) tNil))) tNil)))))) (tRet (tC (.bl false))) tNext))))))
  (tRet (tC (.bl true))))))
theorem len__law_are_held {K : PySem.W.Frag} : ∀ (vs : List V) (H : Hp) (Q : VK) (E : XK), sp__law_are_held K vs H Q E → vs.length = 5 := fun vs H Q E h => by
  obtain ⟨_, _, _, _, _, rfl, _⟩ := h
  rfl
theorem ints_of : ∀ {ys : List V}, (∀ (i : Nat) v, ys[i]? = some v → ∃ n : Int, v = .int n) → ∃ ps : List Int, ys = ps.map V.int
  | [], _ => ⟨[], rfl⟩
  | y :: ys, h => by
    obtain ⟨n, rfl⟩ := h 0 y rfl
    obtain ⟨ps, rfl⟩ := ints_of (ys := ys) fun i v e => h (i + 1) v (by simpa using e)
    exact ⟨n :: ps, rfl⟩
/-- the soft sayings with their prices -/
def priced (soft : List (Str × Say)) (ps : List Int) : List (Str × Say × Int) := List.zipWith (fun q n => (q.1, q.2, n)) soft ps
theorem priced_len {soft : List (Str × Say)} {ps : List Int} (h : ps.length = soft.length) : (priced soft ps).length = soft.length := by
  unfold priced
  rw [List.length_zipWith]
  omega
theorem priced_names {soft : List (Str × Say)} {ps : List Int} (h : ps.length = soft.length) : (priced soft ps).map (fun q => (q.1, q.2.1)) = soft := by
  refine List.ext_getElem? fun i => ?_
  unfold priced
  rw [List.getElem?_map, List.getElem?_zipWith]
  by_cases hi : i < soft.length
  · rw [List.getElem?_eq_getElem hi, List.getElem?_eq_getElem (show i < ps.length by omega)]
    rfl
  · rw [List.getElem?_eq_none (by omega)]
    rfl
theorem held_mod {doms : List (Str × List Int)} {firm soft : List (Str × Say)} {ps : List Int} (h : HeldOk doms firm soft) (hl : ps.length = soft.length) : ModOk doms firm (priced soft ps) := by
  have hn := priced_names hl
  refine ⟨h.dn, h.dl, ?_, by have := h.fl; omega, by rw [priced_len hl]; have := h.sl; omega, fun p hp => h.io p (List.mem_append_left _ hp), fun p hp => ?_⟩
  · have e : (priced soft ps).map (·.1) = soft.map (·.1) := by
      rw [← hn, List.map_map]
      congr 1
      rw [hn]
    rw [e]
    exact h.sn
  · exact h.io (p.1, p.2.1) (List.mem_append_right _ (by
      rw [← hn]
      exact List.mem_map.mpr ⟨p, hp, rfl⟩))
theorem it_parts {H : Hp} {v : V} {p : Str × Say} (h : Is H (itD p) v) : ∃ a sv, v = .ref a ∧ H a = some (.tup [.str p.1, sv]) ∧ Is H (sayD p.2) sv := by
  obtain ⟨a, vs, rfl, e, h⟩ := h.tup_inv
  cases h with
  | cons h1 h =>
    cases h with
    | cons h2 h =>
      cases h
      cases h1
      exact ⟨a, _, rfl, e, h2⟩
theorem all_take {f : Str × Say → Bool} {firm : List (Str × Say)} {k : Nat} {p : Str × Say} (h : firm[k]? = some p) : (firm.take (k + 1)).all f = ((firm.take k).all f && f p) := by
  rw [List.take_add_one, h, List.all_append]
  simp
theorem pure__law_are_held {K : PySem.W.Frag} (vs : List V) (H : Hp) (Q : VK) (E : XK) (h : sp__law_are_held K vs H Q E) : t__law_are_held K { nx := fun _ H' => Q .non H', rt := Q } (start ["state", "doms", "firm", "soft", "fillings", "prices", "one", "model", "k", "filling", "at", "whole", "name", "saying", "due", "told"] vs) H := by
  obtain ⟨st, p, f, s, r, rfl, cs, doms, firm, soft, rows, ok, ⟨np, nf, ns, nr⟩, ⟨xs, hp, tp⟩, ⟨fs, hf, tf⟩, ⟨ss, hs, ts⟩, ⟨rs, hr, tr⟩, hok, hrow, hrl, q⟩ := h
  have hxl : xs.length = doms.length := by rw [tp.length, List.length_map]
  have hfl : fs.length = firm.length := by rw [tf.length, List.length_map]
  have hsl : ss.length = soft.length := by rw [ts.length, List.length_map]
  have hrsl : rs.length = rows.length := by rw [tr.length, List.length_map]
  have hf50 := hok.fl
  have hs50 := hok.sl
  have hd100 := hok.dl
  show t__law_are_held K _ [some (.ref st), some (.ref p), some (.ref f), some (.ref s), some (.ref r), none, none, none, none, none, none, none, none, none, none, none] H
  unfold t__law_are_held
  walk_at "aw"
  refine kLcL_all (xs := ss) (SqL.of hs) ns (by omega) ok (fun _ v _ => ∃ n : Int, v = .int n) (fun _ _ _ _ _ h => h) (fun i x H2 Kt hx g2 kt => ?_) fun pr H1 ys npr g1 epr hyl hyr => ?_
  · walk_at "aw"
    refine ⟨rfl, ?_⟩
    walk_at "aw"
    refine ⟨st, _, rfl, cs, g2.ok, by omega, by omega, fun n H3 _ _ g3 => ?_⟩
    walk_at "aw"
    exact kt _ _ g3 ⟨_, rfl⟩
  obtain ⟨ps, rfl⟩ := ints_of hyr
  rw [List.length_map, hsl] at hyl
  have nprst := (ok.ne npr).1
  walk_at "aw"
  refine w_tupL (SqL.of (g1.keep np hp)) fun tD H2 _ a2 e2 => ?_
  have g2 := g1.new a2
  walk_at "aw"
  refine w_tupL (SqL.of (g2.keep nf hf)) fun tF H3 _ a3 e3 => ?_
  have g3 := g2.new a3
  walk_at "aw"
  refine w_lenL (SqL.of (g3.keep ns hs)) ?_
  walk_at "aw"
  rw [hsl]
  have epr3 : H3 pr = some (.lst (ps.map V.int)) := a3.keep _ _ (fun z => nomatch z) (a2.keep _ _ (fun z => nomatch z) epr)
  refine kLcR_all (n := soft.length) (by omega) g3.ok (fun k v H => ∃ q n, soft[k]? = some q ∧ ps[k]? = some n ∧ Is H (sfD (q.1, q.2, n)) v) (fun k v H H' t h => by
    obtain ⟨q, n, z1, z2, z3⟩ := h
    exact ⟨q, n, z1, z2, z3.up t⟩) (fun k H4 Kt hk g4 kt => ?_) fun sl H4 ys2 nsl g4 esl hyl2 hyr2 => ?_
  · obtain ⟨q, z1⟩ := get_some (xs := soft) hk
    obtain ⟨n, z2⟩ := get_some (xs := ps) (i := k) (by omega)
    obtain ⟨x, z3⟩ := get_some (xs := ss) (i := k) (by omega)
    obtain ⟨dt, z4, hx⟩ := ts.get z3
    rw [List.getElem?_map, z1] at z4
    cases z4
    have g34 := g3.trans g4
    obtain ⟨ia, sv, rfl, ei, hsv⟩ := it_parts (hx.up g34.tk)
    walk_at "aw"
    refine ⟨rfl, ?_⟩
    walk_at "aw"
    refine w_ixL (SqL.of (g34.keep ns hs)) (at_of (j := k) rfl z3) ?_
    walk_at "aw"
    refine w_ixL (SqL.of (g4.keep nprst epr3)) (at_of (j := k) rfl (by rw [List.getElem?_map, z2]; rfl)) ?_
    walk_at "aw"
    refine w_tupD (by simp) fun t1 H5 nt1 a5 e5 => ?_
    refine w_catT' (a5.tup _ _ ei) e5 (by simp) fun t2 H6 a6 e6 => ?_
    exact kt _ _ ((Go.of g4.ok a5).new a6) ⟨q, n, z1, z2, .tup e6 (.cons (.str _) (.cons ((hsv.up a5.tup).up a6.tup) (.cons (.int _) .nil)))⟩
  have hso : IsAll H4 ((priced soft ps).map sfD) ys2 := IsAll.of _ _ (by rw [List.length_map, priced_len hyl, hyl2]) fun i dt v h1 h2 => by
    rw [List.getElem?_map] at h1
    obtain ⟨t, z1, rfl⟩ := Option.map_eq_some_iff.mp h1
    obtain ⟨q, n, z2, z3, z4⟩ := hyr2 i v h2
    unfold priced at z1
    rw [List.getElem?_zipWith, z2, z3] at z1
    cases z1
    exact z4
  walk_at "aw"
  refine w_tupL (SqL.of esl) fun tS H5 _ a5 e5 => ?_
  walk_at "aw"
  refine w_tupD (by simp) fun md H6 _ a6 e6 => ?_
  have g36 := (g4.new a5).new a6
  have g6 : Go st cs H H6 := g3.trans g36
  have hmod : Is H6 (modD doms firm (priced soft ps)) (.ref md) := by
    refine .tup e6 (.cons (.tup (g36.tk _ _ (a3.tup _ _ e2)) (tp.up g6.tk)) (.cons (.tup (g36.tk _ _ e3) (tf.up g6.tk)) (.cons (.tup (a6.tup _ _ e5) ((hso.up a5.tup).up a6.tup)) .nil)))
  have hmo := held_mod hok hyl
  walk_at "aw"
  refine kForL_i (xs := rs) (fun i σ H' => ∃ y8 y9 y10 y11 y12 y13 y14 y15, σ = [some (.ref st), some (.ref p), some (.ref f), some (.ref s), some (.ref r), some (.ref pr), none, some (.ref md), y8, y9, y10, y11, y12, y13, y14, y15] ∧ Go st cs H6 H') (SqL.of (g6.keep nr hr))
    ⟨none, none, none, none, none, none, none, none, rfl, .refl g6.ok⟩ (fun i σ H' _ pp => ?_) (fun i v σ H' hv pp => ?_) fun σ H' pp => ?_
  · obtain ⟨_, _, _, _, _, _, _, _, _, g⟩ := pp
    exact SqL.of ((g6.trans g).keep nr hr)
  · obtain ⟨y8, y9, y10, y11, y12, y13, y14, y15, rfl, g⟩ := pp
    have gH := g6.trans g
    obtain ⟨dt, z1, hrv⟩ := tr.get hv
    rw [List.getElem?_map] at z1
    obtain ⟨row, z2, rfl⟩ := Option.map_eq_some_iff.mp z1
    have hrowl := hrow row (List.mem_of_getElem? z2)
    obtain ⟨ra, rv, rfl, era, trv⟩ := hrv.tup_inv
    have erv := trv.ints_inv
    subst erv
    generalize hw : wOf (doms.map (·.1)) row = w
    walk_at "aw"
    refine ⟨p, ra, rfl, doms, row, ⟨xs, gH.keep np hp, tp.up gH.tk⟩, .inr (SqT.of (gH.tk _ _ era)), hrowl, hok.dn, hd100, fun d H7 a7 nd hd => ?_⟩
    rw [hw] at hd
    have g7 : Go st cs H' H7 := .of g.ok a7
    walk_at "aw"
    have gH7 := gH.trans g7
    refine w_lenL (SqL.of (gH7.keep nf hf)) ?_
    walk_at "aw"
    refine w_lenL (SqL.of (gH7.keep ns hs)) ?_
    walk_at "aw"
    rw [hfl, hsl, show ((firm.length : Nat) : Int) + (soft.length : Nat) = ((firm.length + soft.length : Nat) : Int) by omega]
    have keepsay : ∀ {H8 : Hp} {n : Str} {sy : Say} {Q' : VK}, Go st cs H7 H8 → (n, sy) ∈ firm ++ soft → (∀ H9, Go st cs H8 H9 → Q' (.bl (holdP w sy)) H9) → sp_keeps_saying K [.ref md, .str n, .ref ra] H8 Q' E0 := fun {H8 n sy Q'} g8 hm hq =>
      ⟨.ref md, .ref ra, n, rfl, doms, firm, priced soft ps, sy, row, hmod.up (g.trans (g7.trans g8)).tk, (Is.tup era (IsAll.ints row)).up (gH7.trans g8).tk, hrowl, hmo, by rw [priced_names hyl]; exact hm, fun H9 a9 => by
        rw [hw]
        exact hq H9 (.of g8.ok a9)⟩
    have keepall : ∀ {H8 : Hp} {Q' : VK}, Go st cs H7 H8 → (∀ H9, Go st cs H8 H9 → Q' (.bl (firm.all fun p => holdP w p.2)) H9) → sp_keeps K [.ref md, .ref ra] H8 Q' E0 := fun {H8 Q'} g8 hq =>
      ⟨.ref md, .ref ra, rfl, doms, firm, priced soft ps, row, hmod.up (g.trans (g7.trans g8)).tk, (Is.tup era (IsAll.ints row)).up (gH7.trans g8).tk, hrowl, hmo, fun H9 a9 => by
        rw [hw]
        exact hq H9 (.of g8.ok a9)⟩
    have lawholds : ∀ {H8 : Hp} {v : V} {q : Str × Say} {Q' : VK}, Go st cs H7 H8 → q ∈ firm ++ soft → Is H8 (sayD q.2) v → (∀ H9, Go st cs H8 H9 → Q' (.bl (holdP w q.2)) H9) → sp__law_holds K 2 [v, .ref d] H8 Q' E0 := fun {H8 v q Q'} g8 hm hv hq =>
      ⟨v, d, rfl, q.2, doms.map (·.1), w, hv, hd.go g7.ok g8, (hok.io q hm).1, (hok.io q hm).2, by decide, fun _ => by decide, fun H9 a9 => hq H9 (.of g8.ok a9)⟩
    refine kForR_i (n := firm.length + soft.length) (by omega) (fun k σ H' => ∃ y8 y12 y13 y14 y15, σ = [some (.ref st), some (.ref p), some (.ref f), some (.ref s), some (.ref r), some (.ref pr), none, some (.ref md), y8, some (.ref ra), some (.ref d), some (.bl ((firm.take k).all fun p => holdP w p.2)), y12, y13, y14, y15] ∧ Go st cs H7 H')
      ⟨y8, y12, y13, y14, y15, rfl, .refl g7.ok⟩ (fun k σ H8 hk pp => ?_) fun σ H8 pp => ?_
    · obtain ⟨y8, y12, y13, y14, y15, rfl, g8⟩ := pp
      have gH8 := gH7.trans g8
      obtain ⟨it, z3⟩ := get_some (xs := firm ++ soft) (i := k) (by rw [List.length_append]; exact hk)
      obtain ⟨x, z4⟩ := get_some (xs := fs ++ ss) (i := k) (by rw [List.length_append]; omega)
      have tfs : IsAll H ((firm ++ soft).map itD) (fs ++ ss) := by
        rw [List.map_append]
        exact tf.append ts
      obtain ⟨dt, z5, hx⟩ := tfs.get z4
      rw [List.getElem?_map, z3] at z5
      cases z5
      have hmem := List.mem_of_getElem? z3
      walk_at "aw"
      refine w_cat (gH8.keep nf hf) (gH8.keep ns hs) (by omega) fun j H9 nj a9 e9 => ?_
      have g9 := g8.new a9
      obtain ⟨ia, sv, rfl, ei, hsv⟩ := it_parts (hx.up (gH7.trans g9).tk)
      walk_at "aw"
      refine w_ixL (SqL.of e9) (at_of (j := k) rfl z4) ?_
      refine w_gtup (SqT.of ei) rfl ?_
      walk_at "aw"
      refine lawholds g9 hmem hsv fun H10 g10 => ?_
      have g10' := g9.trans g10
      walk_at "aw"
      refine keepsay g10' hmem fun H11 g11 => ?_
      have g11' := g10'.trans g11
      walk_at "aw"
      refine ⟨_, _, rfl, ?_⟩
      rw [show (holdP w it.2 == holdP w it.2) = true from beq_self_eq_true _]
      walk_at "aw"
      refine iteF ?_
      walk_at "aw"
      have hnext : ((firm.take (k + 1)).all fun p => holdP w p.2) = (((firm.take k).all fun p => holdP w p.2) && (holdP w it.2 || decide ((firm.length : Int) ≤ (k : Nat)))) := by
        by_cases hkf : k < firm.length
        · rw [List.getElem?_append_left hkf] at z3
          rw [all_take z3, decide_eq_false (by omega), Bool.or_false]
        · rw [decide_eq_true (by omega), Bool.or_true, Bool.and_true, List.take_of_length_le (by omega), List.take_of_length_le (by omega)]
      have last : ∀ {H12 : Hp} {b : Bool}, Go st cs H7 H12 → ((firm.take (k + 1)).all fun p => holdP w p.2) = b → ∃ y8 y12 y13 y14 y15, ([some (.ref st), some (.ref p), some (.ref f), some (.ref s), some (.ref r), some (.ref pr), none, some (.ref md), some (.int (k : Nat)), some (.ref ra), some (.ref d), some (.bl b), some (.str it.1), some sv, some (.bl (holdP w it.2)), some (.bl (holdP w it.2))] : L2.St) = [some (.ref st), some (.ref p), some (.ref f), some (.ref s), some (.ref r), some (.ref pr), none, some (.ref md), y8, some (.ref ra), some (.ref d), some (.bl ((firm.take (k + 1)).all fun p => holdP w p.2)), y12, y13, y14, y15] ∧ Go st cs H7 H12 :=
        fun g12 e => ⟨_, _, _, _, _, by rw [e], g12⟩
      cases h1 : (firm.take k).all fun p => holdP w p.2 with
      | false =>
        rw [h1, Bool.false_and] at hnext
        walk_at "aw"
        exact last g11' hnext
      | true =>
        rw [h1, Bool.true_and] at hnext
        walk_at "aw"
        cases h2 : holdP w it.2 with
        | true =>
          rw [h2] at hnext last
          walk_at "aw"
          exact last g11' hnext
        | false =>
          rw [h2, Bool.false_or] at hnext
          rw [h2] at last
          walk_at "aw"
          refine w_lenL (SqL.of ((gH7.trans g11').keep nf hf)) ?_
          rw [hfl]
          walk_at "aw"
          exact last g11' hnext
    · obtain ⟨y8, y12, y13, y14, y15, rfl, g8⟩ := pp
      rw [List.take_of_length_le (show firm.length ≤ firm.length + soft.length by omega)]
      walk_at "aw"
      refine keepall g8 fun H9 g9 => ?_
      walk_at "aw"
      refine ⟨_, _, rfl, ?_⟩
      rw [show ((firm.all fun p => holdP w p.2) == (firm.all fun p => holdP w p.2)) = true from beq_self_eq_true _]
      walk_at "aw"
      refine iteF ?_
      walk_at "aw"
      have g9' := g8.trans g9
      refine keepall g9' fun H10 g10 => ?_
      walk_at "aw"
      refine ⟨_, _, rfl, ?_⟩
      rw [show ((firm.all fun p => holdP w p.2) == (firm.all fun p => holdP w p.2)) = true from beq_self_eq_true _]
      walk_at "aw"
      refine iteF ?_
      walk_at "aw"
      have g10' := g9'.trans g10
      have gH10 := gH7.trans g10'
      refine w_lenL (SqL.of (gH10.keep ns hs)) ?_
      rw [hsl]
      walk_at "aw"
      have back : ∀ {H12 : Hp}, Go st cs H7 H12 → ∃ z8 z9 z10 z11 z12 z13 z14 z15, ([some (.ref st), some (.ref p), some (.ref f), some (.ref s), some (.ref r), some (.ref pr), none, some (.ref md), y8, some (.ref ra), some (.ref d), some (.bl (firm.all fun p => holdP w p.2)), y12, y13, y14, y15] : L2.St) = [some (.ref st), some (.ref p), some (.ref f), some (.ref s), some (.ref r), some (.ref pr), none, some (.ref md), z8, z9, z10, z11, z12, z13, z14, z15] ∧ Go st cs H6 H12 :=
        fun g12 => ⟨_, _, _, _, _, _, _, _, rfl, g.trans (g7.trans g12)⟩
      refine w_iteB (fun h0 => ?_) fun _ => ?_
      · obtain ⟨it, z3⟩ := get_some (xs := soft) (i := 0) (by omega)
        obtain ⟨x, z4⟩ := get_some (xs := ss) (i := 0) (by omega)
        obtain ⟨dt, z5, hx⟩ := ts.get z4
        rw [List.getElem?_map, z3] at z5
        cases z5
        have hmem : it ∈ firm ++ soft := List.mem_append_right _ (List.mem_of_getElem? z3)
        obtain ⟨ia, sv, rfl, ei, hsv⟩ := it_parts (hx.up gH10.tk)
        walk_at "aw"
        refine w_ixL (SqL.of (gH10.keep ns hs)) (at_of (j := 0) rfl z4) ?_
        walk_at "aw"
        refine w_ixT (SqT.of ei) rfl ?_
        walk_at "aw"
        refine keepsay g10' hmem fun H11 g11 => ?_
        have g11' := g10'.trans g11
        walk_at "aw"
        refine w_ixL (SqL.of ((gH7.trans g11').keep ns hs)) (at_of (j := 0) rfl z4) ?_
        walk_at "aw"
        refine w_ixT (SqT.of (g11.tk _ _ ei)) rfl ?_
        walk_at "aw"
        refine lawholds g11' hmem (hsv.up g11.tk) fun H12 g12 => ?_
        walk_at "aw"
        refine ⟨_, _, rfl, ?_⟩
        rw [show (holdP w it.2 == holdP w it.2) = true from beq_self_eq_true _]
        walk_at "aw"
        refine iteF ?_
        walk_at "aw"
        exact back (g11'.trans g12)
      · walk_at "aw"
        exact back g10'
  · obtain ⟨y8, y9, y10, y11, y12, y13, y14, y15, rfl, g⟩ := pp
    walk_at "aw"
    exact q H' (g6.trans g)
end AW
namespace AW
open PySem PySem.Spec PyProof.Rows L2 RZ
local macro_rules | `(tactic| walk_at "aw1") => `(tactic| first
  | (with_reducible refine w_seq ?_) | (with_reducible refine w_asg ?_) | (with_reducible refine w_gname ?_) | (with_reducible refine w_op ?_) | (with_reducible refine w_un ?_)
  | ((with_reducible refine' w_var ?h ?_); (case h => rfl)) | (with_reducible refine w_c ?_)
  | (with_reducible refine w_I0 ?_) | (with_reducible refine w_U ?_) | (with_reducible refine w_cb ?_) | (with_reducible refine w_nil ?_) | (with_reducible refine w_cons ?_) | (with_reducible refine w_call ?_)
  | (with_reducible refine w_test ?_) | (with_reducible refine w_B ?_) | (with_reducible refine w_bl ?_) | (with_reducible refine w_not ?_) | (with_reducible refine w_yes ?_) | (with_reducible refine iteT ?_) | (with_reducible refine iteF ?_) | (with_reducible refine w_and ?_) | (with_reducible refine w_or ?_)
  | (with_reducible refine w_andV ?_) | (with_reducible refine w_orV ?_) | (with_reducible refine w_notV ?_) | (with_reducible refine w_if ?_)
  | (with_reducible refine w_int1 ?_) | (with_reducible refine w_int1b ?_) | (with_reducible refine w_abs ?_) | (with_reducible refine w_max2 ?_) | (with_reducible refine w_min2 ?_)
  | ((with_reducible refine w_eq ?h ?_); (case h => rfl)) | ((with_reducible refine w_ne ?h ?_); (case h => rfl)) | (with_reducible refine w_isN ?_) | (with_reducible refine w_isB ?_) | (with_reducible refine w_chain ?_)
  | (with_reducible refine w_ret ?_) | (with_reducible refine w_drop ?_) | (with_reducible refine w_ifS ?_) | (with_reducible refine w_gsub ?_) | (with_reducible refine w_augS ?_) | (with_reducible refine w_ipI ?_) | (with_reducible refine w_next ?_)
  | (with_reducible refine w_forR ?_) | (with_reducible refine w_forR2 ?_) | (with_reducible refine w_forL ?_) | (with_reducible refine w_forT ?_) | (with_reducible refine w_lcR ?_) | (with_reducible refine w_lcL ?_) | (with_reducible refine w_lcT ?_) | (with_reducible refine w_sl ?_) | (with_reducible refine w_part ?_) | (with_reducible refine w_noPart ?_) | (with_reducible refine w_in ?_)
  | (with_reducible refine w_gcons ?_) | (with_reducible refine w_gnil ?_) | (with_reducible refine w_lc3 ?_) | (with_reducible refine w_dcZ ?_) | (with_reducible refine w_dcT ?_) | (with_reducible refine w_dg ?_) | (with_reducible refine w_callK ?_) | (with_reducible refine w_dput ?_) | (with_reducible refine w_tup1 ?_)
  | (with_reducible refine w_tup ?_) | (with_reducible refine w_lst ?_)
  | ((with_reducible refine w_I ?h ?_); (case h => first | (exact Or.inr ⟨by decide, by decide⟩) | (exact Or.inl ⟨by decide, by decide⟩) | (show (0 : Int) < _; decide) | (exact ⟨by decide, by decide, by decide⟩) | assumption)))
local macro_rules | `(tactic| walk_at "aw") => `(tactic| repeat (walk_at "aw1"))
theorem w_par {i j : Nat} {ta : TA} {D : Ends} {σ : L2.St} {H : Hp} (h : ta σ H fun vs H1 => ∃ v w, vs = [v, w] ∧ D.nx ((σ.set i (some v)).set j (some w)) H1) : tPar i j ta D σ H := h
theorem w_rg {i n : Nat} {σ : L2.St} {H : Hp} {Q : VK} (hn : n ≤ 100000) (hσ : σ[i]? = some (some (.int (n : Nat)))) (q : ∀ r H', H r = none → Adv [] H H' → H' r = some (.lst ((List.range n).map fun k => V.int (k : Nat))) → Q (.ref r) H') : tLstRg (tRg1 (tVar i)) σ H Q := by
  refine ⟨_, hσ, n, rfl, .of_le (by omega) (by omega) (by omega) (by omega), fun p hp => ?_⟩
  have e : rgV 0 (n : Nat) = (List.range n).map fun k => V.int (k : Nat) := by
    unfold rgV
    rw [show ((n : Int) - 0).toNat = n by omega]
    refine List.map_congr_left fun k _ => ?_
    rw [Int.zero_add]
  rw [e]
  exact w_new q p hp
theorem flat_rep {v : V} : ∀ n, (List.replicate n [v]).flatten = List.replicate n v
  | 0 => rfl
  | n + 1 => by rw [List.replicate_succ, List.flatten_cons, flat_rep n]; rfl
theorem w_rep {l : Addr} {v : V} {n : Nat} {H : Hp} {Q : VK} (h : H l = some (.lst [v])) (hn : n ≤ 100000) (q : ∀ r H', H r = none → Adv [] H H' → H' r = some (.lst (List.replicate n v)) → Q (.ref r) H') : rRep (.ref l) (.int (n : Nat)) H Q := by
  refine ⟨l, n, [v], rfl, rfl, h, by omega, by omega, by rw [Int.toNat_natCast]; exact Nat.le_trans (by simpa using hn) (by decide), fun p hp => ?_⟩
  rw [Int.toNat_natCast, flat_rep]
  exact w_new q p hp
theorem w_disp1 {i : Nat} {a : Int} {v : V} {σ : L2.St} {H : Hp} {Q : VK} (hσ : σ[i]? = some (some (.int a))) (q : ∀ d H', H d = none → Adv [] H H' → H' d = some (.dK [(Sum.inl a, v)]) → Q (.ref d) H') : tDisp ((tVar i, tC v) :: []) σ H Q := fun d nd =>
  ⟨_, hσ, upd_same, [(Sum.inl a, v)], rfl, by simp, q d _ nd ((Adv.new nd).mut nd upd_same fun _ z => by cases z) upd_same⟩
theorem at_last {xs : List V} {n : Nat} {v : V} (hl : xs.length = n + 1) (h : xs[n]? = some v) : atI xs (-1) = some v := by
  unfold atI ixN
  rw [if_neg (by omega), if_pos (by omega), Option.bind_some, hl, show ((-1 : Int) + ((n + 1 : Nat) : Int)).toNat = n by omega]
  exact h
theorem IsAll.drop {H : Hp} : ∀ {ds : List PyData} {vs : List V} (_ : IsAll H ds vs) (n : Nat), IsAll H (ds.drop n) (vs.drop n)
  | _, _, h, 0 => h
  | _, _, .nil, _ + 1 => .nil
  | _, _, .cons _ t, n + 1 => IsAll.drop t n
theorem IsAll.take {H : Hp} : ∀ {ds : List PyData} {vs : List V} (_ : IsAll H ds vs) (n : Nat), IsAll H (ds.take n) (vs.take n)
  | _, _, _, 0 => .nil
  | _, _, .nil, _ + 1 => .nil
  | _, _, .cons h t, n + 1 => .cons h (IsAll.take t n)
theorem IsAll.shuf {α : Type} {D : α → PyData} {H : Hp} {vs ws : List V} (p : vs.Perm ws) : ∀ {ls : List α}, IsAll H (ls.map D) vs → ∃ ls' : List α, ls'.Perm ls ∧ IsAll H (ls'.map D) ws := by
  induction p with
  | nil => exact fun {ls} h => ⟨ls, .refl _, h⟩
  | cons x _ ih =>
    intro ls h
    cases ls with
    | nil => cases h
    | cons a ls =>
      cases h with
      | cons h1 h2 =>
        obtain ⟨ls', p1, p2⟩ := ih h2
        exact ⟨a :: ls', p1.cons a, .cons h1 p2⟩
  | swap x y l =>
    intro ls h
    cases ls with
    | nil => cases h
    | cons a ls =>
      cases ls with
      | nil =>
        cases h with
        | cons h1 h2 => cases h2
      | cons b ls =>
        cases h with
        | cons h1 h2 =>
          cases h2 with
          | cons h2 h3 => exact ⟨b :: a :: ls, .swap a b ls, .cons h2 (.cons h1 h3)⟩
  | trans _ _ ih1 ih2 =>
    intro ls h
    obtain ⟨l1, p1, h1⟩ := ih1 h
    obtain ⟨l2, p2, h2⟩ := ih2 h1
    exact ⟨l2, p2.trans p1, h2⟩
/-- the draw's list of ints gives an int -/
theorem int_mem {xs : List Int} {i : Nat} {v : V} (h : (xs.map V.int)[i]? = some v) : ∃ n, v = .int n ∧ n ∈ xs := by
  rw [List.getElem?_map] at h
  obtain ⟨n, z, rfl⟩ := Option.map_eq_some_iff.mp h
  exact ⟨n, rfl, List.mem_of_getElem? z⟩
/-- the place before, around -/
def prev (n k : Nat) : Nat := if k = 0 then n - 1 else k - 1
theorem prev_lt {n k : Nat} (h : k < n) : prev n k < n := by
  unfold prev
  split <;> omega
theorem prev_at {n k : Nat} {xs : List V} {v : V} (h : k < n) (hn : xs.length = n) (hv : xs[prev n k]? = some v) : atI xs ((k : Nat) - 1) = some v := by
  unfold prev at hv
  unfold atI ixN
  by_cases h0 : k = 0
  · rw [if_pos h0] at hv
    rw [if_neg (by omega), if_pos (by omega), Option.bind_some, hn, show ((k : Int) - 1 + (n : Nat)).toNat = n - 1 by omega]
    exact hv
  · rw [if_neg h0] at hv
    rw [if_pos (by omega), if_pos (by omega), Option.bind_some, show ((k : Int) - 1).toNat = k - 1 by omega]
    exact hv
/-- each saying under the name of the one behind it -/
def turn (made : List (Str × Say)) : List (Str × Say) := (List.range made.length).map fun k => ((made.getD k dfl).1, (made.getD (prev made.length k) dfl).2)
theorem turn_len (made : List (Str × Say)) : (turn made).length = made.length := by
  unfold turn
  rw [List.length_map, List.length_range]
theorem turn_get {made : List (Str × Say)} {k : Nat} {a b : Str × Say} (ha : made[k]? = some a) (hb : made[prev made.length k]? = some b) : (turn made)[k]? = some (a.1, b.2) := by
  have hk := (List.getElem?_eq_some_iff.mp ha).1
  unfold turn
  rw [List.getElem?_map, List.getElem?_range hk]
  show some ((made.getD k dfl).1, (made.getD (prev made.length k) dfl).2) = _
  rw [getD_of ha, getD_of hb]
theorem turn_names (made : List (Str × Say)) : (turn made).map (·.1) = made.map (·.1) := by
  refine List.ext_getElem? fun k => ?_
  rw [List.getElem?_map, List.getElem?_map]
  by_cases hk : k < made.length
  · have hp := prev_lt hk
    rw [turn_get (List.getElem?_eq_getElem hk) (List.getElem?_eq_getElem hp), List.getElem?_eq_getElem hk]
    rfl
  · rw [List.getElem?_eq_none (by rw [turn_len]; omega), List.getElem?_eq_none (by omega)]
theorem turn_mem {made : List (Str × Say)} {q : Str × Say} (h : q ∈ turn made) : ∃ p ∈ made, q.2 = p.2 := by
  unfold turn at h
  obtain ⟨k, hk, rfl⟩ := List.mem_map.mp h
  have hp := prev_lt (List.mem_range.mp hk)
  exact ⟨_, List.getElem_mem hp, by rw [getD_of (List.getElem?_eq_getElem hp)]⟩
def sp__law_by_turns (_ : PySem.W.Frag) : Sp := fun vs H Q _ => ∃ (st p md f s r : Addr) (b : V), vs = [.ref st, .ref p, .ref md, .ref f, .ref s, .ref r, b] ∧ ∃ (cs : Addr) (doms : List (Str × List Int)) (made firm soft : List (Str × Say)) (rows : List (List Int)) (base : List Int), StOk st cs H ∧
  (p ≠ st ∧ md ≠ st ∧ f ≠ st ∧ s ≠ st ∧ r ≠ st) ∧ LsAt H p (doms.map domD) ∧ LsAt H md (made.map itD) ∧ LsAt H f (firm.map itD) ∧ LsAt H s (soft.map itD) ∧ LsAt H r (rows.map rowD) ∧ Is H (rowD base) b ∧ HeldOk doms firm soft ∧
  (made.map (·.1)).Nodup ∧ 0 < made.length ∧ made.length ≤ 50 ∧ (∀ q ∈ made, q.2.ok ∧ ∀ x ∈ q.2.names, x ∈ doms.map (·.1)) ∧ (∀ row ∈ rows, row.length = doms.length) ∧ rows.length ≤ 5000 ∧ base.length = doms.length ∧ 0 < doms.length ∧ (∀ q ∈ doms, 0 < q.2.length ∧ q.2.length ≤ 100) ∧
  ∀ H', Go st cs H H' → Q (.bl true) H'
def sp__law_domain (_ : PySem.W.Frag) : Sp := fun vs H Q _ => ∃ (st : Addr) (n : Nat), vs = [.ref st, .int ((n : Nat) + 1)] ∧ ∃ cs, StOk st cs H ∧ n < 1000 ∧ ∀ v (fl : List Int) H', Go st cs H H' → Is H' (rowD fl) v → fl.length = n + 1 → Q v H'
def t__law_by_turns (K : PySem.W.Frag) : TS := (tSeq (tAsg (tOp rCat (tOp rCat (tLst (tCons (tVar 6) tNil)) (tSl (rSlL K) (tVar 5) tNoPart (tPart (tC (.int 2))))) (tLst (tCons (tCall (sp__law_near K) [] E0 (tCons (tVar 0) (tCons (tVar 1) (tCons (tVar 6) tNil)))) tNil))) (gName 7))
  (tSeq (tAsg (tLc (iRng1 (tCons (tCB (rLen1 K) (tCons (tVar 2) tNil)) tNil)) (gName 9) tYes (tTup (tCons (tOp (rIxT K) (tOp (rIxL K) (tVar 2) (tVar 9)) (tC (.int 0))) (tCons (tOp (rIxT K) (tOp (rIxL K) (tVar 2) (tOp rSubI (tVar 9) (tC (.int 1)))) (tC (.int 1))) tNil))) [9]) (gName 8))
  (tSeq (tIfS (tOr (tNot (tB (tCall (sp__law_are_held K) [] E0 (tCons (tVar 0) (tCons (tVar 1) (tCons (tVar 3) (tCons (tVar 4) (tCons (tVar 5) tNil)))))))) (tNot (tB (tCall (sp__law_are_held K) [] E0 (tCons (tVar 0) (tCons (tVar 1) (tCons (tSl (rSlL K) (tVar 8) (tPart (tC (.int 1))) tNoPart) (tCons (tSl (rSlL K) (tVar 8) tNoPart (tPart (tC (.int 1)))) (tCons (tVar 7) tNil))))))))) (tRet (tC (.bl false))) tNext)
  (tRet (tCall (sp__law_are_held K) [] E0 (tCons (tVar 0) (tCons (tVar 1) (tCons (tVar 3) (tCons (tVar 4) (tCons (tVar 7) tNil))))))))))
def t__law_domain (K : PySem.W.Frag) : TS := (tSeq (tAsg (tCall (sp__law_pick K) [] E0 (tCons (tVar 0) (tCons (tLst (tCons (tC (.int 1)) (tCons (tC (.int 1)) (tCons (tC (.int 3)) (tCons (tC (.int 30)) tNil))))) tNil))) (gName 2))
  (tSeq (tAsg (tLst (tCons (tC (.int 0)) tNil)) (gName 3))
  (tSeq (tFor (iRng1 (tCons (tOp rSubI (tVar 1) (tC (.int 1))) tNil)) (gName 4)
  (tDrop (tBM K "list" rAppend (tVar 3) (tCons (tOp rAddI (tOp rAddI (tOp (rIxL K) (tVar 3) (tUn rNeg (tC (.int 1)))) (tC (.int 1))) (tCall (sp__law_take K) [] E0 (tCons (tVar 0) (tCons (tVar 2) tNil)))) tNil))))
  (tSeq (tAsg (tCall (sp__law_pick K) [] E0 (tCons (tVar 0) (tCons (tLst (tCons (tC (.int 0)) (tCons (tOp rDivI (tUn rNeg (tOp (rIxL K) (tVar 3) (tUn rNeg (tC (.int 1))))) (tC (.int 2))) (tCons (tUn rNeg (tC (.int 200))) (tCons (tOp rSubI (tC (.int 200)) (tOp (rIxL K) (tVar 3) (tUn rNeg (tC (.int 1))))) (tCons (tOp rSubI (tCall (sp__law_take K) [] E0 (tCons (tVar 0) (tCons (tC (.int 401)) tNil))) (tC (.int 200))) tNil)))))) tNil))) (gName 5))
  (tSeq (tAsg (tCB rMax2 (tCons (tUn rNeg (tC (.int 200))) (tCons (tCB rMin2 (tCons (tOp rSubI (tC (.int 200)) (tOp (rIxL K) (tVar 3) (tUn rNeg (tC (.int 1))))) (tCons (tVar 5) tNil))) tNil))) (gName 5))
  (tRet (tThen (tLc (iList K (tVar 3)) (gName 6) tYes (tOp rAddI (tVar 5) (tVar 6)) [6]) (kTup K))))))))
theorem len__law_by_turns {K : PySem.W.Frag} : ∀ (vs : List V) (H : Hp) (Q : VK) (E : XK), sp__law_by_turns K vs H Q E → vs.length = 7 := fun vs H Q E h => by
  obtain ⟨_, _, _, _, _, _, _, rfl, _⟩ := h
  rfl
theorem turned_held {doms : List (Str × List Int)} {made : List (Str × Say)} (hd : (doms.map (·.1)).Nodup) (hl : doms.length ≤ 100) (hn : (made.map (·.1)).Nodup) (h50 : made.length ≤ 50) (hm : ∀ q ∈ made, q.2.ok ∧ ∀ x ∈ q.2.names, x ∈ doms.map (·.1)) : HeldOk doms ((turn made).drop 1) ((turn made).take 1) := by
  have hp : ((turn made).drop 1 ++ (turn made).take 1).Perm (turn made) := List.perm_append_comm.trans (by rw [List.take_append_drop])
  refine ⟨hd, hl, ?_, by rw [List.length_drop, turn_len]; omega, by rw [List.length_take, turn_len]; omega, fun q hq => ?_⟩
  · rw [← List.map_append]
    refine (hp.map _).nodup_iff.mpr ?_
    rw [turn_names]
    exact hn
  · obtain ⟨p, h1, h2⟩ := turn_mem (hp.mem_iff.mp hq)
    rw [h2]
    exact hm p h1
theorem pure__law_by_turns {K : PySem.W.Frag} (vs : List V) (H : Hp) (Q : VK) (E : XK) (h : sp__law_by_turns K vs H Q E) : t__law_by_turns K { nx := fun _ H' => Q .non H', rt := Q } (start ["state", "doms", "made", "firm", "soft", "fillings", "base", "few", "turned", "k"] vs) H := by
  obtain ⟨st, p, md, f, s, r, b, rfl, cs, doms, made, firm, soft, rows, base, ok, ⟨np, nm, nf, ns, nr⟩, hp, ⟨ms, hm, tm⟩, hf, hs, ⟨rs, hr, tr⟩, hb, hok, hmn, hm0, hm50, hmok, hrow, hrl, hbl, hd0, hdd, q⟩ := h
  have hml : ms.length = made.length := by rw [tm.length, List.length_map]
  have hrsl : rs.length = rows.length := by rw [tr.length, List.length_map]
  show t__law_by_turns K _ [some (.ref st), some (.ref p), some (.ref md), some (.ref f), some (.ref s), some (.ref r), some b, none, none, none] H
  unfold t__law_by_turns
  walk_at "aw"
  refine w_lstD (by simp) fun l1 H1 nl1 a1 e1 => ?_
  have g1 := Go.of ok a1
  walk_at "aw"
  refine w_slL (SqL.of (g1.keep nr hr)) fun l2 H2 nl2 a2 e2 => ?_
  rw [cut_to _ (by omega)] at e2
  refine w_cat (a2.keep _ _ (fun z => nomatch z) e1) e2 (by rw [List.length_take]; simp; omega) fun l3 H3 nl3 a3 e3 => ?_
  have g3 := (g1.new a2).new a3
  walk_at "aw"
  refine ⟨st, p, b, rfl, cs, doms, base, g3.ok, np, hp.go np g3, hb.up g3.tk, hbl, hd0, hok.dl, hdd, fun v' fl' H4 g4 hv' hfl' => ?_⟩
  have g4' := g3.trans g4
  walk_at "aw"
  refine w_lstD (by simp) fun l5 H5 nl5 a5 e5 => ?_
  have nl3st := (g1.new a2).ok.ne nl3
  refine w_cat (a5.keep _ _ (fun z => nomatch z) (g4.keep nl3st.1 e3)) e5 (by rw [List.length_append, List.length_take]; simp; omega) fun few H6 nfew a6 e6 => ?_
  have g6 := (g4'.new a5).new a6
  have nfewst := (g4'.new a5).ok.ne nfew
  have hfew : LsAt H6 few (((base :: rows.take 2) ++ [fl']).map rowD) := by
    refine ⟨_, e6, ?_⟩
    rw [List.map_append, List.map_cons, List.map_take]
    exact IsAll.append (.cons (hb.up g6.tk) ((tr.take 2).up g6.tk)) (.cons ((hv'.up a5.tup).up a6.tup) .nil)
  have hfewl : ∀ row ∈ (base :: rows.take 2) ++ [fl'], row.length = doms.length := fun row hrw => by
    rcases List.mem_append.mp hrw with h | h
    · rcases List.mem_cons.mp h with h | h
      · rw [h]; exact hbl
      · exact hrow row (List.mem_of_mem_take h)
    · rw [List.mem_singleton.mp h]
      exact hfl'
  have hfewn : ((base :: rows.take 2) ++ [fl']).length ≤ 5000 := by
    rw [List.length_append, List.length_cons, List.length_take]
    simp
    omega
  generalize (base :: rows.take 2) ++ [fl'] = frows at hfew hfewl hfewn
  walk_at "aw"
  refine w_lenL (SqL.of (g6.keep nm hm)) ?_
  rw [hml]
  refine kLcR_all (n := made.length) (by omega) g6.ok (fun k v H => ∃ q, (turn made)[k]? = some q ∧ Is H (itD q) v) (fun k v H H' t h => by
    obtain ⟨q, z1, z2⟩ := h
    exact ⟨q, z1, z2.up t⟩) (fun k H7 Kt hk g7 kt => ?_) fun tu H7 ys ntu g7 etu hyl hyr => ?_
  · have hk2 := prev_lt hk
    obtain ⟨a, za⟩ := get_some (xs := made) hk
    obtain ⟨c, zc⟩ := get_some (xs := made) hk2
    obtain ⟨xa, ya⟩ := get_some (xs := ms) (i := k) (by omega)
    obtain ⟨xc, yc⟩ := get_some (xs := ms) (i := prev made.length k) (by omega)
    obtain ⟨da, z1, ha⟩ := tm.get ya
    rw [List.getElem?_map, za] at z1
    cases z1
    obtain ⟨dc, z2, hc⟩ := tm.get yc
    rw [List.getElem?_map, zc] at z2
    cases z2
    have g67 := g6.trans g7
    obtain ⟨ia, sa, rfl, ea, _⟩ := it_parts (ha.up g67.tk)
    obtain ⟨ic, sc, rfl, ec, hsc⟩ := it_parts (hc.up g67.tk)
    walk_at "aw"
    refine ⟨rfl, ?_⟩
    walk_at "aw"
    refine w_ixL (SqL.of (g67.keep nm hm)) (at_of (j := k) rfl ya) ?_
    walk_at "aw"
    refine w_ixT (SqT.of ea) rfl ?_
    walk_at "aw"
    refine w_ixL (SqL.of (g67.keep nm hm)) (prev_at hk hml yc) ?_
    walk_at "aw"
    refine w_ixT (SqT.of ec) rfl ?_
    walk_at "aw"
    refine w_tupD (by simp) fun t H8 nt a8 e8 => ?_
    exact kt _ _ (Go.of g7.ok a8) ⟨_, turn_get za zc, .tup e8 (.cons (.str _) (.cons (hsc.up a8.tup) .nil))⟩
  have g7' := g6.trans g7
  have ntust := (g6.ok.ne ntu).1
  have htu : IsAll H7 ((turn made).map itD) ys := IsAll.of _ _ (by rw [List.length_map, turn_len, hyl]) fun i d v h1 h2 => by
    rw [List.getElem?_map] at h1
    obtain ⟨q, z1, z2⟩ := hyr i v h2
    rw [z1] at h1
    cases h1
    exact z2
  have hth := turned_held hok.dn hok.dl hmn hm50 hmok
  walk_at "aw"
  refine ⟨st, p, f, s, r, rfl, cs, doms, firm, soft, rows, g7'.ok, ⟨np, nf, ns, nr⟩, hp.go np g7', hf.go nf g7', hs.go ns g7', LsAt.go ⟨rs, hr, tr⟩ nr g7', hok, hrow, hrl, fun H8 g8 => ?_⟩
  walk_at "aw"
  refine iteF ?_
  walk_at "aw"
  have g78 := g7.trans g8
  have g8' := g7'.trans g8
  refine w_slL (SqL.of (g8.keep ntust etu)) fun l9 H9 nl9 a9 e9 => ?_
  rw [cut_from _ (by omega)] at e9
  walk_at "aw"
  refine w_slL (SqL.of (a9.keep _ _ (fun z => nomatch z) (g8.keep ntust etu))) fun l10 H10 nl10 a10 e10 => ?_
  rw [cut_to _ (by omega)] at e10
  have g10 := (g8.new a9).new a10
  have g10' := g7'.trans g10
  walk_at "aw"
  refine ⟨st, p, l9, l10, few, rfl, cs, doms, (turn made).drop 1, (turn made).take 1, frows, g10.ok, ⟨np, (g8.ok.ne nl9).1, ((g8.new a9).ok.ne nl10).1, nfewst.1⟩, hp.go np g10', ⟨_, a10.keep _ _ (fun z => nomatch z) e9, ?_⟩, ⟨_, e10, ?_⟩, hfew.go nfewst.1 (g7.trans g10), hth, hfewl, hfewn, fun H11 g11 => ?_⟩
  · rw [List.map_drop]
    exact (htu.up g10.tk).drop 1
  · rw [List.map_take]
    exact (htu.up g10.tk).take 1
  walk_at "aw"
  refine iteF ?_
  walk_at "aw"
  have g11' := g10'.trans g11
  refine ⟨st, p, f, s, few, rfl, cs, doms, firm, soft, frows, g11.ok, ⟨np, nf, ns, nfewst.1⟩, hp.go np g11', hf.go nf g11', hs.go ns g11', hfew.go nfewst.1 ((g7.trans g10).trans g11), hok, hfewl, hfewn, fun H12 g12 => ?_⟩
  exact q H12 (g11'.trans g12)
theorem len__law_domain {K : PySem.W.Frag} : ∀ (vs : List V) (H : Hp) (Q : VK) (E : XK), sp__law_domain K vs H Q E → vs.length = 2 := fun vs H Q E h => by
  obtain ⟨_, _, rfl, _⟩ := h
  rfl
theorem pure__law_domain {K : PySem.W.Frag} (vs : List V) (H : Hp) (Q : VK) (E : XK) (h : sp__law_domain K vs H Q E) : t__law_domain K { nx := fun _ H' => Q .non H', rt := Q } (start ["state", "size", "wide", "found", "k", "low", "one"] vs) H := by
  obtain ⟨st, n, rfl, cs, ok, hn, q⟩ := h
  show t__law_domain K _ [some (.ref st), some (.int ((n : Nat) + 1)), none, none, none, none, none] H
  unfold t__law_domain
  walk_at "aw"
  refine w_lstD (by simp) fun l0 H1 nl0 a1 e1 => ?_
  have g1 := Go.of ok a1
  walk_at "aw"
  refine ⟨st, l0, rfl, cs, _, g1.ok, .inl ⟨SqL.of e1, (ok.ne nl0).1⟩, by simp, by simp, fun i x H2 hx g2 => ?_⟩
  obtain ⟨wd, rfl, hwd⟩ : ∃ wd : Int, x = .int wd ∧ 0 < wd ∧ wd ≤ 30 := by
    have hxm := List.mem_of_getElem? hx
    simp only [List.mem_cons, List.not_mem_nil, or_false] at hxm
    rcases hxm with h | h | h | h
    · exact ⟨1, h, by omega⟩
    · exact ⟨1, h, by omega⟩
    · exact ⟨3, h, by omega⟩
    · exact ⟨30, h, by omega⟩
  walk_at "aw"
  refine w_lstD (by simp) fun f H3 nf a3 e3 => ?_
  have g3 := (g1.trans g2).new a3
  have nf0 : H f = none := (g1.trans g2).free ok nf
  have nfst := (ok.ne nf0).1
  walk_at "aw"
  rw [show (n : Int) + 1 - 1 = (n : Nat) by omega]
  refine kForR_i (n := n) (by omega) (fun i σ H' => ∃ y4 cur, σ = [some (.ref st), some (.int ((n : Nat) + 1)), some (.int wd), some (.ref f), y4, none, none] ∧ Go st cs H H' ∧ H' f = some (.lst ((cur : List Int).map V.int)) ∧ cur.length = i + 1)
    ⟨none, [0], rfl, g3, e3, rfl⟩ (fun i σ H' hi pp => ?_) fun σ H' pp => ?_
  · obtain ⟨y4, cur, rfl, g, ef, hcl⟩ := pp
    obtain ⟨c, hc⟩ := get_some (xs := cur) (i := i) (by omega)
    walk_at "aw"
    refine w_app rfl ef ?_
    walk_at "aw"
    refine w_ixL (SqL.of ef) (at_last (n := i) (v := .int c) (by rw [List.length_map]; exact hcl) (by rw [List.getElem?_map, hc]; rfl)) ?_
    walk_at "aw"
    refine ⟨st, _, rfl, cs, g.ok, by omega, by omega, fun m H4 _ _ g4 => ?_⟩
    have ef4 := g4.keep nfst ef
    walk_at "aw"
    refine w_append ef4 (by rw [List.length_map]; omega) ?_
    refine ⟨_, cur ++ [c + 1 + m], rfl, (g.trans g4).mutL ok nf0 ef4, ?_, by rw [List.length_append, hcl]; rfl⟩
    rw [upd_same, List.map_append]
    rfl
  · obtain ⟨y4, cur, rfl, g, ef, hcl⟩ := pp
    obtain ⟨c, hc⟩ := get_some (xs := cur) (i := n) (by omega)
    have hlast : atI (cur.map V.int) (-1) = some (.int c) := at_last (n := n) (by rw [List.length_map]; exact hcl) (by rw [List.getElem?_map, hc]; rfl)
    walk_at "aw"
    refine w_ixL (SqL.of ef) hlast ?_
    walk_at "aw"
    refine w_I ⟨by decide, by decide⟩ ?_
    walk_at "aw"
    refine w_ixL (SqL.of ef) hlast ?_
    walk_at "aw"
    refine ⟨st, _, rfl, cs, g.ok, by omega, by omega, fun m H4 _ _ g4 => ?_⟩
    have ef4 := g4.keep nfst ef
    walk_at "aw"
    refine w_lstD (by simp) fun l5 H5 nl5 a5 e5 => ?_
    have g5 := (g.trans g4).new a5
    have ef5 := a5.keep _ _ (fun z => nomatch z) ef4
    walk_at "aw"
    refine ⟨st, l5, rfl, cs, [0, -c / 2, -200, 200 - c, m - 200].map V.int, g5.ok, .inl ⟨SqL.of e5, ((g.trans g4).ok.ne nl5).1⟩, by simp, by simp, fun i x H6 hx g6 => ?_⟩
    obtain ⟨lo, rfl, _⟩ := int_mem hx
    have ef6 := g6.keep nfst ef5
    walk_at "aw"
    refine w_ixL (SqL.of ef6) hlast ?_
    walk_at "aw"
    have g6' := g5.trans g6
    refine kLcL_all (SqL.of ef6) nfst (by rw [List.length_map]; omega) g6'.ok (fun _ v _ => ∃ n : Int, v = .int n) (fun _ _ _ _ _ h => h) (fun i x H7 Kt hx g7 kt => ?_) fun r H7 ys nr g7 er hyl hyr => ?_
    · obtain ⟨o, rfl, _⟩ := int_mem hx
      walk_at "aw"
      refine ⟨rfl, ?_⟩
      walk_at "aw"
      exact kt _ _ (.refl g7.ok) ⟨_, rfl⟩
    · obtain ⟨ps, rfl⟩ := ints_of hyr
      rw [List.length_map, List.length_map, hcl] at hyl
      refine w_tupL (SqL.of er) fun t H8 nt a8 e8 => ?_
      exact q _ ps H8 ((g6'.trans g7).new a8) (.tup e8 (IsAll.ints _)) hyl
end AW
namespace AW
open PySem PySem.Spec PyProof.Rows L2 RZ
local macro_rules | `(tactic| walk_at "aw1") => `(tactic| first
  | (with_reducible refine w_seq ?_) | (with_reducible refine w_asg ?_) | (with_reducible refine w_gname ?_) | (with_reducible refine w_op ?_) | (with_reducible refine w_un ?_)
  | ((with_reducible refine' w_var ?h ?_); (case h => rfl)) | (with_reducible refine w_c ?_)
  | (with_reducible refine w_I0 ?_) | (with_reducible refine w_U ?_) | (with_reducible refine w_cb ?_) | (with_reducible refine w_nil ?_) | (with_reducible refine w_cons ?_) | (with_reducible refine w_call ?_)
  | (with_reducible refine w_test ?_) | (with_reducible refine w_B ?_) | (with_reducible refine w_bl ?_) | (with_reducible refine w_not ?_) | (with_reducible refine w_yes ?_) | (with_reducible refine iteT ?_) | (with_reducible refine iteF ?_) | (with_reducible refine w_and ?_) | (with_reducible refine w_or ?_)
  | (with_reducible refine w_andV ?_) | (with_reducible refine w_orV ?_) | (with_reducible refine w_notV ?_) | (with_reducible refine w_if ?_)
  | (with_reducible refine w_int1 ?_) | (with_reducible refine w_int1b ?_) | (with_reducible refine w_abs ?_) | (with_reducible refine w_max2 ?_) | (with_reducible refine w_min2 ?_)
  | ((with_reducible refine w_eq ?h ?_); (case h => rfl)) | ((with_reducible refine w_ne ?h ?_); (case h => rfl)) | (with_reducible refine w_isN ?_) | (with_reducible refine w_isB ?_) | (with_reducible refine w_chain ?_)
  | (with_reducible refine w_ret ?_) | (with_reducible refine w_drop ?_) | (with_reducible refine w_ifS ?_) | (with_reducible refine w_gsub ?_) | (with_reducible refine w_augS ?_) | (with_reducible refine w_ipI ?_) | (with_reducible refine w_next ?_)
  | (with_reducible refine w_forR ?_) | (with_reducible refine w_forR2 ?_) | (with_reducible refine w_forL ?_) | (with_reducible refine w_forT ?_) | (with_reducible refine w_lcR ?_) | (with_reducible refine w_lcL ?_) | (with_reducible refine w_lcT ?_) | (with_reducible refine w_sl ?_) | (with_reducible refine w_part ?_) | (with_reducible refine w_noPart ?_) | (with_reducible refine w_in ?_)
  | (with_reducible refine w_gcons ?_) | (with_reducible refine w_gnil ?_) | (with_reducible refine w_lc3 ?_) | (with_reducible refine w_dcZ ?_) | (with_reducible refine w_dcT ?_) | (with_reducible refine w_dg ?_) | (with_reducible refine w_callK ?_) | (with_reducible refine w_dput ?_) | (with_reducible refine w_tup1 ?_)
  | (with_reducible refine w_tup ?_) | (with_reducible refine w_lst ?_)
  | ((with_reducible refine w_I ?h ?_); (case h => first | (exact Or.inr ⟨by decide, by decide⟩) | (exact Or.inl ⟨by decide, by decide⟩) | (show (0 : Int) < _; decide) | (exact ⟨by decide, by decide, by decide⟩) | assumption)))
local macro_rules | `(tactic| walk_at "aw") => `(tactic| repeat (walk_at "aw1"))
theorem strs_of : ∀ {ys : List V}, (∀ (i : Nat) v, ys[i]? = some v → ∃ n : Str, v = .str n) → ∃ ps : List Str, ys = ps.map V.str
  | [], _ => ⟨[], rfl⟩
  | y :: ys, h => by
    obtain ⟨n, rfl⟩ := h 0 y rfl
    obtain ⟨ps, rfl⟩ := strs_of (ys := ys) fun i v e => h (i + 1) v (by simpa using e)
    exact ⟨n :: ps, rfl⟩
def SG : Str := "abcdefghijklmnopqrstuvwxyz0123456789."
def SGl : List Nat := SG.cps.toList
theorem SG_len : SGl.length = 37 := by decide +kernel
theorem SG_nd : SGl.Nodup := by decide +kernel
theorem SG_ok : ∀ c ∈ SGl, c < 0x110000 := by decide +kernel
theorem SG_size : SG.length ≤ sizeLine := by decide +kernel
theorem w_sign {i : Int} {H : Hp} {Q : VK} (h0 : 0 ≤ i) (h1 : i < 37) (q : ∀ c, SGl[i.toNat]? = some c → Q (.str ⟨#[c]⟩) H) : rIxS (.str SG) (.int i) H Q := by
  obtain ⟨c, hc⟩ := get_some (xs := SGl) (i := i.toNat) (by rw [SG_len]; omega)
  refine ⟨SG, i, c, rfl, rfl, SG_size, ?_, q c hc⟩
  have e : SG.cps.toList.length = 37 := SG_len
  unfold atI ixN
  rw [e, if_pos h0, if_pos (show i < ((37 : Nat) : Int) from h1), Option.bind_some]
  exact hc
theorem w_addS {x y : Str} {H : Hp} {Q : VK} (h : x.length + y.length ≤ 100000) (q : Q (.str (x ++ y)) H) : rAddS (.str x) (.str y) H Q := ⟨x, y, rfl, rfl, Nat.le_trans h (by decide), q⟩
theorem w_slS {x : Str} {lo hi : Option Int} {H : Hp} {Q : VK} (h : x.length ≤ 100000) (q : Q (.str (cutS x lo hi)) H) : rSlS (.str x) lo hi H Q := ⟨x, rfl, Nat.le_trans h (by decide), q⟩
theorem w_str {i : Int} {H : Hp} {Q : VK} (h : i.natAbs < 1000) (q : Q (.str (Str.ofString (toString i))) H) : rStr1 [.int i] H Q := ⟨i, rfl, by have := Nat.log2_le_self i.natAbs; omega, q⟩
theorem okS_app {x y : Str} (h1 : okS x) (h2 : okS y) : okS (x ++ y) := by
  unfold okS at *
  show ((x.cps ++ y.cps).all _) = true
  rw [Array.all_append, h1, h2]
  rfl
theorem okS_iff {x : Str} : okS x ↔ ∀ c ∈ x.cps.toList, c < 0x110000 := by
  unfold okS
  rw [← Array.all_toList, List.all_eq_true]
  simp
theorem okS_cut {x : Str} {lo hi : Option Int} (h : okS x) : okS (cutS x lo hi) := by
  rw [okS_iff] at h ⊢
  intro c hc
  exact h c (List.mem_of_mem_drop (List.mem_of_mem_take hc))
theorem okS_one {c : Nat} (h : c < 0x110000) : okS ⟨#[c]⟩ := by
  rw [okS_iff]
  intro d hd
  rw [List.mem_singleton.mp hd]
  exact h
theorem len_app {x y : Str} : (x ++ y).length = x.length + y.length := Array.size_append
theorem len_one {c : Nat} : (⟨#[c]⟩ : Str).length = 1 := rfl
theorem lst_app {x y : Str} : (x ++ y).cps.toList = x.cps.toList ++ y.cps.toList := Array.toList_append
theorem lst_one {c : Nat} : (⟨#[c]⟩ : Str).cps.toList = [c] := rfl
theorem join_ok : ∀ ws : List Str, (∀ x ∈ ws, okS x ∧ x.length = 1) → okS (Str.join "" ws) ∧ (Str.join "" ws).length ≤ ws.length
  | [], _ => ⟨by unfold okS; decide +kernel, Nat.le_refl _⟩
  | [x], h => ⟨(h x (List.mem_singleton.mpr rfl)).1, by rw [show Str.join "" [x] = x from rfl, (h x (List.mem_singleton.mpr rfl)).2]; exact Nat.le_refl _⟩
  | x :: y :: ws, h => by
    obtain ⟨h1, h2⟩ := join_ok (y :: ws) fun z hz => h z (List.mem_cons_of_mem _ hz)
    have hx := h x (List.mem_cons_self ..)
    have e : Str.join "" (x :: y :: ws) = x ++ "" ++ Str.join "" (y :: ws) := rfl
    rw [e]
    refine ⟨okS_app (okS_app hx.1 (by unfold okS; decide +kernel)) h1, ?_⟩
    rw [len_app, len_app, hx.2, show (Str.ofString "").length = 0 from by decide +kernel, List.length_cons]
    omega
def SK (k : Int) : Str := Str.ofString (toString k)
def tail2 (k : Nat) : List Nat := (Str.ofString ".").cps.toList ++ ((SK ((k : Int) / 3)).cps.toList ++ ((Str.ofString ".").cps.toList ++ (SK ((k : Int) % 3)).cps.toList))
theorem tail2_inj : ∀ k < 37, ∀ j < 37, tail2 k = tail2 j → k = j := by decide +kernel
theorem SK_ok : ∀ k < 37, okS (SK (k : Nat)) ∧ okS (SK (((k : Nat) : Int) / 3)) ∧ okS (SK (((k : Nat) : Int) % 3)) := by unfold okS; decide +kernel
theorem SK_len : ∀ k < 37, (SK (k : Nat)).length ≤ 2 ∧ (SK (((k : Nat) : Int) / 3)).length ≤ 2 ∧ (SK (((k : Nat) : Int) % 3)).length ≤ 2 := by decide +kernel
theorem mul37 : ∀ t < 37, ∀ d < 37, 0 < t → (t * d) % 37 = 0 → d = 0 := by decide +kernel
theorem step37' {s t : Int} {k j : Nat} (ht : 0 < t ∧ t < 37) (hk : k < 37) (hkj : j ≤ k) (h : (s + t * (k : Nat)) % 37 = (s + t * (j : Nat)) % 37) : k = j := by
  have h1 := Int.emod_eq_emod_iff_emod_sub_eq_zero.mp h
  obtain ⟨d, rfl⟩ := Nat.exists_eq_add_of_le hkj
  obtain ⟨u, rfl⟩ := Int.eq_ofNat_of_zero_le (show 0 ≤ t by omega)
  have h2 : s + (u : Int) * ((j + d : Nat) : Int) - (s + (u : Int) * (j : Nat)) = ((u * d : Nat) : Int) := by
    rw [Int.natCast_add, Int.mul_add, Int.natCast_mul]
    omega
  rw [h2] at h1
  have := mul37 u (by omega) d (by omega) (by omega) (by omega)
  omega
theorem step37 {s t : Int} {k j : Nat} (ht : 0 < t ∧ t < 37) (hk : k < 37) (hj : j < 37) (h : (s + t * (k : Nat)) % 37 = (s + t * (j : Nat)) % 37) : k = j := by
  rcases Nat.le_total j k with h1 | h1
  · exact step37' ht hk h1 h
  · exact (step37' ht hj h1 h.symm).symm
/-- what the k-th name is -/
structure PN (style start step : Int) (A A2 : List Nat) (k : Nat) (nm : Str) : Prop where
  ok : okS nm
  p1 : style ≠ 2 → ∃ c B, SGl[((start + step * (k : Nat)) % 37).toNat]? = some c ∧ nm.cps.toList = A ++ c :: B
  p2 : style = 2 → nm.cps.toList = A2 ++ tail2 k
theorem PN.inj {style start step : Int} {A A2 : List Nat} {k j : Nat} {nm : Str} (ht : 0 < step ∧ step < 37) (hk : k < 37) (hj : j < 37) (a : PN style start step A A2 k nm) (b : PN style start step A A2 j nm) : k = j := by
  by_cases h : style = 2
  · have e := (a.p2 h).symm.trans (b.p2 h)
    exact tail2_inj k hk j hj (List.append_cancel_left e)
  · obtain ⟨c, B, h1, h2⟩ := a.p1 h
    obtain ⟨c', B', h3, h4⟩ := b.p1 h
    have e := List.append_cancel_left (h2.symm.trans h4)
    have e1 : c = c' := (List.cons.inj e).1
    subst e1
    have := nodup_inj SG_nd h1 h3
    refine step37 (s := start) ht hk hj ?_
    have q1 := Int.emod_nonneg (start + step * (k : Nat)) (show (37 : Int) ≠ 0 by decide)
    have q2 := Int.emod_nonneg (start + step * (j : Nat)) (show (37 : Int) ≠ 0 by decide)
    omega
def sp__law_names (_ : PySem.W.Frag) : Sp := fun vs H Q _ => ∃ (st : Addr) (n : Nat), vs = [.ref st, .int (n : Nat)] ∧ ∃ cs, StOk st cs H ∧ n ≤ 37 ∧ ∀ r (names : List Str) H', Go st cs H H' → H r = none → H' r = some (.lst (names.map V.str)) → names.length = n → names.Nodup → (∀ x ∈ names, okS x) → Q (.ref r) H'
def t__law_names (K : PySem.W.Frag) : TS := (tSeq (tAsg (tC (.str "abcdefghijklmnopqrstuvwxyz0123456789.")) (gName 2))
  (tSeq (tAsg (tCall (sp__law_take K) [] E0 (tCons (tVar 0) (tCons (tC (.int 4)) tNil))) (gName 3))
  (tSeq (tPar 4 5 (tCons (tCall (sp__law_take K) [] E0 (tCons (tVar 0) (tCons (tC (.int 37)) tNil))) (tCons (tOp rAddI (tC (.int 1)) (tCall (sp__law_take K) [] E0 (tCons (tVar 0) (tCons (tC (.int 36)) tNil)))) tNil)))
  (tSeq (tAsg (tM1 (rJoin K) (tC (.str "")) (tLc (iRng1 (tCons (tC (.int 24)) tNil)) (gName 7) tYes (tOp rIxS (tVar 2) (tCall (sp__law_take K) [] E0 (tCons (tVar 0) (tCons (tC (.int 37)) tNil)))) [7])) (gName 6))
  (tSeq (tPar 8 9 (tCons (tCall (sp__law_take K) [] E0 (tCons (tVar 0) (tCons (tC (.int 12)) tNil))) (tCons (tOp rAddI (tC (.int 12)) (tCall (sp__law_take K) [] E0 (tCons (tVar 0) (tCons (tC (.int 12)) tNil)))) tNil)))
  (tSeq (tAsg (tLst tNil) (gName 10))
  (tSeq (tFor (iRng1 (tCons (tVar 1) tNil)) (gName 7)
  (tSeq (tAsg (tOp rIxS (tVar 2) (tOp rModI (tCB rInt1 (tCons (tOp rAddI (tVar 4) (tOp rMulI (tVar 5) (tVar 7))) tNil)) (tC (.int 37)))) (gName 11))
  (tSeq (tAsg (tOp rAddS (tOp rAddS (tOp rAddS (tOp rAddS (tSl rSlS (tVar 6) tNoPart (tPart (tVar 8))) (tVar 11)) (tSl rSlS (tVar 6) (tPart (tOp rAddI (tVar 8) (tC (.int 1)))) (tPart (tVar 9)))) (tOp rIxS (tVar 2) (tOp rDivI (tVar 7) (tC (.int 37))))) (tSl rSlS (tVar 6) (tPart (tOp rAddI (tVar 9) (tC (.int 1)))) tNoPart)) (gName 12))
  (tSeq (tIfS (tTest (tOp rEq (tVar 3) (tC (.int 0)))) (tAsg (tOp rAddS (tVar 11) (tOp rRepS (tOp rIxS (tVar 2) (tOp rDivI (tVar 7) (tC (.int 37)))) (tCB rInt1 (tCons (tOp rGtI (tVar 1) (tC (.int 37))) tNil)))) (gName 12)) (tIfS (tTest (tOp rEq (tVar 3) (tC (.int 1)))) (tAsg (tOp rAddS (tOp rAddS (tSl rSlS (tVar 6) tNoPart (tPart (tVar 8))) (tVar 11)) (tCB rStr1 (tCons (tVar 7) tNil))) (gName 12)) (tIfS (tTest (tOp rEq (tVar 3) (tC (.int 2)))) (tAsg (tOp rAddS (tOp rAddS (tOp rAddS (tOp rAddS (tSl rSlS (tVar 6) tNoPart (tPart (tOp rAddI (tC (.int 1)) (tOp rDivI (tVar 8) (tC (.int 4)))))) (tC (.str "."))) (tCB rStr1 (tCons (tOp rDivI (tVar 7) (tC (.int 3))) tNil))) (tC (.str "."))) (tCB rStr1 (tCons (tOp rModI (tCB rInt1 (tCons (tVar 7) tNil)) (tC (.int 3))) tNil))) (gName 12)) tNext)))
  (tDrop (tBM K "list" rAppend (tVar 10) (tCons (tVar 12) tNil)))))))
  (tRet (tCall (sp__law_shuffled K) [] E0 (tCons (tVar 0) (tCons (tVar 10) tNil)))))))))))
theorem len__law_names {K : PySem.W.Frag} : ∀ (vs : List V) (H : Hp) (Q : VK) (E : XK), sp__law_names K vs H Q E → vs.length = 2 := fun vs H Q E h => by
  obtain ⟨_, _, rfl, _⟩ := h
  rfl
theorem w_m1 {r : V → List V → Hp → VK → Prop} {to te : TE} {σ : L2.St} {H : Hp} {Q : VK} (h : to σ H fun x H1 => (∃ a, x = .str a) ∧ te σ H1 fun y H2 => r x [y] H2 Q) : tM1 r to te σ H Q := h
theorem w_join {c : Bool} {ta tb : TE} {σ : L2.St} {H : Hp} {Q : VK} (R : V → Hp → Prop) (h1 : ∀ Q' : VK, c = true → (∀ v H', R v H' → Q' v H') → ta σ H Q') (h2 : ∀ Q' : VK, c = false → (∀ v H', R v H' → Q' v H') → tb σ H Q') (hq : ∀ v H', R v H' → Q v H') : if c = true then ta σ H Q else tb σ H Q := by
  cases c with
  | true => exact iteT (h1 Q rfl hq)
  | false => exact iteF (h2 Q rfl hq)
theorem pure__law_names {K : PySem.W.Frag} (vs : List V) (H : Hp) (Q : VK) (E : XK) (h : sp__law_names K vs H Q E) : t__law_names K { nx := fun _ H' => Q .non H', rt := Q } (start ["state", "many", "signs", "style", "start", "step", "word", "k", "one", "two", "found", "first", "name"] vs) H := by
  obtain ⟨st, n, rfl, cs, ok, hn, q⟩ := h
  show t__law_names K _ [some (.ref st), some (.int (n : Nat)), none, none, none, none, none, none, none, none, none, none, none] H
  unfold t__law_names
  walk_at "aw"
  refine ⟨st, _, rfl, cs, ok, by omega, by omega, fun style H1 hs0 hs4 g1 => ?_⟩
  walk_at "aw"
  refine w_par ?_
  walk_at "aw"
  refine ⟨st, _, rfl, cs, g1.ok, by omega, by omega, fun sta H2 _ _ g2 => ?_⟩
  walk_at "aw"
  refine ⟨st, _, rfl, cs, g2.ok, by omega, by omega, fun ste H3 hst0 hst1 g3 => ?_⟩
  walk_at "aw"
  refine ⟨_, _, rfl, ?_⟩
  have g13 := (g1.trans g2).trans g3
  walk_at "aw"
  refine w_m1 ?_
  walk_at "aw"
  refine ⟨⟨_, rfl⟩, ?_⟩
  walk_at "aw"
  refine kLcR_all (n := 24) (by omega) g13.ok (fun _ v _ => ∃ x : Str, v = .str x ∧ okS x ∧ x.length = 1) (fun _ _ _ _ _ h => h) (fun k H4 Kt hk g4 kt => ?_) fun wl H4 ys nwl g4 ewl hyl hyr => ?_
  · walk_at "aw"
    refine ⟨rfl, ?_⟩
    walk_at "aw"
    refine ⟨st, _, rfl, cs, g4.ok, by omega, by omega, fun m H5 hm0 hm1 g5 => ?_⟩
    refine w_sign hm0 hm1 fun c hc => ?_
    exact kt _ _ g5 ⟨_, rfl, okS_one (SG_ok c (List.mem_of_getElem? hc)), rfl⟩
  obtain ⟨ws, rfl⟩ := strs_of (ys := ys) fun i v h => by
    obtain ⟨x, rfl, _⟩ := hyr i v h
    exact ⟨x, rfl⟩
  have hws : ∀ x ∈ ws, okS x ∧ x.length = 1 := fun x hx => by
    obtain ⟨i, hi, rfl⟩ := List.mem_iff_getElem.mp hx
    obtain ⟨y, e, h⟩ := hyr i (.str ws[i]) (by rw [List.getElem?_map, List.getElem?_eq_getElem hi]; rfl)
    rw [V.str.inj e]
    exact h
  rw [List.length_map] at hyl
  have g4' := g13.trans g4
  obtain ⟨hwok, hwl⟩ := join_ok ws hws
  rw [← TL.join_eq] at hwok hwl
  have hsum : ∀ l : List Str, (∀ x ∈ l, okS x ∧ x.length = 1) → (l.map (·.length)).sum = l.length := fun l => by
    induction l with
    | nil => exact fun _ => rfl
    | cons a l ih =>
      intro h
      rw [List.map_cons, List.sum_cons, ih fun x hx => h x (List.mem_cons_of_mem _ hx), (h a (List.mem_cons_self ..)).2, List.length_cons]
      omega
  refine ⟨Str.ofString "", wl, ws, rfl, rfl, .inl (SqL.of ewl), by rw [hsum ws hws, show (Str.ofString "").length = 0 from by decide +kernel]; omega, ?_⟩
  generalize Txt.join (Str.ofString "") ws = word at hwok hwl
  walk_at "aw"
  refine w_par ?_
  walk_at "aw"
  refine ⟨st, _, rfl, cs, g4'.ok, by omega, by omega, fun one H5 ho0 ho1 g5 => ?_⟩
  walk_at "aw"
  refine ⟨st, _, rfl, cs, g5.ok, by omega, by omega, fun two H6 ht0 ht1 g6 => ?_⟩
  walk_at "aw"
  refine ⟨_, _, rfl, ?_⟩
  walk_at "aw"
  have g46 := (g4'.trans g5).trans g6
  refine w_lstD (by simp) fun f H7 nf a7 e7 => ?_
  have g7 := g46.new a7
  have nf0 : H f = none := g46.free ok nf
  have nfst := (ok.ne nf0).1
  walk_at "aw"
  have hcut : ∀ lo hi, (cutS word lo hi).length ≤ 24 := fun lo hi => by
    have := cutS_length word lo hi
    omega
  have hcok : ∀ {lo hi : Option Int}, okS (cutS word lo hi) := fun {lo hi} => okS_cut hwok
  have hste : (0 : Int) < 1 + ste ∧ 1 + ste < 37 := by omega
  refine kForR_i (n := n) (by omega) (fun i σ H' => ∃ y7 y11 y12 nms, σ = [some (.ref st), some (.int (n : Nat)), some (.str SG), some (.int style), some (.int sta), some (.int (1 + ste)), some (.str word), y7, some (.int one), some (.int (12 + two)), some (.ref f), y11, y12] ∧ Go st cs H H' ∧ H' f = some (.lst ((nms : List Str).map V.str)) ∧ nms.length = i ∧
      ∀ (j : Nat) nm, nms[j]? = some nm → PN style sta (1 + ste) (if style = 0 then [] else (cutS word none (some one)).cps.toList) (cutS word none (some (1 + one / 4))).cps.toList j nm)
    ⟨none, none, none, [], rfl, g7, e7, rfl, fun j nm h => nomatch h⟩ (fun i σ H' hi pp => ?_) fun σ H' pp => ?_
  · obtain ⟨y7, y11, y12, nms, rfl, g, ef, hnl, hpn⟩ := pp
    have hi37 : i < 37 := by omega
    have h1 := hcut none (some one)
    have h2 := hcut (some (one + 1)) (some (12 + two))
    have h3 := hcut (some (12 + two + 1)) none
    have h4 := hcut none (some (1 + one / 4))
    have hdot : (Str.ofString ".").length = 1 := by decide +kernel
    have hdok : okS (Str.ofString ".") := by unfold okS; decide +kernel
    have hsk := SK_len i hi37
    have hskok := SK_ok i hi37
    unfold SK at hsk hskok
    have fin : ∀ {c1 : V} {nm : Str}, PN style sta (1 + ste) (if style = 0 then [] else (cutS word none (some one)).cps.toList) (cutS word none (some (1 + one / 4))).cps.toList i nm →
        ∃ y7 y11 y12 nmz, ([some (.ref st), some (.int (n : Nat)), some (.str SG), some (.int style), some (.int sta), some (.int (1 + ste)), some (.str word), some (.int (i : Nat)), some (.int one), some (.int (12 + two)), some (.ref f), some c1, some (.str nm)] : L2.St) = [some (.ref st), some (.int (n : Nat)), some (.str SG), some (.int style), some (.int sta), some (.int (1 + ste)), some (.str word), y7, some (.int one), some (.int (12 + two)), some (.ref f), y11, y12] ∧
          Go st cs H (upd H' f (.lst (List.map V.str nms ++ [V.str nm]))) ∧ (upd H' f (.lst (List.map V.str nms ++ [V.str nm]))) f = some (.lst ((nmz : List Str).map V.str)) ∧ nmz.length = i + 1 ∧
          ∀ (j : Nat) nm, nmz[j]? = some nm → PN style sta (1 + ste) (if style = 0 then [] else (cutS word none (some one)).cps.toList) (cutS word none (some (1 + one / 4))).cps.toList j nm := fun {c1 nm} hp =>
      ⟨_, _, _, nms ++ [nm], rfl, g.mutL ok nf0 ef, by rw [upd_same, List.map_append]; rfl, by rw [List.length_append, hnl]; rfl, fun j x hx => by
        by_cases hj : j < nms.length
        · rw [List.getElem?_append_left hj] at hx
          exact hpn j x hx
        · rw [List.getElem?_append_right (by omega)] at hx
          have hj0 : j - nms.length = 0 := by
            have := (List.getElem?_eq_some_iff.mp hx).1
            simp at this
            omega
          rw [hj0] at hx
          cases hx
          rw [show j = i by omega]
          exact hp⟩
    walk_at "aw"
    refine w_I (.inl ⟨by omega, by omega⟩) ?_
    walk_at "aw"
    refine w_sign (Int.emod_nonneg _ (by decide)) (Int.emod_lt_of_pos _ (by decide)) fun c hc => ?_
    have hcok1 := okS_one (SG_ok c (List.mem_of_getElem? hc))
    walk_at "aw"
    refine w_slS (by omega) ?_
    walk_at "aw"
    refine w_addS (by rw [len_one]; omega) ?_
    walk_at "aw"
    refine w_slS (by omega) ?_
    refine w_addS (by simp only [len_app, len_one]; omega) ?_
    walk_at "aw"
    refine w_I ⟨by decide, by decide⟩ ?_
    refine w_sign (by omega) (by omega) fun c2 hc2 => ?_
    have hcok2 := okS_one (SG_ok c2 (List.mem_of_getElem? hc2))
    refine w_addS (by simp only [len_app, len_one]; omega) ?_
    walk_at "aw"
    refine w_slS (by omega) ?_
    refine w_addS (by simp only [len_app, len_one]; omega) ?_
    walk_at "aw"
    refine w_iteB (fun hs => ?_) fun hs => ?_
    · have hs := V.int.inj hs
      walk_at "aw"
      refine w_I ⟨by decide, by decide⟩ ?_
      refine w_sign (by omega) (by omega) fun c3 hc3 => ?_
      walk_at "aw"
      rw [decide_eq_false (show ¬ ((37 : Int) < (n : Nat)) by omega)]
      refine ⟨_, _, rfl, rfl, ⟨by decide, fun h => absurd (by decide) h, fun h => absurd (by decide) h⟩, ?_⟩
      rw [show Txt.mul (⟨#[c3]⟩ : Str) (if false = true then 1 else 0) = Str.empty from rfl]
      refine w_addS (by rw [len_one]; exact Nat.le_trans (show 1 + 0 ≤ 100000 by omega) (Nat.le_refl _)) ?_
      walk_at "aw"
      refine w_app rfl ef ?_
      walk_at "aw"
      refine w_append ef (by rw [List.length_map]; omega) ?_
      refine fin ⟨okS_app hcok1 (by unfold okS; decide +kernel), fun _ => ⟨c, [], hc, ?_⟩, fun h => by omega⟩
      rw [if_pos hs, lst_app, lst_one]
      rfl
    · have hs0 : style ≠ 0 := fun z => hs (by rw [z])
      walk_at "aw"
      refine w_iteB (fun hs => ?_) fun hs => ?_
      · have hs := V.int.inj hs
        walk_at "aw"
        refine w_slS (by omega) ?_
        walk_at "aw"
        refine w_addS (by rw [len_one]; omega) ?_
        walk_at "aw"
        refine w_str (by omega) ?_
        refine w_addS (by simp only [len_app, len_one]; omega) ?_
        walk_at "aw"
        refine w_app rfl ef ?_
        walk_at "aw"
        refine w_append ef (by rw [List.length_map]; omega) ?_
        refine fin ⟨okS_app (okS_app hcok hcok1) hskok.1, fun _ => ⟨c, (Str.ofString (toString ((i : Nat) : Int))).cps.toList, hc, ?_⟩, fun h => by omega⟩
        rw [if_neg hs0]
        simp only [lst_app, lst_one, List.append_assoc, List.singleton_append]
      · have hs1 : style ≠ 1 := fun z => hs (by rw [z])
        walk_at "aw"
        refine w_iteB (fun hs => ?_) fun hs => ?_
        · have hs := V.int.inj hs
          walk_at "aw"
          refine w_I ⟨by decide, by decide⟩ ?_
          walk_at "aw"
          refine w_slS (by omega) ?_
          walk_at "aw"
          refine w_addS (by omega) ?_
          walk_at "aw"
          refine w_I ⟨by decide, by decide⟩ ?_
          walk_at "aw"
          refine w_str (by omega) ?_
          refine w_addS (by simp only [len_app]; omega) ?_
          walk_at "aw"
          refine w_addS (by simp only [len_app]; omega) ?_
          walk_at "aw"
          refine w_str (by omega) ?_
          refine w_addS (by simp only [len_app]; omega) ?_
          walk_at "aw"
          refine w_app rfl ef ?_
          walk_at "aw"
          refine w_append ef (by rw [List.length_map]; omega) ?_
          refine fin ⟨okS_app (okS_app (okS_app (okS_app hcok hdok) hskok.2.1) hdok) hskok.2.2, fun h => absurd hs h, fun _ => ?_⟩
          unfold tail2 SK
          simp only [lst_app, List.append_assoc]
        · have hs2 : style ≠ 2 := fun z => hs (by rw [z])
          walk_at "aw"
          refine w_app rfl ef ?_
          walk_at "aw"
          refine w_append ef (by rw [List.length_map]; omega) ?_
          refine fin ⟨okS_app (okS_app (okS_app (okS_app hcok hcok1) hcok) hcok2) hcok, fun _ => ⟨c, (cutS word (some (one + 1)) (some (12 + two))).cps.toList ++ (c2 :: (cutS word (some (12 + two + 1)) none).cps.toList), hc, ?_⟩, fun h => absurd h hs2⟩
          rw [if_neg hs0]
          simp only [lst_app, lst_one, List.append_assoc, List.singleton_append, List.cons_append, List.nil_append]
  · obtain ⟨y7, y11, y12, nms, rfl, g, ef, hnl, hpn⟩ := pp
    have hnd : nms.Nodup := by
      rw [List.Nodup, List.pairwise_iff_getElem]
      intro i j hi hj hij e
      have h1 := hpn i _ (List.getElem?_eq_getElem hi)
      have h2 := hpn j _ (List.getElem?_eq_getElem hj)
      rw [e] at h1
      have := PN.inj hste (by omega) (by omega) h1 h2
      omega
    walk_at "aw"
    refine ⟨st, f, rfl, cs, _, g.ok, SqL.of ef, nfst, by rw [List.length_map]; omega, fun r ys2 H8 hperm nr g8 er => ?_⟩
    obtain ⟨ls, hls, hys⟩ := (IsAll.strs (H := H) nms).shuf hperm.symm
    have e2 := hys.strs_inv
    subst e2
    exact q r ls H8 (g.trans g8) (g.free ok nr) er (by rw [hls.length_eq, hnl]) (hls.nodup_iff.mpr hnd) fun x hx => by
      obtain ⟨j, hj, rfl⟩ := List.mem_iff_getElem.mp (hls.mem_iff.mp hx)
      exact (hpn j _ (List.getElem?_eq_getElem hj)).ok
end AW
namespace AW
open PySem PySem.Spec PyProof.Rows L2 RZ
local macro_rules | `(tactic| walk_at "aw1") => `(tactic| first
  | (with_reducible refine w_seq ?_) | (with_reducible refine w_asg ?_) | (with_reducible refine w_gname ?_) | (with_reducible refine w_op ?_) | (with_reducible refine w_un ?_)
  | ((with_reducible refine' w_var ?h ?_); (case h => rfl)) | (with_reducible refine w_c ?_)
  | (with_reducible refine w_I0 ?_) | (with_reducible refine w_U ?_) | (with_reducible refine w_cb ?_) | (with_reducible refine w_nil ?_) | (with_reducible refine w_cons ?_) | (with_reducible refine w_call ?_)
  | (with_reducible refine w_test ?_) | (with_reducible refine w_B ?_) | (with_reducible refine w_bl ?_) | (with_reducible refine w_not ?_) | (with_reducible refine w_yes ?_) | (with_reducible refine iteT ?_) | (with_reducible refine iteF ?_) | (with_reducible refine w_and ?_) | (with_reducible refine w_or ?_)
  | (with_reducible refine w_andV ?_) | (with_reducible refine w_orV ?_) | (with_reducible refine w_notV ?_) | (with_reducible refine w_if ?_)
  | (with_reducible refine w_int1 ?_) | (with_reducible refine w_int1b ?_) | (with_reducible refine w_abs ?_) | (with_reducible refine w_max2 ?_) | (with_reducible refine w_min2 ?_)
  | ((with_reducible refine w_eq ?h ?_); (case h => rfl)) | ((with_reducible refine w_ne ?h ?_); (case h => rfl)) | (with_reducible refine w_isN ?_) | (with_reducible refine w_isB ?_) | (with_reducible refine w_chain ?_)
  | (with_reducible refine w_ret ?_) | (with_reducible refine w_drop ?_) | (with_reducible refine w_ifS ?_) | (with_reducible refine w_gsub ?_) | (with_reducible refine w_augS ?_) | (with_reducible refine w_ipI ?_) | (with_reducible refine w_next ?_)
  | (with_reducible refine w_forR ?_) | (with_reducible refine w_forR2 ?_) | (with_reducible refine w_forL ?_) | (with_reducible refine w_forT ?_) | (with_reducible refine w_lcR ?_) | (with_reducible refine w_lcL ?_) | (with_reducible refine w_lcT ?_) | (with_reducible refine w_sl ?_) | (with_reducible refine w_part ?_) | (with_reducible refine w_noPart ?_) | (with_reducible refine w_in ?_)
  | (with_reducible refine w_gcons ?_) | (with_reducible refine w_gnil ?_) | (with_reducible refine w_lc3 ?_) | (with_reducible refine w_dcZ ?_) | (with_reducible refine w_dcT ?_) | (with_reducible refine w_dg ?_) | (with_reducible refine w_callK ?_) | (with_reducible refine w_dput ?_) | (with_reducible refine w_tup1 ?_)
  | (with_reducible refine w_tup ?_) | (with_reducible refine w_lst ?_)
  | ((with_reducible refine w_I ?h ?_); (case h => first | (exact Or.inr ⟨by decide, by decide⟩) | (exact Or.inl ⟨by decide, by decide⟩) | (show (0 : Int) < _; decide) | (exact ⟨by decide, by decide, by decide⟩) | assumption)))
local macro_rules | `(tactic| walk_at "aw") => `(tactic| repeat (walk_at "aw1"))
def sp__law_sizes (_ : PySem.W.Frag) : Sp := fun vs H Q _ => ∃ (st : Addr) (m : Nat) (wh : Int), vs = [.ref st, .int (m : Nat), .int wh] ∧ ∃ cs, StOk st cs H ∧ 0 < m ∧ m ≤ 30 ∧ ∀ r (zs : List Int) H', Go st cs H H' → H r = none → H' r = some (.lst (zs.map V.int)) → 0 < zs.length → zs.length ≤ m → (∀ z ∈ zs, 1 ≤ z ∧ z ≤ 5) → Q (.ref r) H'
def sp__law_few (_ : PySem.W.Frag) : Sp := fun vs H Q _ => ∃ (st p : Addr), vs = [.ref st, .ref p] ∧ ∃ (cs : Addr) (doms : List (Str × List Int)), StOk st cs H ∧ p ≠ st ∧ LsAt H p (doms.map domD) ∧ 0 < doms.length ∧ doms.length ≤ 100 ∧ (∀ q ∈ doms, 0 < q.2.length ∧ q.2.length ≤ 100) ∧
  ∀ r (few : List (Str × List Int)) H', Go st cs H H' → H r = none → LsAt H' r (few.map domD) → 0 < few.length → few.length ≤ 100 → (∀ q ∈ few, q ∈ doms) → Q (.ref r) H'
def sp__law_has_name (_ : PySem.W.Frag) (m : Nat) : Sp := fun vs H Q _ => ∃ (v : V), vs = [v] ∧ ∃ D f names st cs, StOk st cs H ∧ Is H D v ∧ ClD names m D f ∧ ∀ b H', Go st cs H H' → Q (.bl b) H'
def sp__law_part (_ : PySem.W.Frag) (m : Nat) : Sp := fun vs H Q _ => ∃ (st p : Addr) (lv rm : Int), vs = [.ref st, .ref p, .int lv, .int rm] ∧ ∃ (cs : Addr) (few : List (Str × List Int)), StOk st cs H ∧ p ≠ st ∧ LsAt H p (few.map domD) ∧ 0 < few.length ∧ few.length ≤ 100 ∧ (∀ q ∈ few, 0 < q.2.length ∧ q.2.length ≤ 100) ∧ 1 ≤ lv ∧ lv ≤ (m : Nat) ∧
  ∀ r v (n : Int) D f H', Go st cs H H' → H r = none → H' r = some (.lst [v, .int n]) → Is H' D v → ClD (few.map (·.1)) m D f → Q (.ref r) H'
/-- one of two texts, by a draw -/
theorem pick2 {K : PySem.W.Frag} {s1 s2 : Str} (W : Bool → Str) (e1 : W true = s1) (e2 : W false = s2) {st cs : Addr} {σ : L2.St} {H : Hp} {Q : VK} (hσ : σ[0]? = some (some (.ref st))) (ok : StOk st cs H) (q : ∀ b H', Go st cs H H' → Q (.str (W b)) H') :
    tOp (rIxL K) (tLst (tCons (tC (.str s1)) (tCons (tC (.str s2)) tNil))) (tCall (sp__law_take K) [] E0 (tCons (tVar 0) (tCons (tC (.int 2)) tNil))) σ H Q := by
  walk_at "aw"
  refine w_lstD (by simp) fun l H1 nl a1 e1' => ?_
  have g1 := Go.of ok a1
  refine w_call ?_
  refine w_cons ?_
  refine w_var hσ ?_
  walk_at "aw"
  refine ⟨st, _, rfl, cs, g1.ok, by omega, by omega, fun z H2 hz0 hz1 g2 => ?_⟩
  have e3 := g2.keep (ok.ne nl).1 e1'
  by_cases h : z = 0
  · refine w_ixL (SqL.of e3) (v := .str s1) (by rw [h]; rfl) ?_
    rw [← e1]
    exact q true H2 (g1.trans g2)
  · refine w_ixL (SqL.of e3) (v := .str s2) (by rw [show z = 1 by omega]; rfl) ?_
    rw [← e2]
    exact q false H2 (g1.trans g2)
def t__law_sizes (K : PySem.W.Frag) : TS := (tSeq (tAsg (tLst tNil) (gName 3))
  (tSeq (tAsg (tC (.int 1)) (gName 4))
  (tSeq (tFor (iRng1 (tCons (tOp rAddI (tC (.int 1)) (tCall (sp__law_take K) [] E0 (tCons (tVar 0) (tCons (tVar 1) tNil)))) tNil)) (gName 5)
  (tSeq (tAsg (tOp rAddI (tC (.int 1)) (tCall (sp__law_take K) [] E0 (tCons (tVar 0) (tCons (tC (.int 5)) tNil)))) (gName 6))
  (tSeq (tIfS (tTest (tOp rGtI (tOp rMulI (tVar 4) (tVar 6)) (tVar 2))) (tAsg (tC (.int 1)) (gName 6)) tNext)
  (tSeq (tDrop (tBM K "list" rAppend (tVar 3) (tCons (tVar 6) tNil)))
  (tAsg (tOp rMulI (tVar 4) (tVar 6)) (gName 4))))))
  (tRet (tVar 3)))))
def t__law_few (K : PySem.W.Frag) : TS := (tSeq (tAsg (tLst tNil) (gName 2))
  (tSeq (tAsg (tC (.int 1)) (gName 3))
  (tSeq (tFor (iList K (tSl (rSlL K) (tCall (sp__law_shuffled K) [] E0 (tCons (tVar 0) (tCons (tVar 1) tNil))) tNoPart (tPart (tOp rAddI (tC (.int 1)) (tCall (sp__law_take K) [] E0 (tCons (tVar 0) (tCons (tCall (sp__law_pick K) [] E0 (tCons (tVar 0) (tCons (tLst (tCons (tC (.int 8)) (tCons (tC (.int 24)) tNil))) tNil))) tNil))))))) (gName 4)
  (tIfS (tTest (tOp rLeI (tOp rMulI (tVar 3) (tCB (rLen1 K) (tCons (tOp (rIxT K) (tVar 4) (tC (.int 1))) tNil))) (tC (.int 256)))) (tSeq (tDrop (tBM K "list" rAppend (tVar 2) (tCons (tVar 4) tNil)))
  (tAsg (tOp rMulI (tVar 3) (tCB (rLen1 K) (tCons (tOp (rIxT K) (tVar 4) (tC (.int 1))) tNil))) (gName 3))) tNext))
  (tRet (tVar 2)))))
theorem len__law_sizes {K : PySem.W.Frag} : ∀ (vs : List V) (H : Hp) (Q : VK) (E : XK), sp__law_sizes K vs H Q E → vs.length = 3 := fun vs H Q E h => by
  obtain ⟨_, _, _, rfl, _⟩ := h
  rfl
theorem pure__law_sizes {K : PySem.W.Frag} (vs : List V) (H : Hp) (Q : VK) (E : XK) (h : sp__law_sizes K vs H Q E) : t__law_sizes K { nx := fun _ H' => Q .non H', rt := Q } (start ["state", "most", "whole", "found", "product", "k", "size"] vs) H := by
  obtain ⟨st, m, wh, rfl, cs, ok, hm0, hm, q⟩ := h
  show t__law_sizes K _ [some (.ref st), some (.int (m : Nat)), some (.int wh), none, none, none, none] H
  unfold t__law_sizes
  walk_at "aw"
  refine w_lstD (by simp) fun f H1 nf a1 e1 => ?_
  have g1 := Go.of ok a1
  have nfst := (ok.ne nf).1
  walk_at "aw"
  refine ⟨st, _, rfl, cs, g1.ok, by omega, by omega, fun z H2 hz0 hz1 g2 => ?_⟩
  walk_at "aw"
  rw [show (1 : Int) + z = (((1 + z).toNat : Nat) : Int) by omega]
  refine kForR_i (n := (1 + z).toNat) (by omega) (fun i σ H' => ∃ pr y5 y6 zs, σ = [some (.ref st), some (.int (m : Nat)), some (.int wh), some (.ref f), some (.int pr), y5, y6] ∧ Go st cs H H' ∧ H' f = some (.lst ((zs : List Int).map V.int)) ∧ zs.length = i ∧ ∀ z ∈ zs, 1 ≤ z ∧ z ≤ 5)
    ⟨1, none, none, [], rfl, g1.trans g2, g2.keep nfst e1, rfl, fun z h => absurd h (List.not_mem_nil)⟩ (fun i σ H' hi pp => ?_) fun σ H' pp => ?_
  · obtain ⟨pr, y5, y6, zs, rfl, g, ef, hl, hz⟩ := pp
    walk_at "aw"
    refine ⟨st, _, rfl, cs, g.ok, by omega, by omega, fun s H3 hs0 hs1 g3 => ?_⟩
    have g3' := g.trans g3
    have ef3 := g3.keep nfst ef
    have fin : ∀ {pr' : Int} {s' : Int}, 1 ≤ s' → s' ≤ 5 → ∃ pr y5 y6 zz, ([some (.ref st), some (.int (m : Nat)), some (.int wh), some (.ref f), some (.int pr'), some (.int (i : Nat)), some (.int s')] : L2.St) = [some (.ref st), some (.int (m : Nat)), some (.int wh), some (.ref f), some (.int pr), y5, y6] ∧ Go st cs H (upd H3 f (.lst (zs.map V.int ++ [.int s']))) ∧ (upd H3 f (.lst (zs.map V.int ++ [.int s']))) f = some (.lst ((zz : List Int).map V.int)) ∧ zz.length = i + 1 ∧ ∀ z ∈ zz, 1 ≤ z ∧ z ≤ 5 := fun {pr' s'} h1 h2 =>
      ⟨_, _, _, zs ++ [s'], rfl, g3'.mutL ok nf ef3, by rw [upd_same, List.map_append]; rfl, by rw [List.length_append, hl]; rfl, fun z hzz => by
        rcases List.mem_append.mp hzz with h | h
        · exact hz z h
        · rw [List.mem_singleton.mp h]; exact ⟨h1, h2⟩⟩
    walk_at "aw"
    refine w_I (.inr ⟨by omega, by omega⟩) ?_
    walk_at "aw"
    refine w_iteB (fun _ => ?_) fun _ => ?_
    · walk_at "aw"
      refine w_app rfl ef3 ?_
      walk_at "aw"
      refine w_append ef3 (by rw [List.length_map]; omega) ?_
      walk_at "aw"
      try refine w_I (.inr ⟨by omega, by omega⟩) ?_
      walk_at "aw"
      exact fin (by omega) (by omega)
    · walk_at "aw"
      refine w_app rfl ef3 ?_
      walk_at "aw"
      refine w_append ef3 (by rw [List.length_map]; omega) ?_
      walk_at "aw"
      refine w_I (.inr ⟨by omega, by omega⟩) ?_
      walk_at "aw"
      exact fin (by omega) (by omega)
  · obtain ⟨pr, y5, y6, zs, rfl, g, ef, hl, hz⟩ := pp
    walk_at "aw"
    exact q f zs H' g nf ef (by omega) (by omega) hz
theorem len__law_few {K : PySem.W.Frag} : ∀ (vs : List V) (H : Hp) (Q : VK) (E : XK), sp__law_few K vs H Q E → vs.length = 2 := fun vs H Q E h => by
  obtain ⟨_, _, rfl, _⟩ := h
  rfl
theorem pure__law_few {K : PySem.W.Frag} (vs : List V) (H : Hp) (Q : VK) (E : XK) (h : sp__law_few K vs H Q E) : t__law_few K { nx := fun _ H' => Q .non H', rt := Q } (start ["state", "doms", "found", "product", "pair"] vs) H := by
  obtain ⟨st, p, rfl, cs, doms, ok, np, ⟨xs, hp, tp⟩, hd0, hdl, hdd, q⟩ := h
  have hxl : xs.length = doms.length := by rw [tp.length, List.length_map]
  show t__law_few K _ [some (.ref st), some (.ref p), none, none, none] H
  unfold t__law_few
  walk_at "aw"
  refine w_lstD (by simp) fun f H1 nf a1 e1 => ?_
  have g1 := Go.of ok a1
  have nfst := (ok.ne nf).1
  walk_at "aw"
  refine ⟨st, p, rfl, cs, xs, g1.ok, SqL.of (g1.keep np hp), np, by omega, fun o zs H5 hp5 no g5 eo => ?_⟩
  obtain ⟨es, hes, tz⟩ := tp.shuf hp5.symm
  have g15 := g1.trans g5
  replace tz := tz.up g15.tk
  have hzl : zs.length = es.length := by rw [tz.length, List.length_map]
  have hel := hes.length_eq
  walk_at "aw"
  refine w_lstD (by simp) fun l6 H6 nl6 a6 e6 => ?_
  have g6 := g15.new a6
  walk_at "aw"
  refine ⟨st, l6, rfl, cs, [8, 24].map V.int, g6.ok, .inl ⟨SqL.of e6, (g15.ok.ne nl6).1⟩, by simp, by simp, fun i y H7 hy g7 => ?_⟩
  obtain ⟨m, rfl, hmm⟩ := int_mem hy
  have hm1 : 8 ≤ m ∧ m ≤ 24 := by
    simp only [List.mem_cons, List.not_mem_nil, or_false] at hmm
    omega
  have g67 := g6.trans g7
  walk_at "aw"
  refine ⟨st, _, rfl, cs, g67.ok, by omega, by omega, fun z H8 hz0 hz1 g8 => ?_⟩
  have g58 : Go st cs H5 H8 := ((Go.of g5.ok a6).trans g7).trans g8
  have g08 := g15.trans g58
  have nost : o ≠ st := (g1.ok.ne no).1
  have eo8 := g58.keep nost eo
  walk_at "aw"
  refine w_slL (SqL.of eo8) fun s H9 ns a9 e9 => ?_
  rw [cut_to _ (by omega)] at e9
  have g9 := g08.new a9
  have nsst := (g08.ok.ne ns).1
  have tz9 := (tz.up g58.tk).up a9.tup
  have hn : 0 < (1 + z).toNat := by omega
  generalize (1 + z).toNat = n at e9 hn
  have ef9 : H9 f = some (.lst []) := a9.keep _ _ (fun z => nomatch z) ((g5.trans g58).keep nfst e1)
  have hsf : s ≠ f := fun e => by rw [e, (g5.trans g58).keep nfst e1] at ns; cases ns
  have hsl : (zs.take n).length ≤ doms.length := by rw [List.length_take]; omega
  refine kForL_i (xs := zs.take n) (fun i σ H' => ∃ pr y4 fs few, σ = [some (.ref st), some (.ref p), some (.ref f), some (.int pr), y4] ∧ Go st cs H H' ∧ TK H9 H' ∧ H' s = some (.lst (zs.take n)) ∧ H' f = some (.lst fs) ∧ IsAll H' ((few : List (Str × List Int)).map domD) fs ∧ few.length ≤ i ∧ (∀ q ∈ few, q ∈ doms) ∧ (i = 0 → pr = 1) ∧ (0 < i → 0 < few.length))
    (SqL.of e9) ⟨1, none, [], [], rfl, g9, .refl _, e9, ef9, .nil, Nat.le_refl _, fun x h => absurd h (List.not_mem_nil), fun _ => rfl, fun h => absurd h (Nat.lt_irrefl _)⟩ (fun i σ H' _ pp => ?_) (fun i v σ H' hv pp => ?_) fun σ H' pp => ?_
  · obtain ⟨_, _, _, _, _, g, _, es', _⟩ := pp
    exact SqL.of es'
  · obtain ⟨pr, y4, fs, few, rfl, g, tk, es', ef, tf, hfl, hfm, hp1, hf0⟩ := pp
    have hin := (List.getElem?_eq_some_iff.mp hv).1
    have hv2 : zs[i]? = some v := by
      rw [List.getElem?_take] at hv
      split at hv
      · exact hv
      · cases hv
    obtain ⟨dt, z1, hx⟩ := tz9.get hv2
    rw [List.getElem?_map] at z1
    obtain ⟨q', z2, rfl⟩ := Option.map_eq_some_iff.mp z1
    obtain ⟨ia, ib, rfl, ea, eb⟩ := is_dom hx
    have hqm : q' ∈ doms := hes.mem_iff.mp (List.mem_of_getElem? z2)
    have hq := hdd q' hqm
    have ea' := tk _ _ ea
    have eb' := tk _ _ eb
    have hfs : fs.length = few.length := by rw [tf.length, List.length_map]
    walk_at "aw"
    refine w_ixT (SqT.of ea') rfl ?_
    walk_at "aw"
    refine w_lenT (SqT.of eb') ?_
    rw [List.length_map]
    refine w_I (.inr ⟨by omega, by omega⟩) ?_
    walk_at "aw"
    refine w_iteB (fun _ => ?_) fun hc => ?_
    · walk_at "aw"
      refine w_app rfl ef ?_
      walk_at "aw"
      refine w_append ef (by omega) ?_
      have gb := g.mutL (o := .lst (fs ++ [.ref ia])) ok nf ef
      have ga : TK H' (upd H' f (.lst (fs ++ [.ref ia]))) := (Adv.lst ef).tup
      walk_at "aw"
      refine w_ixT (SqT.of (ga _ _ ea')) rfl ?_
      walk_at "aw"
      refine w_lenT (SqT.of (ga _ _ eb')) ?_
      rw [List.length_map]
      refine w_I (.inr ⟨by omega, by omega⟩) ?_
      walk_at "aw"
      refine ⟨_, _, _, few ++ [q'], rfl, gb, tk.trans ga, by rw [upd_ne hsf]; exact es', upd_same, ?_, by rw [List.length_append]; exact Nat.succ_le_succ hfl, fun q hq => ?_, fun h => absurd h (by omega), fun _ => by rw [List.length_append]; exact Nat.succ_pos _⟩
      · rw [List.map_append]
        exact (tf.up ga).append (.cons (hx.up (tk.trans ga)) .nil)
      · rcases List.mem_append.mp hq with h | h
        · exact hfm q h
        · rw [List.mem_singleton.mp h]; exact hqm
    · walk_at "aw"
      refine ⟨_, _, _, few, rfl, g, tk, es', ef, tf, by omega, hfm, fun h => absurd h (by omega), fun _ => ?_⟩
      by_cases hi : i = 0
      · exfalso
        rw [hp1 hi] at hc
        omega
      · exact hf0 (by omega)
  · obtain ⟨pr, y4, fs, few, rfl, g, tk, es', ef, tf, hfl, hfm, hp1, hf0⟩ := pp
    walk_at "aw"
    refine q f few H' g nf ⟨fs, ef, tf⟩ (hf0 ?_) (by omega) hfm
    rw [List.length_take]
    omega
end AW
namespace AW
open PySem PySem.Spec PyProof.Rows L2 RZ
local macro_rules | `(tactic| walk_at "aw1") => `(tactic| first
  | (with_reducible refine w_seq ?_) | (with_reducible refine w_asg ?_) | (with_reducible refine w_gname ?_) | (with_reducible refine w_op ?_) | (with_reducible refine w_un ?_)
  | ((with_reducible refine' w_var ?h ?_); (case h => rfl)) | (with_reducible refine w_c ?_)
  | (with_reducible refine w_I0 ?_) | (with_reducible refine w_U ?_) | (with_reducible refine w_cb ?_) | (with_reducible refine w_nil ?_) | (with_reducible refine w_cons ?_) | (with_reducible refine w_call ?_)
  | (with_reducible refine w_test ?_) | (with_reducible refine w_B ?_) | (with_reducible refine w_bl ?_) | (with_reducible refine w_not ?_) | (with_reducible refine w_yes ?_) | (with_reducible refine iteT ?_) | (with_reducible refine iteF ?_) | (with_reducible refine w_and ?_) | (with_reducible refine w_or ?_)
  | (with_reducible refine w_andV ?_) | (with_reducible refine w_orV ?_) | (with_reducible refine w_notV ?_) | (with_reducible refine w_if ?_)
  | (with_reducible refine w_int1 ?_) | (with_reducible refine w_int1b ?_) | (with_reducible refine w_abs ?_) | (with_reducible refine w_max2 ?_) | (with_reducible refine w_min2 ?_)
  | ((with_reducible refine w_eq ?h ?_); (case h => rfl)) | ((with_reducible refine w_ne ?h ?_); (case h => rfl)) | (with_reducible refine w_isN ?_) | (with_reducible refine w_isB ?_) | (with_reducible refine w_chain ?_)
  | (with_reducible refine w_ret ?_) | (with_reducible refine w_drop ?_) | (with_reducible refine w_ifS ?_) | (with_reducible refine w_gsub ?_) | (with_reducible refine w_augS ?_) | (with_reducible refine w_ipI ?_) | (with_reducible refine w_next ?_)
  | (with_reducible refine w_forR ?_) | (with_reducible refine w_forR2 ?_) | (with_reducible refine w_forL ?_) | (with_reducible refine w_forT ?_) | (with_reducible refine w_lcR ?_) | (with_reducible refine w_lcL ?_) | (with_reducible refine w_lcT ?_) | (with_reducible refine w_sl ?_) | (with_reducible refine w_part ?_) | (with_reducible refine w_noPart ?_) | (with_reducible refine w_in ?_)
  | (with_reducible refine w_gcons ?_) | (with_reducible refine w_gnil ?_) | (with_reducible refine w_lc3 ?_) | (with_reducible refine w_dcZ ?_) | (with_reducible refine w_dcT ?_) | (with_reducible refine w_dg ?_) | (with_reducible refine w_callK ?_) | (with_reducible refine w_dput ?_) | (with_reducible refine w_tup1 ?_)
  | (with_reducible refine w_tup ?_) | (with_reducible refine w_lst ?_)
  | ((with_reducible refine w_I ?h ?_); (case h => first | (exact Or.inr ⟨by decide, by decide⟩) | (exact Or.inl ⟨by decide, by decide⟩) | (show (0 : Int) < _; decide) | (exact ⟨by decide, by decide, by decide⟩) | assumption)))
local macro_rules | `(tactic| walk_at "aw") => `(tactic| repeat (walk_at "aw1"))
def t__law_has_name (K : PySem.W.Frag) (m : Nat) : TS := (tSeq (tIfS (tOr (tTest (tOp rEq (tOp (rIxT K) (tVar 0) (tC (.int 0))) (tC (.str "from")))) (tTest (tOp rEq (tOp (rIxT K) (tVar 0) (tC (.int 0))) (tC (.str "is"))))) (tRet (tC (.bl true))) tNext)
  (tSeq (tAsg (tIf (tTest (tOp rEq (tOp (rIxT K) (tVar 0) (tC (.int 0))) (tC (.str "not")))) (tTup (tCons (tOp (rIxT K) (tVar 0) (tC (.int 1))) tNil)) (tOp (rIxT K) (tVar 0) (tC (.int 1)))) (gName 1))
  (tRet (tOp rGtI (tCB (rLen1 K) (tCons (tLc (iTup K (tVar 1)) (gName 2) (tB (tCall (sp__law_has_name K m) [] E0 (tCons (tVar 2) tNil))) (tVar 2) [2]) tNil)) (tC (.int 0))))))
def t__law_part (K : PySem.W.Frag) (m : Nat) : TS := (tSeq (tAsg (tCall (sp__law_take K) [] E0 (tCons (tVar 0) (tCons (tC (.int 7)) tNil))) (gName 4))
  (tSeq (tIfS (tOr (tTest (tOp rLtI (tVar 2) (tC (.int 2)))) (tOr (tTest (tOp rLtI (tVar 3) (tC (.int 2)))) (tTest (tOp rLtI (tVar 4) (tC (.int 2)))))) (tSeq (tAsg (tCall (sp__law_pick K) [] E0 (tCons (tVar 0) (tCons (tVar 1) tNil))) (gTup K 2 (gCons (gName 5) (gCons (gName 6) gNil))))
  (tSeq (tAsg (tCall (sp__law_pick K) [] E0 (tCons (tVar 0) (tCons (tOp rCat (tCB (rListOf K) (tCons (tVar 6) tNil)) (tLst (tCons (tOp rSubI (tOp (rIxT K) (tVar 6) (tC (.int 0))) (tC (.int 1))) (tCons (tOp rAddI (tOp (rIxT K) (tVar 6) (tUn rNeg (tC (.int 1)))) (tC (.int 1))) (tCons (tOp rSubI (tCall (sp__law_take K) [] E0 (tCons (tVar 0) (tCons (tC (.int 401)) tNil))) (tC (.int 200))) tNil))))) tNil))) (gName 7))
  (tRet (tLst (tCons (tTup (tCons (tOp (rIxL K) (tLst (tCons (tC (.str "from")) (tCons (tC (.str "is")) tNil))) (tCall (sp__law_take K) [] E0 (tCons (tVar 0) (tCons (tC (.int 2)) tNil)))) (tCons (tVar 5) (tCons (tCB rMax2 (tCons (tUn rNeg (tC (.int 200))) (tCons (tCB rMin2 (tCons (tC (.int 200)) (tCons (tVar 7) tNil))) tNil))) tNil)))) (tCons (tC (.int 1)) tNil)))))) tNext)
  (tSeq (tIfS (tTest (tOp rEq (tVar 4) (tC (.int 2)))) (tSeq (tAsg (tCall (sp__law_part K m) [] E0 (tCons (tVar 0) (tCons (tVar 1) (tCons (tOp rSubI (tVar 2) (tC (.int 1))) (tCons (tOp rSubI (tVar 3) (tC (.int 1))) tNil))))) (gName 8))
  (tRet (tLst (tCons (tTup (tCons (tC (.str "not")) (tCons (tOp (rIxL K) (tVar 8) (tC (.int 0))) tNil))) (tCons (tOp rAddI (tC (.int 1)) (tOp (rIxL K) (tVar 8) (tC (.int 1)))) tNil))))) tNext)
  (tSeq (tAsg (tLst tNil) (gName 9))
  (tSeq (tAsg (tC (.int 1)) (gName 10))
  (tSeq (tFor (iRng1 (tCons (tCall (sp__law_pick K) [] E0 (tCons (tVar 0) (tCons (tLst (tCons (tC (.int 0)) (tCons (tC (.int 1)) (tCons (tC (.int 2)) (tCons (tC (.int 2)) (tCons (tC (.int 3)) (tCons (tC (.int 4)) (tCons (tC (.int 12)) tNil)))))))) tNil))) tNil)) (gName 11)
  (tIfS (tTest (tOp rLtI (tVar 10) (tVar 3))) (tSeq (tAsg (tCall (sp__law_part K m) [] E0 (tCons (tVar 0) (tCons (tVar 1) (tCons (tOp rSubI (tVar 2) (tC (.int 1))) (tCons (tCB rMin2 (tCons (tOp rSubI (tVar 3) (tVar 10)) (tCons (tOp rAddI (tC (.int 1)) (tCall (sp__law_take K) [] E0 (tCons (tVar 0) (tCons (tC (.int 14)) tNil)))) tNil))) tNil))))) (gName 8))
  (tSeq (tDrop (tBM K "list" rAppend (tVar 9) (tCons (tOp (rIxL K) (tVar 8) (tC (.int 0))) tNil)))
  (tAsg (tOp rAddI (tVar 10) (tOp (rIxL K) (tVar 8) (tC (.int 1)))) (gName 10)))) tNext))
  (tRet (tLst (tCons (tTup (tCons (tOp (rIxL K) (tLst (tCons (tC (.str "and")) (tCons (tC (.str "or")) tNil))) (tCall (sp__law_take K) [] E0 (tCons (tVar 0) (tCons (tC (.int 2)) tNil)))) (tCons (tThen (tVar 9) (kTup K)) tNil))) (tCons (tVar 10) tNil))))))))))
theorem no__law_has_name {K : PySem.W.Frag} {vs : List V} {H : Hp} {Q : VK} {E : XK} (h : sp__law_has_name K 0 vs H Q E) : False := by
  obtain ⟨_, _, _, _, _, _, _, _, _, hc, _⟩ := h
  cases hc
theorem len__law_has_name {K : PySem.W.Frag} {m : Nat} : ∀ (vs : List V) (H : Hp) (Q : VK) (E : XK), sp__law_has_name K m vs H Q E → vs.length = 1 := fun vs H Q E h => by
  obtain ⟨_, rfl, _⟩ := h
  rfl
theorem pure__law_has_name {K : PySem.W.Frag} {m : Nat} (vs : List V) (H : Hp) (Q : VK) (E : XK) (h : sp__law_has_name K (m + 1) vs H Q E) : t__law_has_name K m { nx := fun _ H' => Q .non H', rt := Q } (start ["claim", "inner", "one"] vs) H := by
  obtain ⟨v, rfl, D, f, names, st, cs, ok, hv, hc, q⟩ := h
  show t__law_has_name K m _ [some v, none, none] H
  unfold t__law_has_name
  have fin : ∀ (H1 : Hp) (c : Addr) (xs : List V) (ds : List PyData) (fs : List (Wd → Bool)), Go st cs H H1 → H1 c = some (.tup xs) → IsAll H1 ds xs → ds.length = fs.length → ds.length ≤ 100 → (∀ (i : Nat) d f, ds[i]? = some d → fs[i]? = some f → ClD names m d f) →
      ((tRet (tOp rGtI (tCB (rLen1 K) (tCons (tLc (iTup K (tVar 1)) (gName 2) (tB (tCall (sp__law_has_name K m) [] E0 (tCons (tVar 2) tNil))) (tVar 2) [2]) tNil)) (tC (.int 0))))) { nx := fun _ H' => Q .non H', rt := Q } [some v, some (.ref c), none] H1 := by
    intro H1 c xs ds fs g1 ec tc hl h1 h
    have hxl : xs.length = ds.length := tc.length
    walk_at "aw"
    refine kLcT_some (xs := xs) ec (by omega) g1.ok (fun k v H => True) (fun _ => True) (fun k v H H' t h => h) (fun k x H3 Kt Kf hk g3 kt kf => ?_) fun l H3 ks ys nl g3 el hks hpw hkl _ hR => ?_
    · obtain ⟨dt, z1, hdt⟩ := tc.get hk
      obtain ⟨fn, z2⟩ := get_some (xs := fs) (i := k) (by have := (List.getElem?_eq_some_iff.mp z1).1; omega)
      walk_at "aw"
      refine ⟨rfl, ?_⟩
      walk_at "aw"
      refine ⟨x, rfl, dt, fn, names, st, cs, g3.ok, hdt.up g3.tk, h k dt fn z1 z2, fun b H4 g4 => ?_⟩
      walk_at "aw"
      cases b with
      | true =>
        walk_at "aw"
        exact kt _ _ g4 trivial
      | false => exact kf _ g4 trivial
    walk_at "aw"
    refine w_lenL (SqL.of el) ?_
    walk_at "aw"
    exact q _ H3 (g1.trans g3)
  cases hc with
  | one b hx =>
    obtain ⟨a, rfl, ea⟩ := is_one hv
    walk_at "aw"
    refine w_ixT (SqT.of ea) rfl ?_
    walk_at "aw"
    cases b with
    | true =>
      refine w_iteB (fun _ => ?_) fun h => absurd rfl h
      walk_at "aw"
      exact q _ H (.refl ok)
    | false =>
      refine w_iteB (fun h => absurd h (by decide)) fun _ => ?_
      walk_at "aw"
      refine w_ixT (SqT.of ea) rfl ?_
      walk_at "aw"
      refine w_iteB (fun _ => ?_) fun h => absurd rfl h
      walk_at "aw"
      exact q _ H (.refl ok)
  | neg h =>
    rename_i d' f'
    obtain ⟨a, u, rfl, ea, hu⟩ := is_two hv
    walk_at "aw"
    refine w_ixT (SqT.of ea) rfl ?_
    walk_at "aw"
    refine w_iteB (fun h => absurd h (by decide)) fun _ => ?_
    walk_at "aw"
    refine w_ixT (SqT.of ea) rfl ?_
    walk_at "aw"
    refine w_iteB (fun h => absurd h (by decide)) fun _ => ?_
    walk_at "aw"
    refine w_ixT (SqT.of ea) rfl ?_
    walk_at "aw"
    refine w_iteB (fun _ => ?_) fun h => absurd rfl h
    walk_at "aw"
    refine w_ixT (SqT.of ea) rfl ?_
    walk_at "aw"
    refine w_tupD (by simp) fun c H1 nc a1 ec => ?_
    refine w_gname ?_
    refine fin H1 c [u] [d'] [f'] (Go.of ok a1) ec (.cons (hu.up a1.tup) .nil) rfl (by simp) fun i d f e1 e2 => ?_
    cases i with
    | zero =>
      simp at e1 e2
      subst e1 e2
      exact h
    | succ i => simp at e1
  | many b ds fs hl h1 h =>
    obtain ⟨a, u, rfl, ea, hu⟩ := is_two hv
    obtain ⟨c, xs, rfl, ec, tc⟩ := hu.tup_inv
    walk_at "aw"
    refine w_ixT (SqT.of ea) rfl ?_
    walk_at "aw"
    refine w_iteB (fun h => absurd h (by cases b <;> decide)) fun _ => ?_
    walk_at "aw"
    refine w_ixT (SqT.of ea) rfl ?_
    walk_at "aw"
    refine w_iteB (fun h => absurd h (by cases b <;> decide)) fun _ => ?_
    walk_at "aw"
    refine w_ixT (SqT.of ea) rfl ?_
    walk_at "aw"
    refine w_iteB (fun h => absurd h (by cases b <;> decide)) fun _ => ?_
    walk_at "aw"
    refine w_ixT (SqT.of ea) (i := 1) (v := .ref c) rfl ?_
    refine w_gname ?_
    exact fin H c xs ds fs (.refl ok) ec tc hl h1 h
theorem no__law_part {K : PySem.W.Frag} {vs : List V} {H : Hp} {Q : VK} {E : XK} (h : sp__law_part K 0 vs H Q E) : False := by
  obtain ⟨_, _, _, _, _, _, _, _, _, _, _, _, _, h1, h2, _⟩ := h
  omega
theorem len__law_part {K : PySem.W.Frag} {m : Nat} : ∀ (vs : List V) (H : Hp) (Q : VK) (E : XK), sp__law_part K m vs H Q E → vs.length = 4 := fun vs H Q E h => by
  obtain ⟨_, _, _, _, rfl, _⟩ := h
  rfl
theorem atI_last {xs : List V} (h : 0 < xs.length) : ∃ v, xs[xs.length - 1]? = some v ∧ atI xs (-1) = some v := by
  obtain ⟨v, hv⟩ := get_some (xs := xs) (i := xs.length - 1) (by omega)
  refine ⟨v, hv, ?_⟩
  unfold atI ixN
  rw [if_neg (by omega), if_pos (by omega), Option.bind_some, show ((-1 : Int) + (xs.length : Nat)).toNat = xs.length - 1 by omega]
  exact hv
theorem pure__law_part {K : PySem.W.Frag} {m : Nat} (vs : List V) (H : Hp) (Q : VK) (E : XK) (h : sp__law_part K (m + 1) vs H Q E) : t__law_part K m { nx := fun _ H' => Q .non H', rt := Q } (start ["state", "pairs", "levels", "room", "way", "name", "domain", "v", "inner", "parts", "used", "k"] vs) H := by
  obtain ⟨st, p, lv, rm, rfl, cs, few, ok, np, ⟨xs, hp, tp⟩, hf0, hfl, hfd, hl1, hl2, q⟩ := h
  have hxl : xs.length = few.length := by rw [tp.length, List.length_map]
  show t__law_part K m _ [some (.ref st), some (.ref p), some (.int lv), some (.int rm), none, none, none, none, none, none, none, none] H
  unfold t__law_part
  have leaf : ∀ (D : Ends) (H1 : Hp) (y4 : Option V), D.rt = Q → Go st cs H H1 → ((tSeq (tAsg (tCall (sp__law_pick K) [] E0 (tCons (tVar 0) (tCons (tVar 1) tNil))) (gTup K 2 (gCons (gName 5) (gCons (gName 6) gNil))))
  (tSeq (tAsg (tCall (sp__law_pick K) [] E0 (tCons (tVar 0) (tCons (tOp rCat (tCB (rListOf K) (tCons (tVar 6) tNil)) (tLst (tCons (tOp rSubI (tOp (rIxT K) (tVar 6) (tC (.int 0))) (tC (.int 1))) (tCons (tOp rAddI (tOp (rIxT K) (tVar 6) (tUn rNeg (tC (.int 1)))) (tC (.int 1))) (tCons (tOp rSubI (tCall (sp__law_take K) [] E0 (tCons (tVar 0) (tCons (tC (.int 401)) tNil))) (tC (.int 200))) tNil))))) tNil))) (gName 7))
  (tRet (tLst (tCons (tTup (tCons (tOp (rIxL K) (tLst (tCons (tC (.str "from")) (tCons (tC (.str "is")) tNil))) (tCall (sp__law_take K) [] E0 (tCons (tVar 0) (tCons (tC (.int 2)) tNil)))) (tCons (tVar 5) (tCons (tCB rMax2 (tCons (tUn rNeg (tC (.int 200))) (tCons (tCB rMin2 (tCons (tC (.int 200)) (tCons (tVar 7) tNil))) tNil))) tNil)))) (tCons (tC (.int 1)) tNil))))))) D [some (.ref st), some (.ref p), some (.int lv), some (.int rm), y4, none, none, none, none, none, none, none] H1 := by
    intro D H1 y4 hD g1
    walk_at "aw"
    refine ⟨st, p, rfl, cs, xs, g1.ok, .inl ⟨SqL.of (g1.keep np hp), np⟩, by omega, by omega, fun i v H2 hi g2 => ?_⟩
    obtain ⟨dt, z1, hx⟩ := tp.get hi
    rw [List.getElem?_map] at z1
    obtain ⟨q', z2, rfl⟩ := Option.map_eq_some_iff.mp z1
    obtain ⟨ia, ib, rfl, ea, eb⟩ := is_dom hx
    have hqm := List.mem_of_getElem? z2
    have hq := hfd q' hqm
    have g12 := g1.trans g2
    have eb2 := g12.tk _ _ eb
    refine w_gtup (SqT.of (g12.tk _ _ ea)) rfl ?_
    walk_at "aw"
    refine w_listOf (.inr (SqT.of eb2)) fun l H3 nl a3 e3 => ?_
    have g3 := g12.new a3
    walk_at "aw"
    obtain ⟨n0, hn0⟩ := get_some (xs := q'.2) (i := 0) hq.1
    refine w_ixT (SqT.of (a3.tup _ _ eb2)) (v := .int n0) (at_of (j := 0) rfl (by rw [List.getElem?_map, hn0]; rfl)) ?_
    walk_at "aw"
    obtain ⟨vl, hvl, hal⟩ := atI_last (xs := q'.2.map V.int) (by rw [List.length_map]; exact hq.1)
    obtain ⟨nl', rfl, _⟩ := int_mem hvl
    refine w_ixT (SqT.of (a3.tup _ _ eb2)) hal ?_
    walk_at "aw"
    refine ⟨st, _, rfl, cs, g3.ok, by omega, by omega, fun z H4 hz0 hz1 g4 => ?_⟩
    walk_at "aw"
    refine w_lstD (by simp) fun l5 H5 nl5 a5 e5 => ?_
    have g45 := g4.new a5
    have g35 := g3.trans g45
    refine w_cat (g45.keep (g12.ok.ne nl).1 e3) e5 (by rw [List.length_map]; simp; omega) fun l6 H6 nl6 a6 e6 => ?_
    have g36 := g35.new a6
    walk_at "aw"
    refine ⟨st, l6, rfl, cs, (q'.2 ++ [n0 - 1, nl' + 1, z - 200]).map V.int, g36.ok, .inl ⟨SqL.of (by rw [List.map_append]; exact e6), (g35.ok.ne nl6).1⟩, by simp, by rw [List.length_map, List.length_append]; simp; omega, fun j y H7 hy g7 => ?_⟩
    obtain ⟨n, rfl, _⟩ := int_mem hy
    have g37 := g36.trans g7
    walk_at "aw"
    refine pick2 atW rfl rfl rfl g37.ok fun b H8 g8 => ?_
    walk_at "aw"
    have g38 := g37.trans g8
    refine w_tupD (by simp) fun t9 H9 nt9 a9 e9 => ?_
    have g39 := g38.new a9
    walk_at "aw"
    refine w_lstD (by simp) fun r H10 nr a10 e10 => ?_
    rw [hD]
    refine q r _ 1 _ _ H10 (g39.new a10) (g39.free ok nr) e10 (.tup (a10.tup _ _ e9) (.cons (.str _) (.cons (.str _) (.cons (.int _) .nil)))) (.one b (List.mem_map_of_mem hqm))
  walk_at "aw"
  refine ⟨st, _, rfl, cs, ok, by omega, by omega, fun way H1 _ _ g1 => ?_⟩
  walk_at "aw"
  refine w_iteB (fun _ => ?_) fun hlv => ?_
  · refine iteT ?_
    exact leaf _ _ _ rfl g1
  walk_at "aw"
  refine w_iteB (fun _ => ?_) fun hrm => ?_
  · refine iteT ?_
    exact leaf _ _ _ rfl g1
  walk_at "aw"
  refine w_iteB (fun _ => ?_) fun hway => ?_
  · exact leaf _ _ _ rfl g1
  walk_at "aw"
  refine w_iteB (fun _ => ?_) fun hway => ?_
  · walk_at "aw"
    refine ⟨st, p, _, _, rfl, cs, few, g1.ok, np, ⟨xs, g1.keep np hp, tp.up g1.tk⟩, hf0, hfl, hfd, by omega, by omega, fun r v n D f H2 g2 nr er hv hc => ?_⟩
    walk_at "aw"
    refine w_ixL (SqL.of er) (i := 0) (v := v) rfl ?_
    walk_at "aw"
    refine w_tupD (by simp) fun t H3 nt a3 e3 => ?_
    have er3 := a3.keep _ _ (fun z => nomatch z) er
    walk_at "aw"
    refine w_ixL (SqL.of er3) (i := 1) (v := .int n) rfl ?_
    walk_at "aw"
    refine w_lstD (by simp) fun s H4 ns a4 e4 => ?_
    have g3 := (g1.trans g2).new a3
    exact q s _ _ _ _ H4 (g3.new a4) (g3.free ok ns) e4 (.tup (a4.tup _ _ e3) (.cons (.str _) (.cons ((hv.up a3.tup).up a4.tup) .nil))) (.neg hc)
  walk_at "aw"
  refine w_lstD (by simp) fun pl H2 npl a2 e2 => ?_
  have g2 := g1.new a2
  have npl0 : H pl = none := g1.free ok npl
  have nplst := (ok.ne npl0).1
  walk_at "aw"
  refine w_lstD (by simp) fun l3 H3 nl3 a3 e3 => ?_
  have g3 := g2.new a3
  walk_at "aw"
  refine ⟨st, l3, rfl, cs, [0, 1, 2, 2, 3, 4, 12].map V.int, g3.ok, .inl ⟨SqL.of e3, (g2.ok.ne nl3).1⟩, by simp, by simp, fun j y H4 hy g4 => ?_⟩
  obtain ⟨n, rfl, hnm⟩ := int_mem hy
  have hn : 0 ≤ n ∧ n ≤ 12 := by
    simp only [List.mem_cons, List.not_mem_nil, or_false] at hnm
    omega
  have g4' := g3.trans g4
  have epl : H4 pl = some (.lst []) := g4.keep nplst (a3.keep _ _ (fun z => nomatch z) e2)
  walk_at "aw"
  rw [show n = ((n.toNat : Nat) : Int) by omega]
  refine kForR_i (n := n.toNat) (by omega) (fun i σ H' => ∃ y8 us y11 vs ds fs, σ = [some (.ref st), some (.ref p), some (.int lv), some (.int rm), some (.int way), none, none, none, y8, some (.ref pl), some (.int us), y11] ∧ Go st cs H H' ∧ H' pl = some (.lst vs) ∧ IsAll H' ds vs ∧ ds.length = (fs : List (Wd → Bool)).length ∧ ds.length ≤ i ∧ ∀ (k : Nat) d f, ds[k]? = some d → fs[k]? = some f → ClD (few.map (·.1)) m d f)
    ⟨none, 1, none, [], [], [], rfl, g4', epl, .nil, rfl, Nat.le_refl _, fun k d f e => by simp at e⟩ (fun i σ H' hi pp => ?_) fun σ H' pp => ?_
  · obtain ⟨y8, us, y11, vs, ds, fs, rfl, g, ev, tv, hdf, hdl, hcl⟩ := pp
    have hvl := tv.length
    walk_at "aw"
    refine w_iteB (fun _ => ?_) fun _ => ?_
    · walk_at "aw"
      refine ⟨st, _, rfl, cs, g.ok, by omega, by omega, fun z H5 _ _ g5 => ?_⟩
      have g5' := g.trans g5
      walk_at "aw"
      refine ⟨st, p, _, _, rfl, cs, few, g5'.ok, np, ⟨xs, g5'.keep np hp, tp.up g5'.tk⟩, hf0, hfl, hfd, by omega, by omega, fun r v n D f H6 g6 nr er hv hc => ?_⟩
      have g56 := g5.trans g6
      have ev6 := g56.keep nplst ev
      have hrpl : r ≠ pl := (ne_of_none (g5.keep nplst ev) nr).symm
      walk_at "aw"
      refine w_app rfl ev6 ?_
      walk_at "aw"
      refine w_ixL (SqL.of er) (i := 0) (v := v) rfl ?_
      walk_at "aw"
      refine w_append ev6 (by omega) ?_
      have g6' := (g.trans g56).mutL (o := .lst (vs ++ [v])) ok npl0 ev6
      have t6 : TK H6 (upd H6 pl (.lst (vs ++ [v]))) := (Adv.lst ev6).tup
      walk_at "aw"
      refine w_ixL (SqL.of (show (upd H6 pl (.lst (vs ++ [v]))) r = _ by rw [upd_ne hrpl]; exact er)) (i := 1) (v := .int n) rfl ?_
      walk_at "aw"
      refine ⟨_, _, _, vs ++ [v], ds ++ [D], fs ++ [f], rfl, g6', upd_same, (tv.up (TK.trans g56.tk t6)).append (.cons (hv.up t6) .nil), by rw [List.length_append, List.length_append, hdf]; rfl, by rw [List.length_append]; exact Nat.succ_le_succ hdl, fun k d f' e1 e2 => ?_⟩
      by_cases hk : k < ds.length
      · rw [List.getElem?_append_left hk] at e1
        rw [List.getElem?_append_left (by omega)] at e2
        exact hcl k d f' e1 e2
      · rw [List.getElem?_append_right (by omega)] at e1 e2
        rw [← hdf] at e2
        cases hk2 : k - ds.length with
        | zero =>
          rw [hk2] at e1 e2
          simp at e1 e2
          subst e1 e2
          exact hc
        | succ k => rw [hk2] at e1; simp at e1
    · walk_at "aw"
      exact ⟨_, _, _, vs, ds, fs, rfl, g, ev, tv, hdf, by omega, hcl⟩
  · obtain ⟨y8, us, y11, vs, ds, fs, rfl, g, ev, tv, hdf, hdl, hcl⟩ := pp
    walk_at "aw"
    refine pick2 manyW rfl rfl rfl g.ok fun b H5 g5 => ?_
    have g5' := g.trans g5
    walk_at "aw"
    refine w_tupL (SqL.of (g5.keep nplst ev)) fun t H6 nt a6 e6 => ?_
    have g6 := g5'.new a6
    walk_at "aw"
    refine w_tupD (by simp) fun t7 H7 nt7 a7 e7 => ?_
    have g7 := g6.new a7
    walk_at "aw"
    refine w_lstD (by simp) fun r H8 nr a8 e8 => ?_
    have t68 : TK H6 H8 := TK.trans a7.tup a8.tup
    exact q r _ _ _ _ H8 (g7.new a8) (g7.free ok nr) e8 (.tup (a8.tup _ _ e7) (.cons (.str _) (.cons (.tup (t68 _ _ e6) (tv.up (TK.trans g5.tk (TK.trans a6.tup t68)))) .nil))) (.many b ds fs hdf (by omega) hcl)
end AW
namespace AW
open PySem PySem.Spec PyProof.Rows L2 RZ
local macro_rules | `(tactic| walk_at "aw1") => `(tactic| first
  | (with_reducible refine w_seq ?_) | (with_reducible refine w_asg ?_) | (with_reducible refine w_gname ?_) | (with_reducible refine w_op ?_) | (with_reducible refine w_un ?_)
  | ((with_reducible refine' w_var ?h ?_); (case h => rfl)) | (with_reducible refine w_c ?_)
  | (with_reducible refine w_I0 ?_) | (with_reducible refine w_U ?_) | (with_reducible refine w_cb ?_) | (with_reducible refine w_nil ?_) | (with_reducible refine w_cons ?_) | (with_reducible refine w_call ?_)
  | (with_reducible refine w_test ?_) | (with_reducible refine w_B ?_) | (with_reducible refine w_bl ?_) | (with_reducible refine w_not ?_) | (with_reducible refine w_yes ?_) | (with_reducible refine iteT ?_) | (with_reducible refine iteF ?_) | (with_reducible refine w_and ?_) | (with_reducible refine w_or ?_)
  | (with_reducible refine w_andV ?_) | (with_reducible refine w_orV ?_) | (with_reducible refine w_notV ?_) | (with_reducible refine w_if ?_)
  | (with_reducible refine w_int1 ?_) | (with_reducible refine w_int1b ?_) | (with_reducible refine w_abs ?_) | (with_reducible refine w_max2 ?_) | (with_reducible refine w_min2 ?_)
  | ((with_reducible refine w_eq ?h ?_); (case h => rfl)) | ((with_reducible refine w_ne ?h ?_); (case h => rfl)) | (with_reducible refine w_isN ?_) | (with_reducible refine w_isB ?_) | (with_reducible refine w_chain ?_)
  | (with_reducible refine w_ret ?_) | (with_reducible refine w_drop ?_) | (with_reducible refine w_ifS ?_) | (with_reducible refine w_gsub ?_) | (with_reducible refine w_augS ?_) | (with_reducible refine w_ipI ?_) | (with_reducible refine w_next ?_)
  | (with_reducible refine w_forR ?_) | (with_reducible refine w_forR2 ?_) | (with_reducible refine w_forL ?_) | (with_reducible refine w_forT ?_) | (with_reducible refine w_lcR ?_) | (with_reducible refine w_lcL ?_) | (with_reducible refine w_lcT ?_) | (with_reducible refine w_sl ?_) | (with_reducible refine w_part ?_) | (with_reducible refine w_noPart ?_) | (with_reducible refine w_in ?_)
  | (with_reducible refine w_gcons ?_) | (with_reducible refine w_gnil ?_) | (with_reducible refine w_lc3 ?_) | (with_reducible refine w_dcZ ?_) | (with_reducible refine w_dcT ?_) | (with_reducible refine w_dg ?_) | (with_reducible refine w_callK ?_) | (with_reducible refine w_dput ?_) | (with_reducible refine w_tup1 ?_)
  | (with_reducible refine w_tup ?_) | (with_reducible refine w_lst ?_)
  | ((with_reducible refine w_I ?h ?_); (case h => first | (exact Or.inr ⟨by decide, by decide⟩) | (exact Or.inl ⟨by decide, by decide⟩) | (show (0 : Int) < _; decide) | (exact ⟨by decide, by decide, by decide⟩) | assumption)))
local macro_rules | `(tactic| walk_at "aw") => `(tactic| repeat (walk_at "aw1"))
def sp__law_claim (_ : PySem.W.Frag) : Sp := fun vs H Q _ => ∃ (st p d : Addr), vs = [.ref st, .ref p, .ref d] ∧ ∃ (cs : Addr) (doms : List (Str × List Int)) (w : Str → Int), StOk st cs H ∧ p ≠ st ∧ LsAt H p (doms.map domD) ∧ WD H d (doms.map (·.1)) w ∧ 0 < doms.length ∧ doms.length ≤ 100 ∧ (∀ q ∈ doms, 0 < q.2.length ∧ q.2.length ≤ 100) ∧
  ∀ v D f H', Go st cs H H' → Is H' D v → ClD (doms.map (·.1)) 8 D f → Q v H'
theorem w_ifJ {c : TT} {A B : TS} {D : Ends} {σ : L2.St} {H : Hp} (R : L2.St → Hp → Prop) (h1 : ∀ D' : Ends, (∀ σ' H', R σ' H' → D'.nx σ' H') → tIfS c A B D' σ H) (h2 : ∀ σ' H', R σ' H' → D.nx σ' H') : tIfS c A B D σ H := h1 D h2
/-- the two, in one order or the other -/
theorem two_perm {H : Hp} {names : List Str} {m : Nat} {a b : V} {da db : PyData} {fa fb : Wd → Bool} {ys : List V} (hp : ys.Perm [a, b]) (h1 : Is H da a) (h2 : Is H db b) (c1 : ClD names m da fa) (c2 : ClD names m db fb) :
    ∃ ds fs, IsAll H ds ys ∧ ds.length = (fs : List (Wd → Bool)).length ∧ ds.length = 2 ∧ ∀ (i : Nat) d f, ds[i]? = some d → fs[i]? = some f → ClD names m d f := by
  have hl := hp.length_eq
  have key : ys = [a, b] ∨ ys = [b, a] := by
    cases ys with
    | nil => simp at hl
    | cons x xs =>
      cases xs with
      | nil => simp at hl
      | cons y ys =>
        have hn : ys = [] := by simpa using hl
        subst hn
        rcases List.mem_cons.mp (hp.mem_iff.mp (List.mem_cons_self ..) : x ∈ [a, b]) with rfl | hx
        · left
          have := hp.cons_inv
          rw [List.perm_singleton.mp this]
        · rw [List.mem_singleton.mp hx] at hp ⊢
          right
          have h3 : [b, y].Perm [b, a] := hp.trans (List.Perm.swap b a [])
          rw [List.perm_singleton.mp h3.cons_inv]
  rcases key with rfl | rfl
  · refine ⟨[da, db], [fa, fb], .cons h1 (.cons h2 .nil), rfl, rfl, fun i d f e1 e2 => ?_⟩
    match i with
    | 0 => simp at e1 e2; subst e1 e2; exact c1
    | 1 => simp at e1 e2; subst e1 e2; exact c2
    | i + 2 => simp at e1
  · refine ⟨[db, da], [fb, fa], .cons h2 (.cons h1 .nil), rfl, rfl, fun i d f e1 e2 => ?_⟩
    match i with
    | 0 => simp at e1 e2; subst e1 e2; exact c2
    | 1 => simp at e1 e2; subst e1 e2; exact c1
    | i + 2 => simp at e1
def t__law_claim (K : PySem.W.Frag) : TS := (tSeq (tAsg (tCall (sp__law_few K) [] E0 (tCons (tVar 0) (tCons (tVar 1) tNil))) (gName 3))
  (tSeq (tAsg (tOp (rIxL K) (tCall (sp__law_part K 4) [] E0 (tCons (tVar 0) (tCons (tVar 3) (tCons (tOp rAddI (tC (.int 1)) (tCall (sp__law_take K) [] E0 (tCons (tVar 0) (tCons (tC (.int 4)) tNil)))) (tCons (tCall (sp__law_pick K) [] E0 (tCons (tVar 0) (tCons (tLst (tCons (tC (.int 1)) (tCons (tC (.int 10)) (tCons (tC (.int 27)) tNil)))) tNil))) tNil))))) (tC (.int 0))) (gName 4))
  (tSeq (tAsg (tOp (rIxL K) (tVar 3) (tC (.int 0))) (gTup K 2 (gCons (gName 5) (gCons (gName 6) gNil))))
  (tSeq (tAsg (tTup (tCons (tOp (rIxL K) (tLst (tCons (tC (.str "from")) (tCons (tC (.str "is")) tNil))) (tCall (sp__law_take K) [] E0 (tCons (tVar 0) (tCons (tC (.int 2)) tNil)))) (tCons (tVar 5) (tCons (tCall (sp__law_pick K) [] E0 (tCons (tVar 0) (tCons (tVar 6) tNil))) tNil)))) (gName 7))
  (tSeq (tAsg (tVar 4) (gName 8))
  (tSeq (tIfS (tOr (tTest (tOp rGtI (tCall (sp__law_take K) [] E0 (tCons (tVar 0) (tCons (tC (.int 3)) tNil))) (tC (.int 0)))) (tNot (tB (tCall (sp__law_has_name K 8) [] E0 (tCons (tVar 4) tNil))))) (tAsg (tTup (tCons (tOp (rIxL K) (tLst (tCons (tC (.str "and")) (tCons (tC (.str "or")) tNil))) (tCall (sp__law_take K) [] E0 (tCons (tVar 0) (tCons (tC (.int 2)) tNil)))) (tCons (tThen (tCall (sp__law_shuffled K) [] E0 (tCons (tVar 0) (tCons (tLst (tCons (tVar 4) (tCons (tVar 7) tNil))) tNil))) (kTup K)) tNil))) (gName 8)) tNext)
  (tSeq (tIfS (tAnd (tNot (tB (tCall (sp__law_true K 8) [] E0 (tCons (tVar 8) (tCons (tVar 2) tNil))))) (tTest (tOp rEq (tCall (sp__law_take K) [] E0 (tCons (tVar 0) (tCons (tC (.int 2)) tNil))) (tC (.int 0))))) (tAsg (tTup (tCons (tC (.str "not")) (tCons (tVar 8) tNil))) (gName 8)) tNext)
  (tRet (tVar 8)))))))))
theorem len__law_claim {K : PySem.W.Frag} : ∀ (vs : List V) (H : Hp) (Q : VK) (E : XK), sp__law_claim K vs H Q E → vs.length = 3 := fun vs H Q E h => by
  obtain ⟨_, _, _, rfl, _⟩ := h
  rfl
theorem pure__law_claim {K : PySem.W.Frag} (vs : List V) (H : Hp) (Q : VK) (E : XK) (h : sp__law_claim K vs H Q E) : t__law_claim K { nx := fun _ H' => Q .non H', rt := Q } (start ["state", "doms", "at", "pairs", "body", "name", "domain", "one", "claim"] vs) H := by
  obtain ⟨st, p, d, rfl, cs, doms, w, ok, np, hp, hd, hd0, hdl, hdd, q⟩ := h
  show t__law_claim K _ [some (.ref st), some (.ref p), some (.ref d), none, none, none, none, none, none] H
  unfold t__law_claim
  walk_at "aw"
  refine ⟨st, p, rfl, cs, doms, ok, np, hp, hd0, hdl, hdd, fun f few H1 g1 nf hf hf0 hfl hfm => ?_⟩
  have nfst := (ok.ne nf).1
  walk_at "aw"
  refine ⟨st, _, rfl, cs, g1.ok, by omega, by omega, fun z H2 hz0 hz1 g2 => ?_⟩
  walk_at "aw"
  refine w_lstD (by simp) fun l3 H3 nl3 a3 e3 => ?_
  have g3 := g2.new a3
  walk_at "aw"
  refine ⟨st, l3, rfl, cs, [1, 10, 27].map V.int, g3.ok, .inl ⟨SqL.of e3, (g2.ok.ne nl3).1⟩, by simp, by simp, fun i y H4 hy g4 => ?_⟩
  obtain ⟨m, rfl, _⟩ := int_mem hy
  have g34 := g3.trans g4
  walk_at "aw"
  refine ⟨st, f, _, _, rfl, cs, few, g34.ok, nfst, hf.go nfst g34, hf0, hfl, fun q hq => hdd q (hfm q hq), by omega, by omega, fun r v n D fD H5 g5 nr er hv hc => ?_⟩
  have g15 := g34.trans g5
  have g05 := g1.trans g15
  walk_at "aw"
  refine w_ixL (SqL.of er) (i := 0) (v := v) rfl ?_
  walk_at "aw"
  obtain ⟨fs, ef, tf⟩ := hf.go nfst g15
  obtain ⟨u, hu⟩ := get_some (xs := fs) (i := 0) (by rw [tf.length, List.length_map]; exact hf0)
  obtain ⟨dt, z1, hx⟩ := tf.get hu
  rw [List.getElem?_map] at z1
  obtain ⟨q', z2, rfl⟩ := Option.map_eq_some_iff.mp z1
  obtain ⟨ia, ib, rfl, ea, eb⟩ := is_dom hx
  have hqm := List.mem_of_getElem? z2
  have hq := hdd q' (hfm q' hqm)
  have hsub : ∀ x ∈ few.map (·.1), x ∈ doms.map (·.1) := fun x h => by
    obtain ⟨a, h1, rfl⟩ := List.mem_map.mp h
    exact List.mem_map_of_mem (hfm a h1)
  refine w_ixL (SqL.of ef) (at_of (j := 0) rfl hu) ?_
  refine w_gtup (SqT.of ea) rfl ?_
  walk_at "aw"
  refine pick2 atW rfl rfl rfl g05.ok fun b H6 g6 => ?_
  walk_at "aw"
  have g06 := g05.trans g6
  refine ⟨st, ib, rfl, cs, _, g06.ok, .inr (g6.tk _ _ eb), by rw [List.length_map]; exact hq.1, by rw [List.length_map]; omega, fun j y H7 hy g7 => ?_⟩
  obtain ⟨n7, rfl, _⟩ := int_mem hy
  have g07 := g06.trans g7
  walk_at "aw"
  refine w_tupD (by simp) fun t8 H8 nt8 a8 e8 => ?_
  have g08 := g07.new a8
  have hone : Is H8 (.tuple [.str (atW b), .str q'.1, .int n7]) (.ref t8) := .tup e8 (.cons (.str _) (.cons (.str _) (.cons (.int _) .nil)))
  have cone : ClD (doms.map (·.1)) 5 (.tuple [.str (atW b), .str q'.1, .int n7]) _ := .one (m := 4) b (hsub _ (List.mem_map_of_mem hqm))
  have cbody : ClD (doms.map (·.1)) 5 D fD := (hc.mono hsub).le (by omega)
  have g58 : Go st cs H5 H8 := ((g6.trans g7).new a8)
  have hv8 := hv.up g58.tk
  refine w_gname ?_
  with_reducible refine w_seq ?_
  with_reducible refine w_asg ?_
  with_reducible refine' w_var ?h ?_
  case h => rfl
  with_reducible refine w_gname ?_
  with_reducible refine w_seq ?_
  refine w_ifJ (fun σ' H' => ∃ vc Dc fc, σ' = [some (.ref st), some (.ref p), some (.ref d), some (.ref f), some v, some (.str q'.1), some (.ref ib), some (.ref t8), some vc] ∧ Go st cs H8 H' ∧ Is H' Dc vc ∧ ClD (doms.map (·.1)) 6 Dc fc) (fun D' hD' => ?_) fun σ' H' hR => ?_
  · have blk : ∀ H9, Go st cs H8 H9 → ((tAsg (tTup (tCons (tOp (rIxL K) (tLst (tCons (tC (.str "and")) (tCons (tC (.str "or")) tNil))) (tCall (sp__law_take K) [] E0 (tCons (tVar 0) (tCons (tC (.int 2)) tNil)))) (tCons (tThen (tCall (sp__law_shuffled K) [] E0 (tCons (tVar 0) (tCons (tLst (tCons (tVar 4) (tCons (tVar 7) tNil))) tNil))) (kTup K)) tNil))) (gName 8))) D' [some (.ref st), some (.ref p), some (.ref d), some (.ref f), some v, some (.str q'.1), some (.ref ib), some (.ref t8), some v] H9 := by
      intro H9 g9
      walk_at "aw"
      refine pick2 manyW rfl rfl rfl g9.ok fun b2 H10 g10 => ?_
      walk_at "aw"
      refine w_lstD (by simp) fun l H11 nl a11 e11 => ?_
      have g11 := g10.new a11
      walk_at "aw"
      refine ⟨st, l, rfl, cs, _, g11.ok, SqL.of e11, (g10.ok.ne nl).1, by simp, fun o ys H12 hp12 no g12 eo => ?_⟩
      have g912 := g9.trans (g11.trans g12)
      obtain ⟨ds, fs, hds, hdf, hd2, hcl⟩ := two_perm hp12 (hv8.up g912.tk) (hone.up g912.tk) cbody cone
      walk_at "aw"
      refine w_tupL (SqL.of eo) fun t13 H13 nt13 a13 e13 => ?_
      walk_at "aw"
      refine w_tupD (by simp) fun t14 H14 nt14 a14 e14 => ?_
      walk_at "aw"
      refine hD' _ _ ⟨.ref t14, _, _, rfl, (g912.new a13).new a14, .tup e14 (.cons (.str _) (.cons (.tup (a14.tup _ _ e13) (hds.up (TK.trans a13.tup a14.tup))) .nil)), .many b2 ds fs hdf (by omega) hcl⟩
    walk_at "aw"
    refine ⟨st, _, rfl, cs, g08.ok, by omega, by omega, fun z9 H9 _ _ g9 => ?_⟩
    walk_at "aw"
    refine w_iteB (fun _ => ?_) fun _ => ?_
    · refine iteT ?_
      exact blk _ g9
    · walk_at "aw"
      refine ⟨v, rfl, D, fD, doms.map (·.1), st, cs, g9.ok, hv8.up g9.tk, cbody.le (by omega), fun b9 H10 g10 => ?_⟩
      walk_at "aw"
      cases b9 with
      | false =>
        refine w_nF ?_
        exact blk _ (g9.trans g10)
      | true =>
        refine w_nT ?_
        walk_at "aw"
        exact hD' _ _ ⟨v, D, fD, rfl, g9.trans g10, hv8.up (g9.trans g10).tk, cbody.le (by omega)⟩
  · obtain ⟨vc, Dc, fc, rfl, g9, hvc, hcc⟩ := hR
    have g09 := g08.trans g9
    walk_at "aw"
    refine ⟨vc, d, rfl, Dc, fc, doms.map (·.1), w, hvc, hd.go ok g09, hcc.le (by omega), fun H10 a10 => ?_⟩
    have g10 := g09.new a10
    walk_at "aw"
    cases hb : fc w with
    | true =>
      refine w_nT ?_
      refine iteF ?_
      walk_at "aw"
      exact q vc Dc fc H10 g10 (hvc.up a10.tup) (hcc.le (by omega))
    | false =>
      refine w_nF ?_
      walk_at "aw"
      refine ⟨st, _, rfl, cs, g10.ok, by omega, by omega, fun z11 H11 _ _ g11 => ?_⟩
      walk_at "aw"
      refine w_iteB (fun _ => ?_) fun _ => ?_
      · walk_at "aw"
        refine w_tupD (by simp) fun t12 H12 nt12 a12 e12 => ?_
        walk_at "aw"
        exact q _ _ _ H12 ((g10.trans g11).new a12) (.tup e12 (.cons (.str _) (.cons (((hvc.up a10.tup).up g11.tk).up a12.tup) .nil))) ((ClD.neg hcc).le (by omega))
      · walk_at "aw"
        exact q vc Dc fc H11 (g10.trans g11) ((hvc.up a10.tup).up g11.tk) (hcc.le (by omega))
end AW
namespace AW
open PySem PySem.Spec PyProof.Rows L2 RZ
local macro_rules | `(tactic| walk_at "aw1") => `(tactic| first
  | (with_reducible refine w_seq ?_) | (with_reducible refine w_asg ?_) | (with_reducible refine w_gname ?_) | (with_reducible refine w_op ?_) | (with_reducible refine w_un ?_)
  | ((with_reducible refine' w_var ?h ?_); (case h => rfl)) | (with_reducible refine w_c ?_)
  | (with_reducible refine w_I0 ?_) | (with_reducible refine w_U ?_) | (with_reducible refine w_cb ?_) | (with_reducible refine w_nil ?_) | (with_reducible refine w_cons ?_) | (with_reducible refine w_call ?_)
  | (with_reducible refine w_test ?_) | (with_reducible refine w_B ?_) | (with_reducible refine w_bl ?_) | (with_reducible refine w_not ?_) | (with_reducible refine w_yes ?_) | (with_reducible refine iteT ?_) | (with_reducible refine iteF ?_) | (with_reducible refine w_and ?_) | (with_reducible refine w_or ?_)
  | (with_reducible refine w_andV ?_) | (with_reducible refine w_orV ?_) | (with_reducible refine w_notV ?_) | (with_reducible refine w_if ?_)
  | (with_reducible refine w_int1 ?_) | (with_reducible refine w_int1b ?_) | (with_reducible refine w_abs ?_) | (with_reducible refine w_max2 ?_) | (with_reducible refine w_min2 ?_)
  | ((with_reducible refine w_eq ?h ?_); (case h => rfl)) | ((with_reducible refine w_ne ?h ?_); (case h => rfl)) | (with_reducible refine w_isN ?_) | (with_reducible refine w_isB ?_) | (with_reducible refine w_chain ?_)
  | (with_reducible refine w_ret ?_) | (with_reducible refine w_drop ?_) | (with_reducible refine w_ifS ?_) | (with_reducible refine w_gsub ?_) | (with_reducible refine w_augS ?_) | (with_reducible refine w_ipI ?_) | (with_reducible refine w_next ?_)
  | (with_reducible refine w_forR ?_) | (with_reducible refine w_forR2 ?_) | (with_reducible refine w_forL ?_) | (with_reducible refine w_forT ?_) | (with_reducible refine w_lcR ?_) | (with_reducible refine w_lcL ?_) | (with_reducible refine w_lcT ?_) | (with_reducible refine w_sl ?_) | (with_reducible refine w_part ?_) | (with_reducible refine w_noPart ?_) | (with_reducible refine w_in ?_)
  | (with_reducible refine w_gcons ?_) | (with_reducible refine w_gnil ?_) | (with_reducible refine w_lc3 ?_) | (with_reducible refine w_dcZ ?_) | (with_reducible refine w_dcT ?_) | (with_reducible refine w_dg ?_) | (with_reducible refine w_callK ?_) | (with_reducible refine w_dput ?_) | (with_reducible refine w_tup1 ?_)
  | (with_reducible refine w_tup ?_) | (with_reducible refine w_lst ?_)
  | ((with_reducible refine w_I ?h ?_); (case h => first | (exact Or.inr ⟨by decide, by decide⟩) | (exact Or.inl ⟨by decide, by decide⟩) | (show (0 : Int) < _; decide) | (exact ⟨by decide, by decide, by decide⟩) | assumption)))
local macro_rules | `(tactic| walk_at "aw") => `(tactic| repeat (walk_at "aw1"))
def sp__law_inner (_ : PySem.W.Frag) : Sp := fun vs H Q _ => ∃ (st p d : Addr), vs = [.ref st, .ref p, .ref d] ∧ ∃ (cs : Addr) (doms : List (Str × List Int)) (w : Str → Int), StOk st cs H ∧ p ≠ st ∧ LsAt H p (doms.map domD) ∧ WD H d (doms.map (·.1)) w ∧ (doms.map (·.1)).Nodup ∧ (∀ x ∈ doms.map (·.1), okS x) ∧ 2 ≤ doms.length ∧ doms.length ≤ 100 ∧ (∀ q ∈ doms, 0 < q.2.length ∧ q.2.length ≤ 100) ∧
  ∀ v (s : Say) H', Go st cs H H' → Is H' (sayD s) v → s.ok → s.isWhen = false → (∀ x ∈ s.names, x ∈ doms.map (·.1)) → Q v H'
/-- the list of items behind a list of values -/
theorem build {α : Type} {D : α → PyData} {H : Hp} : ∀ {ys : List V} {P : Nat → α → Prop}, (∀ (i : Nat) v, ys[i]? = some v → ∃ a, P i a ∧ Is H (D a) v) → ∃ as : List α, as.length = ys.length ∧ IsAll H (as.map D) ys ∧ ∀ (i : Nat) a, as[i]? = some a → P i a
  | [], _, _ => ⟨[], rfl, .nil, fun i a e => by simp at e⟩
  | y :: ys, P, h => by
    obtain ⟨a, h1, h2⟩ := h 0 y rfl
    obtain ⟨as, l, t, r⟩ := build (D := D) (ys := ys) (P := fun i a => P (i + 1) a) fun i v e => h (i + 1) v (by simpa using e)
    refine ⟨a :: as, by rw [List.length_cons, List.length_cons, l], .cons h2 t, fun i b e => ?_⟩
    cases i with
    | zero => simp at e; subst e; exact h1
    | succ i => exact r i b (by simpa using e)
theorem cut_mid (xs : List V) {a b : Nat} (h : a ≤ b) (hb : b ≤ xs.length) : cutV xs (some (a : Nat)) (some (b : Nat)) = (xs.drop a).take (b - a) := by
  unfold cutV
  rw [HT.sIx_nat, HT.sIx_nat, Nat.min_eq_left hb, Nat.min_eq_left (by omega)]
theorem w_dnewT {σ : L2.St} {H : Hp} {Q : VK} (q : ∀ r H', H r = none → Adv [] H H' → H' r = some (.dT []) → Q (.ref r) H') : tDNewT σ H Q := w_new q
theorem kDPutT_i {d b : Addr} {kvs : List (List L2.Key × V)} {k : List L2.Key} {v : V} {H : Hp} {N : Hp → Prop} (h : H d = some (.dT kvs)) (hb : H b = some (.tup (k.map kV))) (hl : kvs.length < 100000) (q : N (upd H d (.dT (putK kvs k v)))) : kDPut (.ref d) (.ref b) v H N :=
  ⟨d, _, rfl, DPut.t h hb (Nat.lt_of_lt_of_le hl (by decide)), q⟩
theorem Go.mutT {st cs f : Addr} {H H' : Hp} {o : HO} {xs : List (List L2.Key × V)} (a : Go st cs H H') (hs : StOk st cs H) (h : H f = none) (e : H' f = some (.dT xs)) : Go st cs H (upd H' f o) :=
  a.mut h e (fun _ z => by cases z) (hs.ne h).1 (hs.ne h).2
/-- the keys of a dict of rows -/
def Rows (kvs : List (List L2.Key × V)) : Prop := ∀ p ∈ kvs, ∃ ns : List Int, ns ≠ [] ∧ p.1 = ns.map Sum.inl
theorem Rows.put {kvs : List (List L2.Key × V)} (h : Rows kvs) {ns : List Int} (hn : ns ≠ []) {v : V} : Rows (putK kvs (ns.map Sum.inl) v) := by
  unfold putK
  split
  · intro p hp
    obtain ⟨p0, h1, rfl⟩ := List.mem_map.mp hp
    obtain ⟨ms, h2, h3⟩ := h p0 h1
    refine ⟨ms, h2, ?_⟩
    split <;> exact h3
  · intro p hp
    rcases List.mem_append.mp hp with h1 | h1
    · exact h p h1
    · rw [List.mem_singleton.mp h1]
      exact ⟨ns, hn, rfl⟩
theorem rows_isall {H : Hp} : ∀ {ps : List (Addr × List Int)}, (∀ p ∈ ps, RowIs H p) → IsAll H ((ps.map (·.2)).map rowD) (ps.map fun q => V.ref q.1)
  | [], _ => .nil
  | p :: ps, h => .cons (.tup (h p (List.mem_cons_self ..)).1 (IsAll.ints _)) (rows_isall fun q hq => h q (List.mem_cons_of_mem _ hq))
theorem w_ifEJ {c : TT} {a b : TE} {σ : L2.St} {H : Hp} {Q : VK} (R : V → Hp → Prop) (h1 : ∀ Q' : VK, (∀ v H', R v H' → Q' v H') → tIf c a b σ H Q') (h2 : ∀ v H', R v H' → Q v H') : tIf c a b σ H Q := h1 Q h2
def t__law_inner (K : PySem.W.Frag) : TS := (tSeq (tAsg (tLc (iList K (tCall (sp__law_shuffled K) [] E0 (tCons (tVar 0) (tCons (tVar 1) tNil)))) (gName 4) tYes (tOp (rIxT K) (tVar 4) (tC (.int 0))) [4]) (gName 3))
  (tSeq (tAsg (tCall (sp__law_pick K) [] E0 (tCons (tVar 0) (tCons (tLst (tCons (tC (.str "least")) (tCons (tC (.str "unlike")) (tCons (tC (.str "top")) (tCons (tC (.str "ahead")) (tCons (tC (.str "counts")) (tCons (tC (.str "table")) (tCons (tC (.str "bar")) (tCons (tC (.str "claim")) tNil))))))))) tNil))) (gName 5))
  (tSeq (tAsg (tOp rAddI (tC (.int 1)) (tCall (sp__law_take K) [] E0 (tCons (tVar 0) (tCons (tCB rMin2 (tCons (tC (.int 6)) (tCons (tOp rDivI (tCB (rLen1 K) (tCons (tVar 3) tNil)) (tC (.int 2))) tNil))) tNil)))) (gName 6))
  (tSeq (tAsg (tThen (tSl (rSlL K) (tVar 3) tNoPart (tPart (tVar 6))) (kTup K)) (gName 7))
  (tSeq (tIfS (tTest (tOp rEq (tVar 5) (tC (.str "claim")))) (tRet (tTup (tCons (tVar 5) (tCons (tCall (sp__law_claim K) [] E0 (tCons (tVar 0) (tCons (tVar 1) (tCons (tVar 2) tNil)))) tNil)))) tNext)
  (tSeq (tIfS (tTest (tOp rEq (tVar 5) (tC (.str "least")))) (tSeq (tAsg (tThen (tLc (iTup K (tVar 7)) (gName 9) tYes (tTup (tCons (tVar 9) (tCons (tOp (rIxL K) (tLst (tCons (tC (.int 1)) (tCons (tUn rNeg (tC (.int 1))) (tCons (tC (.int 3)) (tCons (tUn rNeg (tC (.int 100))) tNil))))) (tCall (sp__law_take K) [] E0 (tCons (tVar 0) (tCons (tC (.int 4)) tNil)))) tNil))) [9]) (kTup K)) (gName 8))
  (tRet (tTup (tCons (tVar 5) (tCons (tVar 8) (tCons (tOp rSubI (tOp rAddI (tCB (rSum K) (tCons (tLc (iTup K (tVar 8)) (gName 10) tYes (tOp rMulI (tOp (rIxT K) (tVar 10) (tC (.int 1))) (tDGet (tVar 2) (tOp (rIxT K) (tVar 10) (tC (.int 0))))) [10]) tNil)) (tCall (sp__law_take K) [] E0 (tCons (tVar 0) (tCons (tC (.int 3)) tNil)))) (tC (.int 1))) tNil)))))) tNext)
  (tSeq (tIfS (tTest (tOp rEq (tVar 5) (tC (.str "unlike")))) (tRet (tTup (tCons (tVar 5) (tCons (tVar 7) tNil)))) tNext)
  (tSeq (tIfS (tTest (tOp rEq (tVar 5) (tC (.str "top")))) (tRet (tTup (tCons (tVar 5) (tCons (tVar 7) (tCons (tOp (rIxL K) (tVar 3) (tVar 6)) tNil))))) tNext)
  (tSeq (tIfS (tTest (tOp rEq (tVar 5) (tC (.str "ahead")))) (tRet (tTup (tCons (tVar 5) (tCons (tVar 7) (tCons (tThen (tSl (rSlL K) (tVar 3) (tPart (tVar 6)) (tPart (tOp rMulI (tC (.int 2)) (tVar 6)))) (kTup K)) tNil))))) tNext)
  (tSeq (tIfS (tTest (tOp rEq (tVar 5) (tC (.str "counts")))) (tRet (tTup (tCons (tVar 5) (tCons (tVar 7) (tCons (tTup (tCons (tTup (tCons (tDGet (tVar 2) (tOp (rIxT K) (tVar 7) (tC (.int 0)))) (tCons (tCall (sp__law_take K) [] E0 (tCons (tVar 0) (tCons (tC (.int 2)) tNil))) (tCons (tOp rAddI (tC (.int 1)) (tCall (sp__law_take K) [] E0 (tCons (tVar 0) (tCons (tC (.int 3)) tNil)))) tNil)))) tNil)) tNil))))) tNext)
  (tSeq (tAsg (tThen (tSl (rSlL K) (tLc (iList K (tCall (sp__law_few K) [] E0 (tCons (tVar 0) (tCons (tVar 1) tNil)))) (gName 4) tYes (tOp (rIxT K) (tVar 4) (tC (.int 0))) [4]) tNoPart (tPart (tC (.int 6)))) (kTup K)) (gName 7))
  (tSeq (tAsg tDNewT (gName 11))
  (tSeq (tFor (iRng1 (tCons (tCall (sp__law_take K) [] E0 (tCons (tVar 0) (tCons (tC (.int 5)) tNil))) tNil)) (gName 12)
  (sDPut (tVar 11) (tThen (tLc (iTup K (tVar 7)) (gName 9) tYes (tIf (tTest (tOp rGtI (tCall (sp__law_take K) [] E0 (tCons (tVar 0) (tCons (tC (.int 3)) tNil))) (tC (.int 0)))) (tDGet (tVar 2) (tVar 9)) (tOp rSubI (tCall (sp__law_take K) [] E0 (tCons (tVar 0) (tCons (tC (.int 401)) tNil))) (tC (.int 200)))) [9]) (kTup K)) (tC (.bl true))))
  (tRet (tTup (tCons (tVar 5) (tCons (tVar 7) (tCons (tThen (tCB rSortDT (tCons (tVar 11) tNil)) (kTup K)) tNil))))))))))))))))))
theorem len__law_inner {K : PySem.W.Frag} : ∀ (vs : List V) (H : Hp) (Q : VK) (E : XK), sp__law_inner K vs H Q E → vs.length = 3 := fun vs H Q E h => by
  obtain ⟨_, _, _, rfl, _⟩ := h
  rfl
theorem pure__law_inner {K : PySem.W.Frag} (vs : List V) (H : Hp) (Q : VK) (E : XK) (h : sp__law_inner K vs H Q E) : t__law_inner K { nx := fun _ H' => Q .non H', rt := Q } (start ["state", "doms", "at", "row", "pair", "kind", "many", "xs", "terms", "x", "term", "rows", "k"] vs) H := by
  obtain ⟨st, dq, d, rfl, cs, doms, w, ok, nq, ⟨ds, hq, tq⟩, hd, hnd, hok, hd2, hdl, hdd, q⟩ := h
  have hdsl : ds.length = doms.length := by rw [tq.length, List.length_map]
  show t__law_inner K _ [some (.ref st), some (.ref dq), some (.ref d), none, none, none, none, none, none, none, none, none, none] H
  unfold t__law_inner
  walk_at "aw"
  refine ⟨st, dq, rfl, cs, ds, ok, SqL.of hq, nq, by omega, fun o zs H5 hp5 no g5 eo => ?_⟩
  obtain ⟨es, hes, tz⟩ := tq.shuf hp5.symm
  replace tz := tz.up g5.tk
  have hzl : zs.length = es.length := by rw [tz.length, List.length_map]
  have hel := hes.length_eq
  refine ⟨o, rfl, ⟨_, SqL.of eo⟩, ?_⟩
  refine kLc_pure (walk_list (xs := zs)) (by omega) (fun H' g => SqL.of (g.keep _ _ (fun z => nomatch z) eo)) (fun _ => true) (fun i => .str (es.getD i (nix, [])).1) (fun i x H2 H3 Kt Kf hi g2 y kt kf => ?_) fun p H6 np a6 ep => ?_
  · obtain ⟨rfl, y1⟩ := y
    obtain ⟨dt, z1, hx⟩ := tz.get y1
    rw [List.getElem?_map] at z1
    obtain ⟨q', z2, rfl⟩ := Option.map_eq_some_iff.mp z1
    obtain ⟨ia, ib, rfl, ea, _⟩ := is_dom hx
    rw [getD_of z2] at kt
    walk_at "aw"
    refine ⟨rfl, ?_⟩
    walk_at "aw"
    refine w_ixT (SqT.of (g2.tup _ _ ea)) rfl ?_
    exact kt rfl _ (.refl _ _)
  generalize hrs : es.map (·.1) = rs
  replace ep : H6 p = some (.lst (rs.map V.str)) := by
    rw [filter_true, hzl] at ep
    rw [ep, ← hrs, List.map_map, ← map_range es (nix, [])]
    rfl
  have hrsn : rs.Nodup := by rw [← hrs]; exact (hes.map _).nodup_iff.mpr hnd
  have hrsl : rs.length = doms.length := by rw [← hrs, List.length_map, hel]
  have hrsm : ∀ x, x ∈ rs → x ∈ doms.map (·.1) := fun x => by rw [← hrs]; exact (hes.map _).mem_iff.mp
  have g6 := g5.new a6
  have npst : p ≠ st := (g5.ok.ne np).1
  have ok6 := g6.ok
  clear a6 np eo hp5 no tz hes hzl hel hrs
  walk_at "aw"
  refine w_lstD (by simp) fun l7 H7 nl7 a7 e7 => ?_
  have g7 := g6.new a7
  walk_at "aw"
  refine ⟨st, l7, rfl, cs, _, g7.ok, .inl ⟨SqL.of e7, (ok6.ne nl7).1⟩, by simp, by simp, fun j y H8 hy g8 => ?_⟩
  obtain ⟨kd, rfl, hkd⟩ : ∃ kd : Str, y = .str kd ∧ (kd = "claim" ∨ kd = "least" ∨ kd = "unlike" ∨ kd = "top" ∨ kd = "ahead" ∨ kd = "counts" ∨ ∃ b, kd = tabW b) := by
    have hm := List.mem_of_getElem? hy
    simp only [List.mem_cons, List.not_mem_nil, or_false] at hm
    rcases hm with h | h | h | h | h | h | h | h
    · exact ⟨_, h, .inr (.inl rfl)⟩
    · exact ⟨_, h, .inr (.inr (.inl rfl))⟩
    · exact ⟨_, h, .inr (.inr (.inr (.inl rfl)))⟩
    · exact ⟨_, h, .inr (.inr (.inr (.inr (.inl rfl))))⟩
    · exact ⟨_, h, .inr (.inr (.inr (.inr (.inr (.inl rfl)))))⟩
    · exact ⟨_, h, .inr (.inr (.inr (.inr (.inr (.inr ⟨true, rfl⟩)))))⟩
    · exact ⟨_, h, .inr (.inr (.inr (.inr (.inr (.inr ⟨false, rfl⟩)))))⟩
    · exact ⟨_, h, .inl rfl⟩
  have g78 := (Go.of ok6 a7).trans g8
  have g08 := g6.trans g78
  have ep8 := g78.keep npst ep
  walk_at "aw"
  refine w_lenL (SqL.of ep8) ?_
  rw [List.length_map]
  walk_at "aw"
  refine w_I ⟨by decide, by decide⟩ ?_
  walk_at "aw"
  refine ⟨st, _, rfl, cs, g08.ok, by split <;> omega, by split <;> omega, fun z H9 hz0 hz1 g9 => ?_⟩
  have hz : z < 6 ∧ z < (rs.length : Nat) / 2 := by split at hz1 <;> omega
  obtain ⟨M, hM⟩ : ∃ M : Nat, (1 : Int) + z = (M : Nat) := ⟨(1 + z).toNat, by omega⟩
  have hM1 : 1 ≤ M ∧ M ≤ 6 ∧ 2 * M ≤ rs.length := by omega
  have g09 := g08.trans g9
  have ep9 := g9.keep npst ep8
  walk_at "aw"
  rw [hM]
  refine w_slL (SqL.of ep9) fun r H10 nr a10 e10 => ?_
  rw [cut_to _ (by omega), ← List.map_take, Int.toNat_natCast] at e10
  generalize hXS : rs.take M = XS at e10
  have hX0 : XS.length = M := by rw [← hXS, List.length_take]; omega
  have hXm : ∀ x ∈ XS, x ∈ doms.map (·.1) := fun x hx => hrsm x (List.mem_of_mem_take (by rw [hXS]; exact hx))
  walk_at "aw"
  refine w_tupL (SqL.of e10) fun xa H11 nxa a11 e11 => ?_
  have g11 := (g09.new a10).new a11
  have hp11 : H11 p = some (.lst (rs.map V.str)) := a11.keep _ _ (fun z => nomatch z) (a10.keep _ _ (fun z => nomatch z) ep9)
  have hd11 := hd.go ok g11
  have ok11 := g11.ok
  have hq11 := g11.keep nq hq
  have tq11 := tq.up g11.tk
  refine w_gname ?_
  rcases hkd with rfl | rfl | rfl | rfl | rfl | rfl | ⟨b, rfl⟩
  · -- claim
    walk_at "aw"
    refine w_iteB (fun _ => ?_) fun h => absurd rfl h
    walk_at "aw"
    refine ⟨st, dq, d, rfl, cs, doms, w, ok11, nq, ⟨ds, hq11, tq11⟩, hd11, by omega, hdl, hdd, fun v D f H12 g12 hv hc => ?_⟩
    walk_at "aw"
    refine w_tupD (by simp) fun t H13 nt a13 e13 => ?_
    exact q _ (.claim D f (List.map (fun (x : Str × List Int) => x.1) doms)) H13 ((g11.trans g12).new a13) (.tup e13 (.cons (.str _) (.cons (hv.up a13.tup) .nil))) hc rfl (fun x h => h)
  · -- least
    walk_at "aw"
    refine w_iteB (fun h => absurd h (by decide)) fun _ => ?_
    walk_at "aw"
    refine w_iteB (fun _ => ?_) fun h => absurd rfl h
    walk_at "aw"
    refine kLcT_all (xs := XS.map V.str) e11 (by rw [List.length_map]; omega) ok11 (fun k v H => ∃ t : Str × Int, (XS[k]? = some t.1 ∧ wt t.2) ∧ Is H (trD t) v) (fun k v H H' t h => by
      obtain ⟨m, h1, h2⟩ := h
      exact ⟨m, h1, h2.up t⟩) (fun k v H12 Kt hk g12 kt => ?_) fun l H12 ys nl g12 el hyl hyr => ?_
    · rw [List.getElem?_map] at hk
      obtain ⟨x, z1, rfl⟩ := Option.map_eq_some_iff.mp hk
      walk_at "aw"
      refine ⟨rfl, ?_⟩
      walk_at "aw"
      refine w_lstD (by simp) fun l13 H13 nl13 a13 e13 => ?_
      have g13 := g12.new a13
      walk_at "aw"
      refine ⟨st, _, rfl, cs, g13.ok, by omega, by omega, fun zz H14 hzz0 hzz1 g14 => ?_⟩
      obtain ⟨n, hn⟩ := get_some (xs := ([1, -1, 3, -100] : List Int)) (i := zz.toNat) (by simp; omega)
      have hwn : wt n := by
        have := List.mem_of_getElem? hn
        simp only [List.mem_cons, List.not_mem_nil, or_false] at this
        rcases this with rfl | rfl | rfl | rfl <;> exact ⟨by decide, by decide⟩
      have e14 := g14.keep (g12.ok.ne nl13).1 e13
      refine w_ixL (xs := ([1, -1, 3, -100] : List Int).map V.int) (SqL.of e14) (v := .int n) (at_nat hzz0 (by rw [List.getElem?_map, hn]; rfl)) ?_
      walk_at "aw"
      refine w_tupD (by simp) fun t H15 nt a15 e15 => ?_
      exact kt _ _ (((Go.of g12.ok a13).trans g14).new a15) ⟨(x, n), ⟨z1, hwn⟩, .tup e15 (.cons (.str _) (.cons (.int _) .nil))⟩
    obtain ⟨ts, htl, hta, htp⟩ := build (D := trD) (P := fun k t => XS[k]? = some t.1 ∧ wt t.2) hyr
    rw [List.length_map] at hyl
    have htm : ∀ t ∈ ts, t.1 ∈ doms.map (·.1) ∧ wt t.2 := fun t ht => by
      obtain ⟨i, hi, rfl⟩ := List.mem_iff_getElem.mp ht
      have := htp i _ (List.getElem?_eq_getElem hi)
      exact ⟨hXm _ (List.mem_of_getElem? this.1), this.2⟩
    walk_at "aw"
    refine w_tupL (SqL.of el) fun ta H13 nta a13 e13 => ?_
    have g13 := (g11.trans g12).new a13
    have hta13 := hta.up a13.tup
    have hd13 := hd.go ok g13
    walk_at "aw"
    refine ⟨ta, rfl, ⟨_, SqT.of e13⟩, ?_⟩
    refine kLc_pure (walk_tup (xs := ys)) (by omega) (fun H' g => SqT.of (g.tup _ _ e13)) (fun _ => true) (fun i => .int ((ts.getD i (nix, 0)).2 * w (ts.getD i (nix, 0)).1)) (fun i x H2 H3 Kt Kf hi g2 y kt kf => ?_) fun l2 H14 np g14 el2 => ?_
    · obtain ⟨rfl, y1⟩ := y
      obtain ⟨dt, z1, h1⟩ := hta13.get y1
      rw [List.getElem?_map] at z1
      obtain ⟨t, z2, rfl⟩ := Option.map_eq_some_iff.mp z1
      obtain ⟨ia, rfl, ei⟩ := is_pair h1
      have hm := htm t (List.mem_of_getElem? z2)
      rw [getD_of z2] at kt
      walk_at "aw"
      refine ⟨rfl, ?_⟩
      walk_at "aw"
      refine w_ixT (SqT.of (g2.tup _ _ ei)) rfl ?_
      walk_at "aw"
      refine w_ixT (SqT.of (g2.tup _ _ ei)) rfl ?_
      refine (hd13.up g2).get hm.1 ?_
      refine w_I (.inl hm.2) ?_
      exact kt rfl _ (.refl _ _)
    have e2 : H14 l2 = some (.lst ((ts.map fun t => t.2 * w t.1).map V.int)) := by
      rw [List.map_map, ← map_range ts (nix, 0)]
      rw [filter_true, ← htl] at el2
      exact el2
    have g014 := g13.new g14
    walk_at "aw"
    refine ⟨l2, _, rfl, SqL.of e2, ?_⟩
    walk_at "aw"
    refine ⟨st, _, rfl, cs, g014.ok, by omega, by omega, fun z3 H15 _ _ g15 => ?_⟩
    walk_at "aw"
    refine w_tupD (by simp) fun t H16 nt a16 e16 => ?_
    have t1316 : TK H13 H16 := TK.trans g14.tup (TK.trans g15.tk a16.tup)
    exact q _ (.sums true ts _) H16 ((g014.trans g15).new a16) (.tup e16 (.cons (.str _) (.cons (.tup (t1316 _ _ e13) (hta13.up t1316)) (.cons (.int _) .nil)))) ⟨rfl, by omega, fun t ht => (htm t ht).2⟩ rfl (fun x hx => by
      obtain ⟨t, ht, rfl⟩ := List.mem_map.mp hx
      exact (htm t ht).1)
  · -- unlike
    walk_at "aw"
    refine w_iteB (fun h => absurd h (by decide)) fun _ => ?_
    walk_at "aw"
    refine w_iteB (fun h => absurd h (by decide)) fun _ => ?_
    walk_at "aw"
    refine w_iteB (fun _ => ?_) fun h => absurd rfl h
    walk_at "aw"
    refine w_tupD (by simp) fun t H12 nt a12 e12 => ?_
    exact q _ (.unlike XS) H12 (g11.new a12) (.tup e12 (.cons (.str _) (.cons (.tup (a12.tup _ _ e11) (IsAll.strs _)) .nil))) (show XS.length ≤ 100 by omega) rfl hXm
  · -- top
    walk_at "aw"
    refine w_iteB (fun h => absurd h (by decide)) fun _ => ?_
    walk_at "aw"
    refine w_iteB (fun h => absurd h (by decide)) fun _ => ?_
    walk_at "aw"
    refine w_iteB (fun h => absurd h (by decide)) fun _ => ?_
    walk_at "aw"
    refine w_iteB (fun _ => ?_) fun h => absurd rfl h
    walk_at "aw"
    obtain ⟨x, hx⟩ := get_some (xs := rs) (i := M) (by omega)
    refine w_ixL (SqL.of hp11) (v := .str x) (at_of (j := M) rfl (by rw [List.getElem?_map, hx]; rfl)) ?_
    walk_at "aw"
    refine w_tupD (by simp) fun t H12 nt a12 e12 => ?_
    refine q _ (.top XS x) H12 (g11.new a12) (.tup e12 (.cons (.str _) (.cons (.tup (a12.tup _ _ e11) (IsAll.strs _)) (.cons (.str _) .nil)))) ⟨by omega, by omega, fun y hy => hok y (hXm y hy)⟩ rfl (fun y hy => ?_)
    rcases List.mem_cons.mp hy with rfl | h
    · exact hrsm _ (List.mem_of_getElem? hx)
    · exact hXm _ h
  · -- ahead
    walk_at "aw"
    refine w_iteB (fun h => absurd h (by decide)) fun _ => ?_
    walk_at "aw"
    refine w_iteB (fun h => absurd h (by decide)) fun _ => ?_
    walk_at "aw"
    refine w_iteB (fun h => absurd h (by decide)) fun _ => ?_
    walk_at "aw"
    refine w_iteB (fun h => absurd h (by decide)) fun _ => ?_
    walk_at "aw"
    refine w_iteB (fun _ => ?_) fun h => absurd rfl h
    walk_at "aw"
    rw [show (2 : Int) * (M : Nat) = ((2 * M : Nat) : Int) by omega]
    refine w_slL (SqL.of hp11) fun l2 H12 nl2 a12 e12 => ?_
    rw [cut_mid _ (by omega) (by rw [List.length_map]; omega), ← List.map_drop, ← List.map_take] at e12
    generalize hYS : (rs.drop M).take (2 * M - M) = YS at e12
    have hY0 : YS.length = M := by rw [← hYS, List.length_take, List.length_drop]; omega
    have hYm : ∀ x ∈ YS, x ∈ doms.map (·.1) := fun x hx => hrsm x (List.mem_of_mem_drop (List.mem_of_mem_take (by rw [hYS]; exact hx)))
    walk_at "aw"
    refine w_tupL (SqL.of e12) fun ya H13 nya a13 e13 => ?_
    walk_at "aw"
    refine w_tupD (by simp) fun t H14 nt a14 e14 => ?_
    refine q _ (.ahead XS YS) H14 (((g11.new a12).new a13).new a14) (.tup e14 (.cons (.str _) (.cons (.tup (a14.tup _ _ (a13.tup _ _ (a12.tup _ _ e11))) (IsAll.strs _)) (.cons (.tup (a14.tup _ _ e13) (IsAll.strs _)) .nil)))) ⟨by omega, by omega⟩ rfl (fun y hy => ?_)
    rcases List.mem_append.mp hy with h | h
    · exact hXm _ h
    · exact hYm _ h
  · -- counts
    walk_at "aw"
    refine w_iteB (fun h => absurd h (by decide)) fun _ => ?_
    walk_at "aw"
    refine w_iteB (fun h => absurd h (by decide)) fun _ => ?_
    walk_at "aw"
    refine w_iteB (fun h => absurd h (by decide)) fun _ => ?_
    walk_at "aw"
    refine w_iteB (fun h => absurd h (by decide)) fun _ => ?_
    walk_at "aw"
    refine w_iteB (fun h => absurd h (by decide)) fun _ => ?_
    walk_at "aw"
    refine w_iteB (fun _ => ?_) fun h => absurd rfl h
    walk_at "aw"
    obtain ⟨x, hx⟩ := get_some (xs := XS) (i := 0) (by omega)
    refine w_ixT (SqT.of e11) (v := .str x) (at_of (j := 0) rfl (by rw [List.getElem?_map, hx]; rfl)) ?_
    refine hd11.get (hXm x (List.mem_of_getElem? hx)) ?_
    walk_at "aw"
    refine ⟨st, _, rfl, cs, ok11, by omega, by omega, fun z2 H12 _ _ g12 => ?_⟩
    walk_at "aw"
    refine ⟨st, _, rfl, cs, g12.ok, by omega, by omega, fun z3 H13 _ _ g13 => ?_⟩
    walk_at "aw"
    refine w_tupD (by simp) fun t1 H14 nt1 a14 e14 => ?_
    walk_at "aw"
    refine w_tupD (by simp) fun t2 H15 nt2 a15 e15 => ?_
    walk_at "aw"
    refine w_tupD (by simp) fun t3 H16 nt3 a16 e16 => ?_
    have g1113 := g12.trans g13
    refine q _ (.counts XS [(w x, z2, 1 + z3)]) H16 ((((g11.trans g1113).new a14).new a15).new a16) (.tup e16 (.cons (.str _) (.cons (.tup (a16.tup _ _ (a15.tup _ _ (a14.tup _ _ (g1113.tk _ _ e11)))) (IsAll.strs _)) (.cons (.tup (a16.tup _ _ e15) (.cons (.tup (a16.tup _ _ (a15.tup _ _ e14)) (.cons (.int _) (.cons (.int _) (.cons (.int _) .nil)))) .nil)) .nil)))) ⟨by omega, by simp⟩ rfl hXm
  · -- tables, bars
    walk_at "aw"
    refine w_iteB (fun h => absurd h (by cases b <;> decide)) fun _ => ?_
    walk_at "aw"
    refine w_iteB (fun h => absurd h (by cases b <;> decide)) fun _ => ?_
    walk_at "aw"
    refine w_iteB (fun h => absurd h (by cases b <;> decide)) fun _ => ?_
    walk_at "aw"
    refine w_iteB (fun h => absurd h (by cases b <;> decide)) fun _ => ?_
    walk_at "aw"
    refine w_iteB (fun h => absurd h (by cases b <;> decide)) fun _ => ?_
    walk_at "aw"
    refine w_iteB (fun h => absurd h (by cases b <;> decide)) fun _ => ?_
    walk_at "aw"
    refine ⟨st, dq, rfl, cs, doms, ok11, nq, ⟨ds, hq11, tq11⟩, by omega, hdl, hdd, fun f few H12 g12 nf hf hf0 hfl hfm => ?_⟩
    obtain ⟨fs, ef, tf⟩ := hf
    have hfs : fs.length = few.length := by rw [tf.length, List.length_map]
    refine ⟨f, rfl, ⟨_, SqL.of ef⟩, ?_⟩
    refine kLc_pure (walk_list (xs := fs)) (by omega) (fun H' g => SqL.of (g.keep _ _ (fun z => nomatch z) ef)) (fun _ => true) (fun i => .str (few.getD i (nix, [])).1) (fun i x H2 H3 Kt Kf hi g2 y kt kf => ?_) fun l H13 nl a13 el => ?_
    · obtain ⟨rfl, y1⟩ := y
      obtain ⟨dt, z1, hx⟩ := tf.get y1
      rw [List.getElem?_map] at z1
      obtain ⟨q', z2, rfl⟩ := Option.map_eq_some_iff.mp z1
      obtain ⟨ia, ib, rfl, ea, _⟩ := is_dom hx
      rw [getD_of z2] at kt
      walk_at "aw"
      refine ⟨rfl, ?_⟩
      walk_at "aw"
      refine w_ixT (SqT.of (g2.tup _ _ ea)) rfl ?_
      exact kt rfl _ (.refl _ _)
    replace el : H13 l = some (.lst ((few.map (·.1)).map V.str)) := by
      rw [filter_true, hfs] at el
      rw [el, List.map_map, ← map_range few (nix, [])]
      rfl
    walk_at "aw"
    refine w_slL (SqL.of el) fun l2 H14 nl2 a14 e14 => ?_
    rw [cut_to _ (by omega), ← List.map_take] at e14
    generalize hYS : (few.map (·.1)).take (Int.toNat 6) = YS at e14
    have hY0 : 0 < YS.length ∧ YS.length ≤ 6 := by rw [← hYS, List.length_take, List.length_map]; omega
    have hYm : ∀ x ∈ YS, x ∈ doms.map (·.1) := fun x hx => by
      have := List.mem_of_mem_take (by rw [hYS]; exact hx)
      obtain ⟨a, h1, rfl⟩ := List.mem_map.mp this
      exact List.mem_map_of_mem (hfm a h1)
    walk_at "aw"
    refine w_tupL (SqL.of e14) fun ya H15 nya a15 e15 => ?_
    have g15 := (((g11.trans g12).new a13).new a14).new a15
    walk_at "aw"
    refine w_dnewT fun dr H16 ndr a16 e16 => ?_
    have g16 := g15.new a16
    walk_at "aw"
    refine ⟨st, _, rfl, cs, g16.ok, by omega, by omega, fun z17 H17 hz170 hz171 g17 => ?_⟩
    rw [show z17 = ((z17.toNat : Nat) : Int) by omega]
    have ndrst := (g15.ok.ne ndr).1
    have e17 := g17.keep ndrst e16
    have g1517 := (Go.of g15.ok a16).trans g17
    refine kForR_i (n := z17.toNat) (by omega) (fun i σ H' => ∃ y9 y12 kvs, σ = [some (.ref st), some (.ref dq), some (.ref d), some (.ref p), none, some (.str (tabW b)), some (.int (M : Nat)), some (.ref ya), none, y9, none, some (.ref dr), y12] ∧ Go st cs H15 H' ∧ H' dr = some (.dT kvs) ∧ Rows kvs ∧ kvs.length ≤ i)
      ⟨none, none, [], rfl, g1517, e17, fun p h => absurd h (List.not_mem_nil), Nat.le_refl _⟩ (fun i σ H' hi pp => ?_) fun σ H' pp => ?_
    · obtain ⟨y9, y12, kvs, rfl, g, ef', hr, hkl⟩ := pp
      walk_at "aw"
      have e15' := g.tk _ _ e15
      have hd' := hd.go ok (g15.trans g)
      refine kLcT_all (xs := YS.map V.str) e15' (by rw [List.length_map]; omega) g.ok (fun k v H => ∃ n : Int, v = .int n) (fun k v H H' t h => h) (fun k v H18 Kt hk g18 kt => ?_) fun l3 H18 ys nl3 g18 el3 hyl hyr => ?_
      · rw [List.getElem?_map] at hk
        obtain ⟨x, z1, rfl⟩ := Option.map_eq_some_iff.mp hk
        walk_at "aw"
        refine ⟨rfl, ?_⟩
        refine w_if ?_
        walk_at "aw"
        refine ⟨st, _, rfl, cs, g18.ok, by omega, by omega, fun zz H19 _ _ g19 => ?_⟩
        walk_at "aw"
        refine w_iteB (fun _ => ?_) fun _ => ?_
        · walk_at "aw"
          refine ((hd'.go g.ok g18).go g18.ok g19).get (hYm x (List.mem_of_getElem? z1)) ?_
          exact kt _ _ g19 ⟨_, rfl⟩
        · walk_at "aw"
          refine ⟨st, _, rfl, cs, g19.ok, by omega, by omega, fun z20 H20 _ _ g20 => ?_⟩
          walk_at "aw"
          exact kt _ _ (g19.trans g20) ⟨_, rfl⟩
      obtain ⟨ns, rfl⟩ := ints_of fun i v e => hyr i v e
      rw [List.length_map, List.length_map] at hyl
      walk_at "aw"
      refine w_tupL (SqL.of el3) fun t19 H19 nt19 a19 e19 => ?_
      have g19 := g18.new a19
      have ef19 := g19.keep ndrst ef'
      walk_at "aw"
      refine kDPutT_i (k := ns.map Sum.inl) ef19 (by rw [List.map_map]; exact e19) (by omega) ?_
      exact ⟨_, _, _, rfl, (g.trans g19).mutT g15.ok ndr ef19, upd_same, hr.put (fun z => by rw [z] at hyl; simp at hyl; omega), Nat.le_trans (length_putK ..) (Nat.succ_le_succ hkl)⟩
    · obtain ⟨y9, y12, kvs, rfl, g, ef', hr, hkl⟩ := pp
      walk_at "aw"
      refine ⟨dr, kvs, rfl, .of ef', hr, by omega, fun r ps nr hps hperm => ?_⟩
      have ar := Adv.new (o := .lst (ps.map fun q => V.ref q.1)) nr
      walk_at "aw"
      refine w_tupL (SqL.of upd_same) fun t20 H20 nt20 a20 e20 => ?_
      have hall := rows_isall fun p hp => (show RowIs (upd H' r _) p from ⟨ar.tup _ _ (hps p hp).1, (hps p hp).2⟩)
      have hl := hperm.length_eq
      rw [List.length_map, List.length_map] at hl
      walk_at "aw"
      refine w_tupD (by simp) fun t21 H21 nt21 a21 e21 => ?_
      exact q _ (.tab b YS (ps.map (·.2))) H21 ((((g15.trans g).new ar).new a20).new a21) (.tup e21 (.cons (.str _) (.cons (.tup (a21.tup _ _ (a20.tup _ _ (ar.tup _ _ (g.tk _ _ e15)))) (IsAll.strs _)) (.cons (.tup (a21.tup _ _ e20) (hall.up (TK.trans a20.tup a21.tup))) .nil)))) ⟨by omega, by rw [List.length_map]; omega⟩ rfl hYm
end AW
namespace AW
open PySem PySem.Spec PyProof.Rows L2 RZ
local macro_rules | `(tactic| walk_at "aw1") => `(tactic| first
  | (with_reducible refine w_seq ?_) | (with_reducible refine w_asg ?_) | (with_reducible refine w_gname ?_) | (with_reducible refine w_op ?_) | (with_reducible refine w_un ?_)
  | ((with_reducible refine' w_var ?h ?_); (case h => rfl)) | (with_reducible refine w_c ?_)
  | (with_reducible refine w_I0 ?_) | (with_reducible refine w_U ?_) | (with_reducible refine w_cb ?_) | (with_reducible refine w_nil ?_) | (with_reducible refine w_cons ?_) | (with_reducible refine w_call ?_)
  | (with_reducible refine w_test ?_) | (with_reducible refine w_B ?_) | (with_reducible refine w_bl ?_) | (with_reducible refine w_not ?_) | (with_reducible refine w_yes ?_) | (with_reducible refine iteT ?_) | (with_reducible refine iteF ?_) | (with_reducible refine w_and ?_) | (with_reducible refine w_or ?_)
  | (with_reducible refine w_andV ?_) | (with_reducible refine w_orV ?_) | (with_reducible refine w_notV ?_) | (with_reducible refine w_if ?_)
  | (with_reducible refine w_int1 ?_) | (with_reducible refine w_int1b ?_) | (with_reducible refine w_abs ?_) | (with_reducible refine w_max2 ?_) | (with_reducible refine w_min2 ?_)
  | ((with_reducible refine w_eq ?h ?_); (case h => rfl)) | ((with_reducible refine w_ne ?h ?_); (case h => rfl)) | (with_reducible refine w_isN ?_) | (with_reducible refine w_isB ?_) | (with_reducible refine w_chain ?_)
  | (with_reducible refine w_ret ?_) | (with_reducible refine w_drop ?_) | (with_reducible refine w_ifS ?_) | (with_reducible refine w_gsub ?_) | (with_reducible refine w_augS ?_) | (with_reducible refine w_ipI ?_) | (with_reducible refine w_next ?_)
  | (with_reducible refine w_forR ?_) | (with_reducible refine w_forR2 ?_) | (with_reducible refine w_forL ?_) | (with_reducible refine w_forT ?_) | (with_reducible refine w_lcR ?_) | (with_reducible refine w_lcL ?_) | (with_reducible refine w_lcT ?_) | (with_reducible refine w_sl ?_) | (with_reducible refine w_part ?_) | (with_reducible refine w_noPart ?_) | (with_reducible refine w_in ?_)
  | (with_reducible refine w_gcons ?_) | (with_reducible refine w_gnil ?_) | (with_reducible refine w_lc3 ?_) | (with_reducible refine w_dcZ ?_) | (with_reducible refine w_dcT ?_) | (with_reducible refine w_dg ?_) | (with_reducible refine w_callK ?_) | (with_reducible refine w_dput ?_) | (with_reducible refine w_tup1 ?_)
  | (with_reducible refine w_tup ?_) | (with_reducible refine w_lst ?_)
  | ((with_reducible refine w_I ?h ?_); (case h => first | (exact Or.inr ⟨by decide, by decide⟩) | (exact Or.inl ⟨by decide, by decide⟩) | (show (0 : Int) < _; decide) | (exact ⟨by decide, by decide, by decide⟩) | assumption)))
local macro_rules | `(tactic| walk_at "aw") => `(tactic| repeat (walk_at "aw1"))
def sp_law (K : PySem.W.Frag) : Sp := fun vs H Q _ => ∃ (a : Addr) (ns : List Int), vs = [.ref a] ∧ SqL K H a (ns.map V.int) ∧ ns.length ≤ 63 ∧ ∀ H', Q (.bl true) H'
def InS (names : List Str) (s : Say) : Prop := s.ok ∧ ∀ x ∈ s.names, x ∈ names
theorem w_rgC {c : Int} {n : Nat} {σ : L2.St} {H : Hp} {Q : VK} (hn : n ≤ 100000) (hc : c = (n : Nat)) (q : ∀ r H', H r = none → Adv [] H H' → H' r = some (.lst ((List.range n).map fun k => V.int (k : Nat))) → Q (.ref r) H') : tLstRg (tRg1 (tC (.int c))) σ H Q := by
  subst hc
  refine ⟨n, rfl, .of_le (by omega) (by omega) (by omega) (by omega), fun p hp => ?_⟩
  have e : rgV 0 (n : Nat) = (List.range n).map fun k => V.int (k : Nat) := by
    unfold rgV
    rw [show ((n : Int) - 0).toNat = n by omega]
    refine List.map_congr_left fun k _ => ?_
    rw [Int.zero_add]
  rw [e]
  exact w_new q p hp
theorem w_joinS {c : Bool} {t1 t2 : TS} {D : Ends} {σ : L2.St} {H : Hp} (R : L2.St → Hp → Prop) (h1 : ∀ D' : Ends, c = true → (∀ σ' H', R σ' H' → D'.nx σ' H') → t1 D' σ H) (h2 : ∀ D' : Ends, c = false → (∀ σ' H', R σ' H' → D'.nx σ' H') → t2 D' σ H) (hq : ∀ σ' H', R σ' H' → D.nx σ' H') : if c = true then t1 D σ H else t2 D σ H := by
  cases c with
  | true => exact iteT (h1 D rfl hq)
  | false => exact iteF (h2 D rfl hq)
theorem perm_ints {n : Nat} {ys : List V} (h : ys.Perm ((List.range n).map fun k => V.int (k : Nat))) : ys.length = n ∧ ∃ ns : List Int, ys = ns.map V.int := by
  refine ⟨by rw [h.length_eq, List.length_map, List.length_range], ints_of fun i v hv => ?_⟩
  obtain ⟨k, _, rfl⟩ := List.mem_map.mp (h.mem_iff.mp (List.mem_of_getElem? hv))
  exact ⟨_, rfl⟩
theorem made_of {H : Hp} {names : List Str} {P : Say → Prop} : ∀ (mv : List V) (o : Nat), (∀ (i : Nat) v, mv[i]? = some v → ∃ x s, names[o + i]? = some x ∧ P s ∧ Is H (itD (x, s)) v) → ∃ made : List (Str × Say), IsAll H (made.map itD) mv ∧ made.map (·.1) = (names.drop o).take mv.length ∧ ∀ q ∈ made, P q.2
  | [], o, _ => ⟨[], .nil, by simp, fun q h => absurd h (List.not_mem_nil)⟩
  | v :: mv, o, h => by
    obtain ⟨x, s, h1, h2, h3⟩ := h 0 v rfl
    obtain ⟨made, h4, h5, h6⟩ := made_of (names := names) (P := P) mv (o + 1) fun i v e => by
      obtain ⟨x, s, z1, z2⟩ := h (i + 1) v (by simpa using e)
      exact ⟨x, s, by rw [show o + 1 + i = o + (i + 1) by omega]; exact z1, z2⟩
    refine ⟨(x, s) :: made, .cons h3 h4, ?_, fun q hq => ?_⟩
    · have ho : o < names.length := (List.getElem?_eq_some_iff.mp h1).1
      rw [List.map_cons, h5, List.drop_eq_getElem_cons ho, List.length_cons, List.take_succ_cons]
      rw [Nat.add_zero] at h1
      rw [List.getElem?_eq_getElem ho] at h1
      rw [Option.some.inj h1]
    · rcases List.mem_cons.mp hq with e | e
      · rw [e]; exact h2
      · exact h6 q e
theorem ints_pr {P : Int → Prop} : ∀ {ys : List V}, (∀ (i : Nat) v, ys[i]? = some v → ∃ z : Int, v = .int z ∧ P z) → ∃ zs : List Int, ys = zs.map V.int ∧ ∀ z ∈ zs, P z
  | [], _ => ⟨[], rfl, fun z h => absurd h (List.not_mem_nil)⟩
  | y :: ys, h => by
    obtain ⟨z, rfl, h1⟩ := h 0 _ rfl
    obtain ⟨ws, rfl, h2⟩ := ints_pr (ys := ys) fun i v e => h (i + 1) v (by simpa using e)
    exact ⟨z :: ws, rfl, fun y hy => by
      rcases List.mem_cons.mp hy with h | h
      · rw [h]; exact h1
      · exact h2 y h⟩
def t_law (K : PySem.W.Frag) : TS := (tSeq (tAsg (tCall (sp__law_start K) [] E0 (tCons (tVar 0) tNil)) (gName 1))
  (tSeq (tAsg (tOp rEq (tCall (sp__law_take K) [] E0 (tCons (tVar 1) (tCons (tC (.int 8)) tNil))) (tC (.int 0))) (gName 2))
  (tSeq (tAsg (tOp rCat (tLst (tCons (tC (.int 2)) (tCons (tOp rAddI (tC (.int 1)) (tCall (sp__law_take K) [] E0 (tCons (tVar 1) (tCons (tC (.int 3)) tNil)))) tNil))) (tCall (sp__law_sizes K) [] E0 (tCons (tVar 1) (tCons (tC (.int 3)) (tCons (tC (.int 16)) tNil))))) (gName 3))
  (tSeq (tIfS (tB (tVar 2)) (tAsg (tOp rCat (tLst (tCons (tC (.int 2)) (tCons (tC (.int 2)) (tCons (tC (.int 3)) tNil)))) (tLc (iRng1 (tCons (tOp rAddI (tC (.int 9)) (tCall (sp__law_take K) [] E0 (tCons (tVar 1) (tCons (tC (.int 13)) tNil)))) tNil)) (gName 4) tYes (tCall (sp__law_pick K) [] E0 (tCons (tVar 1) (tCons (tLst (tCons (tC (.int 1)) (tCons (tC (.int 2)) (tCons (tC (.int 5)) (tCons (tC (.int 12)) (tCons (tC (.int 12)) (tCons (tOp rAddI (tC (.int 1)) (tCall (sp__law_take K) [] E0 (tCons (tVar 1) (tCons (tC (.int 12)) tNil)))) tNil))))))) tNil))) [4])) (gName 3)) tNext)
  (tSeq (tAsg (tCall (sp__law_names K) [] E0 (tCons (tVar 1) (tCons (tOp rAddI (tCB (rLen1 K) (tCons (tVar 3) tNil)) (tC (.int 5))) tNil))) (gName 5))
  (tSeq (tAsg (tOp rSubI (tCall (sp__law_take K) [] E0 (tCons (tVar 1) (tCons (tC (.int 389)) tNil))) (tC (.int 200))) (gName 6))
  (tSeq (tAsg (tLst tNil) (gName 7))
  (tSeq (tFor (iRng1 (tCons (tCB (rLen1 K) (tCons (tVar 3) tNil)) tNil)) (gName 4)
  (tSeq (tAsg (tThen (tLc (iList K (tCB (rSortedI K) (tCons (tSl (rSlL K) (tCall (sp__law_shuffled K) [] E0 (tCons (tVar 1) (tCons (tLstRg (tRg1 (tC (.int 12)))) tNil))) tNoPart (tPart (tOp (rIxL K) (tVar 3) (tVar 4)))) tNil))) (gName 9) tYes (tOp rAddI (tVar 6) (tVar 9)) [9]) (kTup K)) (gName 8))
  (tDrop (tBM K "list" rAppend (tVar 7) (tCons (tTup (tCons (tOp (rIxL K) (tVar 5) (tVar 4)) (tCons (tIf (tTest (tOp rGtI (tCall (sp__law_take K) [] E0 (tCons (tVar 1) (tCons (tC (.int 3)) tNil))) (tC (.int 0)))) (tVar 8) (tCall (sp__law_domain K) [] E0 (tCons (tVar 1) (tCons (tOp (rIxL K) (tVar 3) (tVar 4)) tNil)))) tNil))) tNil)))))
  (tSeq (tAsg (tThen (tLc (iList K (tVar 7)) (gName 11) tYes (tCall (sp__law_pick K) [] E0 (tCons (tVar 1) (tCons (tOp (rIxT K) (tVar 11) (tC (.int 1))) tNil))) [11]) (kTup K)) (gName 10))
  (tSeq (tAsg (tCall (sp__law_world K) [] E0 (tCons (tVar 7) (tCons (tVar 10) tNil))) (gName 12))
  (tSeq (tAsg (tLst tNil) (gName 13))
  (tSeq (tFor (iRng1 (tCons (tC (.int 5)) tNil)) (gName 4)
  (tSeq (tAsg (tCall (sp__law_claim K) [] E0 (tCons (tVar 1) (tCons (tVar 7) (tCons (tVar 12) tNil)))) (gName 14))
  (tDrop (tBM K "list" rAppend (tVar 13) (tCons (tTup (tCons (tOp (rIxL K) (tVar 5) (tOp rAddI (tCB (rLen1 K) (tCons (tVar 3) tNil)) (tVar 4))) (tCons (tIf (tTest (tOp rLtI (tVar 4) (tC (.int 2)))) (tTup (tCons (tC (.str "claim")) (tCons (tVar 14) tNil))) (tTup (tCons (tC (.str "when")) (tCons (tVar 14) (tCons (tCall (sp__law_inner K) [] E0 (tCons (tVar 1) (tCons (tVar 7) (tCons (tVar 12) tNil)))) tNil))))) tNil))) tNil)))))
  (tSeq (tAsg (tCall (sp__law_parted K) [] E0 (tCons (tVar 1) (tCons (tVar 13) (tCons (tVar 12) tNil)))) (gName 15))
  (tSeq (tAsg (tIf (tNot (tB (tVar 2))) (tCall (sp__law_fillings K) [] E0 (tCons (tVar 7) tNil)) (tOp rCat (tLst (tCons (tVar 10) tNil)) (tLc (iRng1 (tCons (tC (.int 30)) tNil)) (gName 4) tYes (tCall (sp__law_near K) [] E0 (tCons (tVar 1) (tCons (tVar 7) (tCons (tVar 10) tNil)))) [4]))) (gName 16))
  (tRet (tCall (sp__law_by_turns K) [] E0 (tCons (tVar 1) (tCons (tVar 7) (tCons (tVar 13) (tCons (tOp (rIxL K) (tVar 15) (tC (.int 0))) (tCons (tOp (rIxL K) (tVar 15) (tC (.int 1))) (tCons (tVar 16) (tCons (tVar 10) tNil)))))))))))))))))))))))
theorem len_law {K : PySem.W.Frag} : ∀ (vs : List V) (H : Hp) (Q : VK) (E : XK), sp_law K vs H Q E → vs.length = 1 := fun vs H Q E h => by
  obtain ⟨_, _, rfl, _⟩ := h
  rfl
theorem pure_law {K : PySem.W.Frag} (vs : List V) (H : Hp) (Q : VK) (E : XK) (h : sp_law K vs H Q E) : t_law K { nx := fun _ H' => Q .non H', rt := Q } (start ["script", "state", "great", "sizes", "k", "names", "low", "doms", "near", "v", "base", "pair", "at", "made", "claim", "parted", "fillings"] vs) H := by
  obtain ⟨sc, ns, rfl, hsc, hnsl, q⟩ := h
  show t_law K _ [some (.ref sc), none, none, none, none, none, none, none, none, none, none, none, none, none, none, none, none] H
  unfold t_law
  walk_at "aw"
  refine ⟨sc, ns, rfl, hsc, hnsl, fun st cs H1 ok _ _ => ?_⟩
  walk_at "aw"
  refine ⟨st, _, rfl, cs, ok, by omega, by omega, fun g H2 _ _ g2 => ?_⟩
  walk_at "aw"
  generalize decide (V.int g = V.int 0) = b
  refine ⟨st, _, rfl, cs, g2.ok, by omega, by omega, fun x1 H2a hx0 hx1 g2a => ?_⟩
  walk_at "aw"
  refine w_lstD (by simp) fun l2 H2b nl2 a2b e2b => ?_
  have g2b := g2a.new a2b
  walk_at "aw"
  refine ⟨st, 3, 16, rfl, cs, g2b.ok, by omega, by omega, fun r0 zt H3 g3 nr0 er0 hz0 hz5 hzz => ?_⟩
  refine w_cat (g3.keep (g2a.ok.ne nl2).1 e2b) er0 (by rw [List.length_map]; simp; omega) fun r1 H3b nr1 a3b er1 => ?_
  obtain ⟨zs0, hzs0⟩ : ∃ zs0 : List Int, zs0 = [2, 1 + x1] ++ zt := ⟨_, rfl⟩
  replace er1 : H3b r1 = some (.lst (zs0.map V.int)) := by
    rw [er1, hzs0, List.map_append]
    rfl
  have hzl0 : 2 ≤ zs0.length ∧ zs0.length ≤ 5 := by
    rw [hzs0, List.length_append]
    simp only [List.length_cons, List.length_nil]
    omega
  have hz0b : ∀ z ∈ zs0, 1 ≤ z ∧ z ≤ 5 := fun z hz => by
    rw [hzs0] at hz
    rcases List.mem_append.mp hz with h | h
    · simp only [List.mem_cons, List.not_mem_nil, or_false] at h
      omega
    · exact hzz z h
  clear hzs0
  have g3b := (g2b.trans g3).new a3b
  have nr1st := ((g2b.trans g3).ok.ne nr1).1
  walk_at "aw"
  refine w_joinS (fun σ' H' => ∃ l zs, σ' = [some (.ref sc), some (.ref st), some (.bl b), some (.ref l), none, none, none, none, none, none, none, none, none, none, none, none, none] ∧ Go st cs H2 H' ∧ l ≠ st ∧ H' l = some (.lst ((zs : List Int).map V.int)) ∧ 2 ≤ zs.length ∧ zs.length ≤ 24 ∧ (∀ z ∈ zs, 1 ≤ z ∧ z ≤ 12) ∧ (b = false → zs.length ≤ 5 ∧ ∀ z ∈ zs, z ≤ 5)) (fun D' hb kt => ?_) (fun D' hb kt => ?_) fun σ' H4 hR => ?_
  · walk_at "aw"
    refine w_lstD (by simp) fun l3 H3c nl3 a3c e3c => ?_
    have g3c := g3b.new a3c
    walk_at "aw"
    refine ⟨st, _, rfl, cs, g3c.ok, by omega, by omega, fun m H4 hm0 hm1 g4 => ?_⟩
    walk_at "aw"
    rw [show (9 : Int) + m = (((9 + m).toNat : Nat) : Int) by omega]
    refine kLcR_all (n := (9 + m).toNat) (by omega) g4.ok (fun _ v _ => ∃ z : Int, v = .int z ∧ 1 ≤ z ∧ z ≤ 12) (fun _ _ _ _ _ h => h) (fun k H5 Kt hk g5 kt2 => ?_) fun l H5 ys nl g5 el hyl hyr => ?_
    · walk_at "aw"
      refine ⟨rfl, ?_⟩
      walk_at "aw"
      refine ⟨st, _, rfl, cs, g5.ok, by omega, by omega, fun x H6 hx0 hx1 g6 => ?_⟩
      walk_at "aw"
      refine w_lstD (by simp) fun l7 H7 nl7 a7 e7 => ?_
      walk_at "aw"
      refine ⟨st, l7, rfl, cs, [1, 2, 5, 12, 12, 1 + x].map V.int, (Go.of g6.ok a7).ok, .inl ⟨SqL.of e7, (g6.ok.ne nl7).1⟩, by simp, by simp, fun i y H8 hy g8 => ?_⟩
      obtain ⟨z, rfl, hz⟩ := int_mem hy
      refine kt2 _ _ ((g6.new a7).trans g8) ⟨z, rfl, ?_⟩
      simp only [List.mem_cons, List.not_mem_nil, or_false] at hz
      omega
    · obtain ⟨zs, rfl, hzs⟩ := ints_pr hyr
      rw [List.length_map] at hyl
      refine w_cat ((g4.trans g5).keep (g3b.ok.ne nl3).1 e3c) el (by rw [List.length_map]; simp; omega) fun r5 H6 nr5 a6 er5 => ?_
      have g6 := ((g3c.trans g4).trans g5).new a6
      walk_at "aw"
      refine kt _ _ ⟨r5, [2, 2, 3] ++ zs, rfl, g6, (((g3c.trans g4).trans g5).ok.ne nr5).1, by rw [er5, List.map_append]; rfl, by rw [List.length_append]; simp only [List.length_cons, List.length_nil]; omega, by rw [List.length_append]; simp only [List.length_cons, List.length_nil]; omega, fun z hz => ?_, fun h => by rw [hb] at h; cases h⟩
      rcases List.mem_append.mp hz with h | h
      · simp only [List.mem_cons, List.not_mem_nil, or_false] at h
        omega
      · exact hzs z h
  · walk_at "aw"
    exact kt _ _ ⟨r1, zs0, rfl, g3b, nr1st, er1, hzl0.1, by omega, fun z h => by have := hz0b z h; omega, fun _ => ⟨hzl0.2, fun z h => (hz0b z h).2⟩⟩
  obtain ⟨sl, zs, rfl, g4, nslst, esl, hz0, hz24, hz1, hzb⟩ := hR
  clear hzz g3 er0 g3b er1 e2b g2b
  walk_at "aw"
  refine w_lenL (SqL.of esl) ?_
  walk_at "aw"
  rw [List.length_map, show ((zs.length : Nat) : Int) + 5 = ((zs.length + 5 : Nat) : Int) by omega]
  refine ⟨st, zs.length + 5, rfl, cs, g4.ok, by omega, fun nm names H5 g5 nnm enm hnl hnd hnok => ?_⟩
  have nnmst := (g4.ok.ne nnm).1
  walk_at "aw"
  refine ⟨st, _, rfl, cs, g5.ok, by omega, by omega, fun lo H7 _ _ g7 => ?_⟩
  walk_at "aw"
  refine w_lstD (by simp) fun dm H8 ndm a8 e8 => ?_
  have ndmst := (g7.ok.ne ndm).1
  have esl7 := g7.keep nslst (g5.keep nslst esl)
  have enm7 := g7.keep nnmst enm
  have g8 := Go.of g7.ok a8
  have ok7 := g7.ok
  walk_at "aw"
  refine w_lenL (SqL.of (g8.keep nslst esl7)) ?_
  rw [List.length_map]
  refine kForR_i (n := zs.length) (by omega) (fun i σ H' => ∃ y4 y8 dv xs, σ = [some (.ref sc), some (.ref st), some (.bl b), some (.ref sl), y4, some (.ref nm), some (.int (lo - 200)), some (.ref dm), y8, none, none, none, none, none, none, none, none] ∧ Go st cs H7 H' ∧ H' dm = some (.lst xs) ∧ IsAll H' ((dv : List (Str × List Int)).map domD) xs ∧ dv.map (·.1) = names.take i ∧ dv.length = i ∧
      ∀ q ∈ dv, 0 < q.2.length ∧ q.2.length ≤ 12 ∧ (b = false → q.2.length ≤ 5))
    ⟨none, none, [], [], rfl, g8, e8, .nil, rfl, rfl, fun q h => absurd h (List.not_mem_nil)⟩ (fun i σ H' hi pp => ?_) fun σ H' pp => ?_
  · obtain ⟨y4, y8, dv, xs, rfl, g, ed, td, hdn, hdl, hdq⟩ := pp
    have hxl : xs.length = dv.length := by rw [td.length, List.length_map]
    obtain ⟨x, hx⟩ := get_some (xs := names) (i := i) (by omega)
    obtain ⟨z, hz⟩ := get_some (xs := zs) (i := i) hi
    have hzm := List.mem_of_getElem? hz
    have hz2 := hz1 z hzm
    have hz3 : b = false → z ≤ 5 := fun h => (hzb h).2 z hzm
    walk_at "aw"
    refine w_rgC (n := 12) (by omega) rfl fun l9 H9 nl9 a9 e9 => ?_
    have g9 := g.new a9
    walk_at "aw"
    refine ⟨st, l9, rfl, cs, _, g9.ok, SqL.of e9, (g.ok.ne nl9).1, by rw [List.length_map, List.length_range]; omega, fun o ys H10 hp10 no g10 eo => ?_⟩
    obtain ⟨hyl, is, rfl⟩ := perm_ints hp10
    rw [List.length_map] at hyl
    have g10' := g9.trans g10
    walk_at "aw"
    refine w_ixL (SqL.of (g10'.keep nslst esl7)) (at_of (j := i) (v := .int z) rfl (by rw [List.getElem?_map, hz]; rfl)) ?_
    walk_at "aw"
    refine w_slL (SqL.of eo) fun l11 H11 nl11 a11 e11 => ?_
    rw [cut_to _ (by omega), ← List.map_take] at e11
    have g11 := g10'.new a11
    walk_at "aw"
    refine ⟨l11, _, rfl, SqL.of e11, fun ws p12 hpm _ np12 => ?_⟩
    have a12 := Adv.new (o := .lst (ws.map V.int)) np12
    have g12 := g11.new a12
    have hwl : ws.length = z.toNat := by rw [hpm.length_eq, List.length_take]; omega
    refine kLcL_all SqL.upd (g11.ok.ne np12).1 (by rw [List.length_map]; omega) g12.ok (fun _ v _ => ∃ z : Int, v = .int z) (fun _ _ _ _ _ h => h) (fun k y H13 Kt hk g13 kt => ?_) fun l13 H13 ys nl13 g13 e13 hyl2 hyr2 => ?_
    · obtain ⟨k0, rfl, _⟩ := int_mem hk
      walk_at "aw"
      refine ⟨rfl, ?_⟩
      walk_at "aw"
      exact kt _ _ (.refl g13.ok) ⟨_, rfl⟩
    obtain ⟨ns2, rfl⟩ := ints_of hyr2
    rw [List.length_map, List.length_map] at hyl2
    have g13' := g12.trans g13
    refine w_tupL (SqL.of e13) fun t14 H14 nt14 a14 e14 => ?_
    have g14 := g13'.new a14
    have gB : Go st cs H' H14 := ((((Go.of g.ok a9).trans g10).new a11).new a12).trans (g13.new a14)
    walk_at "aw"
    have ed14 := gB.keep ndmst ed
    refine w_app rfl ed14 ?_
    walk_at "aw"
    refine w_ixL (SqL.of (g14.keep nnmst enm7)) (at_of (j := i) (v := .str x) rfl (by rw [List.getElem?_map, hx]; rfl)) ?_
    walk_at "aw"
    refine ⟨st, _, rfl, cs, g14.ok, by omega, by omega, fun zk H14b _ _ gk => ?_⟩
    walk_at "aw"
    refine w_join (fun v H'' => ∃ fl : List Int, Go st cs H14 H'' ∧ Is H'' (rowD fl) v ∧ fl.length = z.toNat) (fun Q' hb kt => ?_) (fun Q' hb kt => ?_) fun v H15 hR => ?_
    · walk_at "aw"
      exact kt _ _ ⟨ns2, gk, .tup (gk.tk _ _ e14) (IsAll.ints _), by omega⟩
    · walk_at "aw"
      refine w_ixL (SqL.of ((g14.trans gk).keep nslst esl7)) (at_of (j := i) (v := .int z) rfl (by rw [List.getElem?_map, hz]; rfl)) ?_
      walk_at "aw"
      refine ⟨st, (z - 1).toNat, by rw [show (((z - 1).toNat : Nat) : Int) + 1 = z by omega], cs, gk.ok, by omega, fun v fl H15 g15 hv hfl => ?_⟩
      exact kt _ _ ⟨fl, gk.trans g15, hv, by omega⟩
    obtain ⟨fl, g15, hv, hfl⟩ := hR
    walk_at "aw"
    refine w_tupD (by simp) fun t16 H16 nt16 a16 e16 => ?_
    have g16 := (g14.trans g15).new a16
    have gC := (gB.trans g15).new a16
    have ed16 := gC.keep ndmst ed
    walk_at "aw"
    refine w_append ed16 (by omega) ?_
    have u : TK H16 (upd H16 dm (.lst (xs ++ [.ref t16]))) := fun c vs h => (Adv.lst (o := .lst (xs ++ [.ref t16])) ed16).tup c vs h
    refine ⟨_, _, dv ++ [(x, fl)], _, rfl, g16.mutL ok7 ndm ed16, upd_same, ?_, ?_, by rw [List.length_append, hdl]; rfl, fun r hr => ?_⟩
    · rw [List.map_append]
      exact ((td.up gC.tk).up u).append (.cons (.tup (u _ _ e16) (.cons (.str _) (.cons ((hv.up a16.tup).up u) .nil))) .nil)
    · rw [List.map_append, hdn, List.take_add_one, hx]
      rfl
    · rcases List.mem_append.mp hr with h | h
      · exact hdq r h
      · rw [List.mem_singleton.mp h]
        exact ⟨by show 0 < fl.length; omega, by show fl.length ≤ 12; omega, fun hb => by have := hz3 hb; show fl.length ≤ 5; omega⟩
  obtain ⟨y4, y8, dv, xs, rfl, g, ed, td, hdn, hdl, hdq⟩ := pp
  have hxl : xs.length = zs.length := by rw [td.length, List.length_map, hdl]
  have hdnd : (dv.map (·.1)).Nodup := by
    rw [hdn]
    exact hnd.sublist (List.take_sublist ..)
  have hdnok : ∀ x ∈ dv.map (·.1), okS x := fun x hx => hnok x (by rw [hdn] at hx; exact List.mem_of_mem_take hx)
  have enB := g.keep nnmst enm7
  have eslB := g.keep nslst esl7
  have okB := g.ok
  clear g enm7 esl7
  walk_at "aw"
  refine kLcL_all (SqL.of ed) ndmst (by omega) okB (fun _ v _ => ∃ z : Int, v = .int z) (fun _ _ _ _ _ h => h) (fun k x H9 Kt hk g9 kt => ?_) fun l9 H9 ys nl9 g9 e9 hyl hyr => ?_
  · obtain ⟨dt, z1, hx⟩ := td.get hk
    rw [List.getElem?_map] at z1
    obtain ⟨qd, z2, rfl⟩ := Option.map_eq_some_iff.mp z1
    obtain ⟨ia, ib, rfl, ea, eb⟩ := is_dom hx
    have hqd := hdq qd (List.mem_of_getElem? z2)
    walk_at "aw"
    refine ⟨rfl, ?_⟩
    walk_at "aw"
    refine w_ixT (SqT.of (g9.tk _ _ ea)) rfl ?_
    walk_at "aw"
    refine ⟨st, ib, rfl, cs, _, g9.ok, .inr (g9.tk _ _ eb), by rw [List.length_map]; exact hqd.1, by rw [List.length_map]; omega, fun j y H10 hy g10 => ?_⟩
    obtain ⟨z, rfl, _⟩ := int_mem hy
    exact kt _ _ g10 ⟨z, rfl⟩
  obtain ⟨bs, rfl⟩ := ints_of hyr
  rw [List.length_map, hxl] at hyl
  refine w_tupL (SqL.of e9) fun t10 H10 nt10 a10 e10 => ?_
  have k10 := g9.new a10
  have hbase : Is H10 (rowD bs) (.ref t10) := .tup e10 (IsAll.ints _)
  walk_at "aw"
  refine ⟨dm, t10, rfl, dv, bs, ⟨xs, k10.keep ndmst ed, td.up k10.tk⟩, .inr (SqT.of e10), by omega, hdnd, by omega, fun d H11 a11 nd hd => ?_⟩
  generalize wOf (dv.map (·.1)) bs = w at hd
  have k11 := k10.new a11
  have hdv2 : 2 ≤ dv.length := by omega
  have hdx : ∀ q ∈ dv, 0 < q.2.length ∧ q.2.length ≤ 100 := fun q' hq => ⟨(hdq q' hq).1, by have := (hdq q' hq).2.1; omega⟩
  walk_at "aw"
  refine w_lstD (by simp) fun md H12 nmd a12 e12 => ?_
  have m12 := Go.of k11.ok a12
  have nmdst := (k11.ok.ne nmd).1
  walk_at "aw"
  refine kForR_i (n := 5) (by omega) (fun i σ H' => ∃ y4 y14 made mv, σ = [some (.ref sc), some (.ref st), some (.bl b), some (.ref sl), y4, some (.ref nm), some (.int (lo - 200)), some (.ref dm), y8, none, some (.ref t10), none, some (.ref d), some (.ref md), y14, none, none] ∧ Go st cs H11 H' ∧ H' md = some (.lst mv) ∧ IsAll H' ((made : List (Str × Say)).map itD) mv ∧ made.map (·.1) = (names.drop zs.length).take i ∧ made.length = i ∧ ∀ q ∈ made, InS (dv.map (·.1)) q.2)
    ⟨_, none, [], [], rfl, m12, e12, .nil, rfl, rfl, fun q h => absurd h (List.not_mem_nil)⟩ (fun i σ H' hi pp => ?_) fun σ H' pp => ?_
  · obtain ⟨y4, y14, made, mv, rfl, g, emd, tm, hmn, hml, hmi⟩ := pp
    have hmvl : mv.length = made.length := by rw [tm.length, List.length_map]
    obtain ⟨x, hx⟩ := get_some (xs := names) (i := zs.length + i) (by omega)
    have kg := k11.trans g
    have hdoms : LsAt H' dm (dv.map domD) := ⟨xs, kg.keep ndmst ed, td.up kg.tk⟩
    walk_at "aw"
    refine ⟨st, dm, d, rfl, cs, dv, w, g.ok, ndmst, hdoms, hd.go k11.ok g, by omega, by omega, hdx, fun vc D f H13 g13 hvc hcl => ?_⟩
    have g113 := g.trans g13
    have kg13 := k11.trans g113
    have emd13 := g13.keep nmdst emd
    walk_at "aw"
    refine w_app rfl emd13 ?_
    walk_at "aw"
    refine w_lenL (SqL.of (kg13.keep nslst eslB)) ?_
    walk_at "aw"
    rw [List.length_map, show ((zs.length : Nat) : Int) + (i : Nat) = ((zs.length + i : Nat) : Int) by omega]
    refine w_ixL (SqL.of (kg13.keep nnmst enB)) (at_of (j := zs.length + i) (v := .str x) rfl (by rw [List.getElem?_map, hx]; rfl)) ?_
    walk_at "aw"
    refine w_join (fun v H'' => ∃ s : Say, Go st cs H13 H'' ∧ Is H'' (sayD s) v ∧ InS (dv.map (·.1)) s) (fun Q' hb kt => ?_) (fun Q' hb kt => ?_) fun v H15 hR => ?_
    · walk_at "aw"
      refine w_tupD (by simp) fun t14 H14 nt14 a14 e14 => ?_
      exact kt _ _ ⟨.claim D f (List.map (fun (q : Str × List Int) => q.1) dv), Go.of g13.ok a14, .tup e14 (.cons (.str _) (.cons (hvc.up a14.tup) .nil)), hcl, fun x h => h⟩
    · walk_at "aw"
      refine ⟨st, dm, d, rfl, cs, dv, w, g13.ok, ndmst, hdoms.go ndmst g13, hd.go k11.ok g113, hdnd, hdnok, hdv2, by omega, hdx, fun vi s H14 g14 hvi hsok hsw hsn => ?_⟩
      walk_at "aw"
      refine w_tupD (by simp) fun t14 H15 nt14 a15 e15 => ?_
      refine kt _ _ ⟨.when D f (List.map (fun (q : Str × List Int) => q.1) dv) s, g14.new a15, .tup e15 (.cons (.str _) (.cons ((hvc.up g14.tk).up a15.tup) (.cons (hvi.up a15.tup) .nil))), ⟨hcl, hsw, hsok⟩, fun x h => ?_⟩
      rcases List.mem_append.mp h with h | h
      · exact h
      · exact hsn x h
    obtain ⟨s, g15, hs, hin⟩ := hR
    walk_at "aw"
    refine w_tupD (by simp) fun t16 H16 nt16 a16 e16 => ?_
    have gC := (g13.trans g15).new a16
    have emd16 := gC.keep nmdst emd
    walk_at "aw"
    refine w_append emd16 (by omega) ?_
    have u : TK H16 (upd H16 md (.lst (mv ++ [.ref t16]))) := fun c vs h => (Adv.lst (o := .lst (mv ++ [.ref t16])) emd16).tup c vs h
    refine ⟨_, _, made ++ [(x, s)], _, rfl, (g.trans gC).mutL k11.ok nmd emd16, upd_same, ?_, ?_, by rw [List.length_append, hml]; rfl, fun r hr => ?_⟩
    · rw [List.map_append]
      exact ((tm.up gC.tk).up u).append (.cons (.tup (u _ _ e16) (.cons (.str _) (.cons ((hs.up a16.tup).up u) .nil))) .nil)
    · rw [List.map_append, hmn, List.take_add_one, List.getElem?_drop, hx]
      rfl
    · rcases List.mem_append.mp hr with h | h
      · exact hmi r h
      · rw [List.mem_singleton.mp h]
        exact hin
  obtain ⟨y4', y14, made, mv, rfl, m18, emd, tmade, hmnames, hml, hmi⟩ := pp
  have k18 := k11.trans m18
  have hmn : (made.map (·.1)).Nodup := by
    rw [hmnames]
    exact (hnd.sublist (List.drop_sublist ..)).sublist (List.take_sublist ..)
  have hmok : ∀ q ∈ made, (q.2.ok ∧ (∀ x ∈ q.2.names, x ∈ dv.map (·.1)) ∧ okS q.1 ∧ ∀ x ∈ q.2.names, okS x) := fun q' hq => ⟨(hmi q' hq).1, (hmi q' hq).2, hnok _ (by
    have : q'.1 ∈ made.map (·.1) := List.mem_map_of_mem hq
    rw [hmnames] at this
    exact List.mem_of_mem_drop (List.mem_of_mem_take this)), fun x hx => hdnok x ((hmi q' hq).2 x hx)⟩
  walk_at "aw"
  refine ⟨st, md, d, rfl, cs, made, dv.map (·.1), w, m18.ok, nmdst, ⟨mv, emd, tmade⟩, hd.go k11.ok m18, hmn, by omega, by omega, hmok, fun pr f so firm soft H25 g25 epr nfst nsost nprst hfirm hsoft hnodup hfm hsm hf50 hs50 => ?_⟩
  have k25 := k18.trans g25
  have m25 := m18.trans g25
  have hheld : HeldOk dv firm soft := ⟨hdnd, by omega, hnodup, hf50, hs50, fun q' hq => by
    rcases List.mem_append.mp hq with h | h
    · exact ⟨(hmok q' (hfm q' h)).1, (hmok q' (hfm q' h)).2.1⟩
    · exact ⟨(hmok q' (hsm q' h)).1, (hmok q' (hsm q' h)).2.1⟩⟩
  have hdoms : LsAt H25 dm (dv.map domD) := ⟨xs, k25.keep ndmst ed, td.up k25.tk⟩
  have hb25 : Is H25 (rowD bs) (.ref t10) := hbase.up ((Go.of k10.ok a11).trans m25).tk
  walk_at "aw"
  refine w_join (fun v H' => ∃ r rows, v = .ref r ∧ Go st cs H25 H' ∧ r ≠ st ∧ LsAt H' r ((rows : List (List Int)).map rowD) ∧ (∀ row ∈ rows, row.length = dv.length) ∧ rows.length ≤ 5000) (fun Q' hb kt => ?_) (fun Q' hb kt => ?_) fun v H26 hR => ?_
  · have hb0 : b = false := by
      cases b with
      | false => rfl
      | true => cases hb
    have hz5 := hzb hb0
    walk_at "aw"
    refine ⟨dm, rfl, dv, st, cs, k25.ok, ndmst, hdoms, fun q' hq => (hdq q' hq).2.2 hb0, by omega, fun r rows H26 g26 nr hr hrow hrl => ?_⟩
    exact kt _ _ ⟨r, rows, rfl, g26, (k25.ok.ne nr).1, hr, hrow, Nat.le_trans hrl (by decide)⟩
  · walk_at "aw"
    refine w_lstD (by simp) fun l26 H26 nl26 a26 e26 => ?_
    have g26 := Go.of k25.ok a26
    walk_at "aw"
    refine kLcR_all (n := 30) (by omega) g26.ok (fun k v H => ∃ fl : List Int, fl.length = dv.length ∧ Is H (rowD fl) v) (fun k v H H' t h => by
      obtain ⟨fl, h1, h2⟩ := h
      exact ⟨fl, h1, h2.up t⟩) (fun k H27 Kt hk g27 kt => ?_) fun l27 H27 rv nl27 g27 e27 hrvl hrvr => ?_
    · have g2627 := g26.trans g27
      walk_at "aw"
      refine ⟨rfl, ?_⟩
      walk_at "aw"
      refine ⟨st, dm, .ref t10, rfl, cs, dv, bs, g27.ok, ndmst, hdoms.go ndmst g2627, hb25.up g2627.tk, by omega, by omega, by omega, fun q' hq => ⟨(hdq q' hq).1, by have := (hdq q' hq).2.1; omega⟩, fun v' fl' H28 g28 hv' hfl' => ?_⟩
      exact kt _ _ g28 ⟨fl', hfl', hv'⟩
    · have hrows : ∃ rows : List (List Int), IsAll H27 (rows.map rowD) rv ∧ ∀ row ∈ rows, row.length = dv.length := by
        clear e27 hrvl kt
        induction rv with
        | nil => exact ⟨[], .nil, fun _ h => absurd h (List.not_mem_nil)⟩
        | cons a l ih =>
          obtain ⟨fl, h1, h2⟩ := hrvr 0 a rfl
          obtain ⟨rows, h3, h4⟩ := ih fun i v h => hrvr (i + 1) v (by simpa using h)
          exact ⟨fl :: rows, .cons h2 h3, fun row hr => by
            rcases List.mem_cons.mp hr with h | h
            · rw [h]; exact h1
            · exact h4 row h⟩
      obtain ⟨rows, hrw, hrl⟩ := hrows
      refine w_cat (g27.keep (k25.ok.ne nl26).1 e26) e27 (by rw [hrvl]; simp) fun l28 H28 nl28 a28 e28 => ?_
      have g28 := (g26.trans g27).new a28
      have hlen : rows.length = rv.length := by rw [hrw.length, List.length_map]
      exact kt _ _ ⟨l28, bs :: rows, rfl, g28, ((g26.trans g27).ok.ne nl28).1, ⟨_, e28, .cons (hb25.up g28.tk) (hrw.up a28.tup)⟩, fun row hr => by
        rcases List.mem_cons.mp hr with h | h
        · rw [h]; omega
        · exact hrl row h, by rw [List.length_cons]; omega⟩
  obtain ⟨r, rows, rfl, g26, nrst, hr, hrow, hrl⟩ := hR
  have m26 := m25.trans g26
  walk_at "aw"
  refine w_ixL (SqL.of (g26.keep nprst epr)) (i := 0) (v := .ref f) rfl ?_
  walk_at "aw"
  refine w_ixL (SqL.of (g26.keep nprst epr)) (i := 1) (v := .ref so) rfl ?_
  walk_at "aw"
  refine ⟨st, dm, md, f, so, r, .ref t10, rfl, cs, dv, made, firm, soft, rows, bs, g26.ok, ⟨ndmst, nmdst, nfst, nsost, nrst⟩, hdoms.go ndmst g26, ⟨mv, (g25.trans g26).keep nmdst emd, tmade.up (g25.trans g26).tk⟩, hfirm.go nfst g26, hsoft.go nsost g26, hr, hb25.up g26.tk, hheld, hmn, by omega, by omega, fun q' hq => ⟨(hmok q' hq).1, (hmok q' hq).2.1⟩, hrow, hrl, by omega, by omega, hdx, fun H27 _ => ?_⟩
  exact q H27
end AW
namespace AW
open PySem PySem.Spec PyProof.Rows L2 RZ
def topS (i : Nat) : Stmt := PySem.Challenge.pw_aswritten_k07_claims_and_whens_held.main.body.getD i (.Pass ⟨0, 0, 0, 0⟩)
abbrev s__law_mixed : Stmt := topS 33
abbrev n__law_mixed : List Str := ["number", "k", "first", "second"]
theorem sc__law_mixed : FnScope n__law_mixed ["number", "k"] (defScope s__law_mixed) := ⟨rfl, rfl, rfl, by decide +kernel, rfl, by decide +kernel, by decide +kernel⟩
theorem ok__law_mixed {P : Program} {w : World} {K : PySem.W.Frag} {mg : Str → Option Value} {base : Heap} {f : Addr} {fd : FuncData} (F : Fun K "_law_mixed" "_law_mixed" s__law_mixed f fd) (gf : mg "_law_mixed" = some (.ref f))   (m_int : mg "int" = none)  : Cal P w K mg base "_law_mixed" 1 ["number", "k"] (sp__law_mixed K) := by
  refine ⟨f, fd, F.ok sc__law_mixed len__law_mixed (fun cdv A outer s H vs Q E hr h => ⟨t__law_mixed , PSs.nox ?_, pure__law_mixed vs H Q E h⟩), F.kp, F.binds (fun _ _ _ _ _ _ us hl => match us, hl with | [_, _], _ => rfl), gf⟩
  exact (pss_cons (ps_set (i := 2) sc__law_mixed.nd rfl (by first | exact .inl rfl | exact .inr rfl) (pe_op op_mod (pe_callTy call_int1 (by rfl) m_int (by decide +kernel) (pa_cons (pe_op op_add (pe_op op_add (pe_op op_mul (pv 0) pe_int) (pe_op op_mul (pv 1) pe_int)) pe_int) pa_nil)) pe_int))
  (pss_cons (ps_set (i := 3) sc__law_mixed.nd rfl (by first | exact .inl rfl | exact .inr rfl) (pe_op op_mod (pe_callTy call_int1 (by rfl) m_int (by decide +kernel) (pa_cons (pe_op op_add (pe_op op_add (pe_op op_mul (pv 2) (pe_op op_add (pe_op op_add (pv 2) (pe_op op_mul pe_int (pv 1))) pe_int)) (pe_op op_mul (pv 1) pe_int)) pe_int) pa_nil)) pe_int))
  (pss_one (ps_ret (pe_op op_mod (pe_callTy call_int1 (by rfl) m_int (by decide +kernel) (pa_cons (pe_op op_add (pe_op op_mul (pv 3) pe_int) (pv 2)) pa_nil)) pe_int)))))
abbrev s__law_start : Stmt := topS 34
abbrev n__law_start : List Str := ["script", "seed", "cell"]
theorem sc__law_start : FnScope n__law_start ["script"] (defScope s__law_start) := ⟨rfl, rfl, rfl, by decide +kernel, rfl, by decide +kernel, by decide +kernel⟩
theorem ok__law_start {P : Program} {w : World} {K : PySem.W.Frag} {mg : Str → Option Value} {base : Heap} {f : Addr} {fd : FuncData} (F : Fun K "_law_start" "_law_start" s__law_start f fd) (gf : mg "_law_start" = some (.ref f)) (C__law_mixed : Cal P w K mg base "_law_mixed" 1 ["number", "k"] (sp__law_mixed K))  (m_len : mg "len" = none) (m_list : mg "list" = none)  : Cal P w K mg base "_law_start" 2 ["script"] (sp__law_start K) := by
  refine ⟨f, fd, F.ok sc__law_start len__law_start (fun cdv A outer s H vs Q E hr h => ⟨t__law_start K, PSs.nox ?_, pure__law_start vs H Q E h⟩), F.kp, F.binds (fun _ _ _ _ _ _ us hl => match us, hl with | [_], _ => rfl), gf⟩
  exact (pss_cons (ps_set (i := 1) sc__law_start.nd rfl (by first | exact .inl rfl | exact .inr rfl) (pe_callB call_len1 (by rfl) m_len (by decide +kernel) (pa_cons (pv 0) pa_nil)))
  (pss_cons (ps_for PassesOwn.never rfl (pi_list (pe_slice sl_list (pv 0) po_none (po_some pe_int))) (pg_name (i := 2) sc__law_start.nd rfl (by first | exact .inl rfl | exact .inr rfl))
  (pss_one (ps_set (i := 1) sc__law_start.nd rfl (by first | exact .inl rfl | exact .inr rfl) (pe_cal C__law_mixed (hr.mono (by decide)) rfl (pa_cons (pe_op op_add (pv 1) (pv 2)) (pa_cons pe_int pa_nil))))))
  (pss_one (ps_ret (pe_lst (pa_cons pe_int (pa_cons pe_int (pa_cons pe_int (pa_cons (pv 1) (pa_cons (pe_callTy call_listOf (by rfl) m_list (by decide +kernel) (pa_cons (pe_slice sl_list (pv 0) po_none (po_some pe_int)) pa_nil)) (pa_cons pe_int pa_nil)))))))))))
abbrev s__law_take : Stmt := topS 35
abbrev n__law_take : List Str := ["state", "limit", "cells", "cell", "value"]
theorem sc__law_take : FnScope n__law_take ["state", "limit"] (defScope s__law_take) := ⟨rfl, rfl, rfl, by decide +kernel, rfl, by decide +kernel, by decide +kernel⟩
theorem ok__law_take {P : Program} {w : World} {K : PySem.W.Frag} {mg : Str → Option Value} {base : Heap} {f : Addr} {fd : FuncData} (F : Fun K "_law_take" "_law_take" s__law_take f fd) (gf : mg "_law_take" = some (.ref f)) (C__law_mixed : Cal P w K mg base "_law_mixed" 1 ["number", "k"] (sp__law_mixed K))  (m_abs : mg "abs" = none) (m_int : mg "int" = none) (m_len : mg "len" = none)  : Cal P w K mg base "_law_take" 2 ["state", "limit"] (sp__law_take K) := by
  refine ⟨f, fd, F.ok sc__law_take len__law_take (fun cdv A outer s H vs Q E hr h => ⟨t__law_take K, PSs.nox ?_, pure__law_take vs H Q E h⟩), F.kp, F.binds (fun _ _ _ _ _ _ us hl => match us, hl with | [_, _], _ => rfl), gf⟩
  exact (pss_cons (ps_set (i := 2) sc__law_take.nd rfl (by first | exact .inl rfl | exact .inr rfl) (pe_ix ix_list (pv 0) pe_int (fun _ _ => rfl)))
  (pss_cons (ps_augS (pv 0) pe_int get_list pe_int ip_add set_list)
  (pss_cons (ps_if (PW.pt (pw_and (pt_cmpR op_eq (pe_ix ix_list (pv 0) pe_int (fun _ _ => rfl)) pe_int (nomark _)) (pw_and1 (pt_cmpR op_lt (pe_ix ix_list (pv 0) pe_int (fun _ _ => rfl)) (pe_callB call_len1 (by rfl) m_len (by decide +kernel) (pa_cons (pv 2) pa_nil)) (nomark _))))) (pss_cons (ps_set (i := 3) sc__law_take.nd rfl (by first | exact .inl rfl | exact .inr rfl) (pe_ix ix_list (pv 2) (pe_ix ix_list (pv 0) pe_int (fun _ _ => rfl)) (fun _ _ => rfl)))
  (pss_cons (ps_augS (pv 0) pe_int get_list pe_int ip_add set_list)
  (pss_cons (ps_if (pt_cmpR op_lt (pe_callB call_abs1 (by rfl) m_abs (by decide +kernel) (pa_cons (pv 3) pa_nil)) (pe_op op_pow pe_int pe_int) (nomark _)) (pss_one (ps_ret (pe_op op_mod (pe_callTy call_int1 (by rfl) m_int (by decide +kernel) (pa_cons (pe_cal C__law_mixed (hr.mono (by decide)) rfl (pa_cons (pv 3) (pa_cons (pe_ix ix_list (pv 0) pe_int (fun _ _ => rfl)) pa_nil))) pa_nil)) (pv 1)))) pss_nil)
  (pss_cons (ps_asg (pe_callB call_abs1 (by rfl) m_abs (by decide +kernel) (pa_cons (pv 3) pa_nil)) (pg_sub (pv 0) pe_int set_list))
  (pss_one (ps_asg pe_int (pg_sub (pv 0) pe_int set_list))))))) pss_nil)
  (pss_cons (ps_if (pt_cmpR op_eq (pe_ix ix_list (pv 0) pe_int (fun _ _ => rfl)) pe_int (nomark _)) (pss_one (ps_ret (pe_op op_mod (pe_callTy call_int1 (by rfl) m_int (by decide +kernel) (pa_cons (pe_cal C__law_mixed (hr.mono (by decide)) rfl (pa_cons (pe_ix ix_list (pv 0) pe_int (fun _ _ => rfl)) (pa_cons (pe_ix ix_list (pv 0) pe_int (fun _ _ => rfl)) pa_nil))) pa_nil)) (pv 1)))) pss_nil)
  (pss_cons (ps_set (i := 4) sc__law_take.nd rfl (by first | exact .inl rfl | exact .inr rfl) (pe_op op_mod (pe_callTy call_int1 (by rfl) m_int (by decide +kernel) (pa_cons (pe_ix ix_list (pv 0) pe_int (fun _ _ => rfl)) pa_nil)) (pv 1)))
  (pss_cons (ps_augS (pv 0) pe_int get_list pe_int ip_sub set_list)
  (pss_cons (ps_asg (pe_op op_mul (pe_op op_fdiv (pe_ix ix_list (pv 0) pe_int (fun _ _ => rfl)) (pv 1)) (pe_callTy call_int1 (by rfl) m_int (by decide +kernel) (pa_cons (pe_cmpR op_gt (pe_ix ix_list (pv 0) pe_int (fun _ _ => rfl)) pe_int (nomark _)) pa_nil))) (pg_sub (pv 0) pe_int set_list))
  (pss_one (ps_ret (pv 4))))))))))
abbrev s__law_pick : Stmt := topS 36
abbrev n__law_pick : List Str := ["state", "some"]
theorem sc__law_pick : FnScope n__law_pick ["state", "some"] (defScope s__law_pick) := ⟨rfl, rfl, rfl, by decide +kernel, rfl, by decide +kernel, by decide +kernel⟩
theorem ok__law_pick {P : Program} {w : World} {K : PySem.W.Frag} {mg : Str → Option Value} {base : Heap} {f : Addr} {fd : FuncData} (F : Fun K "_law_pick" "_law_pick" s__law_pick f fd) (gf : mg "_law_pick" = some (.ref f)) (C__law_take : Cal P w K mg base "_law_take" 2 ["state", "limit"] (sp__law_take K))  (m_len : mg "len" = none)  : Cal P w K mg base "_law_pick" 3 ["state", "some"] (sp__law_pick K) := by
  refine ⟨f, fd, F.ok sc__law_pick len__law_pick (fun cdv A outer s H vs Q E hr h => ⟨t__law_pick K, PSs.nox ?_, pure__law_pick vs H Q E h⟩), F.kp, F.binds (fun _ _ _ _ _ _ us hl => match us, hl with | [_, _], _ => rfl), gf⟩
  exact (pss_one (ps_ret (pe_ix ix_any (pv 1) (pe_cal C__law_take (hr.mono (by decide)) rfl (pa_cons (pv 0) (pa_cons (pe_callB call_len1 (by rfl) m_len (by decide +kernel) (pa_cons (pv 1) pa_nil)) pa_nil))) (fun _ _ => rfl))))
abbrev s__law_shuffled : Stmt := topS 37
abbrev n__law_shuffled : List Str := ["state", "some", "left", "found", "k", "at"]
theorem sc__law_shuffled : FnScope n__law_shuffled ["state", "some"] (defScope s__law_shuffled) := ⟨rfl, rfl, rfl, by decide +kernel, rfl, by decide +kernel, by decide +kernel⟩
theorem ok__law_shuffled {P : Program} {w : World} {K : PySem.W.Frag} {mg : Str → Option Value} {base : Heap} {f : Addr} {fd : FuncData} (F : Fun K "_law_shuffled" "_law_shuffled" s__law_shuffled f fd) (gf : mg "_law_shuffled" = some (.ref f)) (C__law_take : Cal P w K mg base "_law_take" 2 ["state", "limit"] (sp__law_take K))  (m_len : mg "len" = none) (m_list : mg "list" = none) (m_range : mg "range" = none)  : Cal P w K mg base "_law_shuffled" 3 ["state", "some"] (sp__law_shuffled K) := by
  refine ⟨f, fd, F.ok sc__law_shuffled len__law_shuffled (fun cdv A outer s H vs Q E hr h => ⟨t__law_shuffled K, PSs.nox ?_, pure__law_shuffled vs H Q E h⟩), F.kp, F.binds (fun _ _ _ _ _ _ us hl => match us, hl with | [_, _], _ => rfl), gf⟩
  exact (pss_cons (ps_set (i := 2) sc__law_shuffled.nd rfl (by first | exact .inl rfl | exact .inr rfl) (pe_callTy call_listOf (by rfl) m_list (by decide +kernel) (pa_cons (pv 1) pa_nil)))
  (pss_cons (ps_set (i := 3) sc__law_shuffled.nd rfl (by first | exact .inl rfl | exact .inr rfl) (pe_lst pa_nil))
  (pss_cons (ps_for PassesOwn.never rfl (pi_range1 (by rfl) m_range (pa_cons (pe_callB call_len1 (by rfl) m_len (by decide +kernel) (pa_cons (pv 1) pa_nil)) pa_nil)) (pg_name (i := 4) sc__law_shuffled.nd rfl (by first | exact .inl rfl | exact .inr rfl))
  (pss_cons (ps_set (i := 5) sc__law_shuffled.nd rfl (by first | exact .inl rfl | exact .inr rfl) (pe_cal C__law_take (hr.mono (by decide)) rfl (pa_cons (pv 0) (pa_cons (pe_callB call_len1 (by rfl) m_len (by decide +kernel) (pa_cons (pv 2) pa_nil)) pa_nil))))
  (pss_cons (ps_expr (pe_bm PySem.F.plainAttrs_list PySem.F.slot_list_append PySem.F.type_list_append mt_append (pv 3) (pa_cons (pe_ix ix_list (pv 2) (pv 5) (fun _ _ => rfl)) pa_nil)))
  (pss_one (ps_set (i := 2) sc__law_shuffled.nd rfl (by first | exact .inl rfl | exact .inr rfl) (pe_op op_cat (pe_slice sl_list (pv 2) po_none (po_some (pv 5))) (pe_slice sl_list (pv 2) (po_some (pe_op op_add (pv 5) pe_int)) po_none)))))))
  (pss_one (ps_ret (pv 3))))))
abbrev s_is_true : Stmt := topS 1
abbrev n_is_true : List Str := ["claim", "at", "word", "truths", "part"]
theorem sc_is_true : FnScope n_is_true ["claim", "at"] (defScope s_is_true) := ⟨rfl, rfl, rfl, by decide +kernel, rfl, by decide +kernel, by decide +kernel⟩
theorem ok_is_true_step (m : Nat) {P : Program} {w : World} {K : PySem.W.Frag} {mg : Str → Option Value} {base : Heap} {f : Addr} {fd : FuncData} (F : Fun K "is_true" "is_true" s_is_true f fd) (gf : mg "is_true" = some (.ref f))  (m_all : mg "all" = none) (m_any : mg "any" = none)  (C_is_true : Cal P w K mg base "is_true" (1 + m) ["claim", "at"] (sp_is_true K m)) : Cal P w K mg base "is_true" (1 + m + 1) ["claim", "at"] (sp_is_true K (m + 1)) := by
  refine ⟨f, fd, F.ok (k := 1 + m) sc_is_true len_is_true (fun cdv A outer s H vs Q E hr h => ⟨t_is_true K m, PSs.nox ?_, pure_is_true vs H Q E h⟩), F.kp, F.binds (fun _ _ _ _ _ _ us hl => match us, hl with | [_, _], _ => rfl), gf⟩
  exact (pss_cons (ps_set (i := 2) sc_is_true.nd rfl (by first | exact .inl rfl | exact .inr rfl) (pe_ix ix_tup (pv 0) pe_int (fun _ _ => rfl)))
  (pss_cons (ps_if (pt_cmpR op_eq (pv 2) pe_str (nomark _)) (pss_one (ps_ret (pe_cmpR op_ge (pe_dget (hu_of hr) (pv 1) (pe_ix ix_tup (pv 0) pe_int (fun _ _ => rfl)) (fun _ _ => rfl)) (pe_ix ix_tup (pv 0) pe_int (fun _ _ => rfl)) (nomark _)))) pss_nil)
  (pss_cons (ps_if (pt_cmpR op_eq (pv 2) pe_str (nomark _)) (pss_one (ps_ret (pe_cmpR op_eq (pe_dget (hu_of hr) (pv 1) (pe_ix ix_tup (pv 0) pe_int (fun _ _ => rfl)) (fun _ _ => rfl)) (pe_ix ix_tup (pv 0) pe_int (fun _ _ => rfl)) (nomark _)))) pss_nil)
  (pss_cons (ps_if (pt_cmpR op_eq (pv 2) pe_str (nomark _)) (pss_one (ps_ret (pe_not (pe_cal C_is_true (hr.mono (by omega)) rfl (pa_cons (pe_ix ix_tup (pv 0) pe_int (fun _ _ => rfl)) (pa_cons (pv 1) pa_nil)))))) pss_nil)
  (pss_cons (ps_setLc (i := 3) (own := [("part", 4)]) rfl sc_is_true.nd rfl rfl (sw_true rfl rfl rfl (by decide +kernel)) (pi_tup (pe_ix ix_tup (pv 0) pe_int (fun _ _ => rfl))) (blkOk_by (own := [("part", 4)]) (N := n_is_true) (sc := defScope s_is_true) (by decide +kernel)) (fun _ _ _ _ _ => (pg_name (i := 4) sc_is_true.nd rfl (by first | exact .inl rfl | exact .inr rfl))) (fun _ _ _ _ _ => pts_nil) (fun _ _ _ _ _ => (pe_cal C_is_true (hr.mono (by omega)) rfl (pa_cons (pv 4) (pa_cons (pv 1) pa_nil)))))
  (pss_one (ps_ret (pe_ifExp (pt_cmpR op_eq (pv 2) pe_str (nomark _)) (pe_callB (cr_all rfl) (by rfl) m_all (by decide +kernel) (pa_cons (pv 3) pa_nil)) (pe_callB (cr_any rfl) (by rfl) m_any (by decide +kernel) (pa_cons (pv 3) pa_nil))))))))))
theorem ok_is_true_all {P : Program} {w : World} {K : PySem.W.Frag} {mg : Str → Option Value} {base : Heap} {f : Addr} {fd : FuncData} (F : Fun K "is_true" "is_true" s_is_true f fd) (gf : mg "is_true" = some (.ref f))  (m_all : mg "all" = none) (m_any : mg "any" = none)  : ∀ m, Cal P w K mg base "is_true" (1 + m) ["claim", "at"] (sp_is_true K m)
  | 0 => ⟨f, fd, F.ok (k := 0) sc_is_true len_is_true (fun cdv A outer s H vs Q E hr h => (no_is_true h).elim), F.kp, F.binds (fun _ _ _ _ _ _ us hl => match us, hl with | [_, _], _ => rfl), gf⟩
  | m + 1 => ok_is_true_step m F gf m_all m_any (ok_is_true_all F gf m_all m_any m)
theorem ok_is_true {P : Program} {w : World} {K : PySem.W.Frag} {mg : Str → Option Value} {base : Heap} {f : Addr} {fd : FuncData} (F : Fun K "is_true" "is_true" s_is_true f fd) (gf : mg "is_true" = some (.ref f))  (m_all : mg "all" = none) (m_any : mg "any" = none)  : Cal P w K mg base "is_true" 9 ["claim", "at"] (sp_is_true K 8) := ok_is_true_all F gf m_all m_any 8
abbrev s_weighed : Stmt := topS 4
abbrev n_weighed : List Str := ["terms", "at", "x", "weight"]
theorem sc_weighed : FnScope n_weighed ["terms", "at"] (defScope s_weighed) := ⟨rfl, rfl, rfl, by decide +kernel, rfl, by decide +kernel, by decide +kernel⟩
theorem ok_weighed {P : Program} {w : World} {K : PySem.W.Frag} {mg : Str → Option Value} {base : Heap} {f : Addr} {fd : FuncData} (F : Fun K "weighed" "weighed" s_weighed f fd) (gf : mg "weighed" = some (.ref f))   (m_sum : mg "sum" = none)  : Cal P w K mg base "weighed" 1 ["terms", "at"] (sp_weighed K) := by
  refine ⟨f, fd, F.ok sc_weighed len_weighed (fun cdv A outer s H vs Q E hr h => ⟨t_weighed K, PSs.nox ?_, pure_weighed vs H Q E h⟩), F.kp, F.binds (fun _ _ _ _ _ _ us hl => match us, hl with | [_, _], _ => rfl), gf⟩
  exact (pss_one (ps_ret (pe_callB (cr_sum rfl) (by rfl) m_sum (by decide +kernel) (pa_cons (pe_lc (own := [("x", 2), ("weight", 3)]) rfl sc_weighed.nd (pi_tup (pv 0)) (blkOk_by (own := [("x", 2), ("weight", 3)]) (N := n_weighed) (sc := defScope s_weighed) (by decide +kernel)) (fun _ _ _ _ _ => (pg_tup rfl (pgs_cons (pg_name (i := 2) sc_weighed.nd rfl (by first | exact .inl rfl | exact .inr rfl)) (pgs_cons (pg_name (i := 3) sc_weighed.nd rfl (by first | exact .inl rfl | exact .inr rfl)) pgs_nil)))) (fun _ _ _ _ _ => pts_nil) (fun _ _ _ _ _ => (pe_op op_mul (pv 3) (pe_dget (hu_of hr) (pv 1) (pv 2) (fun _ _ => rfl))))) pa_nil))))
abbrev s__least_holds : Stmt := topS 5
abbrev n__least_holds : List Str := ["saying", "at"]
theorem sc__least_holds : FnScope n__least_holds ["saying", "at"] (defScope s__least_holds) := ⟨rfl, rfl, rfl, by decide +kernel, rfl, by decide +kernel, by decide +kernel⟩
theorem ok__least_holds {P : Program} {w : World} {K : PySem.W.Frag} {mg : Str → Option Value} {base : Heap} {f : Addr} {fd : FuncData} (F : Fun K "_least_holds" "_least_holds" s__least_holds f fd) (gf : mg "_least_holds" = some (.ref f)) (C_weighed : Cal P w K mg base "weighed" 1 ["terms", "at"] (sp_weighed K))    : Cal P w K mg base "_least_holds" 2 ["saying", "at"] (sp__least_holds K) := by
  refine ⟨f, fd, F.ok sc__least_holds len__least_holds (fun cdv A outer s H vs Q E hr h => ⟨t__least_holds K, PSs.nox ?_, pure__least_holds vs H Q E h⟩), F.kp, F.binds (fun _ _ _ _ _ _ us hl => match us, hl with | [_, _], _ => rfl), gf⟩
  exact (pss_one (ps_ret (pe_cmpR op_ge (pe_cal C_weighed (hr.mono (by decide)) rfl (pa_cons (pe_ix ix_tup (pv 0) pe_int (fun _ _ => rfl)) (pa_cons (pv 1) pa_nil))) (pe_ix ix_tup (pv 0) pe_int (fun _ _ => rfl)) (nomark _))))
abbrev s__unlike_holds : Stmt := topS 7
abbrev n__unlike_holds : List Str := ["saying", "at", "x"]
theorem sc__unlike_holds : FnScope n__unlike_holds ["saying", "at"] (defScope s__unlike_holds) := ⟨rfl, rfl, rfl, by decide +kernel, rfl, by decide +kernel, by decide +kernel⟩
theorem ok__unlike_holds {P : Program} {w : World} {K : PySem.W.Frag} {mg : Str → Option Value} {base : Heap} {f : Addr} {fd : FuncData} (F : Fun K "_unlike_holds" "_unlike_holds" s__unlike_holds f fd) (gf : mg "_unlike_holds" = some (.ref f))   (m_len : mg "len" = none)  : Cal P w K mg base "_unlike_holds" 1 ["saying", "at"] (sp__unlike_holds K) := by
  refine ⟨f, fd, F.ok sc__unlike_holds len__unlike_holds (fun cdv A outer s H vs Q E hr h => ⟨t__unlike_holds K w, PSs.nox ?_, pure__unlike_holds vs H Q E h⟩), F.kp, F.binds (fun _ _ _ _ _ _ us hl => match us, hl with | [_, _], _ => rfl), gf⟩
  exact (pss_one (ps_ret (pe_cmpR op_eq (pe_callB call_lenS (by rfl) m_len (by decide +kernel) (pa_cons (pe_si (own := [("x", 2)]) rfl sc__unlike_holds.nd (pi_tup (pe_ix ix_tup (pv 0) pe_int (fun _ _ => rfl))) (blkOk_by (own := [("x", 2)]) (N := n__unlike_holds) (sc := defScope s__unlike_holds) (by decide +kernel)) (fun _ _ _ _ _ => (pg_name (i := 2) sc__unlike_holds.nd rfl (by first | exact .inl rfl | exact .inr rfl))) (fun _ _ _ _ _ => pts_nil) (fun _ _ _ _ _ => (pe_dget (hu_of hr) (pv 1) (pv 2) (fun _ _ => rfl)))) pa_nil)) (pe_callB call_len1 (by rfl) m_len (by decide +kernel) (pa_cons (pe_ix ix_tup (pv 0) pe_int (fun _ _ => rfl)) pa_nil)) (nomark _))))
abbrev s__counts_holds : Stmt := topS 8
abbrev n__counts_holds : List Str := ["saying", "at", "values", "x", "v", "low", "high"]
theorem sc__counts_holds : FnScope n__counts_holds ["saying", "at"] (defScope s__counts_holds) := ⟨rfl, rfl, rfl, by decide +kernel, rfl, by decide +kernel, by decide +kernel⟩
theorem ok__counts_holds {P : Program} {w : World} {K : PySem.W.Frag} {mg : Str → Option Value} {base : Heap} {f : Addr} {fd : FuncData} (F : Fun K "_counts_holds" "_counts_holds" s__counts_holds f fd) (gf : mg "_counts_holds" = some (.ref f))   (m_all : mg "all" = none)  : Cal P w K mg base "_counts_holds" 1 ["saying", "at"] (sp__counts_holds K) := by
  refine ⟨f, fd, F.ok sc__counts_holds len__counts_holds (fun cdv A outer s H vs Q E hr h => ⟨t__counts_holds K, PSs.nox ?_, pure__counts_holds vs H Q E h⟩), F.kp, F.binds (fun _ _ _ _ _ _ us hl => match us, hl with | [_, _], _ => rfl), gf⟩
  exact (pss_cons (ps_set (i := 2) sc__counts_holds.nd rfl (by first | exact .inl rfl | exact .inr rfl) (pe_lc (own := [("x", 3)]) rfl sc__counts_holds.nd (pi_tup (pe_ix ix_tup (pv 0) pe_int (fun _ _ => rfl))) (blkOk_by (own := [("x", 3)]) (N := n__counts_holds) (sc := defScope s__counts_holds) (by decide +kernel)) (fun _ _ _ _ _ => (pg_name (i := 3) sc__counts_holds.nd rfl (by first | exact .inl rfl | exact .inr rfl))) (fun _ _ _ _ _ => pts_nil) (fun _ _ _ _ _ => (pe_dget (hu_of hr) (pv 1) (pv 3) (fun _ _ => rfl)))))
  (pss_one (ps_ret (pe_callB (cr_all rfl) (by rfl) m_all (by decide +kernel) (pa_cons (pe_lc (own := [("v", 4), ("low", 5), ("high", 6)]) rfl sc__counts_holds.nd (pi_tup (pe_ix ix_tup (pv 0) pe_int (fun _ _ => rfl))) (blkOk_by (own := [("v", 4), ("low", 5), ("high", 6)]) (N := n__counts_holds) (sc := defScope s__counts_holds) (by decide +kernel)) (fun _ _ _ _ _ => (pg_tup rfl (pgs_cons (pg_name (i := 4) sc__counts_holds.nd rfl (by first | exact .inl rfl | exact .inr rfl)) (pgs_cons (pg_name (i := 5) sc__counts_holds.nd rfl (by first | exact .inl rfl | exact .inr rfl)) (pgs_cons (pg_name (i := 6) sc__counts_holds.nd rfl (by first | exact .inl rfl | exact .inr rfl)) pgs_nil))))) (fun _ _ _ _ _ => pts_nil) (fun _ _ _ _ _ => (pe_chain op_le op_le (pv 5) (pe_bm PySem.F.plainAttrs_list PySem.F.slot_list_count PySem.F.type_list_count mt_lcount (pv 2) (pa_cons (pv 4) pa_nil)) (pv 6)))) pa_nil)))))
abbrev s__table_holds : Stmt := topS 9
abbrev n__table_holds : List Str := ["saying", "at", "x"]
theorem sc__table_holds : FnScope n__table_holds ["saying", "at"] (defScope s__table_holds) := ⟨rfl, rfl, rfl, by decide +kernel, rfl, by decide +kernel, by decide +kernel⟩
theorem ok__table_holds {P : Program} {w : World} {K : PySem.W.Frag} {mg : Str → Option Value} {base : Heap} {f : Addr} {fd : FuncData} (F : Fun K "_table_holds" "_table_holds" s__table_holds f fd) (gf : mg "_table_holds" = some (.ref f))   (m_tuple : mg "tuple" = none)  : Cal P w K mg base "_table_holds" 1 ["saying", "at"] (sp__table_holds K) := by
  refine ⟨f, fd, F.ok sc__table_holds len__table_holds (fun cdv A outer s H vs Q E hr h => ⟨t__table_holds K, PSs.nox ?_, pure__table_holds vs H Q E h⟩), F.kp, F.binds (fun _ _ _ _ _ _ us hl => match us, hl with | [_, _], _ => rfl), gf⟩
  exact (pss_one (ps_ret (pe_cmpR (op_inT (units65 hr)) (pe_tupleOf (by rfl) m_tuple (pe_lc (own := [("x", 2)]) rfl sc__table_holds.nd (pi_tup (pe_ix ix_tup (pv 0) pe_int (fun _ _ => rfl))) (blkOk_by (own := [("x", 2)]) (N := n__table_holds) (sc := defScope s__table_holds) (by decide +kernel)) (fun _ _ _ _ _ => (pg_name (i := 2) sc__table_holds.nd rfl (by first | exact .inl rfl | exact .inr rfl))) (fun _ _ _ _ _ => pts_nil) (fun _ _ _ _ _ => (pe_dget (hu_of hr) (pv 1) (pv 2) (fun _ _ => rfl))))) (pe_ix ix_tup (pv 0) pe_int (fun _ _ => rfl)) (by rfl))))
abbrev s__bar_holds : Stmt := topS 10
abbrev n__bar_holds : List Str := ["saying", "at"]
theorem sc__bar_holds : FnScope n__bar_holds ["saying", "at"] (defScope s__bar_holds) := ⟨rfl, rfl, rfl, by decide +kernel, rfl, by decide +kernel, by decide +kernel⟩
theorem ok__bar_holds {P : Program} {w : World} {K : PySem.W.Frag} {mg : Str → Option Value} {base : Heap} {f : Addr} {fd : FuncData} (F : Fun K "_bar_holds" "_bar_holds" s__bar_holds f fd) (gf : mg "_bar_holds" = some (.ref f)) (C__table_holds : Cal P w K mg base "_table_holds" 1 ["saying", "at"] (sp__table_holds K))    : Cal P w K mg base "_bar_holds" 2 ["saying", "at"] (sp__bar_holds K) := by
  refine ⟨f, fd, F.ok sc__bar_holds len__bar_holds (fun cdv A outer s H vs Q E hr h => ⟨t__bar_holds K, PSs.nox ?_, pure__bar_holds vs H Q E h⟩), F.kp, F.binds (fun _ _ _ _ _ _ us hl => match us, hl with | [_, _], _ => rfl), gf⟩
  exact (pss_one (ps_ret (pe_not (pe_cal C__table_holds (hr.mono (by decide)) rfl (pa_cons (pv 0) (pa_cons (pv 1) pa_nil))))))
abbrev s__top_holds : Stmt := topS 12
abbrev n__top_holds : List Str := ["saying", "at", "x"]
theorem sc__top_holds : FnScope n__top_holds ["saying", "at"] (defScope s__top_holds) := ⟨rfl, rfl, rfl, by decide +kernel, rfl, by decide +kernel, by decide +kernel⟩
theorem ok__top_holds {P : Program} {w : World} {K : PySem.W.Frag} {mg : Str → Option Value} {base : Heap} {f : Addr} {fd : FuncData} (F : Fun K "_top_holds" "_top_holds" s__top_holds f fd) (gf : mg "_top_holds" = some (.ref f))   (m_max : mg "max" = none)  : Cal P w K mg base "_top_holds" 1 ["saying", "at"] (sp__top_holds K) := by
  refine ⟨f, fd, F.ok sc__top_holds len__top_holds (fun cdv A outer s H vs Q E hr h => ⟨t__top_holds K, PSs.nox ?_, pure__top_holds vs H Q E h⟩), F.kp, F.binds (fun _ _ _ _ _ _ us hl => match us, hl with | [_, _], _ => rfl), gf⟩
  exact (pss_one (ps_ret (pe_cmpR op_eq (pe_dget (hu_of hr) (pv 1) (pe_ix ix_tup (pv 0) pe_int (fun _ _ => rfl)) (fun _ _ => rfl)) (pe_callB (cr_max rfl) (by rfl) m_max (by decide +kernel) (pa_cons (pe_lc (own := [("x", 2)]) rfl sc__top_holds.nd (pi_tup (pe_ix ix_tup (pv 0) pe_int (fun _ _ => rfl))) (blkOk_by (own := [("x", 2)]) (N := n__top_holds) (sc := defScope s__top_holds) (by decide +kernel)) (fun _ _ _ _ _ => (pg_name (i := 2) sc__top_holds.nd rfl (by first | exact .inl rfl | exact .inr rfl))) (fun _ _ _ _ _ => pts_nil) (fun _ _ _ _ _ => (pe_dget (hu_of hr) (pv 1) (pv 2) (fun _ _ => rfl)))) pa_nil)) (nomark _))))
abbrev s__ahead_holds : Stmt := topS 14
abbrev n__ahead_holds : List Str := ["saying", "at", "x", "y"]
theorem sc__ahead_holds : FnScope n__ahead_holds ["saying", "at"] (defScope s__ahead_holds) := ⟨rfl, rfl, rfl, by decide +kernel, rfl, by decide +kernel, by decide +kernel⟩
theorem ok__ahead_holds {P : Program} {w : World} {K : PySem.W.Frag} {mg : Str → Option Value} {base : Heap} {f : Addr} {fd : FuncData} (F : Fun K "_ahead_holds" "_ahead_holds" s__ahead_holds f fd) (gf : mg "_ahead_holds" = some (.ref f))     : Cal P w K mg base "_ahead_holds" 1 ["saying", "at"] (sp__ahead_holds K) := by
  refine ⟨f, fd, F.ok sc__ahead_holds len__ahead_holds (fun cdv A outer s H vs Q E hr h => ⟨t__ahead_holds K, PSs.nox ?_, pure__ahead_holds vs H Q E h⟩), F.kp, F.binds (fun _ _ _ _ _ _ us hl => match us, hl with | [_, _], _ => rfl), gf⟩
  exact (pss_one (ps_ret (pe_cmpR (op_leL (Nat.lt_of_succ_lt (hu_of hr))) (pe_lc (own := [("x", 2)]) rfl sc__ahead_holds.nd (pi_tup (pe_ix ix_tup (pv 0) pe_int (fun _ _ => rfl))) (blkOk_by (own := [("x", 2)]) (N := n__ahead_holds) (sc := defScope s__ahead_holds) (by decide +kernel)) (fun _ _ _ _ _ => (pg_name (i := 2) sc__ahead_holds.nd rfl (by first | exact .inl rfl | exact .inr rfl))) (fun _ _ _ _ _ => pts_nil) (fun _ _ _ _ _ => (pe_dget (hu_of hr) (pv 1) (pv 2) (fun _ _ => rfl)))) (pe_lc (own := [("y", 3)]) rfl sc__ahead_holds.nd (pi_tup (pe_ix ix_tup (pv 0) pe_int (fun _ _ => rfl))) (blkOk_by (own := [("y", 3)]) (N := n__ahead_holds) (sc := defScope s__ahead_holds) (by decide +kernel)) (fun _ _ _ _ _ => (pg_name (i := 3) sc__ahead_holds.nd rfl (by first | exact .inl rfl | exact .inr rfl))) (fun _ _ _ _ _ => pts_nil) (fun _ _ _ _ _ => (pe_dget (hu_of hr) (pv 1) (pv 3) (fun _ _ => rfl)))) (nomark _))))
abbrev s__claim_holds : Stmt := topS 20
abbrev n__claim_holds : List Str := ["saying", "at"]
theorem sc__claim_holds : FnScope n__claim_holds ["saying", "at"] (defScope s__claim_holds) := ⟨rfl, rfl, rfl, by decide +kernel, rfl, by decide +kernel, by decide +kernel⟩
theorem ok__claim_holds {P : Program} {w : World} {K : PySem.W.Frag} {mg : Str → Option Value} {base : Heap} {f : Addr} {fd : FuncData} (F : Fun K "_claim_holds" "_claim_holds" s__claim_holds f fd) (gf : mg "_claim_holds" = some (.ref f)) (C_is_true : Cal P w K mg base "is_true" 9 ["claim", "at"] (sp_is_true K 8))    : Cal P w K mg base "_claim_holds" 10 ["saying", "at"] (sp__claim_holds K) := by
  refine ⟨f, fd, F.ok sc__claim_holds len__claim_holds (fun cdv A outer s H vs Q E hr h => ⟨t__claim_holds K, PSs.nox ?_, pure__claim_holds vs H Q E h⟩), F.kp, F.binds (fun _ _ _ _ _ _ us hl => match us, hl with | [_, _], _ => rfl), gf⟩
  exact (pss_one (ps_ret (pe_cal C_is_true (hr.mono (by decide)) rfl (pa_cons (pe_ix ix_tup (pv 0) pe_int (fun _ _ => rfl)) (pa_cons (pv 1) pa_nil)))))
abbrev s__when_holds : Stmt := topS 21
abbrev n__when_holds : List Str := ["saying", "at"]
theorem sc__when_holds : FnScope n__when_holds ["saying", "at"] (defScope s__when_holds) := ⟨rfl, rfl, rfl, by decide +kernel, rfl, by decide +kernel, by decide +kernel⟩
theorem ok__when_holds {P : Program} {w : World} {K : PySem.W.Frag} {mg : Str → Option Value} {base : Heap} {f : Addr} {fd : FuncData} (F : Fun K "_when_holds" "_when_holds" s__when_holds f fd) (gf : mg "_when_holds" = some (.ref f)) (C_holds : Cal P w K mg base "holds" 11 ["saying", "at"] (sp_holds0 K)) (C_is_true : Cal P w K mg base "is_true" 9 ["claim", "at"] (sp_is_true K 8))    : Cal P w K mg base "_when_holds" 12 ["saying", "at"] (sp__when_holds K) := by
  refine ⟨f, fd, F.ok sc__when_holds len__when_holds (fun cdv A outer s H vs Q E hr h => ⟨t__when_holds K, PSs.nox ?_, pure__when_holds vs H Q E h⟩), F.kp, F.binds (fun _ _ _ _ _ _ us hl => match us, hl with | [_, _], _ => rfl), gf⟩
  exact (pss_one (ps_ret (pe_or (pe_not (pe_cal C_is_true (hr.mono (by decide)) rfl (pa_cons (pe_ix ix_tup (pv 0) pe_int (fun _ _ => rfl)) (pa_cons (pv 1) pa_nil)))) (pe_one (pe_cal C_holds (hr.mono (by decide)) rfl (pa_cons (pe_ix ix_tup (pv 0) pe_int (fun _ _ => rfl)) (pa_cons (pv 1) pa_nil)))))))
abbrev s_values_at : Stmt := topS 28
abbrev n_values_at : List Str := ["model", "filling", "item", "v"]
theorem sc_values_at : FnScope n_values_at ["model", "filling"] (defScope s_values_at) := ⟨rfl, rfl, rfl, by decide +kernel, rfl, by decide +kernel, by decide +kernel⟩
theorem ok_values_at {P : Program} {w : World} {K : PySem.W.Frag} {mg : Str → Option Value} {base : Heap} {f : Addr} {fd : FuncData} (F : Fun K "values_at" "values_at" s_values_at f fd) (gf : mg "values_at" = some (.ref f))   (m_zip : mg "zip" = none)  : Cal P w K mg base "values_at" 1 ["model", "filling"] (sp_values_at K) := by
  refine ⟨f, fd, F.ok sc_values_at len_values_at (fun cdv A outer s H vs Q E hr h => ⟨t_values_at K, PSs.nox ?_, pure_values_at vs H Q E h⟩), F.kp, F.binds (fun _ _ _ _ _ _ us hl => match us, hl with | [_, _], _ => rfl), gf⟩
  exact (pss_one (ps_ret (pe_dc (own := [("item", 2), ("v", 3)]) rfl sc_values_at.nd (pi_zipA (by rfl) m_zip (pa_cons (pe_ix ix_tup (pv 0) pe_int (fun _ _ => rfl)) (pa_cons (pv 1) pa_nil))) (blkOk_by (own := [("item", 2), ("v", 3)]) (N := n_values_at) (sc := defScope s_values_at) (by decide +kernel)) (fun _ _ _ _ _ => (pg_tup rfl (pgs_cons (pg_name (i := 2) sc_values_at.nd rfl (by first | exact .inl rfl | exact .inr rfl)) (pgs_cons (pg_name (i := 3) sc_values_at.nd rfl (by first | exact .inl rfl | exact .inr rfl)) pgs_nil)))) (fun _ _ _ _ _ => pts_nil) (fun _ _ _ _ _ => (pe_ix ix_tup (pv 2) pe_int (fun _ _ => rfl))) (fun _ _ _ _ _ => (pv 3)))))
abbrev s_saying_of : Stmt := topS 29
abbrev n_saying_of : List Str := ["model", "name", "sayings", "item"]
theorem sc_saying_of : FnScope n_saying_of ["model", "name"] (defScope s_saying_of) := ⟨rfl, rfl, rfl, by decide +kernel, rfl, by decide +kernel, by decide +kernel⟩
theorem ok_saying_of {P : Program} {w : World} {K : PySem.W.Frag} {mg : Str → Option Value} {base : Heap} {f : Addr} {fd : FuncData} (F : Fun K "saying_of" "saying_of" s_saying_of f fd) (gf : mg "saying_of" = some (.ref f))     : Cal P w K mg base "saying_of" 1 ["model", "name"] (sp_saying_of K) := by
  refine ⟨f, fd, F.ok sc_saying_of len_saying_of (fun cdv A outer s H vs Q E hr h => ⟨t_saying_of K, PSs.nox ?_, pure_saying_of vs H Q E h⟩), F.kp, F.binds (fun _ _ _ _ _ _ us hl => match us, hl with | [_, _], _ => rfl), gf⟩
  exact (pss_cons (ps_setDc (i := 2) (own := [("item", 3)]) rfl sc_saying_of.nd rfl rfl (sw_trueD rfl rfl rfl (by decide +kernel)) (pi_tup (pe_op op_catA (pe_ix ix_tup (pv 0) pe_int (fun _ _ => rfl)) (pe_ix ix_tup (pv 0) pe_int (fun _ _ => rfl)))) (blkOk_by (own := [("item", 3)]) (N := n_saying_of) (sc := defScope s_saying_of) (by decide +kernel)) (fun _ _ _ _ _ => (pg_name (i := 3) sc_saying_of.nd rfl (by first | exact .inl rfl | exact .inr rfl))) (fun _ _ _ _ _ => pts_nil) (fun _ _ _ _ _ => (pe_ix ix_tup (pv 3) pe_int (fun _ _ => rfl))) (fun _ _ _ _ _ => (pe_ix ix_tup (pv 3) pe_int (fun _ _ => rfl))))
  (pss_one (ps_ret (pe_dget (hu_of hr) (pv 2) (pv 1) (fun _ _ => rfl)))))
abbrev s_keeps_saying : Stmt := topS 30
abbrev n_keeps_saying : List Str := ["model", "name", "filling"]
theorem sc_keeps_saying : FnScope n_keeps_saying ["model", "name", "filling"] (defScope s_keeps_saying) := ⟨rfl, rfl, rfl, by decide +kernel, rfl, by decide +kernel, by decide +kernel⟩
theorem ok_keeps_saying {P : Program} {w : World} {K : PySem.W.Frag} {mg : Str → Option Value} {base : Heap} {f : Addr} {fd : FuncData} (F : Fun K "keeps_saying" "keeps_saying" s_keeps_saying f fd) (gf : mg "keeps_saying" = some (.ref f)) (C_holds : Cal P w K mg base "holds" 13 ["saying", "at"] (sp_holds K)) (C_saying_of : Cal P w K mg base "saying_of" 1 ["model", "name"] (sp_saying_of K)) (C_values_at : Cal P w K mg base "values_at" 1 ["model", "filling"] (sp_values_at K))    : FnOk P w K mg base CX0 14 f fd ["model", "name", "filling"] (sp_keeps_saying K) := by
  refine F.ok sc_keeps_saying len_keeps_saying (fun cdv A outer s H vs Q E hr h => ⟨t_keeps_saying K, PSs.nox ?_, pure_keeps_saying vs H Q E h⟩)
  exact (pss_one (ps_ret (pe_cal C_holds (hr.mono (by decide)) rfl (pa_cons (pe_cal C_saying_of (hr.mono (by decide)) rfl (pa_cons (pv 0) (pa_cons (pv 1) pa_nil))) (pa_cons (pe_cal C_values_at (hr.mono (by decide)) rfl (pa_cons (pv 0) (pa_cons (pv 2) pa_nil))) pa_nil)))))
abbrev s_keeps : Stmt := topS 31
abbrev n_keeps : List Str := ["model", "filling", "at", "name", "saying"]
theorem sc_keeps : FnScope n_keeps ["model", "filling"] (defScope s_keeps) := ⟨rfl, rfl, rfl, by decide +kernel, rfl, by decide +kernel, by decide +kernel⟩
theorem ok_keeps {P : Program} {w : World} {K : PySem.W.Frag} {mg : Str → Option Value} {base : Heap} {f : Addr} {fd : FuncData} (F : Fun K "keeps" "keeps" s_keeps f fd) (gf : mg "keeps" = some (.ref f)) (C_holds : Cal P w K mg base "holds" 13 ["saying", "at"] (sp_holds K)) (C_values_at : Cal P w K mg base "values_at" 1 ["model", "filling"] (sp_values_at K))    : FnOk P w K mg base CX0 14 f fd ["model", "filling"] (sp_keeps K) := by
  refine F.ok sc_keeps len_keeps (fun cdv A outer s H vs Q E hr h => ⟨t_keeps K, PSs.nox ?_, pure_keeps vs H Q E h⟩)
  exact (pss_cons (ps_set (i := 2) sc_keeps.nd rfl (by first | exact .inl rfl | exact .inr rfl) (pe_cal C_values_at (hr.mono (by decide)) rfl (pa_cons (pv 0) (pa_cons (pv 1) pa_nil))))
  (pss_cons (ps_for PassesOwn.never rfl (pi_tup (pe_ix ix_tup (pv 0) pe_int (fun _ _ => rfl))) (pg_tup rfl (pgs_cons (pg_name (i := 3) sc_keeps.nd rfl (by first | exact .inl rfl | exact .inr rfl)) (pgs_cons (pg_name (i := 4) sc_keeps.nd rfl (by first | exact .inl rfl | exact .inr rfl)) pgs_nil)))
  (pss_one (ps_if (pt_not (pt_val (pe_cal C_holds (hr.mono (by decide)) rfl (pa_cons (pv 4) (pa_cons (pv 2) pa_nil))))) (pss_one (ps_ret pe_bl)) pss_nil)))
  (pss_one (ps_ret pe_bl))))
abbrev s__law_is_due : Stmt := topS 40
abbrev n__law_is_due : List Str := ["told", "due"]
theorem sc__law_is_due : FnScope n__law_is_due ["told", "due"] (defScope s__law_is_due) := ⟨rfl, rfl, rfl, by decide +kernel, rfl, by decide +kernel, by decide +kernel⟩
theorem ok__law_is_due {P : Program} {w : World} {K : PySem.W.Frag} {mg : Str → Option Value} {base : Heap} {f : Addr} {fd : FuncData} (F : Fun K "_law_is_due" "_law_is_due" s__law_is_due f fd) (gf : mg "_law_is_due" = some (.ref f))     : Cal P w K mg base "_law_is_due" 1 ["told", "due"] (sp__law_is_due K) := by
  refine ⟨f, fd, F.ok sc__law_is_due len__law_is_due (fun cdv A outer s H vs Q E hr h => ⟨t__law_is_due , PSs.nox ?_, pure__law_is_due vs H Q E h⟩), F.kp, F.binds (fun _ _ _ _ _ _ us hl => match us, hl with | [_, _], _ => rfl), gf⟩
  exact (pss_one (ps_ret (pe_ifExp (pt_val (pv 1)) (pe_cmpR op_isBl (pv 0) pe_bl (nomark _)) (pe_cmpR op_isBl (pv 0) pe_bl (nomark _)))))
abbrev s__law_world : Stmt := topS 42
abbrev n__law_world : List Str := ["doms", "filling", "at", "k"]
theorem sc__law_world : FnScope n__law_world ["doms", "filling"] (defScope s__law_world) := ⟨rfl, rfl, rfl, by decide +kernel, rfl, by decide +kernel, by decide +kernel⟩
theorem ok__law_world {P : Program} {w : World} {K : PySem.W.Frag} {mg : Str → Option Value} {base : Heap} {f : Addr} {fd : FuncData} (F : Fun K "_law_world" "_law_world" s__law_world f fd) (gf : mg "_law_world" = some (.ref f))   (m_len : mg "len" = none) (m_range : mg "range" = none)  : Cal P w K mg base "_law_world" 1 ["doms", "filling"] (sp__law_world K) := by
  refine ⟨f, fd, F.ok sc__law_world len__law_world (fun cdv A outer s H vs Q E hr h => ⟨t__law_world K, PSs.nox ?_, pure__law_world vs H Q E h⟩), F.kp, F.binds (fun _ _ _ _ _ _ us hl => match us, hl with | [_, _], _ => rfl), gf⟩
  exact (pss_cons (ps_set (i := 2) sc__law_world.nd rfl (by first | exact .inl rfl | exact .inr rfl) pe_dnewK)
  (pss_cons (ps_for PassesOwn.never rfl (pi_range1 (by rfl) m_range (pa_cons (pe_callB call_len1 (by rfl) m_len (by decide +kernel) (pa_cons (pv 0) pa_nil)) pa_nil)) (pg_name (i := 3) sc__law_world.nd rfl (by first | exact .inl rfl | exact .inr rfl))
  (pss_one (ps_dput (hu_of hr) (pv 2) (pe_ix ix_tup (pe_ix ix_list (pv 0) (pv 3) (fun _ _ => rfl)) pe_int (fun _ _ => rfl)) (pe_ix ix_any (pv 1) (pv 3) (fun _ _ => rfl)) rfl)))
  (pss_one (ps_ret (pv 2)))))
abbrev s__law_true : Stmt := topS 47
abbrev n__law_true : List Str := ["claim", "at", "right", "one"]
theorem sc__law_true : FnScope n__law_true ["claim", "at"] (defScope s__law_true) := ⟨rfl, rfl, rfl, by decide +kernel, rfl, by decide +kernel, by decide +kernel⟩
theorem ok__law_true_step (m : Nat) {P : Program} {w : World} {K : PySem.W.Frag} {mg : Str → Option Value} {base : Heap} {f : Addr} {fd : FuncData} (F : Fun K "_law_true" "_law_true" s__law_true f fd) (gf : mg "_law_true" = some (.ref f))  (m_len : mg "len" = none)  (C__law_true : Cal P w K mg base "_law_true" (1 + m) ["claim", "at"] (sp__law_true K m)) : Cal P w K mg base "_law_true" (1 + m + 1) ["claim", "at"] (sp__law_true K (m + 1)) := by
  refine ⟨f, fd, F.ok (k := 1 + m) sc__law_true len__law_true (fun cdv A outer s H vs Q E hr h => ⟨t__law_true K m, PSs.nox ?_, pure__law_true vs H Q E h⟩), F.kp, F.binds (fun _ _ _ _ _ _ us hl => match us, hl with | [_, _], _ => rfl), gf⟩
  exact (pss_cons (ps_if (pt_cmpR op_eq (pe_ix ix_tup (pv 0) pe_int (fun _ _ => rfl)) pe_str (nomark _)) (pss_one (ps_ret (pe_cmpR op_ge (pe_dget (hu_of hr) (pv 1) (pe_ix ix_tup (pv 0) pe_int (fun _ _ => rfl)) (fun _ _ => rfl)) (pe_ix ix_tup (pv 0) pe_int (fun _ _ => rfl)) (nomark _)))) pss_nil)
  (pss_cons (ps_if (pt_cmpR op_eq (pe_ix ix_tup (pv 0) pe_int (fun _ _ => rfl)) pe_str (nomark _)) (pss_one (ps_ret (pe_cmpR op_eq (pe_dget (hu_of hr) (pv 1) (pe_ix ix_tup (pv 0) pe_int (fun _ _ => rfl)) (fun _ _ => rfl)) (pe_ix ix_tup (pv 0) pe_int (fun _ _ => rfl)) (nomark _)))) pss_nil)
  (pss_cons (ps_if (pt_cmpR op_eq (pe_ix ix_tup (pv 0) pe_int (fun _ _ => rfl)) pe_str (nomark _)) (pss_one (ps_ret (pe_not (pe_cal C__law_true (hr.mono (by omega)) rfl (pa_cons (pe_ix ix_tup (pv 0) pe_int (fun _ _ => rfl)) (pa_cons (pv 1) pa_nil)))))) pss_nil)
  (pss_cons (ps_set (i := 2) sc__law_true.nd rfl (by first | exact .inl rfl | exact .inr rfl) (pe_callB call_len1 (by rfl) m_len (by decide +kernel) (pa_cons (pe_lc (own := [("one", 3)]) rfl sc__law_true.nd (pi_tup (pe_ix ix_tup (pv 0) pe_int (fun _ _ => rfl))) (blkOk_by (own := [("one", 3)]) (N := n__law_true) (sc := defScope s__law_true) (by decide +kernel)) (fun _ _ _ _ _ => (pg_name (i := 3) sc__law_true.nd rfl (by first | exact .inl rfl | exact .inr rfl))) (fun _ _ _ _ _ => (pts_one (pt_val (pe_cal C__law_true (hr.mono (by omega)) rfl (pa_cons (pv 3) (pa_cons (pv 1) pa_nil)))))) (fun _ _ _ _ _ => (pv 3))) pa_nil)))
  (pss_one (ps_ret (pe_ifExp (pt_cmpR op_eq (pe_ix ix_tup (pv 0) pe_int (fun _ _ => rfl)) pe_str (nomark _)) (pe_cmpR op_eq (pv 2) (pe_callB call_len1 (by rfl) m_len (by decide +kernel) (pa_cons (pe_ix ix_tup (pv 0) pe_int (fun _ _ => rfl)) pa_nil)) (nomark _)) (pe_cmpR op_gt (pv 2) pe_int (nomark _)))))))))
theorem ok__law_true_all {P : Program} {w : World} {K : PySem.W.Frag} {mg : Str → Option Value} {base : Heap} {f : Addr} {fd : FuncData} (F : Fun K "_law_true" "_law_true" s__law_true f fd) (gf : mg "_law_true" = some (.ref f))  (m_len : mg "len" = none)  : ∀ m, Cal P w K mg base "_law_true" (1 + m) ["claim", "at"] (sp__law_true K m)
  | 0 => ⟨f, fd, F.ok (k := 0) sc__law_true len__law_true (fun cdv A outer s H vs Q E hr h => (no__law_true h).elim), F.kp, F.binds (fun _ _ _ _ _ _ us hl => match us, hl with | [_, _], _ => rfl), gf⟩
  | m + 1 => ok__law_true_step m F gf m_len (ok__law_true_all F gf m_len m)
theorem ok__law_true {P : Program} {w : World} {K : PySem.W.Frag} {mg : Str → Option Value} {base : Heap} {f : Addr} {fd : FuncData} (F : Fun K "_law_true" "_law_true" s__law_true f fd) (gf : mg "_law_true" = some (.ref f))  (m_len : mg "len" = none)  : Cal P w K mg base "_law_true" 9 ["claim", "at"] (sp__law_true K 8) := ok__law_true_all F gf m_len 8
abbrev s__law_holds : Stmt := topS 48
abbrev n__law_holds : List Str := ["saying", "at", "kind", "term", "values", "x", "v", "one"]
theorem sc__law_holds : FnScope n__law_holds ["saying", "at"] (defScope s__law_holds) := ⟨rfl, rfl, rfl, by decide +kernel, rfl, by decide +kernel, by decide +kernel⟩
theorem ok__law_holds_step (m : Nat) {P : Program} {w : World} {K : PySem.W.Frag} {mg : Str → Option Value} {base : Heap} {f : Addr} {fd : FuncData} (F : Fun K "_law_holds" "_law_holds" s__law_holds f fd) (gf : mg "_law_holds" = some (.ref f)) (C__law_true : Cal P w K mg base "_law_true" 9 ["claim", "at"] (sp__law_true K 8)) (m_len : mg "len" = none) (m_max : mg "max" = none) (m_sum : mg "sum" = none) (m_tuple : mg "tuple" = none)  (C__law_holds : Cal P w K mg base "_law_holds" (10 + m) ["saying", "at"] (sp__law_holds K m)) : Cal P w K mg base "_law_holds" (10 + m + 1) ["saying", "at"] (sp__law_holds K (m + 1)) := by
  refine ⟨f, fd, F.ok (k := 10 + m) sc__law_holds len__law_holds (fun cdv A outer s H vs Q E hr h => ⟨t__law_holds K m, PSs.nox ?_, pure__law_holds vs H Q E h⟩), F.kp, F.binds (fun _ _ _ _ _ _ us hl => match us, hl with | [_, _], _ => rfl), gf⟩
  exact (pss_cons (ps_set (i := 2) sc__law_holds.nd rfl (by first | exact .inl rfl | exact .inr rfl) (pe_ix ix_tup (pv 0) pe_int (fun _ _ => rfl)))
  (pss_cons (ps_if (pt_cmpR op_eq (pv 2) pe_str (nomark _)) (pss_one (ps_ret (pe_cal C__law_true (hr.mono (by omega)) rfl (pa_cons (pe_ix ix_tup (pv 0) pe_int (fun _ _ => rfl)) (pa_cons (pv 1) pa_nil))))) pss_nil)
  (pss_cons (ps_if (pt_cmpR op_eq (pv 2) pe_str (nomark _)) (pss_one (ps_ret (pe_or (pe_not (pe_cal C__law_true (hr.mono (by omega)) rfl (pa_cons (pe_ix ix_tup (pv 0) pe_int (fun _ _ => rfl)) (pa_cons (pv 1) pa_nil)))) (pe_one (pe_cal C__law_holds (hr.mono (by omega)) rfl (pa_cons (pe_ix ix_tup (pv 0) pe_int (fun _ _ => rfl)) (pa_cons (pv 1) pa_nil))))))) pss_nil)
  (pss_cons (ps_if (pt_cmpR op_eq (pv 2) pe_str (nomark _)) (pss_one (ps_ret (pe_cmpR op_ge (pe_callB (cr_sum rfl) (by rfl) m_sum (by decide +kernel) (pa_cons (pe_lc (own := [("term", 3)]) rfl sc__law_holds.nd (pi_tup (pe_ix ix_tup (pv 0) pe_int (fun _ _ => rfl))) (blkOk_by (own := [("term", 3)]) (N := n__law_holds) (sc := defScope s__law_holds) (by decide +kernel)) (fun _ _ _ _ _ => (pg_name (i := 3) sc__law_holds.nd rfl (by first | exact .inl rfl | exact .inr rfl))) (fun _ _ _ _ _ => pts_nil) (fun _ _ _ _ _ => (pe_op op_mul (pe_ix ix_tup (pv 3) pe_int (fun _ _ => rfl)) (pe_dget (hu_of hr) (pv 1) (pe_ix ix_tup (pv 3) pe_int (fun _ _ => rfl)) (fun _ _ => rfl))))) pa_nil)) (pe_ix ix_tup (pv 0) pe_int (fun _ _ => rfl)) (nomark _)))) pss_nil)
  (pss_cons (ps_set (i := 4) sc__law_holds.nd rfl (by first | exact .inl rfl | exact .inr rfl) (pe_lc (own := [("x", 5)]) rfl sc__law_holds.nd (pi_tup (pe_ix ix_tup (pv 0) pe_int (fun _ _ => rfl))) (blkOk_by (own := [("x", 5)]) (N := n__law_holds) (sc := defScope s__law_holds) (by decide +kernel)) (fun _ _ _ _ _ => (pg_name (i := 5) sc__law_holds.nd rfl (by first | exact .inl rfl | exact .inr rfl))) (fun _ _ _ _ _ => pts_nil) (fun _ _ _ _ _ => (pe_dget (hu_of hr) (pv 1) (pv 5) (fun _ _ => rfl)))))
  (pss_cons (ps_if (pt_cmpR op_eq (pv 2) pe_str (nomark _)) (pss_one (ps_ret (pe_cmpR op_eq (pe_callB call_len1 (by rfl) m_len (by decide +kernel) (pa_cons (pe_lc (own := [("v", 6)]) rfl sc__law_holds.nd (pi_list (pv 4)) (blkOk_by (own := [("v", 6)]) (N := n__law_holds) (sc := defScope s__law_holds) (by decide +kernel)) (fun _ _ _ _ _ => (pg_name (i := 6) sc__law_holds.nd rfl (by first | exact .inl rfl | exact .inr rfl))) (fun _ _ _ _ _ => (pts_one (pt_cmpR op_gt (pe_bm PySem.F.plainAttrs_list PySem.F.slot_list_count PySem.F.type_list_count mt_lcount (pv 4) (pa_cons (pv 6) pa_nil)) pe_int (nomark _)))) (fun _ _ _ _ _ => (pv 6))) pa_nil)) pe_int (nomark _)))) pss_nil)
  (pss_cons (ps_if (pt_cmpR op_eq (pv 2) pe_str (nomark _)) (pss_one (ps_ret (pe_cmpR op_eq (pe_callB (cr_max rfl) (by rfl) m_max (by decide +kernel) (pa_cons (pv 4) pa_nil)) (pe_dget (hu_of hr) (pv 1) (pe_ix ix_tup (pv 0) pe_int (fun _ _ => rfl)) (fun _ _ => rfl)) (nomark _)))) pss_nil)
  (pss_cons (ps_if (pt_cmpR op_eq (pv 2) pe_str (nomark _)) (pss_one (ps_ret (pe_cmpR (op_leL (Nat.lt_of_succ_lt (hu_of hr))) (pv 4) (pe_lc (own := [("x", 5)]) rfl sc__law_holds.nd (pi_tup (pe_ix ix_tup (pv 0) pe_int (fun _ _ => rfl))) (blkOk_by (own := [("x", 5)]) (N := n__law_holds) (sc := defScope s__law_holds) (by decide +kernel)) (fun _ _ _ _ _ => (pg_name (i := 5) sc__law_holds.nd rfl (by first | exact .inl rfl | exact .inr rfl))) (fun _ _ _ _ _ => pts_nil) (fun _ _ _ _ _ => (pe_dget (hu_of hr) (pv 1) (pv 5) (fun _ _ => rfl)))) (nomark _)))) pss_nil)
  (pss_cons (ps_if (pt_cmpR op_eq (pv 2) pe_str (nomark _)) (pss_one (ps_ret (pe_cmpR op_eq (pe_callB call_len1 (by rfl) m_len (by decide +kernel) (pa_cons (pe_lc (own := [("one", 7)]) rfl sc__law_holds.nd (pi_tup (pe_ix ix_tup (pv 0) pe_int (fun _ _ => rfl))) (blkOk_by (own := [("one", 7)]) (N := n__law_holds) (sc := defScope s__law_holds) (by decide +kernel)) (fun _ _ _ _ _ => (pg_name (i := 7) sc__law_holds.nd rfl (by first | exact .inl rfl | exact .inr rfl))) (fun _ _ _ _ _ => (pts_one (pt_not (pt_chain op_le op_le (pe_ix ix_tup (pv 7) pe_int (fun _ _ => rfl)) (pe_bm PySem.F.plainAttrs_list PySem.F.slot_list_count PySem.F.type_list_count mt_lcount (pv 4) (pa_cons (pe_ix ix_tup (pv 7) pe_int (fun _ _ => rfl)) pa_nil)) (pe_ix ix_tup (pv 7) pe_int (fun _ _ => rfl)))))) (fun _ _ _ _ _ => (pv 7))) pa_nil)) pe_int (nomark _)))) pss_nil)
  (pss_one (ps_ret (pe_cmpR op_eq (pe_cmpR (op_inT (units65 hr)) (pe_tupleOf (by rfl) m_tuple (pv 4)) (pe_ix ix_tup (pv 0) pe_int (fun _ _ => rfl)) (by rfl)) (pe_cmpR op_eq (pv 2) pe_str (nomark _)) (nomark _)))))))))))))
theorem ok__law_holds_all {P : Program} {w : World} {K : PySem.W.Frag} {mg : Str → Option Value} {base : Heap} {f : Addr} {fd : FuncData} (F : Fun K "_law_holds" "_law_holds" s__law_holds f fd) (gf : mg "_law_holds" = some (.ref f)) (C__law_true : Cal P w K mg base "_law_true" 9 ["claim", "at"] (sp__law_true K 8)) (m_len : mg "len" = none) (m_max : mg "max" = none) (m_sum : mg "sum" = none) (m_tuple : mg "tuple" = none)  : ∀ m, Cal P w K mg base "_law_holds" (10 + m) ["saying", "at"] (sp__law_holds K m)
  | 0 => ⟨f, fd, F.ok (k := 9) sc__law_holds len__law_holds (fun cdv A outer s H vs Q E hr h => (no__law_holds h).elim), F.kp, F.binds (fun _ _ _ _ _ _ us hl => match us, hl with | [_, _], _ => rfl), gf⟩
  | m + 1 => ok__law_holds_step m F gf C__law_true m_len m_max m_sum m_tuple (ok__law_holds_all F gf C__law_true m_len m_max m_sum m_tuple m)
theorem ok__law_holds {P : Program} {w : World} {K : PySem.W.Frag} {mg : Str → Option Value} {base : Heap} {f : Addr} {fd : FuncData} (F : Fun K "_law_holds" "_law_holds" s__law_holds f fd) (gf : mg "_law_holds" = some (.ref f)) (C__law_true : Cal P w K mg base "_law_true" 9 ["claim", "at"] (sp__law_true K 8)) (m_len : mg "len" = none) (m_max : mg "max" = none) (m_sum : mg "sum" = none) (m_tuple : mg "tuple" = none)  : Cal P w K mg base "_law_holds" 12 ["saying", "at"] (sp__law_holds K 2) := ok__law_holds_all F gf C__law_true m_len m_max m_sum m_tuple 2
abbrev s__law_fillings : Stmt := topS 41
abbrev n__law_fillings : List Str := ["doms", "rows", "pair", "longer", "row", "v"]
theorem sc__law_fillings : FnScope n__law_fillings ["doms"] (defScope s__law_fillings) := ⟨rfl, rfl, rfl, by decide +kernel, rfl, by decide +kernel, by decide +kernel⟩
theorem ok__law_fillings {P : Program} {w : World} {K : PySem.W.Frag} {mg : Str → Option Value} {base : Heap} {f : Addr} {fd : FuncData} (F : Fun K "_law_fillings" "_law_fillings" s__law_fillings f fd) (gf : mg "_law_fillings" = some (.ref f))     : Cal P w K mg base "_law_fillings" 1 ["doms"] (sp__law_fillings K) := by
  refine ⟨f, fd, F.ok sc__law_fillings len__law_fillings (fun cdv A outer s H vs Q E hr h => ⟨t__law_fillings K, PSs.nox ?_, pure__law_fillings vs H Q E h⟩), F.kp, F.binds (fun _ _ _ _ _ _ us hl => match us, hl with | [_], _ => rfl), gf⟩
  exact (pss_cons (ps_set (i := 1) sc__law_fillings.nd rfl (by first | exact .inl rfl | exact .inr rfl) (pe_lst (pa_cons (pe_tup pa_nil) pa_nil)))
  (pss_cons (ps_for PassesOwn.never rfl (pi_list (pv 0)) (pg_name (i := 2) sc__law_fillings.nd rfl (by first | exact .inl rfl | exact .inr rfl))
  (pss_cons (ps_set (i := 3) sc__law_fillings.nd rfl (by first | exact .inl rfl | exact .inr rfl) (pe_lst pa_nil))
  (pss_cons (ps_for PassesOwn.never rfl (pi_list (pv 1)) (pg_name (i := 4) sc__law_fillings.nd rfl (by first | exact .inl rfl | exact .inr rfl))
  (pss_one (ps_set (i := 3) sc__law_fillings.nd rfl (by first | exact .inl rfl | exact .inr rfl) (pe_op op_cat (pv 3) (pe_lc (own := [("v", 5)]) rfl sc__law_fillings.nd (pi_tup (pe_ix ix_tup (pv 2) pe_int (fun _ _ => rfl))) (blkOk_by (own := [("v", 5)]) (N := n__law_fillings) (sc := defScope s__law_fillings) (by decide +kernel)) (fun _ _ _ _ _ => (pg_name (i := 5) sc__law_fillings.nd rfl (by first | exact .inl rfl | exact .inr rfl))) (fun _ _ _ _ _ => pts_nil) (fun _ _ _ _ _ => (pe_op op_catA (pv 4) (pe_tup (pa_cons (pv 5) pa_nil)))))))))
  (pss_one (ps_set (i := 1) sc__law_fillings.nd rfl (by first | exact .inl rfl | exact .inr rfl) (pv 3))))))
  (pss_one (ps_ret (pv 1)))))
abbrev s__law_near : Stmt := topS 43
abbrev n__law_near : List Str := ["state", "doms", "base", "row", "k", "at"]
theorem sc__law_near : FnScope n__law_near ["state", "doms", "base"] (defScope s__law_near) := ⟨rfl, rfl, rfl, by decide +kernel, rfl, by decide +kernel, by decide +kernel⟩
theorem ok__law_near {P : Program} {w : World} {K : PySem.W.Frag} {mg : Str → Option Value} {base : Heap} {f : Addr} {fd : FuncData} (F : Fun K "_law_near" "_law_near" s__law_near f fd) (gf : mg "_law_near" = some (.ref f)) (C__law_pick : Cal P w K mg base "_law_pick" 3 ["state", "some"] (sp__law_pick K)) (C__law_take : Cal P w K mg base "_law_take" 2 ["state", "limit"] (sp__law_take K))  (m_len : mg "len" = none) (m_list : mg "list" = none) (m_range : mg "range" = none) (m_tuple : mg "tuple" = none)  : Cal P w K mg base "_law_near" 4 ["state", "doms", "base"] (sp__law_near K) := by
  refine ⟨f, fd, F.ok sc__law_near len__law_near (fun cdv A outer s H vs Q E hr h => ⟨t__law_near K, PSs.nox ?_, pure__law_near vs H Q E h⟩), F.kp, F.binds (fun _ _ _ _ _ _ us hl => match us, hl with | [_, _, _], _ => rfl), gf⟩
  exact (pss_cons (ps_set (i := 3) sc__law_near.nd rfl (by first | exact .inl rfl | exact .inr rfl) (pe_callTy call_listOf (by rfl) m_list (by decide +kernel) (pa_cons (pv 2) pa_nil)))
  (pss_cons (ps_for PassesOwn.never rfl (pi_range1 (by rfl) m_range (pa_cons (pe_cal C__law_pick (hr.mono (by decide)) rfl (pa_cons (pv 0) (pa_cons (pe_lst (pa_cons pe_int (pa_cons pe_int (pa_cons pe_int (pa_cons pe_int (pa_cons pe_int (pa_cons pe_int (pa_cons (pe_op op_mul pe_int (pe_callB call_len1 (by rfl) m_len (by decide +kernel) (pa_cons (pv 1) pa_nil))) pa_nil)))))))) pa_nil))) pa_nil)) (pg_name (i := 4) sc__law_near.nd rfl (by first | exact .inl rfl | exact .inr rfl))
  (pss_cons (ps_set (i := 5) sc__law_near.nd rfl (by first | exact .inl rfl | exact .inr rfl) (pe_cal C__law_take (hr.mono (by decide)) rfl (pa_cons (pv 0) (pa_cons (pe_callB call_len1 (by rfl) m_len (by decide +kernel) (pa_cons (pv 1) pa_nil)) pa_nil))))
  (pss_one (ps_asg (pe_cal C__law_pick (hr.mono (by decide)) rfl (pa_cons (pv 0) (pa_cons (pe_ix ix_tup (pe_ix ix_list (pv 1) (pv 5) (fun _ _ => rfl)) pe_int (fun _ _ => rfl)) pa_nil))) (pg_sub (pv 3) (pv 5) set_list)))))
  (pss_one (ps_ret (pe_tupleOf (by rfl) m_tuple (pv 3))))))
abbrev s__law_parted : Stmt := topS 46
abbrev n__law_parted : List Str := ["state", "made", "at", "cut", "firm", "one"]
theorem sc__law_parted : FnScope n__law_parted ["state", "made", "at"] (defScope s__law_parted) := ⟨rfl, rfl, rfl, by decide +kernel, rfl, by decide +kernel, by decide +kernel⟩
theorem ok__law_parted {P : Program} {w : World} {K : PySem.W.Frag} {mg : Str → Option Value} {base : Heap} {f : Addr} {fd : FuncData} (F : Fun K "_law_parted" "_law_parted" s__law_parted f fd) (gf : mg "_law_parted" = some (.ref f)) (C__law_holds : Cal P w K mg base "_law_holds" 12 ["saying", "at"] (sp__law_holds K 2)) (C__law_take : Cal P w K mg base "_law_take" 2 ["state", "limit"] (sp__law_take K))  (m_len : mg "len" = none)  : Cal P w K mg base "_law_parted" 13 ["state", "made", "at"] (sp__law_parted K) := by
  refine ⟨f, fd, F.ok sc__law_parted len__law_parted (fun cdv A outer s H vs Q E hr h => ⟨t__law_parted K, PSs.nox ?_, pure__law_parted vs H Q E h⟩), F.kp, F.binds (fun _ _ _ _ _ _ us hl => match us, hl with | [_, _, _], _ => rfl), gf⟩
  exact (pss_cons (ps_set (i := 3) sc__law_parted.nd rfl (by first | exact .inl rfl | exact .inr rfl) (pe_cal C__law_take (hr.mono (by decide)) rfl (pa_cons (pv 0) (pa_cons (pe_callB call_len1 (by rfl) m_len (by decide +kernel) (pa_cons (pv 1) pa_nil)) pa_nil))))
  (pss_cons (ps_set (i := 4) sc__law_parted.nd rfl (by first | exact .inl rfl | exact .inr rfl) (pe_lc (own := [("one", 5)]) rfl sc__law_parted.nd (pi_list (pe_slice sl_list (pv 1) (po_some (pv 3)) po_none)) (blkOk_by (own := [("one", 5)]) (N := n__law_parted) (sc := defScope s__law_parted) (by decide +kernel)) (fun _ _ _ _ _ => (pg_name (i := 5) sc__law_parted.nd rfl (by first | exact .inl rfl | exact .inr rfl))) (fun _ _ _ _ _ => (pts_one (PW.pt (pw_or (pt_val (pe_cal C__law_holds (hr.mono (by decide)) rfl (pa_cons (pe_ix ix_tup (pv 5) pe_int (fun _ _ => rfl)) (pa_cons (pv 2) pa_nil)))) (pw_or1 (pt_cmpR op_eq (pe_cal C__law_take (hr.mono (by decide)) rfl (pa_cons (pv 0) (pa_cons pe_int pa_nil))) pe_int (nomark _))))))) (fun _ _ _ _ _ => (pv 5))))
  (pss_one (ps_ret (pe_lst (pa_cons (pv 4) (pa_cons (pe_lc (own := [("one", 5)]) rfl sc__law_parted.nd (pi_list (pv 1)) (blkOk_by (own := [("one", 5)]) (N := n__law_parted) (sc := defScope s__law_parted) (by decide +kernel)) (fun _ _ _ _ _ => (pg_name (i := 5) sc__law_parted.nd rfl (by first | exact .inl rfl | exact .inr rfl))) (fun _ _ _ _ _ => (pts_one (pt_cmpR (op_notInD (units65 hr)) (pv 5) (pv 4) (by rfl)))) (fun _ _ _ _ _ => (pv 5))) pa_nil)))))))
abbrev s__law_are_held : Stmt := topS 44
abbrev n__law_are_held : List Str := ["state", "doms", "firm", "soft", "fillings", "prices", "one", "model", "k", "filling", "at", "whole", "name", "saying", "due", "told"]
theorem sc__law_are_held : FnScope n__law_are_held ["state", "doms", "firm", "soft", "fillings"] (defScope s__law_are_held) := ⟨rfl, rfl, rfl, by decide +kernel, rfl, by decide +kernel, by decide +kernel⟩
theorem ok__law_are_held {P : Program} {w : World} {K : PySem.W.Frag} {mg : Str → Option Value} {base : Heap} {f : Addr} {fd : FuncData} (F : Fun K "_law_are_held" "_law_are_held" s__law_are_held f fd) (gf : mg "_law_are_held" = some (.ref f)) (C__law_holds : Cal P w K mg base "_law_holds" 12 ["saying", "at"] (sp__law_holds K 2)) (C__law_is_due : Cal P w K mg base "_law_is_due" 1 ["told", "due"] (sp__law_is_due K)) (C__law_take : Cal P w K mg base "_law_take" 2 ["state", "limit"] (sp__law_take K)) (C__law_world : Cal P w K mg base "_law_world" 1 ["doms", "filling"] (sp__law_world K)) (C_keeps : Cal P w K mg base "keeps" 14 ["model", "filling"] (sp_keeps K)) (C_keeps_saying : Cal P w K mg base "keeps_saying" 14 ["model", "name", "filling"] (sp_keeps_saying K)) (CK_keeps : CalK P w K mg base "keeps" 14 ["model", "filling"] ["model", "filling"] gK (sp_keeps K)) (CK_keeps_saying : CalK P w K mg base "keeps_saying" 14 ["model", "name", "filling"] ["model", "name", "filling"] gK (sp_keeps_saying K)) (m_len : mg "len" = none) (m_range : mg "range" = none) (m_tuple : mg "tuple" = none)  : Cal P w K mg base "_law_are_held" 15 ["state", "doms", "firm", "soft", "fillings"] (sp__law_are_held K) := by
  refine ⟨f, fd, F.ok sc__law_are_held len__law_are_held (fun cdv A outer s H vs Q E hr h => ⟨t__law_are_held K, PSs.nox ?_, pure__law_are_held vs H Q E h⟩), F.kp, F.binds (fun _ _ _ _ _ _ us hl => match us, hl with | [_, _, _, _, _], _ => rfl), gf⟩
  exact (pss_cons (ps_set (i := 5) sc__law_are_held.nd rfl (by first | exact .inl rfl | exact .inr rfl) (pe_lc (own := [("one", 6)]) rfl sc__law_are_held.nd (pi_list (pv 3)) (blkOk_by (own := [("one", 6)]) (N := n__law_are_held) (sc := defScope s__law_are_held) (by decide +kernel)) (fun _ _ _ _ _ => (pg_name (i := 6) sc__law_are_held.nd rfl (by first | exact .inl rfl | exact .inr rfl))) (fun _ _ _ _ _ => pts_nil) (fun _ _ _ _ _ => (pe_op op_add pe_int (pe_cal C__law_take (hr.mono (by decide)) rfl (pa_cons (pv 0) (pa_cons pe_int pa_nil)))))))
  (pss_cons (ps_set (i := 7) sc__law_are_held.nd rfl (by first | exact .inl rfl | exact .inr rfl) (pe_tup (pa_cons (pe_tupleOf (by rfl) m_tuple (pv 1)) (pa_cons (pe_tupleOf (by rfl) m_tuple (pv 2)) (pa_cons (pe_tupleOf (by rfl) m_tuple (pe_lc (own := [("k", 8)]) rfl sc__law_are_held.nd (pi_range1 (by rfl) m_range (pa_cons (pe_callB call_len1 (by rfl) m_len (by decide +kernel) (pa_cons (pv 3) pa_nil)) pa_nil)) (blkOk_by (own := [("k", 8)]) (N := n__law_are_held) (sc := defScope s__law_are_held) (by decide +kernel)) (fun _ _ _ _ _ => (pg_name (i := 8) sc__law_are_held.nd rfl (by first | exact .inl rfl | exact .inr rfl))) (fun _ _ _ _ _ => pts_nil) (fun _ _ _ _ _ => (pe_op op_catA (pe_ix ix_list (pv 3) (pv 8) (fun _ _ => rfl)) (pe_tup (pa_cons (pe_ix ix_list (pv 5) (pv 8) (fun _ _ => rfl)) pa_nil)))))) pa_nil)))))
  (pss_cons (ps_for PassesOwn.never rfl (pi_list (pv 4)) (pg_name (i := 9) sc__law_are_held.nd rfl (by first | exact .inl rfl | exact .inr rfl))
  (pss_cons (ps_set (i := 10) sc__law_are_held.nd rfl (by first | exact .inl rfl | exact .inr rfl) (pe_cal C__law_world (hr.mono (by decide)) rfl (pa_cons (pv 1) (pa_cons (pv 9) pa_nil))))
  (pss_cons (ps_set (i := 11) sc__law_are_held.nd rfl (by first | exact .inl rfl | exact .inr rfl) pe_bl)
  (pss_cons (ps_for PassesOwn.never rfl (pi_range1 (by rfl) m_range (pa_cons (pe_op op_add (pe_callB call_len1 (by rfl) m_len (by decide +kernel) (pa_cons (pv 2) pa_nil)) (pe_callB call_len1 (by rfl) m_len (by decide +kernel) (pa_cons (pv 3) pa_nil))) pa_nil)) (pg_name (i := 8) sc__law_are_held.nd rfl (by first | exact .inl rfl | exact .inr rfl))
  (pss_cons (ps_asg (pe_ix ix_list (pe_op op_cat (pv 2) (pv 3)) (pv 8) (fun _ _ => rfl)) (pg_tup rfl (pgs_cons (pg_name (i := 12) sc__law_are_held.nd rfl (by first | exact .inl rfl | exact .inr rfl)) (pgs_cons (pg_name (i := 13) sc__law_are_held.nd rfl (by first | exact .inl rfl | exact .inr rfl)) pgs_nil))))
  (pss_cons (ps_set (i := 14) sc__law_are_held.nd rfl (by first | exact .inl rfl | exact .inr rfl) (pe_cal C__law_holds (hr.mono (by decide)) rfl (pa_cons (pv 13) (pa_cons (pv 10) pa_nil))))
  (pss_cons (ps_set (i := 15) sc__law_are_held.nd rfl (by first | exact .inl rfl | exact .inr rfl) (pe_calK CK_keeps_saying (hr.mono (by decide)) rfl (pk_cons (pv 7) (pk_cons (pv 12) (pk_cons (pv 9) pk_nil)))))
  (pss_cons (ps_if (pt_not (pt_val (pe_cal C__law_is_due (hr.mono (by decide)) rfl (pa_cons (pv 15) (pa_cons (pv 14) pa_nil))))) (pss_one (ps_ret pe_bl)) pss_nil)
  (pss_one (ps_set (i := 11) sc__law_are_held.nd rfl (by first | exact .inl rfl | exact .inr rfl) (pe_and (pv 11) (pe_one (pe_or (pv 14) (pe_one (pe_cmpR op_ge (pv 8) (pe_callB call_len1 (by rfl) m_len (by decide +kernel) (pa_cons (pv 2) pa_nil)) (nomark _)))))))))))))
  (pss_cons (ps_if (PW.pt (pw_or (pt_not (pt_val (pe_cal C__law_is_due (hr.mono (by decide)) rfl (pa_cons (pe_cal C_keeps (hr.mono (by decide)) rfl (pa_cons (pv 7) (pa_cons (pv 9) pa_nil))) (pa_cons (pv 11) pa_nil))))) (pw_or1 (pt_not (pt_val (pe_cal C__law_is_due (hr.mono (by decide)) rfl (pa_cons (pe_calK CK_keeps (hr.mono (by decide)) rfl (pk_cons (pv 7) (pk_cons (pv 9) pk_nil))) (pa_cons (pv 11) pa_nil)))))))) (pss_one (ps_ret pe_bl)) pss_nil)
  (pss_one (ps_if (PW.pt (pw_and (pt_cmpR op_gt (pe_callB call_len1 (by rfl) m_len (by decide +kernel) (pa_cons (pv 3) pa_nil)) pe_int (nomark _)) (pw_and1 (pt_not (pt_val (pe_cal C__law_is_due (hr.mono (by decide)) rfl (pa_cons (pe_cal C_keeps_saying (hr.mono (by decide)) rfl (pa_cons (pv 7) (pa_cons (pe_ix ix_tup (pe_ix ix_list (pv 3) pe_int (fun _ _ => rfl)) pe_int (fun _ _ => rfl)) (pa_cons (pv 9) pa_nil)))) (pa_cons (pe_cal C__law_holds (hr.mono (by decide)) rfl (pa_cons (pe_ix ix_tup (pe_ix ix_list (pv 3) pe_int (fun _ _ => rfl)) pe_int (fun _ _ => rfl)) (pa_cons (pv 10) pa_nil))) pa_nil)))))))) (pss_one (ps_ret pe_bl)) pss_nil)))))))
  (pss_one (ps_ret pe_bl)))))
abbrev s__law_by_turns : Stmt := topS 54
abbrev n__law_by_turns : List Str := ["state", "doms", "made", "firm", "soft", "fillings", "base", "few", "turned", "k"]
theorem sc__law_by_turns : FnScope n__law_by_turns ["state", "doms", "made", "firm", "soft", "fillings", "base"] (defScope s__law_by_turns) := ⟨rfl, rfl, rfl, by decide +kernel, rfl, by decide +kernel, by decide +kernel⟩
theorem ok__law_by_turns {P : Program} {w : World} {K : PySem.W.Frag} {mg : Str → Option Value} {base : Heap} {f : Addr} {fd : FuncData} (F : Fun K "_law_by_turns" "_law_by_turns" s__law_by_turns f fd) (gf : mg "_law_by_turns" = some (.ref f)) (C__law_are_held : Cal P w K mg base "_law_are_held" 15 ["state", "doms", "firm", "soft", "fillings"] (sp__law_are_held K)) (C__law_near : Cal P w K mg base "_law_near" 4 ["state", "doms", "base"] (sp__law_near K))  (m_len : mg "len" = none) (m_range : mg "range" = none)  : Cal P w K mg base "_law_by_turns" 16 ["state", "doms", "made", "firm", "soft", "fillings", "base"] (sp__law_by_turns K) := by
  refine ⟨f, fd, F.ok sc__law_by_turns len__law_by_turns (fun cdv A outer s H vs Q E hr h => ⟨t__law_by_turns K, PSs.nox ?_, pure__law_by_turns vs H Q E h⟩), F.kp, F.binds (fun _ _ _ _ _ _ us hl => match us, hl with | [_, _, _, _, _, _, _], _ => rfl), gf⟩
  exact (pss_cons (ps_set (i := 7) sc__law_by_turns.nd rfl (by first | exact .inl rfl | exact .inr rfl) (pe_op op_cat (pe_op op_cat (pe_lst (pa_cons (pv 6) pa_nil)) (pe_slice sl_list (pv 5) po_none (po_some pe_int))) (pe_lst (pa_cons (pe_cal C__law_near (hr.mono (by decide)) rfl (pa_cons (pv 0) (pa_cons (pv 1) (pa_cons (pv 6) pa_nil)))) pa_nil))))
  (pss_cons (ps_setLc (i := 8) (own := [("k", 9)]) rfl sc__law_by_turns.nd rfl rfl (sw_true rfl rfl rfl (by decide +kernel)) (pi_range1 (by rfl) m_range (pa_cons (pe_callB call_len1 (by rfl) m_len (by decide +kernel) (pa_cons (pv 2) pa_nil)) pa_nil)) (blkOk_by (own := [("k", 9)]) (N := n__law_by_turns) (sc := defScope s__law_by_turns) (by decide +kernel)) (fun _ _ _ _ _ => (pg_name (i := 9) sc__law_by_turns.nd rfl (by first | exact .inl rfl | exact .inr rfl))) (fun _ _ _ _ _ => pts_nil) (fun _ _ _ _ _ => (pe_tup (pa_cons (pe_ix ix_tup (pe_ix ix_list (pv 2) (pv 9) (fun _ _ => rfl)) pe_int (fun _ _ => rfl)) (pa_cons (pe_ix ix_tup (pe_ix ix_list (pv 2) (pe_op op_sub (pv 9) pe_int) (fun _ _ => rfl)) pe_int (fun _ _ => rfl)) pa_nil)))))
  (pss_cons (ps_if (PW.pt (pw_or (pt_not (pt_val (pe_cal C__law_are_held (hr.mono (by decide)) rfl (pa_cons (pv 0) (pa_cons (pv 1) (pa_cons (pv 3) (pa_cons (pv 4) (pa_cons (pv 5) pa_nil)))))))) (pw_or1 (pt_not (pt_val (pe_cal C__law_are_held (hr.mono (by decide)) rfl (pa_cons (pv 0) (pa_cons (pv 1) (pa_cons (pe_slice sl_list (pv 8) (po_some pe_int) po_none) (pa_cons (pe_slice sl_list (pv 8) po_none (po_some pe_int)) (pa_cons (pv 7) pa_nil))))))))))) (pss_one (ps_ret pe_bl)) pss_nil)
  (pss_one (ps_ret (pe_cal C__law_are_held (hr.mono (by decide)) rfl (pa_cons (pv 0) (pa_cons (pv 1) (pa_cons (pv 3) (pa_cons (pv 4) (pa_cons (pv 7) pa_nil)))))))))))
abbrev s__law_domain : Stmt := topS 39
abbrev n__law_domain : List Str := ["state", "size", "wide", "found", "k", "low", "one"]
theorem sc__law_domain : FnScope n__law_domain ["state", "size"] (defScope s__law_domain) := ⟨rfl, rfl, rfl, by decide +kernel, rfl, by decide +kernel, by decide +kernel⟩
theorem ok__law_domain {P : Program} {w : World} {K : PySem.W.Frag} {mg : Str → Option Value} {base : Heap} {f : Addr} {fd : FuncData} (F : Fun K "_law_domain" "_law_domain" s__law_domain f fd) (gf : mg "_law_domain" = some (.ref f)) (C__law_pick : Cal P w K mg base "_law_pick" 3 ["state", "some"] (sp__law_pick K)) (C__law_take : Cal P w K mg base "_law_take" 2 ["state", "limit"] (sp__law_take K))  (m_max : mg "max" = none) (m_min : mg "min" = none) (m_range : mg "range" = none) (m_tuple : mg "tuple" = none)  : Cal P w K mg base "_law_domain" 4 ["state", "size"] (sp__law_domain K) := by
  refine ⟨f, fd, F.ok sc__law_domain len__law_domain (fun cdv A outer s H vs Q E hr h => ⟨t__law_domain K, PSs.nox ?_, pure__law_domain vs H Q E h⟩), F.kp, F.binds (fun _ _ _ _ _ _ us hl => match us, hl with | [_, _], _ => rfl), gf⟩
  exact (pss_cons (ps_set (i := 2) sc__law_domain.nd rfl (by first | exact .inl rfl | exact .inr rfl) (pe_cal C__law_pick (hr.mono (by decide)) rfl (pa_cons (pv 0) (pa_cons (pe_lst (pa_cons pe_int (pa_cons pe_int (pa_cons pe_int (pa_cons pe_int pa_nil))))) pa_nil))))
  (pss_cons (ps_set (i := 3) sc__law_domain.nd rfl (by first | exact .inl rfl | exact .inr rfl) (pe_lst (pa_cons pe_int pa_nil)))
  (pss_cons (ps_for PassesOwn.never rfl (pi_range1 (by rfl) m_range (pa_cons (pe_op op_sub (pv 1) pe_int) pa_nil)) (pg_name (i := 4) sc__law_domain.nd rfl (by first | exact .inl rfl | exact .inr rfl))
  (pss_one (ps_expr (pe_bm PySem.F.plainAttrs_list PySem.F.slot_list_append PySem.F.type_list_append mt_append (pv 3) (pa_cons (pe_op op_add (pe_op op_add (pe_ix ix_list (pv 3) (pe_un un_neg pe_int) (fun _ _ => rfl)) pe_int) (pe_cal C__law_take (hr.mono (by decide)) rfl (pa_cons (pv 0) (pa_cons (pv 2) pa_nil)))) pa_nil)))))
  (pss_cons (ps_set (i := 5) sc__law_domain.nd rfl (by first | exact .inl rfl | exact .inr rfl) (pe_cal C__law_pick (hr.mono (by decide)) rfl (pa_cons (pv 0) (pa_cons (pe_lst (pa_cons pe_int (pa_cons (pe_op op_fdiv (pe_un un_neg (pe_ix ix_list (pv 3) (pe_un un_neg pe_int) (fun _ _ => rfl))) pe_int) (pa_cons (pe_un un_neg pe_int) (pa_cons (pe_op op_sub pe_int (pe_ix ix_list (pv 3) (pe_un un_neg pe_int) (fun _ _ => rfl))) (pa_cons (pe_op op_sub (pe_cal C__law_take (hr.mono (by decide)) rfl (pa_cons (pv 0) (pa_cons pe_int pa_nil))) pe_int) pa_nil)))))) pa_nil))))
  (pss_cons (ps_set (i := 5) sc__law_domain.nd rfl (by first | exact .inl rfl | exact .inr rfl) (pe_callB (call_max2 rfl) (by rfl) m_max (by decide +kernel) (pa_cons (pe_un un_neg pe_int) (pa_cons (pe_callB (call_min2 rfl) (by rfl) m_min (by decide +kernel) (pa_cons (pe_op op_sub pe_int (pe_ix ix_list (pv 3) (pe_un un_neg pe_int) (fun _ _ => rfl))) (pa_cons (pv 5) pa_nil))) pa_nil))))
  (pss_one (ps_ret (pe_tupleOf (by rfl) m_tuple (pe_lc (own := [("one", 6)]) rfl sc__law_domain.nd (pi_list (pv 3)) (blkOk_by (own := [("one", 6)]) (N := n__law_domain) (sc := defScope s__law_domain) (by decide +kernel)) (fun _ _ _ _ _ => (pg_name (i := 6) sc__law_domain.nd rfl (by first | exact .inl rfl | exact .inr rfl))) (fun _ _ _ _ _ => pts_nil) (fun _ _ _ _ _ => (pe_op op_add (pv 5) (pv 6))))))))))))
abbrev s__law_names : Stmt := topS 38
abbrev n__law_names : List Str := ["state", "many", "signs", "style", "start", "step", "word", "k", "one", "two", "found", "first", "name"]
theorem sc__law_names : FnScope n__law_names ["state", "many"] (defScope s__law_names) := ⟨rfl, rfl, rfl, by decide +kernel, rfl, by decide +kernel, by decide +kernel⟩
theorem ok__law_names {P : Program} {w : World} {K : PySem.W.Frag} {mg : Str → Option Value} {base : Heap} {f : Addr} {fd : FuncData} (F : Fun K "_law_names" "_law_names" s__law_names f fd) (gf : mg "_law_names" = some (.ref f)) (C__law_shuffled : Cal P w K mg base "_law_shuffled" 3 ["state", "some"] (sp__law_shuffled K)) (C__law_take : Cal P w K mg base "_law_take" 2 ["state", "limit"] (sp__law_take K))  (m_int : mg "int" = none) (m_range : mg "range" = none) (m_str : mg "str" = none)  : Cal P w K mg base "_law_names" 4 ["state", "many"] (sp__law_names K) := by
  refine ⟨f, fd, F.ok sc__law_names len__law_names (fun cdv A outer s H vs Q E hr h => ⟨t__law_names K, PSs.nox ?_, pure__law_names vs H Q E h⟩), F.kp, F.binds (fun _ _ _ _ _ _ us hl => match us, hl with | [_, _], _ => rfl), gf⟩
  exact (pss_cons (ps_set (i := 2) sc__law_names.nd rfl (by first | exact .inl rfl | exact .inr rfl) pe_str)
  (pss_cons (ps_set (i := 3) sc__law_names.nd rfl (by first | exact .inl rfl | exact .inr rfl) (pe_cal C__law_take (hr.mono (by decide)) rfl (pa_cons (pv 0) (pa_cons pe_int pa_nil))))
  (pss_cons (ps_par (i := 4) (j := 5) (by rfl) sc__law_names.nd rfl rfl (by decide) rfl rfl (pa_cons (pe_cal C__law_take (hr.mono (by decide)) rfl (pa_cons (pv 0) (pa_cons pe_int pa_nil))) (pa_cons (pe_op op_add pe_int (pe_cal C__law_take (hr.mono (by decide)) rfl (pa_cons (pv 0) (pa_cons pe_int pa_nil)))) pa_nil)) (by rfl))
  (pss_cons (ps_set (i := 6) sc__law_names.nd rfl (by first | exact .inl rfl | exact .inr rfl) (pe_joinK pe_str (pe_lc (own := [("k", 7)]) rfl sc__law_names.nd (pi_range1 (by rfl) m_range (pa_cons pe_int pa_nil)) (blkOk_by (own := [("k", 7)]) (N := n__law_names) (sc := defScope s__law_names) (by decide +kernel)) (fun _ _ _ _ _ => (pg_name (i := 7) sc__law_names.nd rfl (by first | exact .inl rfl | exact .inr rfl))) (fun _ _ _ _ _ => pts_nil) (fun _ _ _ _ _ => (pe_ix ix_str (pv 2) (pe_cal C__law_take (hr.mono (by decide)) rfl (pa_cons (pv 0) (pa_cons pe_int pa_nil))) (fun _ _ => rfl))))))
  (pss_cons (ps_par (i := 8) (j := 9) (by rfl) sc__law_names.nd rfl rfl (by decide) rfl rfl (pa_cons (pe_cal C__law_take (hr.mono (by decide)) rfl (pa_cons (pv 0) (pa_cons pe_int pa_nil))) (pa_cons (pe_op op_add pe_int (pe_cal C__law_take (hr.mono (by decide)) rfl (pa_cons (pv 0) (pa_cons pe_int pa_nil)))) pa_nil)) (by rfl))
  (pss_cons (ps_set (i := 10) sc__law_names.nd rfl (by first | exact .inl rfl | exact .inr rfl) (pe_lst pa_nil))
  (pss_cons (ps_for PassesOwn.never rfl (pi_range1 (by rfl) m_range (pa_cons (pv 1) pa_nil)) (pg_name (i := 7) sc__law_names.nd rfl (by first | exact .inl rfl | exact .inr rfl))
  (pss_cons (ps_set (i := 11) sc__law_names.nd rfl (by first | exact .inl rfl | exact .inr rfl) (pe_ix ix_str (pv 2) (pe_op op_mod (pe_callTy call_int1 (by rfl) m_int (by decide +kernel) (pa_cons (pe_op op_add (pv 4) (pe_op op_mul (pv 5) (pv 7))) pa_nil)) pe_int) (fun _ _ => rfl)))
  (pss_cons (ps_set (i := 12) sc__law_names.nd rfl (by first | exact .inl rfl | exact .inr rfl) (pe_op op_addS (pe_op op_addS (pe_op op_addS (pe_op op_addS (pe_slice sl_str (pv 6) po_none (po_some (pv 8))) (pv 11)) (pe_slice sl_str (pv 6) (po_some (pe_op op_add (pv 8) pe_int)) (po_some (pv 9)))) (pe_ix ix_str (pv 2) (pe_op op_fdiv (pv 7) pe_int) (fun _ _ => rfl))) (pe_slice sl_str (pv 6) (po_some (pe_op op_add (pv 9) pe_int)) po_none)))
  (pss_cons (ps_if (pt_cmpR op_eq (pv 3) pe_int (nomark _)) (pss_one (ps_set (i := 12) sc__law_names.nd rfl (by first | exact .inl rfl | exact .inr rfl) (pe_op op_addS (pv 11) (pe_op op_repS (pe_ix ix_str (pv 2) (pe_op op_fdiv (pv 7) pe_int) (fun _ _ => rfl)) (pe_callTy call_int1 (by rfl) m_int (by decide +kernel) (pa_cons (pe_cmpR op_gt (pv 1) pe_int (nomark _)) pa_nil)))))) (pss_one (ps_if (pt_cmpR op_eq (pv 3) pe_int (nomark _)) (pss_one (ps_set (i := 12) sc__law_names.nd rfl (by first | exact .inl rfl | exact .inr rfl) (pe_op op_addS (pe_op op_addS (pe_slice sl_str (pv 6) po_none (po_some (pv 8))) (pv 11)) (pe_callTy call_str_int (by rfl) m_str (by decide +kernel) (pa_cons (pv 7) pa_nil))))) (pss_one (ps_if (pt_cmpR op_eq (pv 3) pe_int (nomark _)) (pss_one (ps_set (i := 12) sc__law_names.nd rfl (by first | exact .inl rfl | exact .inr rfl) (pe_op op_addS (pe_op op_addS (pe_op op_addS (pe_op op_addS (pe_slice sl_str (pv 6) po_none (po_some (pe_op op_add pe_int (pe_op op_fdiv (pv 8) pe_int)))) pe_str) (pe_callTy call_str_int (by rfl) m_str (by decide +kernel) (pa_cons (pe_op op_fdiv (pv 7) pe_int) pa_nil))) pe_str) (pe_callTy call_str_int (by rfl) m_str (by decide +kernel) (pa_cons (pe_op op_mod (pe_callTy call_int1 (by rfl) m_int (by decide +kernel) (pa_cons (pv 7) pa_nil)) pe_int) pa_nil))))) pss_nil)))))
  (pss_one (ps_expr (pe_bm PySem.F.plainAttrs_list PySem.F.slot_list_append PySem.F.type_list_append mt_append (pv 10) (pa_cons (pv 12) pa_nil))))))))
  (pss_one (ps_ret (pe_cal C__law_shuffled (hr.mono (by decide)) rfl (pa_cons (pv 0) (pa_cons (pv 10) pa_nil))))))))))))
abbrev s__law_sizes : Stmt := topS 45
abbrev n__law_sizes : List Str := ["state", "most", "whole", "found", "product", "k", "size"]
theorem sc__law_sizes : FnScope n__law_sizes ["state", "most", "whole"] (defScope s__law_sizes) := ⟨rfl, rfl, rfl, by decide +kernel, rfl, by decide +kernel, by decide +kernel⟩
theorem ok__law_sizes {P : Program} {w : World} {K : PySem.W.Frag} {mg : Str → Option Value} {base : Heap} {f : Addr} {fd : FuncData} (F : Fun K "_law_sizes" "_law_sizes" s__law_sizes f fd) (gf : mg "_law_sizes" = some (.ref f)) (C__law_take : Cal P w K mg base "_law_take" 2 ["state", "limit"] (sp__law_take K))  (m_range : mg "range" = none)  : Cal P w K mg base "_law_sizes" 3 ["state", "most", "whole"] (sp__law_sizes K) := by
  refine ⟨f, fd, F.ok sc__law_sizes len__law_sizes (fun cdv A outer s H vs Q E hr h => ⟨t__law_sizes K, PSs.nox ?_, pure__law_sizes vs H Q E h⟩), F.kp, F.binds (fun _ _ _ _ _ _ us hl => match us, hl with | [_, _, _], _ => rfl), gf⟩
  exact (pss_cons (ps_set (i := 3) sc__law_sizes.nd rfl (by first | exact .inl rfl | exact .inr rfl) (pe_lst pa_nil))
  (pss_cons (ps_set (i := 4) sc__law_sizes.nd rfl (by first | exact .inl rfl | exact .inr rfl) pe_int)
  (pss_cons (ps_for PassesOwn.never rfl (pi_range1 (by rfl) m_range (pa_cons (pe_op op_add pe_int (pe_cal C__law_take (hr.mono (by decide)) rfl (pa_cons (pv 0) (pa_cons (pv 1) pa_nil)))) pa_nil)) (pg_name (i := 5) sc__law_sizes.nd rfl (by first | exact .inl rfl | exact .inr rfl))
  (pss_cons (ps_set (i := 6) sc__law_sizes.nd rfl (by first | exact .inl rfl | exact .inr rfl) (pe_op op_add pe_int (pe_cal C__law_take (hr.mono (by decide)) rfl (pa_cons (pv 0) (pa_cons pe_int pa_nil)))))
  (pss_cons (ps_if (pt_cmpR op_gt (pe_op op_mul (pv 4) (pv 6)) (pv 2) (nomark _)) (pss_one (ps_set (i := 6) sc__law_sizes.nd rfl (by first | exact .inl rfl | exact .inr rfl) pe_int)) pss_nil)
  (pss_cons (ps_expr (pe_bm PySem.F.plainAttrs_list PySem.F.slot_list_append PySem.F.type_list_append mt_append (pv 3) (pa_cons (pv 6) pa_nil)))
  (pss_one (ps_set (i := 4) sc__law_sizes.nd rfl (by first | exact .inl rfl | exact .inr rfl) (pe_op op_mul (pv 4) (pv 6))))))))
  (pss_one (ps_ret (pv 3))))))
abbrev s__law_few : Stmt := topS 49
abbrev n__law_few : List Str := ["state", "doms", "found", "product", "pair"]
theorem sc__law_few : FnScope n__law_few ["state", "doms"] (defScope s__law_few) := ⟨rfl, rfl, rfl, by decide +kernel, rfl, by decide +kernel, by decide +kernel⟩
theorem ok__law_few {P : Program} {w : World} {K : PySem.W.Frag} {mg : Str → Option Value} {base : Heap} {f : Addr} {fd : FuncData} (F : Fun K "_law_few" "_law_few" s__law_few f fd) (gf : mg "_law_few" = some (.ref f)) (C__law_pick : Cal P w K mg base "_law_pick" 3 ["state", "some"] (sp__law_pick K)) (C__law_shuffled : Cal P w K mg base "_law_shuffled" 3 ["state", "some"] (sp__law_shuffled K)) (C__law_take : Cal P w K mg base "_law_take" 2 ["state", "limit"] (sp__law_take K))  (m_len : mg "len" = none)  : Cal P w K mg base "_law_few" 4 ["state", "doms"] (sp__law_few K) := by
  refine ⟨f, fd, F.ok sc__law_few len__law_few (fun cdv A outer s H vs Q E hr h => ⟨t__law_few K, PSs.nox ?_, pure__law_few vs H Q E h⟩), F.kp, F.binds (fun _ _ _ _ _ _ us hl => match us, hl with | [_, _], _ => rfl), gf⟩
  exact (pss_cons (ps_set (i := 2) sc__law_few.nd rfl (by first | exact .inl rfl | exact .inr rfl) (pe_lst pa_nil))
  (pss_cons (ps_set (i := 3) sc__law_few.nd rfl (by first | exact .inl rfl | exact .inr rfl) pe_int)
  (pss_cons (ps_for PassesOwn.never rfl (pi_list (pe_slice sl_list (pe_cal C__law_shuffled (hr.mono (by decide)) rfl (pa_cons (pv 0) (pa_cons (pv 1) pa_nil))) po_none (po_some (pe_op op_add pe_int (pe_cal C__law_take (hr.mono (by decide)) rfl (pa_cons (pv 0) (pa_cons (pe_cal C__law_pick (hr.mono (by decide)) rfl (pa_cons (pv 0) (pa_cons (pe_lst (pa_cons pe_int (pa_cons pe_int pa_nil))) pa_nil))) pa_nil))))))) (pg_name (i := 4) sc__law_few.nd rfl (by first | exact .inl rfl | exact .inr rfl))
  (pss_one (ps_if (pt_cmpR op_le (pe_op op_mul (pv 3) (pe_callB call_len1 (by rfl) m_len (by decide +kernel) (pa_cons (pe_ix ix_tup (pv 4) pe_int (fun _ _ => rfl)) pa_nil))) pe_int (nomark _)) (pss_cons (ps_expr (pe_bm PySem.F.plainAttrs_list PySem.F.slot_list_append PySem.F.type_list_append mt_append (pv 2) (pa_cons (pv 4) pa_nil)))
  (pss_one (ps_set (i := 3) sc__law_few.nd rfl (by first | exact .inl rfl | exact .inr rfl) (pe_op op_mul (pv 3) (pe_callB call_len1 (by rfl) m_len (by decide +kernel) (pa_cons (pe_ix ix_tup (pv 4) pe_int (fun _ _ => rfl)) pa_nil)))))) pss_nil)))
  (pss_one (ps_ret (pv 2))))))
abbrev s__law_has_name : Stmt := topS 51
abbrev n__law_has_name : List Str := ["claim", "inner", "one"]
theorem sc__law_has_name : FnScope n__law_has_name ["claim"] (defScope s__law_has_name) := ⟨rfl, rfl, rfl, by decide +kernel, rfl, by decide +kernel, by decide +kernel⟩
theorem ok__law_has_name_step (m : Nat) {P : Program} {w : World} {K : PySem.W.Frag} {mg : Str → Option Value} {base : Heap} {f : Addr} {fd : FuncData} (F : Fun K "_law_has_name" "_law_has_name" s__law_has_name f fd) (gf : mg "_law_has_name" = some (.ref f))  (m_len : mg "len" = none)  (C__law_has_name : Cal P w K mg base "_law_has_name" (1 + m) ["claim"] (sp__law_has_name K m)) : Cal P w K mg base "_law_has_name" (1 + m + 1) ["claim"] (sp__law_has_name K (m + 1)) := by
  refine ⟨f, fd, F.ok (k := 1 + m) sc__law_has_name len__law_has_name (fun cdv A outer s H vs Q E hr h => ⟨t__law_has_name K m, PSs.nox ?_, pure__law_has_name vs H Q E h⟩), F.kp, F.binds (fun _ _ _ _ _ _ us hl => match us, hl with | [_], _ => rfl), gf⟩
  exact (pss_cons (ps_if (PW.pt (pw_or (pt_cmpR op_eq (pe_ix ix_tup (pv 0) pe_int (fun _ _ => rfl)) pe_str (nomark _)) (pw_or1 (pt_cmpR op_eq (pe_ix ix_tup (pv 0) pe_int (fun _ _ => rfl)) pe_str (nomark _))))) (pss_one (ps_ret pe_bl)) pss_nil)
  (pss_cons (ps_set (i := 1) sc__law_has_name.nd rfl (by first | exact .inl rfl | exact .inr rfl) (pe_ifExp (pt_cmpR op_eq (pe_ix ix_tup (pv 0) pe_int (fun _ _ => rfl)) pe_str (nomark _)) (pe_tup (pa_cons (pe_ix ix_tup (pv 0) pe_int (fun _ _ => rfl)) pa_nil)) (pe_ix ix_tup (pv 0) pe_int (fun _ _ => rfl))))
  (pss_one (ps_ret (pe_cmpR op_gt (pe_callB call_len1 (by rfl) m_len (by decide +kernel) (pa_cons (pe_lc (own := [("one", 2)]) rfl sc__law_has_name.nd (pi_tup (pv 1)) (blkOk_by (own := [("one", 2)]) (N := n__law_has_name) (sc := defScope s__law_has_name) (by decide +kernel)) (fun _ _ _ _ _ => (pg_name (i := 2) sc__law_has_name.nd rfl (by first | exact .inl rfl | exact .inr rfl))) (fun _ _ _ _ _ => (pts_one (pt_val (pe_cal C__law_has_name (hr.mono (by omega)) rfl (pa_cons (pv 2) pa_nil))))) (fun _ _ _ _ _ => (pv 2))) pa_nil)) pe_int (nomark _))))))
theorem ok__law_has_name_all {P : Program} {w : World} {K : PySem.W.Frag} {mg : Str → Option Value} {base : Heap} {f : Addr} {fd : FuncData} (F : Fun K "_law_has_name" "_law_has_name" s__law_has_name f fd) (gf : mg "_law_has_name" = some (.ref f))  (m_len : mg "len" = none)  : ∀ m, Cal P w K mg base "_law_has_name" (1 + m) ["claim"] (sp__law_has_name K m)
  | 0 => ⟨f, fd, F.ok (k := 0) sc__law_has_name len__law_has_name (fun cdv A outer s H vs Q E hr h => (no__law_has_name h).elim), F.kp, F.binds (fun _ _ _ _ _ _ us hl => match us, hl with | [_], _ => rfl), gf⟩
  | m + 1 => ok__law_has_name_step m F gf m_len (ok__law_has_name_all F gf m_len m)
theorem ok__law_has_name {P : Program} {w : World} {K : PySem.W.Frag} {mg : Str → Option Value} {base : Heap} {f : Addr} {fd : FuncData} (F : Fun K "_law_has_name" "_law_has_name" s__law_has_name f fd) (gf : mg "_law_has_name" = some (.ref f))  (m_len : mg "len" = none)  : Cal P w K mg base "_law_has_name" 9 ["claim"] (sp__law_has_name K 8) := ok__law_has_name_all F gf m_len 8
abbrev s__law_part : Stmt := topS 50
abbrev n__law_part : List Str := ["state", "pairs", "levels", "room", "way", "name", "domain", "v", "inner", "parts", "used", "k"]
theorem sc__law_part : FnScope n__law_part ["state", "pairs", "levels", "room"] (defScope s__law_part) := ⟨rfl, rfl, rfl, by decide +kernel, rfl, by decide +kernel, by decide +kernel⟩
theorem ok__law_part_step (m : Nat) {P : Program} {w : World} {K : PySem.W.Frag} {mg : Str → Option Value} {base : Heap} {f : Addr} {fd : FuncData} (F : Fun K "_law_part" "_law_part" s__law_part f fd) (gf : mg "_law_part" = some (.ref f)) (C__law_pick : Cal P w K mg base "_law_pick" 3 ["state", "some"] (sp__law_pick K)) (C__law_take : Cal P w K mg base "_law_take" 2 ["state", "limit"] (sp__law_take K)) (m_list : mg "list" = none) (m_max : mg "max" = none) (m_min : mg "min" = none) (m_range : mg "range" = none) (m_tuple : mg "tuple" = none)  (C__law_part : Cal P w K mg base "_law_part" (4 + m) ["state", "pairs", "levels", "room"] (sp__law_part K m)) : Cal P w K mg base "_law_part" (4 + m + 1) ["state", "pairs", "levels", "room"] (sp__law_part K (m + 1)) := by
  refine ⟨f, fd, F.ok (k := 4 + m) sc__law_part len__law_part (fun cdv A outer s H vs Q E hr h => ⟨t__law_part K m, PSs.nox ?_, pure__law_part vs H Q E h⟩), F.kp, F.binds (fun _ _ _ _ _ _ us hl => match us, hl with | [_, _, _, _], _ => rfl), gf⟩
  exact (pss_cons (ps_set (i := 4) sc__law_part.nd rfl (by first | exact .inl rfl | exact .inr rfl) (pe_cal C__law_take (hr.mono (by omega)) rfl (pa_cons (pv 0) (pa_cons pe_int pa_nil))))
  (pss_cons (ps_if (PW.pt (pw_or (pt_cmpR op_lt (pv 2) pe_int (nomark _)) (pw_or (pt_cmpR op_lt (pv 3) pe_int (nomark _)) (pw_or1 (pt_cmpR op_lt (pv 4) pe_int (nomark _)))))) (pss_cons (ps_asg (pe_cal C__law_pick (hr.mono (by omega)) rfl (pa_cons (pv 0) (pa_cons (pv 1) pa_nil))) (pg_tup rfl (pgs_cons (pg_name (i := 5) sc__law_part.nd rfl (by first | exact .inl rfl | exact .inr rfl)) (pgs_cons (pg_name (i := 6) sc__law_part.nd rfl (by first | exact .inl rfl | exact .inr rfl)) pgs_nil))))
  (pss_cons (ps_set (i := 7) sc__law_part.nd rfl (by first | exact .inl rfl | exact .inr rfl) (pe_cal C__law_pick (hr.mono (by omega)) rfl (pa_cons (pv 0) (pa_cons (pe_op op_cat (pe_callTy call_listOf (by rfl) m_list (by decide +kernel) (pa_cons (pv 6) pa_nil)) (pe_lst (pa_cons (pe_op op_sub (pe_ix ix_tup (pv 6) pe_int (fun _ _ => rfl)) pe_int) (pa_cons (pe_op op_add (pe_ix ix_tup (pv 6) (pe_un un_neg pe_int) (fun _ _ => rfl)) pe_int) (pa_cons (pe_op op_sub (pe_cal C__law_take (hr.mono (by omega)) rfl (pa_cons (pv 0) (pa_cons pe_int pa_nil))) pe_int) pa_nil))))) pa_nil))))
  (pss_one (ps_ret (pe_lst (pa_cons (pe_tup (pa_cons (pe_ix ix_list (pe_lst (pa_cons pe_str (pa_cons pe_str pa_nil))) (pe_cal C__law_take (hr.mono (by omega)) rfl (pa_cons (pv 0) (pa_cons pe_int pa_nil))) (fun _ _ => rfl)) (pa_cons (pv 5) (pa_cons (pe_callB (call_max2 rfl) (by rfl) m_max (by decide +kernel) (pa_cons (pe_un un_neg pe_int) (pa_cons (pe_callB (call_min2 rfl) (by rfl) m_min (by decide +kernel) (pa_cons pe_int (pa_cons (pv 7) pa_nil))) pa_nil))) pa_nil)))) (pa_cons pe_int pa_nil))))))) pss_nil)
  (pss_cons (ps_if (pt_cmpR op_eq (pv 4) pe_int (nomark _)) (pss_cons (ps_set (i := 8) sc__law_part.nd rfl (by first | exact .inl rfl | exact .inr rfl) (pe_cal C__law_part (hr.mono (by omega)) rfl (pa_cons (pv 0) (pa_cons (pv 1) (pa_cons (pe_op op_sub (pv 2) pe_int) (pa_cons (pe_op op_sub (pv 3) pe_int) pa_nil))))))
  (pss_one (ps_ret (pe_lst (pa_cons (pe_tup (pa_cons pe_str (pa_cons (pe_ix ix_list (pv 8) pe_int (fun _ _ => rfl)) pa_nil))) (pa_cons (pe_op op_add pe_int (pe_ix ix_list (pv 8) pe_int (fun _ _ => rfl))) pa_nil)))))) pss_nil)
  (pss_cons (ps_set (i := 9) sc__law_part.nd rfl (by first | exact .inl rfl | exact .inr rfl) (pe_lst pa_nil))
  (pss_cons (ps_set (i := 10) sc__law_part.nd rfl (by first | exact .inl rfl | exact .inr rfl) pe_int)
  (pss_cons (ps_for PassesOwn.never rfl (pi_range1 (by rfl) m_range (pa_cons (pe_cal C__law_pick (hr.mono (by omega)) rfl (pa_cons (pv 0) (pa_cons (pe_lst (pa_cons pe_int (pa_cons pe_int (pa_cons pe_int (pa_cons pe_int (pa_cons pe_int (pa_cons pe_int (pa_cons pe_int pa_nil)))))))) pa_nil))) pa_nil)) (pg_name (i := 11) sc__law_part.nd rfl (by first | exact .inl rfl | exact .inr rfl))
  (pss_one (ps_if (pt_cmpR op_lt (pv 10) (pv 3) (nomark _)) (pss_cons (ps_set (i := 8) sc__law_part.nd rfl (by first | exact .inl rfl | exact .inr rfl) (pe_cal C__law_part (hr.mono (by omega)) rfl (pa_cons (pv 0) (pa_cons (pv 1) (pa_cons (pe_op op_sub (pv 2) pe_int) (pa_cons (pe_callB (call_min2 rfl) (by rfl) m_min (by decide +kernel) (pa_cons (pe_op op_sub (pv 3) (pv 10)) (pa_cons (pe_op op_add pe_int (pe_cal C__law_take (hr.mono (by omega)) rfl (pa_cons (pv 0) (pa_cons pe_int pa_nil)))) pa_nil))) pa_nil))))))
  (pss_cons (ps_expr (pe_bm PySem.F.plainAttrs_list PySem.F.slot_list_append PySem.F.type_list_append mt_append (pv 9) (pa_cons (pe_ix ix_list (pv 8) pe_int (fun _ _ => rfl)) pa_nil)))
  (pss_one (ps_set (i := 10) sc__law_part.nd rfl (by first | exact .inl rfl | exact .inr rfl) (pe_op op_add (pv 10) (pe_ix ix_list (pv 8) pe_int (fun _ _ => rfl))))))) pss_nil)))
  (pss_one (ps_ret (pe_lst (pa_cons (pe_tup (pa_cons (pe_ix ix_list (pe_lst (pa_cons pe_str (pa_cons pe_str pa_nil))) (pe_cal C__law_take (hr.mono (by omega)) rfl (pa_cons (pv 0) (pa_cons pe_int pa_nil))) (fun _ _ => rfl)) (pa_cons (pe_tupleOf (by rfl) m_tuple (pv 9)) pa_nil))) (pa_cons (pv 10) pa_nil)))))))))))
theorem ok__law_part_all {P : Program} {w : World} {K : PySem.W.Frag} {mg : Str → Option Value} {base : Heap} {f : Addr} {fd : FuncData} (F : Fun K "_law_part" "_law_part" s__law_part f fd) (gf : mg "_law_part" = some (.ref f)) (C__law_pick : Cal P w K mg base "_law_pick" 3 ["state", "some"] (sp__law_pick K)) (C__law_take : Cal P w K mg base "_law_take" 2 ["state", "limit"] (sp__law_take K)) (m_list : mg "list" = none) (m_max : mg "max" = none) (m_min : mg "min" = none) (m_range : mg "range" = none) (m_tuple : mg "tuple" = none)  : ∀ m, Cal P w K mg base "_law_part" (4 + m) ["state", "pairs", "levels", "room"] (sp__law_part K m)
  | 0 => ⟨f, fd, F.ok (k := 3) sc__law_part len__law_part (fun cdv A outer s H vs Q E hr h => (no__law_part h).elim), F.kp, F.binds (fun _ _ _ _ _ _ us hl => match us, hl with | [_, _, _, _], _ => rfl), gf⟩
  | m + 1 => ok__law_part_step m F gf C__law_pick C__law_take m_list m_max m_min m_range m_tuple (ok__law_part_all F gf C__law_pick C__law_take m_list m_max m_min m_range m_tuple m)
theorem ok__law_part {P : Program} {w : World} {K : PySem.W.Frag} {mg : Str → Option Value} {base : Heap} {f : Addr} {fd : FuncData} (F : Fun K "_law_part" "_law_part" s__law_part f fd) (gf : mg "_law_part" = some (.ref f)) (C__law_pick : Cal P w K mg base "_law_pick" 3 ["state", "some"] (sp__law_pick K)) (C__law_take : Cal P w K mg base "_law_take" 2 ["state", "limit"] (sp__law_take K)) (m_list : mg "list" = none) (m_max : mg "max" = none) (m_min : mg "min" = none) (m_range : mg "range" = none) (m_tuple : mg "tuple" = none)  : Cal P w K mg base "_law_part" 8 ["state", "pairs", "levels", "room"] (sp__law_part K 4) := ok__law_part_all F gf C__law_pick C__law_take m_list m_max m_min m_range m_tuple 4
abbrev s__law_claim : Stmt := topS 52
abbrev n__law_claim : List Str := ["state", "doms", "at", "pairs", "body", "name", "domain", "one", "claim"]
theorem sc__law_claim : FnScope n__law_claim ["state", "doms", "at"] (defScope s__law_claim) := ⟨rfl, rfl, rfl, by decide +kernel, rfl, by decide +kernel, by decide +kernel⟩
theorem ok__law_claim {P : Program} {w : World} {K : PySem.W.Frag} {mg : Str → Option Value} {base : Heap} {f : Addr} {fd : FuncData} (F : Fun K "_law_claim" "_law_claim" s__law_claim f fd) (gf : mg "_law_claim" = some (.ref f)) (C__law_few : Cal P w K mg base "_law_few" 4 ["state", "doms"] (sp__law_few K)) (C__law_has_name : Cal P w K mg base "_law_has_name" 9 ["claim"] (sp__law_has_name K 8)) (C__law_part : Cal P w K mg base "_law_part" 8 ["state", "pairs", "levels", "room"] (sp__law_part K 4)) (C__law_pick : Cal P w K mg base "_law_pick" 3 ["state", "some"] (sp__law_pick K)) (C__law_shuffled : Cal P w K mg base "_law_shuffled" 3 ["state", "some"] (sp__law_shuffled K)) (C__law_take : Cal P w K mg base "_law_take" 2 ["state", "limit"] (sp__law_take K)) (C__law_true : Cal P w K mg base "_law_true" 9 ["claim", "at"] (sp__law_true K 8))  (m_tuple : mg "tuple" = none)  : Cal P w K mg base "_law_claim" 10 ["state", "doms", "at"] (sp__law_claim K) := by
  refine ⟨f, fd, F.ok sc__law_claim len__law_claim (fun cdv A outer s H vs Q E hr h => ⟨t__law_claim K, PSs.nox ?_, pure__law_claim vs H Q E h⟩), F.kp, F.binds (fun _ _ _ _ _ _ us hl => match us, hl with | [_, _, _], _ => rfl), gf⟩
  exact (pss_cons (ps_set (i := 3) sc__law_claim.nd rfl (by first | exact .inl rfl | exact .inr rfl) (pe_cal C__law_few (hr.mono (by decide)) rfl (pa_cons (pv 0) (pa_cons (pv 1) pa_nil))))
  (pss_cons (ps_set (i := 4) sc__law_claim.nd rfl (by first | exact .inl rfl | exact .inr rfl) (pe_ix ix_list (pe_cal C__law_part (hr.mono (by decide)) rfl (pa_cons (pv 0) (pa_cons (pv 3) (pa_cons (pe_op op_add pe_int (pe_cal C__law_take (hr.mono (by decide)) rfl (pa_cons (pv 0) (pa_cons pe_int pa_nil)))) (pa_cons (pe_cal C__law_pick (hr.mono (by decide)) rfl (pa_cons (pv 0) (pa_cons (pe_lst (pa_cons pe_int (pa_cons pe_int (pa_cons pe_int pa_nil)))) pa_nil))) pa_nil))))) pe_int (fun _ _ => rfl)))
  (pss_cons (ps_asg (pe_ix ix_list (pv 3) pe_int (fun _ _ => rfl)) (pg_tup rfl (pgs_cons (pg_name (i := 5) sc__law_claim.nd rfl (by first | exact .inl rfl | exact .inr rfl)) (pgs_cons (pg_name (i := 6) sc__law_claim.nd rfl (by first | exact .inl rfl | exact .inr rfl)) pgs_nil))))
  (pss_cons (ps_set (i := 7) sc__law_claim.nd rfl (by first | exact .inl rfl | exact .inr rfl) (pe_tup (pa_cons (pe_ix ix_list (pe_lst (pa_cons pe_str (pa_cons pe_str pa_nil))) (pe_cal C__law_take (hr.mono (by decide)) rfl (pa_cons (pv 0) (pa_cons pe_int pa_nil))) (fun _ _ => rfl)) (pa_cons (pv 5) (pa_cons (pe_cal C__law_pick (hr.mono (by decide)) rfl (pa_cons (pv 0) (pa_cons (pv 6) pa_nil))) pa_nil)))))
  (pss_cons (ps_set (i := 8) sc__law_claim.nd rfl (by first | exact .inl rfl | exact .inr rfl) (pv 4))
  (pss_cons (ps_if (PW.pt (pw_or (pt_cmpR op_gt (pe_cal C__law_take (hr.mono (by decide)) rfl (pa_cons (pv 0) (pa_cons pe_int pa_nil))) pe_int (nomark _)) (pw_or1 (pt_not (pt_val (pe_cal C__law_has_name (hr.mono (by decide)) rfl (pa_cons (pv 4) pa_nil))))))) (pss_one (ps_set (i := 8) sc__law_claim.nd rfl (by first | exact .inl rfl | exact .inr rfl) (pe_tup (pa_cons (pe_ix ix_list (pe_lst (pa_cons pe_str (pa_cons pe_str pa_nil))) (pe_cal C__law_take (hr.mono (by decide)) rfl (pa_cons (pv 0) (pa_cons pe_int pa_nil))) (fun _ _ => rfl)) (pa_cons (pe_tupleOf (by rfl) m_tuple (pe_cal C__law_shuffled (hr.mono (by decide)) rfl (pa_cons (pv 0) (pa_cons (pe_lst (pa_cons (pv 4) (pa_cons (pv 7) pa_nil))) pa_nil)))) pa_nil))))) pss_nil)
  (pss_cons (ps_if (PW.pt (pw_and (pt_not (pt_val (pe_cal C__law_true (hr.mono (by decide)) rfl (pa_cons (pv 8) (pa_cons (pv 2) pa_nil))))) (pw_and1 (pt_cmpR op_eq (pe_cal C__law_take (hr.mono (by decide)) rfl (pa_cons (pv 0) (pa_cons pe_int pa_nil))) pe_int (nomark _))))) (pss_one (ps_set (i := 8) sc__law_claim.nd rfl (by first | exact .inl rfl | exact .inr rfl) (pe_tup (pa_cons pe_str (pa_cons (pv 8) pa_nil))))) pss_nil)
  (pss_one (ps_ret (pv 8))))))))))
abbrev s__law_inner : Stmt := topS 53
abbrev n__law_inner : List Str := ["state", "doms", "at", "row", "pair", "kind", "many", "xs", "terms", "x", "term", "rows", "k"]
theorem sc__law_inner : FnScope n__law_inner ["state", "doms", "at"] (defScope s__law_inner) := ⟨rfl, rfl, rfl, by decide +kernel, rfl, by decide +kernel, by decide +kernel⟩
theorem ok__law_inner {P : Program} {w : World} {K : PySem.W.Frag} {mg : Str → Option Value} {base : Heap} {f : Addr} {fd : FuncData} (F : Fun K "_law_inner" "_law_inner" s__law_inner f fd) (gf : mg "_law_inner" = some (.ref f)) (C__law_claim : Cal P w K mg base "_law_claim" 10 ["state", "doms", "at"] (sp__law_claim K)) (C__law_few : Cal P w K mg base "_law_few" 4 ["state", "doms"] (sp__law_few K)) (C__law_pick : Cal P w K mg base "_law_pick" 3 ["state", "some"] (sp__law_pick K)) (C__law_shuffled : Cal P w K mg base "_law_shuffled" 3 ["state", "some"] (sp__law_shuffled K)) (C__law_take : Cal P w K mg base "_law_take" 2 ["state", "limit"] (sp__law_take K))  (m_len : mg "len" = none) (m_min : mg "min" = none) (m_range : mg "range" = none) (m_sorted : mg "sorted" = none) (m_sum : mg "sum" = none) (m_tuple : mg "tuple" = none)  : Cal P w K mg base "_law_inner" 11 ["state", "doms", "at"] (sp__law_inner K) := by
  refine ⟨f, fd, F.ok sc__law_inner len__law_inner (fun cdv A outer s H vs Q E hr h => ⟨t__law_inner K, PSs.nox ?_, pure__law_inner vs H Q E h⟩), F.kp, F.binds (fun _ _ _ _ _ _ us hl => match us, hl with | [_, _, _], _ => rfl), gf⟩
  exact (pss_cons (ps_setLc (i := 3) (own := [("pair", 4)]) rfl sc__law_inner.nd rfl rfl (sw_true rfl rfl rfl (by decide +kernel)) (pi_list (pe_cal C__law_shuffled (hr.mono (by decide)) rfl (pa_cons (pv 0) (pa_cons (pv 1) pa_nil)))) (blkOk_by (own := [("pair", 4)]) (N := n__law_inner) (sc := defScope s__law_inner) (by decide +kernel)) (fun _ _ _ _ _ => (pg_name (i := 4) sc__law_inner.nd rfl (by first | exact .inl rfl | exact .inr rfl))) (fun _ _ _ _ _ => pts_nil) (fun _ _ _ _ _ => (pe_ix ix_tup (pv 4) pe_int (fun _ _ => rfl))))
  (pss_cons (ps_set (i := 5) sc__law_inner.nd rfl (by first | exact .inl rfl | exact .inr rfl) (pe_cal C__law_pick (hr.mono (by decide)) rfl (pa_cons (pv 0) (pa_cons (pe_lst (pa_cons pe_str (pa_cons pe_str (pa_cons pe_str (pa_cons pe_str (pa_cons pe_str (pa_cons pe_str (pa_cons pe_str (pa_cons pe_str pa_nil))))))))) pa_nil))))
  (pss_cons (ps_set (i := 6) sc__law_inner.nd rfl (by first | exact .inl rfl | exact .inr rfl) (pe_op op_add pe_int (pe_cal C__law_take (hr.mono (by decide)) rfl (pa_cons (pv 0) (pa_cons (pe_callB (call_min2 rfl) (by rfl) m_min (by decide +kernel) (pa_cons pe_int (pa_cons (pe_op op_fdiv (pe_callB call_len1 (by rfl) m_len (by decide +kernel) (pa_cons (pv 3) pa_nil)) pe_int) pa_nil))) pa_nil)))))
  (pss_cons (ps_set (i := 7) sc__law_inner.nd rfl (by first | exact .inl rfl | exact .inr rfl) (pe_tupleOf (by rfl) m_tuple (pe_slice sl_list (pv 3) po_none (po_some (pv 6)))))
  (pss_cons (ps_if (pt_cmpR op_eq (pv 5) pe_str (nomark _)) (pss_one (ps_ret (pe_tup (pa_cons (pv 5) (pa_cons (pe_cal C__law_claim (hr.mono (by decide)) rfl (pa_cons (pv 0) (pa_cons (pv 1) (pa_cons (pv 2) pa_nil)))) pa_nil))))) pss_nil)
  (pss_cons (ps_if (pt_cmpR op_eq (pv 5) pe_str (nomark _)) (pss_cons (ps_set (i := 8) sc__law_inner.nd rfl (by first | exact .inl rfl | exact .inr rfl) (pe_tupleOf (by rfl) m_tuple (pe_lc (own := [("x", 9)]) rfl sc__law_inner.nd (pi_tup (pv 7)) (blkOk_by (own := [("x", 9)]) (N := n__law_inner) (sc := defScope s__law_inner) (by decide +kernel)) (fun _ _ _ _ _ => (pg_name (i := 9) sc__law_inner.nd rfl (by first | exact .inl rfl | exact .inr rfl))) (fun _ _ _ _ _ => pts_nil) (fun _ _ _ _ _ => (pe_tup (pa_cons (pv 9) (pa_cons (pe_ix ix_list (pe_lst (pa_cons pe_int (pa_cons (pe_un un_neg pe_int) (pa_cons pe_int (pa_cons (pe_un un_neg pe_int) pa_nil))))) (pe_cal C__law_take (hr.mono (by decide)) rfl (pa_cons (pv 0) (pa_cons pe_int pa_nil))) (fun _ _ => rfl)) pa_nil)))))))
  (pss_one (ps_ret (pe_tup (pa_cons (pv 5) (pa_cons (pv 8) (pa_cons (pe_op op_sub (pe_op op_add (pe_callB (cr_sum rfl) (by rfl) m_sum (by decide +kernel) (pa_cons (pe_lc (own := [("term", 10)]) rfl sc__law_inner.nd (pi_tup (pv 8)) (blkOk_by (own := [("term", 10)]) (N := n__law_inner) (sc := defScope s__law_inner) (by decide +kernel)) (fun _ _ _ _ _ => (pg_name (i := 10) sc__law_inner.nd rfl (by first | exact .inl rfl | exact .inr rfl))) (fun _ _ _ _ _ => pts_nil) (fun _ _ _ _ _ => (pe_op op_mul (pe_ix ix_tup (pv 10) pe_int (fun _ _ => rfl)) (pe_dget (hu_of hr) (pv 2) (pe_ix ix_tup (pv 10) pe_int (fun _ _ => rfl)) (fun _ _ => rfl))))) pa_nil)) (pe_cal C__law_take (hr.mono (by decide)) rfl (pa_cons (pv 0) (pa_cons pe_int pa_nil)))) pe_int) pa_nil))))))) pss_nil)
  (pss_cons (ps_if (pt_cmpR op_eq (pv 5) pe_str (nomark _)) (pss_one (ps_ret (pe_tup (pa_cons (pv 5) (pa_cons (pv 7) pa_nil))))) pss_nil)
  (pss_cons (ps_if (pt_cmpR op_eq (pv 5) pe_str (nomark _)) (pss_one (ps_ret (pe_tup (pa_cons (pv 5) (pa_cons (pv 7) (pa_cons (pe_ix ix_list (pv 3) (pv 6) (fun _ _ => rfl)) pa_nil)))))) pss_nil)
  (pss_cons (ps_if (pt_cmpR op_eq (pv 5) pe_str (nomark _)) (pss_one (ps_ret (pe_tup (pa_cons (pv 5) (pa_cons (pv 7) (pa_cons (pe_tupleOf (by rfl) m_tuple (pe_slice sl_list (pv 3) (po_some (pv 6)) (po_some (pe_op op_mul pe_int (pv 6))))) pa_nil)))))) pss_nil)
  (pss_cons (ps_if (pt_cmpR op_eq (pv 5) pe_str (nomark _)) (pss_one (ps_ret (pe_tup (pa_cons (pv 5) (pa_cons (pv 7) (pa_cons (pe_tup (pa_cons (pe_tup (pa_cons (pe_dget (hu_of hr) (pv 2) (pe_ix ix_tup (pv 7) pe_int (fun _ _ => rfl)) (fun _ _ => rfl)) (pa_cons (pe_cal C__law_take (hr.mono (by decide)) rfl (pa_cons (pv 0) (pa_cons pe_int pa_nil))) (pa_cons (pe_op op_add pe_int (pe_cal C__law_take (hr.mono (by decide)) rfl (pa_cons (pv 0) (pa_cons pe_int pa_nil)))) pa_nil)))) pa_nil)) pa_nil)))))) pss_nil)
  (pss_cons (ps_set (i := 7) sc__law_inner.nd rfl (by first | exact .inl rfl | exact .inr rfl) (pe_tupleOf (by rfl) m_tuple (pe_slice sl_list (pe_lc (own := [("pair", 4)]) rfl sc__law_inner.nd (pi_list (pe_cal C__law_few (hr.mono (by decide)) rfl (pa_cons (pv 0) (pa_cons (pv 1) pa_nil)))) (blkOk_by (own := [("pair", 4)]) (N := n__law_inner) (sc := defScope s__law_inner) (by decide +kernel)) (fun _ _ _ _ _ => (pg_name (i := 4) sc__law_inner.nd rfl (by first | exact .inl rfl | exact .inr rfl))) (fun _ _ _ _ _ => pts_nil) (fun _ _ _ _ _ => (pe_ix ix_tup (pv 4) pe_int (fun _ _ => rfl)))) po_none (po_some pe_int))))
  (pss_cons (ps_set (i := 11) sc__law_inner.nd rfl (by first | exact .inl rfl | exact .inr rfl) pe_dnewT)
  (pss_cons (ps_for PassesOwn.never rfl (pi_range1 (by rfl) m_range (pa_cons (pe_cal C__law_take (hr.mono (by decide)) rfl (pa_cons (pv 0) (pa_cons pe_int pa_nil))) pa_nil)) (pg_name (i := 12) sc__law_inner.nd rfl (by first | exact .inl rfl | exact .inr rfl))
  (pss_one (ps_dput (hu_of hr) (pv 11) (pe_tupleOf (by rfl) m_tuple (pe_lc (own := [("x", 9)]) rfl sc__law_inner.nd (pi_tup (pv 7)) (blkOk_by (own := [("x", 9)]) (N := n__law_inner) (sc := defScope s__law_inner) (by decide +kernel)) (fun _ _ _ _ _ => (pg_name (i := 9) sc__law_inner.nd rfl (by first | exact .inl rfl | exact .inr rfl))) (fun _ _ _ _ _ => pts_nil) (fun _ _ _ _ _ => (pe_ifExp (pt_cmpR op_gt (pe_cal C__law_take (hr.mono (by decide)) rfl (pa_cons (pv 0) (pa_cons pe_int pa_nil))) pe_int (nomark _)) (pe_dget (hu_of hr) (pv 2) (pv 9) (fun _ _ => rfl)) (pe_op op_sub (pe_cal C__law_take (hr.mono (by decide)) rfl (pa_cons (pv 0) (pa_cons pe_int pa_nil))) pe_int))))) pe_bl rfl)))
  (pss_one (ps_ret (pe_tup (pa_cons (pv 5) (pa_cons (pv 7) (pa_cons (pe_tupleOf (by rfl) m_tuple (pe_callB (call_sortedDT rfl (units64 hr)) (by rfl) m_sorted (by decide +kernel) (pa_cons (pv 11) pa_nil))) pa_nil)))))))))))))))))))
abbrev s_law : Stmt := topS 55
abbrev n_law : List Str := ["script", "state", "great", "sizes", "k", "names", "low", "doms", "near", "v", "base", "pair", "at", "made", "claim", "parted", "fillings"]
theorem sc_law : FnScope n_law ["script"] (defScope s_law) := ⟨rfl, rfl, rfl, by decide +kernel, rfl, by decide +kernel, by decide +kernel⟩
theorem ok_law {P : Program} {w : World} {K : PySem.W.Frag} {mg : Str → Option Value} {base : Heap} {f : Addr} {fd : FuncData} (F : Fun K "law" "law" s_law f fd) (gf : mg "law" = some (.ref f)) (C__law_by_turns : Cal P w K mg base "_law_by_turns" 16 ["state", "doms", "made", "firm", "soft", "fillings", "base"] (sp__law_by_turns K)) (C__law_claim : Cal P w K mg base "_law_claim" 10 ["state", "doms", "at"] (sp__law_claim K)) (C__law_domain : Cal P w K mg base "_law_domain" 4 ["state", "size"] (sp__law_domain K)) (C__law_fillings : Cal P w K mg base "_law_fillings" 1 ["doms"] (sp__law_fillings K)) (C__law_inner : Cal P w K mg base "_law_inner" 11 ["state", "doms", "at"] (sp__law_inner K)) (C__law_names : Cal P w K mg base "_law_names" 4 ["state", "many"] (sp__law_names K)) (C__law_near : Cal P w K mg base "_law_near" 4 ["state", "doms", "base"] (sp__law_near K)) (C__law_parted : Cal P w K mg base "_law_parted" 13 ["state", "made", "at"] (sp__law_parted K)) (C__law_pick : Cal P w K mg base "_law_pick" 3 ["state", "some"] (sp__law_pick K)) (C__law_shuffled : Cal P w K mg base "_law_shuffled" 3 ["state", "some"] (sp__law_shuffled K)) (C__law_sizes : Cal P w K mg base "_law_sizes" 3 ["state", "most", "whole"] (sp__law_sizes K)) (C__law_start : Cal P w K mg base "_law_start" 2 ["script"] (sp__law_start K)) (C__law_take : Cal P w K mg base "_law_take" 2 ["state", "limit"] (sp__law_take K)) (C__law_world : Cal P w K mg base "_law_world" 1 ["doms", "filling"] (sp__law_world K))  (m_len : mg "len" = none) (m_list : mg "list" = none) (m_range : mg "range" = none) (m_sorted : mg "sorted" = none) (m_tuple : mg "tuple" = none)  : FnOk P w K mg base CX0 17 f fd ["script"] (sp_law K) := by
  refine F.ok sc_law len_law (fun cdv A outer s H vs Q E hr h => ⟨t_law K, PSs.nox ?_, pure_law vs H Q E h⟩)
  exact (pss_cons (ps_set (i := 1) sc_law.nd rfl (by first | exact .inl rfl | exact .inr rfl) (pe_cal C__law_start (hr.mono (by decide)) rfl (pa_cons (pv 0) pa_nil)))
  (pss_cons (ps_set (i := 2) sc_law.nd rfl (by first | exact .inl rfl | exact .inr rfl) (pe_cmpR op_eq (pe_cal C__law_take (hr.mono (by decide)) rfl (pa_cons (pv 1) (pa_cons pe_int pa_nil))) pe_int (nomark _)))
  (pss_cons (ps_set (i := 3) sc_law.nd rfl (by first | exact .inl rfl | exact .inr rfl) (pe_op op_cat (pe_lst (pa_cons pe_int (pa_cons (pe_op op_add pe_int (pe_cal C__law_take (hr.mono (by decide)) rfl (pa_cons (pv 1) (pa_cons pe_int pa_nil)))) pa_nil))) (pe_cal C__law_sizes (hr.mono (by decide)) rfl (pa_cons (pv 1) (pa_cons pe_int (pa_cons pe_int pa_nil))))))
  (pss_cons (ps_if (pt_val (pv 2)) (pss_one (ps_set (i := 3) sc_law.nd rfl (by first | exact .inl rfl | exact .inr rfl) (pe_op op_cat (pe_lst (pa_cons pe_int (pa_cons pe_int (pa_cons pe_int pa_nil)))) (pe_lc (own := [("k", 4)]) rfl sc_law.nd (pi_range1 (by rfl) m_range (pa_cons (pe_op op_add pe_int (pe_cal C__law_take (hr.mono (by decide)) rfl (pa_cons (pv 1) (pa_cons pe_int pa_nil)))) pa_nil)) (blkOk_by (own := [("k", 4)]) (N := n_law) (sc := defScope s_law) (by decide +kernel)) (fun _ _ _ _ _ => (pg_name (i := 4) sc_law.nd rfl (by first | exact .inl rfl | exact .inr rfl))) (fun _ _ _ _ _ => pts_nil) (fun _ _ _ _ _ => (pe_cal C__law_pick (hr.mono (by decide)) rfl (pa_cons (pv 1) (pa_cons (pe_lst (pa_cons pe_int (pa_cons pe_int (pa_cons pe_int (pa_cons pe_int (pa_cons pe_int (pa_cons (pe_op op_add pe_int (pe_cal C__law_take (hr.mono (by decide)) rfl (pa_cons (pv 1) (pa_cons pe_int pa_nil)))) pa_nil))))))) pa_nil)))))))) pss_nil)
  (pss_cons (ps_set (i := 5) sc_law.nd rfl (by first | exact .inl rfl | exact .inr rfl) (pe_cal C__law_names (hr.mono (by decide)) rfl (pa_cons (pv 1) (pa_cons (pe_op op_add (pe_callB call_len1 (by rfl) m_len (by decide +kernel) (pa_cons (pv 3) pa_nil)) pe_int) pa_nil))))
  (pss_cons (ps_set (i := 6) sc_law.nd rfl (by first | exact .inl rfl | exact .inr rfl) (pe_op op_sub (pe_cal C__law_take (hr.mono (by decide)) rfl (pa_cons (pv 1) (pa_cons pe_int pa_nil))) pe_int))
  (pss_cons (ps_set (i := 7) sc_law.nd rfl (by first | exact .inl rfl | exact .inr rfl) (pe_lst pa_nil))
  (pss_cons (ps_for PassesOwn.never rfl (pi_range1 (by rfl) m_range (pa_cons (pe_callB call_len1 (by rfl) m_len (by decide +kernel) (pa_cons (pv 3) pa_nil)) pa_nil)) (pg_name (i := 4) sc_law.nd rfl (by first | exact .inl rfl | exact .inr rfl))
  (pss_cons (ps_set (i := 8) sc_law.nd rfl (by first | exact .inl rfl | exact .inr rfl) (pe_tupleOf (by rfl) m_tuple (pe_lc (own := [("v", 9)]) rfl sc_law.nd (pi_list (pe_callB cr_sortedI (by rfl) m_sorted (by decide +kernel) (pa_cons (pe_slice sl_list (pe_cal C__law_shuffled (hr.mono (by decide)) rfl (pa_cons (pv 1) (pa_cons (pe_listRg rfl (by rfl) m_list (prg_1 (by rfl) m_range pe_int)) pa_nil))) po_none (po_some (pe_ix ix_list (pv 3) (pv 4) (fun _ _ => rfl)))) pa_nil))) (blkOk_by (own := [("v", 9)]) (N := n_law) (sc := defScope s_law) (by decide +kernel)) (fun _ _ _ _ _ => (pg_name (i := 9) sc_law.nd rfl (by first | exact .inl rfl | exact .inr rfl))) (fun _ _ _ _ _ => pts_nil) (fun _ _ _ _ _ => (pe_op op_add (pv 6) (pv 9))))))
  (pss_one (ps_expr (pe_bm PySem.F.plainAttrs_list PySem.F.slot_list_append PySem.F.type_list_append mt_append (pv 7) (pa_cons (pe_tup (pa_cons (pe_ix ix_list (pv 5) (pv 4) (fun _ _ => rfl)) (pa_cons (pe_ifExp (pt_cmpR op_gt (pe_cal C__law_take (hr.mono (by decide)) rfl (pa_cons (pv 1) (pa_cons pe_int pa_nil))) pe_int (nomark _)) (pv 8) (pe_cal C__law_domain (hr.mono (by decide)) rfl (pa_cons (pv 1) (pa_cons (pe_ix ix_list (pv 3) (pv 4) (fun _ _ => rfl)) pa_nil)))) pa_nil))) pa_nil))))))
  (pss_cons (ps_set (i := 10) sc_law.nd rfl (by first | exact .inl rfl | exact .inr rfl) (pe_tupleOf (by rfl) m_tuple (pe_lc (own := [("pair", 11)]) rfl sc_law.nd (pi_list (pv 7)) (blkOk_by (own := [("pair", 11)]) (N := n_law) (sc := defScope s_law) (by decide +kernel)) (fun _ _ _ _ _ => (pg_name (i := 11) sc_law.nd rfl (by first | exact .inl rfl | exact .inr rfl))) (fun _ _ _ _ _ => pts_nil) (fun _ _ _ _ _ => (pe_cal C__law_pick (hr.mono (by decide)) rfl (pa_cons (pv 1) (pa_cons (pe_ix ix_tup (pv 11) pe_int (fun _ _ => rfl)) pa_nil)))))))
  (pss_cons (ps_set (i := 12) sc_law.nd rfl (by first | exact .inl rfl | exact .inr rfl) (pe_cal C__law_world (hr.mono (by decide)) rfl (pa_cons (pv 7) (pa_cons (pv 10) pa_nil))))
  (pss_cons (ps_set (i := 13) sc_law.nd rfl (by first | exact .inl rfl | exact .inr rfl) (pe_lst pa_nil))
  (pss_cons (ps_for PassesOwn.never rfl (pi_range1 (by rfl) m_range (pa_cons pe_int pa_nil)) (pg_name (i := 4) sc_law.nd rfl (by first | exact .inl rfl | exact .inr rfl))
  (pss_cons (ps_set (i := 14) sc_law.nd rfl (by first | exact .inl rfl | exact .inr rfl) (pe_cal C__law_claim (hr.mono (by decide)) rfl (pa_cons (pv 1) (pa_cons (pv 7) (pa_cons (pv 12) pa_nil)))))
  (pss_one (ps_expr (pe_bm PySem.F.plainAttrs_list PySem.F.slot_list_append PySem.F.type_list_append mt_append (pv 13) (pa_cons (pe_tup (pa_cons (pe_ix ix_list (pv 5) (pe_op op_add (pe_callB call_len1 (by rfl) m_len (by decide +kernel) (pa_cons (pv 3) pa_nil)) (pv 4)) (fun _ _ => rfl)) (pa_cons (pe_ifExp (pt_cmpR op_lt (pv 4) pe_int (nomark _)) (pe_tup (pa_cons pe_str (pa_cons (pv 14) pa_nil))) (pe_tup (pa_cons pe_str (pa_cons (pv 14) (pa_cons (pe_cal C__law_inner (hr.mono (by decide)) rfl (pa_cons (pv 1) (pa_cons (pv 7) (pa_cons (pv 12) pa_nil)))) pa_nil))))) pa_nil))) pa_nil))))))
  (pss_cons (ps_set (i := 15) sc_law.nd rfl (by first | exact .inl rfl | exact .inr rfl) (pe_cal C__law_parted (hr.mono (by decide)) rfl (pa_cons (pv 1) (pa_cons (pv 13) (pa_cons (pv 12) pa_nil)))))
  (pss_cons (ps_set (i := 16) sc_law.nd rfl (by first | exact .inl rfl | exact .inr rfl) (pe_ifExp (pt_not (pt_val (pv 2))) (pe_cal C__law_fillings (hr.mono (by decide)) rfl (pa_cons (pv 7) pa_nil)) (pe_op op_cat (pe_lst (pa_cons (pv 10) pa_nil)) (pe_lc (own := [("k", 4)]) rfl sc_law.nd (pi_range1 (by rfl) m_range (pa_cons pe_int pa_nil)) (blkOk_by (own := [("k", 4)]) (N := n_law) (sc := defScope s_law) (by decide +kernel)) (fun _ _ _ _ _ => (pg_name (i := 4) sc_law.nd rfl (by first | exact .inl rfl | exact .inr rfl))) (fun _ _ _ _ _ => pts_nil) (fun _ _ _ _ _ => (pe_cal C__law_near (hr.mono (by decide)) rfl (pa_cons (pv 1) (pa_cons (pv 7) (pa_cons (pv 10) pa_nil)))))))))
  (pss_one (ps_ret (pe_cal C__law_by_turns (hr.mono (by decide)) rfl (pa_cons (pv 1) (pa_cons (pv 7) (pa_cons (pv 13) (pa_cons (pe_ix ix_list (pv 15) pe_int (fun _ _ => rfl)) (pa_cons (pe_ix ix_list (pv 15) pe_int (fun _ _ => rfl)) (pa_cons (pv 16) (pa_cons (pv 10) pa_nil))))))))))))))))))))))))
abbrev s_holds : Stmt := topS 3
abbrev n_holds : List Str := ["saying", "at", "tell"]
theorem sc_holds : FnScope n_holds ["saying", "at"] (defScope s_holds) := ⟨rfl, rfl, rfl, by decide +kernel, rfl, by decide +kernel, by decide +kernel⟩
theorem held_of {P : Program} {w : World} {K : PySem.W.Frag} {mg : Str → Option Value} {base : Heap} {x : Str} {k n : Nat} {ps : List Str} {sp : Sp} {a : Addr} (C : Cal P w K mg base x k ps sp) (hk : k ≤ n) (ga : mg x = some (.ref a)) : Held P w K mg base n a sp := by
  obtain ⟨f', fd', h1, h2, h3, h4⟩ := C.ex
  rw [ga] at h4
  cases h4
  exact ⟨fd', _, h1.mono hk, h2, h3⟩
def S_tell0 (K : PySem.W.Frag) (t0 t1 t2 t3 t4 t5 t6 t7 : Addr) : Addr → Option Sp := fun f => if f = t0 then some (sp__least_holds K) else if f = t1 then some (sp__unlike_holds K) else if f = t2 then some (sp__counts_holds K) else if f = t3 then some (sp__table_holds K) else if f = t4 then some (sp__bar_holds K) else if f = t5 then some (sp__top_holds K) else if f = t6 then some (sp__ahead_holds K) else if f = t7 then some (sp__claim_holds K) else none
def S_tell1 (K : PySem.W.Frag) (t0 t1 t2 t3 t4 t5 t6 t7 t8 : Addr) : Addr → Option Sp := fun f => if f = t8 then some (sp__when_holds K) else S_tell0 K t0 t1 t2 t3 t4 t5 t6 t7 f
theorem tells0 {K : PySem.W.Frag} {w : World} {T t0 t1 t2 t3 t4 t5 t6 t7 t8 : Addr} (hne : [t0, t1, t2, t3, t4, t5, t6, t7, t8].Nodup) (k0 : KDct K w T "least" (.ref t0)) (k1 : KDct K w T "unlike" (.ref t1)) (k2 : KDct K w T "counts" (.ref t2)) (k3 : KDct K w T "table" (.ref t3)) (k4 : KDct K w T "bar" (.ref t4)) (k5 : KDct K w T "top" (.ref t5)) (k6 : KDct K w T "ahead" (.ref t6)) (k7 : KDct K w T "claim" (.ref t7)) : Tells K w T (S_tell0 K t0 t1 t2 t3 t4 t5 t6 t7) := by
  simp only [List.nodup_cons, List.mem_cons, List.not_mem_nil, or_false, not_or, not_false_eq_true, List.nodup_nil, and_true] at hne
  obtain ⟨⟨n0_1, n0_2, n0_3, n0_4, n0_5, n0_6, n0_7, n0_8⟩, ⟨n1_2, n1_3, n1_4, n1_5, n1_6, n1_7, n1_8⟩, ⟨n2_3, n2_4, n2_5, n2_6, n2_7, n2_8⟩, ⟨n3_4, n3_5, n3_6, n3_7, n3_8⟩, ⟨n4_5, n4_6, n4_7, n4_8⟩, ⟨n5_6, n5_7, n5_8⟩, ⟨n6_7, n6_8⟩, n7_8⟩ := hne
  exact ⟨⟨t0, k0, by unfold S_tell0; rw [if_pos rfl]⟩, ⟨t1, k1, by unfold S_tell0; rw [if_neg (Ne.symm n0_1), if_pos rfl]⟩, ⟨t2, k2, by unfold S_tell0; rw [if_neg (Ne.symm n0_2), if_neg (Ne.symm n1_2), if_pos rfl]⟩, ⟨t3, k3, by unfold S_tell0; rw [if_neg (Ne.symm n0_3), if_neg (Ne.symm n1_3), if_neg (Ne.symm n2_3), if_pos rfl]⟩, ⟨t4, k4, by unfold S_tell0; rw [if_neg (Ne.symm n0_4), if_neg (Ne.symm n1_4), if_neg (Ne.symm n2_4), if_neg (Ne.symm n3_4), if_pos rfl]⟩, ⟨t5, k5, by unfold S_tell0; rw [if_neg (Ne.symm n0_5), if_neg (Ne.symm n1_5), if_neg (Ne.symm n2_5), if_neg (Ne.symm n3_5), if_neg (Ne.symm n4_5), if_pos rfl]⟩, ⟨t6, k6, by unfold S_tell0; rw [if_neg (Ne.symm n0_6), if_neg (Ne.symm n1_6), if_neg (Ne.symm n2_6), if_neg (Ne.symm n3_6), if_neg (Ne.symm n4_6), if_neg (Ne.symm n5_6), if_pos rfl]⟩, ⟨t7, k7, by unfold S_tell0; rw [if_neg (Ne.symm n0_7), if_neg (Ne.symm n1_7), if_neg (Ne.symm n2_7), if_neg (Ne.symm n3_7), if_neg (Ne.symm n4_7), if_neg (Ne.symm n5_7), if_neg (Ne.symm n6_7), if_pos rfl]⟩⟩
theorem tells1 {K : PySem.W.Frag} {w : World} {T t0 t1 t2 t3 t4 t5 t6 t7 t8 : Addr} (hne : [t0, t1, t2, t3, t4, t5, t6, t7, t8].Nodup) (k0 : KDct K w T "least" (.ref t0)) (k1 : KDct K w T "unlike" (.ref t1)) (k2 : KDct K w T "counts" (.ref t2)) (k3 : KDct K w T "table" (.ref t3)) (k4 : KDct K w T "bar" (.ref t4)) (k5 : KDct K w T "top" (.ref t5)) (k6 : KDct K w T "ahead" (.ref t6)) (k7 : KDct K w T "claim" (.ref t7)) (k8 : KDct K w T "when" (.ref t8)) : Tells K w T (S_tell1 K t0 t1 t2 t3 t4 t5 t6 t7 t8) ∧ ∃ a, KDct K w T "when" (.ref a) ∧ S_tell1 K t0 t1 t2 t3 t4 t5 t6 t7 t8 a = some (sp__when_holds K) := by
  simp only [List.nodup_cons, List.mem_cons, List.not_mem_nil, or_false, not_or, not_false_eq_true, List.nodup_nil, and_true] at hne
  obtain ⟨⟨n0_1, n0_2, n0_3, n0_4, n0_5, n0_6, n0_7, n0_8⟩, ⟨n1_2, n1_3, n1_4, n1_5, n1_6, n1_7, n1_8⟩, ⟨n2_3, n2_4, n2_5, n2_6, n2_7, n2_8⟩, ⟨n3_4, n3_5, n3_6, n3_7, n3_8⟩, ⟨n4_5, n4_6, n4_7, n4_8⟩, ⟨n5_6, n5_7, n5_8⟩, ⟨n6_7, n6_8⟩, n7_8⟩ := hne
  exact ⟨⟨⟨t0, k0, by unfold S_tell1 S_tell0; rw [if_neg n0_8]; rw [if_pos rfl]⟩, ⟨t1, k1, by unfold S_tell1 S_tell0; rw [if_neg n1_8]; rw [if_neg (Ne.symm n0_1), if_pos rfl]⟩, ⟨t2, k2, by unfold S_tell1 S_tell0; rw [if_neg n2_8]; rw [if_neg (Ne.symm n0_2), if_neg (Ne.symm n1_2), if_pos rfl]⟩, ⟨t3, k3, by unfold S_tell1 S_tell0; rw [if_neg n3_8]; rw [if_neg (Ne.symm n0_3), if_neg (Ne.symm n1_3), if_neg (Ne.symm n2_3), if_pos rfl]⟩, ⟨t4, k4, by unfold S_tell1 S_tell0; rw [if_neg n4_8]; rw [if_neg (Ne.symm n0_4), if_neg (Ne.symm n1_4), if_neg (Ne.symm n2_4), if_neg (Ne.symm n3_4), if_pos rfl]⟩, ⟨t5, k5, by unfold S_tell1 S_tell0; rw [if_neg n5_8]; rw [if_neg (Ne.symm n0_5), if_neg (Ne.symm n1_5), if_neg (Ne.symm n2_5), if_neg (Ne.symm n3_5), if_neg (Ne.symm n4_5), if_pos rfl]⟩, ⟨t6, k6, by unfold S_tell1 S_tell0; rw [if_neg n6_8]; rw [if_neg (Ne.symm n0_6), if_neg (Ne.symm n1_6), if_neg (Ne.symm n2_6), if_neg (Ne.symm n3_6), if_neg (Ne.symm n4_6), if_neg (Ne.symm n5_6), if_pos rfl]⟩, ⟨t7, k7, by unfold S_tell1 S_tell0; rw [if_neg n7_8]; rw [if_neg (Ne.symm n0_7), if_neg (Ne.symm n1_7), if_neg (Ne.symm n2_7), if_neg (Ne.symm n3_7), if_neg (Ne.symm n4_7), if_neg (Ne.symm n5_7), if_neg (Ne.symm n6_7), if_pos rfl]⟩⟩, t8, k8, by unfold S_tell1; rw [if_pos rfl]⟩
theorem ok_holds0 {P : Program} {w : World} {K : PySem.W.Frag} {mg : Str → Option Value} {base : Heap} {f T t0 t1 t2 t3 t4 t5 t6 t7 t8 : Addr} {fd : FuncData} (F : Fun K "holds" "holds" s_holds f fd) (gf : mg "holds" = some (.ref f)) (gT : mg "_TELLS" = some (.ref T)) (hne : [t0, t1, t2, t3, t4, t5, t6, t7, t8].Nodup)
    (k0 : KDct K w T "least" (.ref t0)) (k1 : KDct K w T "unlike" (.ref t1)) (k2 : KDct K w T "counts" (.ref t2)) (k3 : KDct K w T "table" (.ref t3)) (k4 : KDct K w T "bar" (.ref t4)) (k5 : KDct K w T "top" (.ref t5)) (k6 : KDct K w T "ahead" (.ref t6)) (k7 : KDct K w T "claim" (.ref t7)) (g0 : mg "_least_holds" = some (.ref t0)) (g1 : mg "_unlike_holds" = some (.ref t1)) (g2 : mg "_counts_holds" = some (.ref t2)) (g3 : mg "_table_holds" = some (.ref t3)) (g4 : mg "_bar_holds" = some (.ref t4)) (g5 : mg "_top_holds" = some (.ref t5)) (g6 : mg "_ahead_holds" = some (.ref t6)) (g7 : mg "_claim_holds" = some (.ref t7))
    (C_least_holds : Cal P w K mg base "_least_holds" 2 ["saying", "at"] (sp__least_holds K)) (C_unlike_holds : Cal P w K mg base "_unlike_holds" 1 ["saying", "at"] (sp__unlike_holds K)) (C_counts_holds : Cal P w K mg base "_counts_holds" 1 ["saying", "at"] (sp__counts_holds K)) (C_table_holds : Cal P w K mg base "_table_holds" 1 ["saying", "at"] (sp__table_holds K)) (C_bar_holds : Cal P w K mg base "_bar_holds" 2 ["saying", "at"] (sp__bar_holds K)) (C_top_holds : Cal P w K mg base "_top_holds" 1 ["saying", "at"] (sp__top_holds K)) (C_ahead_holds : Cal P w K mg base "_ahead_holds" 1 ["saying", "at"] (sp__ahead_holds K)) (C_claim_holds : Cal P w K mg base "_claim_holds" 10 ["saying", "at"] (sp__claim_holds K)) : Cal P w K mg base "holds" 11 ["saying", "at"] (sp_holds0 K) := by
  have A_tell : ∀ (a : Addr) (sp : Sp), S_tell0 K t0 t1 t2 t3 t4 t5 t6 t7 a = some sp → Held P w K mg base 10 a sp := fun a sp e => by
    unfold S_tell0 at e
    split at e
    · rename_i z; cases e; subst z; exact held_of C_least_holds (by decide) g0
    split at e
    · rename_i z; cases e; subst z; exact held_of C_unlike_holds (by decide) g1
    split at e
    · rename_i z; cases e; subst z; exact held_of C_counts_holds (by decide) g2
    split at e
    · rename_i z; cases e; subst z; exact held_of C_table_holds (by decide) g3
    split at e
    · rename_i z; cases e; subst z; exact held_of C_bar_holds (by decide) g4
    split at e
    · rename_i z; cases e; subst z; exact held_of C_top_holds (by decide) g5
    split at e
    · rename_i z; cases e; subst z; exact held_of C_ahead_holds (by decide) g6
    split at e
    · rename_i z; cases e; subst z; exact held_of C_claim_holds (by decide) g7
    · cases e
  refine ⟨f, fd, F.ok (k := 10) sc_holds len_holds0 (fun cdv A outer s H vs Q E hr h => ⟨t_holds K w T (S_tell0 K t0 t1 t2 t3 t4 t5 t6 t7), PSs.nox ?_, pure_holds0 (tells0 hne k0 k1 k2 k3 k4 k5 k6 k7) vs H Q E h⟩), F.kp, F.binds (fun _ _ _ _ _ _ us hl => match us, hl with | [_, _], _ => rfl), gf⟩
  exact (pss_cons (ps_set (i := 2) sc_holds.nd rfl (by first | exact .inl rfl | exact .inr rfl) (pe_ix ix_kdict (pe_glob rfl gT rfl) (pe_ix ix_tup (pv 0) pe_int (fun _ _ => rfl)) (fun _ _ => rfl)))
  (pss_one (ps_ret (pe_callA A_tell (hr.mono (by decide)) rfl (.inl rfl) (pa_cons (pv 0) (pa_cons (pv 1) pa_nil))))))
theorem ok_holds {P : Program} {w : World} {K : PySem.W.Frag} {mg : Str → Option Value} {base : Heap} {f T t0 t1 t2 t3 t4 t5 t6 t7 t8 : Addr} {fd : FuncData} (F : Fun K "holds" "holds" s_holds f fd) (gf : mg "holds" = some (.ref f)) (gT : mg "_TELLS" = some (.ref T)) (hne : [t0, t1, t2, t3, t4, t5, t6, t7, t8].Nodup)
    (k0 : KDct K w T "least" (.ref t0)) (k1 : KDct K w T "unlike" (.ref t1)) (k2 : KDct K w T "counts" (.ref t2)) (k3 : KDct K w T "table" (.ref t3)) (k4 : KDct K w T "bar" (.ref t4)) (k5 : KDct K w T "top" (.ref t5)) (k6 : KDct K w T "ahead" (.ref t6)) (k7 : KDct K w T "claim" (.ref t7)) (k8 : KDct K w T "when" (.ref t8)) (g0 : mg "_least_holds" = some (.ref t0)) (g1 : mg "_unlike_holds" = some (.ref t1)) (g2 : mg "_counts_holds" = some (.ref t2)) (g3 : mg "_table_holds" = some (.ref t3)) (g4 : mg "_bar_holds" = some (.ref t4)) (g5 : mg "_top_holds" = some (.ref t5)) (g6 : mg "_ahead_holds" = some (.ref t6)) (g7 : mg "_claim_holds" = some (.ref t7)) (g8 : mg "_when_holds" = some (.ref t8))
    (C_least_holds : Cal P w K mg base "_least_holds" 2 ["saying", "at"] (sp__least_holds K)) (C_unlike_holds : Cal P w K mg base "_unlike_holds" 1 ["saying", "at"] (sp__unlike_holds K)) (C_counts_holds : Cal P w K mg base "_counts_holds" 1 ["saying", "at"] (sp__counts_holds K)) (C_table_holds : Cal P w K mg base "_table_holds" 1 ["saying", "at"] (sp__table_holds K)) (C_bar_holds : Cal P w K mg base "_bar_holds" 2 ["saying", "at"] (sp__bar_holds K)) (C_top_holds : Cal P w K mg base "_top_holds" 1 ["saying", "at"] (sp__top_holds K)) (C_ahead_holds : Cal P w K mg base "_ahead_holds" 1 ["saying", "at"] (sp__ahead_holds K)) (C_claim_holds : Cal P w K mg base "_claim_holds" 10 ["saying", "at"] (sp__claim_holds K)) (C_when_holds : Cal P w K mg base "_when_holds" 12 ["saying", "at"] (sp__when_holds K)) : Cal P w K mg base "holds" 13 ["saying", "at"] (sp_holds K) := by
  have A_tell : ∀ (a : Addr) (sp : Sp), S_tell1 K t0 t1 t2 t3 t4 t5 t6 t7 t8 a = some sp → Held P w K mg base 12 a sp := fun a sp e => by
    unfold S_tell1 S_tell0 at e
    split at e
    · rename_i z; cases e; subst z; exact held_of C_when_holds (by decide) g8
    split at e
    · rename_i z; cases e; subst z; exact held_of C_least_holds (by decide) g0
    split at e
    · rename_i z; cases e; subst z; exact held_of C_unlike_holds (by decide) g1
    split at e
    · rename_i z; cases e; subst z; exact held_of C_counts_holds (by decide) g2
    split at e
    · rename_i z; cases e; subst z; exact held_of C_table_holds (by decide) g3
    split at e
    · rename_i z; cases e; subst z; exact held_of C_bar_holds (by decide) g4
    split at e
    · rename_i z; cases e; subst z; exact held_of C_top_holds (by decide) g5
    split at e
    · rename_i z; cases e; subst z; exact held_of C_ahead_holds (by decide) g6
    split at e
    · rename_i z; cases e; subst z; exact held_of C_claim_holds (by decide) g7
    · cases e
  refine ⟨f, fd, F.ok (k := 12) sc_holds len_holds (fun cdv A outer s H vs Q E hr h => ⟨t_holds K w T (S_tell1 K t0 t1 t2 t3 t4 t5 t6 t7 t8), PSs.nox ?_, pure_holds (tells1 hne k0 k1 k2 k3 k4 k5 k6 k7 k8).1 (tells1 hne k0 k1 k2 k3 k4 k5 k6 k7 k8).2 vs H Q E h⟩), F.kp, F.binds (fun _ _ _ _ _ _ us hl => match us, hl with | [_, _], _ => rfl), gf⟩
  exact (pss_cons (ps_set (i := 2) sc_holds.nd rfl (by first | exact .inl rfl | exact .inr rfl) (pe_ix ix_kdict (pe_glob rfl gT rfl) (pe_ix ix_tup (pv 0) pe_int (fun _ _ => rfl)) (fun _ _ => rfl)))
  (pss_one (ps_ret (pe_callA A_tell (hr.mono (by decide)) rfl (.inl rfl) (pa_cons (pv 0) (pa_cons (pv 1) pa_nil))))))
theorem FunD.plain {K : PySem.W.Frag} {x qual : Str} {st : Stmt} {f : Addr} {fd : FuncData} (F : FunD K x qual (defArgs st) (defBody st) (defScope st) [] [] f fd) : Fun K x qual st f fd := by
  obtain ⟨⟨oc, od, dV, kV, doc, pm, an, cdv, ct, osl, rfl, lk, hcd, hD, _⟩, kp⟩ := F
  rcases hD with ⟨_, rfl⟩ | ⟨e, _⟩
  · exact ⟨⟨oc, od, kV, doc, pm, an, cdv, ct, osl, rfl, lk, hcd⟩, kp⟩
  · exact absurd rfl e
theorem Fun.kb {K : PySem.W.Frag} {x qual : Str} {st : Stmt} {f : Addr} {fd : FuncData} {ps : List Str} (F : Fun K x qual st f fd) (h0 : 0 < ps.length)
    (h : ∀ (kV doc pm : Value) (an : Option Addr) (cdv ct : Value) (us : List Value), us.length = ps.length → bindArgs (PySem.W.fnOf x qual (defArgs st) (defBody st) (defScope st) .none kV doc pm an cdv ct) ⟨[], ps.zip us⟩ = pure (ps.zip us)) : KBinds K fd ps ps gK gK := by
  obtain ⟨oc, od, kV, doc, pm, an, cdv, ct, osl, rfl, lk, hcd⟩ := F.ex
  refine ⟨fun s us ws _ hl => ?_, fun {vs us zs ws} r rz => ?_⟩
  · cases us with
    | nil => exact .of_eq (h kV doc pm an cdv ct ws hl)
    | cons a r =>
      have : (0 : Nat) = ps.length := hl
      omega
  · cases r with
    | nil => exact rz
    | cons _ _ => exact .nil

end AW
namespace AW
open PySem PySem.Spec PyProof.Rows L2 RZ
theorem ckOf {P : Program} {w : World} {K : PySem.W.Frag} {mg : Str → Option Value} {base : Heap} {x qual : Str} {st : Stmt} {f : Addr} {fd : FuncData} {k : Nat} {ps : List Str} {sp : Sp} (C : FnOk P w K mg base CX0 k f fd ps sp) (F : Fun K x qual st f fd) (gf : mg x = some (.ref f)) (h0 : 0 < ps.length)
    (h : ∀ (kV doc pm : Value) (an : Option Addr) (cdv ct : Value) (us : List Value), us.length = ps.length → bindArgs (PySem.W.fnOf x qual (defArgs st) (defBody st) (defScope st) .none kV doc pm an cdv ct) ⟨[], ps.zip us⟩ = pure (ps.zip us)) : CalK P w K mg base x k ps ps gK sp :=
  ⟨f, fd, gK, C, F.kp, AW.Fun.kb F h0 h, gf⟩
theorem facts7 {P : Program} {w : World} {K : PySem.W.Frag} {h : Heap} {mg : Str → Option Value} {fa : Addr} (X : K.In h) (G : h.Ns mainGlobals mg) (hfa : mg "law" = some (.ref fa))
    {f0 : Addr} {od0 an0 : Option Addr} {sl0 : Array (Option Value)} {oc0 kV0 dc0 pm0 cd0 ct0 : Value} (a0 : PySem.W.nsIn K mainGlobals "holds" = some (some (.ref f0))) (l0 : K.lookup f0 = some ⟨oc0, od0, .func (PySem.W.fnOf "holds" "holds" (defArgs (topS 3)) (defBody (topS 3)) (defScope (topS 3)) .none kV0 dc0 pm0 an0 cd0 ct0), sl0⟩) (c0 : PySem.W.codeIn K cd0 "holds" = true) (k0 : PySem.W.keepIn K (.ref f0) = true)
    {f1 : Addr} {od1 an1 : Option Addr} {sl1 : Array (Option Value)} {oc1 kV1 dc1 pm1 cd1 ct1 : Value} (a1 : PySem.W.nsIn K mainGlobals "_law_mixed" = some (some (.ref f1))) (l1 : K.lookup f1 = some ⟨oc1, od1, .func (PySem.W.fnOf "_law_mixed" "_law_mixed" (defArgs (topS 33)) (defBody (topS 33)) (defScope (topS 33)) .none kV1 dc1 pm1 an1 cd1 ct1), sl1⟩) (c1 : PySem.W.codeIn K cd1 "_law_mixed" = true) (k1 : PySem.W.keepIn K (.ref f1) = true)
    {f2 : Addr} {od2 an2 : Option Addr} {sl2 : Array (Option Value)} {oc2 kV2 dc2 pm2 cd2 ct2 : Value} (a2 : PySem.W.nsIn K mainGlobals "_law_start" = some (some (.ref f2))) (l2 : K.lookup f2 = some ⟨oc2, od2, .func (PySem.W.fnOf "_law_start" "_law_start" (defArgs (topS 34)) (defBody (topS 34)) (defScope (topS 34)) .none kV2 dc2 pm2 an2 cd2 ct2), sl2⟩) (c2 : PySem.W.codeIn K cd2 "_law_start" = true) (k2 : PySem.W.keepIn K (.ref f2) = true)
    {f3 : Addr} {od3 an3 : Option Addr} {sl3 : Array (Option Value)} {oc3 kV3 dc3 pm3 cd3 ct3 : Value} (a3 : PySem.W.nsIn K mainGlobals "_law_take" = some (some (.ref f3))) (l3 : K.lookup f3 = some ⟨oc3, od3, .func (PySem.W.fnOf "_law_take" "_law_take" (defArgs (topS 35)) (defBody (topS 35)) (defScope (topS 35)) .none kV3 dc3 pm3 an3 cd3 ct3), sl3⟩) (c3 : PySem.W.codeIn K cd3 "_law_take" = true) (k3 : PySem.W.keepIn K (.ref f3) = true)
    {f4 : Addr} {od4 an4 : Option Addr} {sl4 : Array (Option Value)} {oc4 kV4 dc4 pm4 cd4 ct4 : Value} (a4 : PySem.W.nsIn K mainGlobals "_law_pick" = some (some (.ref f4))) (l4 : K.lookup f4 = some ⟨oc4, od4, .func (PySem.W.fnOf "_law_pick" "_law_pick" (defArgs (topS 36)) (defBody (topS 36)) (defScope (topS 36)) .none kV4 dc4 pm4 an4 cd4 ct4), sl4⟩) (c4 : PySem.W.codeIn K cd4 "_law_pick" = true) (k4 : PySem.W.keepIn K (.ref f4) = true)
    {f5 : Addr} {od5 an5 : Option Addr} {sl5 : Array (Option Value)} {oc5 kV5 dc5 pm5 cd5 ct5 : Value} (a5 : PySem.W.nsIn K mainGlobals "_law_shuffled" = some (some (.ref f5))) (l5 : K.lookup f5 = some ⟨oc5, od5, .func (PySem.W.fnOf "_law_shuffled" "_law_shuffled" (defArgs (topS 37)) (defBody (topS 37)) (defScope (topS 37)) .none kV5 dc5 pm5 an5 cd5 ct5), sl5⟩) (c5 : PySem.W.codeIn K cd5 "_law_shuffled" = true) (k5 : PySem.W.keepIn K (.ref f5) = true)
    {f6 : Addr} {od6 an6 : Option Addr} {sl6 : Array (Option Value)} {oc6 kV6 dc6 pm6 cd6 ct6 : Value} (a6 : PySem.W.nsIn K mainGlobals "is_true" = some (some (.ref f6))) (l6 : K.lookup f6 = some ⟨oc6, od6, .func (PySem.W.fnOf "is_true" "is_true" (defArgs (topS 1)) (defBody (topS 1)) (defScope (topS 1)) .none kV6 dc6 pm6 an6 cd6 ct6), sl6⟩) (c6 : PySem.W.codeIn K cd6 "is_true" = true) (k6 : PySem.W.keepIn K (.ref f6) = true)
    {f7 : Addr} {od7 an7 : Option Addr} {sl7 : Array (Option Value)} {oc7 kV7 dc7 pm7 cd7 ct7 : Value} (a7 : PySem.W.nsIn K mainGlobals "weighed" = some (some (.ref f7))) (l7 : K.lookup f7 = some ⟨oc7, od7, .func (PySem.W.fnOf "weighed" "weighed" (defArgs (topS 4)) (defBody (topS 4)) (defScope (topS 4)) .none kV7 dc7 pm7 an7 cd7 ct7), sl7⟩) (c7 : PySem.W.codeIn K cd7 "weighed" = true) (k7 : PySem.W.keepIn K (.ref f7) = true)
    {f8 : Addr} {od8 an8 : Option Addr} {sl8 : Array (Option Value)} {oc8 kV8 dc8 pm8 cd8 ct8 : Value} (a8 : PySem.W.nsIn K mainGlobals "_least_holds" = some (some (.ref f8))) (l8 : K.lookup f8 = some ⟨oc8, od8, .func (PySem.W.fnOf "_least_holds" "_least_holds" (defArgs (topS 5)) (defBody (topS 5)) (defScope (topS 5)) .none kV8 dc8 pm8 an8 cd8 ct8), sl8⟩) (c8 : PySem.W.codeIn K cd8 "_least_holds" = true) (k8 : PySem.W.keepIn K (.ref f8) = true)
    {f9 : Addr} {od9 an9 : Option Addr} {sl9 : Array (Option Value)} {oc9 kV9 dc9 pm9 cd9 ct9 : Value} (a9 : PySem.W.nsIn K mainGlobals "_unlike_holds" = some (some (.ref f9))) (l9 : K.lookup f9 = some ⟨oc9, od9, .func (PySem.W.fnOf "_unlike_holds" "_unlike_holds" (defArgs (topS 7)) (defBody (topS 7)) (defScope (topS 7)) .none kV9 dc9 pm9 an9 cd9 ct9), sl9⟩) (c9 : PySem.W.codeIn K cd9 "_unlike_holds" = true) (k9 : PySem.W.keepIn K (.ref f9) = true)
    {f10 : Addr} {od10 an10 : Option Addr} {sl10 : Array (Option Value)} {oc10 kV10 dc10 pm10 cd10 ct10 : Value} (a10 : PySem.W.nsIn K mainGlobals "_counts_holds" = some (some (.ref f10))) (l10 : K.lookup f10 = some ⟨oc10, od10, .func (PySem.W.fnOf "_counts_holds" "_counts_holds" (defArgs (topS 8)) (defBody (topS 8)) (defScope (topS 8)) .none kV10 dc10 pm10 an10 cd10 ct10), sl10⟩) (c10 : PySem.W.codeIn K cd10 "_counts_holds" = true) (k10 : PySem.W.keepIn K (.ref f10) = true)
    {f11 : Addr} {od11 an11 : Option Addr} {sl11 : Array (Option Value)} {oc11 kV11 dc11 pm11 cd11 ct11 : Value} (a11 : PySem.W.nsIn K mainGlobals "_table_holds" = some (some (.ref f11))) (l11 : K.lookup f11 = some ⟨oc11, od11, .func (PySem.W.fnOf "_table_holds" "_table_holds" (defArgs (topS 9)) (defBody (topS 9)) (defScope (topS 9)) .none kV11 dc11 pm11 an11 cd11 ct11), sl11⟩) (c11 : PySem.W.codeIn K cd11 "_table_holds" = true) (k11 : PySem.W.keepIn K (.ref f11) = true)
    {f12 : Addr} {od12 an12 : Option Addr} {sl12 : Array (Option Value)} {oc12 kV12 dc12 pm12 cd12 ct12 : Value} (a12 : PySem.W.nsIn K mainGlobals "_bar_holds" = some (some (.ref f12))) (l12 : K.lookup f12 = some ⟨oc12, od12, .func (PySem.W.fnOf "_bar_holds" "_bar_holds" (defArgs (topS 10)) (defBody (topS 10)) (defScope (topS 10)) .none kV12 dc12 pm12 an12 cd12 ct12), sl12⟩) (c12 : PySem.W.codeIn K cd12 "_bar_holds" = true) (k12 : PySem.W.keepIn K (.ref f12) = true)
    {f13 : Addr} {od13 an13 : Option Addr} {sl13 : Array (Option Value)} {oc13 kV13 dc13 pm13 cd13 ct13 : Value} (a13 : PySem.W.nsIn K mainGlobals "_top_holds" = some (some (.ref f13))) (l13 : K.lookup f13 = some ⟨oc13, od13, .func (PySem.W.fnOf "_top_holds" "_top_holds" (defArgs (topS 12)) (defBody (topS 12)) (defScope (topS 12)) .none kV13 dc13 pm13 an13 cd13 ct13), sl13⟩) (c13 : PySem.W.codeIn K cd13 "_top_holds" = true) (k13 : PySem.W.keepIn K (.ref f13) = true)
    {f14 : Addr} {od14 an14 : Option Addr} {sl14 : Array (Option Value)} {oc14 kV14 dc14 pm14 cd14 ct14 : Value} (a14 : PySem.W.nsIn K mainGlobals "_ahead_holds" = some (some (.ref f14))) (l14 : K.lookup f14 = some ⟨oc14, od14, .func (PySem.W.fnOf "_ahead_holds" "_ahead_holds" (defArgs (topS 14)) (defBody (topS 14)) (defScope (topS 14)) .none kV14 dc14 pm14 an14 cd14 ct14), sl14⟩) (c14 : PySem.W.codeIn K cd14 "_ahead_holds" = true) (k14 : PySem.W.keepIn K (.ref f14) = true)
    {f15 : Addr} {od15 an15 : Option Addr} {sl15 : Array (Option Value)} {oc15 kV15 dc15 pm15 cd15 ct15 : Value} (a15 : PySem.W.nsIn K mainGlobals "_claim_holds" = some (some (.ref f15))) (l15 : K.lookup f15 = some ⟨oc15, od15, .func (PySem.W.fnOf "_claim_holds" "_claim_holds" (defArgs (topS 20)) (defBody (topS 20)) (defScope (topS 20)) .none kV15 dc15 pm15 an15 cd15 ct15), sl15⟩) (c15 : PySem.W.codeIn K cd15 "_claim_holds" = true) (k15 : PySem.W.keepIn K (.ref f15) = true)
    {f16 : Addr} {od16 an16 : Option Addr} {sl16 : Array (Option Value)} {oc16 kV16 dc16 pm16 cd16 ct16 : Value} (a16 : PySem.W.nsIn K mainGlobals "_when_holds" = some (some (.ref f16))) (l16 : K.lookup f16 = some ⟨oc16, od16, .func (PySem.W.fnOf "_when_holds" "_when_holds" (defArgs (topS 21)) (defBody (topS 21)) (defScope (topS 21)) .none kV16 dc16 pm16 an16 cd16 ct16), sl16⟩) (c16 : PySem.W.codeIn K cd16 "_when_holds" = true) (k16 : PySem.W.keepIn K (.ref f16) = true)
    {f17 : Addr} {od17 an17 : Option Addr} {sl17 : Array (Option Value)} {oc17 kV17 dc17 pm17 cd17 ct17 : Value} (a17 : PySem.W.nsIn K mainGlobals "values_at" = some (some (.ref f17))) (l17 : K.lookup f17 = some ⟨oc17, od17, .func (PySem.W.fnOf "values_at" "values_at" (defArgs (topS 28)) (defBody (topS 28)) (defScope (topS 28)) .none kV17 dc17 pm17 an17 cd17 ct17), sl17⟩) (c17 : PySem.W.codeIn K cd17 "values_at" = true) (k17 : PySem.W.keepIn K (.ref f17) = true)
    {f18 : Addr} {od18 an18 : Option Addr} {sl18 : Array (Option Value)} {oc18 kV18 dc18 pm18 cd18 ct18 : Value} (a18 : PySem.W.nsIn K mainGlobals "saying_of" = some (some (.ref f18))) (l18 : K.lookup f18 = some ⟨oc18, od18, .func (PySem.W.fnOf "saying_of" "saying_of" (defArgs (topS 29)) (defBody (topS 29)) (defScope (topS 29)) .none kV18 dc18 pm18 an18 cd18 ct18), sl18⟩) (c18 : PySem.W.codeIn K cd18 "saying_of" = true) (k18 : PySem.W.keepIn K (.ref f18) = true)
    {f19 : Addr} {od19 an19 : Option Addr} {sl19 : Array (Option Value)} {oc19 kV19 dc19 pm19 cd19 ct19 : Value} (a19 : PySem.W.nsIn K mainGlobals "keeps_saying" = some (some (.ref f19))) (l19 : K.lookup f19 = some ⟨oc19, od19, .func (PySem.W.fnOf "keeps_saying" "keeps_saying" (defArgs (topS 30)) (defBody (topS 30)) (defScope (topS 30)) .none kV19 dc19 pm19 an19 cd19 ct19), sl19⟩) (c19 : PySem.W.codeIn K cd19 "keeps_saying" = true) (k19 : PySem.W.keepIn K (.ref f19) = true)
    {f20 : Addr} {od20 an20 : Option Addr} {sl20 : Array (Option Value)} {oc20 kV20 dc20 pm20 cd20 ct20 : Value} (a20 : PySem.W.nsIn K mainGlobals "keeps" = some (some (.ref f20))) (l20 : K.lookup f20 = some ⟨oc20, od20, .func (PySem.W.fnOf "keeps" "keeps" (defArgs (topS 31)) (defBody (topS 31)) (defScope (topS 31)) .none kV20 dc20 pm20 an20 cd20 ct20), sl20⟩) (c20 : PySem.W.codeIn K cd20 "keeps" = true) (k20 : PySem.W.keepIn K (.ref f20) = true)
    {f21 : Addr} {od21 an21 : Option Addr} {sl21 : Array (Option Value)} {oc21 kV21 dc21 pm21 cd21 ct21 : Value} (a21 : PySem.W.nsIn K mainGlobals "_law_is_due" = some (some (.ref f21))) (l21 : K.lookup f21 = some ⟨oc21, od21, .func (PySem.W.fnOf "_law_is_due" "_law_is_due" (defArgs (topS 40)) (defBody (topS 40)) (defScope (topS 40)) .none kV21 dc21 pm21 an21 cd21 ct21), sl21⟩) (c21 : PySem.W.codeIn K cd21 "_law_is_due" = true) (k21 : PySem.W.keepIn K (.ref f21) = true)
    {f22 : Addr} {od22 an22 : Option Addr} {sl22 : Array (Option Value)} {oc22 kV22 dc22 pm22 cd22 ct22 : Value} (a22 : PySem.W.nsIn K mainGlobals "_law_world" = some (some (.ref f22))) (l22 : K.lookup f22 = some ⟨oc22, od22, .func (PySem.W.fnOf "_law_world" "_law_world" (defArgs (topS 42)) (defBody (topS 42)) (defScope (topS 42)) .none kV22 dc22 pm22 an22 cd22 ct22), sl22⟩) (c22 : PySem.W.codeIn K cd22 "_law_world" = true) (k22 : PySem.W.keepIn K (.ref f22) = true)
    {f23 : Addr} {od23 an23 : Option Addr} {sl23 : Array (Option Value)} {oc23 kV23 dc23 pm23 cd23 ct23 : Value} (a23 : PySem.W.nsIn K mainGlobals "_law_true" = some (some (.ref f23))) (l23 : K.lookup f23 = some ⟨oc23, od23, .func (PySem.W.fnOf "_law_true" "_law_true" (defArgs (topS 47)) (defBody (topS 47)) (defScope (topS 47)) .none kV23 dc23 pm23 an23 cd23 ct23), sl23⟩) (c23 : PySem.W.codeIn K cd23 "_law_true" = true) (k23 : PySem.W.keepIn K (.ref f23) = true)
    {f24 : Addr} {od24 an24 : Option Addr} {sl24 : Array (Option Value)} {oc24 kV24 dc24 pm24 cd24 ct24 : Value} (a24 : PySem.W.nsIn K mainGlobals "_law_holds" = some (some (.ref f24))) (l24 : K.lookup f24 = some ⟨oc24, od24, .func (PySem.W.fnOf "_law_holds" "_law_holds" (defArgs (topS 48)) (defBody (topS 48)) (defScope (topS 48)) .none kV24 dc24 pm24 an24 cd24 ct24), sl24⟩) (c24 : PySem.W.codeIn K cd24 "_law_holds" = true) (k24 : PySem.W.keepIn K (.ref f24) = true)
    {f25 : Addr} {od25 an25 : Option Addr} {sl25 : Array (Option Value)} {oc25 kV25 dc25 pm25 cd25 ct25 : Value} (a25 : PySem.W.nsIn K mainGlobals "_law_fillings" = some (some (.ref f25))) (l25 : K.lookup f25 = some ⟨oc25, od25, .func (PySem.W.fnOf "_law_fillings" "_law_fillings" (defArgs (topS 41)) (defBody (topS 41)) (defScope (topS 41)) .none kV25 dc25 pm25 an25 cd25 ct25), sl25⟩) (c25 : PySem.W.codeIn K cd25 "_law_fillings" = true) (k25 : PySem.W.keepIn K (.ref f25) = true)
    {f26 : Addr} {od26 an26 : Option Addr} {sl26 : Array (Option Value)} {oc26 kV26 dc26 pm26 cd26 ct26 : Value} (a26 : PySem.W.nsIn K mainGlobals "_law_near" = some (some (.ref f26))) (l26 : K.lookup f26 = some ⟨oc26, od26, .func (PySem.W.fnOf "_law_near" "_law_near" (defArgs (topS 43)) (defBody (topS 43)) (defScope (topS 43)) .none kV26 dc26 pm26 an26 cd26 ct26), sl26⟩) (c26 : PySem.W.codeIn K cd26 "_law_near" = true) (k26 : PySem.W.keepIn K (.ref f26) = true)
    {f27 : Addr} {od27 an27 : Option Addr} {sl27 : Array (Option Value)} {oc27 kV27 dc27 pm27 cd27 ct27 : Value} (a27 : PySem.W.nsIn K mainGlobals "_law_parted" = some (some (.ref f27))) (l27 : K.lookup f27 = some ⟨oc27, od27, .func (PySem.W.fnOf "_law_parted" "_law_parted" (defArgs (topS 46)) (defBody (topS 46)) (defScope (topS 46)) .none kV27 dc27 pm27 an27 cd27 ct27), sl27⟩) (c27 : PySem.W.codeIn K cd27 "_law_parted" = true) (k27 : PySem.W.keepIn K (.ref f27) = true)
    {f28 : Addr} {od28 an28 : Option Addr} {sl28 : Array (Option Value)} {oc28 kV28 dc28 pm28 cd28 ct28 : Value} (a28 : PySem.W.nsIn K mainGlobals "_law_are_held" = some (some (.ref f28))) (l28 : K.lookup f28 = some ⟨oc28, od28, .func (PySem.W.fnOf "_law_are_held" "_law_are_held" (defArgs (topS 44)) (defBody (topS 44)) (defScope (topS 44)) .none kV28 dc28 pm28 an28 cd28 ct28), sl28⟩) (c28 : PySem.W.codeIn K cd28 "_law_are_held" = true) (k28 : PySem.W.keepIn K (.ref f28) = true)
    {f29 : Addr} {od29 an29 : Option Addr} {sl29 : Array (Option Value)} {oc29 kV29 dc29 pm29 cd29 ct29 : Value} (a29 : PySem.W.nsIn K mainGlobals "_law_by_turns" = some (some (.ref f29))) (l29 : K.lookup f29 = some ⟨oc29, od29, .func (PySem.W.fnOf "_law_by_turns" "_law_by_turns" (defArgs (topS 54)) (defBody (topS 54)) (defScope (topS 54)) .none kV29 dc29 pm29 an29 cd29 ct29), sl29⟩) (c29 : PySem.W.codeIn K cd29 "_law_by_turns" = true) (k29 : PySem.W.keepIn K (.ref f29) = true)
    {f30 : Addr} {od30 an30 : Option Addr} {sl30 : Array (Option Value)} {oc30 kV30 dc30 pm30 cd30 ct30 : Value} (a30 : PySem.W.nsIn K mainGlobals "_law_domain" = some (some (.ref f30))) (l30 : K.lookup f30 = some ⟨oc30, od30, .func (PySem.W.fnOf "_law_domain" "_law_domain" (defArgs (topS 39)) (defBody (topS 39)) (defScope (topS 39)) .none kV30 dc30 pm30 an30 cd30 ct30), sl30⟩) (c30 : PySem.W.codeIn K cd30 "_law_domain" = true) (k30 : PySem.W.keepIn K (.ref f30) = true)
    {f31 : Addr} {od31 an31 : Option Addr} {sl31 : Array (Option Value)} {oc31 kV31 dc31 pm31 cd31 ct31 : Value} (a31 : PySem.W.nsIn K mainGlobals "_law_names" = some (some (.ref f31))) (l31 : K.lookup f31 = some ⟨oc31, od31, .func (PySem.W.fnOf "_law_names" "_law_names" (defArgs (topS 38)) (defBody (topS 38)) (defScope (topS 38)) .none kV31 dc31 pm31 an31 cd31 ct31), sl31⟩) (c31 : PySem.W.codeIn K cd31 "_law_names" = true) (k31 : PySem.W.keepIn K (.ref f31) = true)
    {f32 : Addr} {od32 an32 : Option Addr} {sl32 : Array (Option Value)} {oc32 kV32 dc32 pm32 cd32 ct32 : Value} (a32 : PySem.W.nsIn K mainGlobals "_law_sizes" = some (some (.ref f32))) (l32 : K.lookup f32 = some ⟨oc32, od32, .func (PySem.W.fnOf "_law_sizes" "_law_sizes" (defArgs (topS 45)) (defBody (topS 45)) (defScope (topS 45)) .none kV32 dc32 pm32 an32 cd32 ct32), sl32⟩) (c32 : PySem.W.codeIn K cd32 "_law_sizes" = true) (k32 : PySem.W.keepIn K (.ref f32) = true)
    {f33 : Addr} {od33 an33 : Option Addr} {sl33 : Array (Option Value)} {oc33 kV33 dc33 pm33 cd33 ct33 : Value} (a33 : PySem.W.nsIn K mainGlobals "_law_few" = some (some (.ref f33))) (l33 : K.lookup f33 = some ⟨oc33, od33, .func (PySem.W.fnOf "_law_few" "_law_few" (defArgs (topS 49)) (defBody (topS 49)) (defScope (topS 49)) .none kV33 dc33 pm33 an33 cd33 ct33), sl33⟩) (c33 : PySem.W.codeIn K cd33 "_law_few" = true) (k33 : PySem.W.keepIn K (.ref f33) = true)
    {f34 : Addr} {od34 an34 : Option Addr} {sl34 : Array (Option Value)} {oc34 kV34 dc34 pm34 cd34 ct34 : Value} (a34 : PySem.W.nsIn K mainGlobals "_law_has_name" = some (some (.ref f34))) (l34 : K.lookup f34 = some ⟨oc34, od34, .func (PySem.W.fnOf "_law_has_name" "_law_has_name" (defArgs (topS 51)) (defBody (topS 51)) (defScope (topS 51)) .none kV34 dc34 pm34 an34 cd34 ct34), sl34⟩) (c34 : PySem.W.codeIn K cd34 "_law_has_name" = true) (k34 : PySem.W.keepIn K (.ref f34) = true)
    {f35 : Addr} {od35 an35 : Option Addr} {sl35 : Array (Option Value)} {oc35 kV35 dc35 pm35 cd35 ct35 : Value} (a35 : PySem.W.nsIn K mainGlobals "_law_part" = some (some (.ref f35))) (l35 : K.lookup f35 = some ⟨oc35, od35, .func (PySem.W.fnOf "_law_part" "_law_part" (defArgs (topS 50)) (defBody (topS 50)) (defScope (topS 50)) .none kV35 dc35 pm35 an35 cd35 ct35), sl35⟩) (c35 : PySem.W.codeIn K cd35 "_law_part" = true) (k35 : PySem.W.keepIn K (.ref f35) = true)
    {f36 : Addr} {od36 an36 : Option Addr} {sl36 : Array (Option Value)} {oc36 kV36 dc36 pm36 cd36 ct36 : Value} (a36 : PySem.W.nsIn K mainGlobals "_law_claim" = some (some (.ref f36))) (l36 : K.lookup f36 = some ⟨oc36, od36, .func (PySem.W.fnOf "_law_claim" "_law_claim" (defArgs (topS 52)) (defBody (topS 52)) (defScope (topS 52)) .none kV36 dc36 pm36 an36 cd36 ct36), sl36⟩) (c36 : PySem.W.codeIn K cd36 "_law_claim" = true) (k36 : PySem.W.keepIn K (.ref f36) = true)
    {f37 : Addr} {od37 an37 : Option Addr} {sl37 : Array (Option Value)} {oc37 kV37 dc37 pm37 cd37 ct37 : Value} (a37 : PySem.W.nsIn K mainGlobals "_law_inner" = some (some (.ref f37))) (l37 : K.lookup f37 = some ⟨oc37, od37, .func (PySem.W.fnOf "_law_inner" "_law_inner" (defArgs (topS 53)) (defBody (topS 53)) (defScope (topS 53)) .none kV37 dc37 pm37 an37 cd37 ct37), sl37⟩) (c37 : PySem.W.codeIn K cd37 "_law_inner" = true) (k37 : PySem.W.keepIn K (.ref f37) = true)
    {f38 : Addr} {od38 an38 : Option Addr} {sl38 : Array (Option Value)} {oc38 kV38 dc38 pm38 cd38 ct38 : Value} (a38 : PySem.W.nsIn K mainGlobals "law" = some (some (.ref f38))) (l38 : K.lookup f38 = some ⟨oc38, od38, .func (PySem.W.fnOf "law" "law" (defArgs (topS 55)) (defBody (topS 55)) (defScope (topS 55)) .none kV38 dc38 pm38 an38 cd38 ct38), sl38⟩) (c38 : PySem.W.codeIn K cd38 "law" = true) (k38 : PySem.W.keepIn K (.ref f38) = true)
    (z_abs : PySem.W.nsIn K mainGlobals "abs" = some none)
    (z_all : PySem.W.nsIn K mainGlobals "all" = some none)
    (z_any : PySem.W.nsIn K mainGlobals "any" = some none)
    (z_int : PySem.W.nsIn K mainGlobals "int" = some none)
    (z_len : PySem.W.nsIn K mainGlobals "len" = some none)
    (z_list : PySem.W.nsIn K mainGlobals "list" = some none)
    (z_max : PySem.W.nsIn K mainGlobals "max" = some none)
    (z_min : PySem.W.nsIn K mainGlobals "min" = some none)
    (z_range : PySem.W.nsIn K mainGlobals "range" = some none)
    (z_sorted : PySem.W.nsIn K mainGlobals "sorted" = some none)
    (z_str : PySem.W.nsIn K mainGlobals "str" = some none)
    (z_sum : PySem.W.nsIn K mainGlobals "sum" = some none)
    (z_tuple : PySem.W.nsIn K mainGlobals "tuple" = some none)
    (z_zip : PySem.W.nsIn K mainGlobals "zip" = some none)
    {TT : Addr} {es : Array DictEntry} {en : Nat} (aT : PySem.W.nsIn K mainGlobals "_TELLS" = some (some (.ref TT))) (lT : K.lookup TT = some ⟨.type "dict", none, .dict es en, #[]⟩) (kT : PySem.W.KeysLit w.params es.toList)
    (t_least : PySem.W.nsIn K TT "least" = some (some (.ref f8))) (t_unlike : PySem.W.nsIn K TT "unlike" = some (some (.ref f9))) (t_counts : PySem.W.nsIn K TT "counts" = some (some (.ref f10))) (t_table : PySem.W.nsIn K TT "table" = some (some (.ref f11))) (t_bar : PySem.W.nsIn K TT "bar" = some (some (.ref f12))) (t_top : PySem.W.nsIn K TT "top" = some (some (.ref f13))) (t_ahead : PySem.W.nsIn K TT "ahead" = some (some (.ref f14))) (t_claim : PySem.W.nsIn K TT "claim" = some (some (.ref f15))) (t_when : PySem.W.nsIn K TT "when" = some (some (.ref f16))) (hne : [f8, f9, f10, f11, f12, f13, f14, f15, f16].Nodup) :
    ∃ fd : FuncData, (∀ (s : Shared) (v : Value), BindsTo s fd ⟨[v], []⟩ [("script", v)]) ∧ ∀ base : Heap, K.In base → base.Ns mainGlobals mg → FnOk P w K mg base CX0 17 fa fd ["script"] (sp_law K) := by
  have F_holds := fun_mk (st := topS 3) l0 c0 k0
  have G_holds := PySem.W.mg_of X G a0
  have F__law_mixed := fun_mk (st := topS 33) l1 c1 k1
  have G__law_mixed := PySem.W.mg_of X G a1
  have F__law_start := fun_mk (st := topS 34) l2 c2 k2
  have G__law_start := PySem.W.mg_of X G a2
  have F__law_take := fun_mk (st := topS 35) l3 c3 k3
  have G__law_take := PySem.W.mg_of X G a3
  have F__law_pick := fun_mk (st := topS 36) l4 c4 k4
  have G__law_pick := PySem.W.mg_of X G a4
  have F__law_shuffled := fun_mk (st := topS 37) l5 c5 k5
  have G__law_shuffled := PySem.W.mg_of X G a5
  have F_is_true := fun_mk (st := topS 1) l6 c6 k6
  have G_is_true := PySem.W.mg_of X G a6
  have F_weighed := fun_mk (st := topS 4) l7 c7 k7
  have G_weighed := PySem.W.mg_of X G a7
  have F__least_holds := fun_mk (st := topS 5) l8 c8 k8
  have G__least_holds := PySem.W.mg_of X G a8
  have F__unlike_holds := fun_mk (st := topS 7) l9 c9 k9
  have G__unlike_holds := PySem.W.mg_of X G a9
  have F__counts_holds := fun_mk (st := topS 8) l10 c10 k10
  have G__counts_holds := PySem.W.mg_of X G a10
  have F__table_holds := fun_mk (st := topS 9) l11 c11 k11
  have G__table_holds := PySem.W.mg_of X G a11
  have F__bar_holds := fun_mk (st := topS 10) l12 c12 k12
  have G__bar_holds := PySem.W.mg_of X G a12
  have F__top_holds := fun_mk (st := topS 12) l13 c13 k13
  have G__top_holds := PySem.W.mg_of X G a13
  have F__ahead_holds := fun_mk (st := topS 14) l14 c14 k14
  have G__ahead_holds := PySem.W.mg_of X G a14
  have F__claim_holds := fun_mk (st := topS 20) l15 c15 k15
  have G__claim_holds := PySem.W.mg_of X G a15
  have F__when_holds := fun_mk (st := topS 21) l16 c16 k16
  have G__when_holds := PySem.W.mg_of X G a16
  have F_values_at := fun_mk (st := topS 28) l17 c17 k17
  have G_values_at := PySem.W.mg_of X G a17
  have F_saying_of := fun_mk (st := topS 29) l18 c18 k18
  have G_saying_of := PySem.W.mg_of X G a18
  have F_keeps_saying := fun_mk (st := topS 30) l19 c19 k19
  have G_keeps_saying := PySem.W.mg_of X G a19
  have F_keeps := fun_mk (st := topS 31) l20 c20 k20
  have G_keeps := PySem.W.mg_of X G a20
  have F__law_is_due := fun_mk (st := topS 40) l21 c21 k21
  have G__law_is_due := PySem.W.mg_of X G a21
  have F__law_world := fun_mk (st := topS 42) l22 c22 k22
  have G__law_world := PySem.W.mg_of X G a22
  have F__law_true := fun_mk (st := topS 47) l23 c23 k23
  have G__law_true := PySem.W.mg_of X G a23
  have F__law_holds := fun_mk (st := topS 48) l24 c24 k24
  have G__law_holds := PySem.W.mg_of X G a24
  have F__law_fillings := fun_mk (st := topS 41) l25 c25 k25
  have G__law_fillings := PySem.W.mg_of X G a25
  have F__law_near := fun_mk (st := topS 43) l26 c26 k26
  have G__law_near := PySem.W.mg_of X G a26
  have F__law_parted := fun_mk (st := topS 46) l27 c27 k27
  have G__law_parted := PySem.W.mg_of X G a27
  have F__law_are_held := fun_mk (st := topS 44) l28 c28 k28
  have G__law_are_held := PySem.W.mg_of X G a28
  have F__law_by_turns := fun_mk (st := topS 54) l29 c29 k29
  have G__law_by_turns := PySem.W.mg_of X G a29
  have F__law_domain := fun_mk (st := topS 39) l30 c30 k30
  have G__law_domain := PySem.W.mg_of X G a30
  have F__law_names := fun_mk (st := topS 38) l31 c31 k31
  have G__law_names := PySem.W.mg_of X G a31
  have F__law_sizes := fun_mk (st := topS 45) l32 c32 k32
  have G__law_sizes := PySem.W.mg_of X G a32
  have F__law_few := fun_mk (st := topS 49) l33 c33 k33
  have G__law_few := PySem.W.mg_of X G a33
  have F__law_has_name := fun_mk (st := topS 51) l34 c34 k34
  have G__law_has_name := PySem.W.mg_of X G a34
  have F__law_part := fun_mk (st := topS 50) l35 c35 k35
  have G__law_part := PySem.W.mg_of X G a35
  have F__law_claim := fun_mk (st := topS 52) l36 c36 k36
  have G__law_claim := PySem.W.mg_of X G a36
  have F__law_inner := fun_mk (st := topS 53) l37 c37 k37
  have G__law_inner := PySem.W.mg_of X G a37
  have F_law := fun_mk (st := topS 55) l38 c38 k38
  have G_law := PySem.W.mg_of X G a38
  have m_abs := PySem.W.mg_none_of X G z_abs
  have m_all := PySem.W.mg_none_of X G z_all
  have m_any := PySem.W.mg_none_of X G z_any
  have m_int := PySem.W.mg_none_of X G z_int
  have m_len := PySem.W.mg_none_of X G z_len
  have m_list := PySem.W.mg_none_of X G z_list
  have m_max := PySem.W.mg_none_of X G z_max
  have m_min := PySem.W.mg_none_of X G z_min
  have m_range := PySem.W.mg_none_of X G z_range
  have m_sorted := PySem.W.mg_none_of X G z_sorted
  have m_str := PySem.W.mg_none_of X G z_str
  have m_sum := PySem.W.mg_none_of X G z_sum
  have m_tuple := PySem.W.mg_none_of X G z_tuple
  have m_zip := PySem.W.mg_none_of X G z_zip
  have kk0 : KDct K w TT "least" (.ref f8) := ⟨es, en, _, lT, kT, t_least, rfl⟩
  have kk1 : KDct K w TT "unlike" (.ref f9) := ⟨es, en, _, lT, kT, t_unlike, rfl⟩
  have kk2 : KDct K w TT "counts" (.ref f10) := ⟨es, en, _, lT, kT, t_counts, rfl⟩
  have kk3 : KDct K w TT "table" (.ref f11) := ⟨es, en, _, lT, kT, t_table, rfl⟩
  have kk4 : KDct K w TT "bar" (.ref f12) := ⟨es, en, _, lT, kT, t_bar, rfl⟩
  have kk5 : KDct K w TT "top" (.ref f13) := ⟨es, en, _, lT, kT, t_top, rfl⟩
  have kk6 : KDct K w TT "ahead" (.ref f14) := ⟨es, en, _, lT, kT, t_ahead, rfl⟩
  have kk7 : KDct K w TT "claim" (.ref f15) := ⟨es, en, _, lT, kT, t_claim, rfl⟩
  have kk8 : KDct K w TT "when" (.ref f16) := ⟨es, en, _, lT, kT, t_when, rfl⟩
  have G__TELLS := PySem.W.mg_of X G aT
  have e := hfa.symm.trans G_law
  cases e
  refine ⟨PySem.W.fnOf "law" "law" (defArgs (topS 55)) (defBody (topS 55)) (defScope (topS 55)) .none kV38 dc38 pm38 an38 cd38 ct38, fun s v => .of_eq rfl, fun base _ _ => ?_⟩
  have C__ahead_holds := ok__ahead_holds (P := P) (w := w) (base := base) F__ahead_holds G__ahead_holds   
  have C__table_holds := ok__table_holds (P := P) (w := w) (base := base) F__table_holds G__table_holds   m_tuple
  have C__bar_holds := ok__bar_holds (P := P) (w := w) (base := base) F__bar_holds G__bar_holds C__table_holds  
  have C_is_true := ok_is_true (P := P) (w := w) (base := base) F_is_true G_is_true   m_all m_any
  have C__claim_holds := ok__claim_holds (P := P) (w := w) (base := base) F__claim_holds G__claim_holds C_is_true  
  have C__counts_holds := ok__counts_holds (P := P) (w := w) (base := base) F__counts_holds G__counts_holds   m_all
  have C_weighed := ok_weighed (P := P) (w := w) (base := base) F_weighed G_weighed   m_sum
  have C__least_holds := ok__least_holds (P := P) (w := w) (base := base) F__least_holds G__least_holds C_weighed  
  have C__top_holds := ok__top_holds (P := P) (w := w) (base := base) F__top_holds G__top_holds   m_max
  have C__unlike_holds := ok__unlike_holds (P := P) (w := w) (base := base) F__unlike_holds G__unlike_holds   m_len
  have C_holds0 := ok_holds0 (P := P) (w := w) (base := base) F_holds G_holds G__TELLS hne kk0 kk1 kk2 kk3 kk4 kk5 kk6 kk7 G__least_holds G__unlike_holds G__counts_holds G__table_holds G__bar_holds G__top_holds G__ahead_holds G__claim_holds C__least_holds C__unlike_holds C__counts_holds C__table_holds C__bar_holds C__top_holds C__ahead_holds C__claim_holds
  have C__when_holds := ok__when_holds (P := P) (w := w) (base := base) F__when_holds G__when_holds C_holds0 C_is_true  
  have C_holds := ok_holds (P := P) (w := w) (base := base) F_holds G_holds G__TELLS hne kk0 kk1 kk2 kk3 kk4 kk5 kk6 kk7 kk8 G__least_holds G__unlike_holds G__counts_holds G__table_holds G__bar_holds G__top_holds G__ahead_holds G__claim_holds G__when_holds C__least_holds C__unlike_holds C__counts_holds C__table_holds C__bar_holds C__top_holds C__ahead_holds C__claim_holds C__when_holds
  have C__law_mixed := ok__law_mixed (P := P) (w := w) (base := base) F__law_mixed G__law_mixed   m_int
  have C__law_start := ok__law_start (P := P) (w := w) (base := base) F__law_start G__law_start C__law_mixed  m_len m_list
  have C__law_take := ok__law_take (P := P) (w := w) (base := base) F__law_take G__law_take C__law_mixed  m_abs m_int m_len
  have C__law_pick := ok__law_pick (P := P) (w := w) (base := base) F__law_pick G__law_pick C__law_take  m_len
  have C__law_shuffled := ok__law_shuffled (P := P) (w := w) (base := base) F__law_shuffled G__law_shuffled C__law_take  m_len m_list m_range
  have C_values_at := ok_values_at (P := P) (w := w) (base := base) F_values_at G_values_at   m_zip
  have C_saying_of := ok_saying_of (P := P) (w := w) (base := base) F_saying_of G_saying_of   
  have N_keeps_saying := ok_keeps_saying (P := P) (w := w) (base := base) F_keeps_saying G_keeps_saying C_holds C_saying_of C_values_at  
  have C_keeps_saying : Cal P w K mg base "keeps_saying" 14 ["model", "name", "filling"] (sp_keeps_saying K) := ⟨_, _, N_keeps_saying, F_keeps_saying.kp, F_keeps_saying.binds (fun _ _ _ _ _ _ us hl => match us, hl with | [_, _, _], _ => rfl), G_keeps_saying⟩
  have CK_keeps_saying : CalK P w K mg base "keeps_saying" 14 ["model", "name", "filling"] ["model", "name", "filling"] gK (sp_keeps_saying K) := ckOf N_keeps_saying F_keeps_saying G_keeps_saying (by decide) (fun _ _ _ _ _ _ us hl => match us, hl with | [_, _, _], _ => rfl)
  have N_keeps := ok_keeps (P := P) (w := w) (base := base) F_keeps G_keeps C_holds C_values_at  
  have C_keeps : Cal P w K mg base "keeps" 14 ["model", "filling"] (sp_keeps K) := ⟨_, _, N_keeps, F_keeps.kp, F_keeps.binds (fun _ _ _ _ _ _ us hl => match us, hl with | [_, _], _ => rfl), G_keeps⟩
  have CK_keeps : CalK P w K mg base "keeps" 14 ["model", "filling"] ["model", "filling"] gK (sp_keeps K) := ckOf N_keeps F_keeps G_keeps (by decide) (fun _ _ _ _ _ _ us hl => match us, hl with | [_, _], _ => rfl)
  have C__law_is_due := ok__law_is_due (P := P) (w := w) (base := base) F__law_is_due G__law_is_due   
  have C__law_world := ok__law_world (P := P) (w := w) (base := base) F__law_world G__law_world   m_len m_range
  have C__law_true := ok__law_true (P := P) (w := w) (base := base) F__law_true G__law_true   m_len
  have C__law_holds := ok__law_holds (P := P) (w := w) (base := base) F__law_holds G__law_holds C__law_true  m_len m_max m_sum m_tuple
  have C__law_fillings := ok__law_fillings (P := P) (w := w) (base := base) F__law_fillings G__law_fillings   
  have C__law_near := ok__law_near (P := P) (w := w) (base := base) F__law_near G__law_near C__law_pick C__law_take  m_len m_list m_range m_tuple
  have C__law_parted := ok__law_parted (P := P) (w := w) (base := base) F__law_parted G__law_parted C__law_holds C__law_take  m_len
  have C__law_are_held := ok__law_are_held (P := P) (w := w) (base := base) F__law_are_held G__law_are_held C__law_holds C__law_is_due C__law_take C__law_world C_keeps C_keeps_saying CK_keeps CK_keeps_saying m_len m_range m_tuple
  have C__law_by_turns := ok__law_by_turns (P := P) (w := w) (base := base) F__law_by_turns G__law_by_turns C__law_are_held C__law_near  m_len m_range
  have C__law_domain := ok__law_domain (P := P) (w := w) (base := base) F__law_domain G__law_domain C__law_pick C__law_take  m_max m_min m_range m_tuple
  have C__law_names := ok__law_names (P := P) (w := w) (base := base) F__law_names G__law_names C__law_shuffled C__law_take  m_int m_range m_str
  have C__law_sizes := ok__law_sizes (P := P) (w := w) (base := base) F__law_sizes G__law_sizes C__law_take  m_range
  have C__law_few := ok__law_few (P := P) (w := w) (base := base) F__law_few G__law_few C__law_pick C__law_shuffled C__law_take  m_len
  have C__law_has_name := ok__law_has_name (P := P) (w := w) (base := base) F__law_has_name G__law_has_name   m_len
  have C__law_part := ok__law_part (P := P) (w := w) (base := base) F__law_part G__law_part C__law_pick C__law_take  m_list m_max m_min m_range m_tuple
  have C__law_claim := ok__law_claim (P := P) (w := w) (base := base) F__law_claim G__law_claim C__law_few C__law_has_name C__law_part C__law_pick C__law_shuffled C__law_take C__law_true  m_tuple
  have C__law_inner := ok__law_inner (P := P) (w := w) (base := base) F__law_inner G__law_inner C__law_claim C__law_few C__law_pick C__law_shuffled C__law_take  m_len m_min m_range m_sorted m_sum m_tuple
  exact ok_law F_law G_law C__law_by_turns C__law_claim C__law_domain C__law_fillings C__law_inner C__law_names C__law_near C__law_parted C__law_pick C__law_shuffled C__law_sizes C__law_start C__law_take C__law_world  m_len m_list m_range m_sorted m_tuple
end AW
open PySem PySem.W PyProof.Rows
set_option maxHeartbeats 0 in
theorem PySem.Challenge.cw_aswritten_k07_claims_and_whens_held_holds : PySem.Challenge.rw_aswritten_k07_claims_and_whens_held.Holds := by
  w_on; o_law; k_head; (case hw => w_witness2)
  k_fill
  refine L2.walk_of (l := PySem.Challenge.rw_aswritten_k07_claims_and_whens_held) (n := 63) (k := 17) (x := "script") (CX := fun _ => L2.CX0) (sp := fun w => AW.sp_law _) rfl (by decide) rfl ⟨rfl, by decide, by decide⟩ (fun w h Y => PySem.W.kIn_of Y) ?F (fun _ _ a ns hl _ hS => ⟨a, ns, rfl, hS, hl, fun _ => rfl⟩) (fun _ _ _ _ _ h => h)
  case F =>
    intro w mg fa h KX G hmg
    refine' AW.facts7 KX G hmg ?a0 ?l0 ?c0 ?k0 ?a1 ?l1 ?c1 ?k1 ?a2 ?l2 ?c2 ?k2 ?a3 ?l3 ?c3 ?k3 ?a4 ?l4 ?c4 ?k4 ?a5 ?l5 ?c5 ?k5 ?a6 ?l6 ?c6 ?k6 ?a7 ?l7 ?c7 ?k7 ?a8 ?l8 ?c8 ?k8 ?a9 ?l9 ?c9 ?k9 ?a10 ?l10 ?c10 ?k10 ?a11 ?l11 ?c11 ?k11 ?a12 ?l12 ?c12 ?k12 ?a13 ?l13 ?c13 ?k13 ?a14 ?l14 ?c14 ?k14 ?a15 ?l15 ?c15 ?k15 ?a16 ?l16 ?c16 ?k16 ?a17 ?l17 ?c17 ?k17 ?a18 ?l18 ?c18 ?k18 ?a19 ?l19 ?c19 ?k19 ?a20 ?l20 ?c20 ?k20 ?a21 ?l21 ?c21 ?k21 ?a22 ?l22 ?c22 ?k22 ?a23 ?l23 ?c23 ?k23 ?a24 ?l24 ?c24 ?k24 ?a25 ?l25 ?c25 ?k25 ?a26 ?l26 ?c26 ?k26 ?a27 ?l27 ?c27 ?k27 ?a28 ?l28 ?c28 ?k28 ?a29 ?l29 ?c29 ?k29 ?a30 ?l30 ?c30 ?k30 ?a31 ?l31 ?c31 ?k31 ?a32 ?l32 ?c32 ?k32 ?a33 ?l33 ?c33 ?k33 ?a34 ?l34 ?c34 ?k34 ?a35 ?l35 ?c35 ?k35 ?a36 ?l36 ?c36 ?k36 ?a37 ?l37 ?c37 ?k37 ?a38 ?l38 ?c38 ?k38 ?z_abs ?z_all ?z_any ?z_int ?z_len ?z_list ?z_max ?z_min ?z_range ?z_sorted ?z_str ?z_sum ?z_tuple ?z_zip ?aT ?lT ?kT ?t_least ?t_unlike ?t_counts ?t_table ?t_bar ?t_top ?t_ahead ?t_claim ?t_when ?hne
    (case a0 => k_is); (case l0 => k_is); (case c0 => k_is); (case k0 => k_is); (case a1 => k_is); (case l1 => k_is); (case c1 => k_is); (case k1 => k_is); (case a2 => k_is); (case l2 => k_is); (case c2 => k_is); (case k2 => k_is); (case a3 => k_is); (case l3 => k_is); (case c3 => k_is); (case k3 => k_is); (case a4 => k_is); (case l4 => k_is); (case c4 => k_is); (case k4 => k_is); (case a5 => k_is); (case l5 => k_is); (case c5 => k_is); (case k5 => k_is); (case a6 => k_is); (case l6 => k_is); (case c6 => k_is); (case k6 => k_is); (case a7 => k_is); (case l7 => k_is); (case c7 => k_is); (case k7 => k_is); (case a8 => k_is); (case l8 => k_is); (case c8 => k_is); (case k8 => k_is); (case a9 => k_is); (case l9 => k_is); (case c9 => k_is); (case k9 => k_is); (case a10 => k_is); (case l10 => k_is); (case c10 => k_is); (case k10 => k_is); (case a11 => k_is); (case l11 => k_is); (case c11 => k_is); (case k11 => k_is); (case a12 => k_is); (case l12 => k_is); (case c12 => k_is); (case k12 => k_is); (case a13 => k_is); (case l13 => k_is); (case c13 => k_is); (case k13 => k_is); (case a14 => k_is); (case l14 => k_is); (case c14 => k_is); (case k14 => k_is); (case a15 => k_is); (case l15 => k_is); (case c15 => k_is); (case k15 => k_is); (case a16 => k_is); (case l16 => k_is); (case c16 => k_is); (case k16 => k_is); (case a17 => k_is); (case l17 => k_is); (case c17 => k_is); (case k17 => k_is); (case a18 => k_is); (case l18 => k_is); (case c18 => k_is); (case k18 => k_is); (case a19 => k_is); (case l19 => k_is); (case c19 => k_is); (case k19 => k_is); (case a20 => k_is); (case l20 => k_is); (case c20 => k_is); (case k20 => k_is); (case a21 => k_is); (case l21 => k_is); (case c21 => k_is); (case k21 => k_is); (case a22 => k_is); (case l22 => k_is); (case c22 => k_is); (case k22 => k_is); (case a23 => k_is); (case l23 => k_is); (case c23 => k_is); (case k23 => k_is); (case a24 => k_is); (case l24 => k_is); (case c24 => k_is); (case k24 => k_is); (case a25 => k_is); (case l25 => k_is); (case c25 => k_is); (case k25 => k_is); (case a26 => k_is); (case l26 => k_is); (case c26 => k_is); (case k26 => k_is); (case a27 => k_is); (case l27 => k_is); (case c27 => k_is); (case k27 => k_is); (case a28 => k_is); (case l28 => k_is); (case c28 => k_is); (case k28 => k_is); (case a29 => k_is); (case l29 => k_is); (case c29 => k_is); (case k29 => k_is); (case a30 => k_is); (case l30 => k_is); (case c30 => k_is); (case k30 => k_is); (case a31 => k_is); (case l31 => k_is); (case c31 => k_is); (case k31 => k_is); (case a32 => k_is); (case l32 => k_is); (case c32 => k_is); (case k32 => k_is); (case a33 => k_is); (case l33 => k_is); (case c33 => k_is); (case k33 => k_is); (case a34 => k_is); (case l34 => k_is); (case c34 => k_is); (case k34 => k_is); (case a35 => k_is); (case l35 => k_is); (case c35 => k_is); (case k35 => k_is); (case a36 => k_is); (case l36 => k_is); (case c36 => k_is); (case k36 => k_is); (case a37 => k_is); (case l37 => k_is); (case c37 => k_is); (case k37 => k_is); (case a38 => k_is); (case l38 => k_is); (case c38 => k_is); (case k38 => k_is); (case z_abs => k_is); (case z_all => k_is); (case z_any => k_is); (case z_int => k_is); (case z_len => k_is); (case z_list => k_is); (case z_max => k_is); (case z_min => k_is); (case z_range => k_is); (case z_sorted => k_is); (case z_str => k_is); (case z_sum => k_is); (case z_tuple => k_is); (case z_zip => k_is); (case aT => k_is); (case lT => k_is)
    (case kT => repeat' (first | exact trivial | refine ⟨⟨_, _, rfl, rfl⟩, ?_⟩))
    (case t_least => k_is); (case t_unlike => k_is); (case t_counts => k_is); (case t_table => k_is); (case t_bar => k_is); (case t_top => k_is); (case t_ahead => k_is); (case t_claim => k_is); (case t_when => k_is); (case hne => decide)
