import PyProof.Rows.All
import Wide.All
import OpenK.AllK
import Wide.FinOn
import HandS.ForMost
import HandS.DictComp
import HandS.Zip
import HandS.TupAny
import HandS.Style
import HandS.Deep
import HandS.CallLocal
import HandS.More
import HandS.Conv
import HandS.SortInts
import HandS.Walk
import KE.GoesMore
import HandS.Text
import HandS.Defaults
import HandS.Ends
import PySem.Challenge.RW_aswritten_k06_works_and_rounds_held
set_option Elab.async false
set_option linter.all false
set_option maxRecDepth 100000
set_option maxHeartbeats 4000000
/-! own words over the hand layer: names of readings, calls by a bundle, the lists' in-place store, text times number, keywords alone. -/
namespace AW
open PySem PySem.Spec PyProof.Rows L2

abbrev rAddI : R2 := rI0 fun i j => .int (i + j)
abbrev rSubI : R2 := rI0 fun i j => .int (i - j)
abbrev rMulI : R2 := rI CMul fun i j => .int (i * j)
abbrev rDivI : R2 := rI CDiv fun i j => .int (i / j)
abbrev rModI : R2 := rI (fun _ j => 0 < j) fun i j => .int (i % j)
abbrev rPowI : R2 := rI CPow fun i j => .int (i ^ j.toNat)
abbrev rLtI : R2 := rI0 fun i j => .bl (decide (i < j))
abbrev rLeI : R2 := rI0 fun i j => .bl (decide (i ≤ j))
abbrev rGtI : R2 := rI0 fun i j => .bl (decide (j < i))
abbrev rGeI : R2 := rI0 fun i j => .bl (decide (j ≤ i))
abbrev rNeg : V → Hp → VK → Prop := rU fun i => .int (-i)
def rAddS : R2 := fun x y H Q => ∃ i j, x = .str i ∧ y = .str j ∧ i.length + j.length ≤ sizeLine ∧ Q (.str (i ++ j)) H
theorem op_addS {X : Cx} : OpR X (binaryOp .Add) rAddS := op_add_str
def rRepS : R2 := fun x y H Q => ∃ z n, x = .str z ∧ y = .int n ∧ MulOk z n ∧ Q (.str (Txt.mul z n)) H
theorem op_repS {X : Cx} : OpR X (binaryOp .Mult) rRepS := by
  intro pins s σ H x y v u Q I rx ry h
  obtain ⟨z, n, rfl, rfl, ok, q⟩ := h
  obtain ⟨t, rfl⟩ := rx
  obtain ⟨t', rfl⟩ := ry
  exact SB.mul ok fun t2 k => ⟨.str _, H, I.tok _, ⟨_, rfl⟩, q⟩
def rLen1 (K : PySem.W.Frag) : List V → Hp → VK → Prop := fun xs H Q => ∃ x n, xs = [x] ∧ LenV K x H n ∧ Q (.int n) H
theorem call_len1 {X : Cx} : CallR X (.builtin "len") (rLen1 X.K) := call_len
def rAbs : List V → Hp → VK → Prop := fun xs H Q => ∃ i, xs = [.int i] ∧ Q (.int (if i < 0 then -i else i)) H
theorem call_abs1 {X : Cx} : CallR X (.builtin "abs") rAbs := call_abs
def rInt1 : List V → Hp → VK → Prop := fun xs H Q => (∃ i, xs = [.int i] ∧ Q (.int i) H) ∨ ∃ k, xs = [.bl k] ∧ Q (.int (if k then 1 else 0)) H
def rStr1 : List V → Hp → VK → Prop := fun xs H Q => ∃ i, xs = [.int i] ∧ i.natAbs.log2 < 1920 ∧ Q (.str (toString i)) H
def rMax2 : List V → Hp → VK → Prop := fun xs H Q => ∃ i j, xs = [.int i, .int j] ∧ Q (.int (if j > i then j else i)) H
def rMin2 : List V → Hp → VK → Prop := fun xs H Q => ∃ i j, xs = [.int i, .int j] ∧ Q (.int (if j < i then j else i)) H
def rListOf (K : PySem.W.Frag) : List V → Hp → VK → Prop := fun xs H Q => ∃ p ys, xs = [.ref p] ∧ (SqL K H p ys ∨ SqT K H p ys) ∧ ∀ l, H l = none → Q (.ref l) (upd H l (.lst ys))
theorem call_listOf {X : Cx} : CallR X (.type "list") (rListOf X.K) := call_list_of
def rSortDI : List V → Hp → VK → Prop := fun xs H Q => ∃ (a : Addr) (kvs : List (Key × V)) (ks : List Int), xs = [.ref a] ∧ Rd H a (.dK kvs) ∧ kvs.map (·.1) = ks.map Sum.inl ∧ ks.length < 64 ∧
    ∀ (ys : List Int) (p : Addr), ys.Perm ks → ys.Pairwise (· ≤ ·) → H p = none → Q (.ref p) (upd H p (.lst (ys.map V.int)))
def rIxA (K : PySem.W.Frag) : R2 := fun x y H Q => rIxL K x y H Q ∨ rIxT K x y H Q
theorem ix_any {X : Cx} : IxR X (rIxA X.K) := ix_list.or ix_tup
def rIsN : R2 := fun x y H Q => y = .non ∧ Q (.bl (decide (x = .non))) H
theorem op_isN1 {X : Cx} : OpR X (compareOp .Is) rIsN := op_isN
def rJoin (K : PySem.W.Frag) : V → List V → Hp → VK → Prop := fun x xs H Q => ∃ a p, ∃ ys : List Str, x = .str a ∧ xs = [.ref p] ∧ (SqL K H p (ys.map V.str) ∨ SqT K H p (ys.map V.str)) ∧
  (ys.map (·.length)).sum + ys.length * a.length ≤ 16777216 ∧ Q (.str (Txt.join a ys)) H
theorem units64 {A : Around} {k : Nat} (hr : Room k A) : A.units + 64 < cLine := hr.units
theorem units65 {A : Around} {k : Nat} (hr : Room k A) : A.units + 65 < cLine := by have := hr.un; omega
section
variable {X : Cx}
theorem pe_joinK {o e : Expr} {to te : TE} {apos pos : Pos} (ho : PE X o to) (he : PE X e te) (hs : starEach [e] X.env = [(false, eval e X.env)] := by rfl) (hbase : attributeBase o "join" X.env (eval o X.env) = eval o X.env := by rfl) (hline : (apos.endLine == pos.line) = true := by rfl) :
    PE X (.Call (.Attribute o "join" apos) [e] [] pos) (tM1 (rJoin X.K) to te) := pe_join ho he hs hbase hline

/-! ### a def by name, with all that a call asks of it -/
structure Cal (P : Program) (w : World) (K : PySem.W.Frag) (mg : Str → Option Value) (base : Heap) (x : Str) (k : Nat) (ps : List Str) (sp : Sp) : Prop where
  ex : ∃ (f : Addr) (fd : FuncData), FnOk P w K mg base CX0 k f fd ps sp ∧ PySem.W.keepIn K (.ref f) = true ∧ Binds K fd ps [] ∧ mg x = some (.ref f)
theorem pe_cal {x : Str} {k : Nat} {ps : List Str} {sp : Sp} {e : Expr} {es : List Expr} {t : TA} {p pos : Pos} (C : Cal X.prog X.w X.K X.mg X.base x k ps sp) (hr : Room k X.A) (hg : Gl X x) (ha : PA X (e :: es) t)
    (hdb : (x == ("__debug__" : Str)) = false := by decide) (he : starEach (e :: es) X.env = (false, eval e X.env) :: starEach es X.env := by rfl) (hpl : (backTo pos (starEach es X.env)).any (·.1) = false := by rfl) :
    PE X (.Call (.Name x p) (e :: es) [] pos) (tCall sp [] E0 t) := by
  refine ⟨fun pins s σ H Q I h => ?_⟩
  obtain ⟨f, fd, F, hk, hb, hm⟩ := C.ex
  exact (pe_call F hr hg hm hk hb .nil pass0 ha hdb he hpl).run pins s σ H Q I h
/-- how keywords alone bind -/
structure CalK (P : Program) (w : World) (K : PySem.W.Frag) (mg : Str → Option Value) (base : Heap) (x : Str) (k : Nat) (ps ks : List Str) (gV : List V → List V → List V) (sp : Sp) : Prop where
  ex : ∃ (f : Addr) (fd : FuncData) (g : List Value → List Value → List Value), FnOk P w K mg base CX0 k f fd ps sp ∧ PySem.W.keepIn K (.ref f) = true ∧ KBinds K fd ps ks g gV ∧ mg x = some (.ref f)
theorem pe_calK {x : Str} {k : Nat} {ps ks : List Str} {gV : List V → List V → List V} {sp : Sp} {kws : List Keyword} {tk : TA} {p pos : Pos} (C : CalK X.prog X.w X.K X.mg X.base x k ps ks gV sp) (hr : Room k X.A) (hg : Gl X x) (hkw : PK X kws tk)
    (hall : (backToKw pos (keywordEach kws X.env)).all (·.1.isSome) = true := by rfl) (hks : (backToKw pos (keywordEach kws X.env)).filterMap (·.1) = ks := by rfl)
    (hdb : (x == ("__debug__" : Str)) = false := by decide)
    (hpl : ((backTo pos (starEach [] X.env)).any (·.1) || (backToKw pos (keywordEach kws X.env)).any (·.1.isNone)) = false := by rfl) :
    PE X (.Call (.Name x p) [] kws pos) (tCallK sp gV E0 tNil tk) := by
  refine ⟨fun pins s σ H Q I h => ?_⟩
  obtain ⟨f, fd, g, F, hk, hb, hm⟩ := C.ex
  refine wpAny_Call_Name_kw (ld_glob I hg hm ?_ hdb)
  refine PySem.W.callWith_KW0 (h₀ := X.base) I.ok.mod.kin hk hall (thn (hkw.run pos pins s σ H _ I h) fun ws s2 ⟨zs, H2, I2, rz, q2⟩ => ⟨I2.kIn, ?_⟩) hpl
  rw [hks]
  exact run_fnk (us := []) F hr hb pass0 I2 .nil rz q2
end
/-- a list's item, by values -/
theorem get_list {X : Cx} : PGet X (rIxL X.K) := by
  intro pins s σ H o i ov iv Q I ro ri h
  obtain ⟨p, xs, j, z, rfl, rfl, hq, he, q⟩ := h
  cases ro
  obtain ⟨t, rfl⟩ := ri
  obtain ⟨its, r, pl, hz⟩ := I.list hq
  obtain ⟨m, h1, h2, h3, h4, h5⟩ := atI_get he
  obtain ⟨w, ew, rw'⟩ := r.get h2
  have hl := r.length
  have hn := line63
  have fin : EP X pins σ Q w s := ⟨z, H, I, rw', q⟩
  by_cases h0 : 0 ≤ j
  · have hj : j.toNat = m := by
      rw [seqIndex_of h0 h5] at h1
      exact Option.some.inj h1
    exact wpAny_getItem_list pl.isList h0 (by omega) (by rw [hj]; simpa using ew) fin
  · have hj : (j + (its.toArray.size : Int)).toNat = m := by
      rw [seqIndex_neg (by omega) h4] at h1
      rw [List.size_toArray, ← hl]
      exact Option.some.inj h1
    exact wpAny_getItem_list_neg pl.isList (by omega) (by rw [List.size_toArray] <;> omega) (by omega) (by rw [hj]; simpa using ew) fin
end AW
/-! heaps that go on, the law's state, readings of one def at a time -/
namespace AW
open PySem PySem.Spec PyProof.Rows L2

/-- what goes on: all but the objects of S; tuples and locked things always -/
structure Adv (S : List Addr) (H H' : Hp) : Prop where
  keep : ∀ a o, a ∉ S → H a = some o → H' a = some o
  tup : ∀ a xs, H a = some (.tup xs) → H' a = some (.tup xs)
theorem Adv.refl (S : List Addr) (H : Hp) : Adv S H H := ⟨fun _ _ _ h => h, fun _ _ h => h⟩
theorem Adv.trans {S : List Addr} {H H1 H2 : Hp} (a : Adv S H H1) (b : Adv S H1 H2) : Adv S H H2 := ⟨fun c o n h => b.keep c o n (a.keep c o n h), fun c xs h => b.tup c xs (a.tup c xs h)⟩
theorem Adv.mono {S S' : List Addr} {H H' : Hp} (a : Adv S H H') (h : ∀ b ∈ S, b ∈ S') : Adv S' H H' := ⟨fun c o n q => a.keep c o (fun m => n (h c m)) q, a.tup⟩
theorem Adv.any {S : List Addr} {H H' : Hp} (a : Adv [] H H') : Adv S H H' := a.mono fun _ h => nomatch h
theorem Adv.new {H : Hp} {p : Addr} {o : HO} (h : H p = none) : Adv [] H (upd H p o) :=
  ⟨fun a u _ e => by rw [upd_ne (ne_of_none e h)]; exact e, fun a xs e => by rw [upd_ne (ne_of_none e h)]; exact e⟩
/-- an object that is no tuple is changed -/
theorem Adv.set {H : Hp} {f : Addr} {o u : HO} (e : H f = some u) (nt : ∀ xs, u ≠ .tup xs) : Adv [f] H (upd H f o) :=
  ⟨fun a v n q => by rw [upd_ne (fun z => n (by rw [z]; exact List.mem_singleton.mpr rfl))]; exact q, fun a xs q => by rw [upd_ne (ne_of q e (nt xs).symm)]; exact q⟩
theorem Adv.lst {H : Hp} {f : Addr} {o : HO} {ys : List V} (e : H f = some (.lst ys)) : Adv [f] H (upd H f o) := Adv.set e (fun _ z => by cases z)
theorem Adv.dct {H : Hp} {f : Addr} {o : HO} {ys : List (Key × V)} (e : H f = some (.dK ys)) : Adv [f] H (upd H f o) := Adv.set e (fun _ z => by cases z)
/-- what H does not know yet need not be named -/
theorem Adv.drop {S : List Addr} {f : Addr} {H H' : Hp} (a : Adv (f :: S) H H') (h : H f = none) : Adv S H H' :=
  ⟨fun b o n e => a.keep b o (fun m => by
    rcases List.mem_cons.mp m with z | z
    · rw [z] at e; rw [h] at e; cases e
    · exact n z) e, a.tup⟩
/-- f is new, the rest goes on, f is changed -/
theorem Adv.mut {S : List Addr} {f : Addr} {H H' : Hp} {o u : HO} (a : Adv S H H') (h : H f = none) (e : H' f = some u) (nt : ∀ xs, u ≠ .tup xs) : Adv S H (upd H' f o) :=
  ⟨fun b v n q => by rw [upd_ne (ne_of_none q h)]; exact a.keep b v n q, fun b xs q => by rw [upd_ne (ne_of_none q h)]; exact a.tup b xs q⟩
theorem Adv.free {S : List Addr} {H H' : Hp} {p : Addr} (a : Adv S H H') (hS : p ∉ S) (h : H' p = none) : H p = none := by
  cases q : H p with
  | none => rfl
  | some o =>
    rw [a.keep p o hS q] at h
    cases h
section
variable {K : PySem.W.Frag} {S : List Addr} {H H' : Hp} {a : Addr} {xs : List V}
theorem Adv.sqt (e : Adv S H H') (hf : ∀ o u, H a = some (.frz o u) → a ∉ S) (h : SqT K H a xs) : SqT K H' a xs := by
  rcases h with (h | ⟨o, h⟩) | h
  · exact .inl (.inl (e.tup _ _ h))
  · exact .inl (.inr ⟨o, e.keep _ _ (hf _ _ h) h⟩)
  · exact .inr h
theorem Adv.sql (e : Adv S H H') (hn : a ∉ S) (h : SqL K H a xs) : SqL K H' a xs := by
  rcases h with (h | ⟨o, h⟩) | h
  · exact .inl (.inl (e.keep _ _ hn h))
  · exact .inl (.inr ⟨o, e.keep _ _ hn h⟩)
  · exact .inr h
end
theorem w_new {H : Hp} {o : HO} {Q : V → Hp → Prop} (h : ∀ p H', H p = none → Adv [] H H' → H' p = some o → Q (.ref p) H') : ∀ p, H p = none → Q (.ref p) (upd H p o) := fun p hp => h p _ hp (Adv.new hp) upd_same

/-! ### the law's state at st: six places, the fifth the cells at cs -/
def StOk (st cs : Addr) (H : Hp) : Prop := ∃ (s0 s1 s2 s3 s5 : Int) (ns : List Int),
  H st = some (.lst [.int s0, .int s1, .int s2, .int s3, .ref cs, .int s5]) ∧ 0 ≤ s1 ∧ cs ≠ st ∧ H cs = some (.lst (ns.map V.int)) ∧ ns.length ≤ 63
/-- a new object is neither -/
theorem StOk.ne {st cs p : Addr} {H : Hp} (h : StOk st cs H) (hp : H p = none) : p ≠ st ∧ p ≠ cs := by
  obtain ⟨_, _, _, _, _, _, h1, _, _, h2, _⟩ := h
  exact ⟨(ne_of_none h1 hp).symm, (ne_of_none h2 hp).symm⟩
theorem StOk.keep {st cs : Addr} {H H' : Hp} {S : List Addr} (h : StOk st cs H) (e : Adv S H H') (h1 : st ∉ S) (h2 : cs ∉ S) : StOk st cs H' := by
  obtain ⟨s0, s1, s2, s3, s5, ns, a, b, c, d, l⟩ := h
  exact ⟨s0, s1, s2, s3, s5, ns, e.keep _ _ h1 a, b, c, e.keep _ _ h2 d, l⟩
/-- the run goes on: the state alone is changed -/
structure Go (st cs : Addr) (H H' : Hp) : Prop where
  adv : Adv [st] H H'
  ok : StOk st cs H'
theorem Go.refl {st cs : Addr} {H : Hp} (h : StOk st cs H) : Go st cs H H := ⟨.refl _ _, h⟩
theorem Go.trans {st cs : Addr} {H H1 H2 : Hp} (a : Go st cs H H1) (b : Go st cs H1 H2) : Go st cs H H2 := ⟨a.adv.trans b.adv, b.ok⟩
theorem Go.of {st cs : Addr} {H H' : Hp} (h : StOk st cs H) (e : Adv [] H H') : Go st cs H H' := ⟨e.any, h.keep e (fun z => nomatch z) fun z => nomatch z⟩
theorem Go.new {st cs : Addr} {H H' : Hp} (a : Go st cs H H') {H2 : Hp} (e : Adv [] H' H2) : Go st cs H H2 := a.trans (.of a.ok e)
theorem Go.mut {st cs f : Addr} {H H' : Hp} {o u : HO} (a : Go st cs H H') (h : H f = none) (e : H' f = some u) (nt : ∀ xs, u ≠ .tup xs) (n1 : f ≠ st) (n2 : f ≠ cs) : Go st cs H (upd H' f o) :=
  ⟨a.adv.mut h e nt, a.ok.keep (Adv.set e nt) (fun z => n1 (List.mem_singleton.mp z).symm) fun z => n2 (List.mem_singleton.mp z).symm⟩
theorem Go.mutL {st cs f : Addr} {H H' : Hp} {o : HO} {xs : List V} (a : Go st cs H H') (hs : StOk st cs H) (h : H f = none) (e : H' f = some (.lst xs)) : Go st cs H (upd H' f o) :=
  a.mut h e (fun _ z => by cases z) (hs.ne h).1 (hs.ne h).2
theorem Go.mutD {st cs f : Addr} {H H' : Hp} {o : HO} {xs : List (Key × V)} (a : Go st cs H H') (hs : StOk st cs H) (h : H f = none) (e : H' f = some (.dK xs)) : Go st cs H (upd H' f o) :=
  a.mut h e (fun _ z => by cases z) (hs.ne h).1 (hs.ne h).2
theorem Go.keep {st cs a : Addr} {H H' : Hp} {o : HO} (g : Go st cs H H') (n : a ≠ st) (h : H a = some o) : H' a = some o := g.adv.keep a o (fun z => n (List.mem_singleton.mp z)) h
theorem Go.sql {st cs a : Addr} {K : PySem.W.Frag} {H H' : Hp} {xs : List V} (g : Go st cs H H') (n : a ≠ st) (h : SqL K H a xs) : SqL K H' a xs := g.adv.sql (fun z => n (List.mem_singleton.mp z)) h
theorem Go.free {st cs p : Addr} {H H' : Hp} (g : Go st cs H H') (hs : StOk st cs H) (h : H' p = none) : H p = none := g.adv.free (fun z => (g.ok.ne h).1 (List.mem_singleton.mp z)) h
/-- what stands at st is a list: a tuple stands elsewhere -/
theorem StOk.notT {st cs a : Addr} {H : Hp} {xs : List V} (h : StOk st cs H) (e : H a = some (.tup xs)) : a ≠ st := by
  obtain ⟨_, _, _, _, _, _, h1, _⟩ := h
  exact ne_of e h1 (fun z => by cases z)
end AW
/-! one step of a reading at a time -/
namespace AW
open PySem PySem.Spec PyProof.Rows L2
section
variable {σ : L2.St} {H : Hp} {Q : VK} {ta tb te : TE} {t u : TT} {D : Ends} {t1 t2 : TS} {K : PySem.W.Frag}
theorem w_var {i : Nat} {v : V} (h : σ[i]? = some (some v)) (q : Q v H) : tVar i σ H Q := ⟨v, h, q⟩
theorem w_c {v : V} (q : Q v H) : tC v σ H Q := q
theorem w_op {r : R2} (h : ta σ H fun x H1 => tb σ H1 fun y H2 => r x y H2 Q) : tOp r ta tb σ H Q := h
theorem w_un {r : V → Hp → VK → Prop} (h : ta σ H fun x H1 => r x H1 Q) : tUn r ta σ H Q := h
theorem w_I0 {g : Int → Int → V} {i j : Int} (q : Q (g i j) H) : rI0 g (.int i) (.int j) H Q := ⟨i, j, rfl, rfl, q⟩
theorem w_I {C : Int → Int → Prop} {g : Int → Int → V} {i j : Int} (c : C i j) (q : Q (g i j) H) : rI C g (.int i) (.int j) H Q := ⟨i, j, rfl, rfl, c, q⟩
theorem w_U {g : Int → V} {i : Int} (q : Q (g i) H) : rU g (.int i) H Q := ⟨i, rfl, q⟩
theorem w_cb {r : List V → Hp → VK → Prop} {a : TA} (h : a σ H fun vs H1 => r vs H1 Q) : tCB r a σ H Q := h
theorem w_nil {Q : List V → Hp → Prop} (q : Q [] H) : tNil σ H Q := q
theorem w_cons {Q : List V → Hp → Prop} {a : TA} (h : ta σ H fun x H1 => a σ H1 fun xs H2 => Q (x :: xs) H2) : tCons ta a σ H Q := h
theorem w_call {sp : Sp} {E : XK} {a : TA} (h : a σ H fun vs H1 => sp vs H1 Q E) : tCall sp [] E a σ H Q := by
  show a σ H fun vs H1 => sp (vs ++ []) H1 Q E
  have e : (fun (vs : List V) (H1 : Hp) => sp (vs ++ []) H1 Q E) = fun vs H1 => sp vs H1 Q E := by
    funext vs H1
    rw [List.append_nil]
  rw [e]
  exact h
theorem w_test {Q : Bool → Hp → Prop} (h : te σ H fun x H1 => ∃ k, x = .bl k ∧ Q k H1) : tTest te σ H Q := h
theorem w_B {Q : Bool → Hp → Prop} (h : te σ H fun x H1 => ∃ k, x = .bl k ∧ Q k H1) : tB te σ H Q := h
theorem w_bl {k : Bool} {P : Bool → Prop} (q : P k) : ∃ k', V.bl k = .bl k' ∧ P k' := ⟨k, rfl, q⟩
theorem w_yes {Q : Bool → Hp → Prop} (q : Q true H) : tYes σ H Q := q
theorem w_not {Q : Bool → Hp → Prop} (h : t σ H fun c H1 => Q (!c) H1) : tNot t σ H Q := h
theorem w_and {Q : Bool → Hp → Prop} (h : t σ H fun c H1 => if c = true then u σ H1 Q else Q false H1) : tAnd t u σ H Q := h
theorem w_or {Q : Bool → Hp → Prop} (h : t σ H fun c H1 => if c = true then Q true H1 else u σ H1 Q) : tOr t u σ H Q := h
theorem w_andV (h : ta σ H fun x H1 => ∃ c, x = .bl c ∧ if c = true then tb σ H1 Q else Q (.bl false) H1) : tAndV ta tb σ H Q := h
theorem w_orV (h : ta σ H fun x H1 => ∃ c, x = .bl c ∧ if c = true then Q (.bl true) H1 else tb σ H1 Q) : tOrV ta tb σ H Q := h
theorem w_notV (h : ta σ H fun x H1 => ∃ c, x = .bl c ∧ Q (.bl (!c)) H1) : tNotV ta σ H Q := h
theorem w_if (h : t σ H fun c H1 => if c = true then ta σ H1 Q else tb σ H1 Q) : tIf t ta tb σ H Q := h
def kTupD (xs : List V) (H : Hp) (Q : VK) : Prop := xs.length ≤ sizeLine ∧ ∀ p, H p = none → Q (.ref p) (upd H p (.tup xs))
theorem w_tup {a : TA} (h : a σ H fun xs H1 => kTupD xs H1 Q) : tTup a σ H Q := h
def kLstD (xs : List V) (H : Hp) (Q : VK) : Prop := xs.length ≤ sizeLine ∧ ∀ p, H p = none → Q (.ref p) (upd H p (.lst xs))
theorem w_lst {a : TA} (h : a σ H fun xs H1 => kLstD xs H1 Q) : tLst a σ H Q := h
theorem w_int1 {i : Int} (q : Q (.int i) H) : rInt1 [.int i] H Q := .inl ⟨i, rfl, q⟩
theorem w_int1b {k : Bool} (q : Q (.int (if k then 1 else 0)) H) : rInt1 [.bl k] H Q := .inr ⟨k, rfl, q⟩
theorem w_abs {i : Int} (q : Q (.int (if i < 0 then -i else i)) H) : rAbs [.int i] H Q := ⟨i, rfl, q⟩
theorem w_max2 {i j : Int} (q : Q (.int (if j > i then j else i)) H) : rMax2 [.int i, .int j] H Q := ⟨i, j, rfl, q⟩
theorem w_min2 {i j : Int} (q : Q (.int (if j < i then j else i)) H) : rMin2 [.int i, .int j] H Q := ⟨i, j, rfl, q⟩
theorem w_eq {x y : V} (h : scal x y = true) (q : Q (.bl (decide (x = y))) H) : rEq x y H Q := ⟨h, q⟩
theorem w_ne {x y : V} (h : scal x y = true) (q : Q (.bl (!decide (x = y))) H) : rNe x y H Q := ⟨h, q⟩
theorem w_isN {x : V} (q : Q (.bl (decide (x = .non))) H) : rIsN x .non H Q := ⟨rfl, q⟩
theorem w_isB {a b : Bool} (q : Q (.bl (decide (a = b))) H) : rIsB (.bl a) (.bl b) H Q := ⟨a, b, rfl, rfl, q⟩
theorem w_chain {r r' : R2} {tc : TE} (h : ta σ H fun x H1 => tb σ H1 fun y H2 => r x y H2 fun z H3 => ∃ k, z = .bl k ∧ (if k = true then tc σ H3 fun w' H4 => r' y w' H4 Q else Q (.bl false) H3)) : tChain r r' ta tb tc σ H Q := h
/-- a list's item at a place -/
theorem w_ixL {p : Addr} {xs : List V} {i : Int} {v : V} (h : SqL K H p xs) (e : atI xs i = some v) (q : Q v H) : rIxL K (.ref p) (.int i) H Q := ⟨p, xs, i, v, rfl, rfl, h, e, q⟩
theorem w_ixT {p : Addr} {xs : List V} {i : Int} {v : V} (h : SqT K H p xs) (e : atI xs i = some v) (q : Q v H) : rIxT K (.ref p) (.int i) H Q := ⟨p, xs, i, v, rfl, rfl, h, e, q⟩
theorem w_lenL {p : Addr} {xs : List V} (h : SqL K H p xs) (q : Q (.int (xs.length : Nat)) H) : rLen1 K [.ref p] H Q := ⟨.ref p, xs.length, rfl, .inl ⟨xs, h, rfl⟩, q⟩
theorem w_lenT {p : Addr} {xs : List V} (h : SqT K H p xs) (q : Q (.int (xs.length : Nat)) H) : rLen1 K [.ref p] H Q := ⟨.ref p, xs.length, rfl, .inr ⟨xs, h, rfl⟩, q⟩
/-! statements -/
theorem w_seq (h : t1 { D with nx := t2 D } σ H) : tSeq t1 t2 D σ H := h
theorem w_next (q : D.nx σ H) : tNext D σ H := q
theorem w_ret (h : te σ H D.rt) : tRet te D σ H := h
theorem w_drop (h : te σ H fun _ H1 => D.nx σ H1) : tDrop te D σ H := h
theorem w_asg {g : TG} (h : te σ H fun x H1 => g x σ H1 D.nx) : tAsg te g D σ H := h
theorem w_gname {i : Nat} {v : V} {Q : L2.St → Hp → Prop} (q : Q (σ.set i (some v)) H) : gName i v σ H Q := q
theorem w_ifS (h : t σ H fun b H1 => if b = true then t1 D σ H1 else t2 D σ H1) : tIfS t t1 t2 D σ H := h
theorem w_gsub {s : TSet} {v : V} {Q : L2.St → Hp → Prop} (h : ta σ H fun o H1 => tb σ H1 fun i H2 => s o i v H2 fun H3 => Q σ H3) : gSub ta tb s v σ H Q := h
theorem w_setL {p : Addr} {xs : List V} {k : Int} {j : Nat} {v : V} {Q : Hp → Prop} (h : H p = some (.lst xs)) (e : ixN xs.length k = some j) (q : Q (upd H p (.lst (xs.set j v)))) : rSetL (.ref p) (.int k) v H Q := ⟨p, xs, k, j, rfl, rfl, h, e, q⟩
theorem w_augS {to ti : TE} {tget : V → V → Hp → VK → Prop} {tip : TIp} {tset : TSet} (h : to σ H fun o H1 => ti σ H1 fun i H2 => tget o i H2 fun x H3 => te σ H3 fun y H4 => tip x y H4 fun z H5 => tset o i z H5 fun H6 => D.nx σ H6) : tAugS to ti te tget tip tset D σ H := h
theorem w_ipI {f : Int → Int → Int} {i j : Int} (q : Q (.int (f i j)) H) : ipI f (.int i) (.int j) H Q := ⟨i, j, rfl, rfl, q⟩
theorem w_ite {c A B : Prop} [Decidable c] (h1 : c → A) (h2 : ¬c → B) : if c then A else B := ite2 h1 h2
theorem w_iteB {c : Prop} [Decidable c] {A B : Prop} (h1 : c → A) (h2 : ¬c → B) : if (decide c) = true then A else B := ite2 (fun h => h1 (of_decide_eq_true h)) fun h => h2 fun z => h (decide_eq_true z)
theorem w_iteNB {c : Prop} [Decidable c] {A B : Prop} (h1 : ¬c → A) (h2 : c → B) : if (!decide c) = true then A else B := ite2 (fun h => h1 fun z => by rw [decide_eq_true z] at h; cases h) fun h => h2 (Classical.byContradiction fun z => h (by rw [decide_eq_false z]; rfl))
/-! slices, lists joined, append -/
theorem w_sl {r : V → Option Int → Option Int → Hp → VK → Prop} {tl th : TO} (h : te σ H fun x H1 => tl σ H1 fun l H2 => th σ H2 fun u H3 => r x l u H3 Q) : tSl r te tl th σ H Q := h
theorem w_part {Q : Option Int → Hp → Prop} (h : te σ H fun x H1 => ∃ i, x = .int i ∧ Q (some i) H1) : tPart te σ H Q := h
theorem w_noPart {Q : Option Int → Hp → Prop} (q : Q none H) : tNoPart σ H Q := q
theorem w_in {i : Int} {P : Int → Prop} (q : P i) : ∃ k, V.int i = .int k ∧ P k := ⟨i, rfl, q⟩
theorem w_slL {p : Addr} {xs : List V} {lo hi : Option Int} (h : SqL K H p xs) (q : ∀ r H', H r = none → Adv [] H H' → H' r = some (.lst (cutV xs lo hi)) → Q (.ref r) H') : rSlL K (.ref p) lo hi H Q := ⟨p, xs, rfl, h, w_new q⟩
theorem w_cat {a b : Addr} {xs ys : List V} (h1 : H a = some (.lst xs)) (h2 : H b = some (.lst ys)) (hz : xs.length + ys.length ≤ 100000) (q : ∀ r H', H r = none → Adv [] H H' → H' r = some (.lst (xs ++ ys)) → Q (.ref r) H') : rCat (.ref a) (.ref b) H Q :=
  ⟨a, b, xs, ys, rfl, rfl, h1, h2, Nat.le_trans hz (by decide), w_new q⟩
theorem w_listOf {p : Addr} {xs : List V} (h : SqL K H p xs ∨ SqT K H p xs) (q : ∀ r H', H r = none → Adv [] H H' → H' r = some (.lst xs) → Q (.ref r) H') : rListOf K [.ref p] H Q := ⟨p, xs, rfl, h, w_new q⟩
theorem w_app {i : Nat} {l : Addr} {xs0 : List V} {a : TA} (hσ : σ[i]? = some (some (.ref l))) (h0 : H l = some (.lst xs0)) (h : a σ H fun vs H2 => rAppend (.ref l) vs H2 Q) : tBM K "list" rAppend (tVar i) a σ H Q :=
  ⟨.ref l, hσ, .inl ⟨rfl, xs0, SqL.of h0⟩, h⟩
theorem w_append {l : Addr} {xs : List V} {y : V} (h : H l = some (.lst xs)) (hz : xs.length < 100000) (q : Q .non (upd H l (.lst (xs ++ [y])))) : rAppend (.ref l) [y] H Q :=
  ⟨l, xs, y, rfl, rfl, h, Nat.lt_of_lt_of_le hz (by decide), q⟩
theorem w_lstD {xs : List V} (hz : xs.length ≤ 100000) (q : ∀ r H', H r = none → Adv [] H H' → H' r = some (.lst xs) → Q (.ref r) H') : kLstD xs H Q := ⟨Nat.le_trans hz (by decide), w_new q⟩
theorem w_tupD {xs : List V} (hz : xs.length ≤ 100000) (q : ∀ r H', H r = none → Adv [] H H' → H' r = some (.tup xs) → Q (.ref r) H') : kTupD xs H Q := ⟨Nat.le_trans hz (by decide), w_new q⟩
/-! loops -/
def kFor (J : It) (g : TG) (tb : TS) (D : Ends) (σ : L2.St) (H1 : Hp) : Prop := ∃ W : Nat → Nat → L2.St → Hp → Prop, (∃ m, W 0 m σ H1) ∧ ∀ i m σ H, W i m σ H →
  (J.stop i H ∧ D.nx σ H) ∨ (J.go i H ∧ ∃ N : L2.St → Hp → Prop, (∀ σ' H', N σ' H' → ∃ m', m' < m ∧ W (i + 1) m' σ' H') ∧ ∀ v H', J.yld i H v H' → g v σ H' fun σ2 H2 => tb { D with nx := N, ct := N, bk := D.nx } σ2 H2)
def kForR (g : TG) (tb : TS) (D : Ends) (σ : L2.St) (vs : List V) (H1 : Hp) : Prop := ∃ j : Int, vs = [.int j] ∧ -(2 ^ 62) ≤ j ∧ j < 2 ^ 62 ∧ kFor (Itr 0 j.toNat) g tb D σ H1
theorem w_forR {a : TA} {g : TG} {tb : TS} (h : a σ H (kForR g tb D σ)) : tFor (iRng1 a) g tb D σ H := h
theorem kForR_i {n : Nat} {j : Nat} {tb : TS} (hn : n ≤ 1000000) (Pv : Nat → L2.St → Hp → Prop) (h0 : Pv 0 σ H) (hs : ∀ i σ' H', i < n → Pv i σ' H' → tb { D with nx := Pv (i + 1), ct := Pv (i + 1), bk := D.nx } (σ'.set j (some (.int (i : Nat)))) H')
    (hd : ∀ σ' H', Pv n σ' H' → D.nx σ' H') : kForR (gName j) tb D σ [.int (n : Nat)] H := by
  refine ⟨n, rfl, by omega, by omega, ?_⟩
  have e : ((n : Nat) : Int).toNat = n := by omega
  rw [e]
  refine for_range (lo := 0) (n := n) Pv h0 (fun i σ' H' hi p => ?_) hd
  show tb { D with nx := Pv (i + 1), ct := Pv (i + 1), bk := D.nx } (σ'.set j (some (.int ((0 : Int) + (i : Nat))))) H'
  rw [Int.zero_add]
  exact hs i σ' H' hi p
def kForR2 (g : TG) (tb : TS) (D : Ends) (σ : L2.St) (vs : List V) (H1 : Hp) : Prop := ∃ i j : Int, vs = [.int i, .int j] ∧ (-(2 ^ 62) ≤ i ∧ i < 2 ^ 62 ∧ -(2 ^ 62) ≤ j ∧ j < 2 ^ 62) ∧ kFor (Itr i (j - i).toNat) g tb D σ H1
theorem w_forR2 {a : TA} {g : TG} {tb : TS} (h : a σ H (kForR2 g tb D σ)) : tFor (iRng2 a) g tb D σ H := h
theorem kForR2_i {lo hi : Int} {j : Nat} {tb : TS} (h1 : -1000000 ≤ lo ∧ lo ≤ 1000000) (h2 : -1000000 ≤ hi ∧ hi ≤ 1000000) (Pv : Nat → L2.St → Hp → Prop) (h0 : Pv 0 σ H)
    (hs : ∀ i σ' H', i < (hi - lo).toNat → Pv i σ' H' → tb { D with nx := Pv (i + 1), ct := Pv (i + 1), bk := D.nx } (σ'.set j (some (.int (lo + (i : Nat))))) H') (hd : ∀ σ' H', Pv (hi - lo).toNat σ' H' → D.nx σ' H') : kForR2 (gName j) tb D σ [.int lo, .int hi] H :=
  ⟨lo, hi, rfl, ⟨by omega, by omega, by omega, by omega⟩, for_range (lo := lo) (n := (hi - lo).toNat) Pv h0 (fun i σ' H' hi p => hs i σ' H' hi p) hd⟩
def kForL (K : PySem.W.Frag) (g : TG) (tb : TS) (D : Ends) (σ : L2.St) (x : V) (H1 : Hp) : Prop := ∃ a, x = .ref a ∧ (∃ xs, SqL K H1 a xs) ∧ kFor (Itl K a) g tb D σ H1
theorem w_forL {tl : TE} {g : TG} {tb : TS} (h : tl σ H (kForL K g tb D σ)) : tFor (iList K tl) g tb D σ H := h
theorem kForL_i {p : Addr} {xs : List V} {g : TG} {tb : TS} (Pv : Nat → L2.St → Hp → Prop) (hp : SqL K H p xs) (h0 : Pv 0 σ H) (hl : ∀ i σ' H', i ≤ xs.length → Pv i σ' H' → SqL K H' p xs)
    (hs : ∀ i v σ' H', xs[i]? = some v → Pv i σ' H' → g v σ' H' fun σ2 H2 => tb { D with nx := Pv (i + 1), ct := Pv (i + 1), bk := D.nx } σ2 H2) (hd : ∀ σ' H', Pv xs.length σ' H' → D.nx σ' H') : kForL K g tb D σ (.ref p) H :=
  ⟨p, rfl, ⟨xs, hp⟩, for_list Pv h0 hl hs hd⟩
def kForT (K : PySem.W.Frag) (g : TG) (tb : TS) (D : Ends) (σ : L2.St) (x : V) (H1 : Hp) : Prop := ∃ a, x = .ref a ∧ (∃ xs, SqT K H1 a xs) ∧ kFor (Itt K a) g tb D σ H1
theorem w_forT {tl : TE} {g : TG} {tb : TS} (h : tl σ H (kForT K g tb D σ)) : tFor (iTup K tl) g tb D σ H := h
theorem kForT_i {p : Addr} {xs : List V} {g : TG} {tb : TS} (Pv : Nat → L2.St → Hp → Prop) (hp : SqT K H p xs) (h0 : Pv 0 σ H) (hl : ∀ i σ' H', i ≤ xs.length → Pv i σ' H' → SqT K H' p xs)
    (hs : ∀ i v σ' H', xs[i]? = some v → Pv i σ' H' → g v σ' H' fun σ2 H2 => tb { D with nx := Pv (i + 1), ct := Pv (i + 1), bk := D.nx } σ2 H2) (hd : ∀ σ' H', Pv xs.length σ' H' → D.nx σ' H') : kForT K g tb D σ (.ref p) H :=
  ⟨p, rfl, ⟨xs, hp⟩, for_tup Pv h0 hl hs hd⟩
/-! comprehensions -/
def kLc (J : It) (g : TG) (tt : TT) (te : TE) (vs : List Nat) (σ : L2.St) (Q : VK) (H1 : Hp) : Prop := ∀ D, H1 D = none → ∃ W : Nat → Nat → Hp → Prop, (∃ m, W 0 m (upd H1 D (.lst []))) ∧ ∀ i m H, W i m H →
  (J.stop i H ∧ Q (.ref D) H) ∨ (J.go i H ∧ ∃ Nx : Hp → Prop, (∀ H', Nx H' → ∃ m', m' < m ∧ W (i + 1) m' H') ∧ ∀ x H', J.yld i H x H' → g x (wipe σ vs) H' fun σ2 H2 => wipe σ2 vs = wipe σ vs ∧ tt σ2 H2 fun b H3 =>
    if b = true then te σ2 H3 fun y H4 => ∃ acc, H4 D = some (.lst acc) ∧ acc.length < sizeLine ∧ Nx (upd H4 D (.lst (acc ++ [y]))) else Nx H3)
def kLcR (g : TG) (tt : TT) (te : TE) (vs : List Nat) (σ : L2.St) (Q : VK) (ws : List V) (H1 : Hp) : Prop := ∃ j : Int, ws = [.int j] ∧ -(2 ^ 62) ≤ j ∧ j < 2 ^ 62 ∧ kLc (Itr 0 j.toNat) g tt te vs σ Q H1
def kLcL (K : PySem.W.Frag) (g : TG) (tt : TT) (te : TE) (vs : List Nat) (σ : L2.St) (Q : VK) (x : V) (H1 : Hp) : Prop := ∃ a, x = .ref a ∧ (∃ xs, SqL K H1 a xs) ∧ kLc (Itl K a) g tt te vs σ Q H1
def kLcT (K : PySem.W.Frag) (g : TG) (tt : TT) (te : TE) (vs : List Nat) (σ : L2.St) (Q : VK) (x : V) (H1 : Hp) : Prop := ∃ a, x = .ref a ∧ (∃ xs, SqT K H1 a xs) ∧ kLc (Itt K a) g tt te vs σ Q H1
theorem w_lcR {a : TA} {g : TG} {vs : List Nat} (h : a σ H (kLcR g t te vs σ Q)) : tLc (iRng1 a) g t te vs σ H Q := h
theorem w_lcL {tl : TE} {g : TG} {vs : List Nat} (h : tl σ H (kLcL K g t te vs σ Q)) : tLc (iList K tl) g t te vs σ H Q := h
theorem w_lcT {tl : TE} {g : TG} {vs : List Nat} (h : tl σ H (kLcT K g t te vs σ Q)) : tLc (iTup K tl) g t te vs σ H Q := h
/-- a list is made, turn by turn, while the run goes on: R tells of each item that is given, at the places that are taken -/
structure Mk (st cs : Addr) (H0 : Hp) (R : Nat → V → Hp → Prop) (l : Addr) (i : Nat) (H : Hp) : Prop where
  go : Go st cs H0 H
  new : H0 l = none
  ok0 : StOk st cs H0
  at_ : ∃ (ks : List Nat) (ys : List V), H l = some (.lst ys) ∧ ks.length = ys.length ∧ ks.Pairwise (· < ·) ∧ (∀ k ∈ ks, k < i) ∧ ∀ (m : Nat) k v, ks[m]? = some k → ys[m]? = some v → R k v H
end
end AW
/-! data that stand in tuples; lists made by comprehensions while the run goes on -/
namespace AW
open PySem PySem.Spec PyProof.Rows L2

/-- tuples are kept -/
def TK (H H' : Hp) : Prop := ∀ a xs, H a = some (.tup xs) → H' a = some (.tup xs)
theorem TK.refl (H : Hp) : TK H H := fun _ _ h => h
theorem TK.trans {H H1 H2 : Hp} (a : TK H H1) (b : TK H1 H2) : TK H H2 := fun c xs h => b c xs (a c xs h)
theorem Go.tk {st cs : Addr} {H H' : Hp} (g : Go st cs H H') : TK H H' := g.adv.tup
mutual
/-- the value stands for the datum: scalars, and tuples of such -/
inductive Is (H : Hp) : PyData → V → Prop where
  | non : Is H .none .non
  | bl (b : Bool) : Is H (.bool b) (.bl b)
  | int (i : Int) : Is H (.int i) (.int i)
  | str (x : Str) : Is H (.str x) (.str x)
  | tup {a : Addr} {xs : List V} {ds : List PyData} : H a = some (.tup xs) → IsAll H ds xs → Is H (.tuple ds) (.ref a)
inductive IsAll (H : Hp) : List PyData → List V → Prop where
  | nil : IsAll H [] []
  | cons {d : PyData} {ds : List PyData} {v : V} {vs : List V} : Is H d v → IsAll H ds vs → IsAll H (d :: ds) (v :: vs)
end
mutual
theorem Is.up {H H' : Hp} (k : TK H H') : ∀ {d : PyData} {v : V}, Is H d v → Is H' d v
  | _, _, .non => .non
  | _, _, .bl b => .bl b
  | _, _, .int i => .int i
  | _, _, .str x => .str x
  | _, _, .tup e h => .tup (k _ _ e) (IsAll.up k h)
theorem IsAll.up {H H' : Hp} (k : TK H H') : ∀ {ds : List PyData} {vs : List V}, IsAll H ds vs → IsAll H' ds vs
  | _, _, .nil => .nil
  | _, _, .cons h t => .cons (Is.up k h) (IsAll.up k t)
end
mutual
theorem Is.dp {K : PySem.W.Frag} {H : Hp} : ∀ {d : PyData} {v : V}, Is H d v → Dp K H v d
  | _, _, .non => .non
  | _, _, .bl b => .bl b
  | _, _, .int i => .int i
  | _, _, .str x => .str x
  | _, _, .tup e h => .tup (SqT.of e) (IsAll.dp h)
theorem IsAll.dp {K : PySem.W.Frag} {H : Hp} : ∀ {ds : List PyData} {vs : List V}, IsAll H ds vs → DpAll K H vs ds
  | _, _, .nil => .nil
  | _, _, .cons h t => .cons (Is.dp h) (IsAll.dp t)
end
theorem IsAll.length {H : Hp} : ∀ {ds : List PyData} {vs : List V}, IsAll H ds vs → vs.length = ds.length
  | _, _, .nil => rfl
  | _, _, .cons _ t => congrArg (· + 1) t.length
theorem IsAll.get {H : Hp} : ∀ {ds : List PyData} {vs : List V} {i : Nat} {v : V}, IsAll H ds vs → vs[i]? = some v → ∃ d, ds[i]? = some d ∧ Is H d v
  | _, _, _, _, .nil, e => by simp at e
  | _, _, 0, _, .cons h _, e => by
    simp at e
    subst e
    exact ⟨_, rfl, h⟩
  | _, _, i + 1, v, .cons _ t, e => by
    obtain ⟨d, h1, h2⟩ := IsAll.get (i := i) (v := v) t (by simpa using e)
    exact ⟨d, by simpa using h1, h2⟩
theorem IsAll.get' {H : Hp} : ∀ {ds : List PyData} {vs : List V} {i : Nat} {d : PyData}, IsAll H ds vs → ds[i]? = some d → ∃ v, vs[i]? = some v ∧ Is H d v
  | _, _, _, _, .nil, e => by simp at e
  | _, _, 0, _, .cons h _, e => by
    simp at e
    subst e
    exact ⟨_, rfl, h⟩
  | _, _, i + 1, d, .cons _ t, e => by
    obtain ⟨v, h1, h2⟩ := IsAll.get' (i := i) (d := d) t (by simpa using e)
    exact ⟨v, by simpa using h1, h2⟩
theorem IsAll.of {H : Hp} : ∀ (ds : List PyData) (vs : List V), vs.length = ds.length → (∀ (i : Nat) d v, ds[i]? = some d → vs[i]? = some v → Is H d v) → IsAll H ds vs
  | [], [], _, _ => .nil
  | d :: ds, v :: vs, hl, h => .cons (h 0 d v rfl rfl) (IsAll.of ds vs (Nat.succ.inj hl) fun i d' v' h1 h2 => h (i + 1) d' v' (by simpa using h1) (by simpa using h2))
  | [], _ :: _, hl, _ => by simp at hl
  | _ :: _, [], hl, _ => by simp at hl
theorem IsAll.append {H : Hp} : ∀ {ds es : List PyData} {vs ws : List V}, IsAll H ds vs → IsAll H es ws → IsAll H (ds ++ es) (vs ++ ws)
  | _, _, _, _, .nil, h => h
  | _, _, _, _, .cons a t, h => .cons a (IsAll.append t h)
theorem IsAll.ints {H : Hp} : ∀ (ns : List Int), IsAll H (ns.map .int) (ns.map V.int)
  | [] => .nil
  | n :: ns => .cons (.int n) (IsAll.ints ns)
theorem IsAll.strs {H : Hp} : ∀ (ns : List Str), IsAll H (ns.map .str) (ns.map V.str)
  | [] => .nil
  | n :: ns => .cons (.str n) (IsAll.strs ns)
theorem IsAll.ints_inv {H : Hp} : ∀ {ns : List Int} {vs : List V}, IsAll H (ns.map .int) vs → vs = ns.map V.int
  | [], _, .nil => rfl
  | n :: ns, _, .cons h t => by
    cases h
    rw [IsAll.ints_inv t]
    rfl
theorem IsAll.strs_inv {H : Hp} : ∀ {ns : List Str} {vs : List V}, IsAll H (ns.map .str) vs → vs = ns.map V.str
  | [], _, .nil => rfl
  | n :: ns, _, .cons h t => by
    cases h
    rw [IsAll.strs_inv t]
    rfl
theorem Is.int_inv {H : Hp} {n : Int} {v : V} (h : Is H (.int n) v) : v = .int n := by
  cases h
  rfl
theorem Is.str_inv {H : Hp} {n : Str} {v : V} (h : Is H (.str n) v) : v = .str n := by
  cases h
  rfl
theorem Is.tup_inv {H : Hp} {ds : List PyData} {v : V} (h : Is H (.tuple ds) v) : ∃ a xs, v = .ref a ∧ H a = some (.tup xs) ∧ IsAll H ds xs := by
  cases h with
  | tup e t => exact ⟨_, _, rfl, e, t⟩
theorem IsAll.perm {H : Hp} {ds : List PyData} {vs ws : List V} (h : IsAll H ds vs) (p : ws.Perm vs) : ∃ es, es.Perm ds ∧ IsAll H es ws := by
  induction p generalizing ds with
  | nil => cases h; exact ⟨[], .refl _, .nil⟩
  | cons x p ih =>
    cases h with
    | cons a t =>
      obtain ⟨es, h1, h2⟩ := ih t
      exact ⟨_ :: es, h1.cons _, .cons a h2⟩
  | swap x y l =>
    cases h with
    | cons a t =>
      cases t with
      | cons b t => exact ⟨_, List.Perm.swap .., .cons b (.cons a t)⟩
  | trans p q ih1 ih2 =>
    obtain ⟨es, h1, h2⟩ := ih2 h
    obtain ⟨fs, h3, h4⟩ := ih1 h2
    exact ⟨fs, h3.trans h1, h4⟩

section
variable {K : PySem.W.Frag} {st cs : Addr} {J : It} {n : Nat} {G : Hp → Prop} {Y : Nat → Hp → V → Hp → Prop} {g : TG} {tt : TT} {te : TE} {vs : List Nat} {σ : L2.St} {Q : VK} {H1 : Hp}
/-- a comprehension without a test -/
theorem kLc_all (wk : Walk J n G Y) (hn : n ≤ 100000) (ok : StOk st cs H1) (hG : ∀ H', Go st cs H1 H' → G H') (R : Nat → V → Hp → Prop) (mono : ∀ i v H H', TK H H' → R i v H → R i v H')
    (step : ∀ i x H H' (Kt : V → Hp → Prop), i < n → Go st cs H1 H → Y i H x H' → (∀ y H4, Go st cs H H4 → R i y H4 → Kt y H4) → g x (wipe σ vs) H' fun σ2 H2 => wipe σ2 vs = wipe σ vs ∧ te σ2 H2 Kt)
    (k : ∀ p H' ys, H1 p = none → Go st cs H1 H' → H' p = some (.lst ys) → ys.length = n → (∀ (i : Nat) v, ys[i]? = some v → R i v H') → Q (.ref p) H') : kLc J g tYes te vs σ Q H1 := by
  intro D hD
  have nD := ok.ne hD
  refine lc_it wk (fun i H => Go st cs H1 H ∧ ∃ ys, H D = some (.lst ys) ∧ ys.length = i ∧ ∀ (m : Nat) v, ys[m]? = some v → R m v H) ⟨.of ok (Adv.new hD), [], upd_same, rfl, fun m v e => by simp at e⟩ (fun i H _ p => hG H p.1)
    (fun i x H H' hi p y => ?_) fun H p => ?_
  · obtain ⟨g1, ys, e1, hl, hr⟩ := p
    refine step i x H H' _ hi g1 y fun v H4 g4 r4 => ?_
    have e4 : H4 D = some (.lst ys) := g4.keep nD.1 e1
    have t5 : TK H4 (upd H4 D (.lst (ys ++ [v]))) := (Adv.lst e4).tup
    refine ⟨ys, e4, Nat.lt_of_lt_of_le (show ys.length < 100001 by omega) (by decide), (g1.trans g4).mutL ok hD e4, ys ++ [v], upd_same, by rw [List.length_append, hl]; rfl, fun m w e => ?_⟩
    by_cases hm : m < ys.length
    · rw [List.getElem?_append_left hm] at e
      exact mono _ _ _ _ (g4.tk.trans t5) (hr m w e)
    · have hm2 : m = ys.length := by
        have := (List.getElem?_eq_some_iff.mp e).1
        rw [List.length_append] at this
        simp at this
        omega
      subst hm2
      rw [List.getElem?_append_right (Nat.le_refl _), Nat.sub_self] at e
      simp at e
      subst e
      rw [hl]
      exact mono _ _ _ _ t5 r4
  · obtain ⟨g1, ys, e1, hl, hr⟩ := p
    exact k D H ys hD g1 e1 hl hr
/-- a comprehension with a test: ks the places that are taken, in order; F tells of the others -/
theorem kLc_some (wk : Walk J n G Y) (hn : n ≤ 100000) (ok : StOk st cs H1) (hG : ∀ H', Go st cs H1 H' → G H') (R : Nat → V → Hp → Prop) (F : Nat → Prop) (mono : ∀ i v H H', TK H H' → R i v H → R i v H')
    (step : ∀ i x H H' (Kt : V → Hp → Prop) (Kf : Hp → Prop), i < n → Go st cs H1 H → Y i H x H' → (∀ y H4, Go st cs H H4 → R i y H4 → Kt y H4) → (∀ H3, Go st cs H H3 → F i → Kf H3) →
      g x (wipe σ vs) H' fun σ2 H2 => wipe σ2 vs = wipe σ vs ∧ tt σ2 H2 fun b H3 => if b = true then te σ2 H3 Kt else Kf H3)
    (k : ∀ p H' (ks : List Nat) ys, H1 p = none → Go st cs H1 H' → H' p = some (.lst ys) → ks.length = ys.length → ks.Pairwise (· < ·) → (∀ k ∈ ks, k < n) → (∀ k, k < n → k ∉ ks → F k) → (∀ (m k : Nat) v, ks[m]? = some k → ys[m]? = some v → R k v H') → Q (.ref p) H') :
    kLc J g tt te vs σ Q H1 := by
  intro D hD
  have nD := ok.ne hD
  refine lc_it wk (fun i H => Go st cs H1 H ∧ ∃ (ks : List Nat) (ys : List V), H D = some (.lst ys) ∧ ks.length = ys.length ∧ ks.Pairwise (· < ·) ∧ (∀ k ∈ ks, k < i) ∧ (∀ k, k < i → k ∉ ks → F k) ∧ ks.length ≤ i ∧ ∀ (m : Nat) k v, ks[m]? = some k → ys[m]? = some v → R k v H)
    ⟨.of ok (Adv.new hD), [], [], upd_same, rfl, .nil, fun k h => (nomatch h), fun k h => absurd h (Nat.not_lt_zero _), Nat.le_refl _, fun m k v e => by simp at e⟩ (fun i H _ p => hG H p.1) (fun i x H H' hi p y => ?_) fun H p => ?_
  · obtain ⟨g1, ks, ys, e1, hl, hp, hk, hf, hle, hr⟩ := p
    refine step i x H H' _ _ hi g1 y (fun v H4 g4 r4 => ?_) fun H3 g3 f3 => ?_
    · have e4 : H4 D = some (.lst ys) := g4.keep nD.1 e1
      have t5 : TK H4 (upd H4 D (.lst (ys ++ [v]))) := (Adv.lst e4).tup
      refine ⟨ys, e4, Nat.lt_of_lt_of_le (show ys.length < 100001 by omega) (by decide), (g1.trans g4).mutL ok hD e4, ks ++ [i], ys ++ [v], upd_same, by rw [List.length_append, List.length_append, hl]; rfl, ?_, fun k h => ?_, fun k h1 h2 => ?_, by rw [List.length_append]; simp; omega, fun m k w e1 e2 => ?_⟩
      · rw [List.pairwise_append]
        exact ⟨hp, List.pairwise_singleton .., fun a ha b hb => by rw [List.mem_singleton.mp hb]; exact hk a ha⟩
      · rcases List.mem_append.mp h with h | h
        · exact Nat.lt_succ_of_lt (hk k h)
        · rw [List.mem_singleton.mp h]
          exact Nat.lt_succ_self _
      · have h3 : k ≠ i := fun z => h2 (List.mem_append_right _ (by rw [z]; exact List.mem_singleton.mpr rfl))
        exact hf k (by omega) fun z => h2 (List.mem_append_left _ z)
      · by_cases hm : m < ys.length
        · rw [List.getElem?_append_left hm] at e2
          rw [List.getElem?_append_left (by omega)] at e1
          exact mono _ _ _ _ (g4.tk.trans t5) (hr m k w e1 e2)
        · have hm2 : m = ys.length := by
            have := (List.getElem?_eq_some_iff.mp e2).1
            rw [List.length_append] at this
            simp at this
            omega
          subst hm2
          rw [List.getElem?_append_right (Nat.le_refl _), Nat.sub_self] at e2
          rw [← hl, List.getElem?_append_right (Nat.le_refl _), Nat.sub_self] at e1
          simp at e1 e2
          subst e1 e2
          exact mono _ _ _ _ t5 r4
    · refine ⟨g1.trans g3, ks, ys, g3.keep nD.1 e1, hl, hp, fun k h => Nat.lt_succ_of_lt (hk k h), fun k h1 h2 => ?_, by omega, fun m k w e1 e2 => mono _ _ _ _ g3.tk (hr m k w e1 e2)⟩
      by_cases hki : k = i
      · subst hki
        exact f3
      · exact hf k (by omega) h2
  · obtain ⟨g1, ks, ys, e1, hl, hp, hk, hf, hle, hr⟩ := p
    exact k D H ks ys hD g1 e1 hl hp hk hf hr
theorem kLcR_all {n : Nat} (hn : n ≤ 100000) (ok : StOk st cs H1) (R : Nat → V → Hp → Prop) (mono : ∀ i v H H', TK H H' → R i v H → R i v H')
    (step : ∀ i H (Kt : V → Hp → Prop), i < n → Go st cs H1 H → (∀ y H4, Go st cs H H4 → R i y H4 → Kt y H4) → g (.int (i : Nat)) (wipe σ vs) H fun σ2 H2 => wipe σ2 vs = wipe σ vs ∧ te σ2 H2 Kt)
    (k : ∀ p H' ys, H1 p = none → Go st cs H1 H' → H' p = some (.lst ys) → ys.length = n → (∀ (i : Nat) v, ys[i]? = some v → R i v H') → Q (.ref p) H') : kLcR g tYes te vs σ Q [.int (n : Nat)] H1 := by
  refine ⟨n, rfl, by omega, by omega, ?_⟩
  have e : ((n : Nat) : Int).toNat = n := by omega
  rw [e]
  refine kLc_all walk_range hn ok (fun _ _ => trivial) R mono (fun i x H H' Kt hi g1 y kt => ?_) k
  obtain ⟨rfl, rfl⟩ := y
  show g (.int ((0 : Int) + (i : Nat))) _ _ _
  rw [Int.zero_add]
  exact step i H' Kt hi g1 kt
theorem kLcR_some {n : Nat} (hn : n ≤ 100000) (ok : StOk st cs H1) (R : Nat → V → Hp → Prop) (F : Nat → Prop) (mono : ∀ i v H H', TK H H' → R i v H → R i v H')
    (step : ∀ i H (Kt : V → Hp → Prop) (Kf : Hp → Prop), i < n → Go st cs H1 H → (∀ y H4, Go st cs H H4 → R i y H4 → Kt y H4) → (∀ H3, Go st cs H H3 → F i → Kf H3) →
      g (.int (i : Nat)) (wipe σ vs) H fun σ2 H2 => wipe σ2 vs = wipe σ vs ∧ tt σ2 H2 fun b H3 => if b = true then te σ2 H3 Kt else Kf H3)
    (k : ∀ p H' (ks : List Nat) ys, H1 p = none → Go st cs H1 H' → H' p = some (.lst ys) → ks.length = ys.length → ks.Pairwise (· < ·) → (∀ k ∈ ks, k < n) → (∀ k, k < n → k ∉ ks → F k) → (∀ (m k : Nat) v, ks[m]? = some k → ys[m]? = some v → R k v H') → Q (.ref p) H') :
    kLcR g tt te vs σ Q [.int (n : Nat)] H1 := by
  refine ⟨n, rfl, by omega, by omega, ?_⟩
  have e : ((n : Nat) : Int).toNat = n := by omega
  rw [e]
  refine kLc_some walk_range hn ok (fun _ _ => trivial) R F mono (fun i x H H' Kt Kf hi g1 y kt kf => ?_) k
  obtain ⟨rfl, rfl⟩ := y
  show g (.int ((0 : Int) + (i : Nat))) _ _ _
  rw [Int.zero_add]
  exact step i H' Kt Kf hi g1 kt kf
theorem kLcL_all {p : Addr} {xs : List V} (hp : SqL K H1 p xs) (np : p ≠ st) (hn : xs.length ≤ 100000) (ok : StOk st cs H1) (R : Nat → V → Hp → Prop) (mono : ∀ i v H H', TK H H' → R i v H → R i v H')
    (step : ∀ i x H (Kt : V → Hp → Prop), xs[i]? = some x → Go st cs H1 H → (∀ y H4, Go st cs H H4 → R i y H4 → Kt y H4) → g x (wipe σ vs) H fun σ2 H2 => wipe σ2 vs = wipe σ vs ∧ te σ2 H2 Kt)
    (k : ∀ p H' ys, H1 p = none → Go st cs H1 H' → H' p = some (.lst ys) → ys.length = xs.length → (∀ (i : Nat) v, ys[i]? = some v → R i v H') → Q (.ref p) H') : kLcL K g tYes te vs σ Q (.ref p) H1 :=
  ⟨p, rfl, ⟨xs, hp⟩, kLc_all walk_list hn ok (fun _ g => g.sql np hp) R mono (fun i x H H' Kt hi g1 y kt => by
    obtain ⟨rfl, e⟩ := y
    exact step i x H' Kt e g1 kt) k⟩
theorem kLcL_some {p : Addr} {xs : List V} (hp : SqL K H1 p xs) (np : p ≠ st) (hn : xs.length ≤ 100000) (ok : StOk st cs H1) (R : Nat → V → Hp → Prop) (F : Nat → Prop) (mono : ∀ i v H H', TK H H' → R i v H → R i v H')
    (step : ∀ i x H (Kt : V → Hp → Prop) (Kf : Hp → Prop), xs[i]? = some x → Go st cs H1 H → (∀ y H4, Go st cs H H4 → R i y H4 → Kt y H4) → (∀ H3, Go st cs H H3 → F i → Kf H3) →
      g x (wipe σ vs) H fun σ2 H2 => wipe σ2 vs = wipe σ vs ∧ tt σ2 H2 fun b H3 => if b = true then te σ2 H3 Kt else Kf H3)
    (k : ∀ p H' (ks : List Nat) ys, H1 p = none → Go st cs H1 H' → H' p = some (.lst ys) → ks.length = ys.length → ks.Pairwise (· < ·) → (∀ k ∈ ks, k < xs.length) → (∀ k, k < xs.length → k ∉ ks → F k) → (∀ (m k : Nat) v, ks[m]? = some k → ys[m]? = some v → R k v H') → Q (.ref p) H') :
    kLcL K g tt te vs σ Q (.ref p) H1 :=
  ⟨p, rfl, ⟨xs, hp⟩, kLc_some walk_list hn ok (fun _ g => g.sql np hp) R F mono (fun i x H H' Kt Kf hi g1 y kt kf => by
    obtain ⟨rfl, e⟩ := y
    exact step i x H' Kt Kf e g1 kt kf) k⟩
theorem kLcT_all {p : Addr} {xs : List V} (hp : H1 p = some (.tup xs)) (hn : xs.length ≤ 100000) (ok : StOk st cs H1) (R : Nat → V → Hp → Prop) (mono : ∀ i v H H', TK H H' → R i v H → R i v H')
    (step : ∀ i x H (Kt : V → Hp → Prop), xs[i]? = some x → Go st cs H1 H → (∀ y H4, Go st cs H H4 → R i y H4 → Kt y H4) → g x (wipe σ vs) H fun σ2 H2 => wipe σ2 vs = wipe σ vs ∧ te σ2 H2 Kt)
    (k : ∀ p H' ys, H1 p = none → Go st cs H1 H' → H' p = some (.lst ys) → ys.length = xs.length → (∀ (i : Nat) v, ys[i]? = some v → R i v H') → Q (.ref p) H') : kLcT K g tYes te vs σ Q (.ref p) H1 :=
  ⟨p, rfl, ⟨xs, SqT.of hp⟩, kLc_all walk_tup hn ok (fun _ g => SqT.of (g.tk _ _ hp)) R mono (fun i x H H' Kt hi g1 y kt => by
    obtain ⟨rfl, e⟩ := y
    exact step i x H' Kt e g1 kt) k⟩
theorem kLcT_some {p : Addr} {xs : List V} (hp : H1 p = some (.tup xs)) (hn : xs.length ≤ 100000) (ok : StOk st cs H1) (R : Nat → V → Hp → Prop) (F : Nat → Prop) (mono : ∀ i v H H', TK H H' → R i v H → R i v H')
    (step : ∀ i x H (Kt : V → Hp → Prop) (Kf : Hp → Prop), xs[i]? = some x → Go st cs H1 H → (∀ y H4, Go st cs H H4 → R i y H4 → Kt y H4) → (∀ H3, Go st cs H H3 → F i → Kf H3) →
      g x (wipe σ vs) H fun σ2 H2 => wipe σ2 vs = wipe σ vs ∧ tt σ2 H2 fun b H3 => if b = true then te σ2 H3 Kt else Kf H3)
    (k : ∀ p H' (ks : List Nat) ys, H1 p = none → Go st cs H1 H' → H' p = some (.lst ys) → ks.length = ys.length → ks.Pairwise (· < ·) → (∀ k ∈ ks, k < xs.length) → (∀ k, k < xs.length → k ∉ ks → F k) → (∀ (m k : Nat) v, ks[m]? = some k → ys[m]? = some v → R k v H') → Q (.ref p) H') :
    kLcT K g tt te vs σ Q (.ref p) H1 :=
  ⟨p, rfl, ⟨xs, SqT.of hp⟩, kLc_some walk_tup hn ok (fun _ g => SqT.of (g.tk _ _ hp)) R F mono (fun i x H H' Kt Kf hi g1 y kt kf => by
    obtain ⟨rfl, e⟩ := y
    exact step i x H' Kt Kf e g1 kt kf) k⟩
end
theorem at_nat {xs : List V} {n : Int} {v : V} (h0 : 0 ≤ n) (h : xs[n.toNat]? = some v) : atI xs n = some v := at_of (j := n.toNat) (by omega) h
theorem get_some {α : Type} {xs : List α} {i : Nat} (h : i < xs.length) : ∃ v, xs[i]? = some v := ⟨xs[i], List.getElem?_eq_getElem h⟩
theorem cut_to (xs : List V) {n : Int} (h0 : 0 ≤ n) : cutV xs none (some n) = xs.take n.toNat := by
  obtain ⟨m, rfl⟩ : ∃ m : Nat, n = m := ⟨n.toNat, by omega⟩
  unfold cutV
  rw [HT.sIx_none, HT.sIx_nat]
  simp only [List.drop_zero, Nat.sub_zero, Int.toNat_natCast]
  by_cases h : m ≤ xs.length
  · rw [Nat.min_eq_left h]
  · rw [Nat.min_eq_right (by omega), List.take_of_length_le (Nat.le_refl _), List.take_of_length_le (by omega)]
theorem cut_from (xs : List V) {n : Int} (h0 : 0 ≤ n) : cutV xs (some n) none = xs.drop n.toNat := by
  obtain ⟨m, rfl⟩ : ∃ m : Nat, n = m := ⟨n.toNat, by omega⟩
  unfold cutV
  rw [HT.sIx_none, HT.sIx_nat]
  simp only [Int.toNat_natCast]
  by_cases h : m ≤ xs.length
  · rw [Nat.min_eq_left h, List.take_of_length_le (by rw [List.length_drop]; exact Nat.le_refl _)]
  · rw [Nat.min_eq_right (by omega), List.drop_of_length_le (Nat.le_refl _), List.drop_of_length_le (by omega)]
    simp
theorem SqL.upd {K : PySem.W.Frag} {H : Hp} {a : Addr} {xs : List V} : SqL K (upd H a (.lst xs)) a xs := SqL.of upd_same
theorem getD_of {α : Type} {xs : List α} {i : Nat} {d v : α} (h : xs[i]? = some v) : xs.getD i d = v := by rw [List.getD_eq_getElem?_getD, h]; rfl
end AW
/-! zip of three tuples of one length; zip of two tuples as a walk; dicts made by comprehensions -/
namespace AW
open PySem PySem.Spec PyProof.Rows L2 RZ

/-- three tuples beside one another, of one length -/
def Itz3 (K : PySem.W.Frag) (a b c : Addr) : It where
  go i H := ∃ xs ys zs : List V, SqT K H a xs ∧ SqT K H b ys ∧ SqT K H c zs ∧ i < xs.length ∧ i < ys.length ∧ i < zs.length
  yld i H v H' := ∃ (T : Addr) (x y u : V), v = .ref T ∧ H T = none ∧ H' = upd H T (.tup [x, y, u]) ∧ (∀ xs, SqT K H a xs → xs[i]? = some x) ∧ (∀ ys, SqT K H b ys → ys[i]? = some y) ∧ ∀ zs, SqT K H c zs → zs[i]? = some u
  stop i H := ∃ xs ys zs : List V, SqT K H a xs ∧ SqT K H b ys ∧ SqT K H c zs ∧ i = xs.length ∧ i = ys.length ∧ i = zs.length

theorem six {z TI TO i1 i2 i3 d : Addr} (h : d ∈ [z, TI, TO, i1, i2, i3]) : d = z ∨ d = TI ∨ d = TO ∨ d = i1 ∨ d = i2 ∨ d = i3 := by simpa using h
theorem turn_zip3 {P : Program} {w : World} {K : PySem.W.Frag} {elts : List Expr} {kk : Nat} {tpos : Pos} {a b c z TI TO i1 i2 i3 : Addr} (D : ZipSep3 z TI TO i1 i2 i3 [i1, a] [i2, b] [i3, c]) :
    Turn P w K (.Tuple elts kk tpos) (Itz3 K a b c) [z, TI, TO, i1, i2, i3] z (fun i h => IsZip h z TI TO .none ∧ IsTupOf3 h TI (.ref i1) (.ref i2) (.ref i3) ∧ (∃ x y u, IsTupOf3 h TO x y u) ∧ h.IsTupleIter i1 a i ∧ h.IsTupleIter i2 b i ∧ h.IsTupleIter i3 c i) := by
  have na : a ≠ i1 ∧ b ≠ i2 ∧ c ≠ i3 ∨ True := .inr trivial
  refine ⟨by simp, ?obj, ?keep, ?item, ?done, ?self⟩
  case obj =>
    rintro i h ⟨s1, s2, ⟨x, y, u, s3⟩, ⟨p1, q1, _, r1⟩, ⟨p2, q2, _, r2⟩, ⟨p3, q3, _, r3⟩⟩ d hd
    rcases six hd with rfl | rfl | rfl | rfl | rfl | rfl
    · exact ⟨_, s1, fun v e => nomatch e⟩
    · exact ⟨_, s2, fun v e => nomatch e⟩
    · exact ⟨_, s3, fun v e => nomatch e⟩
    · exact ⟨p1, q1, fun v e => by rw [r1] at e; cases e⟩
    · exact ⟨p2, q2, fun v e => by rw [r2] at e; cases e⟩
    · exact ⟨p3, q3, fun v e => by rw [r3] at e; cases e⟩
  case keep =>
    rintro i h h' ⟨s1, s2, ⟨x, y, u, s3⟩, t1, t2, t3⟩ k
    exact ⟨k _ (by simp) _ s1, k _ (by simp) _ s2, ⟨x, y, u, k _ (by simp) _ s3⟩, t1.at fun o e => k _ (by simp) o e, t2.at fun o e => k _ (by simp) o e, t3.at fun o e => k _ (by simp) o e⟩
  case self =>
    exact fun A i s Q E st h => wpAny_pyIter_zip st.1 h
  case item =>
    intro X hP hw hK hc i pins s σ H E I hf st hg
    subst hP hw hK
    obtain ⟨s1, s2, ⟨x0, y0, u0, s3⟩, t1, t2, t3⟩ := st
    obtain ⟨xs, ys, zs, qa, qb, qc, la, lb, lc⟩ := hg
    obtain ⟨ia, ra, pa, _⟩ := I.tuple qa
    obtain ⟨ib, rb, pb, _⟩ := I.tuple qb
    obtain ⟨ic, rc, pc, _⟩ := I.tuple qc
    have ea : ∀ {p : Addr} {its : Array Value}, IsTup s.heap p its → p ∉ [z, TI, TO, i1, i2, i3] → p ≠ z := fun _ n e => n (by simp [e])
    have d1 : a ≠ i1 := by
      intro e
      obtain ⟨o, ho, hcl, _⟩ := pa
      obtain ⟨o2, ho2, hcl2, _⟩ := t1
      rw [e, ho2] at ho
      cases ho
      rw [hcl2] at hcl
      exact absurd (Value.type.inj hcl) (by decide)
    have d2 : b ≠ i2 := by
      intro e
      obtain ⟨o, ho, hcl, _⟩ := pb
      obtain ⟨o2, ho2, hcl2, _⟩ := t2
      rw [e, ho2] at ho
      cases ho
      rw [hcl2] at hcl
      exact absurd (Value.type.inj hcl) (by decide)
    have d3 : c ≠ i3 := by
      intro e
      obtain ⟨o, ho, hcl, _⟩ := pc
      obtain ⟨o2, ho2, hcl2, _⟩ := t3
      rw [e, ho2] at ho
      cases ho
      rw [hcl2] at hcl
      exact absurd (Value.type.inj hcl) (by decide)
    have hh : X.A.in1.handled = none := I.ok.hd hc
    have zl : z < s.heap.objs.size := Heap.lt_size s1
    refine wpAny_pyNext_zipD3_item (i := i) D (Draws.tuple hh i1 a d1 ia.toArray) (Draws.tuple hh i2 b d2 ib.toArray) (Draws.tuple hh i3 c d3 ic.toArray) s1 s2 s3 ⟨t1, pa⟩ ⟨t2, pb⟩ ⟨t3, pc⟩
      (by rw [List.size_toArray, ← ra.length]; exact la) (by rw [List.size_toArray, ← rb.length]; exact lb) (by rw [List.size_toArray, ← rc.length]; exact lc) fun x1 x2 x3 h' tk g1 g2 g3 z' TO' v1 v2 v3 hT hsz hk => ?_
    obtain ⟨y1, hy1⟩ := get_some (xs := xs) la
    obtain ⟨y2, hy2⟩ := get_some (xs := ys) lb
    obtain ⟨y3, hy3⟩ := get_some (xs := zs) lc
    have rel : ∀ {l : List V} {us : List Value} {y : V} {x : Value}, Vals l us → l[i]? = some y → us.toArray[i]? = some x → RelV y x := fun r e e2 => by
      obtain ⟨u, eu, ru⟩ := r.get e
      have e3 : some u = some _ := eu.symm.trans (by simpa using e2)
      cases e3
      exact ru
    refine ⟨_, rfl, wpAny_letOwnedTupleGo_zip (s := { s with heap := h', toks := tk }) z' fun h'' z'' sb => ?_⟩
    have hT2 : h''.get? s.heap.objs.size = some { cls := .type "tuple", data := .seq #[x1, x2, x3] } := (sb.2 _ (Nat.ne_of_gt zl)).trans hT
    have new : ObjOk X.prog X.w (upd H s.heap.objs.size (.tup [y1, y2, y3])) h'' s.heap.objs.size (.tup [y1, y2, y3]) :=
      ⟨by show 3 ≤ sizeLine; decide, [x1, x2, x3], .cons (rel ra hy1 g1) (.cons (rel rb hy2 g2) (.cons (rel rc hy3 g3) .nil)), ⟨_, hT2, rfl, _, rfl⟩⟩
    have I1 : Inv X pins σ (upd H s.heap.objs.size (.tup [y1, y2, y3])) { s with heap := h'', toks := tk } :=
      I.turnedNew (ch := [z, TI, TO, i1, i2, i3]) (fun d o hd q => (sb.2 d (fun e => hd (by simp [e]))).trans (hk d o (fun e => hd (by simp [e])) (fun e => hd (by simp [e])) (fun e => hd (by simp [e])) (fun e => hd (by simp [e])) (fun e => hd (by simp [e])) q)) hf (Nat.le_refl _) new
    refine ⟨.ref s.heap.objs.size, _, I1, rfl, ⟨_, y1, y2, y3, rfl, I.hok.fresh (Nat.le_refl _), rfl, fun l hl => by rw [I.tuple_inj hl qa]; exact hy1, fun l hl => by rw [I.tuple_inj hl qb]; exact hy2, fun l hl => by rw [I.tuple_inj hl qc]; exact hy3⟩,
      ⟨z'', ?_, ⟨x1, x2, x3, ?_⟩, ?_, ?_, ?_⟩, fun d hd => ?_⟩
    · exact (sb.2 _ D.TIz).trans (hk _ _ D.TIz D.TITO D.TIi1 D.TIi2 D.TIi3 s2)
    · exact (sb.2 _ D.TOz).trans TO'
    · exact v1.1.at fun o e => (sb.2 _ (fun q => D.zi1 q.symm)).trans e
    · exact v2.1.at fun o e => (sb.2 _ (fun q => D.zi2 q.symm)).trans e
    · exact v3.1.at fun o e => (sb.2 _ (fun q => D.zi3 q.symm)).trans e
    · have hlt : d < s.heap.objs.size := by
        rcases six hd with rfl | rfl | rfl | rfl | rfl | rfl
        · exact zl
        · exact Heap.lt_size s2
        · exact Heap.lt_size s3
        · obtain ⟨_, e, _⟩ := t1; exact Heap.lt_size e
        · obtain ⟨_, e, _⟩ := t2; exact Heap.lt_size e
        · obtain ⟨_, e, _⟩ := t3; exact Heap.lt_size e
      rw [upd_ne (Nat.ne_of_lt hlt)]
      exact (hf d hd).1
  case done =>
    intro X hP hw hK hc i pins s σ H E I hf st hg
    subst hP hw hK
    obtain ⟨s1, s2, ⟨x0, y0, u0, s3⟩, t1, t2, t3⟩ := st
    obtain ⟨xs, ys, zs, qa, qb, qc, la, lb, lc⟩ := hg
    obtain ⟨ia, ra, pa, _⟩ := I.tuple qa
    obtain ⟨ib, rb, pb, _⟩ := I.tuple qb
    obtain ⟨ic, rc, pc, _⟩ := I.tuple qc
    have dd : ∀ {p q : Addr} {its : Array Value} {j : Nat}, IsTup s.heap p its → s.heap.IsTupleIter q p j → p ≠ q := fun {p q its j} hp hq e => by
      obtain ⟨o, ho, hcl, _⟩ := hp
      obtain ⟨o2, ho2, hcl2, _⟩ := hq
      rw [e, ho2] at ho
      cases ho
      rw [hcl2] at hcl
      exact absurd (Value.type.inj hcl) (by decide)
    have hh : X.A.in1.handled = none := I.ok.hd hc
    have sa : i = ia.toArray.size := by rw [List.size_toArray, ← ra.length]; exact la
    have sb : i = ib.toArray.size := by rw [List.size_toArray, ← rb.length]; exact lb
    have sc : i = ic.toArray.size := by rw [List.size_toArray, ← rc.length]; exact lc
    exact wpAny_pyNext_zipD3_end (i := i) D (Draws.tuple hh i1 a (dd pa t1) ia.toArray) (Draws.tuple hh i2 b (dd pb t2) ib.toArray) (Draws.tuple hh i3 c (dd pc t3) ic.toArray) s1 s2 s3 ⟨t1, pa⟩ ⟨t2, pb⟩ ⟨t3, pc⟩
      (Nat.le_of_eq sa) (Nat.le_of_eq sb) (Nat.le_of_eq sc) (.inl sa) fun h' tk hk => ⟨rfl, I.turnedL (ch := [z, TI, TO, i1, i2, i3]) (fun d o hd q => hk d o (fun e => hd (by simp [e])) (fun e => hd (by simp [e])) (fun e => hd (by simp [e])) (fun e => hd (by simp [e])) (fun e => hd (by simp [e])) q) hf⟩
/-- what stands within zip(a, b, c) -/
def iZip3 (K : PySem.W.Frag) (ta : TA) : TI := fun σ H R => ta σ H fun vs H1 => ∃ (a b c : Addr) (xs ys zs : List V), vs = [.ref a, .ref b, .ref c] ∧ SqT K H1 a xs ∧ SqT K H1 b ys ∧ SqT K H1 c zs ∧ R (Itz3 K a b c) H1
theorem no2 {x y z : Nat} (h1 : x ≠ y) (h2 : x ≠ z) : x ∉ [y, z] := fun h => by
  rcases List.mem_cons.mp h with e | e
  · exact h1 e
  · exact h2 (List.mem_singleton.mp e)
theorem sep_new (n a b c : Nat) (la : a < n) (lb : b < n) (lc : c < n) : ZipSep3 (n + 5) (n + 3) (n + 4) n (n + 1) (n + 2) [n, a] [n + 1, b] [n + 2, c] :=
  ⟨(show (n + 3 : Nat) ≠ n + 5 by omega),
    (show (n + 4 : Nat) ≠ n + 5 by omega),
    (show (n + 3 : Nat) ≠ n + 4 by omega),
    (show (n + 3 : Nat) ≠ n by omega),
    (List.mem_cons_self ..),
    (no2 (show (n + 5 : Nat) ≠ n by omega) (show (n + 5 : Nat) ≠ a by omega)),
    (no2 (show (n + 4 : Nat) ≠ n by omega) (show (n + 4 : Nat) ≠ a by omega)),
    (show (n + 3 : Nat) ≠ n + 1 by omega),
    (List.mem_cons_self ..),
    (no2 (show (n + 5 : Nat) ≠ n + 1 by omega) (show (n + 5 : Nat) ≠ b by omega)),
    (no2 (show (n + 4 : Nat) ≠ n + 1 by omega) (show (n + 4 : Nat) ≠ b by omega)),
    (show (n + 3 : Nat) ≠ n + 2 by omega),
    (List.mem_cons_self ..),
    (no2 (show (n + 5 : Nat) ≠ n + 2 by omega) (show (n + 5 : Nat) ≠ c by omega)),
    (no2 (show (n + 4 : Nat) ≠ n + 2 by omega) (show (n + 4 : Nat) ≠ c by omega)),
    (no2 (show (n : Nat) ≠ n + 1 by omega) (show (n : Nat) ≠ b by omega)),
    (no2 (show (n : Nat) ≠ n + 2 by omega) (show (n : Nat) ≠ c by omega)),
    (no2 (show (n + 1 : Nat) ≠ n by omega) (show (n + 1 : Nat) ≠ a by omega)),
    (no2 (show (n + 1 : Nat) ≠ n + 2 by omega) (show (n + 1 : Nat) ≠ c by omega)),
    (no2 (show (n + 2 : Nat) ≠ n by omega) (show (n + 2 : Nat) ≠ a by omega)),
    (no2 (show (n + 2 : Nat) ≠ n + 1 by omega) (show (n + 2 : Nat) ≠ b by omega))⟩
theorem pi_zip3 {X : Cx} {e e2 e3 : Expr} {ta : TA} {p pos tpos : Pos} {elts : List Expr} {kk : Nat} (hg : Gl X "zip") (hm : X.mg "zip" = none) (ha : PA X [e, e2, e3] ta)
    (hs : starEach [e, e2, e3] X.env = (false, eval e X.env) :: starEach [e2, e3] X.env := by rfl) (hpl : (backTo pos (starEach [e2, e3] X.env)).any (·.1) = false := by rfl) :
    PI X (.Tuple elts kk tpos) (.Call (.Name "zip" p) [e, e2, e3] [] pos) (iZip3 X.K ta) := by
  refine ⟨fun pins s σ H R I h => ?_⟩
  refine Call_ (ld_blt I hg hm PyProof.Rows.boot_zip (PyProof.Rows.callWith_type1 (thn (ha.run pos pins s σ H _ I h) fun us s1 ⟨vs, H1, I1, r1, q1⟩ => ?_) hs hpl))
  obtain ⟨a, b, c, xs, ys, zs, rfl, qa, qb, qc, q⟩ := q1
  obtain ⟨ua, us', rfl, r1', rr⟩ : ∃ ua us', us = ua :: us' ∧ RelV (.ref a) ua ∧ Vals [.ref b, .ref c] us' := by
    cases r1 with
    | cons r rr => exact ⟨_, _, rfl, r, rr⟩
  obtain ⟨ub, uc, rfl, r2', r3'⟩ := vals2 rr
  cases r1'
  cases r2'
  cases r3'
  obtain ⟨ia, ra, pa, _⟩ := I1.tuple qa
  obtain ⟨ib, rb, pb, _⟩ := I1.tuple qb
  obtain ⟨ic, rc, pc, _⟩ := I1.tuple qc
  have la : a < s1.heap.objs.size := by obtain ⟨_, e, _⟩ := pa; exact Heap.lt_size e
  have lb : b < s1.heap.objs.size := by obtain ⟨_, e, _⟩ := pb; exact Heap.lt_size e
  have lc : c < s1.heap.objs.size := by obtain ⟨_, e, _⟩ := pc; exact Heap.lt_size e
  refine zip_begins3 (begins_tuple a ia.toArray) (begins_tuple b ib.toArray) (begins_tuple c ic.toArray) pa pb pc fun h' hz hTI hTO g1 g2 g3 _ hk => wpAny_pyIter_zip hz ?_
  have I2 : Inv X pins σ H1 { s1 with heap := h' } := I1.kept (t' := s1.toks) hk
  have sep := sep_new s1.heap.objs.size a b c la lb lc
  refine ⟨s1.heap.objs.size + 5, [s1.heap.objs.size + 5, s1.heap.objs.size + 3, s1.heap.objs.size + 4, s1.heap.objs.size, s1.heap.objs.size + 1, s1.heap.objs.size + 2], _, _, H1, rfl, I2, turn_zip3 sep, ⟨hz, hTI, ⟨_, _, _, hTO⟩, ⟨_, g1, rfl, rfl⟩, ⟨_, g2, rfl, rfl⟩, ⟨_, g3, rfl, rfl⟩⟩, fun d hd => ?_, q⟩
  have hle : s1.heap.objs.size ≤ d := by
    rcases six hd with e | e | e | e | e | e <;> rw [e] <;> first | exact Nat.le_add_right _ _ | exact Nat.le_refl _
  exact I1.fpOk hle (I1.hok.fresh hle)
/-- a new triple of the i-th ones -/
def YTri (xs ys zs : List V) : Nat → Hp → V → Hp → Prop := fun i H v H' => ∃ T x y u, v = .ref T ∧ H T = none ∧ H' = upd H T (.tup [x, y, u]) ∧ xs[i]? = some x ∧ ys[i]? = some y ∧ zs[i]? = some u
section
variable {K : PySem.W.Frag} {a b c : Addr} {xs ys zs : List V}
theorem walk_zip3 (h1 : ys.length = xs.length) (h2 : zs.length = xs.length) : Walk (Itz3 K a b c) xs.length (fun H => H a = some (.tup xs) ∧ H b = some (.tup ys) ∧ H c = some (.tup zs)) (YTri xs ys zs) :=
  ⟨fun i H hi q => ⟨xs, ys, zs, SqT.of q.1, SqT.of q.2.1, SqT.of q.2.2, hi, by omega, by omega⟩, fun H q => ⟨xs, ys, zs, SqT.of q.1, SqT.of q.2.1, SqT.of q.2.2, rfl, h1.symm, h2.symm⟩,
    fun i H v H' _ q ⟨T, x, y, u, e1, e2, e3, e4, e5, e6⟩ => ⟨T, x, y, u, e1, e2, e3, e4 _ (SqT.of q.1), e5 _ (SqT.of q.2.1), e6 _ (SqT.of q.2.2)⟩⟩
theorem walk_zipT (h1 : ys.length = xs.length) : Walk (ItzT K a b) xs.length (fun H => H a = some (.tup xs) ∧ H b = some (.tup ys)) (YPair (fun i => xs[i]?) (fun i => ys[i]?)) :=
  ⟨fun i H hi q => ⟨xs, ys, xs[i], ys[i], SqT.of q.1, SqT.of q.2, List.getElem?_eq_getElem hi, List.getElem?_eq_getElem (by omega)⟩, fun H q => ⟨xs, ys, SqT.of q.1, SqT.of q.2, .inl (Nat.le_refl _)⟩,
    fun i H v H' _ q ⟨T, x, y, e1, e2, e3, e4, e5⟩ => ⟨T, x, y, e1, e2, e3, e4 _ (SqT.of q.1), e5 _ (SqT.of q.2)⟩⟩
end

/-! ### comprehensions that leave the state alone: a pure one; a dict -/
section
variable {J : It} {n : Nat} {G : Hp → Prop} {Y : Nat → Hp → V → Hp → Prop} {g : TG} {tt : TT} {te tk tv : TE} {vs : List Nat} {σ : L2.St} {Q : VK} {H1 : Hp} {K : PySem.W.Frag} {ta : TA}
/-- a comprehension with a test, nothing changed but new objects; B tells the test's word at each turn, v the item's value -/
theorem kLc_pure (wk : Walk J n G Y) (hn : n ≤ 100000) (hG : ∀ H', Adv [] H1 H' → G H') (B : Nat → Bool) (v : Nat → V)
    (step : ∀ i x H H' (Kt : V → Hp → Prop) (Kf : Hp → Prop), i < n → Adv [] H1 H → Y i H x H' → (B i = true → ∀ H4, Adv [] H H4 → Kt (v i) H4) → (B i = false → ∀ H3, Adv [] H H3 → Kf H3) →
      g x (wipe σ vs) H' fun σ2 H2 => wipe σ2 vs = wipe σ vs ∧ tt σ2 H2 fun b H3 => if b = true then te σ2 H3 Kt else Kf H3)
    (k : ∀ p H', H1 p = none → Adv [] H1 H' → H' p = some (.lst (((List.range n).filter B).map v)) → Q (.ref p) H') : kLc J g tt te vs σ Q H1 := by
  intro D hD
  refine lc_it wk (fun i H => i ≤ n ∧ Adv [] H1 H ∧ H D = some (.lst (((List.range i).filter B).map v))) ⟨Nat.zero_le _, Adv.new hD, upd_same⟩ (fun i H _ p => hG H p.2.1) (fun i x H H' hi p y => ?_) fun H p => k D H hD p.2.1 p.2.2
  obtain ⟨_, g1, e1⟩ := p
  have hlen : (((List.range i).filter B).map v).length ≤ 100000 := by
    rw [List.length_map]
    refine Nat.le_trans (List.length_filter_le ..) ?_
    rw [List.length_range]
    omega
  refine step i x H H' _ _ hi g1 y (fun hb H4 g4 => ?_) fun hb H3 g3 => ?_
  · have e4 := g4.keep _ _ (fun z => nomatch z) e1
    refine ⟨_, e4, Nat.lt_of_lt_of_le (Nat.lt_succ_of_le hlen) (by decide), hi, (g1.trans g4).mut hD e4 (fun _ z => by cases z), ?_⟩
    rw [upd_same, List.range_succ, List.filter_append, List.map_append]
    simp [hb]
  · refine ⟨hi, g1.trans g3, ?_⟩
    rw [g3.keep _ _ (fun z => nomatch z) e1, List.range_succ, List.filter_append, List.map_append]
    simp [hb]
theorem kLcR_pure {n : Nat} (hn : n ≤ 100000) (B : Nat → Bool) (v : Nat → V)
    (step : ∀ i H (Kt : V → Hp → Prop) (Kf : Hp → Prop), i < n → Adv [] H1 H → (B i = true → ∀ H4, Adv [] H H4 → Kt (v i) H4) → (B i = false → ∀ H3, Adv [] H H3 → Kf H3) →
      g (.int (i : Nat)) (wipe σ vs) H fun σ2 H2 => wipe σ2 vs = wipe σ vs ∧ tt σ2 H2 fun b H3 => if b = true then te σ2 H3 Kt else Kf H3)
    (k : ∀ p H', H1 p = none → Adv [] H1 H' → H' p = some (.lst (((List.range n).filter B).map v)) → Q (.ref p) H') : kLcR g tt te vs σ Q [.int (n : Nat)] H1 := by
  refine ⟨(n : Nat), rfl, by omega, by omega, ?_⟩
  rw [show ((n : Nat) : Int).toNat = n by omega]
  refine kLc_pure walk_range hn (fun _ _ => trivial) B v (fun i x H H' Kt Kf hi g1 y kt kf => ?_) k
  obtain ⟨rfl, rfl⟩ := y
  show g (.int ((0 : Int) + (i : Nat))) _ _ _
  rw [Int.zero_add]
  exact step i H' Kt Kf hi g1 kt kf
/-- over three tuples of one length -/
def kLc3 (K : PySem.W.Frag) (g : TG) (tt : TT) (te : TE) (vs : List Nat) (σ : L2.St) (Q : VK) (ws : List V) (H1 : Hp) : Prop := ∃ (a b c : Addr) (xs ys zs : List V), ws = [.ref a, .ref b, .ref c] ∧ SqT K H1 a xs ∧ SqT K H1 b ys ∧ SqT K H1 c zs ∧ kLc (Itz3 K a b c) g tt te vs σ Q H1
theorem w_lc3 (h : ta σ H1 (kLc3 K g tt te vs σ Q)) : tLc (iZip3 K ta) g tt te vs σ H1 Q := h
/-- a dict is made, turn by turn -/
def kDc (J : It) (g : TG) (tt : TT) (tk tv : TE) (vs : List Nat) (σ : L2.St) (Q : VK) (H1 : Hp) : Prop := ∀ D, H1 D = none → ∃ W : Nat → Nat → Hp → Prop, (∃ m, W 0 m (upd H1 D (.dK []))) ∧ ∀ i m H, W i m H →
  (J.stop i H ∧ Q (.ref D) H) ∨ (J.go i H ∧ ∃ Nx : Hp → Prop, (∀ H', Nx H' → ∃ m', m' < m ∧ W (i + 1) m' H') ∧ ∀ x H', J.yld i H x H' → g x (wipe σ vs) H' fun σ2 H2 => wipe σ2 vs = wipe σ vs ∧ tt σ2 H2 fun b H3 =>
    if b = true then tk σ2 H3 fun y H4 => tv σ2 H4 fun z H5 => ∃ kvs k, y = kV k ∧ H5 D = some (.dK kvs) ∧ kvs.length < sizeLine ∧ Nx (upd H5 D (.dK (putK kvs k z))) else Nx H3)
/-- all turns give: the dict holds the last of each key -/
def dictOf (key : Nat → Key) (val : Nat → V) : Nat → List (Key × V)
  | 0 => []
  | i + 1 => putK (dictOf key val i) (key i) (val i)
theorem dictOf_len (key : Nat → Key) (val : Nat → V) : ∀ n, (dictOf key val n).length ≤ n
  | 0 => Nat.le_refl _
  | i + 1 => Nat.le_trans (length_putK ..) (Nat.succ_le_succ (dictOf_len key val i))
theorem dictOf_val {key : Nat → Key} {val : Nat → V} : ∀ {n j : Nat}, (∀ a b, a < n → b < n → key a = key b → a = b) → j < n → valV (dictOf key val n) (key j) = some (val j)
  | i + 1, j, hk, hj => by
    show valV (putK (dictOf key val i) (key i) (val i)) (key j) = _
    rw [valV_put]
    by_cases e : key j = key i
    · have ej := hk j i hj (Nat.lt_succ_self i) e
      subst ej
      rw [if_pos rfl]
    · rw [if_neg e]
      refine dictOf_val (fun a b ha hb => hk a b (Nat.lt_succ_of_lt ha) (Nat.lt_succ_of_lt hb)) ?_
      have : j ≠ i := fun z => e (by rw [z])
      omega
theorem kDc_pure (wk : Walk J n G Y) (hn : n ≤ 100000) (hG : ∀ H', Adv [] H1 H' → G H') (key : Nat → Key) (val : Nat → V)
    (step : ∀ i x H H' (Kt : V → V → Hp → Prop), i < n → Adv [] H1 H → Y i H x H' → (∀ H4, Adv [] H H4 → Kt (kV (key i)) (val i) H4) → g x (wipe σ vs) H' fun σ2 H2 => wipe σ2 vs = wipe σ vs ∧ tk σ2 H2 fun y H4 => tv σ2 H4 (Kt y))
    (k : ∀ p H', H1 p = none → Adv [] H1 H' → H' p = some (.dK (dictOf key val n)) → Q (.ref p) H') : kDc J g tYes tk tv vs σ Q H1 := by
  intro D hD
  refine ⟨fun i m H => m = n - i ∧ i ≤ n ∧ Adv [] H1 H ∧ H D = some (.dK (dictOf key val i)), ⟨n, by simp, Nat.zero_le _, Adv.new hD, upd_same⟩, ?_⟩
  rintro i m H ⟨rfl, hi, g1, e1⟩
  have q := hG H g1
  by_cases hlt : i < n
  · refine .inr ⟨wk.goes i H hlt q, fun H' => i + 1 ≤ n ∧ Adv [] H1 H' ∧ H' D = some (.dK (dictOf key val (i + 1))), fun H' p' => ⟨n - (i + 1), by omega, rfl, p'⟩, fun x H' y => ?_⟩
    refine step i x H H' (fun y z H5 => ∃ kvs k, y = kV k ∧ H5 D = some (.dK kvs) ∧ kvs.length < sizeLine ∧ (fun H' => i + 1 ≤ n ∧ Adv [] H1 H' ∧ H' D = some (.dK (dictOf key val (i + 1)))) (upd H5 D (.dK (putK kvs k z)))) hlt g1 (wk.yields i H x H' hlt q y) fun H4 g4 => ?_
    have e4 := g4.keep _ _ (fun z => nomatch z) e1
    exact ⟨_, key i, rfl, e4, Nat.lt_of_le_of_lt (dictOf_len key val i) (Nat.lt_of_lt_of_le (show i < 100001 by omega) (by decide)), hlt, (g1.trans g4).mut hD e4 (fun _ z => by cases z), upd_same⟩
  · have e : i = n := by omega
    subst e
    exact .inl ⟨wk.stops H q, k D H hD g1 e1⟩
/-- a dict over zip(a, b) of tuples; over a tuple -/
def kDcZ (K : PySem.W.Frag) (g : TG) (tt : TT) (tk tv : TE) (vs : List Nat) (σ : L2.St) (Q : VK) (ws : List V) (H1 : Hp) : Prop := ∃ a b xs ys, ws = [.ref a, .ref b] ∧ ((SqL K H1 a xs ∧ SqL K H1 b ys ∧ kDc (Itz K a b) g tt tk tv vs σ Q H1) ∨ (SqT K H1 a xs ∧ SqT K H1 b ys ∧ kDc (ItzT K a b) g tt tk tv vs σ Q H1))
theorem w_dcZ (h : ta σ H1 (kDcZ K g tt tk tv vs σ Q)) : tDc (iZipA K ta) g tt tk tv vs σ H1 Q := h
def kDcT (K : PySem.W.Frag) (g : TG) (tt : TT) (tk tv : TE) (vs : List Nat) (σ : L2.St) (Q : VK) (x : V) (H1 : Hp) : Prop := ∃ a, x = .ref a ∧ (∃ xs, SqT K H1 a xs) ∧ kDc (Itt K a) g tt tk tv vs σ Q H1
theorem w_dcT {tl : TE} (h : tl σ H1 (kDcT K g tt tk tv vs σ Q)) : tDc (iTup K tl) g tt tk tv vs σ H1 Q := h
theorem w_dnew {σ : L2.St} {H : Hp} (q : ∀ r H', H r = none → Adv [] H H' → H' r = some (.dK []) → Q (.ref r) H') : tDNewK σ H Q := w_new q
/-! pairs and triples taken apart -/
theorem w_gtup {n : Nat} {t : TGs} {a : Addr} {xs : List V} {σ : L2.St} {H : Hp} {Q : L2.St → Hp → Prop} (h : SqT K H a xs) (hl : xs.length = n) (q : t xs σ H Q) : gTup K n t (.ref a) σ H Q := ⟨a, xs, rfl, h, hl, q⟩
theorem w_gcons {t : TG} {u : TGs} {v : V} {r : List V} {σ : L2.St} {H : Hp} {Q : L2.St → Hp → Prop} (q : t v σ H fun σ' H' => u r σ' H' Q) : gCons t u (v :: r) σ H Q := ⟨v, r, rfl, q⟩
theorem w_gnil {σ : L2.St} {H : Hp} {Q : L2.St → Hp → Prop} (q : Q σ H) : gNil [] σ H Q := ⟨rfl, q⟩
end
end AW
/-! dicts asked, tuple(..), slices of tuples; what the law speaks of: sayings, worlds, models -/
namespace AW
open PySem PySem.Spec PyProof.Rows L2 RZ
section
variable {σ : L2.St} {H : Hp} {Q : VK} {ta tb te td ty : TE} {K : PySem.W.Frag}
/-- keywords alone, in the parameters' order -/
def gK {α : Type} : List α → List α → List α
  | [], zs => zs
  | _ :: _, _ => []
theorem w_callK {sp : Sp} {E : XK} {tk : TA} (h : tk σ H fun zs H2 => sp zs H2 Q E) : tCallK sp gK E tNil tk σ H Q := h
def kDGet (x y : V) (H : Hp) (Q : VK) : Prop := ∃ a v, x = .ref a ∧ DGet H a y (some v) ∧ Q v H
theorem w_dg (h : td σ H fun x H1 => ty σ H1 fun y H2 => kDGet x y H2 Q) : tDGet td ty σ H Q := h
theorem kDGet_i {d : Addr} {kvs : List (Key × V)} {k : Key} {v : V} (h : H d = some (.dK kvs)) (e : valV kvs k = some v) (q : Q v H) : kDGet (.ref d) (kV k) H Q := ⟨d, v, rfl, e ▸ DGet.k h, q⟩
def kDPut (x y v : V) (H : Hp) (N : Hp → Prop) : Prop := ∃ a H4, x = .ref a ∧ DPut H a y v H4 ∧ N H4
theorem w_dput {D : Ends} {tv : TE} (h : tv σ H fun v H1 => td σ H1 fun x H2 => ty σ H2 fun y H3 => kDPut x y v H3 (D.nx σ)) : sDPut td ty tv D σ H := h
theorem kDPut_i {d : Addr} {kvs : List (Key × V)} {k : Key} {v : V} {N : Hp → Prop} (h : H d = some (.dK kvs)) (hl : kvs.length < 100000) (q : N (upd H d (.dK (putK kvs k v)))) : kDPut (.ref d) (kV k) v H N :=
  ⟨d, _, rfl, DPut.k h (Nat.lt_of_lt_of_le hl (by decide)), q⟩
theorem w_nT {A B : Prop} (h : A) : if (!true) = true then B else A := h
theorem w_nF {A B : Prop} (h : B) : if (!false) = true then B else A := h
/-- tuple(x) -/
theorem w_tup1 (h : ta σ H fun x H1 => kTup K x H1 Q) : tThen ta (kTup K) σ H Q := h
theorem w_tupL {p : Addr} {xs : List V} (h : SqL K H p xs) (q : ∀ r H', H r = none → Adv [] H H' → H' r = some (.tup xs) → Q (.ref r) H') : kTup K (.ref p) H Q := .inl ⟨p, xs, rfl, h, w_new q⟩
/-- a part of a tuple that is not the whole -/
theorem w_slT {p : Addr} {xs : List V} {lo hi : Option Int} (h : H p = some (.tup xs)) (hn : ¬ (HT.sIx xs.length 0 lo = 0 ∧ HT.sIx xs.length xs.length hi = xs.length)) (q : ∀ r H', H r = none → Adv [] H H' → H' r = some (.tup (cutV xs lo hi)) → Q (.ref r) H') : rSlA K (.ref p) lo hi H Q :=
  ⟨p, xs, rfl, SqT.of h, fun z => absurd z hn, fun _ => w_new q⟩
/-- tuples joined, none of them empty -/
theorem w_catT {a b : Addr} {xs ys : List V} (h1 : H a = some (.tup xs)) (h2 : H b = some (.tup ys)) (hz : xs.length + ys.length ≤ 100000) (q0 : xs = [] → Q (.ref b) H) (q1 : xs ≠ [] → ys = [] → Q (.ref a) H)
    (q : ∀ r H', H r = none → Adv [] H H' → H' r = some (.tup (xs ++ ys)) → Q (.ref r) H') : rCatA K (.ref a) (.ref b) H Q :=
  ⟨a, b, xs, ys, rfl, rfl, SqT.of h1, SqT.of h2, Nat.le_trans hz (by decide), q0, q1, fun _ _ => w_new q⟩
/-- joined, whatever they are: a tuple that holds both -/
theorem w_catT' {a b : Addr} {xs ys : List V} (h1 : H a = some (.tup xs)) (h2 : H b = some (.tup ys)) (hz : xs.length + ys.length ≤ 100000) (q : ∀ r H', Adv [] H H' → H' r = some (.tup (xs ++ ys)) → Q (.ref r) H') : rCatA K (.ref a) (.ref b) H Q :=
  w_catT h1 h2 hz (fun e => q _ _ (.refl _ _) (by rw [e]; exact h2)) (fun _ e => q _ _ (.refl _ _) (by rw [e, List.append_nil]; exact h1)) fun r H' _ a e => q r H' a e
end
/-- the dict at d tells the value of each of these names -/
def WD (H : Hp) (d : Addr) (names : List Str) (w : Str → Int) : Prop := ∃ kvs, H d = some (.dK kvs) ∧ ∀ x ∈ names, valV kvs (Sum.inr x) = some (.int (w x))
theorem WD.up {H H' : Hp} {d : Addr} {names : List Str} {w : Str → Int} (h : WD H d names w) (e : Adv [] H H') : WD H' d names w := by
  obtain ⟨kvs, h1, h2⟩ := h
  exact ⟨kvs, e.keep _ _ (fun z => nomatch z) h1, h2⟩
theorem WD.go {st cs : Addr} {H H' : Hp} {d : Addr} {names : List Str} {w : Str → Int} (h : WD H d names w) (hs : StOk st cs H) (e : Go st cs H H') : WD H' d names w := by
  obtain ⟨kvs, h1, h2⟩ := h
  obtain ⟨_, _, _, _, _, _, h3, _⟩ := hs
  exact ⟨kvs, e.keep (ne_of h1 h3 fun z => by cases z) h1, h2⟩
theorem WD.get {H : Hp} {Q : VK} {d : Addr} {names : List Str} {w : Str → Int} {x : Str} (h : WD H d names w) (hx : x ∈ names) (q : Q (.int (w x)) H) : kDGet (.ref d) (.str x) H Q := by
  obtain ⟨kvs, h1, h2⟩ := h
  exact kDGet_i (k := Sum.inr x) h1 (h2 x hx) q

/-! ### sayings -/
inductive Say where
  | works (xs : List Str) (ls ns : List Int) (room : Int)
  | round (xs : List Str)
def sayD : Say → PyData
  | .works xs ls ns room => .tuple [.str "works", .tuple (xs.map .str), .tuple (ls.map .int), .tuple (ns.map .int), .int room]
  | .round xs => .tuple [.str "round", .tuple (xs.map .str)]
def Say.names : Say → List Str
  | .works xs _ _ _ => xs
  | .round xs => xs
def Say.ok : Say → Prop
  | .works xs ls ns room => ls.length = xs.length ∧ ns.length = xs.length ∧ 0 ≤ room ∧ xs.length ≤ 100
  | .round xs => 0 < xs.length ∧ xs.length ≤ 100
/-- what stands at t -/
def load (w : Str → Int) (xs : List Str) (ls ns : List Int) (t : Int) : Int :=
  (((List.range xs.length).filter fun i => decide (w (xs.getD i "") ≤ t) && decide (t < w (xs.getD i "") + ls.getD i 0)).map fun i => ns.getD i 0).sum
/-- the walk of the program: m turns are left, from the place p -/
def walkP (w : Str → Int) (xs : List Str) : Nat → Nat → Bool
  | 0, _ => false
  | m + 1, p =>
    let q := w (xs.getD p "")
    if q = 0 then decide (m = 0) else if 0 < q ∧ q < xs.length then walkP w xs m q.toNat else false
/-- the places that are met: m turns are left, from the place p -/
def goP (w : Str → Int) (xs : List Str) : Nat → Nat → List Int
  | 0, _ => []
  | m + 1, p => if 0 ≤ w (xs.getD p "") ∧ w (xs.getD p "") < xs.length then w (xs.getD p "") :: goP w xs m (w (xs.getD p "")).toNat else []
theorem goP_succ {w : Str → Int} {xs : List Str} {m p : Nat} : goP w xs (m + 1) p = if 0 ≤ w (xs.getD p "") ∧ w (xs.getD p "") < xs.length then w (xs.getD p "") :: goP w xs m (w (xs.getD p "")).toNat else [] := rfl
def holdP (w : Str → Int) : Say → Bool
  | .works xs ls ns room => xs.all fun x => decide (load w xs ls ns (w x) ≤ room)
  | .round xs => walkP w xs xs.length 0
theorem is_works {H : Hp} {v : V} {xs : List Str} {ls ns : List Int} {room : Int} (h : Is H (sayD (.works xs ls ns room)) v) :
    ∃ a b c d, v = .ref a ∧ H a = some (.tup [.str "works", .ref b, .ref c, .ref d, .int room]) ∧ H b = some (.tup (xs.map V.str)) ∧ H c = some (.tup (ls.map V.int)) ∧ H d = some (.tup (ns.map V.int)) := by
  obtain ⟨a, vs, rfl, e, h⟩ := h.tup_inv
  cases h with
  | cons h1 h =>
    cases h with
    | cons h2 h =>
      cases h with
      | cons h3 h =>
        cases h with
        | cons h4 h =>
          cases h with
          | cons h5 h =>
            cases h
            cases h1
            cases h5
            obtain ⟨b, v2, rfl, e2, t2⟩ := h2.tup_inv
            obtain ⟨c, v3, rfl, e3, t3⟩ := h3.tup_inv
            obtain ⟨d, v4, rfl, e4, t4⟩ := h4.tup_inv
            rw [t2.strs_inv] at e2
            rw [t3.ints_inv] at e3
            rw [t4.ints_inv] at e4
            exact ⟨a, b, c, d, rfl, e, e2, e3, e4⟩
theorem is_round {H : Hp} {v : V} {xs : List Str} (h : Is H (sayD (.round xs)) v) : ∃ a b, v = .ref a ∧ H a = some (.tup [.str "round", .ref b]) ∧ H b = some (.tup (xs.map V.str)) := by
  obtain ⟨a, vs, rfl, e, h⟩ := h.tup_inv
  cases h with
  | cons h1 h =>
    cases h with
    | cons h2 h =>
      cases h
      cases h1
      obtain ⟨b, v2, rfl, e2, t2⟩ := h2.tup_inv
      rw [t2.strs_inv] at e2
      exact ⟨a, b, rfl, e, e2⟩
end AW
/-! a dict comprehension that is given to a name -/
namespace AW
open PySem PySem.Spec PyProof.Rows L2 RZ
section
variable {X : Cx}
theorem ps_setDc {i : Nat} {y : Str} {py : Pos} {kx vx tg iter : Expr} {ifs : List Expr} {scope : Scope} {own : List (Str × Nat)} {pos spos : Pos} {wi : TI} {g : TG} {tt : TT} {tk tv : TE}
    (hc : X.calm = true) (hN : X.N.Nodup) (hy : X.N[i]? = some y) (hyl : X.env.scope.names.lookup y = some .local)
    (hsw : swapsWith (.DictComp kx vx [⟨tg, iter, ifs, 0⟩] scope pos) (some (.Name y py)) spos.line X.env = pure true)
    (hi : PI X tg iter wi) (ok : BlkOk X.N X.env.scope scope own)
    (hg : ∀ s H C cl fp, PG (X.blk s H scope (compEnvC scope cl C X.env) fp) tg g)
    (ht : ∀ s H C cl fp, PTs (X.blk s H scope (compEnvC scope cl C X.env) fp) ifs tt)
    (hk : ∀ s H C cl fp, PE (X.blk s H scope (compEnvC scope cl C X.env) fp) kx tk)
    (hv : ∀ s H C cl fp, PE (X.blk s H scope (compEnvC scope cl C X.env) fp) vx tv)
    (hs : ∀ x, foldedSetIterable iter X.env x = pure x := by intro _; rfl) :
    PS X (.Assign [.Name y py] (.DictComp kx vx [⟨tg, iter, ifs, 0⟩] scope pos) spos) (tAsg (tDc wi g tt tk tv (own.map (·.2))) (gName i)) := by
  constructor
  intro pins s σ H D I h
  have h2 : tDc wi g tt tk tv (own.map (·.2)) σ H (fun x H1 => D.nx (σ.set i (some x)) H1) := h
  have core := dc_core (use := some (assign (.Name y py) X.env)) (pos' := firstIterPos [⟨tg, iter, ifs, 0⟩] pos) (pos := pos) (Qf := fun _ s' => SP X pins D .next s') hc hN I hi ok hg ht hk hv hs h2 fun L C s' m H' I' q hn f => ?_
  · rw [exec_Assign_Name_used _ _ _ _ hsw]
    apply wpAny_bind
    apply wpAny_standAt
    apply wpAny_bind
    show wpAny _ X.A (do let _ ← comprehension (.DictComp kx vx [⟨tg, iter, ifs, 0⟩] scope pos) scope X.env (firstIterPos [⟨tg, iter, ifs, 0⟩] pos) newDict false (eval iter X.env) (some (assign (.Name y py) X.env))) _ _ s
    apply wpAny_bind
    exact thn core fun _ s' hq => wpAny_pure (wpAny_pure hq)
  · show wpAny _ _ (assign (.Name y py) X.env (.ref L)) _ _ _
    apply wpAny_assign_Name
    refine store_ok2 (v := V.ref L) I' hN hy (.inl hyl) rfl (fun s2 I2 z => ?_) (.inr hyl)
    obtain ⟨a, sb, ha⟩ := z
    obtain ⟨f0, f1, f2, f3, f4, f5⟩ := f
    have hCa : C ≠ a := by
      rcases ha with z | z
      · rw [z]
        exact f1
      · exact fun e => f4 y a z e.symm
    refine ⟨m, hn.sameBut sb hCa, fun h3 sb3 => ?_⟩
    exact ⟨σ.set i (some (.ref L)), H', I2.turned (t' := s2.toks) (fun b o hb e => (sb3.2 b hb).trans e) f0 f1 f3 f4 f5, q⟩
theorem sw_trueD {kx vx : Expr} {gs : List Comprehension} {scope : Scope} {pos py : Pos} {y : Str} {l : Nat} {env : Env} (hk : env.scope.kind = .function) (hy : env.scope.names.lookup y = some .local) (hl : (py.line == pos.line) = true)
    (ha : (scope.names.any fun (n, k) => n == y && (k == .local || k == .cell)) = false) : swapsWith (.DictComp kx vx gs scope pos) (some (.Name y py)) l env = pure true := by
  have e1 : env.kindOf y = some .local := hy
  have e2 : env.blockKind = .function := by
    unfold Env.blockKind
    rw [hk]
    rfl
  unfold swapsWith
  simp only [e2, e1, ha, Expr.pos, hl]
  rfl
end
/-! ### models -/
abbrev nix : Str := Str.ofString ""
def itD (p : Str × Say) : PyData := .tuple [.str p.1, sayD p.2]
def sfD (p : Str × Say × Int) : PyData := .tuple [.str p.1, sayD p.2.1, .int p.2.2]
def domD (p : Str × List Int) : PyData := .tuple [.str p.1, .tuple (p.2.map .int)]
def modD (doms : List (Str × List Int)) (firm : List (Str × Say)) (soft : List (Str × Say × Int)) : PyData := .tuple [.tuple (doms.map domD), .tuple (firm.map itD), .tuple (soft.map sfD)]
/-- the world of a filling -/
def wOf (names : List Str) (f : List Int) (x : Str) : Int := f.getD (names.idxOf x) 0
theorem is_mod {H : Hp} {v : V} {doms : List (Str × List Int)} {firm : List (Str × Say)} {soft : List (Str × Say × Int)} (h : Is H (modD doms firm soft) v) :
    ∃ a b c d xs ys zs, v = .ref a ∧ H a = some (.tup [.ref b, .ref c, .ref d]) ∧ H b = some (.tup xs) ∧ IsAll H (doms.map domD) xs ∧ H c = some (.tup ys) ∧ IsAll H (firm.map itD) ys ∧ H d = some (.tup zs) ∧ IsAll H (soft.map sfD) zs := by
  obtain ⟨a, vs, rfl, e, h⟩ := h.tup_inv
  cases h with
  | cons h1 h =>
    cases h with
    | cons h2 h =>
      cases h with
      | cons h3 h =>
        cases h
        obtain ⟨b, xs, rfl, e1, t1⟩ := h1.tup_inv
        obtain ⟨c, ys, rfl, e2, t2⟩ := h2.tup_inv
        obtain ⟨d, zs, rfl, e3, t3⟩ := h3.tup_inv
        exact ⟨a, b, c, d, xs, ys, zs, rfl, e, e1, t1, e2, t2, e3, t3⟩
theorem is_dom {H : Hp} {v : V} {p : Str × List Int} (h : Is H (domD p) v) : ∃ a b, v = .ref a ∧ H a = some (.tup [.str p.1, .ref b]) ∧ H b = some (.tup (p.2.map V.int)) := by
  obtain ⟨a, vs, rfl, e, h⟩ := h.tup_inv
  cases h with
  | cons h1 h =>
    cases h with
    | cons h2 h =>
      cases h
      cases h1
      obtain ⟨b, v2, rfl, e2, t2⟩ := h2.tup_inv
      rw [t2.ints_inv] at e2
      exact ⟨a, b, rfl, e, e2⟩
/-- an item of a model's lists: its name, its saying -/
def ItAt (H : Hp) (n : Str) (s : Say) (sv : V) (v : V) : Prop := ∃ a rest, v = .ref a ∧ H a = some (.tup (.str n :: sv :: rest)) ∧ Is H (sayD s) sv
theorem is_it {H : Hp} {v : V} {p : Str × Say} (h : Is H (itD p) v) : ∃ sv, ItAt H p.1 p.2 sv v := by
  obtain ⟨a, vs, rfl, e, h⟩ := h.tup_inv
  cases h with
  | cons h1 h =>
    cases h with
    | cons h2 h =>
      cases h
      cases h1
      exact ⟨_, a, _, rfl, e, h2⟩
theorem is_sf {H : Hp} {v : V} {p : Str × Say × Int} (h : Is H (sfD p) v) : ∃ sv, ItAt H p.1 p.2.1 sv v := by
  obtain ⟨a, vs, rfl, e, h⟩ := h.tup_inv
  cases h with
  | cons h1 h =>
    cases h with
    | cons h2 h =>
      cases h1
      exact ⟨_, a, _, rfl, e, h2⟩
/-- the items one after the other, their sayings' values beside -/
theorem items_of {H : Hp} : ∀ {all : List (Str × Say)} {xs : List V}, xs.length = all.length → (∀ (i : Nat) p x, all[i]? = some p → xs[i]? = some x → ∃ sv, ItAt H p.1 p.2 sv x) →
    ∃ svs : List V, svs.length = all.length ∧ ∀ (i : Nat) p x sv, all[i]? = some p → xs[i]? = some x → svs[i]? = some sv → ItAt H p.1 p.2 sv x
  | [], [], _, _ => ⟨[], rfl, fun i p x sv e => by simp at e⟩
  | p :: all, x :: xs, hl, h => by
    obtain ⟨sv, h0⟩ := h 0 p x rfl rfl
    obtain ⟨svs, h1, h2⟩ := items_of (all := all) (xs := xs) (Nat.succ.inj hl) fun i q y e1 e2 => h (i + 1) q y (by simpa using e1) (by simpa using e2)
    refine ⟨sv :: svs, by simp [h1], fun i q y tv e1 e2 e3 => ?_⟩
    cases i with
    | zero =>
      simp at e1 e2 e3
      subst e1 e2 e3
      exact h0
    | succ i => exact h2 i q y tv (by simpa using e1) (by simpa using e2) (by simpa using e3)
  | [], _ :: _, hl, _ => by simp at hl
  | _ :: _, [], hl, _ => by simp at hl
theorem nodup_inj {α : Type} {l : List α} (h : l.Nodup) {i j : Nat} {x : α} (a : l[i]? = some x) (b : l[j]? = some x) : i = j := L2.nd_ix h a b
end AW
/-! the mathematics: the greatest load, the walk around -/
namespace AW
open PySem PySem.Spec PyProof.Rows L2 RZ
/-- the law's greatest sum -/
def peakTo (w : Str → Int) (xs : List Str) (ls ns : List Int) : Nat → Int
  | 0 => 0
  | j + 1 => if load w xs ls ns (w (xs.getD j nix)) > peakTo w xs ls ns j then load w xs ls ns (w (xs.getD j nix)) else peakTo w xs ls ns j
theorem peakTo_le {w : Str → Int} {xs : List Str} {ls ns : List Int} {r : Int} : ∀ n, peakTo w xs ls ns n ≤ r ↔ 0 ≤ r ∧ ∀ j, j < n → load w xs ls ns (w (xs.getD j nix)) ≤ r
  | 0 => ⟨fun h => ⟨h, fun j hj => absurd hj (Nat.not_lt_zero _)⟩, fun h => h.1⟩
  | n + 1 => by
    have ih := peakTo_le (w := w) (xs := xs) (ls := ls) (ns := ns) (r := r) n
    show (if load w xs ls ns (w (xs.getD n nix)) > peakTo w xs ls ns n then load w xs ls ns (w (xs.getD n nix)) else peakTo w xs ls ns n) ≤ r ↔ _
    constructor
    · intro h
      have h1 : peakTo w xs ls ns n ≤ r ∧ load w xs ls ns (w (xs.getD n nix)) ≤ r := by split at h <;> omega
      have h2 := ih.mp h1.1
      exact ⟨h2.1, fun j hj => by
        by_cases e : j = n
        · rw [e]
          exact h1.2
        · exact h2.2 j (by omega)⟩
    · intro h
      have h1 := ih.mpr ⟨h.1, fun j hj => h.2 j (by omega)⟩
      have h2 := h.2 n (Nat.lt_succ_self n)
      split <;> omega
theorem peak_holds {w : Str → Int} {xs : List Str} {ls ns : List Int} {room : Int} (h : 0 ≤ room) : decide (peakTo w xs ls ns xs.length ≤ room) = holdP w (.works xs ls ns room) := by
  show _ = xs.all fun x => decide (load w xs ls ns (w x) ≤ room)
  rw [Bool.eq_iff_iff, decide_eq_true_iff, List.all_eq_true, peakTo_le]
  constructor
  · rintro ⟨_, h2⟩ x hx
    obtain ⟨i, hi, rfl⟩ := List.mem_iff_getElem.mp hx
    have := h2 i hi
    rw [getD_of (List.getElem?_eq_getElem hi)] at this
    exact decide_eq_true this
  · intro h2
    refine ⟨h, fun j hj => ?_⟩
    rw [getD_of (List.getElem?_eq_getElem hj)]
    exact of_decide_eq_true (h2 _ (List.getElem_mem hj))

/-! ### the walk -/
theorem walkP_succ {w : Str → Int} {xs : List Str} {m p : Nat} : walkP w xs (m + 1) p = (if w (xs.getD p nix) = 0 then decide (m = 0) else if 0 < w (xs.getD p nix) ∧ w (xs.getD p nix) < xs.length then walkP w xs m (w (xs.getD p nix)).toNat else false) := rfl
theorem walkP_one {w : Str → Int} {xs : List Str} : ∀ {k k' q : Nat}, walkP w xs k q = true → walkP w xs k' q = true → k = k'
  | 0, _, _, h, _ => by cases h
  | _ + 1, 0, _, _, h => by cases h
  | m + 1, m' + 1, q, h, h' => by
    rw [walkP_succ] at h h'
    by_cases e : w (xs.getD q nix) = 0
    · rw [if_pos e] at h h'
      rw [of_decide_eq_true h, of_decide_eq_true h']
    · rw [if_neg e] at h h'
      split at h
      · rename_i c
        rw [if_pos c] at h'
        rw [walkP_one h h']
      · cases h
/-- the place after i turns -/
def placeAt (w : Str → Int) (xs : List Str) : Nat → Nat
  | 0 => 0
  | i + 1 => (w (xs.getD (placeAt w xs i) nix)).toNat
theorem walkP_at {w : Str → Int} {xs : List Str} (h0 : 0 < xs.length) (h : walkP w xs xs.length 0 = true) : ∀ i, i < xs.length → placeAt w xs i < xs.length ∧ walkP w xs (xs.length - i) (placeAt w xs i) = true
  | 0, hi => ⟨hi, h⟩
  | i + 1, hi => by
    obtain ⟨h1, h2⟩ := walkP_at h0 h i (by omega)
    obtain ⟨m, hm⟩ : ∃ m, xs.length - i = m + 2 := ⟨xs.length - i - 2, by omega⟩
    rw [hm, walkP_succ] at h2
    by_cases e : w (xs.getD (placeAt w xs i) nix) = 0
    · rw [if_pos e] at h2
      exact absurd (of_decide_eq_true h2) (by omega)
    · rw [if_neg e] at h2
      split at h2
      · rename_i c
        refine ⟨by show (w (xs.getD (placeAt w xs i) nix)).toNat < _; omega, ?_⟩
        have : xs.length - (i + 1) = m + 1 := by omega
        rw [this]
        exact h2
      · cases h2
theorem nodup_short : ∀ (n : Nat) (l : List Nat), l.Nodup → (∀ x ∈ l, x < n) → l.length ≤ n
  | 0, l, _, h => by
    cases l with
    | nil => exact Nat.le_refl _
    | cons x l => exact absurd (h x (List.mem_cons_self ..)) (Nat.not_lt_zero _)
  | n + 1, l, hn, h => by
    have h1 := nodup_short n (l.erase n) (hn.erase n) fun x hx => by
      have hm := (hn.mem_erase_iff).mp hx
      have := h x hm.2
      have hne := hm.1
      omega
    by_cases hm : n ∈ l
    · rw [List.length_erase_of_mem hm] at h1
      omega
    · rw [List.erase_of_not_mem hm] at h1
      omega
/-- a round that is walked to its end has met every place -/
theorem walkP_all {w : Str → Int} {xs : List Str} (h : walkP w xs xs.length 0 = true) : ∀ x ∈ xs, 0 ≤ w x ∧ w x < xs.length := by
  intro x hx
  obtain ⟨q, hq, rfl⟩ := List.mem_iff_getElem.mp hx
  have h0 : 0 < xs.length := by omega
  have hat := walkP_at h0 h
  -- q is met
  obtain ⟨i, hi, ei⟩ : ∃ i, i < xs.length ∧ placeAt w xs i = q := by
    apply Classical.byContradiction
    intro hno
    have hn : ((List.range xs.length).map (placeAt w xs)).Nodup := by
      rw [List.Nodup, List.pairwise_map]
      refine List.Pairwise.imp_of_mem ?_ List.nodup_range
      intro a b ha hb hab e
      have ha := List.mem_range.mp ha
      have hb := List.mem_range.mp hb
      have h1 := (hat a ha).2
      have h2 := (hat b hb).2
      rw [e] at h1
      have := walkP_one h1 h2
      omega
    have hlen := nodup_short xs.length (q :: (List.range xs.length).map (placeAt w xs)) (by
      rw [List.nodup_cons]
      refine ⟨fun hm => ?_, hn⟩
      obtain ⟨i, hi, e⟩ := List.mem_map.mp hm
      exact hno ⟨i, List.mem_range.mp hi, e⟩) (fun y hy => by
        rcases List.mem_cons.mp hy with e | hm
        · rw [e]
          exact hq
        · obtain ⟨i, hi, e⟩ := List.mem_map.mp hm
          rw [← e]
          exact (hat i (List.mem_range.mp hi)).1)
    rw [List.length_cons, List.length_map, List.length_range] at hlen
    omega
  have h2 := (hat i hi).2
  obtain ⟨m, hm⟩ : ∃ m, xs.length - i = m + 1 := ⟨xs.length - i - 1, by omega⟩
  rw [hm, walkP_succ, ei, getD_of (List.getElem?_eq_getElem hq)] at h2
  by_cases e : w xs[q] = 0
  · rw [e]
    omega
  · rw [if_neg e] at h2
    split at h2
    · omega
    · cases h2
/-- the law's walk, all values being places -/
def walkL (w : Str → Int) (xs : List Str) : Nat → Nat → Bool
  | 0, _ => false
  | m + 1, p => if w (xs.getD p nix) = 0 then decide (m = 0) else walkL w xs m (w (xs.getD p nix)).toNat
theorem walkL_eq {w : Str → Int} {xs : List Str} (h : ∀ x ∈ xs, 0 ≤ w x ∧ w x < xs.length) : ∀ m p, p < xs.length → walkL w xs m p = walkP w xs m p
  | 0, _, _ => rfl
  | m + 1, p, hp => by
    rw [walkP_succ]
    show (if w (xs.getD p nix) = 0 then decide (m = 0) else walkL w xs m (w (xs.getD p nix)).toNat) = _
    have hx := h _ (List.getElem_mem hp)
    rw [getD_of (List.getElem?_eq_getElem hp)]
    by_cases e : w xs[p] = 0
    · rw [if_pos e, if_pos e]
    · rw [if_neg e, if_neg e, if_pos ⟨by omega, hx.2⟩]
      exact walkL_eq h m _ (by omega)
end AW
namespace AW
open PySem PySem.Spec PyProof.Rows L2 RZ
local macro_rules | `(tactic| walk_at "aw1") => `(tactic| first
  | (with_reducible refine w_seq ?_) | (with_reducible refine w_asg ?_) | (with_reducible refine w_gname ?_) | (with_reducible refine w_op ?_) | (with_reducible refine w_un ?_)
  | ((with_reducible refine' w_var ?h ?_); (case h => rfl)) | (with_reducible refine w_c ?_)
  | (with_reducible refine w_I0 ?_) | (with_reducible refine w_U ?_) | (with_reducible refine w_cb ?_) | (with_reducible refine w_nil ?_) | (with_reducible refine w_cons ?_) | (with_reducible refine w_call ?_)
  | (with_reducible refine w_test ?_) | (with_reducible refine w_B ?_) | (with_reducible refine w_bl ?_) | (with_reducible refine w_not ?_) | (with_reducible refine w_yes ?_) | (with_reducible refine iteT ?_) | (with_reducible refine w_nT ?_) | (with_reducible refine w_nF ?_) | (with_reducible refine iteF ?_) | (with_reducible refine w_and ?_) | (with_reducible refine w_or ?_)
  | (with_reducible refine w_andV ?_) | (with_reducible refine w_orV ?_) | (with_reducible refine w_notV ?_) | (with_reducible refine w_if ?_)
  | (with_reducible refine w_int1 ?_) | (with_reducible refine w_int1b ?_) | (with_reducible refine w_abs ?_) | (with_reducible refine w_max2 ?_) | (with_reducible refine w_min2 ?_)
  | ((with_reducible refine w_eq ?h ?_); (case h => rfl)) | ((with_reducible refine w_ne ?h ?_); (case h => rfl)) | (with_reducible refine w_isN ?_) | (with_reducible refine w_isB ?_) | (with_reducible refine w_chain ?_)
  | (with_reducible refine w_ret ?_) | (with_reducible refine w_drop ?_) | (with_reducible refine w_ifS ?_) | (with_reducible refine w_gsub ?_) | (with_reducible refine w_augS ?_) | (with_reducible refine w_ipI ?_) | (with_reducible refine w_next ?_)
  | (with_reducible refine w_forR ?_) | (with_reducible refine w_forR2 ?_) | (with_reducible refine w_forL ?_) | (with_reducible refine w_forT ?_) | (with_reducible refine w_lcR ?_) | (with_reducible refine w_lcL ?_) | (with_reducible refine w_lcT ?_) | (with_reducible refine w_sl ?_) | (with_reducible refine w_part ?_) | (with_reducible refine w_noPart ?_) | (with_reducible refine w_in ?_)
  | (with_reducible refine w_gcons ?_) | (with_reducible refine w_gnil ?_) | (with_reducible refine w_lc3 ?_) | (with_reducible refine w_dcZ ?_) | (with_reducible refine w_dcT ?_) | (with_reducible refine w_dg ?_) | (with_reducible refine w_callK ?_) | (with_reducible refine w_dput ?_) | (with_reducible refine w_tup1 ?_)
  | (with_reducible refine w_tup ?_) | (with_reducible refine w_lst ?_)
  | ((with_reducible refine w_I ?h ?_); (case h => first | (exact Or.inr ⟨by decide, by decide⟩) | (exact Or.inl ⟨by decide, by decide⟩) | (show (0 : Int) < _; decide) | (exact ⟨by decide, by decide, by decide⟩) | assumption)))
local macro_rules | `(tactic| walk_at "aw") => `(tactic| repeat (walk_at "aw1"))
/-! ### the draws: what each promises -/
def sp__law_mixed (_ : PySem.W.Frag) : Sp := fun vs H Q _ => ∃ a b : Int, vs = [.int a, .int b] ∧ ∀ n : Int, 0 ≤ n → Q (.int n) H
def sp__law_start (K : PySem.W.Frag) : Sp := fun vs H Q _ => ∃ (a : Addr) (ns : List Int), vs = [.ref a] ∧ SqL K H a (ns.map V.int) ∧ ns.length ≤ 63 ∧ ∀ st cs H', StOk st cs H' → Adv [] H H' → H st = none → Q (.ref st) H'
def sp__law_take (_ : PySem.W.Frag) : Sp := fun vs H Q _ => ∃ (st : Addr) (lim : Int), vs = [.ref st, .int lim] ∧ ∃ cs, StOk st cs H ∧ 0 < lim ∧ lim < 1073741824 ∧ ∀ n H', 0 ≤ n → n < lim → Go st cs H H' → Q (.int n) H'
def sp__law_pick (K : PySem.W.Frag) : Sp := fun vs H Q _ => ∃ (st p : Addr), vs = [.ref st, .ref p] ∧ ∃ cs xs, StOk st cs H ∧ ((SqL K H p xs ∧ p ≠ st) ∨ H p = some (.tup xs)) ∧ 0 < xs.length ∧ xs.length < 1000000 ∧ ∀ (i : Nat) v H', xs[i]? = some v → Go st cs H H' → Q v H'
def sp__law_shuffled (K : PySem.W.Frag) : Sp := fun vs H Q _ => ∃ (st p : Addr), vs = [.ref st, .ref p] ∧ ∃ cs xs, StOk st cs H ∧ SqL K H p xs ∧ p ≠ st ∧ xs.length ≤ 1000 ∧ ∀ q ys H', ys.Perm xs → H q = none → Go st cs H H' → H' q = some (.lst ys) → Q (.ref q) H'
def t__law_mixed  : TS := (tSeq (tAsg (tOp rModI (tCB rInt1 (tCons (tOp rAddI (tOp rAddI (tOp rMulI (tVar 0) (tC (.int 48271))) (tOp rMulI (tVar 1) (tC (.int 69621)))) (tC (.int 97))) tNil)) (tC (.int 2147483647))) (gName 2))
  (tSeq (tAsg (tOp rModI (tCB rInt1 (tCons (tOp rAddI (tOp rAddI (tOp rMulI (tVar 2) (tOp rAddI (tOp rAddI (tVar 2) (tOp rMulI (tC (.int 2)) (tVar 1))) (tC (.int 1)))) (tOp rMulI (tVar 1) (tC (.int 16807)))) (tC (.int 31))) tNil)) (tC (.int 2147483629))) (gName 3))
  (tRet (tOp rModI (tCB rInt1 (tCons (tOp rAddI (tOp rMulI (tVar 3) (tC (.int 40692))) (tVar 2)) tNil)) (tC (.int 2147483587))))))
def t__law_start (K : PySem.W.Frag) : TS := (tSeq (tAsg (tCB (rLen1 K) (tCons (tVar 0) tNil)) (gName 1))
  (tSeq (tFor (iList K (tSl (rSlL K) (tVar 0) tNoPart (tPart (tC (.int 63))))) (gName 2)
  (tAsg (tCall (sp__law_mixed K) [] E0 (tCons (tOp rAddI (tVar 1) (tVar 2)) (tCons (tC (.int 5)) tNil))) (gName 1)))
  (tRet (tLst (tCons (tC (.int 0)) (tCons (tC (.int 0)) (tCons (tC (.int 0)) (tCons (tVar 1) (tCons (tCB (rListOf K) (tCons (tSl (rSlL K) (tVar 0) tNoPart (tPart (tC (.int 63)))) tNil)) (tCons (tC (.int 0)) tNil))))))))))
def t__law_take (K : PySem.W.Frag) : TS := (tSeq (tAsg (tOp (rIxL K) (tVar 0) (tC (.int 4))) (gName 2))
  (tSeq (tAugS (tVar 0) (tC (.int 2)) (tC (.int 1)) (rIxL K) (ipI fun i j => i + j) rSetL)
  (tSeq (tIfS (tAnd (tTest (tOp rEq (tOp (rIxL K) (tVar 0) (tC (.int 0))) (tC (.int 0)))) (tTest (tOp rLtI (tOp (rIxL K) (tVar 0) (tC (.int 1))) (tCB (rLen1 K) (tCons (tVar 2) tNil))))) (tSeq (tAsg (tOp (rIxL K) (tVar 2) (tOp (rIxL K) (tVar 0) (tC (.int 1)))) (gName 3))
  (tSeq (tAugS (tVar 0) (tC (.int 1)) (tC (.int 1)) (rIxL K) (ipI fun i j => i + j) rSetL)
  (tSeq (tIfS (tTest (tOp rLtI (tCB rAbs (tCons (tVar 3) tNil)) (tOp rPowI (tC (.int 10)) (tC (.int 18))))) (tRet (tOp rModI (tCB rInt1 (tCons (tCall (sp__law_mixed K) [] E0 (tCons (tVar 3) (tCons (tOp (rIxL K) (tVar 0) (tC (.int 2))) tNil))) tNil)) (tVar 1))) tNext)
  (tSeq (tAsg (tCB rAbs (tCons (tVar 3) tNil)) (gSub (tVar 0) (tC (.int 0)) rSetL))
  (tAsg (tC (.int 60)) (gSub (tVar 0) (tC (.int 5)) rSetL)))))) tNext)
  (tSeq (tIfS (tTest (tOp rEq (tOp (rIxL K) (tVar 0) (tC (.int 0))) (tC (.int 0)))) (tRet (tOp rModI (tCB rInt1 (tCons (tCall (sp__law_mixed K) [] E0 (tCons (tOp (rIxL K) (tVar 0) (tC (.int 3))) (tCons (tOp (rIxL K) (tVar 0) (tC (.int 2))) tNil))) tNil)) (tVar 1))) tNext)
  (tSeq (tAsg (tOp rModI (tCB rInt1 (tCons (tOp (rIxL K) (tVar 0) (tC (.int 0))) tNil)) (tVar 1)) (gName 4))
  (tSeq (tAugS (tVar 0) (tC (.int 5)) (tC (.int 1)) (rIxL K) (ipI fun i j => i - j) rSetL)
  (tSeq (tAsg (tOp rMulI (tOp rDivI (tOp (rIxL K) (tVar 0) (tC (.int 0))) (tVar 1)) (tCB rInt1 (tCons (tOp rGtI (tOp (rIxL K) (tVar 0) (tC (.int 5))) (tC (.int 0))) tNil))) (gSub (tVar 0) (tC (.int 0)) rSetL))
  (tRet (tVar 4)))))))))
def t__law_pick (K : PySem.W.Frag) : TS := (tRet (tOp (rIxA K) (tVar 1) (tCall (sp__law_take K) [] E0 (tCons (tVar 0) (tCons (tCB (rLen1 K) (tCons (tVar 1) tNil)) tNil)))))
def t__law_shuffled (K : PySem.W.Frag) : TS := (tSeq (tAsg (tCB (rListOf K) (tCons (tVar 1) tNil)) (gName 2))
  (tSeq (tAsg (tLst tNil) (gName 3))
  (tSeq (tFor (iRng1 (tCons (tCB (rLen1 K) (tCons (tVar 1) tNil)) tNil)) (gName 4)
  (tSeq (tAsg (tCall (sp__law_take K) [] E0 (tCons (tVar 0) (tCons (tCB (rLen1 K) (tCons (tVar 2) tNil)) tNil))) (gName 5))
  (tSeq (tDrop (tBM K "list" rAppend (tVar 3) (tCons (tOp (rIxL K) (tVar 2) (tVar 5)) tNil)))
  (tAsg (tOp rCat (tSl (rSlL K) (tVar 2) tNoPart (tPart (tVar 5))) (tSl (rSlL K) (tVar 2) (tPart (tOp rAddI (tVar 5) (tC (.int 1)))) tNoPart)) (gName 2)))))
  (tRet (tVar 3)))))
theorem len__law_mixed {K : PySem.W.Frag} : ∀ (vs : List V) (H : Hp) (Q : VK) (E : XK), sp__law_mixed K vs H Q E → vs.length = 2 := fun vs H Q E h => by
  obtain ⟨_, _, rfl, _⟩ := h
  rfl
theorem pure__law_mixed {K : PySem.W.Frag} (vs : List V) (H : Hp) (Q : VK) (E : XK) (h : sp__law_mixed K vs H Q E) : t__law_mixed { nx := fun _ H' => Q .non H', rt := Q } (start ["number", "k", "first", "second"] vs) H := by
  obtain ⟨a, b, rfl, q⟩ := h
  show t__law_mixed _ [some (.int a), some (.int b), none, none] H
  unfold t__law_mixed
  walk_at "aw"
  refine w_I (.inl ⟨by omega, by omega⟩) ?_
  walk_at "aw"
  exact q _ (by omega)
theorem len__law_take {K : PySem.W.Frag} : ∀ (vs : List V) (H : Hp) (Q : VK) (E : XK), sp__law_take K vs H Q E → vs.length = 2 := fun vs H Q E h => by
  obtain ⟨_, _, rfl, _⟩ := h
  rfl
theorem pure__law_take {K : PySem.W.Frag} (vs : List V) (H : Hp) (Q : VK) (E : XK) (h : sp__law_take K vs H Q E) : t__law_take K { nx := fun _ H' => Q .non H', rt := Q } (start ["state", "limit", "cells", "cell", "value"] vs) H := by
  obtain ⟨st, lim, rfl, cs, ok, hl, hl2, q⟩ := h
  show t__law_take K _ [some (.ref st), some (.int lim), none, none, none] H
  have ok0 := ok
  obtain ⟨s0, s1, s2, s3, s5, ns, hst, h1, hne, hcs, hns⟩ := ok
  unfold t__law_take
  walk_at "aw"
  refine w_ixL (SqL.of hst) rfl ?_
  walk_at "aw"
  refine w_ixL (SqL.of hst) rfl ?_
  walk_at "aw"
  refine w_setL hst rfl ?_
  generalize hH1 : upd H st _ = H1
  have e1 : H1 st = some (.lst [.int s0, .int s1, .int (s2 + 1), .int s3, .ref cs, .int s5]) := by rw [← hH1, upd_same]; rfl
  have g1 : Go st cs H H1 := by
    rw [← hH1]
    exact ⟨Adv.lst hst, ⟨s0, s1, s2 + 1, s3, s5, ns, upd_same, h1, hne, by rw [upd_ne hne]; exact hcs, hns⟩⟩
  have c1 : H1 cs = some (.lst (ns.map V.int)) := g1.keep hne hcs
  clear hH1
  -- behind the first branch: s0 is 0 or not
  have rest : ∀ (H2 : Hp) (s0 s1 s5 : Int) (σ : L2.St) (y3 : Option V), σ = [some (.ref st), some (.int lim), some (.ref cs), y3, none] → 0 ≤ s1 → H2 st = some (.lst [.int s0, .int s1, .int (s2 + 1), .int s3, .ref cs, .int s5]) → Go st cs H H2 → (tSeq (tIfS (tTest (tOp rEq (tOp (rIxL K) (tVar 0) (tC (.int 0))) (tC (.int 0)))) (tRet (tOp rModI (tCB rInt1 (tCons (tCall (sp__law_mixed K) [] E0 (tCons (tOp (rIxL K) (tVar 0) (tC (.int 3))) (tCons (tOp (rIxL K) (tVar 0) (tC (.int 2))) tNil))) tNil)) (tVar 1))) tNext)
  (tSeq (tAsg (tOp rModI (tCB rInt1 (tCons (tOp (rIxL K) (tVar 0) (tC (.int 0))) tNil)) (tVar 1)) (gName 4))
  (tSeq (tAugS (tVar 0) (tC (.int 5)) (tC (.int 1)) (rIxL K) (ipI fun i j => i - j) rSetL)
  (tSeq (tAsg (tOp rMulI (tOp rDivI (tOp (rIxL K) (tVar 0) (tC (.int 0))) (tVar 1)) (tCB rInt1 (tCons (tOp rGtI (tOp (rIxL K) (tVar 0) (tC (.int 5))) (tC (.int 0))) tNil))) (gSub (tVar 0) (tC (.int 0)) rSetL))
  (tRet (tVar 4)))))) { nx := fun _ H' => Q .non H', rt := Q } σ H2 := by
    intro H2 s0 s1 s5 σ y3 eσ hs1 e2 g2
    subst eσ
    have hcs2 : H2 cs = some (.lst (ns.map V.int)) := g2.keep hne hcs
    walk_at "aw"
    refine w_ixL (SqL.of e2) rfl ?_
    walk_at "aw"
    refine w_iteB (fun _ => ?_) fun _ => ?_
    · walk_at "aw"
      refine w_ixL (SqL.of e2) rfl ?_
      walk_at "aw"
      refine w_ixL (SqL.of e2) rfl ?_
      walk_at "aw"
      refine ⟨_, _, rfl, fun n hn => ?_⟩
      walk_at "aw"
      exact q _ _ (Int.emod_nonneg _ (by omega)) (Int.emod_lt_of_pos _ hl) g2
    · walk_at "aw"
      refine w_ixL (SqL.of e2) rfl ?_
      walk_at "aw"
      refine w_ixL (SqL.of e2) rfl ?_
      walk_at "aw"
      refine w_setL e2 rfl ?_
      walk_at "aw"
      refine w_ixL SqL.upd rfl ?_
      walk_at "aw"
      refine w_I ⟨hl, hl2⟩ ?_
      walk_at "aw"
      refine w_ixL SqL.upd rfl ?_
      walk_at "aw"
      generalize hk : (if decide (0 < s5 - 1) = true then (1 : Int) else 0) = k
      have hk1 : -(2 ^ 64) < k ∧ k < 2 ^ 64 := by
        rw [← hk]
        split <;> exact ⟨by decide, by decide⟩
      refine w_I (.inr hk1) ?_
      walk_at "aw"
      refine w_setL upd_same rfl ?_
      walk_at "aw"
      refine q _ _ (Int.emod_nonneg _ (by omega)) (Int.emod_lt_of_pos _ hl) (g2.trans ?_)
      rw [upd_upd]
      exact ⟨Adv.lst e2, ⟨_, s1, s2 + 1, s3, s5 - 1, ns, upd_same, hs1, hne, by rw [upd_ne hne]; exact hcs2, hns⟩⟩
  walk_at "aw"
  refine w_ixL (SqL.of e1) rfl ?_
  walk_at "aw"
  refine w_iteB (fun hz => ?_) fun _ => ?_
  · walk_at "aw"
    refine w_ixL (SqL.of e1) rfl ?_
    walk_at "aw"
    refine w_lenL (SqL.of c1) ?_
    walk_at "aw"
    refine w_iteB (fun hlt => ?_) fun _ => ?_
    · rw [List.length_map] at hlt
      have hat : atI (ns.map V.int) s1 = some (.int (ns.getD s1.toNat 0)) := by
        have hj : s1.toNat < ns.length := by omega
        refine at_of (j := s1.toNat) (by omega) ?_
        rw [List.getElem?_map, List.getElem?_eq_getElem hj, List.getD_eq_getElem?_getD, List.getElem?_eq_getElem hj]
        rfl
      walk_at "aw"
      refine w_ixL (SqL.of e1) rfl ?_
      refine w_ixL (SqL.of c1) hat ?_
      generalize ns.getD s1.toNat 0 = cell
      walk_at "aw"
      refine w_ixL (SqL.of e1) rfl ?_
      walk_at "aw"
      refine w_setL e1 rfl ?_
      generalize hH2 : upd H1 st _ = H2
      have e2 : H2 st = some (.lst [.int s0, .int (s1 + 1), .int (s2 + 1), .int s3, .ref cs, .int s5]) := by rw [← hH2, upd_same]; rfl
      have g2 : Go st cs H H2 := g1.trans (by
        rw [← hH2]
        exact ⟨Adv.lst e1, ⟨s0, s1 + 1, s2 + 1, s3, s5, ns, upd_same, by omega, hne, by rw [upd_ne hne]; exact c1, hns⟩⟩)
      clear hH2
      walk_at "aw"
      refine w_iteB (fun _ => ?_) fun _ => ?_
      · walk_at "aw"
        refine w_ixL (SqL.of e2) rfl ?_
        walk_at "aw"
        refine ⟨_, _, rfl, fun n hn => ?_⟩
        walk_at "aw"
        exact q _ _ (Int.emod_nonneg _ (by omega)) (Int.emod_lt_of_pos _ hl) g2
      · walk_at "aw"
        refine w_setL e2 rfl ?_
        walk_at "aw"
        refine w_setL upd_same rfl ?_
        rw [upd_upd]
        refine rest _ (if cell < 0 then -cell else cell) (s1 + 1) 60 _ _ rfl (by omega) upd_same (g2.trans ?_)
        exact ⟨Adv.lst e2, ⟨_, s1 + 1, s2 + 1, s3, 60, ns, upd_same, by omega, hne, by rw [upd_ne hne]; exact g2.keep hne hcs, hns⟩⟩
    · exact rest _ _ _ _ _ _ rfl h1 e1 g1
  · exact rest _ _ _ _ _ _ rfl h1 e1 g1
theorem len__law_pick {K : PySem.W.Frag} : ∀ (vs : List V) (H : Hp) (Q : VK) (E : XK), sp__law_pick K vs H Q E → vs.length = 2 := fun vs H Q E h => by
  obtain ⟨_, _, rfl, _⟩ := h
  rfl
theorem pure__law_pick {K : PySem.W.Frag} (vs : List V) (H : Hp) (Q : VK) (E : XK) (h : sp__law_pick K vs H Q E) : t__law_pick K { nx := fun _ H' => Q .non H', rt := Q } (start ["state", "some"] vs) H := by
  obtain ⟨st, p, rfl, cs, xs, ok, hp, h0, hl, q⟩ := h
  show t__law_pick K _ [some (.ref st), some (.ref p)] H
  unfold t__law_pick
  walk_at "aw"
  rcases hp with ⟨hp, np⟩ | hp
  · refine w_lenL hp ?_
    walk_at "aw"
    refine ⟨st, _, rfl, cs, ok, by omega, by omega, fun n H' h1 h2 g => ?_⟩
    obtain ⟨v, hv⟩ := get_some (xs := xs) (i := n.toNat) (by omega)
    exact .inl (w_ixL (g.sql np hp) (at_nat h1 hv) (q _ _ _ hv g))
  · refine w_lenT (SqT.of hp) ?_
    walk_at "aw"
    refine ⟨st, _, rfl, cs, ok, by omega, by omega, fun n H' h1 h2 g => ?_⟩
    obtain ⟨v, hv⟩ := get_some (xs := xs) (i := n.toNat) (by omega)
    exact .inr (w_ixT (SqT.of (g.tk _ _ hp)) (at_nat h1 hv) (q _ _ _ hv g))
theorem len__law_start {K : PySem.W.Frag} : ∀ (vs : List V) (H : Hp) (Q : VK) (E : XK), sp__law_start K vs H Q E → vs.length = 1 := fun vs H Q E h => by
  obtain ⟨_, _, rfl, _⟩ := h
  rfl
theorem pure__law_start {K : PySem.W.Frag} (vs : List V) (H : Hp) (Q : VK) (E : XK) (h : sp__law_start K vs H Q E) : t__law_start K { nx := fun _ H' => Q .non H', rt := Q } (start ["script", "seed", "cell"] vs) H := by
  obtain ⟨a, ns, rfl, hs, hl, q⟩ := h
  show t__law_start K _ [some (.ref a), none, none] H
  have hcut : cutV (ns.map V.int) none (some 63) = ns.map V.int := by
    rw [cut_to _ (by omega)]
    exact List.take_of_length_le (by rw [List.length_map]; exact hl)
  unfold t__law_start
  walk_at "aw"
  refine w_lenL hs ?_
  walk_at "aw"
  refine w_slL hs fun r H1 nr a1 e1 => ?_
  rw [hcut] at e1
  refine kForL_i (xs := ns.map V.int) (fun i σ H' => ∃ s y, σ = [some (.ref a), some (.int s), y] ∧ H' = H1) (SqL.of e1) ⟨_, _, rfl, rfl⟩ (fun i σ H' hi p => ?_) (fun i v σ H' hv p => ?_) fun σ H' p => ?_
  · obtain ⟨_, _, _, rfl⟩ := p
    exact SqL.of e1
  · obtain ⟨s, y, rfl, rfl⟩ := p
    rw [List.getElem?_map] at hv
    obtain ⟨n, hn, rfl⟩ := Option.map_eq_some_iff.mp hv
    walk_at "aw"
    exact ⟨_, _, rfl, fun m hm => ⟨m, _, rfl, rfl⟩⟩
  · obtain ⟨s, y, rfl, rfl⟩ := p
    walk_at "aw"
    refine w_slL (a1.sql (fun z => nomatch z) hs) fun r2 H2 nr2 a2 e2 => ?_
    rw [hcut] at e2
    walk_at "aw"
    refine w_listOf (.inl (SqL.of e2)) fun r3 H3 nr3 a3 e3 => ?_
    walk_at "aw"
    refine w_lstD (by simp) fun st H4 nr4 a4 e4 => ?_
    have h3 : H st = none := a1.free (fun z => nomatch z) (a2.free (fun z => nomatch z) (a3.free (fun z => nomatch z) nr4))
    exact q st r3 H4 ⟨0, 0, 0, s, 0, ns, e4, by omega, ne_of_none e3 nr4, a4.keep _ _ (fun z => nomatch z) e3, hl⟩ (a1.trans (a2.trans (a3.trans a4))) h3
theorem len__law_shuffled {K : PySem.W.Frag} : ∀ (vs : List V) (H : Hp) (Q : VK) (E : XK), sp__law_shuffled K vs H Q E → vs.length = 2 := fun vs H Q E h => by
  obtain ⟨_, _, rfl, _⟩ := h
  rfl
theorem pure__law_shuffled {K : PySem.W.Frag} (vs : List V) (H : Hp) (Q : VK) (E : XK) (h : sp__law_shuffled K vs H Q E) : t__law_shuffled K { nx := fun _ H' => Q .non H', rt := Q } (start ["state", "some", "left", "found", "k", "at"] vs) H := by
  obtain ⟨st, p, rfl, cs, xs, ok, hp, np, hl, q⟩ := h
  show t__law_shuffled K _ [some (.ref st), some (.ref p), none, none, none, none] H
  unfold t__law_shuffled
  walk_at "aw"
  refine w_listOf (.inl hp) fun l H1 nl a1 e1 => ?_
  walk_at "aw"
  refine w_lstD (by simp) fun f H2 nf a2 e2 => ?_
  have g2 : Go st cs H H2 := (Go.of ok a1).new a2
  have nf0 : H f = none := a1.free (fun z => nomatch z) nf
  walk_at "aw"
  refine w_lenL (g2.sql np hp) ?_
  refine kForR_i (n := xs.length) (by omega) (fun i σ H' => ∃ y1 y2 l found left, σ = [some (.ref st), some (.ref p), some (.ref l), some (.ref f), y1, y2] ∧ Go st cs H H' ∧ H' f = some (.lst found) ∧ H' l = some (.lst left) ∧ H l = none ∧ l ≠ f ∧ found.length = i ∧ (found ++ left).Perm xs)
    ⟨none, none, l, [], xs, rfl, g2, e2, a2.keep _ _ (fun z => nomatch z) e1, nl, ne_of_none e1 nf, rfl, .refl _⟩ (fun i σ H' hi p => ?_) fun σ H' p => ?_
  · obtain ⟨y1, y2, l, found, left, rfl, g, ef, el, nl0, hlf, hlen, hperm⟩ := p
    have hll : left.length = xs.length - i := by
      have := hperm.length_eq
      rw [List.length_append] at this
      omega
    have nlst : l ≠ st := (ok.ne nl0).1
    have nfst : f ≠ st := (ok.ne nf0).1
    walk_at "aw"
    refine w_lenL (SqL.of el) ?_
    walk_at "aw"
    refine ⟨st, _, rfl, cs, g.ok, by omega, by omega, fun n H3 h1 h2 g3 => ?_⟩
    obtain ⟨v, hv⟩ := get_some (xs := left) (i := n.toNat) (by omega)
    have ef3 := g3.keep nfst ef
    have el3 := g3.keep nlst el
    walk_at "aw"
    refine w_app rfl ef3 ?_
    walk_at "aw"
    refine w_ixL (SqL.of el3) (at_nat h1 hv) ?_
    walk_at "aw"
    refine w_append ef3 (by omega) ?_
    have g4 := (g.trans g3).mutL (o := .lst (found ++ [v])) ok nf0 ef3
    have el4 : (upd H3 f (.lst (found ++ [v]))) l = some (.lst left) := by rw [upd_ne hlf]; exact el3
    walk_at "aw"
    refine w_slL (SqL.of el4) fun r H5 nr a5 e5 => ?_
    walk_at "aw"
    refine w_slL (SqL.of (a5.keep _ _ (fun z => nomatch z) el4)) fun r2 H6 nr2 a6 e6 => ?_
    walk_at "aw"
    rw [cut_to _ h1] at e5
    rw [cut_from _ (by omega)] at e6
    refine w_cat (a6.keep _ _ (fun z => nomatch z) e5) e6 (by rw [List.length_take, List.length_drop]; omega) fun r3 H7 nr3 a7 e7 => ?_
    walk_at "aw"
    have g7 : Go st cs H H7 := ((g4.new a5).new a6).new a7
    have ef7 : H7 f = some (.lst (found ++ [v])) := a7.keep _ _ (fun z => nomatch z) (a6.keep _ _ (fun z => nomatch z) (a5.keep _ _ (fun z => nomatch z) upd_same))
    have hn1 : (n + 1).toNat = n.toNat + 1 := by omega
    rw [hn1] at e7
    refine ⟨_, _, r3, _, _, rfl, g7, ef7, e7, ?_, (ne_of_none (a6.keep _ _ (fun z => nomatch z) (a5.keep _ _ (fun z => nomatch z) upd_same)) nr3).symm, by rw [List.length_append, hlen]; rfl, ?_⟩
    · exact ((g4.new a5).new a6).free ok nr3
    · refine List.Perm.trans ?_ hperm
      rw [List.append_assoc]
      refine List.Perm.append_left found ?_
      have hlt : n.toNat < left.length := (List.getElem?_eq_some_iff.mp hv).1
      have hd : left = left.take n.toNat ++ (v :: left.drop (n.toNat + 1)) := by
        have e := List.take_append_drop n.toNat left
        rw [List.drop_eq_getElem_cons hlt, (List.getElem?_eq_some_iff.mp hv).2] at e
        exact e.symm
      have hm := List.perm_middle (a := v) (l₁ := left.take n.toNat) (l₂ := left.drop (n.toNat + 1))
      rw [← hd] at hm
      exact hm.symm
  · obtain ⟨y1, y2, l, found, left, rfl, g, ef, el, nl0, hlf, hlen, hperm⟩ := p
    have hleft : left = [] := by
      have := hperm.length_eq
      rw [List.length_append] at this
      exact List.length_eq_zero_iff.mp (by omega)
    subst hleft
    rw [List.append_nil] at hperm
    walk_at "aw"
    exact q f found H' hperm nf0 g ef
end AW
namespace AW
open PySem PySem.Spec PyProof.Rows L2 RZ
local macro_rules | `(tactic| walk_at "aw1") => `(tactic| first
  | (with_reducible refine w_seq ?_) | (with_reducible refine w_asg ?_) | (with_reducible refine w_gname ?_) | (with_reducible refine w_op ?_) | (with_reducible refine w_un ?_)
  | ((with_reducible refine' w_var ?h ?_); (case h => rfl)) | (with_reducible refine w_c ?_)
  | (with_reducible refine w_I0 ?_) | (with_reducible refine w_U ?_) | (with_reducible refine w_cb ?_) | (with_reducible refine w_nil ?_) | (with_reducible refine w_cons ?_) | (with_reducible refine w_call ?_)
  | (with_reducible refine w_test ?_) | (with_reducible refine w_B ?_) | (with_reducible refine w_bl ?_) | (with_reducible refine w_not ?_) | (with_reducible refine w_yes ?_) | (with_reducible refine iteT ?_) | (with_reducible refine w_nT ?_) | (with_reducible refine w_nF ?_) | (with_reducible refine iteF ?_) | (with_reducible refine w_and ?_) | (with_reducible refine w_or ?_)
  | (with_reducible refine w_andV ?_) | (with_reducible refine w_orV ?_) | (with_reducible refine w_notV ?_) | (with_reducible refine w_if ?_)
  | (with_reducible refine w_int1 ?_) | (with_reducible refine w_int1b ?_) | (with_reducible refine w_abs ?_) | (with_reducible refine w_max2 ?_) | (with_reducible refine w_min2 ?_)
  | ((with_reducible refine w_eq ?h ?_); (case h => rfl)) | ((with_reducible refine w_ne ?h ?_); (case h => rfl)) | (with_reducible refine w_isN ?_) | (with_reducible refine w_isB ?_) | (with_reducible refine w_chain ?_)
  | (with_reducible refine w_ret ?_) | (with_reducible refine w_drop ?_) | (with_reducible refine w_ifS ?_) | (with_reducible refine w_gsub ?_) | (with_reducible refine w_augS ?_) | (with_reducible refine w_ipI ?_) | (with_reducible refine w_next ?_)
  | (with_reducible refine w_forR ?_) | (with_reducible refine w_forR2 ?_) | (with_reducible refine w_forL ?_) | (with_reducible refine w_forT ?_) | (with_reducible refine w_lcR ?_) | (with_reducible refine w_lcL ?_) | (with_reducible refine w_lcT ?_) | (with_reducible refine w_sl ?_) | (with_reducible refine w_part ?_) | (with_reducible refine w_noPart ?_) | (with_reducible refine w_in ?_)
  | (with_reducible refine w_gcons ?_) | (with_reducible refine w_gnil ?_) | (with_reducible refine w_lc3 ?_) | (with_reducible refine w_dcZ ?_) | (with_reducible refine w_dcT ?_) | (with_reducible refine w_dg ?_) | (with_reducible refine w_callK ?_) | (with_reducible refine w_dput ?_) | (with_reducible refine w_tup1 ?_)
  | (with_reducible refine w_tup ?_) | (with_reducible refine w_lst ?_)
  | ((with_reducible refine w_I ?h ?_); (case h => first | (exact Or.inr ⟨by decide, by decide⟩) | (exact Or.inl ⟨by decide, by decide⟩) | (show (0 : Int) < _; decide) | (exact ⟨by decide, by decide, by decide⟩) | assumption)))
local macro_rules | `(tactic| walk_at "aw") => `(tactic| repeat (walk_at "aw1"))
/-! ### the program's functions: what each promises -/
def sp__load (_ : PySem.W.Frag) : Sp := fun vs H Q _ => ∃ (v : V) (d : Addr) (t : Int), vs = [v, .ref d, .int t] ∧ ∃ xs ls ns room names w, Is H (sayD (.works xs ls ns room)) v ∧ WD H d names w ∧ (Say.works xs ls ns room).ok ∧ (∀ x ∈ xs, x ∈ names) ∧ ∀ H', Adv [] H H' → Q (.int (load w xs ls ns t)) H'
def sp__works_holds (_ : PySem.W.Frag) : Sp := fun vs H Q _ => ∃ (v : V) (d : Addr), vs = [v, .ref d] ∧ ∃ xs ls ns room names w, Is H (sayD (.works xs ls ns room)) v ∧ WD H d names w ∧ (Say.works xs ls ns room).ok ∧ (∀ x ∈ xs, x ∈ names) ∧ ∀ H', Adv [] H H' → Q (.bl (holdP w (.works xs ls ns room))) H'
def sp__round_holds (_ : PySem.W.Frag) : Sp := fun vs H Q _ => ∃ (v : V) (d : Addr), vs = [v, .ref d] ∧ ∃ xs names w, Is H (sayD (.round xs)) v ∧ WD H d names w ∧ (Say.round xs).ok ∧ (∀ x ∈ xs, x ∈ names) ∧ ∀ H', Adv [] H H' → Q (.bl (holdP w (.round xs))) H'
def sp__places_met (_ : PySem.W.Frag) : Sp := fun vs H Q _ => ∃ (b d : Addr), vs = [.ref b, .ref d] ∧ ∃ xs names w, H b = some (.tup (xs.map V.str)) ∧ WD H d names w ∧ 0 < xs.length ∧ xs.length ≤ 100 ∧ (∀ x ∈ xs, x ∈ names) ∧ ∀ p H', Adv [] H H' → H' p = some (.lst ((0 :: goP w xs xs.length 0).map V.int)) → Q (.ref p) H'
def sp_path_of (_ : PySem.W.Frag) : Sp := fun vs H Q _ => ∃ (v : V) (d : Addr), vs = [v, .ref d] ∧ ∃ xs names w, Is H (sayD (.round xs)) v ∧ WD H d names w ∧ (Say.round xs).ok ∧ (∀ x ∈ xs, x ∈ names) ∧ ∀ p H', Adv [] H H' → H' p = some (.lst ((0 :: goP w xs xs.length 0).map V.int)) → Q (.ref p) H'
def t__load (K : PySem.W.Frag) : TS := (tSeq (tAsg (tSl (rSlA K) (tVar 0) (tPart (tC (.int 1))) (tPart (tC (.int 4)))) (gTup K 3 (gCons (gName 3) (gCons (gName 4) (gCons (gName 5) gNil)))))
  (tRet (tCB (rSum K) (tCons (tLc (iZip3 K (tCons (tVar 3) (tCons (tVar 4) (tCons (tVar 5) tNil)))) (gTup K 3 (gCons (gName 6) (gCons (gName 7) (gCons (gName 8) gNil)))) (tTest (tChain rLeI rLtI (tDGet (tVar 1) (tVar 6)) (tVar 2) (tOp rAddI (tDGet (tVar 1) (tVar 6)) (tVar 7)))) (tVar 8) [6, 7, 8]) tNil))))
def t__works_holds (K : PySem.W.Frag) : TS := (tRet (tCB (rAll K) (tCons (tLc (iTup K (tOp (rIxT K) (tVar 0) (tC (.int 1)))) (gName 2) tYes (tOp rLeI (tCall (sp__load K) [] E0 (tCons (tVar 0) (tCons (tVar 1) (tCons (tDGet (tVar 1) (tVar 2)) tNil)))) (tOp (rIxT K) (tVar 0) (tC (.int 4)))) [2]) tNil)))
def t__places_met (K : PySem.W.Frag) : TS := (tSeq (tAsg (tLst (tCons (tC (.int 0)) tNil)) (gName 2))
  (tSeq (tFor (iTup K (tVar 0)) (gName 3)
  (tSeq (tAsg (tDGet (tVar 1) (tOp (rIxT K) (tVar 0) (tOp (rIxL K) (tVar 2) (tUn rNeg (tC (.int 1)))))) (gName 4))
  (tSeq (tIfS (tNot (tTest (tChain rLeI rLtI (tC (.int 0)) (tVar 4) (tCB (rLen1 K) (tCons (tVar 0) tNil))))) (tRet (tVar 2)) tNext)
  (tDrop (tBM K "list" rAppend (tVar 2) (tCons (tVar 4) tNil))))))
  (tRet (tVar 2))))
def t_path_of (K : PySem.W.Frag) : TS := (tSeq (tAsg (tOp (rIxT K) (tVar 0) (tC (.int 1))) (gName 2))
  (tSeq (tIfS (tTest (tOp rEq (tOp (rIxT K) (tVar 0) (tC (.int 0))) (tC (.str "round")))) (tRet (tCall (sp__places_met K) [] E0 (tCons (tVar 2) (tCons (tVar 1) tNil)))) tNext)
  tNever))
def t__round_holds (K : PySem.W.Frag) : TS := (tSeq (tAsg (tCall (sp_path_of K) [] E0 (tCons (tVar 0) (tCons (tVar 1) tNil))) (gName 2))
  (tSeq (tAsg (tCB (rLen1 K) (tCons (tOp (rIxT K) (tVar 0) (tC (.int 1))) tNil)) (gName 3))
  (tRet (tAndV (tOp rGtI (tCB (rLen1 K) (tCons (tVar 2) tNil)) (tVar 3)) (tAndV (tOp rEq (tOp (rIxL K) (tVar 2) (tVar 3)) (tC (.int 0))) (tOp (rIn K true) (tC (.int 0)) (tSl (rSlL K) (tVar 2) (tPart (tC (.int 1))) (tPart (tVar 3)))))))))
theorem len__load {K : PySem.W.Frag} : ∀ (vs : List V) (H : Hp) (Q : VK) (E : XK), sp__load K vs H Q E → vs.length = 3 := fun vs H Q E h => by
  obtain ⟨_, _, _, rfl, _⟩ := h
  rfl
theorem pure__load {K : PySem.W.Frag} (vs : List V) (H : Hp) (Q : VK) (E : XK) (h : sp__load K vs H Q E) : t__load K { nx := fun _ H' => Q .non H', rt := Q } (start ["saying", "at", "moment", "xs", "lengths", "needs", "x", "length", "need"] vs) H := by
  obtain ⟨v, d, t, rfl, xs, ls, ns, room, names, w, hv, hd, ok, hx, q⟩ := h
  obtain ⟨a, b, c, e, rfl, ea, eb, ec, ee⟩ := is_works hv
  obtain ⟨o1, o2, o3, o4⟩ := ok
  show t__load K _ [some (.ref a), some (.ref d), some (.int t), none, none, none, none, none, none] H
  unfold t__load
  walk_at "aw"
  refine w_slT ea (show ¬ (HT.sIx 5 0 (some 1) = 0 ∧ HT.sIx 5 5 (some 4) = 5) by decide) fun r H1 nr a1 e1 => ?_
  refine w_gtup (xs := [.ref b, .ref c, .ref e]) (SqT.of e1) rfl ?_
  walk_at "aw"
  have eb1 := a1.tup _ _ eb
  have ec1 := a1.tup _ _ ec
  have ee1 := a1.tup _ _ ee
  have hd1 := hd.up a1
  refine ⟨b, c, e, _, _, _, rfl, SqT.of eb1, SqT.of ec1, SqT.of ee1, ?_⟩
  refine kLc_pure (walk_zip3 (K := K) (a := b) (b := c) (c := e) (xs := xs.map V.str) (ys := ls.map V.int) (zs := ns.map V.int) (by simp [o1]) (by simp [o2])) (by simp; omega) (fun H' g => ⟨g.tup _ _ eb1, g.tup _ _ ec1, g.tup _ _ ee1⟩)
    (fun i => decide (w (xs.getD i "") ≤ t) && decide (t < w (xs.getD i "") + ls.getD i 0)) (fun i => .int (ns.getD i 0)) (fun i x H2 H3 Kt Kf hi g2 y kt kf => ?_) fun p H' np g' ep => ?_
  · obtain ⟨T, x1, x2, x3, rfl, nT, rfl, y1, y2, y3⟩ := y
    rw [List.length_map] at hi
    rw [List.getElem?_map] at y1 y2 y3
    obtain ⟨n1, z1, rfl⟩ := Option.map_eq_some_iff.mp y1
    obtain ⟨n2, z2, rfl⟩ := Option.map_eq_some_iff.mp y2
    obtain ⟨n3, z3, rfl⟩ := Option.map_eq_some_iff.mp y3
    rw [getD_of z1, getD_of z2] at kt kf
    rw [getD_of z3] at kt
    have aT : Adv [] H2 (upd H2 T (.tup [.str n1, .int n2, .int n3])) := Adv.new nT
    have hdT := (hd1.up g2).up aT
    have hn1 : n1 ∈ names := hx n1 (List.mem_of_getElem? z1)
    refine w_gtup (SqT.of upd_same) rfl ?_
    walk_at "aw"
    refine ⟨rfl, ?_⟩
    walk_at "aw"
    refine hdT.get hn1 ?_
    walk_at "aw"
    refine w_iteB (fun h1 => ?_) fun h1 => ?_
    · walk_at "aw"
      refine hdT.get hn1 ?_
      walk_at "aw"
      refine w_iteB (fun h2 => ?_) fun h2 => ?_
      · walk_at "aw"
        exact kt (by simp [h1, h2]) _ aT
      · exact kf (by simp [h2]) _ aT
    · walk_at "aw"
      exact kf (by simp [h1]) _ aT
  · refine ⟨p, (((List.range xs.length).filter fun i => decide (w (xs.getD i "") ≤ t) && decide (t < w (xs.getD i "") + ls.getD i 0)).map fun i => ns.getD i 0), rfl, ?_, q _ (a1.trans g')⟩
    rw [List.map_map, List.length_map] at *
    exact SqL.of ep
theorem len__works_holds {K : PySem.W.Frag} : ∀ (vs : List V) (H : Hp) (Q : VK) (E : XK), sp__works_holds K vs H Q E → vs.length = 2 := fun vs H Q E h => by
  obtain ⟨_, _, rfl, _⟩ := h
  rfl
theorem pure__works_holds {K : PySem.W.Frag} (vs : List V) (H : Hp) (Q : VK) (E : XK) (h : sp__works_holds K vs H Q E) : t__works_holds K { nx := fun _ H' => Q .non H', rt := Q } (start ["saying", "at", "x"] vs) H := by
  obtain ⟨v, d, rfl, xs, ls, ns, room, names, w, hv, hd, ok, hx, q⟩ := h
  obtain ⟨a, b, c, e, rfl, ea, eb, ec, ee⟩ := is_works hv
  show t__works_holds K _ [some (.ref a), some (.ref d), none] H
  unfold t__works_holds
  walk_at "aw"
  refine w_ixT (SqT.of ea) rfl ?_
  refine ⟨b, rfl, ⟨_, SqT.of eb⟩, ?_⟩
  refine kLc_pure (walk_tup (xs := xs.map V.str)) (by simp; exact Nat.le_trans ok.2.2.2 (by omega)) (fun H' g => SqT.of (g.tup _ _ eb))
    (fun _ => true) (fun i => .bl (decide (load w xs ls ns (w (xs.getD i "")) ≤ room))) (fun i x H2 H3 Kt Kf hi g2 y kt kf => ?_) fun p H' np g' ep => ?_
  · obtain ⟨rfl, y1⟩ := y
    rw [List.getElem?_map] at y1
    obtain ⟨n1, z1, rfl⟩ := Option.map_eq_some_iff.mp y1
    rw [getD_of z1] at kt
    have hn1 : n1 ∈ names := hx n1 (List.mem_of_getElem? z1)
    walk_at "aw"
    refine ⟨rfl, ?_⟩
    walk_at "aw"
    refine (hd.up g2).get hn1 ?_
    walk_at "aw"
    refine ⟨_, _, _, rfl, xs, ls, ns, room, names, w, hv.up g2.tup, hd.up g2, ok, hx, fun H4 a4 => ?_⟩
    walk_at "aw"
    refine w_ixT (SqT.of (a4.tup _ _ (g2.tup _ _ ea))) rfl ?_
    walk_at "aw"
    exact kt rfl _ a4
  · refine ⟨p, (List.range xs.length).map fun i => decide (load w xs ls ns (w (xs.getD i "")) ≤ room), rfl, ?_, ?_⟩
    · have e1 : (List.range (xs.map V.str).length).filter (fun _ => true) = List.range xs.length := by simp
      rw [e1] at ep
      rw [List.map_map]
      exact SqL.of ep
    · have e2 : ((List.range xs.length).map fun i => decide (load w xs ls ns (w (xs.getD i "")) ≤ room)).all id = holdP w (.works xs ls ns room) := by
        show _ = xs.all fun x => decide (load w xs ls ns (w x) ≤ room)
        rw [List.all_map]
        rw [Bool.eq_iff_iff, List.all_eq_true, List.all_eq_true]
        constructor
        · intro h x hx
          obtain ⟨i, hi, rfl⟩ := List.mem_iff_getElem.mp hx
          have := h i (List.mem_range.mpr hi)
          simpa [List.getD_eq_getElem?_getD, hi] using this
        · intro h i hi
          have hi := List.mem_range.mp hi
          have := h xs[i] (List.getElem_mem hi)
          simpa [List.getD_eq_getElem?_getD, hi] using this
      rw [e2]
      exact q H' g'
theorem len__places_met {K : PySem.W.Frag} : ∀ (vs : List V) (H : Hp) (Q : VK) (E : XK), sp__places_met K vs H Q E → vs.length = 2 := fun vs H Q E h => by
  obtain ⟨_, _, rfl, _⟩ := h
  rfl
theorem len_path_of {K : PySem.W.Frag} : ∀ (vs : List V) (H : Hp) (Q : VK) (E : XK), sp_path_of K vs H Q E → vs.length = 2 := fun vs H Q E h => by
  obtain ⟨_, _, rfl, _⟩ := h
  rfl
theorem len__round_holds {K : PySem.W.Frag} : ∀ (vs : List V) (H : Hp) (Q : VK) (E : XK), sp__round_holds K vs H Q E → vs.length = 2 := fun vs H Q E h => by
  obtain ⟨_, _, rfl, _⟩ := h
  rfl
theorem pure__places_met {K : PySem.W.Frag} (vs : List V) (H : Hp) (Q : VK) (E : XK) (h : sp__places_met K vs H Q E) : t__places_met K { nx := fun _ H' => Q .non H', rt := Q } (start ["xs", "at", "path", "_", "place"] vs) H := by
  obtain ⟨b, d, rfl, xs, names, w, hb, hd, h0, hl, hn, q⟩ := h
  show t__places_met K _ [some (.ref b), some (.ref d), none, none, none] H
  unfold t__places_met
  walk_at "aw"
  refine w_lstD (by simp) fun p H1 np a1 e1 => ?_
  walk_at "aw"
  -- done holds what was met; l is the last of it
  refine kForT_i (xs := xs.map V.str) (fun i σ H' => ∃ y3 y4 done l, σ = [some (.ref b), some (.ref d), some (.ref p), y3, y4] ∧ Adv [] H H' ∧ H' p = some (.lst ((done ++ [((l : Nat) : Int)]).map V.int)) ∧ l < xs.length ∧ done.length = i ∧ done ++ ((l : Nat) : Int) :: goP w xs (xs.length - i) l = 0 :: goP w xs xs.length 0) (SqT.of (a1.tup _ _ hb))
    ⟨none, none, [], 0, rfl, a1, e1, h0, rfl, rfl⟩ (fun i σ H' _ pv => ?_) (fun i x σ H' hx pv => ?_) fun σ H' pv => ?_
  · obtain ⟨_, _, _, _, _, ad, _⟩ := pv
    exact SqT.of (ad.tup _ _ hb)
  · obtain ⟨y3, y4, done, l, rfl, ad, ep, hll, hdl, heq⟩ := pv
    have hi : i < xs.length := by
      have := (List.getElem?_eq_some_iff.mp hx).1
      simpa using this
    obtain ⟨m, hm⟩ : ∃ m, xs.length - i = m + 1 := ⟨xs.length - i - 1, by omega⟩
    have hgl : xs[l]? = some xs[l] := List.getElem?_eq_getElem hll
    have e0 : xs.getD l "" = xs[l] := getD_of hgl
    walk_at "aw"
    refine w_ixL (SqL.of ep) (v := .int (l : Nat)) (by rw [List.map_append]; exact atI_last _ _) ?_
    walk_at "aw"
    refine w_ixT (SqT.of (ad.tup _ _ hb)) (at_of (j := l) (v := .str xs[l]) (by omega) (by rw [List.getElem?_map, hgl]; rfl)) ?_
    refine (hd.up ad).get (hn _ (List.getElem_mem _)) ?_
    walk_at "aw"
    refine w_iteB (fun h1 => ?_) fun h1 => ?_
    · walk_at "aw"
      refine w_lenT (SqT.of (ad.tup _ _ hb)) ?_
      rw [List.length_map]
      walk_at "aw"
      by_cases h2 : w xs[l] < xs.length
      · have eg : goP w xs (xs.length - i) l = w xs[l] :: goP w xs m (w xs[l]).toNat := by
          rw [hm, goP_succ, e0, if_pos ⟨h1, h2⟩]
        rw [decide_eq_true h2]
        walk_at "aw"
        refine w_app rfl ep ?_
        walk_at "aw"
        refine w_append ep (by rw [List.length_map, List.length_append, List.length_singleton]; omega) ?_
        refine ⟨_, _, done ++ [((l : Nat) : Int)], (w xs[l]).toNat, rfl, ad.mut np ep (fun _ z => by cases z), ?_, by omega, by rw [List.length_append, hdl]; rfl, ?_⟩
        · rw [upd_same, Int.toNat_of_nonneg h1, List.map_append (l₁ := done ++ [((l : Nat) : Int)])]
          rfl
        · rw [eg] at heq
          have em : xs.length - (i + 1) = m := by omega
          rw [em, Int.toNat_of_nonneg h1, ← heq, List.append_assoc]
          rfl
      · have eg : goP w xs (xs.length - i) l = [] := by
          rw [hm, goP_succ, e0, if_neg (fun z => h2 z.2)]
        rw [decide_eq_false h2]
        walk_at "aw"
        refine q p H' ad ?_
        rw [eg] at heq
        rw [← heq]
        exact ep
    · have eg : goP w xs (xs.length - i) l = [] := by
        rw [hm, goP_succ, e0, if_neg (fun z => h1 z.1)]
      walk_at "aw"
      refine q p H' ad ?_
      rw [eg] at heq
      rw [← heq]
      exact ep
  · obtain ⟨y3, y4, done, l, rfl, ad, ep, hll, hdl, heq⟩ := pv
    walk_at "aw"
    refine q p H' ad ?_
    rw [List.length_map, Nat.sub_self] at heq
    rw [← heq]
    exact ep
theorem pure_path_of {K : PySem.W.Frag} (vs : List V) (H : Hp) (Q : VK) (E : XK) (h : sp_path_of K vs H Q E) : t_path_of K { nx := fun _ H' => Q .non H', rt := Q } (start ["saying", "at", "xs", "nexts", "before", "v", "behind", "x", "steps", "level"] vs) H := by
  obtain ⟨v, d, rfl, xs, names, w, hv, hd, ok, hx, q⟩ := h
  obtain ⟨a, b, rfl, ea, eb⟩ := is_round hv
  obtain ⟨o1, o2⟩ := ok
  show t_path_of K _ [some (.ref a), some (.ref d), none, none, none, none, none, none, none, none] H
  unfold t_path_of
  walk_at "aw"
  refine w_ixT (SqT.of ea) (i := 1) (v := .ref b) rfl ?_
  walk_at "aw"
  refine w_ixT (SqT.of ea) (i := 0) (v := .str "round") rfl ?_
  walk_at "aw"
  refine w_iteB (fun _ => ?_) fun z => absurd rfl z
  walk_at "aw"
  exact ⟨b, d, rfl, xs, names, w, eb, hd, o1, o2, hx, q⟩
/-- the walk's word, by the places met -/
theorem walkP_go {w : Str → Int} {xs : List Str} (hx : 0 < xs.length) : ∀ (m p : Nat), walkP w xs m p = decide ((goP w xs m p).length = m ∧ (goP w xs m p).getLast? = some 0 ∧ (0 : Int) ∉ (goP w xs m p).dropLast)
  | 0, p => by simp [walkP, goP]
  | m + 1, p => by
    have ih := walkP_go (w := w) hx m
    rw [goP_succ]
    unfold walkP
    simp only
    generalize hq : w (xs.getD p "") = q
    by_cases h0 : q = 0
    · subst h0
      rw [if_pos rfl]
      rw [if_pos ⟨Int.le_refl _, by omega⟩]
      cases hr : goP w xs m (0 : Int).toNat with
      | nil =>
        cases m with
        | zero => simp
        | succ m => simp
      | cons y r =>
        rw [List.dropLast_cons_of_ne_nil (by simp)]
        have hm : m ≠ 0 := fun z => by subst z; simp [goP] at hr
        simp [hm]
    · rw [if_neg h0]
      by_cases hx : 0 < q ∧ q < xs.length
      · rw [if_pos hx, if_pos ⟨by omega, hx.2⟩, ih]
        cases hr : goP w xs m q.toNat with
        | nil =>
          have h1 : ¬ ([q].getLast? = some 0) := by simpa using h0
          simp [h0]
        | cons y r =>
          have e : (q :: y :: r).dropLast = q :: (y :: r).dropLast := rfl
          rw [e, List.getLast?_cons_cons, decide_eq_decide]
          simp only [List.length_cons, List.mem_cons, not_or, Nat.add_right_cancel_iff]
          exact ⟨fun z => ⟨z.1, z.2.1, fun e => h0 e.symm, z.2.2⟩, fun z => ⟨z.1, z.2.1, z.2.2.2⟩⟩
      · rw [if_neg hx, if_neg (fun z => hx ⟨by omega, z.2⟩)]
        simp
theorem pure__round_holds {K : PySem.W.Frag} (vs : List V) (H : Hp) (Q : VK) (E : XK) (h : sp__round_holds K vs H Q E) : t__round_holds K { nx := fun _ H' => Q .non H', rt := Q } (start ["saying", "at", "path", "many"] vs) H := by
  obtain ⟨v, d, rfl, xs, names, w, hv, hd, ok, hx, q⟩ := h
  obtain ⟨a, b, rfl, ea, eb⟩ := is_round hv
  obtain ⟨o1, o2⟩ := ok
  show t__round_holds K _ [some (.ref a), some (.ref d), none, none] H
  have hw := walkP_go (w := w) o1 xs.length 0
  have eh : holdP w (.round xs) = walkP w xs xs.length 0 := rfl
  rw [eh, hw] at q
  unfold t__round_holds
  walk_at "aw"
  refine ⟨.ref a, d, rfl, xs, names, w, hv, hd, ⟨o1, o2⟩, hx, fun p H1 a1 ep => ?_⟩
  generalize hL : goP w xs xs.length 0 = L at *
  have hll : L.length ≤ xs.length := by
    have : ∀ m p, (goP w xs m p).length ≤ m := fun m => by
      induction m with
      | zero => intro p; simp [goP]
      | succ m ih =>
        intro p
        rw [goP_succ]
        split
        · rw [List.length_cons]; exact Nat.succ_le_succ (ih _)
        · simp
    rw [← hL]
    exact this _ _
  walk_at "aw"
  refine w_ixT (SqT.of (a1.tup _ _ ea)) (i := 1) (v := .ref b) rfl ?_
  walk_at "aw"
  refine w_lenT (SqT.of (a1.tup _ _ eb)) ?_
  rw [List.length_map]
  walk_at "aw"
  refine w_lenL (SqL.of ep) ?_
  rw [List.length_map, List.length_cons]
  walk_at "aw"
  refine w_iteB (fun h1 => ?_) fun h1 => ?_
  · have hL2 : L.length = xs.length := by omega
    obtain ⟨li, la, hla⟩ : ∃ li la, L = li ++ [la] := ⟨_, _, (List.dropLast_concat_getLast (by intro z; rw [z] at hL2; simp at hL2; omega)).symm⟩
    have hli : li.length + 1 = xs.length := by rw [← hL2, hla, List.length_append]; rfl
    walk_at "aw"
    refine w_ixL (SqL.of ep) (at_of (j := xs.length) (v := .int la) (by omega) (by
      rw [hla, List.getElem?_map, List.getElem?_cons, if_neg (by omega), List.getElem?_append_right (by omega)]
      have : xs.length - 1 - li.length = 0 := by omega
      rw [this]
      rfl)) ?_
    walk_at "aw"
    refine w_iteB (fun h2 => ?_) fun h2 => ?_
    · have h2 : la = 0 := V.int.inj h2
      walk_at "aw"
      refine w_slL (SqL.of ep) fun r H2 nr a2 e2 => ?_
      have ecut : cutV ((0 :: L).map V.int) (some 1) (some (xs.length : Nat)) = li.map V.int := by
        unfold cutV
        rw [show (1 : Int) = ((1 : Nat) : Int) from rfl, HT.sIx_nat, HT.sIx_nat, List.length_map, List.length_cons, hL2, Nat.min_eq_left (by omega), Nat.min_eq_left (by omega), hla]
        simp only [List.map_cons, List.map_append, List.map_nil, List.drop_succ_cons, List.drop_zero]
        rw [List.take_append_of_le_length (by rw [List.length_map]; omega), List.take_of_length_le (by rw [List.length_map]; omega)]
      rw [ecut] at e2
      refine ⟨r, li.map V.int, rfl, .inl (SqL.of e2), rfl, ?_, ?_⟩
      · rw [List.all_eq_true]
        intro v hv
        obtain ⟨n, _, rfl⟩ := List.mem_map.mp hv
        rfl
      · have e3 : (if true = true then !inV (.int 0) (li.map V.int) else inV (.int 0) (li.map V.int)) = decide (L.length = xs.length ∧ L.getLast? = some 0 ∧ (0 : Int) ∉ L.dropLast) := by
          rw [if_pos rfl, hla, List.getLast?_concat, List.dropLast_concat, List.length_append, List.length_singleton]
          unfold inV
          rw [List.any_map]
          have : (li.any ((fun y => eqV y (.int 0)) ∘ V.int)) = decide ((0 : Int) ∈ li) := by
            rw [Bool.eq_iff_iff, List.any_eq_true, decide_eq_true_eq]
            constructor
            · rintro ⟨n, hn, e⟩
              have : n = 0 := by simpa [eqV] using e
              exact this ▸ hn
            · exact fun h => ⟨0, h, by simp [eqV]⟩
          rw [this, h2]
          by_cases hz : (0 : Int) ∈ li <;> simp [hz, hli]
        rw [e3]
        exact q H2 (a1.trans a2)
    · have h2 : la ≠ 0 := fun z => h2 (by rw [z])
      have e3 : decide (L.length = xs.length ∧ L.getLast? = some 0 ∧ (0 : Int) ∉ L.dropLast) = false := by
        rw [decide_eq_false]
        rintro ⟨_, z, _⟩
        rw [hla, List.getLast?_concat] at z
        exact h2 (Option.some.inj z)
      rw [e3] at q
      exact q H1 a1
  · have e3 : decide (L.length = xs.length ∧ L.getLast? = some 0 ∧ (0 : Int) ∉ L.dropLast) = false := by
      rw [decide_eq_false]
      rintro ⟨z, _⟩
      omega
    rw [e3] at q
    exact q H1 a1
end AW
namespace AW
open PySem PySem.Spec PyProof.Rows L2 RZ
local macro_rules | `(tactic| walk_at "aw1") => `(tactic| first
  | (with_reducible refine w_seq ?_) | (with_reducible refine w_asg ?_) | (with_reducible refine w_gname ?_) | (with_reducible refine w_op ?_) | (with_reducible refine w_un ?_)
  | ((with_reducible refine' w_var ?h ?_); (case h => rfl)) | (with_reducible refine w_c ?_)
  | (with_reducible refine w_I0 ?_) | (with_reducible refine w_U ?_) | (with_reducible refine w_cb ?_) | (with_reducible refine w_nil ?_) | (with_reducible refine w_cons ?_) | (with_reducible refine w_call ?_)
  | (with_reducible refine w_test ?_) | (with_reducible refine w_B ?_) | (with_reducible refine w_bl ?_) | (with_reducible refine w_not ?_) | (with_reducible refine w_yes ?_) | (with_reducible refine iteT ?_) | (with_reducible refine iteF ?_) | (with_reducible refine w_and ?_) | (with_reducible refine w_or ?_)
  | (with_reducible refine w_andV ?_) | (with_reducible refine w_orV ?_) | (with_reducible refine w_notV ?_) | (with_reducible refine w_if ?_)
  | (with_reducible refine w_int1 ?_) | (with_reducible refine w_int1b ?_) | (with_reducible refine w_abs ?_) | (with_reducible refine w_max2 ?_) | (with_reducible refine w_min2 ?_)
  | ((with_reducible refine w_eq ?h ?_); (case h => rfl)) | ((with_reducible refine w_ne ?h ?_); (case h => rfl)) | (with_reducible refine w_isN ?_) | (with_reducible refine w_isB ?_) | (with_reducible refine w_chain ?_)
  | (with_reducible refine w_ret ?_) | (with_reducible refine w_drop ?_) | (with_reducible refine w_ifS ?_) | (with_reducible refine w_gsub ?_) | (with_reducible refine w_augS ?_) | (with_reducible refine w_ipI ?_) | (with_reducible refine w_next ?_)
  | (with_reducible refine w_forR ?_) | (with_reducible refine w_forR2 ?_) | (with_reducible refine w_forL ?_) | (with_reducible refine w_forT ?_) | (with_reducible refine w_lcR ?_) | (with_reducible refine w_lcL ?_) | (with_reducible refine w_lcT ?_) | (with_reducible refine w_sl ?_) | (with_reducible refine w_part ?_) | (with_reducible refine w_noPart ?_) | (with_reducible refine w_in ?_)
  | (with_reducible refine w_gcons ?_) | (with_reducible refine w_gnil ?_) | (with_reducible refine w_lc3 ?_) | (with_reducible refine w_dcZ ?_) | (with_reducible refine w_dcT ?_) | (with_reducible refine w_dg ?_) | (with_reducible refine w_callK ?_) | (with_reducible refine w_dput ?_) | (with_reducible refine w_tup1 ?_)
  | (with_reducible refine w_tup ?_) | (with_reducible refine w_lst ?_)
  | ((with_reducible refine w_I ?h ?_); (case h => first | (exact Or.inr ⟨by decide, by decide⟩) | (exact Or.inl ⟨by decide, by decide⟩) | (show (0 : Int) < _; decide) | (exact ⟨by decide, by decide, by decide⟩) | assumption)))
local macro_rules | `(tactic| walk_at "aw") => `(tactic| repeat (walk_at "aw1"))
/-! ### the program's functions over models -/
def sp_values_at (_ : PySem.W.Frag) : Sp := fun vs H Q _ => ∃ (m f : V), vs = [m, f] ∧ ∃ doms firm soft fl, Is H (modD doms firm soft) m ∧ Is H (.tuple (fl.map .int)) f ∧ fl.length = doms.length ∧ (doms.map (·.1)).Nodup ∧ doms.length ≤ 100 ∧
  ∀ d H', Adv [] H H' → WD H' d (doms.map (·.1)) (wOf (doms.map (·.1)) fl) → Q (.ref d) H'
def sp_saying_of (_ : PySem.W.Frag) : Sp := fun vs H Q _ => ∃ (m : V) (n : Str), vs = [m, .str n] ∧ ∃ doms firm soft s, Is H (modD doms firm soft) m ∧ (firm.map (·.1) ++ soft.map (·.1)).Nodup ∧ firm.length ≤ 100 ∧ soft.length ≤ 100 ∧ (n, s) ∈ firm ++ soft.map (fun q => (q.1, q.2.1)) ∧
  ∀ v H', Adv [] H H' → Is H' (sayD s) v → Q v H'
def sp_holds (_ : PySem.W.Frag) : Sp := fun vs H Q _ => ∃ (v : V) (d : Addr), vs = [v, .ref d] ∧ ∃ s names w, Is H (sayD s) v ∧ WD H d names w ∧ s.ok ∧ (∀ x ∈ s.names, x ∈ names) ∧ ∀ H', Adv [] H H' → Q (.bl (holdP w s)) H'
/-- a model that is right enough for its sayings to be looked at -/
structure ModOk (doms : List (Str × List Int)) (firm : List (Str × Say)) (soft : List (Str × Say × Int)) : Prop where
  dn : (doms.map (·.1)).Nodup
  dl : doms.length ≤ 100
  sn : (firm.map (·.1) ++ soft.map (·.1)).Nodup
  fl : firm.length ≤ 100
  sl : soft.length ≤ 100
  fo : ∀ p ∈ firm, p.2.ok ∧ ∀ x ∈ p.2.names, x ∈ doms.map (·.1)
  so : ∀ p ∈ soft, p.2.1.ok ∧ ∀ x ∈ p.2.1.names, x ∈ doms.map (·.1)
def sp_keeps_saying (_ : PySem.W.Frag) : Sp := fun vs H Q _ => ∃ (m f : V) (n : Str), vs = [m, .str n, f] ∧ ∃ doms firm soft s fl, Is H (modD doms firm soft) m ∧ Is H (.tuple (fl.map .int)) f ∧ fl.length = doms.length ∧ ModOk doms firm soft ∧ (n, s) ∈ firm ++ soft.map (fun q => (q.1, q.2.1)) ∧
  ∀ H', Adv [] H H' → Q (.bl (holdP (wOf (doms.map (·.1)) fl) s)) H'
def sp_keeps (_ : PySem.W.Frag) : Sp := fun vs H Q _ => ∃ (m f : V), vs = [m, f] ∧ ∃ doms firm soft fl, Is H (modD doms firm soft) m ∧ Is H (.tuple (fl.map .int)) f ∧ fl.length = doms.length ∧ ModOk doms firm soft ∧
  ∀ H', Adv [] H H' → Q (.bl (firm.all fun p => holdP (wOf (doms.map (·.1)) fl) p.2)) H'
def t_values_at (K : PySem.W.Frag) : TS := (tRet (tDc (iZipA K (tCons (tOp (rIxT K) (tVar 0) (tC (.int 0))) (tCons (tVar 1) tNil))) (gTup K 2 (gCons (gName 2) (gCons (gName 3) gNil))) tYes (tOp (rIxT K) (tVar 2) (tC (.int 0))) (tVar 3) [2, 3]))
def t_saying_of (K : PySem.W.Frag) : TS := (tSeq (tAsg (tDc (iTup K (tOp (rCatA K) (tOp (rIxT K) (tVar 0) (tC (.int 1))) (tOp (rIxT K) (tVar 0) (tC (.int 2))))) (gName 3) tYes (tOp (rIxT K) (tVar 3) (tC (.int 0))) (tOp (rIxT K) (tVar 3) (tC (.int 1))) [3]) (gName 2))
  (tRet (tDGet (tVar 2) (tVar 1))))
def t_keeps_saying (K : PySem.W.Frag) : TS := (tRet (tCall (sp_holds K) [] E0 (tCons (tCall (sp_saying_of K) [] E0 (tCons (tVar 0) (tCons (tVar 1) tNil))) (tCons (tCall (sp_values_at K) [] E0 (tCons (tVar 0) (tCons (tVar 2) tNil))) tNil))))
def t_keeps (K : PySem.W.Frag) : TS := (tSeq (tAsg (tCall (sp_values_at K) [] E0 (tCons (tVar 0) (tCons (tVar 1) tNil))) (gName 2))
  (tSeq (tFor (iTup K (tOp (rIxT K) (tVar 0) (tC (.int 1)))) (gTup K 2 (gCons (gName 3) (gCons (gName 4) gNil)))
  (tIfS (tNot (tB (tCall (sp_holds K) [] E0 (tCons (tVar 4) (tCons (tVar 2) tNil))))) (tRet (tC (.bl false))) tNext))
  (tRet (tC (.bl true)))))
theorem len_values_at {K : PySem.W.Frag} : ∀ (vs : List V) (H : Hp) (Q : VK) (E : XK), sp_values_at K vs H Q E → vs.length = 2 := fun vs H Q E h => by
  obtain ⟨_, _, rfl, _⟩ := h
  rfl
theorem pure_values_at {K : PySem.W.Frag} (vs : List V) (H : Hp) (Q : VK) (E : XK) (h : sp_values_at K vs H Q E) : t_values_at K { nx := fun _ H' => Q .non H', rt := Q } (start ["model", "filling", "item", "v"] vs) H := by
  obtain ⟨m, f, rfl, doms, firm, soft, fl, hm, hf, hfl, hnd, hdl, q⟩ := h
  obtain ⟨a, b, c, d, xs, ys, zs, rfl, ea, eb, tb, ec, tc, ed, td⟩ := is_mod hm
  obtain ⟨fa, fv, rfl, ef, tf⟩ := hf.tup_inv
  have efv := tf.ints_inv
  subst efv
  show t_values_at K _ [some (.ref a), some (.ref fa), none, none] H
  unfold t_values_at
  walk_at "aw"
  refine w_ixT (SqT.of ea) rfl ?_
  walk_at "aw"
  have hxl : xs.length = doms.length := by rw [tb.length, List.length_map]
  refine ⟨b, fa, xs, fl.map V.int, rfl, .inr ⟨SqT.of eb, SqT.of ef, ?_⟩⟩
  refine kDc_pure (walk_zipT (K := K) (a := b) (b := fa) (xs := xs) (ys := fl.map V.int) (by simp; omega)) (by omega) (fun H' g => ⟨g.tup _ _ eb, g.tup _ _ ef⟩)
    (fun i => Sum.inr ((doms.map (·.1)).getD i nix)) (fun i => .int (fl.getD i 0)) (fun i x H2 H3 Kt hi g2 y kt => ?_) fun p H' np g' ep => ?_
  · obtain ⟨T, x1, x2, rfl, nT, rfl, y1, y2⟩ := y
    replace y1 : xs[i]? = some x1 := y1
    replace y2 : (fl.map V.int)[i]? = some x2 := y2
    rw [List.getElem?_map] at y2
    obtain ⟨n2, z2, rfl⟩ := Option.map_eq_some_iff.mp y2
    obtain ⟨dd, e1, h1⟩ := tb.get y1
    rw [List.getElem?_map] at e1
    obtain ⟨pr, z1, rfl⟩ := Option.map_eq_some_iff.mp e1
    obtain ⟨pa, pb, rfl, ep1, ep2⟩ := is_dom h1
    have zn : (doms.map (·.1))[i]? = some pr.1 := by rw [List.getElem?_map, z1]; rfl
    rw [getD_of zn, getD_of z2] at kt
    have aT : Adv [] H2 (upd H2 T (.tup [.ref pa, .int n2])) := Adv.new nT
    refine w_gtup (SqT.of upd_same) rfl ?_
    walk_at "aw"
    refine ⟨rfl, ?_⟩
    walk_at "aw"
    refine w_ixT (SqT.of (aT.tup _ _ (g2.tup _ _ ep1))) rfl ?_
    walk_at "aw"
    exact kt _ aT
  · refine q p H' g' ⟨_, ep, fun x hx => ?_⟩
    have hl : (doms.map (·.1)).length = xs.length := by rw [List.length_map, hxl]
    obtain ⟨j, hj, rfl⟩ := List.mem_iff_getElem.mp hx
    have hj' : j < xs.length := by omega
    have hinj : ∀ a b, a < xs.length → b < xs.length → (Sum.inr ((doms.map (·.1)).getD a nix) : Key) = Sum.inr ((doms.map (·.1)).getD b nix) → a = b := fun a b ha hb e => by
      have e := Sum.inr.inj e
      rw [getD_of (List.getElem?_eq_getElem (by omega)), getD_of (List.getElem?_eq_getElem (by omega))] at e
      exact nodup_inj hnd (List.getElem?_eq_getElem (by omega)) (by rw [e]; exact List.getElem?_eq_getElem (by omega))
    have hv := dictOf_val (key := fun i => (Sum.inr ((doms.map (·.1)).getD i nix) : Key)) (val := fun i => .int (fl.getD i 0)) hinj hj'
    rw [getD_of (List.getElem?_eq_getElem hj)] at hv
    rw [hv]
    show some (V.int (fl.getD j 0)) = some (V.int (fl.getD ((doms.map (·.1)).idxOf (doms.map (·.1))[j]) 0))
    rw [hnd.idxOf_getElem j hj]
theorem len_saying_of {K : PySem.W.Frag} : ∀ (vs : List V) (H : Hp) (Q : VK) (E : XK), sp_saying_of K vs H Q E → vs.length = 2 := fun vs H Q E h => by
  obtain ⟨_, _, rfl, _⟩ := h
  rfl
theorem pure_saying_of {K : PySem.W.Frag} (vs : List V) (H : Hp) (Q : VK) (E : XK) (h : sp_saying_of K vs H Q E) : t_saying_of K { nx := fun _ H' => Q .non H', rt := Q } (start ["model", "name", "sayings", "item"] vs) H := by
  obtain ⟨m, n, rfl, doms, firm, soft, s, hm, hnd, hl1, hl2, hmem, q⟩ := h
  obtain ⟨a, b, c, d, xs, ys, zs, rfl, ea, eb, tb, ec, tc, ed, td⟩ := is_mod hm
  show t_saying_of K _ [some (.ref a), some (.str n), none, none] H
  have hly : ys.length = firm.length := by rw [tc.length, List.length_map]
  have hlz : zs.length = soft.length := by rw [td.length, List.length_map]
  have hall : ∀ (i : Nat) p x, (firm ++ soft.map fun q => (q.1, q.2.1))[i]? = some p → (ys ++ zs)[i]? = some x → ∃ sv, ItAt H p.1 p.2 sv x := fun i p x e1 e2 => by
    by_cases hi : i < firm.length
    · rw [List.getElem?_append_left hi] at e1
      rw [List.getElem?_append_left (by omega)] at e2
      obtain ⟨dd, z1, h1⟩ := tc.get e2
      rw [List.getElem?_map, e1] at z1
      cases z1
      exact is_it h1
    · rw [List.getElem?_append_right (by omega)] at e1 e2
      rw [List.getElem?_map] at e1
      obtain ⟨pr, z, rfl⟩ := Option.map_eq_some_iff.mp e1
      obtain ⟨dd, z1, h1⟩ := td.get e2
      rw [hly, List.getElem?_map, z] at z1
      cases z1
      exact is_sf h1
  obtain ⟨svs, hsl, hsv⟩ := items_of (by simp; omega) hall
  generalize hA : (firm ++ soft.map fun q => (q.1, q.2.1)) = all at hall hsl hsv hmem
  have hAl : all.length = ys.length + zs.length := by rw [← hA]; simp; omega
  have hAn : (all.map (·.1)).Nodup := by
    rw [← hA, List.map_append, List.map_map]
    exact hnd
  unfold t_saying_of
  walk_at "aw"
  refine w_ixT (SqT.of ea) rfl ?_
  walk_at "aw"
  refine w_ixT (SqT.of ea) rfl ?_
  refine w_catT' ec ed (by omega) fun r H1 a1 e1 => ?_
  refine ⟨r, rfl, ⟨_, SqT.of e1⟩, ?_⟩
  refine kDc_pure (walk_tup (K := K) (a := r) (xs := ys ++ zs)) (by simp; omega) (fun H' g => SqT.of (g.tup _ _ e1)) (fun i => Sum.inr ((all.map (·.1)).getD i nix)) (fun i => svs.getD i .non) (fun i x H2 H3 Kt hi g2 y kt => ?_) fun p H' np g' ep => ?_
  · obtain ⟨rfl, y1⟩ := y
    rw [List.length_append] at hi
    obtain ⟨pr, z1⟩ := get_some (xs := all) (i := i) (by omega)
    obtain ⟨sv, z2⟩ := get_some (xs := svs) (i := i) (by omega)
    obtain ⟨ia, rest, rfl, ei, hi2⟩ := hsv i pr x sv z1 y1 z2
    have zn : (all.map (·.1))[i]? = some pr.1 := by rw [List.getElem?_map, z1]; rfl
    rw [getD_of zn, getD_of z2] at kt
    have ei2 := g2.tup _ _ (a1.tup _ _ ei)
    walk_at "aw"
    refine ⟨rfl, ?_⟩
    walk_at "aw"
    refine w_ixT (SqT.of ei2) (at_of (j := 0) rfl rfl) ?_
    walk_at "aw"
    refine w_ixT (SqT.of ei2) (at_of (j := 1) rfl rfl) ?_
    exact kt _ (.refl _ _)
  · obtain ⟨j, hj, ej⟩ := List.mem_iff_getElem.mp hmem
    have hjy : j < (ys ++ zs).length := by simp; omega
    obtain ⟨sv, z2⟩ := get_some (xs := svs) (i := j) (by omega)
    obtain ⟨x, z3⟩ := get_some (xs := ys ++ zs) (i := j) hjy
    have z1 : all[j]? = some (n, s) := by rw [List.getElem?_eq_getElem hj, ej]
    obtain ⟨ia, rest, rfl, ei, hi2⟩ := hsv j _ x sv z1 z3 z2
    have zn : ∀ {k : Nat} (hk : k < all.length), (all.map (·.1)).getD k nix = (all.map (·.1))[k]'(by simpa using hk) := fun hk => getD_of (List.getElem?_eq_getElem (by simpa using hk))
    have hinj : ∀ a b, a < (ys ++ zs).length → b < (ys ++ zs).length → (Sum.inr ((all.map (·.1)).getD a nix) : Key) = Sum.inr ((all.map (·.1)).getD b nix) → a = b := fun a b ha hb e => by
      have ha' : a < all.length := by rw [List.length_append] at ha; omega
      have hb' : b < all.length := by rw [List.length_append] at hb; omega
      have e := Sum.inr.inj e
      rw [zn ha', zn hb'] at e
      exact nodup_inj hAn (List.getElem?_eq_getElem (by simpa using ha')) (by rw [e]; exact List.getElem?_eq_getElem (by simpa using hb'))
    have hv := dictOf_val (key := fun i => (Sum.inr ((all.map (·.1)).getD i nix) : Key)) (val := fun i => svs.getD i .non) hinj hjy
    have hn : (all.map (·.1)).getD j nix = n := getD_of (by rw [List.getElem?_map, z1]; rfl)
    rw [hn, getD_of z2] at hv
    walk_at "aw"
    refine kDGet_i (k := Sum.inr n) ep hv ?_
    exact q sv H' (a1.trans g') (hi2.up (a1.trans g').tup)
def S_tell (K : PySem.W.Frag) (fW fR : Addr) : Addr → Option Sp := fun f => if f = fW then some (sp__works_holds K) else if f = fR then some (sp__round_holds K) else none
def t_holds (K : PySem.W.Frag) (w : World) (T fW fR : Addr) : TS := (tSeq (tAsg (tOp (rIxD K w) (tC (.ref T)) (tOp (rIxT K) (tVar 0) (tC (.int 0)))) (gName 2))
  (tRet (tCallA 2 (S_tell K fW fR) (tCons (tVar 0) (tCons (tVar 1) tNil)))))
theorem len_holds {K : PySem.W.Frag} : ∀ (vs : List V) (H : Hp) (Q : VK) (E : XK), sp_holds K vs H Q E → vs.length = 2 := fun vs H Q E h => by
  obtain ⟨_, _, rfl, _⟩ := h
  rfl
theorem w_callA {i : Nat} {S : Addr → Option Sp} {t : TA} {σ : L2.St} {H : Hp} {Q : VK} {f : Addr} {sp : Sp} (h1 : σ[i]? = some (some (.ref f))) (h2 : S f = some sp) (h : t σ H fun vs H1 => sp vs H1 Q (fun _ _ _ => False)) : tCallA i S t σ H Q := ⟨f, sp, h1, h2, h⟩
theorem pure_holds {K : PySem.W.Frag} {wd : World} {T fW fR : Addr} (kW : KDct K wd T "works" (.ref fW)) (kR : KDct K wd T "round" (.ref fR)) (hne : fW ≠ fR) (vs : List V) (H : Hp) (Q : VK) (E : XK) (h : sp_holds K vs H Q E) :
    t_holds K wd T fW fR { nx := fun _ H' => Q .non H', rt := Q } (start ["saying", "at", "tell"] vs) H := by
  obtain ⟨v, d, rfl, s, names, w, hv, hd, ok, hx, q⟩ := h
  show t_holds K wd T fW fR _ [some v, some (.ref d), none] H
  unfold t_holds
  cases s with
  | works xs ls ns room =>
    obtain ⟨a, b, c, e, rfl, ea, eb, ec, ee⟩ := is_works hv
    walk_at "aw"
    refine w_ixT (SqT.of ea) rfl ?_
    refine ⟨T, _, _, rfl, rfl, kW, ?_⟩
    walk_at "aw"
    refine w_callA rfl (sp := sp__works_holds K) (if_pos rfl) ?_
    walk_at "aw"
    exact ⟨_, _, rfl, xs, ls, ns, room, names, w, hv, hd, ok, hx, q⟩
  | round xs =>
    obtain ⟨a, b, rfl, ea, eb⟩ := is_round hv
    walk_at "aw"
    refine w_ixT (SqT.of ea) rfl ?_
    refine ⟨T, _, _, rfl, rfl, kR, ?_⟩
    walk_at "aw"
    refine w_callA rfl (sp := sp__round_holds K) (by unfold S_tell; rw [if_neg hne.symm, if_pos rfl]) ?_
    walk_at "aw"
    exact ⟨_, _, rfl, xs, names, w, hv, hd, ok, hx, q⟩
theorem len_keeps_saying {K : PySem.W.Frag} : ∀ (vs : List V) (H : Hp) (Q : VK) (E : XK), sp_keeps_saying K vs H Q E → vs.length = 3 := fun vs H Q E h => by
  obtain ⟨_, _, _, rfl, _⟩ := h
  rfl
theorem ModOk.of_mem {doms : List (Str × List Int)} {firm : List (Str × Say)} {soft : List (Str × Say × Int)} (ok : ModOk doms firm soft) {n : Str} {s : Say} (h : (n, s) ∈ firm ++ soft.map fun q => (q.1, q.2.1)) : s.ok ∧ ∀ x ∈ s.names, x ∈ doms.map (·.1) := by
  rcases List.mem_append.mp h with h | h
  · exact ok.fo _ h
  · obtain ⟨q, hq, e⟩ := List.mem_map.mp h
    have := ok.so q hq
    rw [show q.2.1 = s from congrArg Prod.snd e] at this
    exact this
theorem pure_keeps_saying {K : PySem.W.Frag} (vs : List V) (H : Hp) (Q : VK) (E : XK) (h : sp_keeps_saying K vs H Q E) : t_keeps_saying K { nx := fun _ H' => Q .non H', rt := Q } (start ["model", "name", "filling"] vs) H := by
  obtain ⟨m, f, n, rfl, doms, firm, soft, s, fl, hm, hf, hfl, ok, hmem, q⟩ := h
  show t_keeps_saying K _ [some m, some (.str n), some f] H
  unfold t_keeps_saying
  walk_at "aw"
  refine ⟨m, n, rfl, doms, firm, soft, s, hm, ok.sn, ok.fl, ok.sl, hmem, fun v H1 a1 hv => ?_⟩
  walk_at "aw"
  refine ⟨m, f, rfl, doms, firm, soft, fl, hm.up a1.tup, hf.up a1.tup, hfl, ok.dn, ok.dl, fun d H2 a2 hd => ?_⟩
  walk_at "aw"
  exact ⟨v, d, rfl, s, _, _, hv.up a2.tup, hd, (ok.of_mem hmem).1, (ok.of_mem hmem).2, fun H' a3 => q H' (a1.trans (a2.trans a3))⟩
theorem len_keeps {K : PySem.W.Frag} : ∀ (vs : List V) (H : Hp) (Q : VK) (E : XK), sp_keeps K vs H Q E → vs.length = 2 := fun vs H Q E h => by
  obtain ⟨_, _, rfl, _⟩ := h
  rfl
theorem pure_keeps {K : PySem.W.Frag} (vs : List V) (H : Hp) (Q : VK) (E : XK) (h : sp_keeps K vs H Q E) : t_keeps K { nx := fun _ H' => Q .non H', rt := Q } (start ["model", "filling", "at", "name", "saying"] vs) H := by
  obtain ⟨m, f, rfl, doms, firm, soft, fl, hm, hf, hfl, ok, q⟩ := h
  show t_keeps K _ [some m, some f, none, none, none] H
  unfold t_keeps
  walk_at "aw"
  refine ⟨m, f, rfl, doms, firm, soft, fl, hm, hf, hfl, ok.dn, ok.dl, fun d H1 a1 hd => ?_⟩
  obtain ⟨a, b, c, dd, xs, ys, zs, rfl, ea, eb, tb, ec, tc, ed, td⟩ := is_mod hm
  have hly : ys.length = firm.length := by rw [tc.length, List.length_map]
  walk_at "aw"
  refine w_ixT (SqT.of (a1.tup _ _ ea)) rfl ?_
  refine kForT_i (xs := ys) (fun i σ H' => ∃ y1 y2, σ = [some (.ref a), some f, some (.ref d), y1, y2] ∧ Adv [] H1 H' ∧ i ≤ firm.length ∧ ∀ p ∈ firm.take i, holdP (wOf (doms.map (·.1)) fl) p.2 = true) (SqT.of (a1.tup _ _ ec))
    ⟨none, none, rfl, .refl _ _, Nat.zero_le _, fun p h => by simp at h⟩ (fun i σ H' _ p => ?_) (fun i v σ H' hv p => ?_) fun σ H' p => ?_
  · obtain ⟨_, _, _, g, _⟩ := p
    exact SqT.of (g.tup _ _ (a1.tup _ _ ec))
  · obtain ⟨y1, y2, rfl, g, hi, hh⟩ := p
    obtain ⟨dt, e1, h1⟩ := tc.get hv
    rw [List.getElem?_map] at e1
    obtain ⟨pr, z1, rfl⟩ := Option.map_eq_some_iff.mp e1
    obtain ⟨ia, vs, rfl, ei, h2⟩ := h1.tup_inv
    cases h2 with
    | cons h3 h4 =>
      cases h4 with
      | cons h5 h6 =>
        cases h6
        cases h3
        rename_i sv
        have pmem := List.mem_of_getElem? z1
        have po := ok.fo _ pmem
        refine w_gtup (SqT.of (g.tup _ _ (a1.tup _ _ ei))) rfl ?_
        walk_at "aw"
        refine ⟨_, _, rfl, pr.2, _, _, (h5.up a1.tup).up g.tup, hd.up g, po.1, po.2, fun H4 a4 => ?_⟩
        walk_at "aw"
        have hlt : i < firm.length := (List.getElem?_eq_some_iff.mp z1).1
        cases hb : holdP (wOf (doms.map (·.1)) fl) pr.2 with
        | false =>
          refine iteT ?_
          walk_at "aw"
          have hq := q H4 (a1.trans (g.trans a4))
          have e : (firm.all fun p => holdP (wOf (doms.map (·.1)) fl) p.2) = false := List.all_eq_false.mpr ⟨pr, pmem, by rw [hb]; decide⟩
          rw [e] at hq
          exact hq
        | true =>
          refine iteF ?_
          walk_at "aw"
          refine ⟨_, _, rfl, g.trans a4, hlt, fun p hp => ?_⟩
          rw [List.take_add_one, z1] at hp
          rcases List.mem_append.mp hp with hp | hp
          · exact hh p hp
          · rw [show p = pr by simpa using hp]
            exact hb
  · obtain ⟨y1, y2, rfl, g, hi, hh⟩ := p
    walk_at "aw"
    have hq := q H' (a1.trans g)
    have e : (firm.all fun p => holdP (wOf (doms.map (·.1)) fl) p.2) = true := by
      rw [List.all_eq_true]
      exact fun p hp => hh p (by rw [List.take_of_length_le (by omega)]; exact hp)
    rw [e] at hq
    exact hq
end AW
namespace AW
open PySem PySem.Spec PyProof.Rows L2 RZ
local macro_rules | `(tactic| walk_at "aw1") => `(tactic| first
  | (with_reducible refine w_seq ?_) | (with_reducible refine w_asg ?_) | (with_reducible refine w_gname ?_) | (with_reducible refine w_op ?_) | (with_reducible refine w_un ?_)
  | ((with_reducible refine' w_var ?h ?_); (case h => rfl)) | (with_reducible refine w_c ?_)
  | (with_reducible refine w_I0 ?_) | (with_reducible refine w_U ?_) | (with_reducible refine w_cb ?_) | (with_reducible refine w_nil ?_) | (with_reducible refine w_cons ?_) | (with_reducible refine w_call ?_)
  | (with_reducible refine w_test ?_) | (with_reducible refine w_B ?_) | (with_reducible refine w_bl ?_) | (with_reducible refine w_not ?_) | (with_reducible refine w_yes ?_) | (with_reducible refine iteT ?_) | (with_reducible refine iteF ?_) | (with_reducible refine w_and ?_) | (with_reducible refine w_or ?_)
  | (with_reducible refine w_andV ?_) | (with_reducible refine w_orV ?_) | (with_reducible refine w_notV ?_) | (with_reducible refine w_if ?_)
  | (with_reducible refine w_int1 ?_) | (with_reducible refine w_int1b ?_) | (with_reducible refine w_abs ?_) | (with_reducible refine w_max2 ?_) | (with_reducible refine w_min2 ?_)
  | ((with_reducible refine w_eq ?h ?_); (case h => rfl)) | ((with_reducible refine w_ne ?h ?_); (case h => rfl)) | (with_reducible refine w_isN ?_) | (with_reducible refine w_isB ?_) | (with_reducible refine w_chain ?_)
  | (with_reducible refine w_ret ?_) | (with_reducible refine w_drop ?_) | (with_reducible refine w_ifS ?_) | (with_reducible refine w_gsub ?_) | (with_reducible refine w_augS ?_) | (with_reducible refine w_ipI ?_) | (with_reducible refine w_next ?_)
  | (with_reducible refine w_forR ?_) | (with_reducible refine w_forR2 ?_) | (with_reducible refine w_forL ?_) | (with_reducible refine w_forT ?_) | (with_reducible refine w_lcR ?_) | (with_reducible refine w_lcL ?_) | (with_reducible refine w_lcT ?_) | (with_reducible refine w_sl ?_) | (with_reducible refine w_part ?_) | (with_reducible refine w_noPart ?_) | (with_reducible refine w_in ?_)
  | (with_reducible refine w_gcons ?_) | (with_reducible refine w_gnil ?_) | (with_reducible refine w_lc3 ?_) | (with_reducible refine w_dcZ ?_) | (with_reducible refine w_dcT ?_) | (with_reducible refine w_dg ?_) | (with_reducible refine w_callK ?_) | (with_reducible refine w_dput ?_) | (with_reducible refine w_tup1 ?_)
  | (with_reducible refine w_tup ?_) | (with_reducible refine w_lst ?_)
  | ((with_reducible refine w_I ?h ?_); (case h => first | (exact Or.inr ⟨by decide, by decide⟩) | (exact Or.inl ⟨by decide, by decide⟩) | (show (0 : Int) < _; decide) | (exact ⟨by decide, by decide, by decide⟩) | assumption)))
local macro_rules | `(tactic| walk_at "aw") => `(tactic| repeat (walk_at "aw1"))
/-! ### the law's own reading: what each promises -/
def SqA (K : PySem.W.Frag) (H : Hp) (p : Addr) (xs : List V) : Prop := SqL K H p xs ∨ SqT K H p xs
theorem SqA.up {K : PySem.W.Frag} {H H' : Hp} {p : Addr} {xs : List V} (h : SqA K H p xs) (e : Adv [] H H') : SqA K H' p xs := h.imp (fun h => e.sql (fun z => nomatch z) h) fun h => e.sqt (fun _ _ _ z => nomatch z) h
theorem w_ixA {K : PySem.W.Frag} {H : Hp} {Q : VK} {p : Addr} {xs : List V} {i : Int} {v : V} (h : SqA K H p xs) (e : atI xs i = some v) (q : Q v H) : rIxA K (.ref p) (.int i) H Q := h.imp (fun h => w_ixL h e q) fun h => w_ixT h e q
theorem w_lenA {K : PySem.W.Frag} {H : Hp} {Q : VK} {p : Addr} {xs : List V} (h : SqA K H p xs) (q : Q (.int (xs.length : Nat)) H) : rLen1 K [.ref p] H Q := by
  rcases h with h | h
  · exact w_lenL h q
  · exact w_lenT h q
/-- a list of such data -/
def LsAt (H : Hp) (p : Addr) (ds : List PyData) : Prop := ∃ xs, H p = some (.lst xs) ∧ IsAll H ds xs
theorem LsAt.up {H H' : Hp} {p : Addr} {ds : List PyData} (h : LsAt H p ds) (e : Adv [] H H') : LsAt H' p ds := by
  obtain ⟨xs, h1, h2⟩ := h
  exact ⟨xs, e.keep _ _ (fun z => nomatch z) h1, h2.up e.tup⟩
theorem LsAt.go {st cs : Addr} {H H' : Hp} {p : Addr} {ds : List PyData} (h : LsAt H p ds) (n : p ≠ st) (g : Go st cs H H') : LsAt H' p ds := by
  obtain ⟨xs, h1, h2⟩ := h
  exact ⟨xs, g.keep n h1, h2.up g.tk⟩
def sp__law_is_due (_ : PySem.W.Frag) : Sp := fun vs H Q _ => ∃ (a b : Bool), vs = [.bl a, .bl b] ∧ Q (.bl (a == b)) H
def sp__law_world (K : PySem.W.Frag) : Sp := fun vs H Q _ => ∃ (p f : Addr), vs = [.ref p, .ref f] ∧ ∃ (doms : List (Str × List Int)) (fl : List Int), LsAt H p (doms.map domD) ∧ SqA K H f (fl.map V.int) ∧ fl.length = doms.length ∧ (doms.map (·.1)).Nodup ∧ doms.length ≤ 100 ∧
  ∀ d H', Adv [] H H' → H d = none → WD H' d (doms.map (·.1)) (wOf (doms.map (·.1)) fl) → Q (.ref d) H'
def sp__law_peak (K : PySem.W.Frag) : Sp := fun vs H Q _ => ∃ (p l n d : Addr), vs = [.ref p, .ref l, .ref n, .ref d] ∧ ∃ (xs : List Str) (ls ns : List Int) (names : List Str) (w : Str → Int), SqA K H p (xs.map V.str) ∧ SqA K H l (ls.map V.int) ∧ SqA K H n (ns.map V.int) ∧ WD H d names w ∧ (∀ x ∈ xs, x ∈ names) ∧ ls.length = xs.length ∧ ns.length = xs.length ∧ xs.length ≤ 100 ∧
  ∀ H', Adv [] H H' → Q (.int (peakTo w xs ls ns xs.length)) H'
def sp__law_holds (_ : PySem.W.Frag) : Sp := fun vs H Q _ => ∃ (v : V) (d : Addr), vs = [v, .ref d] ∧ ∃ s names w, Is H (sayD s) v ∧ WD H d names w ∧ s.ok ∧ (∀ x ∈ s.names, x ∈ names) ∧ ∀ H', Adv [] H H' → Q (.bl (holdP w s)) H'
def t__law_is_due  : TS := (tRet (tIf (tB (tVar 1)) (tOp rIsB (tVar 0) (tC (.bl true))) (tOp rIsB (tVar 0) (tC (.bl false)))))
def t__law_world (K : PySem.W.Frag) : TS := (tSeq (tAsg tDNewK (gName 2))
  (tSeq (tFor (iRng1 (tCons (tCB (rLen1 K) (tCons (tVar 0) tNil)) tNil)) (gName 3)
  (sDPut (tVar 2) (tOp (rIxT K) (tOp (rIxL K) (tVar 0) (tVar 3)) (tC (.int 0))) (tOp (rIxA K) (tVar 1) (tVar 3))))
  (tRet (tVar 2))))
def t__law_peak (K : PySem.W.Frag) : TS := (tSeq (tAsg (tC (.int 0)) (gName 4))
  (tSeq (tFor (iRng1 (tCons (tCB (rLen1 K) (tCons (tVar 0) tNil)) tNil)) (gName 5)
  (tSeq (tAsg (tDGet (tVar 3) (tOp (rIxA K) (tVar 0) (tVar 5))) (gName 6))
  (tAsg (tCB rMax2 (tCons (tVar 4) (tCons (tCB (rSum K) (tCons (tLc (iRng1 (tCons (tCB (rLen1 K) (tCons (tVar 0) tNil)) tNil)) (gName 7) (tTest (tChain rLeI rLtI (tDGet (tVar 3) (tOp (rIxA K) (tVar 0) (tVar 7))) (tVar 6) (tOp rAddI (tDGet (tVar 3) (tOp (rIxA K) (tVar 0) (tVar 7))) (tOp (rIxA K) (tVar 1) (tVar 7))))) (tOp (rIxA K) (tVar 2) (tVar 7)) [7]) tNil)) tNil))) (gName 4))))
  (tRet (tVar 4))))
def t__law_holds (K : PySem.W.Frag) : TS := (tSeq (tAsg (tOp (rIxT K) (tVar 0) (tC (.int 1))) (gName 2))
  (tSeq (tIfS (tTest (tOp rEq (tOp (rIxT K) (tVar 0) (tC (.int 0))) (tC (.str "works")))) (tRet (tOp rLeI (tCall (sp__law_peak K) [] E0 (tCons (tVar 2) (tCons (tOp (rIxT K) (tVar 0) (tC (.int 2))) (tCons (tOp (rIxT K) (tVar 0) (tC (.int 3))) (tCons (tVar 1) tNil))))) (tOp (rIxT K) (tVar 0) (tC (.int 4))))) tNext)
  (tSeq (tIfS (tTest (tOp rGtI (tCB (rLen1 K) (tCons (tLc (iTup K (tVar 2)) (gName 3) (tNot (tTest (tChain rLeI rLtI (tC (.int 0)) (tDGet (tVar 1) (tVar 3)) (tCB (rLen1 K) (tCons (tVar 2) tNil))))) (tVar 3) [3]) tNil)) (tC (.int 0)))) (tRet (tC (.bl false))) tNext)
  (tSeq (tAsg (tC (.int 0)) (gName 4))
  (tSeq (tFor (iRng1 (tCons (tCB (rLen1 K) (tCons (tVar 2) tNil)) tNil)) (gName 5)
  (tSeq (tAsg (tDGet (tVar 1) (tOp (rIxT K) (tVar 2) (tVar 4))) (gName 4))
  (tIfS (tTest (tOp rEq (tVar 4) (tC (.int 0)))) (tRet (tOp rEq (tVar 5) (tOp rSubI (tCB (rLen1 K) (tCons (tVar 2) tNil)) (tC (.int 1))))) tNext)))
  (tRet (tC (.bl false))))))))
theorem len__law_is_due {K : PySem.W.Frag} : ∀ (vs : List V) (H : Hp) (Q : VK) (E : XK), sp__law_is_due K vs H Q E → vs.length = 2 := fun vs H Q E h => by
  obtain ⟨_, _, rfl, _⟩ := h
  rfl
theorem pure__law_is_due {K : PySem.W.Frag} (vs : List V) (H : Hp) (Q : VK) (E : XK) (h : sp__law_is_due K vs H Q E) : t__law_is_due { nx := fun _ H' => Q .non H', rt := Q } (start ["told", "due"] vs) H := by
  obtain ⟨a, b, rfl, q⟩ := h
  show t__law_is_due _ [some (.bl a), some (.bl b)] H
  unfold t__law_is_due
  walk_at "aw"
  cases b <;> cases a <;> walk_at "aw" <;> exact q
theorem len__law_world {K : PySem.W.Frag} : ∀ (vs : List V) (H : Hp) (Q : VK) (E : XK), sp__law_world K vs H Q E → vs.length = 2 := fun vs H Q E h => by
  obtain ⟨_, _, rfl, _⟩ := h
  rfl
theorem idxOf_at {names : List Str} (hn : names.Nodup) {j : Nat} {x : Str} (h : names[j]? = some x) : names.idxOf x = j := by
  obtain ⟨hj, rfl⟩ := List.getElem?_eq_some_iff.mp h
  exact hn.idxOf_getElem j hj
theorem pure__law_world {K : PySem.W.Frag} (vs : List V) (H : Hp) (Q : VK) (E : XK) (h : sp__law_world K vs H Q E) : t__law_world K { nx := fun _ H' => Q .non H', rt := Q } (start ["doms", "filling", "at", "k"] vs) H := by
  obtain ⟨p, f, rfl, doms, fl, ⟨xs, hp, tp⟩, hf, hfl, hnd, hdl, q⟩ := h
  show t__law_world K _ [some (.ref p), some (.ref f), none, none] H
  have hxl : xs.length = doms.length := by rw [tp.length, List.length_map]
  unfold t__law_world
  walk_at "aw"
  refine w_dnew fun d H1 nd a1 e1 => ?_
  walk_at "aw"
  refine w_lenL (SqL.of (a1.keep _ _ (fun z => nomatch z) hp)) ?_
  walk_at "aw"
  rw [hxl]
  refine kForR_i (n := doms.length) (by omega) (fun i σ H' => ∃ y kvs, σ = [some (.ref p), some (.ref f), some (.ref d), y] ∧ Adv [] H H' ∧ H' d = some (.dK kvs) ∧ kvs.length ≤ i ∧ ∀ (j : Nat) x v, j < i → (doms.map (·.1))[j]? = some x → fl[j]? = some v → valV kvs (Sum.inr x) = some (.int v))
    ⟨none, [], rfl, a1, e1, Nat.le_refl _, fun j x v hj => absurd hj (Nat.not_lt_zero _)⟩ (fun i σ H' hi pp => ?_) fun σ H' pp => ?_
  · obtain ⟨y, kvs, rfl, g, ed, hk, hv⟩ := pp
    obtain ⟨pr, z1⟩ := get_some (xs := doms) hi
    obtain ⟨n1, z2⟩ := get_some (xs := fl) (i := i) (by omega)
    obtain ⟨x, z3⟩ := get_some (xs := xs) (i := i) (by omega)
    obtain ⟨dt, e2, h2⟩ := tp.get z3
    rw [List.getElem?_map, z1] at e2
    cases e2
    obtain ⟨ia, ib, rfl, e3, e4⟩ := is_dom h2
    walk_at "aw"
    refine w_ixA (hf.up g) (at_of (j := i) rfl (by rw [List.getElem?_map, z2]; rfl)) ?_
    walk_at "aw"
    refine w_ixL (SqL.of (g.keep _ _ (fun z => nomatch z) hp)) (at_of (j := i) rfl z3) ?_
    walk_at "aw"
    refine w_ixT (SqT.of (g.tup _ _ e3)) rfl ?_
    refine kDPut_i (k := Sum.inr pr.1) ed (by omega) ⟨_, _, rfl, g.mut nd ed (fun _ z => by cases z), upd_same, Nat.le_trans (length_putK ..) (Nat.succ_le_succ hk), fun j x v hj hx hvv => ?_⟩
    rw [valV_put]
    have zi : (doms.map (·.1))[i]? = some pr.1 := by rw [List.getElem?_map, z1]; rfl
    by_cases e : j = i
    · subst e
      rw [zi] at hx
      cases hx
      rw [z2] at hvv
      cases hvv
      rw [if_pos rfl]
    · have hne : ¬ (Sum.inr x : Key) = Sum.inr pr.1 := fun z => e (nodup_inj hnd hx (by rw [Sum.inr.inj z]; exact zi))
      rw [if_neg hne]
      exact hv j x v (by omega) hx hvv
  · obtain ⟨y, kvs, rfl, g, ed, hk, hv⟩ := pp
    walk_at "aw"
    refine q d H' g nd ⟨kvs, ed, fun x hx => ?_⟩
    obtain ⟨j, hj, rfl⟩ := List.mem_iff_getElem.mp hx
    have zj := List.getElem?_eq_getElem hj
    rw [List.length_map] at hj
    obtain ⟨v, hvv⟩ := get_some (xs := fl) (i := j) (by omega)
    rw [hv j _ v hj zj hvv]
    unfold wOf
    rw [idxOf_at hnd zj, getD_of hvv]
theorem len__law_peak {K : PySem.W.Frag} : ∀ (vs : List V) (H : Hp) (Q : VK) (E : XK), sp__law_peak K vs H Q E → vs.length = 4 := fun vs H Q E h => by
  obtain ⟨_, _, _, _, rfl, _⟩ := h
  rfl
theorem pure__law_peak {K : PySem.W.Frag} (vs : List V) (H : Hp) (Q : VK) (E : XK) (h : sp__law_peak K vs H Q E) : t__law_peak K { nx := fun _ H' => Q .non H', rt := Q } (start ["xs", "lengths", "needs", "at", "peak", "j", "t", "k"] vs) H := by
  obtain ⟨p, l, n, d, rfl, xs, ls, ns, names, w, hp, hl, hn, hd, hx, o1, o2, o3, q⟩ := h
  show t__law_peak K _ [some (.ref p), some (.ref l), some (.ref n), some (.ref d), none, none, none, none] H
  have hlen : (xs.map V.str).length = xs.length := List.length_map ..
  have hin : ∀ {i : Nat} {x : Str}, xs[i]? = some x → x ∈ names := fun e => hx _ (List.mem_of_getElem? e)
  unfold t__law_peak
  walk_at "aw"
  refine w_lenA hp ?_
  rw [hlen]
  walk_at "aw"
  refine kForR_i (n := xs.length) (by omega) (fun i σ H' => ∃ y1 y2, σ = [some (.ref p), some (.ref l), some (.ref n), some (.ref d), some (.int (peakTo w xs ls ns i)), y1, y2, none] ∧ Adv [] H H') ⟨none, none, rfl, .refl _ _⟩ (fun i σ H' hi pp => ?_) fun σ H' pp => ?_
  · obtain ⟨y1, y2, rfl, g⟩ := pp
    obtain ⟨x, z1⟩ := get_some (xs := xs) hi
    have zx := at_of (xs := xs.map V.str) (z := (i : Nat)) (j := i) rfl (by rw [List.getElem?_map, z1]; rfl)
    walk_at "aw"
    refine w_ixA (hp.up g) zx ?_
    refine (hd.up g).get (hin z1) ?_
    walk_at "aw"
    refine w_lenA (hp.up g) ?_
    rw [hlen]
    walk_at "aw"
    refine kLcR_pure (by omega) (fun k => decide (w (xs.getD k nix) ≤ w x) && decide (w x < w (xs.getD k nix) + ls.getD k 0)) (fun k => .int (ns.getD k 0)) (fun k H3 Kt Kf hk g2 kt kf => ?_) fun r H2 nr g' er => ?_
    · have g3 := g.trans g2
      obtain ⟨x2, z2⟩ := get_some (xs := xs) hk
      obtain ⟨l2, z3⟩ := get_some (xs := ls) (i := k) (by omega)
      obtain ⟨n2, z4⟩ := get_some (xs := ns) (i := k) (by omega)
      rw [getD_of z2, getD_of z3] at kt kf
      rw [getD_of z4] at kt
      have zx2 := at_of (xs := xs.map V.str) (z := (k : Nat)) (j := k) rfl (by rw [List.getElem?_map, z2]; rfl)
      walk_at "aw"
      refine ⟨rfl, ?_⟩
      walk_at "aw"
      refine w_ixA (hp.up g3) zx2 ?_
      refine (hd.up g3).get (hin z2) ?_
      walk_at "aw"
      refine w_iteB (fun h1 => ?_) fun h1 => ?_
      · walk_at "aw"
        refine w_ixA (hp.up g3) zx2 ?_
        refine (hd.up g3).get (hin z2) ?_
        walk_at "aw"
        refine w_ixA (hl.up g3) (at_of (j := k) rfl (by rw [List.getElem?_map, z3]; rfl)) ?_
        walk_at "aw"
        refine w_iteB (fun h2 => ?_) fun h2 => ?_
        · walk_at "aw"
          refine w_ixA (hn.up g3) (at_of (j := k) rfl (by rw [List.getElem?_map, z4]; rfl)) ?_
          exact kt (by simp [h1, h2]) _ (.refl _ _)
        · exact kf (by simp [h2]) _ (.refl _ _)
      · walk_at "aw"
        exact kf (by simp [h1]) _ (.refl _ _)
    · walk_at "aw"
      refine ⟨r, (((List.range xs.length).filter fun k => decide (w (xs.getD k nix) ≤ w x) && decide (w x < w (xs.getD k nix) + ls.getD k 0)).map fun k => ns.getD k 0), rfl, ?_, ?_⟩
      · rw [List.map_map]
        exact SqL.of er
      · walk_at "aw"
        refine ⟨some (.int (i : Nat)), some (.int (w x)), ?_, g.trans g'⟩
        have e : peakTo w xs ls ns (i + 1) = if load w xs ls ns (w x) > peakTo w xs ls ns i then load w xs ls ns (w x) else peakTo w xs ls ns i := by
          rw [← getD_of (d := nix) z1]
          rfl
        rw [e]
        rfl
  · obtain ⟨y1, y2, rfl, g⟩ := pp
    walk_at "aw"
    exact q H' g
theorem len__law_holds {K : PySem.W.Frag} : ∀ (vs : List V) (H : Hp) (Q : VK) (E : XK), sp__law_holds K vs H Q E → vs.length = 2 := fun vs H Q E h => by
  obtain ⟨_, _, rfl, _⟩ := h
  rfl
theorem pure__law_holds {K : PySem.W.Frag} (vs : List V) (H : Hp) (Q : VK) (E : XK) (h : sp__law_holds K vs H Q E) : t__law_holds K { nx := fun _ H' => Q .non H', rt := Q } (start ["saying", "at", "xs", "x", "here", "step"] vs) H := by
  obtain ⟨v, d, rfl, s, names, w, hv, hd, ok, hx, q⟩ := h
  show t__law_holds K _ [some v, some (.ref d), none, none, none, none] H
  unfold t__law_holds
  cases s with
  | works xs ls ns room =>
    obtain ⟨a, b, c, e, rfl, ea, eb, ec, ee⟩ := is_works hv
    obtain ⟨o1, o2, o3, o4⟩ := ok
    walk_at "aw"
    refine w_ixT (SqT.of ea) rfl ?_
    walk_at "aw"
    refine w_ixT (SqT.of ea) rfl ?_
    walk_at "aw"
    refine w_iteB (fun _ => ?_) fun h => absurd rfl h
    walk_at "aw"
    refine w_ixT (SqT.of ea) rfl ?_
    walk_at "aw"
    refine w_ixT (SqT.of ea) rfl ?_
    walk_at "aw"
    refine ⟨b, c, e, d, rfl, xs, ls, ns, names, w, .inr (SqT.of eb), .inr (SqT.of ec), .inr (SqT.of ee), hd, hx, o1, o2, o4, fun H' g => ?_⟩
    walk_at "aw"
    refine w_ixT (SqT.of (g.tup _ _ ea)) rfl ?_
    walk_at "aw"
    rw [peak_holds o3]
    exact q H' g
  | round xs =>
    obtain ⟨a, b, rfl, ea, eb⟩ := is_round hv
    obtain ⟨o1, o2⟩ := ok
    have hlen : (xs.map V.str).length = xs.length := List.length_map ..
    have hin : ∀ {i : Nat} {x : Str}, xs[i]? = some x → x ∈ names := fun e => hx _ (List.mem_of_getElem? e)
    walk_at "aw"
    refine w_ixT (SqT.of ea) rfl ?_
    walk_at "aw"
    refine w_ixT (SqT.of ea) rfl ?_
    walk_at "aw"
    refine w_iteB (fun h => absurd h (by decide)) fun _ => ?_
    walk_at "aw"
    refine ⟨b, rfl, ⟨_, SqT.of eb⟩, ?_⟩
    refine kLc_pure (walk_tup (K := K) (a := b) (xs := xs.map V.str)) (by omega) (fun H' g => SqT.of (g.tup _ _ eb)) (fun k => !(decide (0 ≤ w (xs.getD k nix)) && decide (w (xs.getD k nix) < xs.length))) (fun k => .str (xs.getD k nix)) (fun k x H2 H3 Kt Kf hk g2 y kt kf => ?_) fun r H2 nr g' er => ?_
    · obtain ⟨rfl, y1⟩ := y
      rw [List.getElem?_map] at y1
      obtain ⟨n1, z1, rfl⟩ := Option.map_eq_some_iff.mp y1
      rw [getD_of z1] at kt kf
      walk_at "aw"
      refine ⟨rfl, ?_⟩
      walk_at "aw"
      refine (hd.up g2).get (hin z1) ?_
      walk_at "aw"
      refine w_iteB (fun h1 => ?_) fun h1 => ?_
      · walk_at "aw"
        refine w_lenT (SqT.of (g2.tup _ _ eb)) ?_
        rw [hlen]
        walk_at "aw"
        refine w_iteNB (fun h2 => ?_) fun h2 => ?_
        · walk_at "aw"
          exact kt (by simp [h2]) _ (.refl _ _)
        · exact kf (by simp [h1, h2]) _ (.refl _ _)
      · walk_at "aw"
        refine iteT ?_
        walk_at "aw"
        exact kt (by simp [h1]) _ (.refl _ _)
    · rw [hlen] at er
      walk_at "aw"
      refine w_lenL (SqL.of er) ?_
      walk_at "aw"
      have heq : (0 : Int) < ((((List.range xs.length).filter fun k => !(decide (0 ≤ w (xs.getD k nix)) && decide (w (xs.getD k nix) < xs.length))).map fun k => V.str (xs.getD k nix)).length : Nat) ↔ ¬ ∀ x ∈ xs, 0 ≤ w x ∧ w x < xs.length := by
        rw [List.length_map]
        constructor
        · intro h hall
          have h2 : 0 < ((List.range xs.length).filter fun k => !(decide (0 ≤ w (xs.getD k nix)) && decide (w (xs.getD k nix) < xs.length))).length := by omega
          obtain ⟨k, hk⟩ := List.exists_mem_of_length_pos h2
          obtain ⟨hk1, hk2⟩ := List.mem_filter.mp hk
          have hk1 := List.mem_range.mp hk1
          rw [getD_of (List.getElem?_eq_getElem hk1)] at hk2
          have := hall _ (List.getElem_mem hk1)
          simp [this] at hk2
        · intro h
          apply Classical.byContradiction
          intro h2
          apply h
          intro x hxm
          obtain ⟨k, hk, rfl⟩ := List.mem_iff_getElem.mp hxm
          apply Classical.byContradiction
          intro h3
          have hm : k ∈ (List.range xs.length).filter fun k => !(decide (0 ≤ w (xs.getD k nix)) && decide (w (xs.getD k nix) < xs.length)) := by
            rw [List.mem_filter]
            refine ⟨List.mem_range.mpr hk, ?_⟩
            rw [getD_of (List.getElem?_eq_getElem hk)]
            by_cases h4 : 0 ≤ w xs[k]
            · have h5 : ¬ w xs[k] < xs.length := fun z => h3 ⟨h4, z⟩
              simp [h5]
            · simp [h4]
          have := List.length_pos_of_mem hm
          omega
      refine w_iteB (fun h => ?_) fun h => ?_
      · walk_at "aw"
        have hq := q H2 g'
        have e : holdP w (.round xs) = false := by
          cases hb : holdP w (.round xs) with
          | false => rfl
          | true => exact absurd (walkP_all hb) (heq.mp h)
        rw [e] at hq
        exact hq
      · have hall : ∀ x ∈ xs, 0 ≤ w x ∧ w x < xs.length := Classical.byContradiction fun z => h (heq.mpr z)
        have eb2 := g'.tup _ _ eb
        walk_at "aw"
        refine w_lenT (SqT.of eb2) ?_
        rw [hlen]
        walk_at "aw"
        refine kForR_i (n := xs.length) (by omega) (fun i σ H' => ∃ (p : Nat) (y : Option V), σ = [some (.ref a), some (.ref d), some (.ref b), none, some (.int (p : Nat)), y] ∧ Adv [] H H' ∧ p < xs.length ∧ i ≤ xs.length ∧ walkL w xs (xs.length - i) p = holdP w (.round xs))
          ⟨0, none, rfl, g', o1, Nat.zero_le _, walkL_eq hall _ _ o1⟩ (fun i σ H' hi p => ?_) fun σ H' p => ?_
        · obtain ⟨p, y, rfl, a1, hp, hile, hw⟩ := p
          have eb1 := a1.tup _ _ eb
          obtain ⟨n1, z1⟩ := get_some (xs := xs) hp
          have hstep : walkL w xs (xs.length - i) p = (if w n1 = 0 then decide (xs.length - i - 1 = 0) else walkL w xs (xs.length - i - 1) (w n1).toNat) := by
            obtain ⟨m, hm⟩ : ∃ m, xs.length - i = m + 1 := ⟨xs.length - i - 1, by omega⟩
            rw [hm, ← getD_of (d := nix) z1]
            rfl
          walk_at "aw"
          refine w_ixT (SqT.of eb1) (at_of (j := p) rfl (by rw [List.getElem?_map, z1]; rfl)) ?_
          refine (hd.up a1).get (hin z1) ?_
          walk_at "aw"
          refine w_iteB (fun h0 => ?_) fun h0 => ?_
          · have h0 : w n1 = 0 := V.int.inj h0
            walk_at "aw"
            refine w_lenT (SqT.of eb1) ?_
            rw [hlen]
            walk_at "aw"
            have e : decide (V.int ((i : Nat) : Int) = V.int ((xs.length : Nat) - 1)) = holdP w (.round xs) := by
              rw [← hw, hstep, if_pos h0, Bool.eq_iff_iff, decide_eq_true_iff, decide_eq_true_iff]
              constructor
              · intro h
                have := V.int.inj h
                omega
              · intro h
                exact congrArg V.int (by omega)
            rw [e]
            exact q _ a1
          · have h0 : w n1 ≠ 0 := fun z => h0 (by rw [z])
            rw [if_neg h0] at hstep
            have hr := hall n1 (List.mem_of_getElem? z1)
            walk_at "aw"
            refine ⟨(w n1).toNat, some (.int (i : Nat)), ?_, a1, by omega, hi, ?_⟩
            · have : (((w n1).toNat : Nat) : Int) = w n1 := by omega
              rw [this]
              rfl
            · rw [← hw, hstep]
              rfl
        · obtain ⟨p, y, rfl, a1, hp, hile, hw⟩ := p
          rw [Nat.sub_self] at hw
          walk_at "aw"
          have := q _ a1
          rw [← hw] at this
          exact this
end AW
/-! data that can be compared -/
namespace AW
open PySem PySem.Spec PyProof.Rows L2 RZ
def okS (x : Str) : Prop := x.cps.all (· < 0x110000) = true
def rowD (r : List Int) : PyData := .tuple (r.map .int)
theorem lay_ints : ∀ ns : List Int, PyData.canLayAll0 (ns.map .int) = true
  | [] => by simp [PyData.canLayAll0]
  | n :: ns => by simp [PyData.canLayAll0, PyData.canLay0, lay_ints ns]
theorem lay_strs : ∀ ns : List Str, (∀ x ∈ ns, okS x) → PyData.canLayAll0 (ns.map .str) = true
  | [], _ => by simp [PyData.canLayAll0]
  | n :: ns, h => by
    have h1 : PyData.canLay0 (.str n) = true := h n (List.mem_cons_self ..)
    simp [PyData.canLayAll0, h1, lay_strs ns fun x hx => h x (List.mem_cons_of_mem _ hx)]
theorem deep_ints : ∀ ns : List Int, PyData.depthAll (ns.map .int) ≤ 1
  | [] => by simp [PyData.depthAll]
  | n :: ns => by
    have := deep_ints ns
    simp only [List.map_cons, PyData.depthAll, PyData.depth]
    omega
theorem deep_strs : ∀ ns : List Str, PyData.depthAll (ns.map .str) ≤ 1
  | [] => by simp [PyData.depthAll]
  | n :: ns => by
    have := deep_strs ns
    simp only [List.map_cons, PyData.depthAll, PyData.depth]
    omega
theorem say_lay : ∀ (s : Say), (∀ x ∈ s.names, okS x) → (sayD s).canLay0 = true
  | .works xs ls ns room, h => by
    simp only [sayD, PyData.canLay0, PyData.canLayAll0, lay_strs xs h, lay_ints]
    decide +kernel
  | .round xs, h => by
    simp only [sayD, PyData.canLay0, PyData.canLayAll0, lay_strs xs h]
    decide +kernel
theorem say_deep (s : Say) : (sayD s).depth ≤ 5 := by
  cases s with
  | works xs ls ns room =>
    have h1 := deep_strs xs
    have h2 := deep_ints ls
    have h3 := deep_ints ns
    simp only [sayD, PyData.depth, PyData.depthAll]
    omega
  | round xs =>
    have h1 := deep_strs xs
    simp only [sayD, PyData.depth, PyData.depthAll]
    omega
theorem it_lay {p : Str × Say} (h : okS p.1) (h2 : ∀ x ∈ p.2.names, okS x) : (itD p).canLay0 = true := by
  have h1 : PyData.canLay0 (.str p.1) = true := h
  simp only [itD, PyData.canLay0, PyData.canLayAll0, say_lay p.2 h2, Bool.and_true, Bool.true_and]
  exact h1
theorem it_deep (p : Str × Say) : (itD p).depth ≤ 10 := by
  have := say_deep p.2
  simp only [itD, PyData.depth, PyData.depthAll]
  omega
theorem it_shaped {p : Str × Say} (h : okS p.1) (h2 : ∀ x ∈ p.2.names, okS x) : SeqAt.shaped (itD p) = true := by
  have := it_deep p
  show ((itD p).canLay0 && decide ((itD p).depth ≤ 64)) = true
  rw [it_lay h h2, decide_eq_true (by omega)]
  rfl
theorem its_shaped : ∀ ps : List (Str × Say), (∀ p ∈ ps, okS p.1 ∧ ∀ x ∈ p.2.names, okS x) → PyData.canLayAll0 (ps.map itD) = true ∧ PyData.depthAll (ps.map itD) ≤ 10
  | [], _ => by simp [PyData.canLayAll0, PyData.depthAll]
  | p :: ps, h => by
    have h1 := h p (List.mem_cons_self ..)
    have h2 := its_shaped ps fun q hq => h q (List.mem_cons_of_mem _ hq)
    have h3 := it_deep p
    refine ⟨?_, ?_⟩
    · simp only [List.map_cons, PyData.canLayAll0, it_lay h1.1 h1.2, h2.1, Bool.and_true]
    · simp only [List.map_cons, PyData.depthAll]
      omega
theorem its_list {ps : List (Str × Say)} (h : ∀ p ∈ ps, okS p.1 ∧ ∀ x ∈ p.2.names, okS x) : SeqAt.shaped (.list (ps.map itD)) = true := by
  obtain ⟨h1, h2⟩ := its_shaped ps h
  show ((PyData.list (ps.map itD)).canLay0 && decide ((PyData.list (ps.map itD)).depth ≤ 64)) = true
  have h3 : (PyData.list (ps.map itD)).depth ≤ 64 := by
    simp only [PyData.depth]
    omega
  rw [decide_eq_true h3, Bool.and_true]
  simp only [PyData.canLay0]
  exact h1
end AW
namespace AW
open PySem PySem.Spec PyProof.Rows L2 RZ
local macro_rules | `(tactic| walk_at "aw1") => `(tactic| first
  | (with_reducible refine w_seq ?_) | (with_reducible refine w_asg ?_) | (with_reducible refine w_gname ?_) | (with_reducible refine w_op ?_) | (with_reducible refine w_un ?_)
  | ((with_reducible refine' w_var ?h ?_); (case h => rfl)) | (with_reducible refine w_c ?_)
  | (with_reducible refine w_I0 ?_) | (with_reducible refine w_U ?_) | (with_reducible refine w_cb ?_) | (with_reducible refine w_nil ?_) | (with_reducible refine w_cons ?_) | (with_reducible refine w_call ?_)
  | (with_reducible refine w_test ?_) | (with_reducible refine w_B ?_) | (with_reducible refine w_bl ?_) | (with_reducible refine w_not ?_) | (with_reducible refine w_yes ?_) | (with_reducible refine iteT ?_) | (with_reducible refine iteF ?_) | (with_reducible refine w_and ?_) | (with_reducible refine w_or ?_)
  | (with_reducible refine w_andV ?_) | (with_reducible refine w_orV ?_) | (with_reducible refine w_notV ?_) | (with_reducible refine w_if ?_)
  | (with_reducible refine w_int1 ?_) | (with_reducible refine w_int1b ?_) | (with_reducible refine w_abs ?_) | (with_reducible refine w_max2 ?_) | (with_reducible refine w_min2 ?_)
  | ((with_reducible refine w_eq ?h ?_); (case h => rfl)) | ((with_reducible refine w_ne ?h ?_); (case h => rfl)) | (with_reducible refine w_isN ?_) | (with_reducible refine w_isB ?_) | (with_reducible refine w_chain ?_)
  | (with_reducible refine w_ret ?_) | (with_reducible refine w_drop ?_) | (with_reducible refine w_ifS ?_) | (with_reducible refine w_gsub ?_) | (with_reducible refine w_augS ?_) | (with_reducible refine w_ipI ?_) | (with_reducible refine w_next ?_)
  | (with_reducible refine w_forR ?_) | (with_reducible refine w_forR2 ?_) | (with_reducible refine w_forL ?_) | (with_reducible refine w_forT ?_) | (with_reducible refine w_lcR ?_) | (with_reducible refine w_lcL ?_) | (with_reducible refine w_lcT ?_) | (with_reducible refine w_sl ?_) | (with_reducible refine w_part ?_) | (with_reducible refine w_noPart ?_) | (with_reducible refine w_in ?_)
  | (with_reducible refine w_gcons ?_) | (with_reducible refine w_gnil ?_) | (with_reducible refine w_lc3 ?_) | (with_reducible refine w_dcZ ?_) | (with_reducible refine w_dcT ?_) | (with_reducible refine w_dg ?_) | (with_reducible refine w_callK ?_) | (with_reducible refine w_dput ?_) | (with_reducible refine w_tup1 ?_)
  | (with_reducible refine w_tup ?_) | (with_reducible refine w_lst ?_)
  | ((with_reducible refine w_I ?h ?_); (case h => first | (exact Or.inr ⟨by decide, by decide⟩) | (exact Or.inl ⟨by decide, by decide⟩) | (show (0 : Int) < _; decide) | (exact ⟨by decide, by decide, by decide⟩) | assumption)))
local macro_rules | `(tactic| walk_at "aw") => `(tactic| repeat (walk_at "aw1"))
def sp__law_fillings (_ : PySem.W.Frag) : Sp := fun vs H Q _ => ∃ (p : Addr), vs = [.ref p] ∧ ∃ (doms : List (Str × List Int)) (st cs : Addr), StOk st cs H ∧ p ≠ st ∧ LsAt H p (doms.map domD) ∧ (∀ q ∈ doms, q.2.length ≤ 3) ∧ doms.length ≤ 6 ∧
  ∀ r (rows : List (List Int)) H', Go st cs H H' → H r = none → LsAt H' r (rows.map rowD) → (∀ row ∈ rows, row.length = doms.length) → rows.length ≤ 3 ^ 6 → Q (.ref r) H'
def sp__law_near (_ : PySem.W.Frag) : Sp := fun vs H Q _ => ∃ (st p : Addr) (v : V), vs = [.ref st, .ref p, v] ∧ ∃ (cs : Addr) (doms : List (Str × List Int)) (fl : List Int), StOk st cs H ∧ p ≠ st ∧ LsAt H p (doms.map domD) ∧ Is H (rowD fl) v ∧ fl.length = doms.length ∧ 0 < doms.length ∧ doms.length ≤ 100 ∧ (∀ q ∈ doms, 0 < q.2.length ∧ q.2.length ≤ 100) ∧
  ∀ v' (fl' : List Int) H', Go st cs H H' → Is H' (rowD fl') v' → fl'.length = doms.length → Q v' H'
def sp__law_parted (_ : PySem.W.Frag) : Sp := fun vs H Q _ => ∃ (st p d : Addr), vs = [.ref st, .ref p, .ref d] ∧ ∃ (cs : Addr) (made : List (Str × Say)) (names : List Str) (w : Str → Int), StOk st cs H ∧ p ≠ st ∧ LsAt H p (made.map itD) ∧ WD H d names w ∧
  (made.map (·.1)).Nodup ∧ 0 < made.length ∧ made.length ≤ 50 ∧ (∀ q ∈ made, q.2.ok ∧ (∀ x ∈ q.2.names, x ∈ names) ∧ okS q.1 ∧ ∀ x ∈ q.2.names, okS x) ∧
  ∀ r f s (firm soft : List (Str × Say)) H', Go st cs H H' → H' r = some (.lst [.ref f, .ref s]) → f ≠ st → s ≠ st → r ≠ st → LsAt H' f (firm.map itD) → LsAt H' s (soft.map itD) → (firm.map (·.1) ++ soft.map (·.1)).Nodup → (∀ q ∈ firm, q ∈ made) → (∀ q ∈ soft, q ∈ made) → firm.length ≤ 50 → soft.length ≤ 50 → Q (.ref r) H'
def t__law_fillings (K : PySem.W.Frag) : TS := (tSeq (tAsg (tLst (tCons (tTup tNil) tNil)) (gName 1))
  (tSeq (tFor (iList K (tVar 0)) (gName 2)
  (tSeq (tAsg (tLst tNil) (gName 3))
  (tSeq (tFor (iList K (tVar 1)) (gName 4)
  (tAsg (tOp rCat (tVar 3) (tLc (iTup K (tOp (rIxT K) (tVar 2) (tC (.int 1)))) (gName 5) tYes (tOp (rCatA K) (tVar 4) (tTup (tCons (tVar 5) tNil))) [5])) (gName 3)))
  (tAsg (tVar 3) (gName 1)))))
  (tRet (tVar 1))))
def t__law_near (K : PySem.W.Frag) : TS := (tSeq (tAsg (tCB (rListOf K) (tCons (tVar 2) tNil)) (gName 3))
  (tSeq (tFor (iRng1 (tCons (tCall (sp__law_pick K) [] E0 (tCons (tVar 0) (tCons (tLst (tCons (tC (.int 0)) (tCons (tC (.int 1)) (tCons (tC (.int 1)) (tCons (tC (.int 1)) (tCons (tC (.int 2)) (tCons (tC (.int 3)) (tCons (tOp rMulI (tC (.int 2)) (tCB (rLen1 K) (tCons (tVar 1) tNil))) tNil)))))))) tNil))) tNil)) (gName 4)
  (tSeq (tAsg (tCall (sp__law_take K) [] E0 (tCons (tVar 0) (tCons (tCB (rLen1 K) (tCons (tVar 1) tNil)) tNil))) (gName 5))
  (tAsg (tCall (sp__law_pick K) [] E0 (tCons (tVar 0) (tCons (tOp (rIxT K) (tOp (rIxL K) (tVar 1) (tVar 5)) (tC (.int 1))) tNil))) (gSub (tVar 3) (tVar 5) rSetL))))
  (tRet (tThen (tVar 3) (kTup K)))))
def t__law_parted (K : PySem.W.Frag) : TS := (tSeq (tAsg (tCall (sp__law_take K) [] E0 (tCons (tVar 0) (tCons (tCB (rLen1 K) (tCons (tVar 1) tNil)) tNil))) (gName 3))
  (tSeq (tAsg (tLc (iList K (tSl (rSlL K) (tVar 1) (tPart (tVar 3)) tNoPart)) (gName 5) (tOr (tB (tCall (sp__law_holds K) [] E0 (tCons (tOp (rIxT K) (tVar 5) (tC (.int 1))) (tCons (tVar 2) tNil)))) (tTest (tOp rEq (tCall (sp__law_take K) [] E0 (tCons (tVar 0) (tCons (tC (.int 3)) tNil))) (tC (.int 0))))) (tVar 5) [5]) (gName 4))
  (tRet (tLst (tCons (tVar 4) (tCons (tLc (iList K (tVar 1)) (gName 5) (tTest (tOp (rNotInD K) (tVar 5) (tVar 4))) (tVar 5) [5]) tNil))))))
theorem len__law_fillings {K : PySem.W.Frag} : ∀ (vs : List V) (H : Hp) (Q : VK) (E : XK), sp__law_fillings K vs H Q E → vs.length = 1 := fun vs H Q E h => by
  obtain ⟨_, rfl, _⟩ := h
  rfl
theorem pure__law_fillings {K : PySem.W.Frag} (vs : List V) (H : Hp) (Q : VK) (E : XK) (h : sp__law_fillings K vs H Q E) : t__law_fillings K { nx := fun _ H' => Q .non H', rt := Q } (start ["doms", "rows", "pair", "longer", "row", "v"] vs) H := by
  obtain ⟨p, rfl, doms, st, cs, ok, np, ⟨xs, hp, tp⟩, hsz, hdl, q⟩ := h
  show t__law_fillings K _ [some (.ref p), none, none, none, none, none] H
  have hxl : xs.length = doms.length := by rw [tp.length, List.length_map]
  unfold t__law_fillings
  walk_at "aw"
  refine w_tupD (by simp) fun e H1 ne a1 e1 => ?_
  walk_at "aw"
  refine w_lstD (by simp) fun r0 H2 nr0 a2 e2 => ?_
  have g2 : Go st cs H H2 := (Go.of ok a1).new a2
  walk_at "aw"
  refine kForL_i (xs := xs) (fun i σ H' => ∃ r y2 y3 y4 rows, σ = [some (.ref p), some (.ref r), y2, y3, y4, none] ∧ Go st cs H H' ∧ H r = none ∧ LsAt H' r ((rows : List (List Int)).map rowD) ∧ (∀ row ∈ rows, row.length = i) ∧ rows.length ≤ 3 ^ i) (SqL.of (g2.keep np hp))
    ⟨r0, none, none, none, [[]], rfl, g2, (Go.of ok a1).free ok nr0, ⟨_, e2, .cons (.tup (a2.tup _ _ e1) .nil) .nil⟩, fun row h => by rw [List.mem_singleton.mp h]; rfl, Nat.le_refl _⟩ (fun i σ H' hi pp => ?_) (fun i v σ H' hv pp => ?_) fun σ H' pp => ?_
  · obtain ⟨_, _, _, _, _, _, g, _⟩ := pp
    exact SqL.of (g.keep np hp)
  · obtain ⟨r, y2, y3, y4, rows, rfl, g, nr, ⟨rs, er, tr⟩, hrl, hrn⟩ := pp
    have hi : i < doms.length := by
      have := (List.getElem?_eq_some_iff.mp hv).1
      omega
    obtain ⟨dt, z1, h1⟩ := tp.get hv
    rw [List.getElem?_map] at z1
    obtain ⟨pr, z2, rfl⟩ := Option.map_eq_some_iff.mp z1
    obtain ⟨ia, ib, rfl, ea, eb⟩ := is_dom h1
    have hp3 := hsz pr (List.mem_of_getElem? z2)
    walk_at "aw"
    refine w_lstD (by simp) fun l0 H3 nl0 a3 e3 => ?_
    have g3 := g.new a3
    walk_at "aw"
    have nrst : r ≠ st := (ok.ne nr).1
    have hrs : rs.length = rows.length := by rw [tr.length, List.length_map]
    have h36 : rows.length ≤ 3 ^ 6 := Nat.le_trans hrn (Nat.pow_le_pow_right (by omega) (by omega))
    refine kForL_i (xs := rs) (fun j σ H4 => ∃ l y4 more, σ = [some (.ref p), some (.ref r), some (.ref ia), some (.ref l), y4, none] ∧ Go st cs H H4 ∧ Go st cs H' H4 ∧ H l = none ∧ LsAt H4 l ((more : List (List Int)).map rowD) ∧ (∀ row ∈ more, row.length = i + 1) ∧ more.length ≤ 3 * j) (SqL.of (a3.keep _ _ (fun z => nomatch z) er))
      ⟨l0, y4, [], rfl, g3, .of g.ok a3, g.free ok nl0, ⟨[], e3, .nil⟩, fun row h => absurd h (List.not_mem_nil), Nat.zero_le _⟩ (fun j σ H4 hj pp => ?_) (fun j x σ H4 hx pp => ?_) fun σ H4 pp => ?_
    · obtain ⟨_, _, _, _, _, g4, _⟩ := pp
      exact SqL.of (g4.keep nrst er)
    · obtain ⟨l, y4, more, rfl, g4, g5, nl, ⟨ls, el, tl⟩, hml, hmn⟩ := pp
      obtain ⟨dt, z3, h3⟩ := tr.get hx
      rw [List.getElem?_map] at z3
      obtain ⟨row, z4, rfl⟩ := Option.map_eq_some_iff.mp z3
      obtain ⟨xa, xv, rfl, exa, txa⟩ := h3.tup_inv
      have e5 := txa.ints_inv
      subst e5
      have hrow := hrl row (List.mem_of_getElem? z4)
      have exa4 := g5.tk _ _ exa
      have eb4 := g4.tk _ _ eb
      have hlsl : ls.length = more.length := by rw [tl.length, List.length_map]
      have hjr : j < rows.length := by
        have := (List.getElem?_eq_some_iff.mp hx).1
        omega
      walk_at "aw"
      refine w_ixT (SqT.of (g4.tk _ _ ea)) rfl ?_
      refine kLcT_all (xs := pr.2.map V.int) eb4 (by simp; omega) g4.ok (fun k v H => ∃ m, pr.2[k]? = some m ∧ Is H (rowD (row ++ [m])) v) (fun k v H H' t h => by
        obtain ⟨m, h1, h2⟩ := h
        exact ⟨m, h1, h2.up t⟩) (fun k v H5 Kt hk g6 kt => ?_) fun D H5 ys nD g6 eD hyl hyr => ?_
      · rw [List.getElem?_map] at hk
        obtain ⟨m, z5, rfl⟩ := Option.map_eq_some_iff.mp hk
        walk_at "aw"
        refine ⟨rfl, ?_⟩
        walk_at "aw"
        refine w_tupD (by simp) fun t H6 nt a6 e6 => ?_
        refine w_catT' (a6.tup _ _ (g6.tk _ _ exa4)) e6 (by simp; omega) fun t2 H7 a7 e7 => ?_
        refine kt _ _ ((Go.of g6.ok a6).new a7) ⟨m, z5, ?_⟩
        have e8 : row.map V.int ++ [V.int m] = (row ++ [m]).map V.int := by simp
        rw [e8] at e7
        exact .tup e7 (IsAll.ints _)
      · refine w_cat (g6.keep (ok.ne nl).1 el) eD (by rw [hlsl, hyl, List.length_map]; omega) fun l2 H6 nl2 a6 e6 => ?_
        walk_at "aw"
        have g7 := g4.trans g6
        rw [List.length_map] at hyl
        refine ⟨l2, some (.ref xa), more ++ pr.2.map (fun m => row ++ [m]), rfl, g7.new a6, (g5.trans g6).new a6, g7.free ok nl2, ⟨_, e6, ?_⟩, fun r2 hr2 => ?_, ?_⟩
        · rw [List.map_append, List.map_map]
          refine IsAll.append ((tl.up g6.tk).up a6.tup) (IsAll.of _ _ (by rw [List.length_map, hyl]) fun k d v hd hv => ?_)
          rw [List.getElem?_map] at hd
          obtain ⟨m, z6, rfl⟩ := Option.map_eq_some_iff.mp hd
          obtain ⟨m2, z7, h7⟩ := hyr k v hv
          rw [z6] at z7
          cases z7
          exact h7.up a6.tup
        · rcases List.mem_append.mp hr2 with h | h
          · exact hml r2 h
          · obtain ⟨m, _, rfl⟩ := List.mem_map.mp h
            rw [List.length_append, hrow]
            rfl
        · rw [List.length_append, List.length_map]
          omega
    · obtain ⟨l, y4, more, rfl, g4, g5, nl, hl, hml, hmn⟩ := pp
      walk_at "aw"
      refine ⟨l, some (.ref ia), some (.ref l), y4, more, rfl, g4, nl, hl, hml, ?_⟩
      rw [Nat.pow_succ]
      omega
  · obtain ⟨r, y2, y3, y4, rows, rfl, g, nr, hr, hrl, hrn⟩ := pp
    walk_at "aw"
    exact q r rows H' g nr hr (fun row h => by rw [hrl row h, hxl]) (Nat.le_trans hrn (Nat.pow_le_pow_right (by omega) (by omega)))
theorem len__law_near {K : PySem.W.Frag} : ∀ (vs : List V) (H : Hp) (Q : VK) (E : XK), sp__law_near K vs H Q E → vs.length = 3 := fun vs H Q E h => by
  obtain ⟨_, _, _, rfl, _⟩ := h
  rfl
theorem pure__law_near {K : PySem.W.Frag} (vs : List V) (H : Hp) (Q : VK) (E : XK) (h : sp__law_near K vs H Q E) : t__law_near K { nx := fun _ H' => Q .non H', rt := Q } (start ["state", "doms", "base", "row", "k", "at"] vs) H := by
  obtain ⟨st, p, v, rfl, cs, doms, fl, ok, np, ⟨xs, hp, tp⟩, hv, hfl, hd0, hdl, hdd, q⟩ := h
  obtain ⟨va, vv, rfl, ev, tv⟩ := hv.tup_inv
  have e0 := tv.ints_inv
  subst e0
  have hxl : xs.length = doms.length := by rw [tp.length, List.length_map]
  show t__law_near K _ [some (.ref st), some (.ref p), some (.ref va), none, none, none] H
  unfold t__law_near
  walk_at "aw"
  refine w_listOf (.inr (SqT.of ev)) fun f H1 nf a1 e1 => ?_
  have g1 := Go.of ok a1
  walk_at "aw"
  refine w_lenL (SqL.of (g1.keep np hp)) ?_
  walk_at "aw"
  refine w_lstD (by simp) fun l H2 nl a2 e2 => ?_
  walk_at "aw"
  have g2 := g1.new a2
  refine ⟨st, l, rfl, cs, _, g2.ok, .inl ⟨SqL.of e2, (g1.ok.ne nl).1⟩, by simp, by simp, fun i x H3 hx g3 => ?_⟩
  have hxm := List.mem_of_getElem? hx
  obtain ⟨n, rfl, hn⟩ : ∃ n : Nat, x = .int (n : Nat) ∧ n ≤ 1000 := by
    simp only [List.mem_cons, List.not_mem_nil, or_false] at hxm
    rcases hxm with h | h | h | h | h | h | h
    · exact ⟨0, h, by omega⟩
    · exact ⟨1, h, by omega⟩
    · exact ⟨1, h, by omega⟩
    · exact ⟨1, h, by omega⟩
    · exact ⟨2, h, by omega⟩
    · exact ⟨3, h, by omega⟩
    · exact ⟨2 * doms.length, by rw [h, hxl]; exact congrArg V.int (by omega), by omega⟩
  walk_at "aw"
  have g13 : Go st cs H H3 := g2.trans g3
  refine kForR_i (n := n) (by omega) (fun i σ H' => ∃ y1 y2 cur, σ = [some (.ref st), some (.ref p), some (.ref va), some (.ref f), y1, y2] ∧ Go st cs H H' ∧ H' f = some (.lst ((cur : List Int).map V.int)) ∧ cur.length = doms.length)
    ⟨none, none, fl, rfl, g13, g3.keep (ok.ne nf).1 (a2.keep _ _ (fun z => nomatch z) e1), hfl⟩ (fun i σ H' hi pp => ?_) fun σ H' pp => ?_
  · obtain ⟨y1, y2, cur, rfl, g, ef, hcl⟩ := pp
    walk_at "aw"
    refine w_lenL (SqL.of (g.keep np hp)) ?_
    walk_at "aw"
    refine ⟨st, _, rfl, cs, g.ok, by omega, by omega, fun m H4 h1 h2 g4 => ?_⟩
    have g5 := g.trans g4
    obtain ⟨x, hx⟩ := get_some (xs := xs) (i := m.toNat) (by omega)
    obtain ⟨dt, z1, hdt⟩ := tp.get hx
    rw [List.getElem?_map] at z1
    obtain ⟨pr, z2, rfl⟩ := Option.map_eq_some_iff.mp z1
    obtain ⟨ia, ib, rfl, ea, eb⟩ := is_dom hdt
    have hpd := hdd pr (List.mem_of_getElem? z2)
    walk_at "aw"
    refine w_ixL (SqL.of (g5.keep np hp)) (at_nat h1 hx) ?_
    walk_at "aw"
    refine w_ixT (SqT.of (g5.tk _ _ ea)) rfl ?_
    walk_at "aw"
    refine ⟨st, ib, rfl, cs, _, g5.ok, .inr (g5.tk _ _ eb), by rw [List.length_map]; exact hpd.1, by rw [List.length_map]; omega, fun j y H6 hy g6 => ?_⟩
    rw [List.getElem?_map] at hy
    obtain ⟨c, z3, rfl⟩ := Option.map_eq_some_iff.mp hy
    walk_at "aw"
    have ef6 := (g4.trans g6).keep (ok.ne nf).1 ef
    have hix : ixN (cur.map V.int).length m = some m.toNat := by
      unfold ixN
      rw [List.length_map, if_pos h1, if_pos (by omega)]
    refine w_setL ef6 hix ?_
    refine ⟨_, _, cur.set m.toNat c, rfl, (g5.trans g6).mutL ok nf ef6, ?_, by rw [List.length_set]; exact hcl⟩
    rw [upd_same, List.map_set]
  · obtain ⟨y1, y2, cur, rfl, g, ef, hcl⟩ := pp
    walk_at "aw"
    refine w_tupL (SqL.of ef) fun t H5 nt a5 e5 => ?_
    exact q _ cur H5 (g.new a5) (.tup e5 (IsAll.ints _)) hcl
theorem len__law_parted {K : PySem.W.Frag} : ∀ (vs : List V) (H : Hp) (Q : VK) (E : XK), sp__law_parted K vs H Q E → vs.length = 3 := fun vs H Q E h => by
  obtain ⟨_, _, _, rfl, _⟩ := h
  rfl
def dfl : Str × Say := (nix, .round [])
/-- the items at these places: their names differ as the places do -/
theorem picked {l : List (Str × Say)} (hn : (l.map (·.1)).Nodup) {ks : List Nat} (hk : ks.Pairwise (· < ·)) (hlt : ∀ k ∈ ks, k < l.length) : ((ks.map fun k => l.getD k dfl).map (·.1)).Nodup ∧ ∀ q ∈ ks.map fun k => l.getD k dfl, q ∈ l := by
  constructor
  · rw [List.map_map, List.Nodup, List.pairwise_map]
    refine List.Pairwise.imp_of_mem ?_ hk
    intro a b ha hb hab e
    have z1 := List.getElem?_eq_getElem (hlt a ha)
    have z2 := List.getElem?_eq_getElem (hlt b hb)
    replace e : (l.getD a dfl).1 = (l.getD b dfl).1 := e
    rw [getD_of z1, getD_of z2] at e
    have y1 : (l.map (·.1))[a]? = some (l[a]'(hlt a ha)).1 := by rw [List.getElem?_map, z1]; rfl
    have y2 : (l.map (·.1))[b]? = some (l[b]'(hlt b hb)).1 := by rw [List.getElem?_map, z2]; rfl
    rw [e] at y1
    have := nodup_inj hn y1 y2
    omega
  · intro q hq
    obtain ⟨k, hk, rfl⟩ := List.mem_map.mp hq
    rw [getD_of (List.getElem?_eq_getElem (hlt k hk))]
    exact List.getElem_mem _
theorem same_name {l : List (Str × Say)} (hn : (l.map (·.1)).Nodup) {p q : Str × Say} (hp : p ∈ l) (hq : q ∈ l) (e : p.1 = q.1) : p = q := by
  obtain ⟨i, hi, rfl⟩ := List.mem_iff_getElem.mp hp
  obtain ⟨j, hj, rfl⟩ := List.mem_iff_getElem.mp hq
  have y1 : (l.map (·.1))[i]? = some (l[i]).1 := by rw [List.getElem?_map, List.getElem?_eq_getElem hi]; rfl
  have y2 : (l.map (·.1))[j]? = some (l[j]).1 := by rw [List.getElem?_map, List.getElem?_eq_getElem hj]; rfl
  rw [e] at y1
  have := nodup_inj hn y1 y2
  subst this
  rfl
theorem pure__law_parted {K : PySem.W.Frag} (vs : List V) (H : Hp) (Q : VK) (E : XK) (h : sp__law_parted K vs H Q E) : t__law_parted K { nx := fun _ H' => Q .non H', rt := Q } (start ["state", "made", "at", "cut", "firm", "one"] vs) H := by
  obtain ⟨st, p, d, rfl, cs, made, names, w, ok, np, ⟨xs, hp, tp⟩, hd, hnd, h0, hl50, hmade, q⟩ := h
  have hxl : xs.length = made.length := by rw [tp.length, List.length_map]
  show t__law_parted K _ [some (.ref st), some (.ref p), some (.ref d), none, none, none] H
  unfold t__law_parted
  walk_at "aw"
  refine w_lenL (SqL.of hp) ?_
  walk_at "aw"
  refine ⟨st, _, rfl, cs, ok, by omega, by omega, fun n H1 h1 h2 g1 => ?_⟩
  walk_at "aw"
  refine w_slL (SqL.of (g1.keep np hp)) fun r1 H2 nr1 a2 e2 => ?_
  rw [cut_from _ h1] at e2
  have g2 := g1.new a2
  have hd2 := (hd.go ok g2)
  have nr1st := (g1.ok.ne nr1).1
  generalize hL : made.drop n.toNat = l
  have hlm : ∀ {k : Nat} {x : V}, (xs.drop n.toNat)[k]? = some x → ∃ pr, l[k]? = some pr ∧ Is H (itD pr) x := fun {k x} e => by
    rw [List.getElem?_drop] at e
    obtain ⟨dt, z1, hdt⟩ := tp.get e
    rw [List.getElem?_map] at z1
    obtain ⟨pr, z2, rfl⟩ := Option.map_eq_some_iff.mp z1
    exact ⟨pr, by rw [← hL, List.getElem?_drop]; exact z2, hdt⟩
  have hlsub : ∀ q ∈ l, q ∈ made := fun q hq => by rw [← hL] at hq; exact List.mem_of_mem_drop hq
  have hln : (l.map (·.1)).Nodup := by
    rw [← hL, List.map_drop]
    exact hnd.sublist (List.drop_sublist ..)
  have hll : (xs.drop n.toNat).length = l.length := by rw [← hL, List.length_drop, List.length_drop, hxl]
  have hl50' : l.length ≤ 50 := by rw [← hL, List.length_drop]; omega
  refine kLcL_some (xs := xs.drop n.toNat) (SqL.of e2) nr1st (by omega) g2.ok (fun k v H => ∃ pr, l[k]? = some pr ∧ Is H (itD pr) v) (fun _ => True) (fun k v H H' t h => by
    obtain ⟨pr, z1, z2⟩ := h
    exact ⟨pr, z1, z2.up t⟩) (fun k x H3 Kt Kf hk g3 kt kf => ?_) fun f H3 ks ys nf g3 ef hks hpw hkl _ hR => ?_
  · obtain ⟨pr, z1, hpr⟩ := hlm hk
    have hm := hmade pr (hlsub pr (List.mem_of_getElem? z1))
    obtain ⟨ia, vs, rfl, ei, h2⟩ := hpr.tup_inv
    have g23 := g2.trans g3
    have hcase : ∃ sv, vs = [.str pr.1, sv] ∧ Is H (sayD pr.2) sv := by
      cases h2 with
      | cons h3 h4 =>
        cases h4 with
        | cons h5 h6 =>
          cases h6
          cases h3
          exact ⟨_, rfl, h5⟩
    obtain ⟨sv, rfl, hsv⟩ := hcase
    walk_at "aw"
    refine ⟨rfl, ?_⟩
    walk_at "aw"
    refine w_ixT (SqT.of (g23.tk _ _ ei)) rfl ?_
    walk_at "aw"
    refine ⟨sv, d, rfl, pr.2, names, w, hsv.up g23.tk, hd2.go g2.ok g3, hm.1, hm.2.1, fun H4 a4 => ?_⟩
    walk_at "aw"
    have g4 := Go.of g3.ok a4
    have done : ∀ H5, Go st cs H3 H5 → Kt (.ref ia) H5 := fun H5 g5 => kt _ _ g5 ⟨pr, z1, hpr.up (g23.trans g5).tk⟩
    cases hb : holdP w pr.2 with
    | true =>
      walk_at "aw"
      exact done _ g4
    | false =>
      walk_at "aw"
      refine ⟨st, _, rfl, cs, g4.ok, by omega, by omega, fun m H5 _ _ g5 => ?_⟩
      walk_at "aw"
      refine w_iteB (fun _ => ?_) fun _ => ?_
      · walk_at "aw"
        exact done _ (g4.trans g5)
      · exact kf _ (g4.trans g5) trivial
  · rw [hll] at hkl
    obtain ⟨hfn, hfm⟩ := picked hln hpw hkl
    generalize hF : (ks.map fun k => l.getD k dfl) = firm at hfn hfm
    have hfl : firm.length = ys.length := by rw [← hF, List.length_map, hks]
    have hys : IsAll H3 (firm.map itD) ys := IsAll.of _ _ (by rw [List.length_map]; omega) fun i dt v e1 e2 => by
      rw [← hF, List.map_map, List.getElem?_map] at e1
      obtain ⟨k, z1, rfl⟩ := Option.map_eq_some_iff.mp e1
      obtain ⟨pr, z2, z3⟩ := hR i k v z1 e2
      show Is H3 (itD (l.getD k dfl)) v
      rw [getD_of z2]
      exact z3
    have hf50 : firm.length ≤ 50 := by
      have hns : ks.Nodup := hpw.imp fun h => Nat.ne_of_lt h
      have := nodup_short l.length ks hns hkl
      omega
    have g23 := g2.trans g3
    have nfst := (g2.ok.ne nf).1
    walk_at "aw"
    refine kLcL_some (xs := xs) (SqL.of (g23.keep np hp)) np (by omega) g3.ok (fun k v H => ∃ pr, made[k]? = some pr ∧ Is H (itD pr) v ∧ pr ∉ firm) (fun _ => True) (fun k v H H' t h => by
      obtain ⟨pr, z1, z2, z3⟩ := h
      exact ⟨pr, z1, z2.up t, z3⟩) (fun k x H4 Kt Kf hk g4 kt kf => ?_) fun s H4 ks2 ys2 ns g4 es hks2 hpw2 hkl2 _ hR2 => ?_
    · obtain ⟨dt, z1, hdt⟩ := tp.get hk
      rw [List.getElem?_map] at z1
      obtain ⟨pr, z2, rfl⟩ := Option.map_eq_some_iff.mp z1
      have hm := hmade pr (List.mem_of_getElem? z2)
      have hx4 := hdt.up (g23.trans g4).tk
      walk_at "aw"
      refine ⟨rfl, ?_⟩
      walk_at "aw"
      refine ⟨itD pr, firm.map itD, hx4.dp, .lst (SqL.of (g4.keep nfst ef)) (hys.up g4.tk).dp, it_shaped hm.2.2.1 hm.2.2.2, its_list fun r hr => (hmade r (hlsub r (hfm r hr))).2.2, ?_⟩
      walk_at "aw"
      cases hb : (firm.map itD).any fun z => PyData.eqv z (itD pr) with
      | true =>
        refine iteF ?_
        exact kf _ (.refl g4.ok) trivial
      | false =>
        refine iteT ?_
        walk_at "aw"
        refine kt _ _ (.refl g4.ok) ⟨pr, z2, hx4, fun hmem => ?_⟩
        rw [List.any_eq_false] at hb
        exact hb (itD pr) (List.mem_map_of_mem hmem) (SeqAt.eqv_refl _ (it_lay hm.2.2.1 hm.2.2.2))
    · rw [hxl] at hkl2
      obtain ⟨hsn, hsm⟩ := picked hnd hpw2 hkl2
      generalize hS : (ks2.map fun k => made.getD k dfl) = soft at hsn hsm
      have hsl : soft.length = ys2.length := by rw [← hS, List.length_map, hks2]
      have hys2 : IsAll H4 (soft.map itD) ys2 := IsAll.of _ _ (by rw [List.length_map]; omega) fun i dt v e1 e2 => by
        rw [← hS, List.map_map, List.getElem?_map] at e1
        obtain ⟨k, z1, rfl⟩ := Option.map_eq_some_iff.mp e1
        obtain ⟨pr, z2, z3, _⟩ := hR2 i k v z1 e2
        show Is H4 (itD (made.getD k dfl)) v
        rw [getD_of z2]
        exact z3
      have hnot : ∀ r ∈ soft, r ∉ firm := fun r hr => by
        obtain ⟨i, hi, rfl⟩ := List.mem_iff_getElem.mp hr
        obtain ⟨v, hv⟩ := get_some (xs := ys2) (i := i) (by omega)
        have hik : i < ks2.length := by omega
        obtain ⟨pr, z2, z3, z4⟩ := hR2 i _ v (List.getElem?_eq_getElem hik) hv
        have e : soft[i] = pr := by
          have : soft[i]? = some pr := by
            rw [← hS, List.getElem?_map, List.getElem?_eq_getElem hik]
            show some (made.getD ks2[i] dfl) = some pr
            rw [getD_of z2]
          rw [List.getElem?_eq_getElem hi] at this
          exact Option.some.inj this
        rw [e]
        exact z4
      have hs50 : soft.length ≤ 50 := by
        have hns : ks2.Nodup := hpw2.imp fun h => Nat.ne_of_lt h
        have := nodup_short made.length ks2 hns hkl2
        omega
      walk_at "aw"
      refine w_lstD (by simp) fun r H5 nr a5 e5 => ?_
      have g5 := g23.trans g4
      refine q r f s firm soft H5 (g5.new a5) e5 nfst (g3.ok.ne ns).1 (g4.ok.ne nr).1 ⟨ys, a5.keep _ _ (fun z => nomatch z) (g4.keep nfst ef), (hys.up g4.tk).up a5.tup⟩ ⟨ys2, a5.keep _ _ (fun z => nomatch z) es, hys2.up a5.tup⟩ ?_ (fun r hr => hlsub r (hfm r hr)) hsm hf50 hs50
      rw [List.nodup_append]
      refine ⟨hfn, hsn, fun a ha b hb e => ?_⟩
      obtain ⟨pa, hpa, rfl⟩ := List.mem_map.mp ha
      obtain ⟨pb, hpb, rfl⟩ := List.mem_map.mp hb
      have := same_name hnd (hlsub pa (hfm pa hpa)) (hsm pb hpb) e
      rw [this] at hpa
      exact hnot pb hpb hpa
end AW
namespace AW
open PySem PySem.Spec PyProof.Rows L2 RZ
local macro_rules | `(tactic| walk_at "aw1") => `(tactic| first
  | (with_reducible refine w_seq ?_) | (with_reducible refine w_asg ?_) | (with_reducible refine w_gname ?_) | (with_reducible refine w_op ?_) | (with_reducible refine w_un ?_)
  | ((with_reducible refine' w_var ?h ?_); (case h => rfl)) | (with_reducible refine w_c ?_)
  | (with_reducible refine w_I0 ?_) | (with_reducible refine w_U ?_) | (with_reducible refine w_cb ?_) | (with_reducible refine w_nil ?_) | (with_reducible refine w_cons ?_) | (with_reducible refine w_call ?_)
  | (with_reducible refine w_test ?_) | (with_reducible refine w_B ?_) | (with_reducible refine w_bl ?_) | (with_reducible refine w_not ?_) | (with_reducible refine w_yes ?_) | (with_reducible refine iteT ?_) | (with_reducible refine iteF ?_) | (with_reducible refine w_and ?_) | (with_reducible refine w_or ?_)
  | (with_reducible refine w_andV ?_) | (with_reducible refine w_orV ?_) | (with_reducible refine w_notV ?_) | (with_reducible refine w_if ?_)
  | (with_reducible refine w_int1 ?_) | (with_reducible refine w_int1b ?_) | (with_reducible refine w_abs ?_) | (with_reducible refine w_max2 ?_) | (with_reducible refine w_min2 ?_)
  | ((with_reducible refine w_eq ?h ?_); (case h => rfl)) | ((with_reducible refine w_ne ?h ?_); (case h => rfl)) | (with_reducible refine w_isN ?_) | (with_reducible refine w_isB ?_) | (with_reducible refine w_chain ?_)
  | (with_reducible refine w_ret ?_) | (with_reducible refine w_drop ?_) | (with_reducible refine w_ifS ?_) | (with_reducible refine w_gsub ?_) | (with_reducible refine w_augS ?_) | (with_reducible refine w_ipI ?_) | (with_reducible refine w_next ?_)
  | (with_reducible refine w_forR ?_) | (with_reducible refine w_forR2 ?_) | (with_reducible refine w_forL ?_) | (with_reducible refine w_forT ?_) | (with_reducible refine w_lcR ?_) | (with_reducible refine w_lcL ?_) | (with_reducible refine w_lcT ?_) | (with_reducible refine w_sl ?_) | (with_reducible refine w_part ?_) | (with_reducible refine w_noPart ?_) | (with_reducible refine w_in ?_)
  | (with_reducible refine w_gcons ?_) | (with_reducible refine w_gnil ?_) | (with_reducible refine w_lc3 ?_) | (with_reducible refine w_dcZ ?_) | (with_reducible refine w_dcT ?_) | (with_reducible refine w_dg ?_) | (with_reducible refine w_callK ?_) | (with_reducible refine w_dput ?_) | (with_reducible refine w_tup1 ?_)
  | (with_reducible refine w_tup ?_) | (with_reducible refine w_lst ?_)
  | ((with_reducible refine w_I ?h ?_); (case h => first | (exact Or.inr ⟨by decide, by decide⟩) | (exact Or.inl ⟨by decide, by decide⟩) | (show (0 : Int) < _; decide) | (exact ⟨by decide, by decide, by decide⟩) | assumption)))
local macro_rules | `(tactic| walk_at "aw") => `(tactic| repeat (walk_at "aw1"))
/-- what the law's models are: their names, their items -/
structure HeldOk (doms : List (Str × List Int)) (firm soft : List (Str × Say)) : Prop where
  dn : (doms.map (·.1)).Nodup
  dl : doms.length ≤ 100
  sn : (firm.map (·.1) ++ soft.map (·.1)).Nodup
  fl : firm.length ≤ 50
  sl : soft.length ≤ 50
  io : ∀ p ∈ firm ++ soft, p.2.ok ∧ ∀ x ∈ p.2.names, x ∈ doms.map (·.1)
def sp__law_are_held (_ : PySem.W.Frag) : Sp := fun vs H Q _ => ∃ (st p f s r : Addr), vs = [.ref st, .ref p, .ref f, .ref s, .ref r] ∧ ∃ (cs : Addr) (doms : List (Str × List Int)) (firm soft : List (Str × Say)) (rows : List (List Int)), StOk st cs H ∧ (p ≠ st ∧ f ≠ st ∧ s ≠ st ∧ r ≠ st) ∧
  LsAt H p (doms.map domD) ∧ LsAt H f (firm.map itD) ∧ LsAt H s (soft.map itD) ∧ LsAt H r (rows.map rowD) ∧ HeldOk doms firm soft ∧ (∀ row ∈ rows, row.length = doms.length) ∧ rows.length ≤ 1000 ∧
  ∀ H', Go st cs H H' → Q (.bl true) H'
def t__law_are_held (K : PySem.W.Frag) : TS := (tSeq (tAsg (tLc (iList K (tVar 3)) (gName 6) tYes (tOp rAddI (tC (.int 1)) (tCall (sp__law_take K) [] E0 (tCons (tVar 0) (tCons (tC (.int 100)) tNil)))) [6]) (gName 5))
  (tSeq (tAsg (tTup (tCons (tThen (tVar 1) (kTup K)) (tCons (tThen (tVar 2) (kTup K)) (tCons (tThen (tLc (iRng1 (tCons (tCB (rLen1 K) (tCons (tVar 3) tNil)) tNil)) (gName 8) tYes (tOp (rCatA K) (tOp (rIxL K) (tVar 3) (tVar 8)) (tTup (tCons (tOp (rIxL K) (tVar 5) (tVar 8)) tNil))) [8]) (kTup K)) tNil)))) (gName 7))
  (tSeq (tFor (iList K (tVar 4)) (gName 9)
  (tSeq (tAsg (tCall (sp__law_world K) [] E0 (tCons (tVar 1) (tCons (tVar 9) tNil))) (gName 10))
  (tSeq (tAsg (tC (.bl true)) (gName 11))
  (tSeq (tFor (iRng1 (tCons (tOp rAddI (tCB (rLen1 K) (tCons (tVar 2) tNil)) (tCB (rLen1 K) (tCons (tVar 3) tNil))) tNil)) (gName 8)
  (tSeq (tAsg (tOp (rIxL K) (tOp rCat (tVar 2) (tVar 3)) (tVar 8)) (gTup K 2 (gCons (gName 12) (gCons (gName 13) gNil))))
  (tSeq (tAsg (tCall (sp__law_holds K) [] E0 (tCons (tVar 13) (tCons (tVar 10) tNil))) (gName 14))
  (tSeq (tAsg (tCallK (sp_keeps_saying K) gK E0 tNil (tCons (tVar 7) (tCons (tVar 12) (tCons (tVar 9) tNil)))) (gName 15))
  (tSeq (tIfS (tNot (tB (tCall (sp__law_is_due K) [] E0 (tCons (tVar 15) (tCons (tVar 14) tNil))))) (tRet (tC (.bl false))) tNext)
  (tAsg (tAndV (tVar 11) (tOrV (tVar 14) (tOp rGeI (tVar 8) (tCB (rLen1 K) (tCons (tVar 2) tNil))))) (gName 11)))))))
  (tSeq (tIfS (tOr (tNot (tB (tCall (sp__law_is_due K) [] E0 (tCons (tCall (sp_keeps K) [] E0 (tCons (tVar 7) (tCons (tVar 9) tNil))) (tCons (tVar 11) tNil))))) (tNot (tB (tCall (sp__law_is_due K) [] E0 (tCons (tCallK (sp_keeps K) gK E0 tNil (tCons (tVar 7) (tCons (tVar 9) tNil))) (tCons (tVar 11) tNil)))))) (tRet (tC (.bl false))) tNext)
  (tIfS (tAnd (tTest (tOp rGtI (tCB (rLen1 K) (tCons (tVar 3) tNil)) (tC (.int 0)))) (tNot (tB (tCall (sp__law_is_due K) [] E0 (tCons (tCall (sp_keeps_saying K) [] E0 (tCons (tVar 7) (tCons (tOp (rIxT K) (tOp (rIxL K) (tVar 3) (tC (.int 0))) (tC (.int 0))) (tCons (tVar 9) tNil)))) (tCons (tCall (sp__law_holds K) [] E0 (tCons (tOp (rIxT K) (tOp (rIxL K) (tVar 3) (tC (.int 0))) (tC (.int 1))) (tCons (tVar 10) tNil))) tNil)))))) (tRet (tC (.bl false))) tNext))))))
  (tRet (tC (.bl true))))))
theorem len__law_are_held {K : PySem.W.Frag} : ∀ (vs : List V) (H : Hp) (Q : VK) (E : XK), sp__law_are_held K vs H Q E → vs.length = 5 := fun vs H Q E h => by
  obtain ⟨_, _, _, _, _, rfl, _⟩ := h
  rfl
theorem ints_of : ∀ {ys : List V}, (∀ (i : Nat) v, ys[i]? = some v → ∃ n : Int, v = .int n) → ∃ ps : List Int, ys = ps.map V.int
  | [], _ => ⟨[], rfl⟩
  | y :: ys, h => by
    obtain ⟨n, rfl⟩ := h 0 y rfl
    obtain ⟨ps, rfl⟩ := ints_of (ys := ys) fun i v e => h (i + 1) v (by simpa using e)
    exact ⟨n :: ps, rfl⟩
/-- the soft sayings with their prices -/
def priced (soft : List (Str × Say)) (ps : List Int) : List (Str × Say × Int) := List.zipWith (fun q n => (q.1, q.2, n)) soft ps
theorem priced_len {soft : List (Str × Say)} {ps : List Int} (h : ps.length = soft.length) : (priced soft ps).length = soft.length := by
  unfold priced
  rw [List.length_zipWith]
  omega
theorem priced_names {soft : List (Str × Say)} {ps : List Int} (h : ps.length = soft.length) : (priced soft ps).map (fun q => (q.1, q.2.1)) = soft := by
  refine List.ext_getElem? fun i => ?_
  unfold priced
  rw [List.getElem?_map, List.getElem?_zipWith]
  by_cases hi : i < soft.length
  · rw [List.getElem?_eq_getElem hi, List.getElem?_eq_getElem (show i < ps.length by omega)]
    rfl
  · rw [List.getElem?_eq_none (by omega)]
    rfl
theorem held_mod {doms : List (Str × List Int)} {firm soft : List (Str × Say)} {ps : List Int} (h : HeldOk doms firm soft) (hl : ps.length = soft.length) : ModOk doms firm (priced soft ps) := by
  have hn := priced_names hl
  refine ⟨h.dn, h.dl, ?_, by have := h.fl; omega, by rw [priced_len hl]; have := h.sl; omega, fun p hp => h.io p (List.mem_append_left _ hp), fun p hp => ?_⟩
  · have e : (priced soft ps).map (·.1) = soft.map (·.1) := by
      rw [← hn, List.map_map]
      congr 1
      rw [hn]
    rw [e]
    exact h.sn
  · exact h.io (p.1, p.2.1) (List.mem_append_right _ (by
      rw [← hn]
      exact List.mem_map.mpr ⟨p, hp, rfl⟩))
theorem it_parts {H : Hp} {v : V} {p : Str × Say} (h : Is H (itD p) v) : ∃ a sv, v = .ref a ∧ H a = some (.tup [.str p.1, sv]) ∧ Is H (sayD p.2) sv := by
  obtain ⟨a, vs, rfl, e, h⟩ := h.tup_inv
  cases h with
  | cons h1 h =>
    cases h with
    | cons h2 h =>
      cases h
      cases h1
      exact ⟨a, _, rfl, e, h2⟩
theorem all_take {f : Str × Say → Bool} {firm : List (Str × Say)} {k : Nat} {p : Str × Say} (h : firm[k]? = some p) : (firm.take (k + 1)).all f = ((firm.take k).all f && f p) := by
  rw [List.take_add_one, h, List.all_append]
  simp
theorem pure__law_are_held {K : PySem.W.Frag} (vs : List V) (H : Hp) (Q : VK) (E : XK) (h : sp__law_are_held K vs H Q E) : t__law_are_held K { nx := fun _ H' => Q .non H', rt := Q } (start ["state", "doms", "firm", "soft", "fillings", "prices", "one", "model", "k", "filling", "at", "whole", "name", "saying", "due", "told"] vs) H := by
  obtain ⟨st, p, f, s, r, rfl, cs, doms, firm, soft, rows, ok, ⟨np, nf, ns, nr⟩, ⟨xs, hp, tp⟩, ⟨fs, hf, tf⟩, ⟨ss, hs, ts⟩, ⟨rs, hr, tr⟩, hok, hrow, hrl, q⟩ := h
  have hxl : xs.length = doms.length := by rw [tp.length, List.length_map]
  have hfl : fs.length = firm.length := by rw [tf.length, List.length_map]
  have hsl : ss.length = soft.length := by rw [ts.length, List.length_map]
  have hrsl : rs.length = rows.length := by rw [tr.length, List.length_map]
  have hf50 := hok.fl
  have hs50 := hok.sl
  have hd100 := hok.dl
  show t__law_are_held K _ [some (.ref st), some (.ref p), some (.ref f), some (.ref s), some (.ref r), none, none, none, none, none, none, none, none, none, none, none] H
  unfold t__law_are_held
  walk_at "aw"
  refine kLcL_all (xs := ss) (SqL.of hs) ns (by omega) ok (fun _ v _ => ∃ n : Int, v = .int n) (fun _ _ _ _ _ h => h) (fun i x H2 Kt hx g2 kt => ?_) fun pr H1 ys npr g1 epr hyl hyr => ?_
  · walk_at "aw"
    refine ⟨rfl, ?_⟩
    walk_at "aw"
    refine ⟨st, _, rfl, cs, g2.ok, by omega, by omega, fun n H3 _ _ g3 => ?_⟩
    walk_at "aw"
    exact kt _ _ g3 ⟨_, rfl⟩
  obtain ⟨ps, rfl⟩ := ints_of hyr
  rw [List.length_map, hsl] at hyl
  have nprst := (ok.ne npr).1
  walk_at "aw"
  refine w_tupL (SqL.of (g1.keep np hp)) fun tD H2 _ a2 e2 => ?_
  have g2 := g1.new a2
  walk_at "aw"
  refine w_tupL (SqL.of (g2.keep nf hf)) fun tF H3 _ a3 e3 => ?_
  have g3 := g2.new a3
  walk_at "aw"
  refine w_lenL (SqL.of (g3.keep ns hs)) ?_
  walk_at "aw"
  rw [hsl]
  have epr3 : H3 pr = some (.lst (ps.map V.int)) := a3.keep _ _ (fun z => nomatch z) (a2.keep _ _ (fun z => nomatch z) epr)
  refine kLcR_all (n := soft.length) (by omega) g3.ok (fun k v H => ∃ q n, soft[k]? = some q ∧ ps[k]? = some n ∧ Is H (sfD (q.1, q.2, n)) v) (fun k v H H' t h => by
    obtain ⟨q, n, z1, z2, z3⟩ := h
    exact ⟨q, n, z1, z2, z3.up t⟩) (fun k H4 Kt hk g4 kt => ?_) fun sl H4 ys2 nsl g4 esl hyl2 hyr2 => ?_
  · obtain ⟨q, z1⟩ := get_some (xs := soft) hk
    obtain ⟨n, z2⟩ := get_some (xs := ps) (i := k) (by omega)
    obtain ⟨x, z3⟩ := get_some (xs := ss) (i := k) (by omega)
    obtain ⟨dt, z4, hx⟩ := ts.get z3
    rw [List.getElem?_map, z1] at z4
    cases z4
    have g34 := g3.trans g4
    obtain ⟨ia, sv, rfl, ei, hsv⟩ := it_parts (hx.up g34.tk)
    walk_at "aw"
    refine ⟨rfl, ?_⟩
    walk_at "aw"
    refine w_ixL (SqL.of (g34.keep ns hs)) (at_of (j := k) rfl z3) ?_
    walk_at "aw"
    refine w_ixL (SqL.of (g4.keep nprst epr3)) (at_of (j := k) rfl (by rw [List.getElem?_map, z2]; rfl)) ?_
    walk_at "aw"
    refine w_tupD (by simp) fun t1 H5 nt1 a5 e5 => ?_
    refine w_catT' (a5.tup _ _ ei) e5 (by simp) fun t2 H6 a6 e6 => ?_
    exact kt _ _ ((Go.of g4.ok a5).new a6) ⟨q, n, z1, z2, .tup e6 (.cons (.str _) (.cons ((hsv.up a5.tup).up a6.tup) (.cons (.int _) .nil)))⟩
  have hso : IsAll H4 ((priced soft ps).map sfD) ys2 := IsAll.of _ _ (by rw [List.length_map, priced_len hyl, hyl2]) fun i dt v h1 h2 => by
    rw [List.getElem?_map] at h1
    obtain ⟨t, z1, rfl⟩ := Option.map_eq_some_iff.mp h1
    obtain ⟨q, n, z2, z3, z4⟩ := hyr2 i v h2
    unfold priced at z1
    rw [List.getElem?_zipWith, z2, z3] at z1
    cases z1
    exact z4
  walk_at "aw"
  refine w_tupL (SqL.of esl) fun tS H5 _ a5 e5 => ?_
  walk_at "aw"
  refine w_tupD (by simp) fun md H6 _ a6 e6 => ?_
  have g36 := (g4.new a5).new a6
  have g6 : Go st cs H H6 := g3.trans g36
  have hmod : Is H6 (modD doms firm (priced soft ps)) (.ref md) := by
    refine .tup e6 (.cons (.tup (g36.tk _ _ (a3.tup _ _ e2)) (tp.up g6.tk)) (.cons (.tup (g36.tk _ _ e3) (tf.up g6.tk)) (.cons (.tup (a6.tup _ _ e5) ((hso.up a5.tup).up a6.tup)) .nil)))
  have hmo := held_mod hok hyl
  walk_at "aw"
  refine kForL_i (xs := rs) (fun i σ H' => ∃ y8 y9 y10 y11 y12 y13 y14 y15, σ = [some (.ref st), some (.ref p), some (.ref f), some (.ref s), some (.ref r), some (.ref pr), none, some (.ref md), y8, y9, y10, y11, y12, y13, y14, y15] ∧ Go st cs H6 H') (SqL.of (g6.keep nr hr))
    ⟨none, none, none, none, none, none, none, none, rfl, .refl g6.ok⟩ (fun i σ H' _ pp => ?_) (fun i v σ H' hv pp => ?_) fun σ H' pp => ?_
  · obtain ⟨_, _, _, _, _, _, _, _, _, g⟩ := pp
    exact SqL.of ((g6.trans g).keep nr hr)
  · obtain ⟨y8, y9, y10, y11, y12, y13, y14, y15, rfl, g⟩ := pp
    have gH := g6.trans g
    obtain ⟨dt, z1, hrv⟩ := tr.get hv
    rw [List.getElem?_map] at z1
    obtain ⟨row, z2, rfl⟩ := Option.map_eq_some_iff.mp z1
    have hrowl := hrow row (List.mem_of_getElem? z2)
    obtain ⟨ra, rv, rfl, era, trv⟩ := hrv.tup_inv
    have erv := trv.ints_inv
    subst erv
    generalize hw : wOf (doms.map (·.1)) row = w
    walk_at "aw"
    refine ⟨p, ra, rfl, doms, row, ⟨xs, gH.keep np hp, tp.up gH.tk⟩, .inr (SqT.of (gH.tk _ _ era)), hrowl, hok.dn, hd100, fun d H7 a7 nd hd => ?_⟩
    rw [hw] at hd
    have g7 : Go st cs H' H7 := .of g.ok a7
    walk_at "aw"
    have gH7 := gH.trans g7
    refine w_lenL (SqL.of (gH7.keep nf hf)) ?_
    walk_at "aw"
    refine w_lenL (SqL.of (gH7.keep ns hs)) ?_
    walk_at "aw"
    rw [hfl, hsl, show ((firm.length : Nat) : Int) + (soft.length : Nat) = ((firm.length + soft.length : Nat) : Int) by omega]
    have keepsay : ∀ {H8 : Hp} {n : Str} {sy : Say} {Q' : VK}, Go st cs H7 H8 → (n, sy) ∈ firm ++ soft → (∀ H9, Go st cs H8 H9 → Q' (.bl (holdP w sy)) H9) → sp_keeps_saying K [.ref md, .str n, .ref ra] H8 Q' E0 := fun {H8 n sy Q'} g8 hm hq =>
      ⟨.ref md, .ref ra, n, rfl, doms, firm, priced soft ps, sy, row, hmod.up (g.trans (g7.trans g8)).tk, (Is.tup era (IsAll.ints row)).up (gH7.trans g8).tk, hrowl, hmo, by rw [priced_names hyl]; exact hm, fun H9 a9 => by
        rw [hw]
        exact hq H9 (.of g8.ok a9)⟩
    have keepall : ∀ {H8 : Hp} {Q' : VK}, Go st cs H7 H8 → (∀ H9, Go st cs H8 H9 → Q' (.bl (firm.all fun p => holdP w p.2)) H9) → sp_keeps K [.ref md, .ref ra] H8 Q' E0 := fun {H8 Q'} g8 hq =>
      ⟨.ref md, .ref ra, rfl, doms, firm, priced soft ps, row, hmod.up (g.trans (g7.trans g8)).tk, (Is.tup era (IsAll.ints row)).up (gH7.trans g8).tk, hrowl, hmo, fun H9 a9 => by
        rw [hw]
        exact hq H9 (.of g8.ok a9)⟩
    have lawholds : ∀ {H8 : Hp} {v : V} {q : Str × Say} {Q' : VK}, Go st cs H7 H8 → q ∈ firm ++ soft → Is H8 (sayD q.2) v → (∀ H9, Go st cs H8 H9 → Q' (.bl (holdP w q.2)) H9) → sp__law_holds K [v, .ref d] H8 Q' E0 := fun {H8 v q Q'} g8 hm hv hq =>
      ⟨v, d, rfl, q.2, doms.map (·.1), w, hv, hd.go g7.ok g8, (hok.io q hm).1, (hok.io q hm).2, fun H9 a9 => hq H9 (.of g8.ok a9)⟩
    refine kForR_i (n := firm.length + soft.length) (by omega) (fun k σ H' => ∃ y8 y12 y13 y14 y15, σ = [some (.ref st), some (.ref p), some (.ref f), some (.ref s), some (.ref r), some (.ref pr), none, some (.ref md), y8, some (.ref ra), some (.ref d), some (.bl ((firm.take k).all fun p => holdP w p.2)), y12, y13, y14, y15] ∧ Go st cs H7 H')
      ⟨y8, y12, y13, y14, y15, rfl, .refl g7.ok⟩ (fun k σ H8 hk pp => ?_) fun σ H8 pp => ?_
    · obtain ⟨y8, y12, y13, y14, y15, rfl, g8⟩ := pp
      have gH8 := gH7.trans g8
      obtain ⟨it, z3⟩ := get_some (xs := firm ++ soft) (i := k) (by rw [List.length_append]; exact hk)
      obtain ⟨x, z4⟩ := get_some (xs := fs ++ ss) (i := k) (by rw [List.length_append]; omega)
      have tfs : IsAll H ((firm ++ soft).map itD) (fs ++ ss) := by
        rw [List.map_append]
        exact tf.append ts
      obtain ⟨dt, z5, hx⟩ := tfs.get z4
      rw [List.getElem?_map, z3] at z5
      cases z5
      have hmem := List.mem_of_getElem? z3
      walk_at "aw"
      refine w_cat (gH8.keep nf hf) (gH8.keep ns hs) (by omega) fun j H9 nj a9 e9 => ?_
      have g9 := g8.new a9
      obtain ⟨ia, sv, rfl, ei, hsv⟩ := it_parts (hx.up (gH7.trans g9).tk)
      walk_at "aw"
      refine w_ixL (SqL.of e9) (at_of (j := k) rfl z4) ?_
      refine w_gtup (SqT.of ei) rfl ?_
      walk_at "aw"
      refine lawholds g9 hmem hsv fun H10 g10 => ?_
      have g10' := g9.trans g10
      walk_at "aw"
      refine keepsay g10' hmem fun H11 g11 => ?_
      have g11' := g10'.trans g11
      walk_at "aw"
      refine ⟨_, _, rfl, ?_⟩
      rw [show (holdP w it.2 == holdP w it.2) = true from beq_self_eq_true _]
      walk_at "aw"
      refine iteF ?_
      walk_at "aw"
      have hnext : ((firm.take (k + 1)).all fun p => holdP w p.2) = (((firm.take k).all fun p => holdP w p.2) && (holdP w it.2 || decide ((firm.length : Int) ≤ (k : Nat)))) := by
        by_cases hkf : k < firm.length
        · rw [List.getElem?_append_left hkf] at z3
          rw [all_take z3, decide_eq_false (by omega), Bool.or_false]
        · rw [decide_eq_true (by omega), Bool.or_true, Bool.and_true, List.take_of_length_le (by omega), List.take_of_length_le (by omega)]
      have last : ∀ {H12 : Hp} {b : Bool}, Go st cs H7 H12 → ((firm.take (k + 1)).all fun p => holdP w p.2) = b → ∃ y8 y12 y13 y14 y15, ([some (.ref st), some (.ref p), some (.ref f), some (.ref s), some (.ref r), some (.ref pr), none, some (.ref md), some (.int (k : Nat)), some (.ref ra), some (.ref d), some (.bl b), some (.str it.1), some sv, some (.bl (holdP w it.2)), some (.bl (holdP w it.2))] : L2.St) = [some (.ref st), some (.ref p), some (.ref f), some (.ref s), some (.ref r), some (.ref pr), none, some (.ref md), y8, some (.ref ra), some (.ref d), some (.bl ((firm.take (k + 1)).all fun p => holdP w p.2)), y12, y13, y14, y15] ∧ Go st cs H7 H12 :=
        fun g12 e => ⟨_, _, _, _, _, by rw [e], g12⟩
      cases h1 : (firm.take k).all fun p => holdP w p.2 with
      | false =>
        rw [h1, Bool.false_and] at hnext
        walk_at "aw"
        exact last g11' hnext
      | true =>
        rw [h1, Bool.true_and] at hnext
        walk_at "aw"
        cases h2 : holdP w it.2 with
        | true =>
          rw [h2] at hnext last
          walk_at "aw"
          exact last g11' hnext
        | false =>
          rw [h2, Bool.false_or] at hnext
          rw [h2] at last
          walk_at "aw"
          refine w_lenL (SqL.of ((gH7.trans g11').keep nf hf)) ?_
          rw [hfl]
          walk_at "aw"
          exact last g11' hnext
    · obtain ⟨y8, y12, y13, y14, y15, rfl, g8⟩ := pp
      rw [List.take_of_length_le (show firm.length ≤ firm.length + soft.length by omega)]
      walk_at "aw"
      refine keepall g8 fun H9 g9 => ?_
      walk_at "aw"
      refine ⟨_, _, rfl, ?_⟩
      rw [show ((firm.all fun p => holdP w p.2) == (firm.all fun p => holdP w p.2)) = true from beq_self_eq_true _]
      walk_at "aw"
      refine iteF ?_
      walk_at "aw"
      have g9' := g8.trans g9
      refine keepall g9' fun H10 g10 => ?_
      walk_at "aw"
      refine ⟨_, _, rfl, ?_⟩
      rw [show ((firm.all fun p => holdP w p.2) == (firm.all fun p => holdP w p.2)) = true from beq_self_eq_true _]
      walk_at "aw"
      refine iteF ?_
      walk_at "aw"
      have g10' := g9'.trans g10
      have gH10 := gH7.trans g10'
      refine w_lenL (SqL.of (gH10.keep ns hs)) ?_
      rw [hsl]
      walk_at "aw"
      have back : ∀ {H12 : Hp}, Go st cs H7 H12 → ∃ z8 z9 z10 z11 z12 z13 z14 z15, ([some (.ref st), some (.ref p), some (.ref f), some (.ref s), some (.ref r), some (.ref pr), none, some (.ref md), y8, some (.ref ra), some (.ref d), some (.bl (firm.all fun p => holdP w p.2)), y12, y13, y14, y15] : L2.St) = [some (.ref st), some (.ref p), some (.ref f), some (.ref s), some (.ref r), some (.ref pr), none, some (.ref md), z8, z9, z10, z11, z12, z13, z14, z15] ∧ Go st cs H6 H12 :=
        fun g12 => ⟨_, _, _, _, _, _, _, _, rfl, g.trans (g7.trans g12)⟩
      refine w_iteB (fun h0 => ?_) fun _ => ?_
      · obtain ⟨it, z3⟩ := get_some (xs := soft) (i := 0) (by omega)
        obtain ⟨x, z4⟩ := get_some (xs := ss) (i := 0) (by omega)
        obtain ⟨dt, z5, hx⟩ := ts.get z4
        rw [List.getElem?_map, z3] at z5
        cases z5
        have hmem : it ∈ firm ++ soft := List.mem_append_right _ (List.mem_of_getElem? z3)
        obtain ⟨ia, sv, rfl, ei, hsv⟩ := it_parts (hx.up gH10.tk)
        walk_at "aw"
        refine w_ixL (SqL.of (gH10.keep ns hs)) (at_of (j := 0) rfl z4) ?_
        walk_at "aw"
        refine w_ixT (SqT.of ei) rfl ?_
        walk_at "aw"
        refine keepsay g10' hmem fun H11 g11 => ?_
        have g11' := g10'.trans g11
        walk_at "aw"
        refine w_ixL (SqL.of ((gH7.trans g11').keep ns hs)) (at_of (j := 0) rfl z4) ?_
        walk_at "aw"
        refine w_ixT (SqT.of (g11.tk _ _ ei)) rfl ?_
        walk_at "aw"
        refine lawholds g11' hmem (hsv.up g11.tk) fun H12 g12 => ?_
        walk_at "aw"
        refine ⟨_, _, rfl, ?_⟩
        rw [show (holdP w it.2 == holdP w it.2) = true from beq_self_eq_true _]
        walk_at "aw"
        refine iteF ?_
        walk_at "aw"
        exact back (g11'.trans g12)
      · walk_at "aw"
        exact back g10'
  · obtain ⟨y8, y9, y10, y11, y12, y13, y14, y15, rfl, g⟩ := pp
    walk_at "aw"
    exact q H' (g6.trans g)
end AW
namespace AW
open PySem PySem.Spec PyProof.Rows L2 RZ
local macro_rules | `(tactic| walk_at "aw1") => `(tactic| first
  | (with_reducible refine w_seq ?_) | (with_reducible refine w_asg ?_) | (with_reducible refine w_gname ?_) | (with_reducible refine w_op ?_) | (with_reducible refine w_un ?_)
  | ((with_reducible refine' w_var ?h ?_); (case h => rfl)) | (with_reducible refine w_c ?_)
  | (with_reducible refine w_I0 ?_) | (with_reducible refine w_U ?_) | (with_reducible refine w_cb ?_) | (with_reducible refine w_nil ?_) | (with_reducible refine w_cons ?_) | (with_reducible refine w_call ?_)
  | (with_reducible refine w_test ?_) | (with_reducible refine w_B ?_) | (with_reducible refine w_bl ?_) | (with_reducible refine w_not ?_) | (with_reducible refine w_yes ?_) | (with_reducible refine iteT ?_) | (with_reducible refine iteF ?_) | (with_reducible refine w_and ?_) | (with_reducible refine w_or ?_)
  | (with_reducible refine w_andV ?_) | (with_reducible refine w_orV ?_) | (with_reducible refine w_notV ?_) | (with_reducible refine w_if ?_)
  | (with_reducible refine w_int1 ?_) | (with_reducible refine w_int1b ?_) | (with_reducible refine w_abs ?_) | (with_reducible refine w_max2 ?_) | (with_reducible refine w_min2 ?_)
  | ((with_reducible refine w_eq ?h ?_); (case h => rfl)) | ((with_reducible refine w_ne ?h ?_); (case h => rfl)) | (with_reducible refine w_isN ?_) | (with_reducible refine w_isB ?_) | (with_reducible refine w_chain ?_)
  | (with_reducible refine w_ret ?_) | (with_reducible refine w_drop ?_) | (with_reducible refine w_ifS ?_) | (with_reducible refine w_gsub ?_) | (with_reducible refine w_augS ?_) | (with_reducible refine w_ipI ?_) | (with_reducible refine w_next ?_)
  | (with_reducible refine w_forR ?_) | (with_reducible refine w_forR2 ?_) | (with_reducible refine w_forL ?_) | (with_reducible refine w_forT ?_) | (with_reducible refine w_lcR ?_) | (with_reducible refine w_lcL ?_) | (with_reducible refine w_lcT ?_) | (with_reducible refine w_sl ?_) | (with_reducible refine w_part ?_) | (with_reducible refine w_noPart ?_) | (with_reducible refine w_in ?_)
  | (with_reducible refine w_gcons ?_) | (with_reducible refine w_gnil ?_) | (with_reducible refine w_lc3 ?_) | (with_reducible refine w_dcZ ?_) | (with_reducible refine w_dcT ?_) | (with_reducible refine w_dg ?_) | (with_reducible refine w_callK ?_) | (with_reducible refine w_dput ?_) | (with_reducible refine w_tup1 ?_)
  | (with_reducible refine w_tup ?_) | (with_reducible refine w_lst ?_)
  | ((with_reducible refine w_I ?h ?_); (case h => first | (exact Or.inr ⟨by decide, by decide⟩) | (exact Or.inl ⟨by decide, by decide⟩) | (show (0 : Int) < _; decide) | (exact ⟨by decide, by decide, by decide⟩) | assumption)))
local macro_rules | `(tactic| walk_at "aw") => `(tactic| repeat (walk_at "aw1"))
theorem w_par {i j : Nat} {ta : TA} {D : Ends} {σ : L2.St} {H : Hp} (h : ta σ H fun vs H1 => ∃ v w, vs = [v, w] ∧ D.nx ((σ.set i (some v)).set j (some w)) H1) : tPar i j ta D σ H := h
theorem w_rg {i n : Nat} {σ : L2.St} {H : Hp} {Q : VK} (hn : n ≤ 100000) (hσ : σ[i]? = some (some (.int (n : Nat)))) (q : ∀ r H', H r = none → Adv [] H H' → H' r = some (.lst ((List.range n).map fun k => V.int (k : Nat))) → Q (.ref r) H') : tLstRg (tRg1 (tVar i)) σ H Q := by
  refine ⟨_, hσ, n, rfl, .of_le (by omega) (by omega) (by omega) (by omega), fun p hp => ?_⟩
  have e : rgV 0 (n : Nat) = (List.range n).map fun k => V.int (k : Nat) := by
    unfold rgV
    rw [show ((n : Int) - 0).toNat = n by omega]
    refine List.map_congr_left fun k _ => ?_
    rw [Int.zero_add]
  rw [e]
  exact w_new q p hp
theorem flat_rep {v : V} : ∀ n, (List.replicate n [v]).flatten = List.replicate n v
  | 0 => rfl
  | n + 1 => by rw [List.replicate_succ, List.flatten_cons, flat_rep n]; rfl
theorem w_rep {l : Addr} {v : V} {n : Nat} {H : Hp} {Q : VK} (h : H l = some (.lst [v])) (hn : n ≤ 100000) (q : ∀ r H', H r = none → Adv [] H H' → H' r = some (.lst (List.replicate n v)) → Q (.ref r) H') : rRep (.ref l) (.int (n : Nat)) H Q := by
  refine ⟨l, n, [v], rfl, rfl, h, by omega, by omega, by rw [Int.toNat_natCast]; exact Nat.le_trans (by simpa using hn) (by decide), fun p hp => ?_⟩
  rw [Int.toNat_natCast, flat_rep]
  exact w_new q p hp
theorem w_disp1 {i : Nat} {a : Int} {v : V} {σ : L2.St} {H : Hp} {Q : VK} (hσ : σ[i]? = some (some (.int a))) (q : ∀ d H', H d = none → Adv [] H H' → H' d = some (.dK [(Sum.inl a, v)]) → Q (.ref d) H') : tDisp ((tVar i, tC v) :: []) σ H Q := fun d nd =>
  ⟨_, hσ, upd_same, [(Sum.inl a, v)], rfl, by simp, q d _ nd ((Adv.new nd).mut nd upd_same fun _ z => by cases z) upd_same⟩
theorem at_last {xs : List V} {n : Nat} {v : V} (hl : xs.length = n + 1) (h : xs[n]? = some v) : atI xs (-1) = some v := by
  unfold atI ixN
  rw [if_neg (by omega), if_pos (by omega), Option.bind_some, hl, show ((-1 : Int) + ((n + 1 : Nat) : Int)).toNat = n by omega]
  exact h
theorem IsAll.drop {H : Hp} : ∀ {ds : List PyData} {vs : List V} (_ : IsAll H ds vs) (n : Nat), IsAll H (ds.drop n) (vs.drop n)
  | _, _, h, 0 => h
  | _, _, .nil, _ + 1 => .nil
  | _, _, .cons _ t, n + 1 => IsAll.drop t n
theorem IsAll.take {H : Hp} : ∀ {ds : List PyData} {vs : List V} (_ : IsAll H ds vs) (n : Nat), IsAll H (ds.take n) (vs.take n)
  | _, _, _, 0 => .nil
  | _, _, .nil, _ + 1 => .nil
  | _, _, .cons h t, n + 1 => .cons h (IsAll.take t n)
theorem IsAll.shuf {α : Type} {D : α → PyData} {H : Hp} {vs ws : List V} (p : vs.Perm ws) : ∀ {ls : List α}, IsAll H (ls.map D) vs → ∃ ls' : List α, ls'.Perm ls ∧ IsAll H (ls'.map D) ws := by
  induction p with
  | nil => exact fun {ls} h => ⟨ls, .refl _, h⟩
  | cons x _ ih =>
    intro ls h
    cases ls with
    | nil => cases h
    | cons a ls =>
      cases h with
      | cons h1 h2 =>
        obtain ⟨ls', p1, p2⟩ := ih h2
        exact ⟨a :: ls', p1.cons a, .cons h1 p2⟩
  | swap x y l =>
    intro ls h
    cases ls with
    | nil => cases h
    | cons a ls =>
      cases ls with
      | nil =>
        cases h with
        | cons h1 h2 => cases h2
      | cons b ls =>
        cases h with
        | cons h1 h2 =>
          cases h2 with
          | cons h2 h3 => exact ⟨b :: a :: ls, .swap a b ls, .cons h2 (.cons h1 h3)⟩
  | trans _ _ ih1 ih2 =>
    intro ls h
    obtain ⟨l1, p1, h1⟩ := ih1 h
    obtain ⟨l2, p2, h2⟩ := ih2 h1
    exact ⟨l2, p2.trans p1, h2⟩
/-- the draw's list of ints gives an int -/
theorem int_mem {xs : List Int} {i : Nat} {v : V} (h : (xs.map V.int)[i]? = some v) : ∃ n, v = .int n ∧ n ∈ xs := by
  rw [List.getElem?_map] at h
  obtain ⟨n, z, rfl⟩ := Option.map_eq_some_iff.mp h
  exact ⟨n, rfl, List.mem_of_getElem? z⟩
/-- the place before, around -/
def prev (n k : Nat) : Nat := if k = 0 then n - 1 else k - 1
theorem prev_lt {n k : Nat} (h : k < n) : prev n k < n := by
  unfold prev
  split <;> omega
theorem prev_at {n k : Nat} {xs : List V} {v : V} (h : k < n) (hn : xs.length = n) (hv : xs[prev n k]? = some v) : atI xs ((k : Nat) - 1) = some v := by
  unfold prev at hv
  unfold atI ixN
  by_cases h0 : k = 0
  · rw [if_pos h0] at hv
    rw [if_neg (by omega), if_pos (by omega), Option.bind_some, hn, show ((k : Int) - 1 + (n : Nat)).toNat = n - 1 by omega]
    exact hv
  · rw [if_neg h0] at hv
    rw [if_pos (by omega), if_pos (by omega), Option.bind_some, show ((k : Int) - 1).toNat = k - 1 by omega]
    exact hv
/-- each saying under the name of the one behind it -/
def turn (made : List (Str × Say)) : List (Str × Say) := (List.range made.length).map fun k => ((made.getD k dfl).1, (made.getD (prev made.length k) dfl).2)
theorem turn_len (made : List (Str × Say)) : (turn made).length = made.length := by
  unfold turn
  rw [List.length_map, List.length_range]
theorem turn_get {made : List (Str × Say)} {k : Nat} {a b : Str × Say} (ha : made[k]? = some a) (hb : made[prev made.length k]? = some b) : (turn made)[k]? = some (a.1, b.2) := by
  have hk := (List.getElem?_eq_some_iff.mp ha).1
  unfold turn
  rw [List.getElem?_map, List.getElem?_range hk]
  show some ((made.getD k dfl).1, (made.getD (prev made.length k) dfl).2) = _
  rw [getD_of ha, getD_of hb]
theorem turn_names (made : List (Str × Say)) : (turn made).map (·.1) = made.map (·.1) := by
  refine List.ext_getElem? fun k => ?_
  rw [List.getElem?_map, List.getElem?_map]
  by_cases hk : k < made.length
  · have hp := prev_lt hk
    rw [turn_get (List.getElem?_eq_getElem hk) (List.getElem?_eq_getElem hp), List.getElem?_eq_getElem hk]
    rfl
  · rw [List.getElem?_eq_none (by rw [turn_len]; omega), List.getElem?_eq_none (by omega)]
theorem turn_mem {made : List (Str × Say)} {q : Str × Say} (h : q ∈ turn made) : ∃ p ∈ made, q.2 = p.2 := by
  unfold turn at h
  obtain ⟨k, hk, rfl⟩ := List.mem_map.mp h
  have hp := prev_lt (List.mem_range.mp hk)
  exact ⟨_, List.getElem_mem hp, by rw [getD_of (List.getElem?_eq_getElem hp)]⟩
def sp__law_by_turns (_ : PySem.W.Frag) : Sp := fun vs H Q _ => ∃ (st p md f s r : Addr) (b : V), vs = [.ref st, .ref p, .ref md, .ref f, .ref s, .ref r, b] ∧ ∃ (cs : Addr) (doms : List (Str × List Int)) (made firm soft : List (Str × Say)) (rows : List (List Int)) (base : List Int), StOk st cs H ∧
  (p ≠ st ∧ md ≠ st ∧ f ≠ st ∧ s ≠ st ∧ r ≠ st) ∧ LsAt H p (doms.map domD) ∧ LsAt H md (made.map itD) ∧ LsAt H f (firm.map itD) ∧ LsAt H s (soft.map itD) ∧ LsAt H r (rows.map rowD) ∧ Is H (rowD base) b ∧ HeldOk doms firm soft ∧
  (made.map (·.1)).Nodup ∧ 0 < made.length ∧ made.length ≤ 50 ∧ (∀ q ∈ made, q.2.ok ∧ ∀ x ∈ q.2.names, x ∈ doms.map (·.1)) ∧ (∀ row ∈ rows, row.length = doms.length) ∧ rows.length ≤ 1000 ∧ base.length = doms.length ∧ 0 < doms.length ∧ (∀ q ∈ doms, 0 < q.2.length ∧ q.2.length ≤ 100) ∧
  ∀ H', Go st cs H H' → Q (.bl true) H'
def sp__law_domain (_ : PySem.W.Frag) : Sp := fun vs H Q _ => ∃ (st : Addr) (n : Nat), vs = [.ref st, .int ((n : Nat) + 1)] ∧ ∃ cs, StOk st cs H ∧ n < 1000 ∧ ∀ v (fl : List Int) H', Go st cs H H' → Is H' (rowD fl) v → fl.length = n + 1 → Q v H'
def sp__law_circle (_ : PySem.W.Frag) : Sp := fun vs H Q _ => ∃ (st : Addr) (n : Nat), vs = [.ref st, .int (n : Nat)] ∧ ∃ cs, StOk st cs H ∧ 0 < n ∧ n ≤ 1000 ∧ ∀ r (fl : List Int) H', Go st cs H H' → H r = none → H' r = some (.lst (fl.map V.int)) → fl.length = n → Q (.ref r) H'
def sp__law_around (_ : PySem.W.Frag) : Sp := fun vs H Q _ => ∃ (st : Addr) (a : Int) (m n : Nat), vs = [.ref st, .int a, .int (m : Nat), .int (n : Nat)] ∧ ∃ cs, StOk st cs H ∧ 0 < m ∧ m ≤ 60 ∧ n ≤ 900 ∧ ∀ v (fl : List Int) H', Go st cs H H' → Is H' (rowD fl) v → 0 < fl.length → fl.length ≤ m → Q v H'
def sp__law_works (_ : PySem.W.Frag) : Sp := fun vs H Q _ => ∃ (st p d : Addr), vs = [.ref st, .ref p, .ref d] ∧ ∃ (cs : Addr) (doms : List (Str × List Int)) (w : Str → Int), StOk st cs H ∧ p ≠ st ∧ LsAt H p (doms.map domD) ∧ WD H d (doms.map (·.1)) w ∧ doms.length ≤ 100 ∧
  ∀ v (s : Say) H', Go st cs H H' → Is H' (sayD s) v → s.ok → (∀ x ∈ s.names, x ∈ doms.map (·.1)) → Q v H'
def t__law_by_turns (K : PySem.W.Frag) : TS := (tSeq (tAsg (tOp rCat (tOp rCat (tLst (tCons (tVar 6) tNil)) (tSl (rSlL K) (tVar 5) tNoPart (tPart (tC (.int 2))))) (tLst (tCons (tCall (sp__law_near K) [] E0 (tCons (tVar 0) (tCons (tVar 1) (tCons (tVar 6) tNil)))) tNil))) (gName 7))
  (tSeq (tAsg (tLc (iRng1 (tCons (tCB (rLen1 K) (tCons (tVar 2) tNil)) tNil)) (gName 9) tYes (tTup (tCons (tOp (rIxT K) (tOp (rIxL K) (tVar 2) (tVar 9)) (tC (.int 0))) (tCons (tOp (rIxT K) (tOp (rIxL K) (tVar 2) (tOp rSubI (tVar 9) (tC (.int 1)))) (tC (.int 1))) tNil))) [9]) (gName 8))
  (tSeq (tIfS (tOr (tNot (tB (tCall (sp__law_are_held K) [] E0 (tCons (tVar 0) (tCons (tVar 1) (tCons (tVar 3) (tCons (tVar 4) (tCons (tVar 5) tNil)))))))) (tNot (tB (tCall (sp__law_are_held K) [] E0 (tCons (tVar 0) (tCons (tVar 1) (tCons (tSl (rSlL K) (tVar 8) (tPart (tC (.int 1))) tNoPart) (tCons (tSl (rSlL K) (tVar 8) tNoPart (tPart (tC (.int 1)))) (tCons (tVar 7) tNil))))))))) (tRet (tC (.bl false))) tNext)
  (tRet (tCall (sp__law_are_held K) [] E0 (tCons (tVar 0) (tCons (tVar 1) (tCons (tVar 3) (tCons (tVar 4) (tCons (tVar 7) tNil))))))))))
def t__law_domain (K : PySem.W.Frag) : TS := (tSeq (tAsg (tCall (sp__law_pick K) [] E0 (tCons (tVar 0) (tCons (tLst (tCons (tC (.int 1)) (tCons (tC (.int 1)) (tCons (tC (.int 3)) (tCons (tC (.int 30)) tNil))))) tNil))) (gName 2))
  (tSeq (tAsg (tLst (tCons (tC (.int 0)) tNil)) (gName 3))
  (tSeq (tFor (iRng1 (tCons (tOp rSubI (tVar 1) (tC (.int 1))) tNil)) (gName 4)
  (tDrop (tBM K "list" rAppend (tVar 3) (tCons (tOp rAddI (tOp rAddI (tOp (rIxL K) (tVar 3) (tUn rNeg (tC (.int 1)))) (tC (.int 1))) (tCall (sp__law_take K) [] E0 (tCons (tVar 0) (tCons (tVar 2) tNil)))) tNil))))
  (tSeq (tAsg (tCall (sp__law_pick K) [] E0 (tCons (tVar 0) (tCons (tLst (tCons (tC (.int 0)) (tCons (tOp rDivI (tUn rNeg (tOp (rIxL K) (tVar 3) (tUn rNeg (tC (.int 1))))) (tC (.int 2))) (tCons (tUn rNeg (tC (.int 200))) (tCons (tOp rSubI (tC (.int 200)) (tOp (rIxL K) (tVar 3) (tUn rNeg (tC (.int 1))))) (tCons (tOp rSubI (tCall (sp__law_take K) [] E0 (tCons (tVar 0) (tCons (tC (.int 401)) tNil))) (tC (.int 200))) tNil)))))) tNil))) (gName 5))
  (tSeq (tAsg (tCB rMax2 (tCons (tUn rNeg (tC (.int 200))) (tCons (tCB rMin2 (tCons (tOp rSubI (tC (.int 200)) (tOp (rIxL K) (tVar 3) (tUn rNeg (tC (.int 1))))) (tCons (tVar 5) tNil))) tNil))) (gName 5))
  (tRet (tThen (tLc (iList K (tVar 3)) (gName 6) tYes (tOp rAddI (tVar 5) (tVar 6)) [6]) (kTup K))))))))
def t__law_circle (K : PySem.W.Frag) : TS := (tSeq (tAsg (tCall (sp__law_shuffled K) [] E0 (tCons (tVar 0) (tCons (tLstRg (tRg1 (tVar 1))) tNil))) (gName 2))
  (tSeq (tAsg (tOp rRep (tLst (tCons (tC (.int 0)) tNil)) (tVar 1)) (gName 3))
  (tSeq (tFor (iRng1 (tCons (tVar 1) tNil)) (gName 4)
  (tAsg (tOp (rIxL K) (tVar 2) (tOp rModI (tCB rInt1 (tCons (tOp rAddI (tVar 4) (tC (.int 1))) tNil)) (tVar 1))) (gSub (tVar 3) (tOp (rIxL K) (tVar 2) (tVar 4)) rSetL)))
  (tSeq (tIfS (tTest (tOp rEq (tCall (sp__law_take K) [] E0 (tCons (tVar 0) (tCons (tC (.int 4)) tNil))) (tC (.int 0)))) (tSeq (tPar 5 6 (tCons (tCall (sp__law_take K) [] E0 (tCons (tVar 0) (tCons (tVar 1) tNil))) (tCons (tCall (sp__law_take K) [] E0 (tCons (tVar 0) (tCons (tVar 1) tNil))) tNil)))
  (tAsg (tTup (tCons (tOp (rIxL K) (tVar 3) (tVar 6)) (tCons (tOp (rIxL K) (tVar 3) (tVar 5)) tNil))) (gTup K 2 (gCons (gSub (tVar 3) (tVar 5) rSetL) (gCons (gSub (tVar 3) (tVar 6) rSetL) gNil))))) tNext)
  (tRet (tVar 3))))))
theorem len__law_by_turns {K : PySem.W.Frag} : ∀ (vs : List V) (H : Hp) (Q : VK) (E : XK), sp__law_by_turns K vs H Q E → vs.length = 7 := fun vs H Q E h => by
  obtain ⟨_, _, _, _, _, _, _, rfl, _⟩ := h
  rfl
theorem turned_held {doms : List (Str × List Int)} {made : List (Str × Say)} (hd : (doms.map (·.1)).Nodup) (hl : doms.length ≤ 100) (hn : (made.map (·.1)).Nodup) (h50 : made.length ≤ 50) (hm : ∀ q ∈ made, q.2.ok ∧ ∀ x ∈ q.2.names, x ∈ doms.map (·.1)) : HeldOk doms ((turn made).drop 1) ((turn made).take 1) := by
  have hp : ((turn made).drop 1 ++ (turn made).take 1).Perm (turn made) := List.perm_append_comm.trans (by rw [List.take_append_drop])
  refine ⟨hd, hl, ?_, by rw [List.length_drop, turn_len]; omega, by rw [List.length_take, turn_len]; omega, fun q hq => ?_⟩
  · rw [← List.map_append]
    refine (hp.map _).nodup_iff.mpr ?_
    rw [turn_names]
    exact hn
  · obtain ⟨p, h1, h2⟩ := turn_mem (hp.mem_iff.mp hq)
    rw [h2]
    exact hm p h1
theorem pure__law_by_turns {K : PySem.W.Frag} (vs : List V) (H : Hp) (Q : VK) (E : XK) (h : sp__law_by_turns K vs H Q E) : t__law_by_turns K { nx := fun _ H' => Q .non H', rt := Q } (start ["state", "doms", "made", "firm", "soft", "fillings", "base", "few", "turned", "k"] vs) H := by
  obtain ⟨st, p, md, f, s, r, b, rfl, cs, doms, made, firm, soft, rows, base, ok, ⟨np, nm, nf, ns, nr⟩, hp, ⟨ms, hm, tm⟩, hf, hs, ⟨rs, hr, tr⟩, hb, hok, hmn, hm0, hm50, hmok, hrow, hrl, hbl, hd0, hdd, q⟩ := h
  have hml : ms.length = made.length := by rw [tm.length, List.length_map]
  have hrsl : rs.length = rows.length := by rw [tr.length, List.length_map]
  show t__law_by_turns K _ [some (.ref st), some (.ref p), some (.ref md), some (.ref f), some (.ref s), some (.ref r), some b, none, none, none] H
  unfold t__law_by_turns
  walk_at "aw"
  refine w_lstD (by simp) fun l1 H1 nl1 a1 e1 => ?_
  have g1 := Go.of ok a1
  walk_at "aw"
  refine w_slL (SqL.of (g1.keep nr hr)) fun l2 H2 nl2 a2 e2 => ?_
  rw [cut_to _ (by omega)] at e2
  refine w_cat (a2.keep _ _ (fun z => nomatch z) e1) e2 (by rw [List.length_take]; simp; omega) fun l3 H3 nl3 a3 e3 => ?_
  have g3 := (g1.new a2).new a3
  walk_at "aw"
  refine ⟨st, p, b, rfl, cs, doms, base, g3.ok, np, hp.go np g3, hb.up g3.tk, hbl, hd0, hok.dl, hdd, fun v' fl' H4 g4 hv' hfl' => ?_⟩
  have g4' := g3.trans g4
  walk_at "aw"
  refine w_lstD (by simp) fun l5 H5 nl5 a5 e5 => ?_
  have nl3st := (g1.new a2).ok.ne nl3
  refine w_cat (a5.keep _ _ (fun z => nomatch z) (g4.keep nl3st.1 e3)) e5 (by rw [List.length_append, List.length_take]; simp; omega) fun few H6 nfew a6 e6 => ?_
  have g6 := (g4'.new a5).new a6
  have nfewst := (g4'.new a5).ok.ne nfew
  have hfew : LsAt H6 few (((base :: rows.take 2) ++ [fl']).map rowD) := by
    refine ⟨_, e6, ?_⟩
    rw [List.map_append, List.map_cons, List.map_take]
    exact IsAll.append (.cons (hb.up g6.tk) ((tr.take 2).up g6.tk)) (.cons ((hv'.up a5.tup).up a6.tup) .nil)
  have hfewl : ∀ row ∈ (base :: rows.take 2) ++ [fl'], row.length = doms.length := fun row hrw => by
    rcases List.mem_append.mp hrw with h | h
    · rcases List.mem_cons.mp h with h | h
      · rw [h]; exact hbl
      · exact hrow row (List.mem_of_mem_take h)
    · rw [List.mem_singleton.mp h]
      exact hfl'
  have hfewn : ((base :: rows.take 2) ++ [fl']).length ≤ 1000 := by
    rw [List.length_append, List.length_cons, List.length_take]
    simp
    omega
  generalize (base :: rows.take 2) ++ [fl'] = frows at hfew hfewl hfewn
  walk_at "aw"
  refine w_lenL (SqL.of (g6.keep nm hm)) ?_
  rw [hml]
  refine kLcR_all (n := made.length) (by omega) g6.ok (fun k v H => ∃ q, (turn made)[k]? = some q ∧ Is H (itD q) v) (fun k v H H' t h => by
    obtain ⟨q, z1, z2⟩ := h
    exact ⟨q, z1, z2.up t⟩) (fun k H7 Kt hk g7 kt => ?_) fun tu H7 ys ntu g7 etu hyl hyr => ?_
  · have hk2 := prev_lt hk
    obtain ⟨a, za⟩ := get_some (xs := made) hk
    obtain ⟨c, zc⟩ := get_some (xs := made) hk2
    obtain ⟨xa, ya⟩ := get_some (xs := ms) (i := k) (by omega)
    obtain ⟨xc, yc⟩ := get_some (xs := ms) (i := prev made.length k) (by omega)
    obtain ⟨da, z1, ha⟩ := tm.get ya
    rw [List.getElem?_map, za] at z1
    cases z1
    obtain ⟨dc, z2, hc⟩ := tm.get yc
    rw [List.getElem?_map, zc] at z2
    cases z2
    have g67 := g6.trans g7
    obtain ⟨ia, sa, rfl, ea, _⟩ := it_parts (ha.up g67.tk)
    obtain ⟨ic, sc, rfl, ec, hsc⟩ := it_parts (hc.up g67.tk)
    walk_at "aw"
    refine ⟨rfl, ?_⟩
    walk_at "aw"
    refine w_ixL (SqL.of (g67.keep nm hm)) (at_of (j := k) rfl ya) ?_
    walk_at "aw"
    refine w_ixT (SqT.of ea) rfl ?_
    walk_at "aw"
    refine w_ixL (SqL.of (g67.keep nm hm)) (prev_at hk hml yc) ?_
    walk_at "aw"
    refine w_ixT (SqT.of ec) rfl ?_
    walk_at "aw"
    refine w_tupD (by simp) fun t H8 nt a8 e8 => ?_
    exact kt _ _ (Go.of g7.ok a8) ⟨_, turn_get za zc, .tup e8 (.cons (.str _) (.cons (hsc.up a8.tup) .nil))⟩
  have g7' := g6.trans g7
  have ntust := (g6.ok.ne ntu).1
  have htu : IsAll H7 ((turn made).map itD) ys := IsAll.of _ _ (by rw [List.length_map, turn_len, hyl]) fun i d v h1 h2 => by
    rw [List.getElem?_map] at h1
    obtain ⟨q, z1, z2⟩ := hyr i v h2
    rw [z1] at h1
    cases h1
    exact z2
  have hth := turned_held hok.dn hok.dl hmn hm50 hmok
  walk_at "aw"
  refine ⟨st, p, f, s, r, rfl, cs, doms, firm, soft, rows, g7'.ok, ⟨np, nf, ns, nr⟩, hp.go np g7', hf.go nf g7', hs.go ns g7', LsAt.go ⟨rs, hr, tr⟩ nr g7', hok, hrow, hrl, fun H8 g8 => ?_⟩
  walk_at "aw"
  refine iteF ?_
  walk_at "aw"
  have g78 := g7.trans g8
  have g8' := g7'.trans g8
  refine w_slL (SqL.of (g8.keep ntust etu)) fun l9 H9 nl9 a9 e9 => ?_
  rw [cut_from _ (by omega)] at e9
  walk_at "aw"
  refine w_slL (SqL.of (a9.keep _ _ (fun z => nomatch z) (g8.keep ntust etu))) fun l10 H10 nl10 a10 e10 => ?_
  rw [cut_to _ (by omega)] at e10
  have g10 := (g8.new a9).new a10
  have g10' := g7'.trans g10
  walk_at "aw"
  refine ⟨st, p, l9, l10, few, rfl, cs, doms, (turn made).drop 1, (turn made).take 1, frows, g10.ok, ⟨np, (g8.ok.ne nl9).1, ((g8.new a9).ok.ne nl10).1, nfewst.1⟩, hp.go np g10', ⟨_, a10.keep _ _ (fun z => nomatch z) e9, ?_⟩, ⟨_, e10, ?_⟩, hfew.go nfewst.1 (g7.trans g10), hth, hfewl, hfewn, fun H11 g11 => ?_⟩
  · rw [List.map_drop]
    exact (htu.up g10.tk).drop 1
  · rw [List.map_take]
    exact (htu.up g10.tk).take 1
  walk_at "aw"
  refine iteF ?_
  walk_at "aw"
  have g11' := g10'.trans g11
  refine ⟨st, p, f, s, few, rfl, cs, doms, firm, soft, frows, g11.ok, ⟨np, nf, ns, nfewst.1⟩, hp.go np g11', hf.go nf g11', hs.go ns g11', hfew.go nfewst.1 ((g7.trans g10).trans g11), hok, hfewl, hfewn, fun H12 g12 => ?_⟩
  exact q H12 (g11'.trans g12)
theorem len__law_domain {K : PySem.W.Frag} : ∀ (vs : List V) (H : Hp) (Q : VK) (E : XK), sp__law_domain K vs H Q E → vs.length = 2 := fun vs H Q E h => by
  obtain ⟨_, _, rfl, _⟩ := h
  rfl
theorem pure__law_domain {K : PySem.W.Frag} (vs : List V) (H : Hp) (Q : VK) (E : XK) (h : sp__law_domain K vs H Q E) : t__law_domain K { nx := fun _ H' => Q .non H', rt := Q } (start ["state", "size", "wide", "found", "k", "low", "one"] vs) H := by
  obtain ⟨st, n, rfl, cs, ok, hn, q⟩ := h
  show t__law_domain K _ [some (.ref st), some (.int ((n : Nat) + 1)), none, none, none, none, none] H
  unfold t__law_domain
  walk_at "aw"
  refine w_lstD (by simp) fun l0 H1 nl0 a1 e1 => ?_
  have g1 := Go.of ok a1
  walk_at "aw"
  refine ⟨st, l0, rfl, cs, _, g1.ok, .inl ⟨SqL.of e1, (ok.ne nl0).1⟩, by simp, by simp, fun i x H2 hx g2 => ?_⟩
  obtain ⟨wd, rfl, hwd⟩ : ∃ wd : Int, x = .int wd ∧ 0 < wd ∧ wd ≤ 30 := by
    have hxm := List.mem_of_getElem? hx
    simp only [List.mem_cons, List.not_mem_nil, or_false] at hxm
    rcases hxm with h | h | h | h
    · exact ⟨1, h, by omega⟩
    · exact ⟨1, h, by omega⟩
    · exact ⟨3, h, by omega⟩
    · exact ⟨30, h, by omega⟩
  walk_at "aw"
  refine w_lstD (by simp) fun f H3 nf a3 e3 => ?_
  have g3 := (g1.trans g2).new a3
  have nf0 : H f = none := (g1.trans g2).free ok nf
  have nfst := (ok.ne nf0).1
  walk_at "aw"
  rw [show (n : Int) + 1 - 1 = (n : Nat) by omega]
  refine kForR_i (n := n) (by omega) (fun i σ H' => ∃ y4 cur, σ = [some (.ref st), some (.int ((n : Nat) + 1)), some (.int wd), some (.ref f), y4, none, none] ∧ Go st cs H H' ∧ H' f = some (.lst ((cur : List Int).map V.int)) ∧ cur.length = i + 1)
    ⟨none, [0], rfl, g3, e3, rfl⟩ (fun i σ H' hi pp => ?_) fun σ H' pp => ?_
  · obtain ⟨y4, cur, rfl, g, ef, hcl⟩ := pp
    obtain ⟨c, hc⟩ := get_some (xs := cur) (i := i) (by omega)
    walk_at "aw"
    refine w_app rfl ef ?_
    walk_at "aw"
    refine w_ixL (SqL.of ef) (at_last (n := i) (v := .int c) (by rw [List.length_map]; exact hcl) (by rw [List.getElem?_map, hc]; rfl)) ?_
    walk_at "aw"
    refine ⟨st, _, rfl, cs, g.ok, by omega, by omega, fun m H4 _ _ g4 => ?_⟩
    have ef4 := g4.keep nfst ef
    walk_at "aw"
    refine w_append ef4 (by rw [List.length_map]; omega) ?_
    refine ⟨_, cur ++ [c + 1 + m], rfl, (g.trans g4).mutL ok nf0 ef4, ?_, by rw [List.length_append, hcl]; rfl⟩
    rw [upd_same, List.map_append]
    rfl
  · obtain ⟨y4, cur, rfl, g, ef, hcl⟩ := pp
    obtain ⟨c, hc⟩ := get_some (xs := cur) (i := n) (by omega)
    have hlast : atI (cur.map V.int) (-1) = some (.int c) := at_last (n := n) (by rw [List.length_map]; exact hcl) (by rw [List.getElem?_map, hc]; rfl)
    walk_at "aw"
    refine w_ixL (SqL.of ef) hlast ?_
    walk_at "aw"
    refine w_I ⟨by decide, by decide⟩ ?_
    walk_at "aw"
    refine w_ixL (SqL.of ef) hlast ?_
    walk_at "aw"
    refine ⟨st, _, rfl, cs, g.ok, by omega, by omega, fun m H4 _ _ g4 => ?_⟩
    have ef4 := g4.keep nfst ef
    walk_at "aw"
    refine w_lstD (by simp) fun l5 H5 nl5 a5 e5 => ?_
    have g5 := (g.trans g4).new a5
    have ef5 := a5.keep _ _ (fun z => nomatch z) ef4
    walk_at "aw"
    refine ⟨st, l5, rfl, cs, [0, -c / 2, -200, 200 - c, m - 200].map V.int, g5.ok, .inl ⟨SqL.of e5, ((g.trans g4).ok.ne nl5).1⟩, by simp, by simp, fun i x H6 hx g6 => ?_⟩
    obtain ⟨lo, rfl, _⟩ := int_mem hx
    have ef6 := g6.keep nfst ef5
    walk_at "aw"
    refine w_ixL (SqL.of ef6) hlast ?_
    walk_at "aw"
    have g6' := g5.trans g6
    refine kLcL_all (SqL.of ef6) nfst (by rw [List.length_map]; omega) g6'.ok (fun _ v _ => ∃ n : Int, v = .int n) (fun _ _ _ _ _ h => h) (fun i x H7 Kt hx g7 kt => ?_) fun r H7 ys nr g7 er hyl hyr => ?_
    · obtain ⟨o, rfl, _⟩ := int_mem hx
      walk_at "aw"
      refine ⟨rfl, ?_⟩
      walk_at "aw"
      exact kt _ _ (.refl g7.ok) ⟨_, rfl⟩
    · obtain ⟨ps, rfl⟩ := ints_of hyr
      rw [List.length_map, List.length_map, hcl] at hyl
      refine w_tupL (SqL.of er) fun t H8 nt a8 e8 => ?_
      exact q _ ps H8 ((g6'.trans g7).new a8) (.tup e8 (IsAll.ints _)) hyl
theorem len__law_circle {K : PySem.W.Frag} : ∀ (vs : List V) (H : Hp) (Q : VK) (E : XK), sp__law_circle K vs H Q E → vs.length = 2 := fun vs H Q E h => by
  obtain ⟨_, _, rfl, _⟩ := h
  rfl
theorem perm_ints {n : Nat} {ys : List V} (h : ys.Perm ((List.range n).map fun k => V.int (k : Nat))) : ys.length = n ∧ ∀ {i : Nat} {v : V}, ys[i]? = some v → ∃ k : Nat, v = .int (k : Nat) ∧ k < n := by
  constructor
  · rw [h.length_eq, List.length_map, List.length_range]
  · intro i v hv
    obtain ⟨k, hk, rfl⟩ := List.mem_map.mp (h.mem_iff.mp (List.mem_of_getElem? hv))
    exact ⟨k, rfl, List.mem_range.mp hk⟩
theorem pure__law_circle {K : PySem.W.Frag} (vs : List V) (H : Hp) (Q : VK) (E : XK) (h : sp__law_circle K vs H Q E) : t__law_circle K { nx := fun _ H' => Q .non H', rt := Q } (start ["state", "many", "order", "after", "k", "one", "two"] vs) H := by
  obtain ⟨st, n, rfl, cs, ok, hn0, hn, q⟩ := h
  show t__law_circle K _ [some (.ref st), some (.int (n : Nat)), none, none, none, none, none] H
  unfold t__law_circle
  walk_at "aw"
  refine w_rg (by omega) rfl fun l0 H1 nl0 a1 e1 => ?_
  have g1 := Go.of ok a1
  walk_at "aw"
  refine ⟨st, l0, rfl, cs, _, g1.ok, SqL.of e1, (ok.ne nl0).1, by rw [List.length_map, List.length_range]; omega, fun o ys H2 hperm no g2 eo => ?_⟩
  obtain ⟨hyl, hyg⟩ := perm_ints hperm
  have g2' := g1.trans g2
  have nost := (g1.ok.ne no).1
  walk_at "aw"
  refine w_lstD (by simp) fun l3 H3 nl3 a3 e3 => ?_
  walk_at "aw"
  refine w_rep e3 (by omega) fun f H4 nf a4 e4 => ?_
  have g4 := (g2'.new a3).new a4
  have nf0 : H f = none := (g2'.new a3).free ok nf
  have nfst := (ok.ne nf0).1
  have eo4 := a4.keep _ _ (fun z => nomatch z) (a3.keep _ _ (fun z => nomatch z) eo)
  have hfo : o ≠ f := ne_of_none (a3.keep _ _ (fun z => nomatch z) eo) nf
  walk_at "aw"
  refine kForR_i (n := n) (by omega) (fun i σ H' => ∃ y4 cur, σ = [some (.ref st), some (.int (n : Nat)), some (.ref o), some (.ref f), y4, none, none] ∧ Go st cs H H' ∧ H' f = some (.lst ((cur : List Int).map V.int)) ∧ cur.length = n ∧ H' o = some (.lst ys))
    ⟨none, List.replicate n 0, rfl, g4, by rw [e4, List.map_replicate], by rw [List.length_replicate], eo4⟩ (fun i σ H' hi pp => ?_) fun σ H' pp => ?_
  · obtain ⟨y4, cur, rfl, g, ef, hcl, eo'⟩ := pp
    obtain ⟨v, hv⟩ := get_some (xs := ys) (i := i) (by omega)
    obtain ⟨k, rfl, hk⟩ := hyg hv
    have hm : ((i : Int) + 1) % (n : Nat) = (((i + 1) % n : Nat) : Int) := (Int.natCast_emod (i + 1) n).symm
    have hml : (i + 1) % n < n := Nat.mod_lt _ hn0
    obtain ⟨v2, hv2⟩ := get_some (xs := ys) (i := (i + 1) % n) (by omega)
    obtain ⟨k2, rfl, hk2⟩ := hyg hv2
    walk_at "aw"
    refine w_I (show (0 : Int) < (n : Nat) by omega) ?_
    rw [hm]
    refine w_ixL (SqL.of eo') (at_of (j := (i + 1) % n) rfl hv2) ?_
    walk_at "aw"
    refine w_ixL (SqL.of eo') (at_of (j := i) rfl hv) ?_
    have hix : ixN (cur.map V.int).length ((k : Nat) : Int) = some k := by
      unfold ixN
      rw [List.length_map, if_pos (by omega), if_pos (by omega)]
      rfl
    refine w_setL ef hix ?_
    refine ⟨_, cur.set k k2, rfl, g.mutL ok nf0 ef, ?_, by rw [List.length_set]; exact hcl, by rw [upd_ne hfo]; exact eo'⟩
    rw [upd_same, List.map_set]
  · obtain ⟨y4, cur, rfl, g, ef, hcl, eo'⟩ := pp
    walk_at "aw"
    refine ⟨st, _, rfl, cs, g.ok, by omega, by omega, fun m H5 _ _ g5 => ?_⟩
    have g5' := g.trans g5
    have ef5 := g5.keep nfst ef
    walk_at "aw"
    refine w_iteB (fun _ => ?_) fun _ => ?_
    · walk_at "aw"
      refine w_par ?_
      walk_at "aw"
      refine ⟨st, _, rfl, cs, g5.ok, by omega, by omega, fun x H6 hx1 hx2 g6 => ?_⟩
      walk_at "aw"
      refine ⟨st, _, rfl, cs, g6.ok, by omega, by omega, fun y H7 hy1 hy2 g7 => ?_⟩
      refine ⟨_, _, rfl, ?_⟩
      have g7' := (g5'.trans g6).trans g7
      have ef7 := g7.keep nfst (g6.keep nfst ef5)
      obtain ⟨cx, hcx⟩ := get_some (xs := cur) (i := x.toNat) (by omega)
      obtain ⟨cy, hcy⟩ := get_some (xs := cur) (i := y.toNat) (by omega)
      walk_at "aw"
      refine w_ixL (SqL.of ef7) (at_nat hy1 (v := .int cy) (by rw [List.getElem?_map, hcy]; rfl)) ?_
      walk_at "aw"
      refine w_ixL (SqL.of ef7) (at_nat hx1 (v := .int cx) (by rw [List.getElem?_map, hcx]; rfl)) ?_
      walk_at "aw"
      refine w_tupD (by simp) fun t H8 nt a8 e8 => ?_
      have ef8 := a8.keep _ _ (fun z => nomatch z) ef7
      refine w_gtup (SqT.of e8) rfl ?_
      walk_at "aw"
      have hix : ∀ {z : Int} {l : List Int}, l.length = n → 0 ≤ z → z < n → ixN (l.map V.int).length z = some z.toNat := fun {z l} e h1 h2 => by
        unfold ixN
        rw [List.length_map, if_pos (by omega), if_pos (by omega)]
      refine w_setL ef8 (hix hcl hx1 hx2) ?_
      walk_at "aw"
      refine w_setL upd_same (by rw [List.length_set]; exact hix hcl hy1 hy2) ?_
      walk_at "aw"
      refine q f ((cur.set x.toNat cy).set y.toNat cx) _ (((g7'.new a8).mutL ok nf0 ef8).mutL ok nf0 upd_same) nf0 ?_ (by rw [List.length_set, List.length_set]; exact hcl)
      rw [upd_same, List.map_set, List.map_set]
    · walk_at "aw"
      exact q f cur H5 g5' nf0 ef5 hcl
end AW
namespace AW
open PySem PySem.Spec PyProof.Rows L2 RZ
local macro_rules | `(tactic| walk_at "aw1") => `(tactic| first
  | (with_reducible refine w_seq ?_) | (with_reducible refine w_asg ?_) | (with_reducible refine w_gname ?_) | (with_reducible refine w_op ?_) | (with_reducible refine w_un ?_)
  | ((with_reducible refine' w_var ?h ?_); (case h => rfl)) | (with_reducible refine w_c ?_)
  | (with_reducible refine w_I0 ?_) | (with_reducible refine w_U ?_) | (with_reducible refine w_cb ?_) | (with_reducible refine w_nil ?_) | (with_reducible refine w_cons ?_) | (with_reducible refine w_call ?_)
  | (with_reducible refine w_test ?_) | (with_reducible refine w_B ?_) | (with_reducible refine w_bl ?_) | (with_reducible refine w_not ?_) | (with_reducible refine w_yes ?_) | (with_reducible refine iteT ?_) | (with_reducible refine iteF ?_) | (with_reducible refine w_and ?_) | (with_reducible refine w_or ?_)
  | (with_reducible refine w_andV ?_) | (with_reducible refine w_orV ?_) | (with_reducible refine w_notV ?_) | (with_reducible refine w_if ?_)
  | (with_reducible refine w_int1 ?_) | (with_reducible refine w_int1b ?_) | (with_reducible refine w_abs ?_) | (with_reducible refine w_max2 ?_) | (with_reducible refine w_min2 ?_)
  | ((with_reducible refine w_eq ?h ?_); (case h => rfl)) | ((with_reducible refine w_ne ?h ?_); (case h => rfl)) | (with_reducible refine w_isN ?_) | (with_reducible refine w_isB ?_) | (with_reducible refine w_chain ?_)
  | (with_reducible refine w_ret ?_) | (with_reducible refine w_drop ?_) | (with_reducible refine w_ifS ?_) | (with_reducible refine w_gsub ?_) | (with_reducible refine w_augS ?_) | (with_reducible refine w_ipI ?_) | (with_reducible refine w_next ?_)
  | (with_reducible refine w_forR ?_) | (with_reducible refine w_forR2 ?_) | (with_reducible refine w_forL ?_) | (with_reducible refine w_forT ?_) | (with_reducible refine w_lcR ?_) | (with_reducible refine w_lcL ?_) | (with_reducible refine w_lcT ?_) | (with_reducible refine w_sl ?_) | (with_reducible refine w_part ?_) | (with_reducible refine w_noPart ?_) | (with_reducible refine w_in ?_)
  | (with_reducible refine w_gcons ?_) | (with_reducible refine w_gnil ?_) | (with_reducible refine w_lc3 ?_) | (with_reducible refine w_dcZ ?_) | (with_reducible refine w_dcT ?_) | (with_reducible refine w_dg ?_) | (with_reducible refine w_callK ?_) | (with_reducible refine w_dput ?_) | (with_reducible refine w_tup1 ?_)
  | (with_reducible refine w_tup ?_) | (with_reducible refine w_lst ?_)
  | ((with_reducible refine w_I ?h ?_); (case h => first | (exact Or.inr ⟨by decide, by decide⟩) | (exact Or.inl ⟨by decide, by decide⟩) | (show (0 : Int) < _; decide) | (exact ⟨by decide, by decide, by decide⟩) | assumption)))
local macro_rules | `(tactic| walk_at "aw") => `(tactic| repeat (walk_at "aw1"))
def t__law_around (K : PySem.W.Frag) : TS := (tSeq (tAsg (tLc (iList K (tOp rCat (tLstRg (tRg1 (tVar 3))) (tLst (tCons (tUn rNeg (tC (.int 1))) (tCons (tVar 3) (tCons (tOp rSubI (tCall (sp__law_take K) [] E0 (tCons (tVar 0) (tCons (tC (.int 401)) tNil))) (tC (.int 200))) tNil)))))) (gName 5) (tTest (tOp rNe (tVar 5) (tVar 1))) (tVar 5) [5]) (gName 4))
  (tSeq (tAsg (tDisp (((tVar 1), (tC (.bl true))) :: [])) (gName 6))
  (tSeq (tFor (iList K (tSl (rSlL K) (tCall (sp__law_shuffled K) [] E0 (tCons (tVar 0) (tCons (tVar 4) tNil))) tNoPart (tPart (tOp rSubI (tVar 2) (tC (.int 1)))))) (gName 5)
  (sDPut (tVar 6) (tVar 5) (tC (.bl true))))
  (tRet (tThen (tCB rSortDI (tCons (tVar 6) tNil)) (kTup K))))))
def t__law_works (K : PySem.W.Frag) : TS := (tSeq (tAsg (tLc (iList K (tSl (rSlL K) (tCall (sp__law_shuffled K) [] E0 (tCons (tVar 0) (tCons (tVar 1) tNil))) tNoPart (tPart (tCall (sp__law_pick K) [] E0 (tCons (tVar 0) (tCons (tLst (tCons (tOp rAddI (tC (.int 1)) (tCall (sp__law_take K) [] E0 (tCons (tVar 0) (tCons (tC (.int 12)) tNil)))) (tCons (tOp rAddI (tC (.int 1)) (tCall (sp__law_take K) [] E0 (tCons (tVar 0) (tCons (tC (.int 4)) tNil)))) (tCons (tC (.int 12)) tNil)))) tNil)))))) (gName 4) tYes (tOp (rIxT K) (tVar 4) (tC (.int 0))) [4]) (gName 3))
  (tSeq (tAsg (tTup (tCons (tCall (sp__law_pick K) [] E0 (tCons (tVar 0) (tCons (tLst (tCons (tC (.int 2)) (tCons (tC (.int 5)) (tCons (tC (.int 50)) tNil)))) tNil))) (tCons (tCall (sp__law_pick K) [] E0 (tCons (tVar 0) (tCons (tLst (tCons (tC (.int 2)) (tCons (tC (.int 10)) (tCons (tC (.int 101)) tNil)))) tNil))) tNil))) (gTup K 2 (gCons (gName 5) (gCons (gName 6) gNil))))
  (tSeq (tAsg (tLc (iList K (tVar 3)) (gName 8) tYes (tOp rAddI (tC (.int 1)) (tCall (sp__law_take K) [] E0 (tCons (tVar 0) (tCons (tVar 5) tNil)))) [8]) (gName 7))
  (tSeq (tAsg (tLc (iList K (tVar 3)) (gName 8) tYes (tCall (sp__law_take K) [] E0 (tCons (tVar 0) (tCons (tVar 6) tNil))) [8]) (gName 9))
  (tSeq (tAsg (tOp rAddI (tCall (sp__law_peak K) [] E0 (tCons (tVar 3) (tCons (tVar 7) (tCons (tVar 9) (tCons (tVar 2) tNil))))) (tCall (sp__law_pick K) [] E0 (tCons (tVar 0) (tCons (tLst (tCons (tC (.int 0)) (tCons (tC (.int 0)) (tCons (tUn rNeg (tC (.int 1))) (tCons (tC (.int 1)) (tCons (tOp rSubI (tCall (sp__law_take K) [] E0 (tCons (tVar 0) (tCons (tC (.int 30)) tNil))) (tC (.int 15))) tNil)))))) tNil)))) (gName 10))
  (tRet (tTup (tCons (tC (.str "works")) (tCons (tThen (tVar 3) (kTup K)) (tCons (tThen (tVar 7) (kTup K)) (tCons (tThen (tVar 9) (kTup K)) (tCons (tCB rMax2 (tCons (tC (.int 0)) (tCons (tCB rMin2 (tCons (tC (.int 1200)) (tCons (tVar 10) tNil))) tNil))) tNil))))))))))))
theorem len__law_around {K : PySem.W.Frag} : ∀ (vs : List V) (H : Hp) (Q : VK) (E : XK), sp__law_around K vs H Q E → vs.length = 4 := fun vs H Q E h => by
  obtain ⟨_, _, _, _, rfl, _⟩ := h
  rfl
theorem put_keys {kvs : List (Key × V)} {ks : List Int} {k : Int} {v : V} (h : kvs.map (·.1) = ks.map Sum.inl) : ∃ ks' : List Int, (putK kvs (Sum.inl k) v).map (·.1) = ks'.map Sum.inl ∧ ks.length ≤ ks'.length ∧ ks'.length ≤ ks.length + 1 := by
  unfold putK
  split
  · refine ⟨ks, ?_, Nat.le_refl _, by omega⟩
    rw [← h, List.map_map]
    refine List.map_congr_left fun q _ => ?_
    show (if q.1 = Sum.inl k then (q.1, v) else q).1 = q.1
    split <;> rfl
  · refine ⟨ks ++ [k], ?_, by rw [List.length_append]; omega, by rw [List.length_append]; exact Nat.le_refl _⟩
    rw [List.map_append, List.map_append, h]
    rfl
theorem pure__law_around {K : PySem.W.Frag} (vs : List V) (H : Hp) (Q : VK) (E : XK) (h : sp__law_around K vs H Q E) : t__law_around K { nx := fun _ H' => Q .non H', rt := Q } (start ["state", "value", "size", "many", "some", "v", "found"] vs) H := by
  obtain ⟨st, a, m, n, rfl, cs, ok, hm0, hm, hn, q⟩ := h
  show t__law_around K _ [some (.ref st), some (.int a), some (.int (m : Nat)), some (.int (n : Nat)), none, none, none] H
  unfold t__law_around
  walk_at "aw"
  refine w_rg (by omega) rfl fun l0 H1 nl0 a1 e1 => ?_
  have g1 := Go.of ok a1
  walk_at "aw"
  refine ⟨st, _, rfl, cs, g1.ok, by omega, by omega, fun x H2 _ _ g2 => ?_⟩
  have g2' := g1.trans g2
  walk_at "aw"
  refine w_lstD (by simp) fun l3 H3 nl3 a3 e3 => ?_
  have el0 := a3.keep _ _ (fun z => nomatch z) (g2.keep (ok.ne nl0).1 e1)
  refine w_cat el0 e3 (by rw [List.length_map, List.length_range]; simp; omega) fun l4 H4 nl4 a4 e4 => ?_
  have g4 := (g2'.new a3).new a4
  have nl4st := ((g2'.new a3).ok.ne nl4).1
  generalize hxs : ((List.range n).map fun k => V.int (k : Nat)) ++ [V.int (-1), V.int (n : Nat), V.int (x - 200)] = xs at e4
  have hxi : ∀ {i : Nat} {v : V}, xs[i]? = some v → ∃ z : Int, v = .int z := fun {i v} h => by
    have hv := List.mem_of_getElem? h
    rw [← hxs] at hv
    rcases List.mem_append.mp hv with h | h
    · obtain ⟨k, _, rfl⟩ := List.mem_map.mp h
      exact ⟨_, rfl⟩
    · simp only [List.mem_cons, List.not_mem_nil, or_false] at h
      rcases h with h | h | h
      · exact ⟨_, h⟩
      · exact ⟨_, h⟩
      · exact ⟨_, h⟩
  have hxl : xs.length = n + 3 := by rw [← hxs, List.length_append, List.length_map, List.length_range]; rfl
  refine kLcL_some (SqL.of e4) nl4st (by omega) g4.ok (fun _ v _ => ∃ z : Int, v = .int z) (fun _ => True) (fun _ _ _ _ _ h => h) (fun k y H5 Kt Kf hk g5 kt kf => ?_) fun so H5 ks ys nso g5 eso hks hpw hkl _ hR => ?_
  · obtain ⟨z, rfl⟩ := hxi hk
    walk_at "aw"
    refine ⟨rfl, ?_⟩
    walk_at "aw"
    refine w_iteNB (fun _ => ?_) fun _ => ?_
    · walk_at "aw"
      exact kt _ _ (.refl g5.ok) ⟨_, rfl⟩
    · exact kf _ (.refl g5.ok) trivial
  have g5' := g4.trans g5
  have hysl : ys.length ≤ n + 3 := by
    have hns : ks.Nodup := hpw.imp fun h => Nat.ne_of_lt h
    have := nodup_short xs.length ks hns hkl
    omega
  have hysi : ∀ v ∈ ys, ∃ z : Int, v = .int z := fun v hv => by
    obtain ⟨i, hi, rfl⟩ := List.mem_iff_getElem.mp hv
    obtain ⟨k, hk⟩ := get_some (xs := ks) (i := i) (by omega)
    exact hR i k _ hk (List.getElem?_eq_getElem hi)
  have nsost := (g4.ok.ne nso).1
  walk_at "aw"
  refine w_disp1 rfl fun d H6 nd a6 e6 => ?_
  have g6 := g5'.new a6
  have nd0 : H d = none := g5'.free ok nd
  walk_at "aw"
  refine ⟨st, so, rfl, cs, ys, g6.ok, SqL.of (a6.keep _ _ (fun z => nomatch z) eso), nsost, by omega, fun o zs H7 hperm no g7 eo => ?_⟩
  walk_at "aw"
  refine w_slL (SqL.of eo) fun r H8 nr a8 e8 => ?_
  rw [cut_to _ (by omega)] at e8
  have g8 := (g6.trans g7).new a8
  have ed8 := a8.keep _ _ (fun z => nomatch z) (g7.keep (ok.ne nd0).1 e6)
  have hrd : r ≠ d := (ne_of_none (g7.keep (ok.ne nd0).1 e6) nr).symm
  have hzi : ∀ {i : Nat} {v : V}, (zs.take ((m : Int) - 1).toNat)[i]? = some v → ∃ z : Int, v = .int z := fun {i v} h =>
    hysi v (hperm.mem_iff.mp (List.mem_of_mem_take (List.mem_of_getElem? h)))
  refine kForL_i (xs := zs.take ((m : Int) - 1).toNat) (fun i σ H' => ∃ y5 kvs ks, σ = [some (.ref st), some (.int a), some (.int (m : Nat)), some (.int (n : Nat)), some (.ref so), y5, some (.ref d)] ∧ Go st cs H H' ∧ H' d = some (.dK kvs) ∧ kvs.map (·.1) = (ks : List Int).map Sum.inl ∧ 0 < ks.length ∧ ks.length ≤ i + 1 ∧ H' r = some (.lst (zs.take ((m : Int) - 1).toNat))) (SqL.of e8)
    ⟨_, _, [a], rfl, g8, ed8, rfl, by simp, by simp, e8⟩ (fun i σ H' hi pp => ?_) (fun i v σ H' hv pp => ?_) fun σ H' pp => ?_
  · obtain ⟨_, _, _, _, _, _, _, _, _, er⟩ := pp
    exact SqL.of er
  · obtain ⟨y5, kvs, ks, rfl, g, ed, hk, h0, hl, er⟩ := pp
    obtain ⟨z, rfl⟩ := hzi hv
    have hi : i < (zs.take ((m : Int) - 1).toNat).length := (List.getElem?_eq_some_iff.mp hv).1
    rw [List.length_take] at hi
    have hkl : kvs.length = ks.length := by
      have := congrArg List.length hk
      rw [List.length_map, List.length_map] at this
      exact this
    obtain ⟨ks', h1, h2, h3⟩ := put_keys (k := z) (v := .bl true) hk
    walk_at "aw"
    refine kDPut_i (k := Sum.inl z) ed (by omega) ?_
    exact ⟨_, _, ks', rfl, g.mutD ok nd0 ed, upd_same, h1, by omega, by omega, by rw [upd_ne hrd]; exact er⟩
  · obtain ⟨y5, kvs, ks, rfl, g, ed, hk, h0, hl, er⟩ := pp
    rw [List.length_take] at hl
    walk_at "aw"
    refine ⟨d, kvs, ks, rfl, .of ed, hk, by omega, fun ws p hp _ np => ?_⟩
    refine w_tupL SqL.upd fun t H9 nt a9 e9 => ?_
    refine q _ ws H9 ((g.new (Adv.new np)).new a9) (.tup e9 (IsAll.ints _)) (by rw [hp.length_eq]; exact h0) (by rw [hp.length_eq]; omega)
theorem len__law_works {K : PySem.W.Frag} : ∀ (vs : List V) (H : Hp) (Q : VK) (E : XK), sp__law_works K vs H Q E → vs.length = 3 := fun vs H Q E h => by
  obtain ⟨_, _, _, rfl, _⟩ := h
  rfl
theorem strs_of : ∀ {ys : List V}, (∀ (i : Nat) v, ys[i]? = some v → ∃ n : Str, v = .str n) → ∃ ps : List Str, ys = ps.map V.str
  | [], _ => ⟨[], rfl⟩
  | y :: ys, h => by
    obtain ⟨n, rfl⟩ := h 0 y rfl
    obtain ⟨ps, rfl⟩ := strs_of (ys := ys) fun i v e => h (i + 1) v (by simpa using e)
    exact ⟨n :: ps, rfl⟩
theorem pure__law_works {K : PySem.W.Frag} (vs : List V) (H : Hp) (Q : VK) (E : XK) (h : sp__law_works K vs H Q E) : t__law_works K { nx := fun _ H' => Q .non H', rt := Q } (start ["state", "doms", "at", "xs", "pair", "long", "much", "lengths", "name", "needs", "room"] vs) H := by
  obtain ⟨st, p, d, rfl, cs, doms, w, ok, np, ⟨xs, hp, tp⟩, hd, hdl, q⟩ := h
  have hxl : xs.length = doms.length := by rw [tp.length, List.length_map]
  show t__law_works K _ [some (.ref st), some (.ref p), some (.ref d), none, none, none, none, none, none, none, none] H
  unfold t__law_works
  walk_at "aw"
  refine ⟨st, p, rfl, cs, xs, ok, SqL.of hp, np, by omega, fun o zs H1 hperm no g1 eo => ?_⟩
  obtain ⟨ds, hds, tz⟩ := tp.shuf hperm.symm
  have nost := (ok.ne no).1
  walk_at "aw"
  refine ⟨st, _, rfl, cs, g1.ok, by omega, by omega, fun x1 H2 hx1 hx1' g2 => ?_⟩
  walk_at "aw"
  refine ⟨st, _, rfl, cs, g2.ok, by omega, by omega, fun x2 H3 hx2 hx2' g3 => ?_⟩
  walk_at "aw"
  refine w_lstD (by simp) fun l4 H4 nl4 a4 e4 => ?_
  have g14 := (g2.trans g3).new a4
  walk_at "aw"
  refine ⟨st, l4, rfl, cs, [1 + x1, 1 + x2, 12].map V.int, g14.ok, .inl ⟨SqL.of e4, ((g2.trans g3).ok.ne nl4).1⟩, by simp, by simp, fun i x H5 hx g5 => ?_⟩
  obtain ⟨c, rfl, hc⟩ := int_mem hx
  have hc1 : 0 ≤ c := by
    simp only [List.mem_cons, List.not_mem_nil, or_false] at hc
    omega
  have g15 := g14.trans g5
  have g5' := g1.trans g15
  walk_at "aw"
  refine w_slL (SqL.of (g15.keep nost eo)) fun r H6 nr a6 e6 => ?_
  rw [cut_to _ hc1] at e6
  have g6 := g5'.new a6
  have nrst := (g5'.ok.ne nr).1
  have tz6 : IsAll H6 ((ds.take c.toNat).map domD) (zs.take c.toNat) := by
    rw [List.map_take]
    exact (tz.up g6.tk).take _
  have hdsub : ∀ q ∈ ds.take c.toNat, q ∈ doms := fun q hq => hds.mem_iff.mp (List.mem_of_mem_take hq)
  have hdsl : (ds.take c.toNat).length ≤ 100 := by
    rw [List.length_take, hds.length_eq]
    omega
  generalize ds.take c.toNat = es at tz6 hdsub hdsl
  generalize zs.take c.toNat = rs at tz6 e6
  have hrsl : rs.length = es.length := by rw [tz6.length, List.length_map]
  refine kLcL_all (SqL.of e6) nrst (by omega) g6.ok (fun k v _ => ∃ q, es[k]? = some q ∧ v = .str q.1) (fun _ _ _ _ _ h => h) (fun k x H7 Kt hk g7 kt => ?_) fun nm H7 ys nnm g7 enm hyl hyr => ?_
  · obtain ⟨dt, z1, hx⟩ := tz6.get hk
    rw [List.getElem?_map] at z1
    obtain ⟨q', z2, rfl⟩ := Option.map_eq_some_iff.mp z1
    obtain ⟨ia, ib, rfl, ea, _⟩ := is_dom hx
    walk_at "aw"
    refine ⟨rfl, ?_⟩
    walk_at "aw"
    refine w_ixT (SqT.of (g7.tk _ _ ea)) rfl ?_
    exact kt _ _ (.refl g7.ok) ⟨q', z2, rfl⟩
  obtain ⟨names, rfl⟩ := strs_of (ys := ys) fun i v h => by
    obtain ⟨q', _, h2⟩ := hyr i v h
    exact ⟨_, h2⟩
  have hnm : ∀ x ∈ names, x ∈ doms.map (·.1) := fun x hx => by
    obtain ⟨i, hi, rfl⟩ := List.mem_iff_getElem.mp hx
    obtain ⟨q', z1, z2⟩ := hyr i (.str names[i]) (by rw [List.getElem?_map, List.getElem?_eq_getElem hi]; rfl)
    rw [V.str.inj z2]
    exact List.mem_map_of_mem (hdsub q' (List.mem_of_getElem? z1))
  rw [List.length_map, hrsl] at hyl
  have nnmst := (g6.ok.ne nnm).1
  have g7' := g6.trans g7
  walk_at "aw"
  refine w_lstD (by simp) fun l8 H8 nl8 a8 e8 => ?_
  walk_at "aw"
  refine ⟨st, l8, rfl, cs, [2, 5, 50].map V.int, (Go.of g7'.ok a8).ok, .inl ⟨SqL.of e8, (g7'.ok.ne nl8).1⟩, by simp, by simp, fun i x H9 hx g9 => ?_⟩
  obtain ⟨lo, rfl, hlo⟩ := int_mem hx
  walk_at "aw"
  refine w_lstD (by simp) fun l10 H10 nl10 a10 e10 => ?_
  walk_at "aw"
  refine ⟨st, l10, rfl, cs, [2, 10, 101].map V.int, (Go.of g9.ok a10).ok, .inl ⟨SqL.of e10, (g9.ok.ne nl10).1⟩, by simp, by simp, fun i x H11 hx g11 => ?_⟩
  obtain ⟨mu, rfl, hmu⟩ := int_mem hx
  walk_at "aw"
  refine w_tupD (by simp) fun tt Ht _ at_ et => ?_
  refine w_gtup (SqT.of et) rfl ?_
  have hlo1 : 0 < lo ∧ lo < 1000 := by
    simp only [List.mem_cons, List.not_mem_nil, or_false] at hlo
    omega
  have hmu1 : 0 < mu ∧ mu < 1000 := by
    simp only [List.mem_cons, List.not_mem_nil, or_false] at hmu
    omega
  have g711 := ((((Go.of g7'.ok a8).trans g9).new a10).trans g11).new at_
  have g11' := g7'.trans g711
  have enm11 := g711.keep nnmst enm
  walk_at "aw"
  refine kLcL_all (SqL.of enm11) nnmst (by rw [List.length_map]; omega) g11'.ok (fun _ v _ => ∃ z : Int, v = .int z) (fun _ _ _ _ _ h => h) (fun k x H12 Kt hk g12 kt => ?_) fun ln H12 ls nln g12 eln hll hlr => ?_
  · walk_at "aw"
    refine ⟨rfl, ?_⟩
    walk_at "aw"
    refine ⟨st, _, rfl, cs, g12.ok, by omega, by omega, fun z H13 _ _ g13 => ?_⟩
    walk_at "aw"
    exact kt _ _ g13 ⟨_, rfl⟩
  obtain ⟨lens, rfl⟩ := ints_of hlr
  have nlnst := (g11'.ok.ne nln).1
  have g12' := g11'.trans g12
  have enm12 := g12.keep nnmst enm11
  walk_at "aw"
  refine kLcL_all (SqL.of enm12) nnmst (by rw [List.length_map]; omega) g12'.ok (fun _ v _ => ∃ z : Int, v = .int z) (fun _ _ _ _ _ h => h) (fun k x H13 Kt hk g13 kt => ?_) fun nd H13 ns nnd g13 end_ hnl hnr => ?_
  · walk_at "aw"
    refine ⟨rfl, ?_⟩
    walk_at "aw"
    refine ⟨st, _, rfl, cs, g13.ok, by omega, by omega, fun z H14 _ _ g14 => ?_⟩
    exact kt _ _ g14 ⟨_, rfl⟩
  obtain ⟨nds, rfl⟩ := ints_of hnr
  have nndst := (g12'.ok.ne nnd).1
  have g13' := g12'.trans g13
  have enm13 := g13.keep nnmst enm12
  have eln13 := g13.keep nlnst eln
  rw [List.length_map, List.length_map] at hll hnl
  walk_at "aw"
  refine ⟨nm, ln, nd, d, rfl, names, lens, nds, doms.map (·.1), w, .inl (SqL.of enm13), .inl (SqL.of eln13), .inl (SqL.of end_), hd.go ok g13', hnm, hll, hnl, by omega, fun H14 a14 => ?_⟩
  have g14' := g13'.new a14
  walk_at "aw"
  refine ⟨st, _, rfl, cs, g14'.ok, by omega, by omega, fun x3 H15 _ _ g15' => ?_⟩
  walk_at "aw"
  refine w_lstD (by simp) fun l16 H16 nl16 a16 e16 => ?_
  walk_at "aw"
  refine ⟨st, l16, rfl, cs, [0, 0, -1, 1, x3 - 15].map V.int, (Go.of g15'.ok a16).ok, .inl ⟨SqL.of e16, (g15'.ok.ne nl16).1⟩, by simp, by simp, fun i x H17 hx g17 => ?_⟩
  obtain ⟨ad, rfl, _⟩ := int_mem hx
  have g1317 := (((Go.of g13'.ok a14).trans g15').new a16).trans g17
  have g17' := g13'.trans g1317
  have hok : ∀ z : Int, (Say.works names lens nds (if (if z < 1200 then z else 1200) > 0 then (if z < 1200 then z else 1200) else 0)).ok := fun z => ⟨hll, hnl, by split <;> omega, by omega⟩
  walk_at "aw"
  refine w_tupL (SqL.of (g1317.keep nnmst enm13)) fun t1 H18 _ a18 e18 => ?_
  walk_at "aw"
  refine w_tupL (SqL.of (a18.keep _ _ (fun z => nomatch z) (g1317.keep nlnst eln13))) fun t2 H19 _ a19 e19 => ?_
  walk_at "aw"
  refine w_tupL (SqL.of (a19.keep _ _ (fun z => nomatch z) (a18.keep _ _ (fun z => nomatch z) (g1317.keep nndst end_)))) fun t3 H20 _ a20 e20 => ?_
  walk_at "aw"
  refine w_tupD (by simp) fun t4 H21 _ a21 e21 => ?_
  have u20 := a21.tup
  have u19 : TK H19 H21 := TK.trans a20.tup u20
  have u18 : TK H18 H21 := TK.trans a19.tup u19
  exact q _ (.works names lens nds _) H21 ((((g17'.new a18).new a19).new a20).new a21) (.tup e21 (.cons (.str _) (.cons (.tup (u18 _ _ e18) (IsAll.strs _)) (.cons (.tup (u19 _ _ e19) (IsAll.ints _)) (.cons (.tup (u20 _ _ e20) (IsAll.ints _)) (.cons (.int _) .nil)))))) (hok _) hnm
end AW
namespace AW
open PySem PySem.Spec PyProof.Rows L2 RZ
local macro_rules | `(tactic| walk_at "aw1") => `(tactic| first
  | (with_reducible refine w_seq ?_) | (with_reducible refine w_asg ?_) | (with_reducible refine w_gname ?_) | (with_reducible refine w_op ?_) | (with_reducible refine w_un ?_)
  | ((with_reducible refine' w_var ?h ?_); (case h => rfl)) | (with_reducible refine w_c ?_)
  | (with_reducible refine w_I0 ?_) | (with_reducible refine w_U ?_) | (with_reducible refine w_cb ?_) | (with_reducible refine w_nil ?_) | (with_reducible refine w_cons ?_) | (with_reducible refine w_call ?_)
  | (with_reducible refine w_test ?_) | (with_reducible refine w_B ?_) | (with_reducible refine w_bl ?_) | (with_reducible refine w_not ?_) | (with_reducible refine w_yes ?_) | (with_reducible refine iteT ?_) | (with_reducible refine iteF ?_) | (with_reducible refine w_and ?_) | (with_reducible refine w_or ?_)
  | (with_reducible refine w_andV ?_) | (with_reducible refine w_orV ?_) | (with_reducible refine w_notV ?_) | (with_reducible refine w_if ?_)
  | (with_reducible refine w_int1 ?_) | (with_reducible refine w_int1b ?_) | (with_reducible refine w_abs ?_) | (with_reducible refine w_max2 ?_) | (with_reducible refine w_min2 ?_)
  | ((with_reducible refine w_eq ?h ?_); (case h => rfl)) | ((with_reducible refine w_ne ?h ?_); (case h => rfl)) | (with_reducible refine w_isN ?_) | (with_reducible refine w_isB ?_) | (with_reducible refine w_chain ?_)
  | (with_reducible refine w_ret ?_) | (with_reducible refine w_drop ?_) | (with_reducible refine w_ifS ?_) | (with_reducible refine w_gsub ?_) | (with_reducible refine w_augS ?_) | (with_reducible refine w_ipI ?_) | (with_reducible refine w_next ?_)
  | (with_reducible refine w_forR ?_) | (with_reducible refine w_forR2 ?_) | (with_reducible refine w_forL ?_) | (with_reducible refine w_forT ?_) | (with_reducible refine w_lcR ?_) | (with_reducible refine w_lcL ?_) | (with_reducible refine w_lcT ?_) | (with_reducible refine w_sl ?_) | (with_reducible refine w_part ?_) | (with_reducible refine w_noPart ?_) | (with_reducible refine w_in ?_)
  | (with_reducible refine w_gcons ?_) | (with_reducible refine w_gnil ?_) | (with_reducible refine w_lc3 ?_) | (with_reducible refine w_dcZ ?_) | (with_reducible refine w_dcT ?_) | (with_reducible refine w_dg ?_) | (with_reducible refine w_callK ?_) | (with_reducible refine w_dput ?_) | (with_reducible refine w_tup1 ?_)
  | (with_reducible refine w_tup ?_) | (with_reducible refine w_lst ?_)
  | ((with_reducible refine w_I ?h ?_); (case h => first | (exact Or.inr ⟨by decide, by decide⟩) | (exact Or.inl ⟨by decide, by decide⟩) | (show (0 : Int) < _; decide) | (exact ⟨by decide, by decide, by decide⟩) | assumption)))
local macro_rules | `(tactic| walk_at "aw") => `(tactic| repeat (walk_at "aw1"))
def SG : Str := "abcdefghijklmnopqrstuvwxyz0123456789."
def SGl : List Nat := SG.cps.toList
theorem SG_len : SGl.length = 37 := by decide +kernel
theorem SG_nd : SGl.Nodup := by decide +kernel
theorem SG_ok : ∀ c ∈ SGl, c < 0x110000 := by decide +kernel
theorem SG_size : SG.length ≤ sizeLine := by decide +kernel
theorem w_sign {i : Int} {H : Hp} {Q : VK} (h0 : 0 ≤ i) (h1 : i < 37) (q : ∀ c, SGl[i.toNat]? = some c → Q (.str ⟨#[c]⟩) H) : rIxS (.str SG) (.int i) H Q := by
  obtain ⟨c, hc⟩ := get_some (xs := SGl) (i := i.toNat) (by rw [SG_len]; omega)
  refine ⟨SG, i, c, rfl, rfl, SG_size, ?_, q c hc⟩
  have e : SG.cps.toList.length = 37 := SG_len
  unfold atI ixN
  rw [e, if_pos h0, if_pos (show i < ((37 : Nat) : Int) from h1), Option.bind_some]
  exact hc
theorem w_addS {x y : Str} {H : Hp} {Q : VK} (h : x.length + y.length ≤ 100000) (q : Q (.str (x ++ y)) H) : rAddS (.str x) (.str y) H Q := ⟨x, y, rfl, rfl, Nat.le_trans h (by decide), q⟩
theorem w_slS {x : Str} {lo hi : Option Int} {H : Hp} {Q : VK} (h : x.length ≤ 100000) (q : Q (.str (cutS x lo hi)) H) : rSlS (.str x) lo hi H Q := ⟨x, rfl, Nat.le_trans h (by decide), q⟩
theorem w_str {i : Int} {H : Hp} {Q : VK} (h : i.natAbs < 1000) (q : Q (.str (Str.ofString (toString i))) H) : rStr1 [.int i] H Q := ⟨i, rfl, by have := Nat.log2_le_self i.natAbs; omega, q⟩
theorem okS_app {x y : Str} (h1 : okS x) (h2 : okS y) : okS (x ++ y) := by
  unfold okS at *
  show ((x.cps ++ y.cps).all _) = true
  rw [Array.all_append, h1, h2]
  rfl
theorem okS_iff {x : Str} : okS x ↔ ∀ c ∈ x.cps.toList, c < 0x110000 := by
  unfold okS
  rw [← Array.all_toList, List.all_eq_true]
  simp
theorem okS_cut {x : Str} {lo hi : Option Int} (h : okS x) : okS (cutS x lo hi) := by
  rw [okS_iff] at h ⊢
  intro c hc
  exact h c (List.mem_of_mem_drop (List.mem_of_mem_take hc))
theorem okS_one {c : Nat} (h : c < 0x110000) : okS ⟨#[c]⟩ := by
  rw [okS_iff]
  intro d hd
  rw [List.mem_singleton.mp hd]
  exact h
theorem len_app {x y : Str} : (x ++ y).length = x.length + y.length := Array.size_append
theorem len_one {c : Nat} : (⟨#[c]⟩ : Str).length = 1 := rfl
theorem lst_app {x y : Str} : (x ++ y).cps.toList = x.cps.toList ++ y.cps.toList := Array.toList_append
theorem lst_one {c : Nat} : (⟨#[c]⟩ : Str).cps.toList = [c] := rfl
theorem join_ok : ∀ ws : List Str, (∀ x ∈ ws, okS x ∧ x.length = 1) → okS (Str.join "" ws) ∧ (Str.join "" ws).length ≤ ws.length
  | [], _ => ⟨by unfold okS; decide +kernel, Nat.le_refl _⟩
  | [x], h => ⟨(h x (List.mem_singleton.mpr rfl)).1, by rw [show Str.join "" [x] = x from rfl, (h x (List.mem_singleton.mpr rfl)).2]; exact Nat.le_refl _⟩
  | x :: y :: ws, h => by
    obtain ⟨h1, h2⟩ := join_ok (y :: ws) fun z hz => h z (List.mem_cons_of_mem _ hz)
    have hx := h x (List.mem_cons_self ..)
    have e : Str.join "" (x :: y :: ws) = x ++ "" ++ Str.join "" (y :: ws) := rfl
    rw [e]
    refine ⟨okS_app (okS_app hx.1 (by unfold okS; decide +kernel)) h1, ?_⟩
    rw [len_app, len_app, hx.2, show (Str.ofString "").length = 0 from by decide +kernel, List.length_cons]
    omega
def SK (k : Int) : Str := Str.ofString (toString k)
def tail2 (k : Nat) : List Nat := (Str.ofString ".").cps.toList ++ ((SK ((k : Int) / 3)).cps.toList ++ ((Str.ofString ".").cps.toList ++ (SK ((k : Int) % 3)).cps.toList))
theorem tail2_inj : ∀ k < 37, ∀ j < 37, tail2 k = tail2 j → k = j := by decide +kernel
theorem SK_ok : ∀ k < 37, okS (SK (k : Nat)) ∧ okS (SK (((k : Nat) : Int) / 3)) ∧ okS (SK (((k : Nat) : Int) % 3)) := by unfold okS; decide +kernel
theorem SK_len : ∀ k < 37, (SK (k : Nat)).length ≤ 2 ∧ (SK (((k : Nat) : Int) / 3)).length ≤ 2 ∧ (SK (((k : Nat) : Int) % 3)).length ≤ 2 := by decide +kernel
theorem mul37 : ∀ t < 37, ∀ d < 37, 0 < t → (t * d) % 37 = 0 → d = 0 := by decide +kernel
theorem step37' {s t : Int} {k j : Nat} (ht : 0 < t ∧ t < 37) (hk : k < 37) (hkj : j ≤ k) (h : (s + t * (k : Nat)) % 37 = (s + t * (j : Nat)) % 37) : k = j := by
  have h1 := Int.emod_eq_emod_iff_emod_sub_eq_zero.mp h
  obtain ⟨d, rfl⟩ := Nat.exists_eq_add_of_le hkj
  obtain ⟨u, rfl⟩ := Int.eq_ofNat_of_zero_le (show 0 ≤ t by omega)
  have h2 : s + (u : Int) * ((j + d : Nat) : Int) - (s + (u : Int) * (j : Nat)) = ((u * d : Nat) : Int) := by
    rw [Int.natCast_add, Int.mul_add, Int.natCast_mul]
    omega
  rw [h2] at h1
  have := mul37 u (by omega) d (by omega) (by omega) (by omega)
  omega
theorem step37 {s t : Int} {k j : Nat} (ht : 0 < t ∧ t < 37) (hk : k < 37) (hj : j < 37) (h : (s + t * (k : Nat)) % 37 = (s + t * (j : Nat)) % 37) : k = j := by
  rcases Nat.le_total j k with h1 | h1
  · exact step37' ht hk h1 h
  · exact (step37' ht hj h1 h.symm).symm
/-- what the k-th name is -/
structure PN (style start step : Int) (A A2 : List Nat) (k : Nat) (nm : Str) : Prop where
  ok : okS nm
  p1 : style ≠ 2 → ∃ c B, SGl[((start + step * (k : Nat)) % 37).toNat]? = some c ∧ nm.cps.toList = A ++ c :: B
  p2 : style = 2 → nm.cps.toList = A2 ++ tail2 k
theorem PN.inj {style start step : Int} {A A2 : List Nat} {k j : Nat} {nm : Str} (ht : 0 < step ∧ step < 37) (hk : k < 37) (hj : j < 37) (a : PN style start step A A2 k nm) (b : PN style start step A A2 j nm) : k = j := by
  by_cases h : style = 2
  · have e := (a.p2 h).symm.trans (b.p2 h)
    exact tail2_inj k hk j hj (List.append_cancel_left e)
  · obtain ⟨c, B, h1, h2⟩ := a.p1 h
    obtain ⟨c', B', h3, h4⟩ := b.p1 h
    have e := List.append_cancel_left (h2.symm.trans h4)
    have e1 : c = c' := (List.cons.inj e).1
    subst e1
    have := nodup_inj SG_nd h1 h3
    refine step37 (s := start) ht hk hj ?_
    have q1 := Int.emod_nonneg (start + step * (k : Nat)) (show (37 : Int) ≠ 0 by decide)
    have q2 := Int.emod_nonneg (start + step * (j : Nat)) (show (37 : Int) ≠ 0 by decide)
    omega
def sp__law_names (_ : PySem.W.Frag) : Sp := fun vs H Q _ => ∃ (st : Addr) (n : Nat), vs = [.ref st, .int (n : Nat)] ∧ ∃ cs, StOk st cs H ∧ n ≤ 37 ∧ ∀ r (names : List Str) H', Go st cs H H' → H r = none → H' r = some (.lst (names.map V.str)) → names.length = n → names.Nodup → (∀ x ∈ names, okS x) → Q (.ref r) H'
def t__law_names (K : PySem.W.Frag) : TS := (tSeq (tAsg (tC (.str "abcdefghijklmnopqrstuvwxyz0123456789.")) (gName 2))
  (tSeq (tAsg (tCall (sp__law_take K) [] E0 (tCons (tVar 0) (tCons (tC (.int 4)) tNil))) (gName 3))
  (tSeq (tPar 4 5 (tCons (tCall (sp__law_take K) [] E0 (tCons (tVar 0) (tCons (tC (.int 37)) tNil))) (tCons (tOp rAddI (tC (.int 1)) (tCall (sp__law_take K) [] E0 (tCons (tVar 0) (tCons (tC (.int 36)) tNil)))) tNil)))
  (tSeq (tAsg (tM1 (rJoin K) (tC (.str "")) (tLc (iRng1 (tCons (tC (.int 24)) tNil)) (gName 7) tYes (tOp rIxS (tVar 2) (tCall (sp__law_take K) [] E0 (tCons (tVar 0) (tCons (tC (.int 37)) tNil)))) [7])) (gName 6))
  (tSeq (tPar 8 9 (tCons (tCall (sp__law_take K) [] E0 (tCons (tVar 0) (tCons (tC (.int 12)) tNil))) (tCons (tOp rAddI (tC (.int 12)) (tCall (sp__law_take K) [] E0 (tCons (tVar 0) (tCons (tC (.int 12)) tNil)))) tNil)))
  (tSeq (tAsg (tLst tNil) (gName 10))
  (tSeq (tFor (iRng1 (tCons (tVar 1) tNil)) (gName 7)
  (tSeq (tAsg (tOp rIxS (tVar 2) (tOp rModI (tCB rInt1 (tCons (tOp rAddI (tVar 4) (tOp rMulI (tVar 5) (tVar 7))) tNil)) (tC (.int 37)))) (gName 11))
  (tSeq (tAsg (tOp rAddS (tOp rAddS (tOp rAddS (tOp rAddS (tSl rSlS (tVar 6) tNoPart (tPart (tVar 8))) (tVar 11)) (tSl rSlS (tVar 6) (tPart (tOp rAddI (tVar 8) (tC (.int 1)))) (tPart (tVar 9)))) (tOp rIxS (tVar 2) (tOp rDivI (tVar 7) (tC (.int 37))))) (tSl rSlS (tVar 6) (tPart (tOp rAddI (tVar 9) (tC (.int 1)))) tNoPart)) (gName 12))
  (tSeq (tIfS (tTest (tOp rEq (tVar 3) (tC (.int 0)))) (tAsg (tOp rAddS (tVar 11) (tOp rRepS (tOp rIxS (tVar 2) (tOp rDivI (tVar 7) (tC (.int 37)))) (tCB rInt1 (tCons (tOp rGtI (tVar 1) (tC (.int 37))) tNil)))) (gName 12)) (tIfS (tTest (tOp rEq (tVar 3) (tC (.int 1)))) (tAsg (tOp rAddS (tOp rAddS (tSl rSlS (tVar 6) tNoPart (tPart (tVar 8))) (tVar 11)) (tCB rStr1 (tCons (tVar 7) tNil))) (gName 12)) (tIfS (tTest (tOp rEq (tVar 3) (tC (.int 2)))) (tAsg (tOp rAddS (tOp rAddS (tOp rAddS (tOp rAddS (tSl rSlS (tVar 6) tNoPart (tPart (tOp rAddI (tC (.int 1)) (tOp rDivI (tVar 8) (tC (.int 4)))))) (tC (.str "."))) (tCB rStr1 (tCons (tOp rDivI (tVar 7) (tC (.int 3))) tNil))) (tC (.str "."))) (tCB rStr1 (tCons (tOp rModI (tCB rInt1 (tCons (tVar 7) tNil)) (tC (.int 3))) tNil))) (gName 12)) tNext)))
  (tDrop (tBM K "list" rAppend (tVar 10) (tCons (tVar 12) tNil)))))))
  (tRet (tCall (sp__law_shuffled K) [] E0 (tCons (tVar 0) (tCons (tVar 10) tNil)))))))))))
theorem len__law_names {K : PySem.W.Frag} : ∀ (vs : List V) (H : Hp) (Q : VK) (E : XK), sp__law_names K vs H Q E → vs.length = 2 := fun vs H Q E h => by
  obtain ⟨_, _, rfl, _⟩ := h
  rfl
theorem w_m1 {r : V → List V → Hp → VK → Prop} {to te : TE} {σ : L2.St} {H : Hp} {Q : VK} (h : to σ H fun x H1 => (∃ a, x = .str a) ∧ te σ H1 fun y H2 => r x [y] H2 Q) : tM1 r to te σ H Q := h
theorem w_join {c : Bool} {ta tb : TE} {σ : L2.St} {H : Hp} {Q : VK} (R : V → Hp → Prop) (h1 : ∀ Q' : VK, c = true → (∀ v H', R v H' → Q' v H') → ta σ H Q') (h2 : ∀ Q' : VK, c = false → (∀ v H', R v H' → Q' v H') → tb σ H Q') (hq : ∀ v H', R v H' → Q v H') : if c = true then ta σ H Q else tb σ H Q := by
  cases c with
  | true => exact iteT (h1 Q rfl hq)
  | false => exact iteF (h2 Q rfl hq)
theorem pure__law_names {K : PySem.W.Frag} (vs : List V) (H : Hp) (Q : VK) (E : XK) (h : sp__law_names K vs H Q E) : t__law_names K { nx := fun _ H' => Q .non H', rt := Q } (start ["state", "many", "signs", "style", "start", "step", "word", "k", "one", "two", "found", "first", "name"] vs) H := by
  obtain ⟨st, n, rfl, cs, ok, hn, q⟩ := h
  show t__law_names K _ [some (.ref st), some (.int (n : Nat)), none, none, none, none, none, none, none, none, none, none, none] H
  unfold t__law_names
  walk_at "aw"
  refine ⟨st, _, rfl, cs, ok, by omega, by omega, fun style H1 hs0 hs4 g1 => ?_⟩
  walk_at "aw"
  refine w_par ?_
  walk_at "aw"
  refine ⟨st, _, rfl, cs, g1.ok, by omega, by omega, fun sta H2 _ _ g2 => ?_⟩
  walk_at "aw"
  refine ⟨st, _, rfl, cs, g2.ok, by omega, by omega, fun ste H3 hst0 hst1 g3 => ?_⟩
  walk_at "aw"
  refine ⟨_, _, rfl, ?_⟩
  have g13 := (g1.trans g2).trans g3
  walk_at "aw"
  refine w_m1 ?_
  walk_at "aw"
  refine ⟨⟨_, rfl⟩, ?_⟩
  walk_at "aw"
  refine kLcR_all (n := 24) (by omega) g13.ok (fun _ v _ => ∃ x : Str, v = .str x ∧ okS x ∧ x.length = 1) (fun _ _ _ _ _ h => h) (fun k H4 Kt hk g4 kt => ?_) fun wl H4 ys nwl g4 ewl hyl hyr => ?_
  · walk_at "aw"
    refine ⟨rfl, ?_⟩
    walk_at "aw"
    refine ⟨st, _, rfl, cs, g4.ok, by omega, by omega, fun m H5 hm0 hm1 g5 => ?_⟩
    refine w_sign hm0 hm1 fun c hc => ?_
    exact kt _ _ g5 ⟨_, rfl, okS_one (SG_ok c (List.mem_of_getElem? hc)), rfl⟩
  obtain ⟨ws, rfl⟩ := strs_of (ys := ys) fun i v h => by
    obtain ⟨x, rfl, _⟩ := hyr i v h
    exact ⟨x, rfl⟩
  have hws : ∀ x ∈ ws, okS x ∧ x.length = 1 := fun x hx => by
    obtain ⟨i, hi, rfl⟩ := List.mem_iff_getElem.mp hx
    obtain ⟨y, e, h⟩ := hyr i (.str ws[i]) (by rw [List.getElem?_map, List.getElem?_eq_getElem hi]; rfl)
    rw [V.str.inj e]
    exact h
  rw [List.length_map] at hyl
  have g4' := g13.trans g4
  obtain ⟨hwok, hwl⟩ := join_ok ws hws
  rw [← TL.join_eq] at hwok hwl
  have hsum : ∀ l : List Str, (∀ x ∈ l, okS x ∧ x.length = 1) → (l.map (·.length)).sum = l.length := fun l => by
    induction l with
    | nil => exact fun _ => rfl
    | cons a l ih =>
      intro h
      rw [List.map_cons, List.sum_cons, ih fun x hx => h x (List.mem_cons_of_mem _ hx), (h a (List.mem_cons_self ..)).2, List.length_cons]
      omega
  refine ⟨Str.ofString "", wl, ws, rfl, rfl, .inl (SqL.of ewl), by rw [hsum ws hws, show (Str.ofString "").length = 0 from by decide +kernel]; omega, ?_⟩
  generalize Txt.join (Str.ofString "") ws = word at hwok hwl
  walk_at "aw"
  refine w_par ?_
  walk_at "aw"
  refine ⟨st, _, rfl, cs, g4'.ok, by omega, by omega, fun one H5 ho0 ho1 g5 => ?_⟩
  walk_at "aw"
  refine ⟨st, _, rfl, cs, g5.ok, by omega, by omega, fun two H6 ht0 ht1 g6 => ?_⟩
  walk_at "aw"
  refine ⟨_, _, rfl, ?_⟩
  walk_at "aw"
  have g46 := (g4'.trans g5).trans g6
  refine w_lstD (by simp) fun f H7 nf a7 e7 => ?_
  have g7 := g46.new a7
  have nf0 : H f = none := g46.free ok nf
  have nfst := (ok.ne nf0).1
  walk_at "aw"
  have hcut : ∀ lo hi, (cutS word lo hi).length ≤ 24 := fun lo hi => by
    have := cutS_length word lo hi
    omega
  have hcok : ∀ {lo hi : Option Int}, okS (cutS word lo hi) := fun {lo hi} => okS_cut hwok
  have hste : (0 : Int) < 1 + ste ∧ 1 + ste < 37 := by omega
  refine kForR_i (n := n) (by omega) (fun i σ H' => ∃ y7 y11 y12 nms, σ = [some (.ref st), some (.int (n : Nat)), some (.str SG), some (.int style), some (.int sta), some (.int (1 + ste)), some (.str word), y7, some (.int one), some (.int (12 + two)), some (.ref f), y11, y12] ∧ Go st cs H H' ∧ H' f = some (.lst ((nms : List Str).map V.str)) ∧ nms.length = i ∧
      ∀ (j : Nat) nm, nms[j]? = some nm → PN style sta (1 + ste) (if style = 0 then [] else (cutS word none (some one)).cps.toList) (cutS word none (some (1 + one / 4))).cps.toList j nm)
    ⟨none, none, none, [], rfl, g7, e7, rfl, fun j nm h => nomatch h⟩ (fun i σ H' hi pp => ?_) fun σ H' pp => ?_
  · obtain ⟨y7, y11, y12, nms, rfl, g, ef, hnl, hpn⟩ := pp
    have hi37 : i < 37 := by omega
    have h1 := hcut none (some one)
    have h2 := hcut (some (one + 1)) (some (12 + two))
    have h3 := hcut (some (12 + two + 1)) none
    have h4 := hcut none (some (1 + one / 4))
    have hdot : (Str.ofString ".").length = 1 := by decide +kernel
    have hdok : okS (Str.ofString ".") := by unfold okS; decide +kernel
    have hsk := SK_len i hi37
    have hskok := SK_ok i hi37
    unfold SK at hsk hskok
    have fin : ∀ {c1 : V} {nm : Str}, PN style sta (1 + ste) (if style = 0 then [] else (cutS word none (some one)).cps.toList) (cutS word none (some (1 + one / 4))).cps.toList i nm →
        ∃ y7 y11 y12 nmz, ([some (.ref st), some (.int (n : Nat)), some (.str SG), some (.int style), some (.int sta), some (.int (1 + ste)), some (.str word), some (.int (i : Nat)), some (.int one), some (.int (12 + two)), some (.ref f), some c1, some (.str nm)] : L2.St) = [some (.ref st), some (.int (n : Nat)), some (.str SG), some (.int style), some (.int sta), some (.int (1 + ste)), some (.str word), y7, some (.int one), some (.int (12 + two)), some (.ref f), y11, y12] ∧
          Go st cs H (upd H' f (.lst (List.map V.str nms ++ [V.str nm]))) ∧ (upd H' f (.lst (List.map V.str nms ++ [V.str nm]))) f = some (.lst ((nmz : List Str).map V.str)) ∧ nmz.length = i + 1 ∧
          ∀ (j : Nat) nm, nmz[j]? = some nm → PN style sta (1 + ste) (if style = 0 then [] else (cutS word none (some one)).cps.toList) (cutS word none (some (1 + one / 4))).cps.toList j nm := fun {c1 nm} hp =>
      ⟨_, _, _, nms ++ [nm], rfl, g.mutL ok nf0 ef, by rw [upd_same, List.map_append]; rfl, by rw [List.length_append, hnl]; rfl, fun j x hx => by
        by_cases hj : j < nms.length
        · rw [List.getElem?_append_left hj] at hx
          exact hpn j x hx
        · rw [List.getElem?_append_right (by omega)] at hx
          have hj0 : j - nms.length = 0 := by
            have := (List.getElem?_eq_some_iff.mp hx).1
            simp at this
            omega
          rw [hj0] at hx
          cases hx
          rw [show j = i by omega]
          exact hp⟩
    walk_at "aw"
    refine w_I (.inl ⟨by omega, by omega⟩) ?_
    walk_at "aw"
    refine w_sign (Int.emod_nonneg _ (by decide)) (Int.emod_lt_of_pos _ (by decide)) fun c hc => ?_
    have hcok1 := okS_one (SG_ok c (List.mem_of_getElem? hc))
    walk_at "aw"
    refine w_slS (by omega) ?_
    walk_at "aw"
    refine w_addS (by rw [len_one]; omega) ?_
    walk_at "aw"
    refine w_slS (by omega) ?_
    refine w_addS (by simp only [len_app, len_one]; omega) ?_
    walk_at "aw"
    refine w_I ⟨by decide, by decide⟩ ?_
    refine w_sign (by omega) (by omega) fun c2 hc2 => ?_
    have hcok2 := okS_one (SG_ok c2 (List.mem_of_getElem? hc2))
    refine w_addS (by simp only [len_app, len_one]; omega) ?_
    walk_at "aw"
    refine w_slS (by omega) ?_
    refine w_addS (by simp only [len_app, len_one]; omega) ?_
    walk_at "aw"
    refine w_iteB (fun hs => ?_) fun hs => ?_
    · have hs := V.int.inj hs
      walk_at "aw"
      refine w_I ⟨by decide, by decide⟩ ?_
      refine w_sign (by omega) (by omega) fun c3 hc3 => ?_
      walk_at "aw"
      rw [decide_eq_false (show ¬ ((37 : Int) < (n : Nat)) by omega)]
      refine ⟨_, _, rfl, rfl, ⟨by decide, fun h => absurd (by decide) h, fun h => absurd (by decide) h⟩, ?_⟩
      rw [show Txt.mul (⟨#[c3]⟩ : Str) (if false = true then 1 else 0) = Str.empty from rfl]
      refine w_addS (by rw [len_one]; exact Nat.le_trans (show 1 + 0 ≤ 100000 by omega) (Nat.le_refl _)) ?_
      walk_at "aw"
      refine w_app rfl ef ?_
      walk_at "aw"
      refine w_append ef (by rw [List.length_map]; omega) ?_
      refine fin ⟨okS_app hcok1 (by unfold okS; decide +kernel), fun _ => ⟨c, [], hc, ?_⟩, fun h => by omega⟩
      rw [if_pos hs, lst_app, lst_one]
      rfl
    · have hs0 : style ≠ 0 := fun z => hs (by rw [z])
      walk_at "aw"
      refine w_iteB (fun hs => ?_) fun hs => ?_
      · have hs := V.int.inj hs
        walk_at "aw"
        refine w_slS (by omega) ?_
        walk_at "aw"
        refine w_addS (by rw [len_one]; omega) ?_
        walk_at "aw"
        refine w_str (by omega) ?_
        refine w_addS (by simp only [len_app, len_one]; omega) ?_
        walk_at "aw"
        refine w_app rfl ef ?_
        walk_at "aw"
        refine w_append ef (by rw [List.length_map]; omega) ?_
        refine fin ⟨okS_app (okS_app hcok hcok1) hskok.1, fun _ => ⟨c, (Str.ofString (toString ((i : Nat) : Int))).cps.toList, hc, ?_⟩, fun h => by omega⟩
        rw [if_neg hs0]
        simp only [lst_app, lst_one, List.append_assoc, List.singleton_append]
      · have hs1 : style ≠ 1 := fun z => hs (by rw [z])
        walk_at "aw"
        refine w_iteB (fun hs => ?_) fun hs => ?_
        · have hs := V.int.inj hs
          walk_at "aw"
          refine w_I ⟨by decide, by decide⟩ ?_
          walk_at "aw"
          refine w_slS (by omega) ?_
          walk_at "aw"
          refine w_addS (by omega) ?_
          walk_at "aw"
          refine w_I ⟨by decide, by decide⟩ ?_
          walk_at "aw"
          refine w_str (by omega) ?_
          refine w_addS (by simp only [len_app]; omega) ?_
          walk_at "aw"
          refine w_addS (by simp only [len_app]; omega) ?_
          walk_at "aw"
          refine w_str (by omega) ?_
          refine w_addS (by simp only [len_app]; omega) ?_
          walk_at "aw"
          refine w_app rfl ef ?_
          walk_at "aw"
          refine w_append ef (by rw [List.length_map]; omega) ?_
          refine fin ⟨okS_app (okS_app (okS_app (okS_app hcok hdok) hskok.2.1) hdok) hskok.2.2, fun h => absurd hs h, fun _ => ?_⟩
          unfold tail2 SK
          simp only [lst_app, List.append_assoc]
        · have hs2 : style ≠ 2 := fun z => hs (by rw [z])
          walk_at "aw"
          refine w_app rfl ef ?_
          walk_at "aw"
          refine w_append ef (by rw [List.length_map]; omega) ?_
          refine fin ⟨okS_app (okS_app (okS_app (okS_app hcok hcok1) hcok) hcok2) hcok, fun _ => ⟨c, (cutS word (some (one + 1)) (some (12 + two))).cps.toList ++ (c2 :: (cutS word (some (12 + two + 1)) none).cps.toList), hc, ?_⟩, fun h => absurd h hs2⟩
          rw [if_neg hs0]
          simp only [lst_app, lst_one, List.append_assoc, List.singleton_append, List.cons_append, List.nil_append]
  · obtain ⟨y7, y11, y12, nms, rfl, g, ef, hnl, hpn⟩ := pp
    have hnd : nms.Nodup := by
      rw [List.Nodup, List.pairwise_iff_getElem]
      intro i j hi hj hij e
      have h1 := hpn i _ (List.getElem?_eq_getElem hi)
      have h2 := hpn j _ (List.getElem?_eq_getElem hj)
      rw [e] at h1
      have := PN.inj hste (by omega) (by omega) h1 h2
      omega
    walk_at "aw"
    refine ⟨st, f, rfl, cs, _, g.ok, SqL.of ef, nfst, by rw [List.length_map]; omega, fun r ys2 H8 hperm nr g8 er => ?_⟩
    obtain ⟨ls, hls, hys⟩ := (IsAll.strs (H := H) nms).shuf hperm.symm
    have e2 := hys.strs_inv
    subst e2
    exact q r ls H8 (g.trans g8) (g.free ok nr) er (by rw [hls.length_eq, hnl]) (hls.nodup_iff.mpr hnd) fun x hx => by
      obtain ⟨j, hj, rfl⟩ := List.mem_iff_getElem.mp (hls.mem_iff.mp hx)
      exact (hpn j _ (List.getElem?_eq_getElem hj)).ok
end AW
namespace AW
open PySem PySem.Spec PyProof.Rows L2 RZ
local macro_rules | `(tactic| walk_at "aw1") => `(tactic| first
  | (with_reducible refine w_seq ?_) | (with_reducible refine w_asg ?_) | (with_reducible refine w_gname ?_) | (with_reducible refine w_op ?_) | (with_reducible refine w_un ?_)
  | ((with_reducible refine' w_var ?h ?_); (case h => rfl)) | (with_reducible refine w_c ?_)
  | (with_reducible refine w_I0 ?_) | (with_reducible refine w_U ?_) | (with_reducible refine w_cb ?_) | (with_reducible refine w_nil ?_) | (with_reducible refine w_cons ?_) | (with_reducible refine w_call ?_)
  | (with_reducible refine w_test ?_) | (with_reducible refine w_B ?_) | (with_reducible refine w_bl ?_) | (with_reducible refine w_not ?_) | (with_reducible refine w_yes ?_) | (with_reducible refine iteT ?_) | (with_reducible refine iteF ?_) | (with_reducible refine w_and ?_) | (with_reducible refine w_or ?_)
  | (with_reducible refine w_andV ?_) | (with_reducible refine w_orV ?_) | (with_reducible refine w_notV ?_) | (with_reducible refine w_if ?_)
  | (with_reducible refine w_int1 ?_) | (with_reducible refine w_int1b ?_) | (with_reducible refine w_abs ?_) | (with_reducible refine w_max2 ?_) | (with_reducible refine w_min2 ?_)
  | ((with_reducible refine w_eq ?h ?_); (case h => rfl)) | ((with_reducible refine w_ne ?h ?_); (case h => rfl)) | (with_reducible refine w_isN ?_) | (with_reducible refine w_isB ?_) | (with_reducible refine w_chain ?_)
  | (with_reducible refine w_ret ?_) | (with_reducible refine w_drop ?_) | (with_reducible refine w_ifS ?_) | (with_reducible refine w_gsub ?_) | (with_reducible refine w_augS ?_) | (with_reducible refine w_ipI ?_) | (with_reducible refine w_next ?_)
  | (with_reducible refine w_forR ?_) | (with_reducible refine w_forR2 ?_) | (with_reducible refine w_forL ?_) | (with_reducible refine w_forT ?_) | (with_reducible refine w_lcR ?_) | (with_reducible refine w_lcL ?_) | (with_reducible refine w_lcT ?_) | (with_reducible refine w_sl ?_) | (with_reducible refine w_part ?_) | (with_reducible refine w_noPart ?_) | (with_reducible refine w_in ?_)
  | (with_reducible refine w_gcons ?_) | (with_reducible refine w_gnil ?_) | (with_reducible refine w_lc3 ?_) | (with_reducible refine w_dcZ ?_) | (with_reducible refine w_dcT ?_) | (with_reducible refine w_dg ?_) | (with_reducible refine w_callK ?_) | (with_reducible refine w_dput ?_) | (with_reducible refine w_tup1 ?_)
  | (with_reducible refine w_tup ?_) | (with_reducible refine w_lst ?_)
  | ((with_reducible refine w_I ?h ?_); (case h => first | (exact Or.inr ⟨by decide, by decide⟩) | (exact Or.inl ⟨by decide, by decide⟩) | (show (0 : Int) < _; decide) | (exact ⟨by decide, by decide, by decide⟩) | assumption)))
local macro_rules | `(tactic| walk_at "aw") => `(tactic| repeat (walk_at "aw1"))
def sp_law (K : PySem.W.Frag) : Sp := fun vs H Q _ => ∃ (a : Addr) (ns : List Int), vs = [.ref a] ∧ SqL K H a (ns.map V.int) ∧ ns.length ≤ 63 ∧ ∀ H', Q (.bl true) H'
/-- a saying that the law may use -/
def InS (names : List Str) (s : Say) : Prop := s.ok ∧ ∀ x ∈ s.names, x ∈ names
theorem wd_any {H : Hp} {names : List Str} {w : Str → Int} {d : Addr} (h : WD H d names w) {ns : List Str} (e : ∀ x ∈ ns, x ∈ names) : WD H d ns w := by
  obtain ⟨kvs, h1, h2⟩ := h
  exact ⟨kvs, h1, fun x hx => h2 x (e x hx)⟩
def t_law (K : PySem.W.Frag) : TS := (tSeq (tAsg (tCall (sp__law_start K) [] E0 (tCons (tVar 0) tNil)) (gName 1))
  (tSeq (tAsg (tOp rEq (tCall (sp__law_take K) [] E0 (tCons (tVar 1) (tCons (tC (.int 8)) tNil))) (tC (.int 0))) (gName 2))
  (tSeq (tAsg (tIf (tB (tVar 2)) (tCall (sp__law_pick K) [] E0 (tCons (tVar 1) (tCons (tLst (tCons (tC (.int 12)) (tCons (tOp rAddI (tC (.int 5)) (tCall (sp__law_take K) [] E0 (tCons (tVar 1) (tCons (tC (.int 8)) tNil)))) tNil))) tNil))) (tOp rAddI (tC (.int 1)) (tCall (sp__law_take K) [] E0 (tCons (tVar 1) (tCons (tC (.int 4)) tNil))))) (gName 3))
  (tSeq (tAsg (tIf (tB (tVar 2)) (tOp rAddI (tC (.int 1)) (tCall (sp__law_take K) [] E0 (tCons (tVar 1) (tCons (tC (.int 12)) tNil)))) (tCall (sp__law_take K) [] E0 (tCons (tVar 1) (tCons (tC (.int 3)) tNil)))) (gName 4))
  (tSeq (tAsg (tCall (sp__law_names K) [] E0 (tCons (tVar 1) (tCons (tOp rAddI (tOp rAddI (tVar 3) (tVar 4)) (tC (.int 5))) tNil))) (gName 5))
  (tSeq (tAsg (tCall (sp__law_circle K) [] E0 (tCons (tVar 1) (tCons (tVar 3) tNil))) (gName 6))
  (tSeq (tAsg (tLst tNil) (gName 7))
  (tSeq (tFor (iRng1 (tCons (tVar 3) tNil)) (gName 8)
  (tSeq (tAsg (tIf (tB (tVar 2)) (tOp rAddI (tC (.int 1)) (tCall (sp__law_take K) [] E0 (tCons (tVar 1) (tCons (tC (.int 12)) tNil)))) (tOp rAddI (tC (.int 1)) (tCall (sp__law_take K) [] E0 (tCons (tVar 1) (tCons (tC (.int 3)) tNil))))) (gName 9))
  (tDrop (tBM K "list" rAppend (tVar 7) (tCons (tTup (tCons (tOp (rIxL K) (tVar 5) (tVar 8)) (tCons (tCall (sp__law_around K) [] E0 (tCons (tVar 1) (tCons (tOp (rIxL K) (tVar 6) (tVar 8)) (tCons (tCB rMin2 (tCons (tC (.int 12)) (tCons (tVar 9) tNil))) (tCons (tVar 3) tNil))))) tNil))) tNil)))))
  (tSeq (tFor (iRng1 (tCons (tVar 4) tNil)) (gName 8)
  (tDrop (tBM K "list" rAppend (tVar 7) (tCons (tTup (tCons (tOp (rIxL K) (tVar 5) (tOp rAddI (tVar 3) (tVar 8))) (tCons (tCall (sp__law_domain K) [] E0 (tCons (tVar 1) (tCons (tIf (tB (tVar 2)) (tOp rAddI (tC (.int 1)) (tCall (sp__law_take K) [] E0 (tCons (tVar 1) (tCons (tC (.int 12)) tNil)))) (tOp rAddI (tC (.int 1)) (tCB rInt1 (tCons (tOp rEq (tVar 8) (tC (.int 0))) tNil)))) tNil))) tNil))) tNil))))
  (tSeq (tAsg (tCall (sp__law_world K) [] E0 (tCons (tVar 7) (tCons (tOp rCat (tVar 6) (tLc (iList K (tSl (rSlL K) (tVar 7) (tPart (tVar 3)) tNoPart)) (gName 11) tYes (tCall (sp__law_pick K) [] E0 (tCons (tVar 1) (tCons (tOp (rIxT K) (tVar 11) (tC (.int 1))) tNil))) [11])) tNil))) (gName 10))
  (tSeq (tAsg (tLst (tCons (tTup (tCons (tC (.str "round")) (tCons (tThen (tSl (rSlL K) (tVar 5) tNoPart (tPart (tVar 3))) (kTup K)) tNil))) (tCons (tTup (tCons (tC (.str "round")) (tCons (tThen (tCall (sp__law_shuffled K) [] E0 (tCons (tVar 1) (tCons (tSl (rSlL K) (tVar 5) tNoPart (tPart (tVar 3))) tNil))) (kTup K)) tNil))) tNil))) (gName 12))
  (tSeq (tDrop (tBM K "list" rAppend (tVar 12) (tCons (tTup (tCons (tC (.str "round")) (tCons (tThen (tLc (iList K (tSl (rSlL K) (tCall (sp__law_shuffled K) [] E0 (tCons (tVar 1) (tCons (tVar 7) tNil))) tNoPart (tPart (tOp rAddI (tC (.int 1)) (tCall (sp__law_take K) [] E0 (tCons (tVar 1) (tCons (tCB rMin2 (tCons (tC (.int 12)) (tCons (tVar 3) tNil))) tNil))))))) (gName 11) tYes (tOp (rIxT K) (tVar 11) (tC (.int 0))) [11]) (kTup K)) tNil))) tNil)))
  (tSeq (tAsg (tCall (sp__law_shuffled K) [] E0 (tCons (tVar 1) (tCons (tOp rCat (tVar 12) (tLst (tCons (tCall (sp__law_works K) [] E0 (tCons (tVar 1) (tCons (tVar 7) (tCons (tVar 10) tNil)))) (tCons (tCall (sp__law_works K) [] E0 (tCons (tVar 1) (tCons (tVar 7) (tCons (tVar 10) tNil)))) tNil)))) tNil))) (gName 13))
  (tSeq (tAsg (tCall (sp__law_shuffled K) [] E0 (tCons (tVar 1) (tCons (tVar 7) tNil))) (gName 14))
  (tSeq (tAsg (tThen (tLc (iList K (tVar 14)) (gName 11) tYes (tDGet (tVar 10) (tOp (rIxT K) (tVar 11) (tC (.int 0)))) [11]) (kTup K)) (gName 15))
  (tSeq (tAsg (tLc (iRng1 (tCons (tC (.int 5)) tNil)) (gName 8) tYes (tTup (tCons (tOp (rIxL K) (tVar 5) (tOp rAddI (tOp rAddI (tVar 3) (tVar 4)) (tVar 8))) (tCons (tOp (rIxL K) (tVar 13) (tVar 8)) tNil))) [8]) (gName 13))
  (tSeq (tAsg (tCall (sp__law_parted K) [] E0 (tCons (tVar 1) (tCons (tVar 13) (tCons (tVar 10) tNil)))) (gName 16))
  (tSeq (tAsg (tIf (tNot (tB (tVar 2))) (tCall (sp__law_fillings K) [] E0 (tCons (tVar 14) tNil)) (tOp rCat (tLst (tCons (tVar 15) tNil)) (tLc (iRng1 (tCons (tC (.int 24)) tNil)) (gName 8) tYes (tCall (sp__law_near K) [] E0 (tCons (tVar 1) (tCons (tVar 14) (tCons (tVar 15) tNil)))) [8]))) (gName 17))
  (tRet (tCall (sp__law_by_turns K) [] E0 (tCons (tVar 1) (tCons (tVar 14) (tCons (tVar 13) (tCons (tOp (rIxL K) (tVar 16) (tC (.int 0))) (tCons (tOp (rIxL K) (tVar 16) (tC (.int 1))) (tCons (tVar 17) (tCons (tVar 15) tNil)))))))))))))))))))))))))))
theorem len_law {K : PySem.W.Frag} : ∀ (vs : List V) (H : Hp) (Q : VK) (E : XK), sp_law K vs H Q E → vs.length = 1 := fun vs H Q E h => by
  obtain ⟨_, _, rfl, _⟩ := h
  rfl
theorem pure_law {K : PySem.W.Frag} (vs : List V) (H : Hp) (Q : VK) (E : XK) (h : sp_law K vs H Q E) : t_law K { nx := fun _ H' => Q .non H', rt := Q } (start ["script", "state", "great", "many", "more", "names", "after", "doms", "k", "size", "at", "pair", "rounds", "made", "order", "base", "parted", "fillings"] vs) H := by
  obtain ⟨sc, ns, rfl, hsc, hnsl, q⟩ := h
  show t_law K _ [some (.ref sc), none, none, none, none, none, none, none, none, none, none, none, none, none, none, none, none, none] H
  unfold t_law
  walk_at "aw"
  refine ⟨sc, ns, rfl, hsc, hnsl, fun st cs H1 ok _ _ => ?_⟩
  walk_at "aw"
  refine ⟨st, _, rfl, cs, ok, by omega, by omega, fun g H2 _ _ g2 => ?_⟩
  walk_at "aw"
  generalize decide (V.int g = V.int 0) = b
  refine w_join (fun v H' => ∃ n : Nat, v = .int (n : Nat) ∧ Go st cs H1 H' ∧ 1 ≤ n ∧ n ≤ 12 ∧ (b = false → n ≤ 4)) (fun Q' hb kt => ?_) (fun Q' hb kt => ?_) fun v H3 hR => ?_
  · walk_at "aw"
    refine ⟨st, _, rfl, cs, g2.ok, by omega, by omega, fun z H3 hz0 hz1 g3 => ?_⟩
    walk_at "aw"
    refine w_lstD (by simp) fun l H4 nl a4 e4 => ?_
    walk_at "aw"
    refine ⟨st, l, rfl, cs, [12, 5 + z].map V.int, (Go.of g3.ok a4).ok, .inl ⟨SqL.of e4, (g3.ok.ne nl).1⟩, by simp, by simp, fun i x H5 hx g5 => ?_⟩
    obtain ⟨m, rfl, hm⟩ := int_mem hx
    have hm2 : 5 ≤ m ∧ m ≤ 12 := by
      simp only [List.mem_cons, List.not_mem_nil, or_false] at hm
      omega
    exact kt _ _ ⟨m.toNat, congrArg V.int (by omega), ((g2.trans g3).new a4).trans g5, by omega, by omega, fun h => by rw [hb] at h; cases h⟩
  · walk_at "aw"
    refine ⟨st, _, rfl, cs, g2.ok, by omega, by omega, fun z H3 hz0 hz1 g3 => ?_⟩
    walk_at "aw"
    exact kt _ _ ⟨(1 + z).toNat, congrArg V.int (by omega), g2.trans g3, by omega, by omega, fun _ => by omega⟩
  obtain ⟨n, rfl, g3, hn1, hn12, hnb⟩ := hR
  walk_at "aw"
  refine w_join (fun v H' => ∃ e : Nat, v = .int (e : Nat) ∧ Go st cs H3 H' ∧ e ≤ 12 ∧ (b = false → e ≤ 2)) (fun Q' hb kt => ?_) (fun Q' hb kt => ?_) fun v H4 hR => ?_
  · walk_at "aw"
    refine ⟨st, _, rfl, cs, g3.ok, by omega, by omega, fun z H4 hz0 hz1 g4 => ?_⟩
    walk_at "aw"
    exact kt _ _ ⟨(1 + z).toNat, congrArg V.int (by omega), g4, by omega, fun h => by rw [hb] at h; cases h⟩
  · walk_at "aw"
    refine ⟨st, _, rfl, cs, g3.ok, by omega, by omega, fun z H4 hz0 hz1 g4 => ?_⟩
    exact kt _ _ ⟨z.toNat, congrArg V.int (by omega), g4, by omega, fun _ => by omega⟩
  obtain ⟨e, rfl, g4, he12, heb⟩ := hR
  walk_at "aw"
  rw [show (n : Int) + (e : Nat) + 5 = ((n + e + 5 : Nat) : Int) by omega]
  refine ⟨st, n + e + 5, rfl, cs, g4.ok, by omega, fun nm names H5 g5 nnm enm hnl hnd hnok => ?_⟩
  have nnmst := (g4.ok.ne nnm).1
  walk_at "aw"
  refine ⟨st, n, rfl, cs, g5.ok, by omega, by omega, fun af afs H6 g6 naf eaf hal => ?_⟩
  have nafst := (g5.ok.ne naf).1
  have enm6 := g6.keep nnmst enm
  walk_at "aw"
  refine w_lstD (by simp) fun dm H7 ndm a7 e7 => ?_
  have ndmst := (g6.ok.ne ndm).1
  have g7 := Go.of g6.ok a7
  walk_at "aw"
  refine kForR_i (n := n) (by omega) (fun i σ H' => ∃ y8 y9 ds xs, σ = [some (.ref sc), some (.ref st), some (.bl b), some (.int (n : Nat)), some (.int (e : Nat)), some (.ref nm), some (.ref af), some (.ref dm), y8, y9, none, none, none, none, none, none, none, none] ∧ Go st cs H6 H' ∧ H' dm = some (.lst xs) ∧ IsAll H' ((ds : List (Str × List Int)).map domD) xs ∧ ds.map (·.1) = names.take i ∧ ds.length = i ∧
      ∀ q ∈ ds, 0 < q.2.length ∧ q.2.length ≤ 12 ∧ (b = false → q.2.length ≤ 3))
    ⟨none, none, [], [], rfl, g7, e7, .nil, rfl, rfl, fun q h => absurd h (List.not_mem_nil)⟩ (fun i σ H' hi pp => ?_) fun σ H' pp => ?_
  · obtain ⟨y8, y9, ds, xs, rfl, g, ed, td, hdn, hdl, hdq⟩ := pp
    have hxl : xs.length = ds.length := by rw [td.length, List.length_map]
    obtain ⟨x, hx⟩ := get_some (xs := names) (i := i) (by omega)
    obtain ⟨c, hc⟩ := get_some (xs := afs) (i := i) (by omega)
    walk_at "aw"
    refine w_join (fun v H'' => ∃ m : Nat, v = .int (m : Nat) ∧ Go st cs H' H'' ∧ 1 ≤ m ∧ m ≤ 12 ∧ (b = false → m ≤ 3)) (fun Q' hb kt => ?_) (fun Q' hb kt => ?_) fun v H8 hR => ?_
    · walk_at "aw"
      refine ⟨st, _, rfl, cs, g.ok, by omega, by omega, fun z H8 hz0 hz1 g8 => ?_⟩
      walk_at "aw"
      exact kt _ _ ⟨(1 + z).toNat, congrArg V.int (by omega), g8, by omega, by omega, fun h => by rw [hb] at h; cases h⟩
    · walk_at "aw"
      refine ⟨st, _, rfl, cs, g.ok, by omega, by omega, fun z H8 hz0 hz1 g8 => ?_⟩
      walk_at "aw"
      exact kt _ _ ⟨(1 + z).toNat, congrArg V.int (by omega), g8, by omega, by omega, fun _ => by omega⟩
    obtain ⟨m, rfl, g8, hm1, hm12, hmb⟩ := hR
    have g8' := g.trans g8
    have ed8 := g8.keep ndmst ed
    walk_at "aw"
    refine w_app rfl ed8 ?_
    walk_at "aw"
    refine w_ixL (SqL.of (g8'.keep nnmst enm6)) (at_of (j := i) (v := .str x) rfl (by rw [List.getElem?_map, hx]; rfl)) ?_
    walk_at "aw"
    refine w_ixL (SqL.of (g8'.keep nafst eaf)) (at_of (j := i) (v := .int c) rfl (by rw [List.getElem?_map, hc]; rfl)) ?_
    walk_at "aw"
    rw [show (if (m : Int) < 12 then (m : Int) else 12) = (m : Nat) by split <;> omega]
    refine ⟨st, c, m, n, rfl, cs, g8.ok, by omega, by omega, by omega, fun v fl H9 g9 hv hf0 hfm => ?_⟩
    walk_at "aw"
    refine w_tupD (by simp) fun t H10 nt a10 e10 => ?_
    have g10 := (g8'.trans g9).new a10
    have g810 := (g8.trans g9).new a10
    have ed10 := g810.keep ndmst ed
    walk_at "aw"
    refine w_append ed10 (by omega) ?_
    have u : TK H10 (upd H10 dm (.lst (xs ++ [.ref t]))) := fun c vs h => (Adv.lst (o := .lst (xs ++ [.ref t])) ed10).tup c vs h
    refine ⟨_, _, ds ++ [(x, fl)], _, rfl, g10.mutL g6.ok ndm ed10, upd_same, ?_, ?_, by rw [List.length_append, hdl]; rfl, fun r hr => ?_⟩
    · rw [List.map_append]
      exact ((td.up g810.tk).up u).append (.cons (.tup (u _ _ e10) (.cons (.str _) (.cons ((hv.up a10.tup).up u) .nil))) .nil)
    · rw [List.map_append, hdn, List.take_add_one, hx]
      rfl
    · rcases List.mem_append.mp hr with h | h
      · exact hdq r h
      · rw [List.mem_singleton.mp h]
        exact ⟨hf0, by show fl.length ≤ 12; omega, fun hb => by have := hmb hb; show fl.length ≤ 3; omega⟩
  obtain ⟨y8, y9, ds0, xs0, rfl, g, ed, td, hdn, hdl, hdq⟩ := pp
  walk_at "aw"
  refine kForR_i (n := e) (by omega) (fun i σ H' => ∃ y8 y9 ds xs, σ = [some (.ref sc), some (.ref st), some (.bl b), some (.int (n : Nat)), some (.int (e : Nat)), some (.ref nm), some (.ref af), some (.ref dm), y8, y9, none, none, none, none, none, none, none, none] ∧ Go st cs H6 H' ∧ H' dm = some (.lst xs) ∧ IsAll H' ((ds : List (Str × List Int)).map domD) xs ∧ ds.map (·.1) = names.take (n + i) ∧ ds.length = n + i ∧
      ∀ q ∈ ds, 0 < q.2.length ∧ q.2.length ≤ 12 ∧ (b = false → q.2.length ≤ 3))
    ⟨y8, y9, ds0, xs0, rfl, g, ed, td, hdn, hdl, hdq⟩ (fun i σ H' hi pp => ?_) fun σ H' pp => ?_
  · obtain ⟨y8, y9, ds, xs, rfl, g, ed, td, hdn, hdl, hdq⟩ := pp
    have hxl : xs.length = ds.length := by rw [td.length, List.length_map]
    obtain ⟨x, hx⟩ := get_some (xs := names) (i := n + i) (by omega)
    walk_at "aw"
    refine w_app rfl ed ?_
    walk_at "aw"
    rw [show (n : Int) + (i : Nat) = ((n + i : Nat) : Int) by omega]
    refine w_ixL (SqL.of (g.keep nnmst enm6)) (at_of (j := n + i) (v := .str x) rfl (by rw [List.getElem?_map, hx]; rfl)) ?_
    walk_at "aw"
    refine w_join (fun v H'' => ∃ m : Nat, v = .int ((m : Nat) + 1) ∧ Go st cs H' H'' ∧ m < 12 ∧ (b = false → m < 3)) (fun Q' hb kt => ?_) (fun Q' hb kt => ?_) fun v H8 hR => ?_
    · walk_at "aw"
      refine ⟨st, _, rfl, cs, g.ok, by omega, by omega, fun z H8 hz0 hz1 g8 => ?_⟩
      walk_at "aw"
      exact kt _ _ ⟨z.toNat, congrArg V.int (by omega), g8, by omega, fun h => by rw [hb] at h; cases h⟩
    · walk_at "aw"
      refine kt _ _ ⟨(if (decide (V.int (i : Nat) = V.int 0)) = true then 1 else 0), congrArg V.int (by split <;> omega), .refl g.ok, by split <;> omega, fun _ => by split <;> omega⟩
    obtain ⟨m, rfl, g8, hm1, hmb⟩ := hR
    have g8' := g.trans g8
    walk_at "aw"
    refine ⟨st, m, rfl, cs, g8.ok, by omega, fun v fl H9 g9 hv hfm => ?_⟩
    walk_at "aw"
    refine w_tupD (by simp) fun t H10 nt a10 e10 => ?_
    have g10 := (g8'.trans g9).new a10
    have g810 := (g8.trans g9).new a10
    have ed10 := g810.keep ndmst ed
    walk_at "aw"
    refine w_append ed10 (by omega) ?_
    have u : TK H10 (upd H10 dm (.lst (xs ++ [.ref t]))) := fun c vs h => (Adv.lst (o := .lst (xs ++ [.ref t])) ed10).tup c vs h
    refine ⟨_, _, ds ++ [(x, fl)], _, rfl, g10.mutL g6.ok ndm ed10, upd_same, ?_, ?_, by rw [List.length_append, hdl]; rfl, fun r hr => ?_⟩
    · rw [List.map_append]
      exact ((td.up g810.tk).up u).append (.cons (.tup (u _ _ e10) (.cons (.str _) (.cons ((hv.up a10.tup).up u) .nil))) .nil)
    · rw [List.map_append, hdn, ← Nat.add_assoc, List.take_add_one, hx]
      rfl
    · rcases List.mem_append.mp hr with h | h
      · exact hdq r h
      · rw [List.mem_singleton.mp h]
        exact ⟨by show 0 < fl.length; omega, by show fl.length ≤ 12; omega, fun hb => by have := hmb hb; show fl.length ≤ 3; omega⟩
  clear ed td hdn hdl hdq g xs0 ds0
  obtain ⟨y8, y9, ds, xs, rfl, g, ed, td, hdn, hdl, hdq⟩ := pp
  have hxl : xs.length = n + e := by rw [td.length, List.length_map, hdl]
  have enB := g.keep nnmst enm6
  have eaB := g.keep nafst eaf
  have hdnd : (ds.map (·.1)).Nodup := by
    rw [hdn]
    exact hnd.sublist (List.take_sublist ..)
  have hdnok : ∀ x ∈ ds.map (·.1), okS x := fun x hx => hnok x (by rw [hdn] at hx; exact List.mem_of_mem_take hx)
  have okB := g.ok
  clear g enm6 eaf
  rename Hp => HB
  walk_at "aw"
  refine w_slL (SqL.of ed) fun l8 H8 nl8 a8 e8 => ?_
  rw [cut_from _ (by omega), show ((n : Nat) : Int).toNat = n by omega] at e8
  have k8 := Go.of okB a8
  refine kLcL_all (SqL.of e8) (okB.ne nl8).1 (by rw [List.length_drop]; omega) k8.ok (fun _ v _ => ∃ z : Int, v = .int z) (fun _ _ _ _ _ h => h) (fun k x H9 Kt hk g9 kt => ?_) fun l9 H9 ys nl9 g9 e9 hyl hyr => ?_
  · rw [List.getElem?_drop] at hk
    obtain ⟨dt, z1, hx⟩ := td.get hk
    rw [List.getElem?_map] at z1
    obtain ⟨qd, z2, rfl⟩ := Option.map_eq_some_iff.mp z1
    obtain ⟨ia, ib, rfl, ea, eb⟩ := is_dom hx
    have hqd := hdq qd (List.mem_of_getElem? z2)
    have k9 := k8.trans g9
    walk_at "aw"
    refine ⟨rfl, ?_⟩
    walk_at "aw"
    refine w_ixT (SqT.of (k9.tk _ _ ea)) rfl ?_
    walk_at "aw"
    refine ⟨st, ib, rfl, cs, _, g9.ok, .inr (k9.tk _ _ eb), by rw [List.length_map]; exact hqd.1, by rw [List.length_map]; omega, fun j y H10 hy g10 => ?_⟩
    obtain ⟨z, rfl, _⟩ := int_mem hy
    exact kt _ _ g10 ⟨z, rfl⟩
  obtain ⟨ps, rfl⟩ := ints_of hyr
  rw [List.length_map, List.length_drop, hxl] at hyl
  have k9 := k8.trans g9
  refine w_cat (k9.keep nafst eaB) e9 (by rw [List.length_map, List.length_map]; omega) fun l10 H10 nl10 a10 e10 => ?_
  have k10 := k9.new a10
  rw [← List.map_append] at e10
  walk_at "aw"
  refine ⟨dm, l10, rfl, ds, afs ++ ps, ⟨xs, k10.keep ndmst ed, td.up k10.tk⟩, .inl (SqL.of e10), by rw [List.length_append]; omega, hdnd, by omega, fun d H11 a11 nd hd => ?_⟩
  generalize wOf (ds.map (·.1)) (afs ++ ps) = w at hd
  have k11 := k10.new a11
  walk_at "aw"
  -- the rounds
  refine w_slL (SqL.of (k11.keep nnmst enB)) fun l12 H12 nl12 a12 e12 => ?_
  rw [cut_to _ (by omega), show ((n : Nat) : Int).toNat = n by omega, ← List.map_take] at e12
  have k12 := k11.new a12
  refine w_tupL (SqL.of e12) fun t13 H13 nt13 a13 e13 => ?_
  have k13 := k12.new a13
  walk_at "aw"
  refine w_tupD (by simp) fun s14 H14 ns14 a14 e14 => ?_
  have k14 := k13.new a14
  have hs1 : Is H14 (sayD (.round (names.take n))) (.ref s14) := .tup e14 (.cons (.str _) (.cons (.tup (a14.tup _ _ e13) (IsAll.strs _)) .nil))
  walk_at "aw"
  refine w_slL (SqL.of (k14.keep nnmst enB)) fun l15 H15 nl15 a15 e15 => ?_
  rw [cut_to _ (by omega), show ((n : Nat) : Int).toNat = n by omega, ← List.map_take] at e15
  have k15 := k14.new a15
  walk_at "aw"
  refine ⟨st, l15, rfl, cs, _, k15.ok, SqL.of e15, (k14.ok.ne nl15).1, by rw [List.length_map, List.length_take]; omega, fun l16 ys2 H16 hp16 nl16 g16 e16 => ?_⟩
  obtain ⟨mix, hmix, hys2⟩ := (IsAll.strs (H := H) (names.take n)).shuf hp16.symm
  have z16 := hys2.strs_inv
  subst z16
  have k16 := k15.trans g16
  refine w_tupL (SqL.of e16) fun t17 H17 nt17 a17 e17 => ?_
  have k17 := k16.new a17
  walk_at "aw"
  refine w_tupD (by simp) fun s18 H18 ns18 a18 e18 => ?_
  have k18 := k17.new a18
  have hs2 : Is H18 (sayD (.round mix)) (.ref s18) := .tup e18 (.cons (.str _) (.cons (.tup (a18.tup _ _ e17) (IsAll.strs _)) .nil))
  have k1418 := (((Go.of k14.ok a15).trans g16).new a17).new a18
  walk_at "aw"
  refine w_lstD (by simp) fun rd H19 nrd a19 e19 => ?_
  have k19 := k18.new a19
  have nrdst := (k18.ok.ne nrd).1
  have k1419 := k1418.new a19
  walk_at "aw"
  refine w_app rfl e19 ?_
  walk_at "aw"
  refine ⟨st, dm, rfl, cs, xs, k19.ok, SqL.of (k19.keep ndmst ed), ndmst, by omega, fun o zs H20 hp20 no g20 eo => ?_⟩
  obtain ⟨ds2, hds2, tz⟩ := td.shuf hp20.symm
  have nost := (k19.ok.ne no).1
  have k20 := k19.trans g20
  walk_at "aw"
  rw [show (if (n : Int) < 12 then (n : Int) else 12) = (n : Nat) by split <;> omega]
  refine ⟨st, _, rfl, cs, k20.ok, by omega, by omega, fun z H21 hz0 hz1 g21 => ?_⟩
  have k21 := k20.trans g21
  walk_at "aw"
  refine w_slL (SqL.of (g21.keep nost eo)) fun l22 H22 nl22 a22 e22 => ?_
  rw [cut_to _ (by omega)] at e22
  have k22 := k21.new a22
  have tz22 : IsAll H22 ((ds2.take (1 + z).toNat).map domD) (zs.take (1 + z).toNat) := by
    rw [List.map_take]
    exact (tz.up k22.tk).take _
  have hd2sub : ∀ q ∈ ds2.take (1 + z).toNat, q ∈ ds := fun q hq => hds2.mem_iff.mp (List.mem_of_mem_take hq)
  have hd2l : 0 < (ds2.take (1 + z).toNat).length ∧ (ds2.take (1 + z).toNat).length ≤ 24 := by
    rw [List.length_take, hds2.length_eq]
    omega
  generalize ds2.take (1 + z).toNat = es at tz22 hd2sub hd2l
  generalize zs.take (1 + z).toNat = rs at tz22 e22
  have hrsl : rs.length = es.length := by rw [tz22.length, List.length_map]
  refine kLcL_all (SqL.of e22) (k21.ok.ne nl22).1 (by omega) k22.ok (fun k v _ => ∃ q, es[k]? = some q ∧ v = .str q.1) (fun _ _ _ _ _ h => h) (fun k x H23 Kt hk g23 kt => ?_) fun l23 H23 ys nl23 g23 e23 hyl3 hyr3 => ?_
  · obtain ⟨dt, z1, hx⟩ := tz22.get hk
    rw [List.getElem?_map] at z1
    obtain ⟨q', z2, rfl⟩ := Option.map_eq_some_iff.mp z1
    obtain ⟨ia, ib, rfl, ea, _⟩ := is_dom hx
    walk_at "aw"
    refine ⟨rfl, ?_⟩
    walk_at "aw"
    refine w_ixT (SqT.of (g23.tk _ _ ea)) rfl ?_
    exact kt _ _ (.refl g23.ok) ⟨q', z2, rfl⟩
  obtain ⟨some3, rfl⟩ := strs_of (ys := ys) fun i v h => by
    obtain ⟨q', _, h2⟩ := hyr3 i v h
    exact ⟨_, h2⟩
  have hn3 : ∀ x ∈ some3, x ∈ ds.map (·.1) := fun x hx => by
    obtain ⟨i, hi, rfl⟩ := List.mem_iff_getElem.mp hx
    obtain ⟨q', z1, z2⟩ := hyr3 i (.str some3[i]) (by rw [List.getElem?_map, List.getElem?_eq_getElem hi]; rfl)
    rw [V.str.inj z2]
    exact List.mem_map_of_mem (hd2sub q' (List.mem_of_getElem? z1))
  rw [List.length_map, hrsl] at hyl3
  have k23 := k22.trans g23
  refine w_tupL (SqL.of e23) fun t24 H24 nt24 a24 e24 => ?_
  have k24 := k23.new a24
  walk_at "aw"
  refine w_tupD (by simp) fun s25 H25 ns25 a25 e25 => ?_
  have k25 := k24.new a25
  have hs3 : Is H25 (sayD (.round some3)) (.ref s25) := .tup e25 (.cons (.str _) (.cons (.tup (a25.tup _ _ e24) (IsAll.strs _)) .nil))
  walk_at "aw"
  have k1925 := ((((g20.trans g21).new a22).trans g23).new a24).new a25
  have erd25 := k1925.keep nrdst e19
  refine w_append erd25 (by simp) ?_
  generalize hH26 : upd H25 rd _ = H26
  have erd26 : H26 rd = some (.lst [.ref s14, .ref s18, .ref s25]) := by rw [← hH26, upd_same]; rfl
  have k26 : Go st cs HB H26 := by
    rw [← hH26]
    exact k25.mutL okB (k18.free okB nrd) erd25
  have u26 : TK H25 H26 := fun c vs h => by
    rw [← hH26]
    exact (Adv.lst (o := .lst _) erd25).tup c vs h
  have m18 : Go st cs H11 H18 := (((Go.of k11.ok a12).new a13).new a14).trans k1418
  have m25 : Go st cs H11 H25 := (m18.new a19).trans k1925
  have m26 : Go st cs H11 H26 := by
    rw [← hH26]
    exact m25.mutL k11.ok (m18.free k11.ok nrd) erd25
  clear hH26
  have hd26 := hd.go k11.ok m26
  have hs1' : Is H26 (sayD (.round (names.take n))) (.ref s14) := (hs1.up (k1419.trans k1925).tk).up u26
  have hs2' : Is H26 (sayD (.round mix)) (.ref s18) := ((hs2.up a19.tup).up k1925.tk).up u26
  have hs3' : Is H26 (sayD (.round some3)) (.ref s25) := hs3.up u26
  have hsub : ∀ x ∈ names.take n, x ∈ ds.map (·.1) := fun x hx => by
    rw [hdn]
    rw [show names.take n = (names.take (n + e)).take n by rw [List.take_take, Nat.min_eq_left (by omega)]] at hx
    exact List.mem_of_mem_take hx
  have hnt : (names.take n).length = n := by rw [List.length_take]; omega
  have hi1 : InS (ds.map (·.1)) (.round (names.take n)) := ⟨⟨by omega, by omega⟩, hsub⟩
  have hi2 : InS (ds.map (·.1)) (.round mix) := ⟨⟨by rw [hmix.length_eq]; omega, by rw [hmix.length_eq]; omega⟩, fun x hx => hsub x (hmix.mem_iff.mp hx)⟩
  have hi3 : InS (ds.map (·.1)) (.round some3) := ⟨⟨by omega, by omega⟩, hn3⟩
  clear hs1 hs2 hs3 hsub hd m18 m25 m26 k1925 erd25 k1419 k1418
  walk_at "aw"
  refine ⟨st, dm, d, rfl, cs, ds, w, k26.ok, ndmst, ⟨xs, k26.keep ndmst ed, td.up k26.tk⟩, hd26, by omega, fun v4 s4 H27 g27 hs4 hok4 hin4 => ?_⟩
  have k27 := k26.trans g27
  walk_at "aw"
  refine ⟨st, dm, d, rfl, cs, ds, w, k27.ok, ndmst, ⟨xs, k27.keep ndmst ed, td.up k27.tk⟩, hd26.go k26.ok g27, by omega, fun v5 s5 H28 g28 hs5 hok5 hin5 => ?_⟩
  have k28 := k27.trans g28
  walk_at "aw"
  refine w_lstD (by simp) fun l29 H29 nl29 a29 e29 => ?_
  have k29 := k28.new a29
  have m29 := (g27.trans g28).new a29
  refine w_cat (m29.keep nrdst erd26) e29 (by simp) fun l30 H30 nl30 a30 e30 => ?_
  have k30 := k29.new a30
  have m30 := m29.new a30
  have hall : IsAll H30 (([.round (names.take n), .round mix, .round some3, s4, s5] : List Say).map sayD) ([.ref s14, .ref s18, .ref s25] ++ [v4, v5]) :=
    .cons (hs1'.up m30.tk) (.cons (hs2'.up m30.tk) (.cons (hs3'.up m30.tk) (.cons (((hs4.up g28.tk).up a29.tup).up a30.tup) (.cons ((hs5.up a29.tup).up a30.tup) .nil))))
  have hin : ∀ s ∈ ([.round (names.take n), .round mix, .round some3, s4, s5] : List Say), InS (ds.map (·.1)) s := fun s hs => by
    simp only [List.mem_cons, List.not_mem_nil, or_false] at hs
    rcases hs with h | h | h | h | h
    · rw [h]; exact hi1
    · rw [h]; exact hi2
    · rw [h]; exact hi3
    · rw [h]; exact ⟨hok4, hin4⟩
    · rw [h]; exact ⟨hok5, hin5⟩
  have halln : ([.round (names.take n), .round mix, .round some3, s4, s5] : List Say).length = 5 := rfl
  generalize ([.round (names.take n), .round mix, .round some3, s4, s5] : List Say) = all at hall hin halln
  have hvl : ([.ref s14, .ref s18, .ref s25] ++ [v4, v5] : List V).length ≤ 1000 := by simp
  generalize ([.ref s14, .ref s18, .ref s25] ++ [v4, v5] : List V) = vall at hall e30 hvl
  clear hs1' hs2' hs3' hi1 hi2 hi3 hs4 hs5
  walk_at "aw"
  refine ⟨st, l30, rfl, cs, vall, k30.ok, SqL.of e30, (k29.ok.ne nl30).1, hvl, fun l31 sv H31 hp31 nl31 g31 e31 => ?_⟩
  obtain ⟨ss, hss, tss⟩ := hall.shuf hp31.symm
  have hssl : ss.length = 5 := by rw [hss.length_eq, halln]
  have hsvl : sv.length = 5 := by rw [tss.length, List.length_map, hssl]
  have nl31st := (k30.ok.ne nl31).1
  have k31 := k30.trans g31
  have m31 := m30.trans g31
  have tss31 := tss.up g31.tk
  walk_at "aw"
  refine ⟨st, dm, rfl, cs, xs, k31.ok, SqL.of (k31.keep ndmst ed), ndmst, by omega, fun od zv H32 hp32 nod g32 eod => ?_⟩
  obtain ⟨os, hos, tos⟩ := td.shuf hp32.symm
  have nodst := (k31.ok.ne nod).1
  have k32 := k31.trans g32
  have m32 := m31.trans g32
  have tos32 := tos.up k32.tk
  have hosl : os.length = n + e := by rw [hos.length_eq, hdl]
  have hzvl : zv.length = n + e := by rw [tos.length, List.length_map, hosl]
  walk_at "aw"
  refine kLcL_all (SqL.of eod) nodst (by omega) k32.ok (fun _ v _ => ∃ z : Int, v = .int z) (fun _ _ _ _ _ h => h) (fun k x H33 Kt hk g33 kt => ?_) fun l33 H33 ys nl33 g33 e33 hyl hyr => ?_
  · obtain ⟨dt, z1, hx⟩ := tos32.get hk
    rw [List.getElem?_map] at z1
    obtain ⟨q', z2, rfl⟩ := Option.map_eq_some_iff.mp z1
    obtain ⟨ia, ib, rfl, ea, _⟩ := is_dom hx
    walk_at "aw"
    refine ⟨rfl, ?_⟩
    walk_at "aw"
    refine w_ixT (SqT.of (g33.tk _ _ ea)) rfl ?_
    refine WD.get (hd26.go k26.ok (m32.trans g33)) (List.mem_map_of_mem (hos.mem_iff.mp (List.mem_of_getElem? z2))) ?_
    exact kt _ _ (.refl g33.ok) ⟨_, rfl⟩
  obtain ⟨bs, rfl⟩ := ints_of hyr
  rw [List.length_map, hzvl] at hyl
  have k33 := k32.trans g33
  refine w_tupL (SqL.of e33) fun t34 H34 nt34 a34 e34 => ?_
  have k34 := k33.new a34
  have m34 := (m32.trans g33).new a34
  have g3134 := (g32.trans g33).new a34
  have hbase : Is H34 (rowD bs) (.ref t34) := .tup e34 (IsAll.ints _)
  walk_at "aw"
  refine kLcR_all (n := 5) (by omega) k34.ok (fun k v H => ∃ x s, names[n + e + k]? = some x ∧ ss[k]? = some s ∧ Is H (itD (x, s)) v) (fun k v H H' t h => by
    obtain ⟨x, s, h1, h2, h3⟩ := h
    exact ⟨x, s, h1, h2, h3.up t⟩) (fun k H35 Kt hk g35 kt => ?_) fun md H35 mv nmd g35 emd hml hmr => ?_
  · obtain ⟨x, hx⟩ := get_some (xs := names) (i := n + e + k) (by omega)
    obtain ⟨s, hs⟩ := get_some (xs := ss) (i := k) (by omega)
    obtain ⟨y, hy⟩ := get_some (xs := sv) (i := k) (by omega)
    obtain ⟨dt, z1, hdt⟩ := tss31.get hy
    rw [List.getElem?_map, hs] at z1
    cases z1
    walk_at "aw"
    refine ⟨rfl, ?_⟩
    walk_at "aw"
    rw [show (n : Int) + (e : Nat) + (k : Nat) = ((n + e + k : Nat) : Int) by omega]
    refine w_ixL (SqL.of ((k34.trans g35).keep nnmst enB)) (at_of (j := n + e + k) (v := .str x) rfl (by rw [List.getElem?_map, hx]; rfl)) ?_
    walk_at "aw"
    refine w_ixL (SqL.of ((g3134.trans g35).keep nl31st e31)) (at_of (j := k) rfl hy) ?_
    walk_at "aw"
    refine w_tupD (by simp) fun t H36 nt a36 e36 => ?_
    exact kt _ _ (Go.of g35.ok a36) ⟨x, s, hx, hs, .tup e36 (.cons (.str _) (.cons ((hdt.up (g3134.trans g35).tk).up a36.tup) .nil))⟩
  have k35 := k34.trans g35
  have m35 := m34.trans g35
  have nmdst := (k34.ok.ne nmd).1
  generalize hmade : (List.zip (names.drop (n + e)) ss) = made
  have hmadel : made.length = 5 := by
    rw [← hmade, List.length_zip, List.length_drop]
    omega
  have tmade : IsAll H35 (made.map itD) mv := IsAll.of _ _ (by rw [List.length_map]; omega) fun i dt v h1 h2 => by
    obtain ⟨x, s, z1, z2, z3⟩ := hmr i v h2
    rw [List.getElem?_map] at h1
    obtain ⟨q', z4, rfl⟩ := Option.map_eq_some_iff.mp h1
    rw [← hmade, List.getElem?_zip_eq_some, List.getElem?_drop] at z4
    rw [z1, z2] at z4
    obtain ⟨y1, y2⟩ := z4
    cases q'
    cases y1
    cases y2
    exact z3
  have hmn : (made.map (·.1)).Nodup := by
    rw [← hmade, List.map_fst_zip (by rw [List.length_drop]; omega)]
    exact hnd.sublist (List.drop_sublist ..)
  have hmok : ∀ q ∈ made, InS (ds.map (·.1)) q.2 ∧ okS q.1 := fun q' hq => by
    rw [← hmade] at hq
    obtain ⟨h1, h2⟩ := List.of_mem_zip hq
    exact ⟨hin _ (hss.mem_iff.mp h2), hnok _ (List.mem_of_mem_drop h1)⟩
  walk_at "aw"
  refine ⟨st, md, d, rfl, cs, made, ds.map (·.1), w, k35.ok, nmdst, ⟨mv, emd, tmade⟩, hd26.go k26.ok m35, hmn, by omega, by omega, fun q' hq => ⟨(hmok q' hq).1.1, (hmok q' hq).1.2, (hmok q' hq).2, fun x hx => hdnok x ((hmok q' hq).1.2 x hx)⟩, fun pr f s firm soft H36 g36 epr nf ns npr hf hs hfs hfm hsm hf50 hs50 => ?_⟩
  have k36 := k35.trans g36
  walk_at "aw"
  have g3236 := ((g33.new a34).trans g35).trans g36
  have hos36 : LsAt H36 od (os.map domD) := ⟨zv, g3236.keep nodst eod, tos32.up g3236.tk⟩
  have hosq : ∀ q ∈ os, 0 < q.2.length ∧ q.2.length ≤ 12 ∧ (b = false → q.2.length ≤ 3) := fun q' hq => hdq q' (hos.mem_iff.mp hq)
  have hb36 : Is H36 (rowD bs) (.ref t34) := hbase.up (g35.trans g36).tk
  refine w_join (fun v H' => ∃ r rows, v = .ref r ∧ Go st cs H36 H' ∧ r ≠ st ∧ LsAt H' r ((rows : List (List Int)).map rowD) ∧ (∀ row ∈ rows, row.length = os.length) ∧ rows.length ≤ 1000) (fun Q' hb kt => ?_) (fun Q' hb kt => ?_) fun v H37 hR => ?_
  · have hb0 : b = false := by
      cases b with
      | false => rfl
      | true => cases hb
    have hn4 := hnb hb0
    have he2 := heb hb0
    walk_at "aw"
    refine ⟨od, rfl, os, st, cs, k36.ok, nodst, hos36, fun q' hq => (hosq q' hq).2.2 hb0, by omega, fun r rows H37 g37 nr hr hrow hrl => ?_⟩
    exact kt _ _ ⟨r, rows, rfl, g37, (k36.ok.ne nr).1, hr, hrow, Nat.le_trans hrl (by decide)⟩
  · walk_at "aw"
    refine w_lstD (by simp) fun l37 H37 nl37 a37 e37 => ?_
    have g37 := Go.of k36.ok a37
    walk_at "aw"
    refine kLcR_all (n := 24) (by omega) g37.ok (fun k v H => ∃ fl : List Int, fl.length = os.length ∧ Is H (rowD fl) v) (fun k v H H' t h => by
      obtain ⟨fl, h1, h2⟩ := h
      exact ⟨fl, h1, h2.up t⟩) (fun k H38 Kt hk g38 kt => ?_) fun l38 H38 rv nl38 g38 e38 hrvl hrvr => ?_
    · have g3638 := g37.trans g38
      walk_at "aw"
      refine ⟨rfl, ?_⟩
      walk_at "aw"
      refine ⟨st, od, .ref t34, rfl, cs, os, bs, g38.ok, nodst, hos36.go nodst g3638, hb36.up g3638.tk, by omega, by omega, by omega, fun q' hq => ⟨(hosq q' hq).1, by have := (hosq q' hq).2.1; omega⟩, fun v' fl' H39 g39 hv' hfl' => ?_⟩
      exact kt _ _ g39 ⟨fl', hfl', hv'⟩
    · have hrows : ∃ rows : List (List Int), IsAll H38 (rows.map rowD) rv ∧ ∀ row ∈ rows, row.length = os.length := by
        clear e38 hrvl kt
        induction rv with
        | nil => exact ⟨[], .nil, fun _ h => absurd h (List.not_mem_nil)⟩
        | cons a l ih =>
          obtain ⟨fl, h1, h2⟩ := hrvr 0 a rfl
          obtain ⟨rows, h3, h4⟩ := ih fun i v h => hrvr (i + 1) v (by simpa using h)
          exact ⟨fl :: rows, .cons h2 h3, fun row hr => by
            rcases List.mem_cons.mp hr with h | h
            · rw [h]; exact h1
            · exact h4 row h⟩
      obtain ⟨rows, hrw, hrl⟩ := hrows
      refine w_cat (g38.keep (k36.ok.ne nl37).1 e37) e38 (by rw [hrvl]; simp) fun l39 H39 nl39 a39 e39 => ?_
      have g39 := (g37.trans g38).new a39
      have hlen : rows.length = rv.length := by rw [hrw.length, List.length_map]
      exact kt _ _ ⟨l39, bs :: rows, rfl, g39, ((g37.trans g38).ok.ne nl39).1, ⟨_, e39, .cons (hb36.up g39.tk) (hrw.up a39.tup)⟩, fun row hr => by
        rcases List.mem_cons.mp hr with h | h
        · rw [h]; omega
        · exact hrl row h, by rw [List.length_cons]; omega⟩
  obtain ⟨r, rows, rfl, g37, nrst, hr, hrow, hrl⟩ := hR
  have k37 := k36.trans g37
  have epr37 := g37.keep npr epr
  walk_at "aw"
  refine w_ixL (SqL.of epr37) rfl ?_
  walk_at "aw"
  refine w_ixL (SqL.of epr37) rfl ?_
  walk_at "aw"
  have hperm := hos.map (fun q : Str × List Int => q.1)
  have hheld : HeldOk os firm soft := by
    refine ⟨hperm.nodup_iff.mpr hdnd, by omega, hfs, hf50, hs50, fun q' hq => ?_⟩
    have hm : q' ∈ made := by
      rcases List.mem_append.mp hq with h | h
      · exact hfm q' h
      · exact hsm q' h
    exact ⟨(hmok q' hm).1.1, fun x hx => hperm.mem_iff.mpr ((hmok q' hm).1.2 x hx)⟩
  refine ⟨st, od, md, f, s, r, .ref t34, rfl, cs, os, made, firm, soft, rows, bs, k37.ok, ⟨nodst, nmdst, nf, ns, nrst⟩, hos36.go nodst g37, ⟨mv, (g36.trans g37).keep nmdst emd, tmade.up (g36.trans g37).tk⟩, hf.go nf g37, hs.go ns g37, hr, hb36.up g37.tk, hheld, hmn, by omega, by omega, fun q' hq => ⟨(hmok q' hq).1.1, fun x hx => hperm.mem_iff.mpr ((hmok q' hq).1.2 x hx)⟩, hrow, hrl, by omega, by omega, fun q' hq => ⟨(hosq q' hq).1, by have := (hosq q' hq).2.1; omega⟩, fun H38 _ => ?_⟩
  exact q H38
end AW
namespace AW
open PySem PySem.Spec PyProof.Rows L2 RZ
def topS (i : Nat) : Stmt := PySem.Challenge.pw_aswritten_k06_works_and_rounds_held.main.body.getD i (.Pass ⟨0, 0, 0, 0⟩)
abbrev s__law_mixed : Stmt := topS 33
abbrev n__law_mixed : List Str := ["number", "k", "first", "second"]
theorem sc__law_mixed : FnScope n__law_mixed ["number", "k"] (defScope s__law_mixed) := ⟨rfl, rfl, rfl, by decide +kernel, rfl, by decide +kernel, by decide +kernel⟩
theorem ok__law_mixed {P : Program} {w : World} {K : PySem.W.Frag} {mg : Str → Option Value} {base : Heap} {f : Addr} {fd : FuncData} (F : Fun K "_law_mixed" "_law_mixed" s__law_mixed f fd) (gf : mg "_law_mixed" = some (.ref f))   (m_int : mg "int" = none)  : Cal P w K mg base "_law_mixed" 1 ["number", "k"] (sp__law_mixed K) := by
  refine ⟨f, fd, F.ok sc__law_mixed len__law_mixed (fun cdv A outer s H vs Q E hr h => ⟨t__law_mixed , PSs.nox ?_, pure__law_mixed vs H Q E h⟩), F.kp, F.binds (fun _ _ _ _ _ _ us hl => match us, hl with | [_, _], _ => rfl), gf⟩
  exact (pss_cons (ps_set (i := 2) sc__law_mixed.nd rfl (by first | exact .inl rfl | exact .inr rfl) (pe_op op_mod (pe_callTy call_int1 (by rfl) m_int (by decide +kernel) (pa_cons (pe_op op_add (pe_op op_add (pe_op op_mul (pv 0) pe_int) (pe_op op_mul (pv 1) pe_int)) pe_int) pa_nil)) pe_int))
  (pss_cons (ps_set (i := 3) sc__law_mixed.nd rfl (by first | exact .inl rfl | exact .inr rfl) (pe_op op_mod (pe_callTy call_int1 (by rfl) m_int (by decide +kernel) (pa_cons (pe_op op_add (pe_op op_add (pe_op op_mul (pv 2) (pe_op op_add (pe_op op_add (pv 2) (pe_op op_mul pe_int (pv 1))) pe_int)) (pe_op op_mul (pv 1) pe_int)) pe_int) pa_nil)) pe_int))
  (pss_one (ps_ret (pe_op op_mod (pe_callTy call_int1 (by rfl) m_int (by decide +kernel) (pa_cons (pe_op op_add (pe_op op_mul (pv 3) pe_int) (pv 2)) pa_nil)) pe_int)))))
abbrev s__law_start : Stmt := topS 34
abbrev n__law_start : List Str := ["script", "seed", "cell"]
theorem sc__law_start : FnScope n__law_start ["script"] (defScope s__law_start) := ⟨rfl, rfl, rfl, by decide +kernel, rfl, by decide +kernel, by decide +kernel⟩
theorem ok__law_start {P : Program} {w : World} {K : PySem.W.Frag} {mg : Str → Option Value} {base : Heap} {f : Addr} {fd : FuncData} (F : Fun K "_law_start" "_law_start" s__law_start f fd) (gf : mg "_law_start" = some (.ref f)) (C__law_mixed : Cal P w K mg base "_law_mixed" 1 ["number", "k"] (sp__law_mixed K))  (m_len : mg "len" = none) (m_list : mg "list" = none)  : Cal P w K mg base "_law_start" 2 ["script"] (sp__law_start K) := by
  refine ⟨f, fd, F.ok sc__law_start len__law_start (fun cdv A outer s H vs Q E hr h => ⟨t__law_start K, PSs.nox ?_, pure__law_start vs H Q E h⟩), F.kp, F.binds (fun _ _ _ _ _ _ us hl => match us, hl with | [_], _ => rfl), gf⟩
  exact (pss_cons (ps_set (i := 1) sc__law_start.nd rfl (by first | exact .inl rfl | exact .inr rfl) (pe_callB call_len1 (by rfl) m_len (by decide +kernel) (pa_cons (pv 0) pa_nil)))
  (pss_cons (ps_for PassesOwn.never rfl (pi_list (pe_slice sl_list (pv 0) po_none (po_some pe_int))) (pg_name (i := 2) sc__law_start.nd rfl (by first | exact .inl rfl | exact .inr rfl))
  (pss_one (ps_set (i := 1) sc__law_start.nd rfl (by first | exact .inl rfl | exact .inr rfl) (pe_cal C__law_mixed (hr.mono (by decide)) rfl (pa_cons (pe_op op_add (pv 1) (pv 2)) (pa_cons pe_int pa_nil))))))
  (pss_one (ps_ret (pe_lst (pa_cons pe_int (pa_cons pe_int (pa_cons pe_int (pa_cons (pv 1) (pa_cons (pe_callTy call_listOf (by rfl) m_list (by decide +kernel) (pa_cons (pe_slice sl_list (pv 0) po_none (po_some pe_int)) pa_nil)) (pa_cons pe_int pa_nil)))))))))))
abbrev s__law_take : Stmt := topS 35
abbrev n__law_take : List Str := ["state", "limit", "cells", "cell", "value"]
theorem sc__law_take : FnScope n__law_take ["state", "limit"] (defScope s__law_take) := ⟨rfl, rfl, rfl, by decide +kernel, rfl, by decide +kernel, by decide +kernel⟩
theorem ok__law_take {P : Program} {w : World} {K : PySem.W.Frag} {mg : Str → Option Value} {base : Heap} {f : Addr} {fd : FuncData} (F : Fun K "_law_take" "_law_take" s__law_take f fd) (gf : mg "_law_take" = some (.ref f)) (C__law_mixed : Cal P w K mg base "_law_mixed" 1 ["number", "k"] (sp__law_mixed K))  (m_abs : mg "abs" = none) (m_int : mg "int" = none) (m_len : mg "len" = none)  : Cal P w K mg base "_law_take" 2 ["state", "limit"] (sp__law_take K) := by
  refine ⟨f, fd, F.ok sc__law_take len__law_take (fun cdv A outer s H vs Q E hr h => ⟨t__law_take K, PSs.nox ?_, pure__law_take vs H Q E h⟩), F.kp, F.binds (fun _ _ _ _ _ _ us hl => match us, hl with | [_, _], _ => rfl), gf⟩
  exact (pss_cons (ps_set (i := 2) sc__law_take.nd rfl (by first | exact .inl rfl | exact .inr rfl) (pe_ix ix_list (pv 0) pe_int (fun _ _ => rfl)))
  (pss_cons (ps_augS (pv 0) pe_int get_list pe_int ip_add set_list)
  (pss_cons (ps_if (PW.pt (pw_and (pt_cmpR op_eq (pe_ix ix_list (pv 0) pe_int (fun _ _ => rfl)) pe_int (nomark _)) (pw_and1 (pt_cmpR op_lt (pe_ix ix_list (pv 0) pe_int (fun _ _ => rfl)) (pe_callB call_len1 (by rfl) m_len (by decide +kernel) (pa_cons (pv 2) pa_nil)) (nomark _))))) (pss_cons (ps_set (i := 3) sc__law_take.nd rfl (by first | exact .inl rfl | exact .inr rfl) (pe_ix ix_list (pv 2) (pe_ix ix_list (pv 0) pe_int (fun _ _ => rfl)) (fun _ _ => rfl)))
  (pss_cons (ps_augS (pv 0) pe_int get_list pe_int ip_add set_list)
  (pss_cons (ps_if (pt_cmpR op_lt (pe_callB call_abs1 (by rfl) m_abs (by decide +kernel) (pa_cons (pv 3) pa_nil)) (pe_op op_pow pe_int pe_int) (nomark _)) (pss_one (ps_ret (pe_op op_mod (pe_callTy call_int1 (by rfl) m_int (by decide +kernel) (pa_cons (pe_cal C__law_mixed (hr.mono (by decide)) rfl (pa_cons (pv 3) (pa_cons (pe_ix ix_list (pv 0) pe_int (fun _ _ => rfl)) pa_nil))) pa_nil)) (pv 1)))) pss_nil)
  (pss_cons (ps_asg (pe_callB call_abs1 (by rfl) m_abs (by decide +kernel) (pa_cons (pv 3) pa_nil)) (pg_sub (pv 0) pe_int set_list))
  (pss_one (ps_asg pe_int (pg_sub (pv 0) pe_int set_list))))))) pss_nil)
  (pss_cons (ps_if (pt_cmpR op_eq (pe_ix ix_list (pv 0) pe_int (fun _ _ => rfl)) pe_int (nomark _)) (pss_one (ps_ret (pe_op op_mod (pe_callTy call_int1 (by rfl) m_int (by decide +kernel) (pa_cons (pe_cal C__law_mixed (hr.mono (by decide)) rfl (pa_cons (pe_ix ix_list (pv 0) pe_int (fun _ _ => rfl)) (pa_cons (pe_ix ix_list (pv 0) pe_int (fun _ _ => rfl)) pa_nil))) pa_nil)) (pv 1)))) pss_nil)
  (pss_cons (ps_set (i := 4) sc__law_take.nd rfl (by first | exact .inl rfl | exact .inr rfl) (pe_op op_mod (pe_callTy call_int1 (by rfl) m_int (by decide +kernel) (pa_cons (pe_ix ix_list (pv 0) pe_int (fun _ _ => rfl)) pa_nil)) (pv 1)))
  (pss_cons (ps_augS (pv 0) pe_int get_list pe_int ip_sub set_list)
  (pss_cons (ps_asg (pe_op op_mul (pe_op op_fdiv (pe_ix ix_list (pv 0) pe_int (fun _ _ => rfl)) (pv 1)) (pe_callTy call_int1 (by rfl) m_int (by decide +kernel) (pa_cons (pe_cmpR op_gt (pe_ix ix_list (pv 0) pe_int (fun _ _ => rfl)) pe_int (nomark _)) pa_nil))) (pg_sub (pv 0) pe_int set_list))
  (pss_one (ps_ret (pv 4))))))))))
abbrev s__law_pick : Stmt := topS 36
abbrev n__law_pick : List Str := ["state", "some"]
theorem sc__law_pick : FnScope n__law_pick ["state", "some"] (defScope s__law_pick) := ⟨rfl, rfl, rfl, by decide +kernel, rfl, by decide +kernel, by decide +kernel⟩
theorem ok__law_pick {P : Program} {w : World} {K : PySem.W.Frag} {mg : Str → Option Value} {base : Heap} {f : Addr} {fd : FuncData} (F : Fun K "_law_pick" "_law_pick" s__law_pick f fd) (gf : mg "_law_pick" = some (.ref f)) (C__law_take : Cal P w K mg base "_law_take" 2 ["state", "limit"] (sp__law_take K))  (m_len : mg "len" = none)  : Cal P w K mg base "_law_pick" 3 ["state", "some"] (sp__law_pick K) := by
  refine ⟨f, fd, F.ok sc__law_pick len__law_pick (fun cdv A outer s H vs Q E hr h => ⟨t__law_pick K, PSs.nox ?_, pure__law_pick vs H Q E h⟩), F.kp, F.binds (fun _ _ _ _ _ _ us hl => match us, hl with | [_, _], _ => rfl), gf⟩
  exact (pss_one (ps_ret (pe_ix ix_any (pv 1) (pe_cal C__law_take (hr.mono (by decide)) rfl (pa_cons (pv 0) (pa_cons (pe_callB call_len1 (by rfl) m_len (by decide +kernel) (pa_cons (pv 1) pa_nil)) pa_nil))) (fun _ _ => rfl))))
abbrev s__law_shuffled : Stmt := topS 37
abbrev n__law_shuffled : List Str := ["state", "some", "left", "found", "k", "at"]
theorem sc__law_shuffled : FnScope n__law_shuffled ["state", "some"] (defScope s__law_shuffled) := ⟨rfl, rfl, rfl, by decide +kernel, rfl, by decide +kernel, by decide +kernel⟩
theorem ok__law_shuffled {P : Program} {w : World} {K : PySem.W.Frag} {mg : Str → Option Value} {base : Heap} {f : Addr} {fd : FuncData} (F : Fun K "_law_shuffled" "_law_shuffled" s__law_shuffled f fd) (gf : mg "_law_shuffled" = some (.ref f)) (C__law_take : Cal P w K mg base "_law_take" 2 ["state", "limit"] (sp__law_take K))  (m_len : mg "len" = none) (m_list : mg "list" = none) (m_range : mg "range" = none)  : Cal P w K mg base "_law_shuffled" 3 ["state", "some"] (sp__law_shuffled K) := by
  refine ⟨f, fd, F.ok sc__law_shuffled len__law_shuffled (fun cdv A outer s H vs Q E hr h => ⟨t__law_shuffled K, PSs.nox ?_, pure__law_shuffled vs H Q E h⟩), F.kp, F.binds (fun _ _ _ _ _ _ us hl => match us, hl with | [_, _], _ => rfl), gf⟩
  exact (pss_cons (ps_set (i := 2) sc__law_shuffled.nd rfl (by first | exact .inl rfl | exact .inr rfl) (pe_callTy call_listOf (by rfl) m_list (by decide +kernel) (pa_cons (pv 1) pa_nil)))
  (pss_cons (ps_set (i := 3) sc__law_shuffled.nd rfl (by first | exact .inl rfl | exact .inr rfl) (pe_lst pa_nil))
  (pss_cons (ps_for PassesOwn.never rfl (pi_range1 (by rfl) m_range (pa_cons (pe_callB call_len1 (by rfl) m_len (by decide +kernel) (pa_cons (pv 1) pa_nil)) pa_nil)) (pg_name (i := 4) sc__law_shuffled.nd rfl (by first | exact .inl rfl | exact .inr rfl))
  (pss_cons (ps_set (i := 5) sc__law_shuffled.nd rfl (by first | exact .inl rfl | exact .inr rfl) (pe_cal C__law_take (hr.mono (by decide)) rfl (pa_cons (pv 0) (pa_cons (pe_callB call_len1 (by rfl) m_len (by decide +kernel) (pa_cons (pv 2) pa_nil)) pa_nil))))
  (pss_cons (ps_expr (pe_bm PySem.F.plainAttrs_list PySem.F.slot_list_append PySem.F.type_list_append mt_append (pv 3) (pa_cons (pe_ix ix_list (pv 2) (pv 5) (fun _ _ => rfl)) pa_nil)))
  (pss_one (ps_set (i := 2) sc__law_shuffled.nd rfl (by first | exact .inl rfl | exact .inr rfl) (pe_op op_cat (pe_slice sl_list (pv 2) po_none (po_some (pv 5))) (pe_slice sl_list (pv 2) (po_some (pe_op op_add (pv 5) pe_int)) po_none)))))))
  (pss_one (ps_ret (pv 3))))))
abbrev s__load : Stmt := topS 17
abbrev n__load : List Str := ["saying", "at", "moment", "xs", "lengths", "needs", "x", "length", "need"]
theorem sc__load : FnScope n__load ["saying", "at", "moment"] (defScope s__load) := ⟨rfl, rfl, rfl, by decide +kernel, rfl, by decide +kernel, by decide +kernel⟩
theorem ok__load {P : Program} {w : World} {K : PySem.W.Frag} {mg : Str → Option Value} {base : Heap} {f : Addr} {fd : FuncData} (F : Fun K "_load" "_load" s__load f fd) (gf : mg "_load" = some (.ref f))   (m_sum : mg "sum" = none) (m_zip : mg "zip" = none)  : Cal P w K mg base "_load" 1 ["saying", "at", "moment"] (sp__load K) := by
  refine ⟨f, fd, F.ok sc__load len__load (fun cdv A outer s H vs Q E hr h => ⟨t__load K, PSs.nox ?_, pure__load vs H Q E h⟩), F.kp, F.binds (fun _ _ _ _ _ _ us hl => match us, hl with | [_, _, _], _ => rfl), gf⟩
  exact (pss_cons (ps_asg (pe_slice sl_tupA (pv 0) (po_some pe_int) (po_some pe_int)) (pg_tup rfl (pgs_cons (pg_name (i := 3) sc__load.nd rfl (by first | exact .inl rfl | exact .inr rfl)) (pgs_cons (pg_name (i := 4) sc__load.nd rfl (by first | exact .inl rfl | exact .inr rfl)) (pgs_cons (pg_name (i := 5) sc__load.nd rfl (by first | exact .inl rfl | exact .inr rfl)) pgs_nil)))))
  (pss_one (ps_ret (pe_callB (cr_sum rfl) (by rfl) m_sum (by decide +kernel) (pa_cons (pe_lc (own := [("x", 6), ("length", 7), ("need", 8)]) rfl sc__load.nd (pi_zip3 (by rfl) m_zip (pa_cons (pv 3) (pa_cons (pv 4) (pa_cons (pv 5) pa_nil)))) (blkOk_by (own := [("x", 6), ("length", 7), ("need", 8)]) (N := n__load) (sc := defScope s__load) (by decide +kernel)) (fun _ _ _ _ _ => (pg_tup rfl (pgs_cons (pg_name (i := 6) sc__load.nd rfl (by first | exact .inl rfl | exact .inr rfl)) (pgs_cons (pg_name (i := 7) sc__load.nd rfl (by first | exact .inl rfl | exact .inr rfl)) (pgs_cons (pg_name (i := 8) sc__load.nd rfl (by first | exact .inl rfl | exact .inr rfl)) pgs_nil))))) (fun _ _ _ _ _ => (pts_one (pt_chain op_le op_lt (pe_dget (hu_of hr) (pv 1) (pv 6) (fun _ _ => rfl)) (pv 2) (pe_op op_add (pe_dget (hu_of hr) (pv 1) (pv 6) (fun _ _ => rfl)) (pv 7))))) (fun _ _ _ _ _ => (pv 8))) pa_nil)))))
abbrev s__works_holds : Stmt := topS 16
abbrev n__works_holds : List Str := ["saying", "at", "x"]
theorem sc__works_holds : FnScope n__works_holds ["saying", "at"] (defScope s__works_holds) := ⟨rfl, rfl, rfl, by decide +kernel, rfl, by decide +kernel, by decide +kernel⟩
theorem ok__works_holds {P : Program} {w : World} {K : PySem.W.Frag} {mg : Str → Option Value} {base : Heap} {f : Addr} {fd : FuncData} (F : Fun K "_works_holds" "_works_holds" s__works_holds f fd) (gf : mg "_works_holds" = some (.ref f)) (C__load : Cal P w K mg base "_load" 1 ["saying", "at", "moment"] (sp__load K))  (m_all : mg "all" = none)  : Cal P w K mg base "_works_holds" 2 ["saying", "at"] (sp__works_holds K) := by
  refine ⟨f, fd, F.ok sc__works_holds len__works_holds (fun cdv A outer s H vs Q E hr h => ⟨t__works_holds K, PSs.nox ?_, pure__works_holds vs H Q E h⟩), F.kp, F.binds (fun _ _ _ _ _ _ us hl => match us, hl with | [_, _], _ => rfl), gf⟩
  exact (pss_one (ps_ret (pe_callB (cr_all rfl) (by rfl) m_all (by decide +kernel) (pa_cons (pe_lc (own := [("x", 2)]) rfl sc__works_holds.nd (pi_tup (pe_ix ix_tup (pv 0) pe_int (fun _ _ => rfl))) (blkOk_by (own := [("x", 2)]) (N := n__works_holds) (sc := defScope s__works_holds) (by decide +kernel)) (fun _ _ _ _ _ => (pg_name (i := 2) sc__works_holds.nd rfl (by first | exact .inl rfl | exact .inr rfl))) (fun _ _ _ _ _ => pts_nil) (fun _ _ _ _ _ => (pe_cmpR op_le (pe_cal C__load (hr.mono (by decide)) rfl (pa_cons (pv 0) (pa_cons (pv 1) (pa_cons (pe_dget (hu_of hr) (pv 1) (pv 2) (fun _ _ => rfl)) pa_nil)))) (pe_ix ix_tup (pv 0) pe_int (fun _ _ => rfl)) (nomark _)))) pa_nil))))
abbrev s__places_met : Stmt := topS 25
abbrev n__places_met : List Str := ["xs", "at", "path", "_", "place"]
theorem sc__places_met : FnScope n__places_met ["xs", "at"] (defScope s__places_met) := ⟨rfl, rfl, rfl, by decide +kernel, rfl, by decide +kernel, by decide +kernel⟩
theorem ok__places_met {P : Program} {w : World} {K : PySem.W.Frag} {mg : Str → Option Value} {base : Heap} {f : Addr} {fd : FuncData} (F : Fun K "_places_met" "_places_met" s__places_met f fd) (gf : mg "_places_met" = some (.ref f))   (m_len : mg "len" = none)  : Cal P w K mg base "_places_met" 1 ["xs", "at"] (sp__places_met K) := by
  refine ⟨f, fd, F.ok sc__places_met len__places_met (fun cdv A outer s H vs Q E hr h => ⟨t__places_met K, PSs.nox ?_, pure__places_met vs H Q E h⟩), F.kp, F.binds (fun _ _ _ _ _ _ us hl => match us, hl with | [_, _], _ => rfl), gf⟩
  exact (pss_cons (ps_set (i := 2) sc__places_met.nd rfl (by first | exact .inl rfl | exact .inr rfl) (pe_lst (pa_cons pe_int pa_nil)))
  (pss_cons (ps_for PassesOwn.never rfl (pi_tup (pv 0)) (pg_name (i := 3) sc__places_met.nd rfl (by first | exact .inl rfl | exact .inr rfl))
  (pss_cons (ps_set (i := 4) sc__places_met.nd rfl (by first | exact .inl rfl | exact .inr rfl) (pe_dget (hu_of hr) (pv 1) (pe_ix ix_tup (pv 0) (pe_ix ix_list (pv 2) (pe_un un_neg pe_int) (fun _ _ => rfl)) (fun _ _ => rfl)) (fun _ _ => rfl)))
  (pss_cons (ps_if (pt_not (pt_chain op_le op_lt pe_int (pv 4) (pe_callB call_len1 (by rfl) m_len (by decide +kernel) (pa_cons (pv 0) pa_nil)))) (pss_one (ps_ret (pv 2))) pss_nil)
  (pss_one (ps_expr (pe_bm PySem.F.plainAttrs_list PySem.F.slot_list_append PySem.F.type_list_append mt_append (pv 2) (pa_cons (pv 4) pa_nil)))))))
  (pss_one (ps_ret (pv 2)))))
abbrev s_path_of : Stmt := topS 22
abbrev n_path_of : List Str := ["saying", "at", "xs", "nexts", "before", "v", "behind", "x", "steps", "level"]
theorem sc_path_of : FnScope n_path_of ["saying", "at"] (defScope s_path_of) := ⟨rfl, rfl, rfl, by decide +kernel, rfl, by decide +kernel, by decide +kernel⟩
theorem ok_path_of {P : Program} {w : World} {K : PySem.W.Frag} {mg : Str → Option Value} {base : Heap} {f : Addr} {fd : FuncData} (F : Fun K "path_of" "path_of" s_path_of f fd) (gf : mg "path_of" = some (.ref f)) (C__places_met : Cal P w K mg base "_places_met" 1 ["xs", "at"] (sp__places_met K))    : Cal P w K mg base "path_of" 2 ["saying", "at"] (sp_path_of K) := by
  refine ⟨f, fd, F.ok sc_path_of len_path_of (fun cdv A outer s H vs Q E hr h => ⟨t_path_of K, PSs.nox ?_, pure_path_of vs H Q E h⟩), F.kp, F.binds (fun _ _ _ _ _ _ us hl => match us, hl with | [_, _], _ => rfl), gf⟩
  exact (pss_cons (ps_set (i := 2) sc_path_of.nd rfl (by first | exact .inl rfl | exact .inr rfl) (pe_ix ix_tup (pv 0) pe_int (fun _ _ => rfl)))
  (pss_cons (ps_if (pt_cmpR op_eq (pe_ix ix_tup (pv 0) pe_int (fun _ _ => rfl)) pe_str (nomark _)) (pss_one (ps_ret (pe_cal C__places_met (hr.mono (by decide)) rfl (pa_cons (pv 2) (pa_cons (pv 1) pa_nil))))) pss_nil)
  pss_never))
abbrev s__round_holds : Stmt := topS 18
abbrev n__round_holds : List Str := ["saying", "at", "path", "many"]
theorem sc__round_holds : FnScope n__round_holds ["saying", "at"] (defScope s__round_holds) := ⟨rfl, rfl, rfl, by decide +kernel, rfl, by decide +kernel, by decide +kernel⟩
theorem ok__round_holds {P : Program} {w : World} {K : PySem.W.Frag} {mg : Str → Option Value} {base : Heap} {f : Addr} {fd : FuncData} (F : Fun K "_round_holds" "_round_holds" s__round_holds f fd) (gf : mg "_round_holds" = some (.ref f)) (C_path_of : Cal P w K mg base "path_of" 2 ["saying", "at"] (sp_path_of K))  (m_len : mg "len" = none)  : Cal P w K mg base "_round_holds" 3 ["saying", "at"] (sp__round_holds K) := by
  refine ⟨f, fd, F.ok sc__round_holds len__round_holds (fun cdv A outer s H vs Q E hr h => ⟨t__round_holds K, PSs.nox ?_, pure__round_holds vs H Q E h⟩), F.kp, F.binds (fun _ _ _ _ _ _ us hl => match us, hl with | [_, _], _ => rfl), gf⟩
  exact (pss_cons (ps_set (i := 2) sc__round_holds.nd rfl (by first | exact .inl rfl | exact .inr rfl) (pe_cal C_path_of (hr.mono (by decide)) rfl (pa_cons (pv 0) (pa_cons (pv 1) pa_nil))))
  (pss_cons (ps_set (i := 3) sc__round_holds.nd rfl (by first | exact .inl rfl | exact .inr rfl) (pe_callB call_len1 (by rfl) m_len (by decide +kernel) (pa_cons (pe_ix ix_tup (pv 0) pe_int (fun _ _ => rfl)) pa_nil)))
  (pss_one (ps_ret (pe_and (pe_cmpR op_gt (pe_callB call_len1 (by rfl) m_len (by decide +kernel) (pa_cons (pv 2) pa_nil)) (pv 3) (nomark _)) (pe_and (pe_cmpR op_eq (pe_ix ix_list (pv 2) (pv 3) (fun _ _ => rfl)) pe_int (nomark _)) (pe_one (pe_cmpR op_notIn_seq pe_int (pe_slice sl_list (pv 2) (po_some pe_int) (po_some (pv 3))) (by rfl)))))))))
abbrev s_values_at : Stmt := topS 28
abbrev n_values_at : List Str := ["model", "filling", "item", "v"]
theorem sc_values_at : FnScope n_values_at ["model", "filling"] (defScope s_values_at) := ⟨rfl, rfl, rfl, by decide +kernel, rfl, by decide +kernel, by decide +kernel⟩
theorem ok_values_at {P : Program} {w : World} {K : PySem.W.Frag} {mg : Str → Option Value} {base : Heap} {f : Addr} {fd : FuncData} (F : Fun K "values_at" "values_at" s_values_at f fd) (gf : mg "values_at" = some (.ref f))   (m_zip : mg "zip" = none)  : Cal P w K mg base "values_at" 1 ["model", "filling"] (sp_values_at K) := by
  refine ⟨f, fd, F.ok sc_values_at len_values_at (fun cdv A outer s H vs Q E hr h => ⟨t_values_at K, PSs.nox ?_, pure_values_at vs H Q E h⟩), F.kp, F.binds (fun _ _ _ _ _ _ us hl => match us, hl with | [_, _], _ => rfl), gf⟩
  exact (pss_one (ps_ret (pe_dc (own := [("item", 2), ("v", 3)]) rfl sc_values_at.nd (pi_zipA (by rfl) m_zip (pa_cons (pe_ix ix_tup (pv 0) pe_int (fun _ _ => rfl)) (pa_cons (pv 1) pa_nil))) (blkOk_by (own := [("item", 2), ("v", 3)]) (N := n_values_at) (sc := defScope s_values_at) (by decide +kernel)) (fun _ _ _ _ _ => (pg_tup rfl (pgs_cons (pg_name (i := 2) sc_values_at.nd rfl (by first | exact .inl rfl | exact .inr rfl)) (pgs_cons (pg_name (i := 3) sc_values_at.nd rfl (by first | exact .inl rfl | exact .inr rfl)) pgs_nil)))) (fun _ _ _ _ _ => pts_nil) (fun _ _ _ _ _ => (pe_ix ix_tup (pv 2) pe_int (fun _ _ => rfl))) (fun _ _ _ _ _ => (pv 3)))))
abbrev s_saying_of : Stmt := topS 29
abbrev n_saying_of : List Str := ["model", "name", "sayings", "item"]
theorem sc_saying_of : FnScope n_saying_of ["model", "name"] (defScope s_saying_of) := ⟨rfl, rfl, rfl, by decide +kernel, rfl, by decide +kernel, by decide +kernel⟩
theorem ok_saying_of {P : Program} {w : World} {K : PySem.W.Frag} {mg : Str → Option Value} {base : Heap} {f : Addr} {fd : FuncData} (F : Fun K "saying_of" "saying_of" s_saying_of f fd) (gf : mg "saying_of" = some (.ref f))     : Cal P w K mg base "saying_of" 1 ["model", "name"] (sp_saying_of K) := by
  refine ⟨f, fd, F.ok sc_saying_of len_saying_of (fun cdv A outer s H vs Q E hr h => ⟨t_saying_of K, PSs.nox ?_, pure_saying_of vs H Q E h⟩), F.kp, F.binds (fun _ _ _ _ _ _ us hl => match us, hl with | [_, _], _ => rfl), gf⟩
  exact (pss_cons (ps_setDc (i := 2) (own := [("item", 3)]) rfl sc_saying_of.nd rfl rfl (sw_trueD rfl rfl rfl (by decide +kernel)) (pi_tup (pe_op op_catA (pe_ix ix_tup (pv 0) pe_int (fun _ _ => rfl)) (pe_ix ix_tup (pv 0) pe_int (fun _ _ => rfl)))) (blkOk_by (own := [("item", 3)]) (N := n_saying_of) (sc := defScope s_saying_of) (by decide +kernel)) (fun _ _ _ _ _ => (pg_name (i := 3) sc_saying_of.nd rfl (by first | exact .inl rfl | exact .inr rfl))) (fun _ _ _ _ _ => pts_nil) (fun _ _ _ _ _ => (pe_ix ix_tup (pv 3) pe_int (fun _ _ => rfl))) (fun _ _ _ _ _ => (pe_ix ix_tup (pv 3) pe_int (fun _ _ => rfl))))
  (pss_one (ps_ret (pe_dget (hu_of hr) (pv 2) (pv 1) (fun _ _ => rfl)))))
abbrev s_keeps_saying : Stmt := topS 30
abbrev n_keeps_saying : List Str := ["model", "name", "filling"]
theorem sc_keeps_saying : FnScope n_keeps_saying ["model", "name", "filling"] (defScope s_keeps_saying) := ⟨rfl, rfl, rfl, by decide +kernel, rfl, by decide +kernel, by decide +kernel⟩
theorem ok_keeps_saying {P : Program} {w : World} {K : PySem.W.Frag} {mg : Str → Option Value} {base : Heap} {f : Addr} {fd : FuncData} (F : Fun K "keeps_saying" "keeps_saying" s_keeps_saying f fd) (gf : mg "keeps_saying" = some (.ref f)) (C_holds : Cal P w K mg base "holds" 4 ["saying", "at"] (sp_holds K)) (C_saying_of : Cal P w K mg base "saying_of" 1 ["model", "name"] (sp_saying_of K)) (C_values_at : Cal P w K mg base "values_at" 1 ["model", "filling"] (sp_values_at K))    : FnOk P w K mg base CX0 5 f fd ["model", "name", "filling"] (sp_keeps_saying K) := by
  refine F.ok sc_keeps_saying len_keeps_saying (fun cdv A outer s H vs Q E hr h => ⟨t_keeps_saying K, PSs.nox ?_, pure_keeps_saying vs H Q E h⟩)
  exact (pss_one (ps_ret (pe_cal C_holds (hr.mono (by decide)) rfl (pa_cons (pe_cal C_saying_of (hr.mono (by decide)) rfl (pa_cons (pv 0) (pa_cons (pv 1) pa_nil))) (pa_cons (pe_cal C_values_at (hr.mono (by decide)) rfl (pa_cons (pv 0) (pa_cons (pv 2) pa_nil))) pa_nil)))))
abbrev s_keeps : Stmt := topS 31
abbrev n_keeps : List Str := ["model", "filling", "at", "name", "saying"]
theorem sc_keeps : FnScope n_keeps ["model", "filling"] (defScope s_keeps) := ⟨rfl, rfl, rfl, by decide +kernel, rfl, by decide +kernel, by decide +kernel⟩
theorem ok_keeps {P : Program} {w : World} {K : PySem.W.Frag} {mg : Str → Option Value} {base : Heap} {f : Addr} {fd : FuncData} (F : Fun K "keeps" "keeps" s_keeps f fd) (gf : mg "keeps" = some (.ref f)) (C_holds : Cal P w K mg base "holds" 4 ["saying", "at"] (sp_holds K)) (C_values_at : Cal P w K mg base "values_at" 1 ["model", "filling"] (sp_values_at K))    : FnOk P w K mg base CX0 5 f fd ["model", "filling"] (sp_keeps K) := by
  refine F.ok sc_keeps len_keeps (fun cdv A outer s H vs Q E hr h => ⟨t_keeps K, PSs.nox ?_, pure_keeps vs H Q E h⟩)
  exact (pss_cons (ps_set (i := 2) sc_keeps.nd rfl (by first | exact .inl rfl | exact .inr rfl) (pe_cal C_values_at (hr.mono (by decide)) rfl (pa_cons (pv 0) (pa_cons (pv 1) pa_nil))))
  (pss_cons (ps_for PassesOwn.never rfl (pi_tup (pe_ix ix_tup (pv 0) pe_int (fun _ _ => rfl))) (pg_tup rfl (pgs_cons (pg_name (i := 3) sc_keeps.nd rfl (by first | exact .inl rfl | exact .inr rfl)) (pgs_cons (pg_name (i := 4) sc_keeps.nd rfl (by first | exact .inl rfl | exact .inr rfl)) pgs_nil)))
  (pss_one (ps_if (pt_not (pt_val (pe_cal C_holds (hr.mono (by decide)) rfl (pa_cons (pv 4) (pa_cons (pv 2) pa_nil))))) (pss_one (ps_ret pe_bl)) pss_nil)))
  (pss_one (ps_ret pe_bl))))
abbrev s__law_is_due : Stmt := topS 40
abbrev n__law_is_due : List Str := ["told", "due"]
theorem sc__law_is_due : FnScope n__law_is_due ["told", "due"] (defScope s__law_is_due) := ⟨rfl, rfl, rfl, by decide +kernel, rfl, by decide +kernel, by decide +kernel⟩
theorem ok__law_is_due {P : Program} {w : World} {K : PySem.W.Frag} {mg : Str → Option Value} {base : Heap} {f : Addr} {fd : FuncData} (F : Fun K "_law_is_due" "_law_is_due" s__law_is_due f fd) (gf : mg "_law_is_due" = some (.ref f))     : Cal P w K mg base "_law_is_due" 1 ["told", "due"] (sp__law_is_due K) := by
  refine ⟨f, fd, F.ok sc__law_is_due len__law_is_due (fun cdv A outer s H vs Q E hr h => ⟨t__law_is_due , PSs.nox ?_, pure__law_is_due vs H Q E h⟩), F.kp, F.binds (fun _ _ _ _ _ _ us hl => match us, hl with | [_, _], _ => rfl), gf⟩
  exact (pss_one (ps_ret (pe_ifExp (pt_val (pv 1)) (pe_cmpR op_isBl (pv 0) pe_bl (nomark _)) (pe_cmpR op_isBl (pv 0) pe_bl (nomark _)))))
abbrev s__law_world : Stmt := topS 42
abbrev n__law_world : List Str := ["doms", "filling", "at", "k"]
theorem sc__law_world : FnScope n__law_world ["doms", "filling"] (defScope s__law_world) := ⟨rfl, rfl, rfl, by decide +kernel, rfl, by decide +kernel, by decide +kernel⟩
theorem ok__law_world {P : Program} {w : World} {K : PySem.W.Frag} {mg : Str → Option Value} {base : Heap} {f : Addr} {fd : FuncData} (F : Fun K "_law_world" "_law_world" s__law_world f fd) (gf : mg "_law_world" = some (.ref f))   (m_len : mg "len" = none) (m_range : mg "range" = none)  : Cal P w K mg base "_law_world" 1 ["doms", "filling"] (sp__law_world K) := by
  refine ⟨f, fd, F.ok sc__law_world len__law_world (fun cdv A outer s H vs Q E hr h => ⟨t__law_world K, PSs.nox ?_, pure__law_world vs H Q E h⟩), F.kp, F.binds (fun _ _ _ _ _ _ us hl => match us, hl with | [_, _], _ => rfl), gf⟩
  exact (pss_cons (ps_set (i := 2) sc__law_world.nd rfl (by first | exact .inl rfl | exact .inr rfl) pe_dnewK)
  (pss_cons (ps_for PassesOwn.never rfl (pi_range1 (by rfl) m_range (pa_cons (pe_callB call_len1 (by rfl) m_len (by decide +kernel) (pa_cons (pv 0) pa_nil)) pa_nil)) (pg_name (i := 3) sc__law_world.nd rfl (by first | exact .inl rfl | exact .inr rfl))
  (pss_one (ps_dput (hu_of hr) (pv 2) (pe_ix ix_tup (pe_ix ix_list (pv 0) (pv 3) (fun _ _ => rfl)) pe_int (fun _ _ => rfl)) (pe_ix ix_any (pv 1) (pv 3) (fun _ _ => rfl)) rfl)))
  (pss_one (ps_ret (pv 2)))))
abbrev s__law_peak : Stmt := topS 46
abbrev n__law_peak : List Str := ["xs", "lengths", "needs", "at", "peak", "j", "t", "k"]
theorem sc__law_peak : FnScope n__law_peak ["xs", "lengths", "needs", "at"] (defScope s__law_peak) := ⟨rfl, rfl, rfl, by decide +kernel, rfl, by decide +kernel, by decide +kernel⟩
theorem ok__law_peak {P : Program} {w : World} {K : PySem.W.Frag} {mg : Str → Option Value} {base : Heap} {f : Addr} {fd : FuncData} (F : Fun K "_law_peak" "_law_peak" s__law_peak f fd) (gf : mg "_law_peak" = some (.ref f))   (m_len : mg "len" = none) (m_max : mg "max" = none) (m_range : mg "range" = none) (m_sum : mg "sum" = none)  : Cal P w K mg base "_law_peak" 1 ["xs", "lengths", "needs", "at"] (sp__law_peak K) := by
  refine ⟨f, fd, F.ok sc__law_peak len__law_peak (fun cdv A outer s H vs Q E hr h => ⟨t__law_peak K, PSs.nox ?_, pure__law_peak vs H Q E h⟩), F.kp, F.binds (fun _ _ _ _ _ _ us hl => match us, hl with | [_, _, _, _], _ => rfl), gf⟩
  exact (pss_cons (ps_set (i := 4) sc__law_peak.nd rfl (by first | exact .inl rfl | exact .inr rfl) pe_int)
  (pss_cons (ps_for PassesOwn.never rfl (pi_range1 (by rfl) m_range (pa_cons (pe_callB call_len1 (by rfl) m_len (by decide +kernel) (pa_cons (pv 0) pa_nil)) pa_nil)) (pg_name (i := 5) sc__law_peak.nd rfl (by first | exact .inl rfl | exact .inr rfl))
  (pss_cons (ps_set (i := 6) sc__law_peak.nd rfl (by first | exact .inl rfl | exact .inr rfl) (pe_dget (hu_of hr) (pv 3) (pe_ix ix_any (pv 0) (pv 5) (fun _ _ => rfl)) (fun _ _ => rfl)))
  (pss_one (ps_set (i := 4) sc__law_peak.nd rfl (by first | exact .inl rfl | exact .inr rfl) (pe_callB (call_max2 rfl) (by rfl) m_max (by decide +kernel) (pa_cons (pv 4) (pa_cons (pe_callB (cr_sum rfl) (by rfl) m_sum (by decide +kernel) (pa_cons (pe_lc (own := [("k", 7)]) rfl sc__law_peak.nd (pi_range1 (by rfl) m_range (pa_cons (pe_callB call_len1 (by rfl) m_len (by decide +kernel) (pa_cons (pv 0) pa_nil)) pa_nil)) (blkOk_by (own := [("k", 7)]) (N := n__law_peak) (sc := defScope s__law_peak) (by decide +kernel)) (fun _ _ _ _ _ => (pg_name (i := 7) sc__law_peak.nd rfl (by first | exact .inl rfl | exact .inr rfl))) (fun _ _ _ _ _ => (pts_one (pt_chain op_le op_lt (pe_dget (hu_of hr) (pv 3) (pe_ix ix_any (pv 0) (pv 7) (fun _ _ => rfl)) (fun _ _ => rfl)) (pv 6) (pe_op op_add (pe_dget (hu_of hr) (pv 3) (pe_ix ix_any (pv 0) (pv 7) (fun _ _ => rfl)) (fun _ _ => rfl)) (pe_ix ix_any (pv 1) (pv 7) (fun _ _ => rfl)))))) (fun _ _ _ _ _ => (pe_ix ix_any (pv 2) (pv 7) (fun _ _ => rfl)))) pa_nil)) pa_nil)))))))
  (pss_one (ps_ret (pv 4)))))
abbrev s__law_holds : Stmt := topS 47
abbrev n__law_holds : List Str := ["saying", "at", "xs", "x", "here", "step"]
theorem sc__law_holds : FnScope n__law_holds ["saying", "at"] (defScope s__law_holds) := ⟨rfl, rfl, rfl, by decide +kernel, rfl, by decide +kernel, by decide +kernel⟩
theorem ok__law_holds {P : Program} {w : World} {K : PySem.W.Frag} {mg : Str → Option Value} {base : Heap} {f : Addr} {fd : FuncData} (F : Fun K "_law_holds" "_law_holds" s__law_holds f fd) (gf : mg "_law_holds" = some (.ref f)) (C__law_peak : Cal P w K mg base "_law_peak" 1 ["xs", "lengths", "needs", "at"] (sp__law_peak K))  (m_len : mg "len" = none) (m_range : mg "range" = none)  : Cal P w K mg base "_law_holds" 2 ["saying", "at"] (sp__law_holds K) := by
  refine ⟨f, fd, F.ok sc__law_holds len__law_holds (fun cdv A outer s H vs Q E hr h => ⟨t__law_holds K, PSs.nox ?_, pure__law_holds vs H Q E h⟩), F.kp, F.binds (fun _ _ _ _ _ _ us hl => match us, hl with | [_, _], _ => rfl), gf⟩
  exact (pss_cons (ps_set (i := 2) sc__law_holds.nd rfl (by first | exact .inl rfl | exact .inr rfl) (pe_ix ix_tup (pv 0) pe_int (fun _ _ => rfl)))
  (pss_cons (ps_if (pt_cmpR op_eq (pe_ix ix_tup (pv 0) pe_int (fun _ _ => rfl)) pe_str (nomark _)) (pss_one (ps_ret (pe_cmpR op_le (pe_cal C__law_peak (hr.mono (by decide)) rfl (pa_cons (pv 2) (pa_cons (pe_ix ix_tup (pv 0) pe_int (fun _ _ => rfl)) (pa_cons (pe_ix ix_tup (pv 0) pe_int (fun _ _ => rfl)) (pa_cons (pv 1) pa_nil))))) (pe_ix ix_tup (pv 0) pe_int (fun _ _ => rfl)) (nomark _)))) pss_nil)
  (pss_cons (ps_if (pt_cmpR op_gt (pe_callB call_len1 (by rfl) m_len (by decide +kernel) (pa_cons (pe_lc (own := [("x", 3)]) rfl sc__law_holds.nd (pi_tup (pv 2)) (blkOk_by (own := [("x", 3)]) (N := n__law_holds) (sc := defScope s__law_holds) (by decide +kernel)) (fun _ _ _ _ _ => (pg_name (i := 3) sc__law_holds.nd rfl (by first | exact .inl rfl | exact .inr rfl))) (fun _ _ _ _ _ => (pts_one (pt_not (pt_chain op_le op_lt pe_int (pe_dget (hu_of hr) (pv 1) (pv 3) (fun _ _ => rfl)) (pe_callB call_len1 (by rfl) m_len (by decide +kernel) (pa_cons (pv 2) pa_nil)))))) (fun _ _ _ _ _ => (pv 3))) pa_nil)) pe_int (nomark _)) (pss_one (ps_ret pe_bl)) pss_nil)
  (pss_cons (ps_set (i := 4) sc__law_holds.nd rfl (by first | exact .inl rfl | exact .inr rfl) pe_int)
  (pss_cons (ps_for PassesOwn.never rfl (pi_range1 (by rfl) m_range (pa_cons (pe_callB call_len1 (by rfl) m_len (by decide +kernel) (pa_cons (pv 2) pa_nil)) pa_nil)) (pg_name (i := 5) sc__law_holds.nd rfl (by first | exact .inl rfl | exact .inr rfl))
  (pss_cons (ps_set (i := 4) sc__law_holds.nd rfl (by first | exact .inl rfl | exact .inr rfl) (pe_dget (hu_of hr) (pv 1) (pe_ix ix_tup (pv 2) (pv 4) (fun _ _ => rfl)) (fun _ _ => rfl)))
  (pss_one (ps_if (pt_cmpR op_eq (pv 4) pe_int (nomark _)) (pss_one (ps_ret (pe_cmpR op_eq (pv 5) (pe_op op_sub (pe_callB call_len1 (by rfl) m_len (by decide +kernel) (pa_cons (pv 2) pa_nil)) pe_int) (nomark _)))) pss_nil))))
  (pss_one (ps_ret pe_bl)))))))
abbrev s__law_fillings : Stmt := topS 41
abbrev n__law_fillings : List Str := ["doms", "rows", "pair", "longer", "row", "v"]
theorem sc__law_fillings : FnScope n__law_fillings ["doms"] (defScope s__law_fillings) := ⟨rfl, rfl, rfl, by decide +kernel, rfl, by decide +kernel, by decide +kernel⟩
theorem ok__law_fillings {P : Program} {w : World} {K : PySem.W.Frag} {mg : Str → Option Value} {base : Heap} {f : Addr} {fd : FuncData} (F : Fun K "_law_fillings" "_law_fillings" s__law_fillings f fd) (gf : mg "_law_fillings" = some (.ref f))     : Cal P w K mg base "_law_fillings" 1 ["doms"] (sp__law_fillings K) := by
  refine ⟨f, fd, F.ok sc__law_fillings len__law_fillings (fun cdv A outer s H vs Q E hr h => ⟨t__law_fillings K, PSs.nox ?_, pure__law_fillings vs H Q E h⟩), F.kp, F.binds (fun _ _ _ _ _ _ us hl => match us, hl with | [_], _ => rfl), gf⟩
  exact (pss_cons (ps_set (i := 1) sc__law_fillings.nd rfl (by first | exact .inl rfl | exact .inr rfl) (pe_lst (pa_cons (pe_tup pa_nil) pa_nil)))
  (pss_cons (ps_for PassesOwn.never rfl (pi_list (pv 0)) (pg_name (i := 2) sc__law_fillings.nd rfl (by first | exact .inl rfl | exact .inr rfl))
  (pss_cons (ps_set (i := 3) sc__law_fillings.nd rfl (by first | exact .inl rfl | exact .inr rfl) (pe_lst pa_nil))
  (pss_cons (ps_for PassesOwn.never rfl (pi_list (pv 1)) (pg_name (i := 4) sc__law_fillings.nd rfl (by first | exact .inl rfl | exact .inr rfl))
  (pss_one (ps_set (i := 3) sc__law_fillings.nd rfl (by first | exact .inl rfl | exact .inr rfl) (pe_op op_cat (pv 3) (pe_lc (own := [("v", 5)]) rfl sc__law_fillings.nd (pi_tup (pe_ix ix_tup (pv 2) pe_int (fun _ _ => rfl))) (blkOk_by (own := [("v", 5)]) (N := n__law_fillings) (sc := defScope s__law_fillings) (by decide +kernel)) (fun _ _ _ _ _ => (pg_name (i := 5) sc__law_fillings.nd rfl (by first | exact .inl rfl | exact .inr rfl))) (fun _ _ _ _ _ => pts_nil) (fun _ _ _ _ _ => (pe_op op_catA (pv 4) (pe_tup (pa_cons (pv 5) pa_nil)))))))))
  (pss_one (ps_set (i := 1) sc__law_fillings.nd rfl (by first | exact .inl rfl | exact .inr rfl) (pv 3))))))
  (pss_one (ps_ret (pv 1)))))
abbrev s__law_near : Stmt := topS 43
abbrev n__law_near : List Str := ["state", "doms", "base", "row", "k", "at"]
theorem sc__law_near : FnScope n__law_near ["state", "doms", "base"] (defScope s__law_near) := ⟨rfl, rfl, rfl, by decide +kernel, rfl, by decide +kernel, by decide +kernel⟩
theorem ok__law_near {P : Program} {w : World} {K : PySem.W.Frag} {mg : Str → Option Value} {base : Heap} {f : Addr} {fd : FuncData} (F : Fun K "_law_near" "_law_near" s__law_near f fd) (gf : mg "_law_near" = some (.ref f)) (C__law_pick : Cal P w K mg base "_law_pick" 3 ["state", "some"] (sp__law_pick K)) (C__law_take : Cal P w K mg base "_law_take" 2 ["state", "limit"] (sp__law_take K))  (m_len : mg "len" = none) (m_list : mg "list" = none) (m_range : mg "range" = none) (m_tuple : mg "tuple" = none)  : Cal P w K mg base "_law_near" 4 ["state", "doms", "base"] (sp__law_near K) := by
  refine ⟨f, fd, F.ok sc__law_near len__law_near (fun cdv A outer s H vs Q E hr h => ⟨t__law_near K, PSs.nox ?_, pure__law_near vs H Q E h⟩), F.kp, F.binds (fun _ _ _ _ _ _ us hl => match us, hl with | [_, _, _], _ => rfl), gf⟩
  exact (pss_cons (ps_set (i := 3) sc__law_near.nd rfl (by first | exact .inl rfl | exact .inr rfl) (pe_callTy call_listOf (by rfl) m_list (by decide +kernel) (pa_cons (pv 2) pa_nil)))
  (pss_cons (ps_for PassesOwn.never rfl (pi_range1 (by rfl) m_range (pa_cons (pe_cal C__law_pick (hr.mono (by decide)) rfl (pa_cons (pv 0) (pa_cons (pe_lst (pa_cons pe_int (pa_cons pe_int (pa_cons pe_int (pa_cons pe_int (pa_cons pe_int (pa_cons pe_int (pa_cons (pe_op op_mul pe_int (pe_callB call_len1 (by rfl) m_len (by decide +kernel) (pa_cons (pv 1) pa_nil))) pa_nil)))))))) pa_nil))) pa_nil)) (pg_name (i := 4) sc__law_near.nd rfl (by first | exact .inl rfl | exact .inr rfl))
  (pss_cons (ps_set (i := 5) sc__law_near.nd rfl (by first | exact .inl rfl | exact .inr rfl) (pe_cal C__law_take (hr.mono (by decide)) rfl (pa_cons (pv 0) (pa_cons (pe_callB call_len1 (by rfl) m_len (by decide +kernel) (pa_cons (pv 1) pa_nil)) pa_nil))))
  (pss_one (ps_asg (pe_cal C__law_pick (hr.mono (by decide)) rfl (pa_cons (pv 0) (pa_cons (pe_ix ix_tup (pe_ix ix_list (pv 1) (pv 5) (fun _ _ => rfl)) pe_int (fun _ _ => rfl)) pa_nil))) (pg_sub (pv 3) (pv 5) set_list)))))
  (pss_one (ps_ret (pe_tupleOf (by rfl) m_tuple (pv 3))))))
abbrev s__law_parted : Stmt := topS 45
abbrev n__law_parted : List Str := ["state", "made", "at", "cut", "firm", "one"]
theorem sc__law_parted : FnScope n__law_parted ["state", "made", "at"] (defScope s__law_parted) := ⟨rfl, rfl, rfl, by decide +kernel, rfl, by decide +kernel, by decide +kernel⟩
theorem ok__law_parted {P : Program} {w : World} {K : PySem.W.Frag} {mg : Str → Option Value} {base : Heap} {f : Addr} {fd : FuncData} (F : Fun K "_law_parted" "_law_parted" s__law_parted f fd) (gf : mg "_law_parted" = some (.ref f)) (C__law_holds : Cal P w K mg base "_law_holds" 2 ["saying", "at"] (sp__law_holds K)) (C__law_take : Cal P w K mg base "_law_take" 2 ["state", "limit"] (sp__law_take K))  (m_len : mg "len" = none)  : Cal P w K mg base "_law_parted" 3 ["state", "made", "at"] (sp__law_parted K) := by
  refine ⟨f, fd, F.ok sc__law_parted len__law_parted (fun cdv A outer s H vs Q E hr h => ⟨t__law_parted K, PSs.nox ?_, pure__law_parted vs H Q E h⟩), F.kp, F.binds (fun _ _ _ _ _ _ us hl => match us, hl with | [_, _, _], _ => rfl), gf⟩
  exact (pss_cons (ps_set (i := 3) sc__law_parted.nd rfl (by first | exact .inl rfl | exact .inr rfl) (pe_cal C__law_take (hr.mono (by decide)) rfl (pa_cons (pv 0) (pa_cons (pe_callB call_len1 (by rfl) m_len (by decide +kernel) (pa_cons (pv 1) pa_nil)) pa_nil))))
  (pss_cons (ps_set (i := 4) sc__law_parted.nd rfl (by first | exact .inl rfl | exact .inr rfl) (pe_lc (own := [("one", 5)]) rfl sc__law_parted.nd (pi_list (pe_slice sl_list (pv 1) (po_some (pv 3)) po_none)) (blkOk_by (own := [("one", 5)]) (N := n__law_parted) (sc := defScope s__law_parted) (by decide +kernel)) (fun _ _ _ _ _ => (pg_name (i := 5) sc__law_parted.nd rfl (by first | exact .inl rfl | exact .inr rfl))) (fun _ _ _ _ _ => (pts_one (PW.pt (pw_or (pt_val (pe_cal C__law_holds (hr.mono (by decide)) rfl (pa_cons (pe_ix ix_tup (pv 5) pe_int (fun _ _ => rfl)) (pa_cons (pv 2) pa_nil)))) (pw_or1 (pt_cmpR op_eq (pe_cal C__law_take (hr.mono (by decide)) rfl (pa_cons (pv 0) (pa_cons pe_int pa_nil))) pe_int (nomark _))))))) (fun _ _ _ _ _ => (pv 5))))
  (pss_one (ps_ret (pe_lst (pa_cons (pv 4) (pa_cons (pe_lc (own := [("one", 5)]) rfl sc__law_parted.nd (pi_list (pv 1)) (blkOk_by (own := [("one", 5)]) (N := n__law_parted) (sc := defScope s__law_parted) (by decide +kernel)) (fun _ _ _ _ _ => (pg_name (i := 5) sc__law_parted.nd rfl (by first | exact .inl rfl | exact .inr rfl))) (fun _ _ _ _ _ => (pts_one (pt_cmpR (op_notInD (units65 hr)) (pv 5) (pv 4) (by rfl)))) (fun _ _ _ _ _ => (pv 5))) pa_nil)))))))
abbrev s__law_are_held : Stmt := topS 44
abbrev n__law_are_held : List Str := ["state", "doms", "firm", "soft", "fillings", "prices", "one", "model", "k", "filling", "at", "whole", "name", "saying", "due", "told"]
theorem sc__law_are_held : FnScope n__law_are_held ["state", "doms", "firm", "soft", "fillings"] (defScope s__law_are_held) := ⟨rfl, rfl, rfl, by decide +kernel, rfl, by decide +kernel, by decide +kernel⟩
theorem ok__law_are_held {P : Program} {w : World} {K : PySem.W.Frag} {mg : Str → Option Value} {base : Heap} {f : Addr} {fd : FuncData} (F : Fun K "_law_are_held" "_law_are_held" s__law_are_held f fd) (gf : mg "_law_are_held" = some (.ref f)) (C__law_holds : Cal P w K mg base "_law_holds" 2 ["saying", "at"] (sp__law_holds K)) (C__law_is_due : Cal P w K mg base "_law_is_due" 1 ["told", "due"] (sp__law_is_due K)) (C__law_take : Cal P w K mg base "_law_take" 2 ["state", "limit"] (sp__law_take K)) (C__law_world : Cal P w K mg base "_law_world" 1 ["doms", "filling"] (sp__law_world K)) (C_keeps : Cal P w K mg base "keeps" 5 ["model", "filling"] (sp_keeps K)) (C_keeps_saying : Cal P w K mg base "keeps_saying" 5 ["model", "name", "filling"] (sp_keeps_saying K)) (CK_keeps : CalK P w K mg base "keeps" 5 ["model", "filling"] ["model", "filling"] gK (sp_keeps K)) (CK_keeps_saying : CalK P w K mg base "keeps_saying" 5 ["model", "name", "filling"] ["model", "name", "filling"] gK (sp_keeps_saying K)) (m_len : mg "len" = none) (m_range : mg "range" = none) (m_tuple : mg "tuple" = none)  : Cal P w K mg base "_law_are_held" 6 ["state", "doms", "firm", "soft", "fillings"] (sp__law_are_held K) := by
  refine ⟨f, fd, F.ok sc__law_are_held len__law_are_held (fun cdv A outer s H vs Q E hr h => ⟨t__law_are_held K, PSs.nox ?_, pure__law_are_held vs H Q E h⟩), F.kp, F.binds (fun _ _ _ _ _ _ us hl => match us, hl with | [_, _, _, _, _], _ => rfl), gf⟩
  exact (pss_cons (ps_set (i := 5) sc__law_are_held.nd rfl (by first | exact .inl rfl | exact .inr rfl) (pe_lc (own := [("one", 6)]) rfl sc__law_are_held.nd (pi_list (pv 3)) (blkOk_by (own := [("one", 6)]) (N := n__law_are_held) (sc := defScope s__law_are_held) (by decide +kernel)) (fun _ _ _ _ _ => (pg_name (i := 6) sc__law_are_held.nd rfl (by first | exact .inl rfl | exact .inr rfl))) (fun _ _ _ _ _ => pts_nil) (fun _ _ _ _ _ => (pe_op op_add pe_int (pe_cal C__law_take (hr.mono (by decide)) rfl (pa_cons (pv 0) (pa_cons pe_int pa_nil)))))))
  (pss_cons (ps_set (i := 7) sc__law_are_held.nd rfl (by first | exact .inl rfl | exact .inr rfl) (pe_tup (pa_cons (pe_tupleOf (by rfl) m_tuple (pv 1)) (pa_cons (pe_tupleOf (by rfl) m_tuple (pv 2)) (pa_cons (pe_tupleOf (by rfl) m_tuple (pe_lc (own := [("k", 8)]) rfl sc__law_are_held.nd (pi_range1 (by rfl) m_range (pa_cons (pe_callB call_len1 (by rfl) m_len (by decide +kernel) (pa_cons (pv 3) pa_nil)) pa_nil)) (blkOk_by (own := [("k", 8)]) (N := n__law_are_held) (sc := defScope s__law_are_held) (by decide +kernel)) (fun _ _ _ _ _ => (pg_name (i := 8) sc__law_are_held.nd rfl (by first | exact .inl rfl | exact .inr rfl))) (fun _ _ _ _ _ => pts_nil) (fun _ _ _ _ _ => (pe_op op_catA (pe_ix ix_list (pv 3) (pv 8) (fun _ _ => rfl)) (pe_tup (pa_cons (pe_ix ix_list (pv 5) (pv 8) (fun _ _ => rfl)) pa_nil)))))) pa_nil)))))
  (pss_cons (ps_for PassesOwn.never rfl (pi_list (pv 4)) (pg_name (i := 9) sc__law_are_held.nd rfl (by first | exact .inl rfl | exact .inr rfl))
  (pss_cons (ps_set (i := 10) sc__law_are_held.nd rfl (by first | exact .inl rfl | exact .inr rfl) (pe_cal C__law_world (hr.mono (by decide)) rfl (pa_cons (pv 1) (pa_cons (pv 9) pa_nil))))
  (pss_cons (ps_set (i := 11) sc__law_are_held.nd rfl (by first | exact .inl rfl | exact .inr rfl) pe_bl)
  (pss_cons (ps_for PassesOwn.never rfl (pi_range1 (by rfl) m_range (pa_cons (pe_op op_add (pe_callB call_len1 (by rfl) m_len (by decide +kernel) (pa_cons (pv 2) pa_nil)) (pe_callB call_len1 (by rfl) m_len (by decide +kernel) (pa_cons (pv 3) pa_nil))) pa_nil)) (pg_name (i := 8) sc__law_are_held.nd rfl (by first | exact .inl rfl | exact .inr rfl))
  (pss_cons (ps_asg (pe_ix ix_list (pe_op op_cat (pv 2) (pv 3)) (pv 8) (fun _ _ => rfl)) (pg_tup rfl (pgs_cons (pg_name (i := 12) sc__law_are_held.nd rfl (by first | exact .inl rfl | exact .inr rfl)) (pgs_cons (pg_name (i := 13) sc__law_are_held.nd rfl (by first | exact .inl rfl | exact .inr rfl)) pgs_nil))))
  (pss_cons (ps_set (i := 14) sc__law_are_held.nd rfl (by first | exact .inl rfl | exact .inr rfl) (pe_cal C__law_holds (hr.mono (by decide)) rfl (pa_cons (pv 13) (pa_cons (pv 10) pa_nil))))
  (pss_cons (ps_set (i := 15) sc__law_are_held.nd rfl (by first | exact .inl rfl | exact .inr rfl) (pe_calK CK_keeps_saying (hr.mono (by decide)) rfl (pk_cons (pv 7) (pk_cons (pv 12) (pk_cons (pv 9) pk_nil)))))
  (pss_cons (ps_if (pt_not (pt_val (pe_cal C__law_is_due (hr.mono (by decide)) rfl (pa_cons (pv 15) (pa_cons (pv 14) pa_nil))))) (pss_one (ps_ret pe_bl)) pss_nil)
  (pss_one (ps_set (i := 11) sc__law_are_held.nd rfl (by first | exact .inl rfl | exact .inr rfl) (pe_and (pv 11) (pe_one (pe_or (pv 14) (pe_one (pe_cmpR op_ge (pv 8) (pe_callB call_len1 (by rfl) m_len (by decide +kernel) (pa_cons (pv 2) pa_nil)) (nomark _)))))))))))))
  (pss_cons (ps_if (PW.pt (pw_or (pt_not (pt_val (pe_cal C__law_is_due (hr.mono (by decide)) rfl (pa_cons (pe_cal C_keeps (hr.mono (by decide)) rfl (pa_cons (pv 7) (pa_cons (pv 9) pa_nil))) (pa_cons (pv 11) pa_nil))))) (pw_or1 (pt_not (pt_val (pe_cal C__law_is_due (hr.mono (by decide)) rfl (pa_cons (pe_calK CK_keeps (hr.mono (by decide)) rfl (pk_cons (pv 7) (pk_cons (pv 9) pk_nil))) (pa_cons (pv 11) pa_nil)))))))) (pss_one (ps_ret pe_bl)) pss_nil)
  (pss_one (ps_if (PW.pt (pw_and (pt_cmpR op_gt (pe_callB call_len1 (by rfl) m_len (by decide +kernel) (pa_cons (pv 3) pa_nil)) pe_int (nomark _)) (pw_and1 (pt_not (pt_val (pe_cal C__law_is_due (hr.mono (by decide)) rfl (pa_cons (pe_cal C_keeps_saying (hr.mono (by decide)) rfl (pa_cons (pv 7) (pa_cons (pe_ix ix_tup (pe_ix ix_list (pv 3) pe_int (fun _ _ => rfl)) pe_int (fun _ _ => rfl)) (pa_cons (pv 9) pa_nil)))) (pa_cons (pe_cal C__law_holds (hr.mono (by decide)) rfl (pa_cons (pe_ix ix_tup (pe_ix ix_list (pv 3) pe_int (fun _ _ => rfl)) pe_int (fun _ _ => rfl)) (pa_cons (pv 10) pa_nil))) pa_nil)))))))) (pss_one (ps_ret pe_bl)) pss_nil)))))))
  (pss_one (ps_ret pe_bl)))))
abbrev s__law_by_turns : Stmt := topS 51
abbrev n__law_by_turns : List Str := ["state", "doms", "made", "firm", "soft", "fillings", "base", "few", "turned", "k"]
theorem sc__law_by_turns : FnScope n__law_by_turns ["state", "doms", "made", "firm", "soft", "fillings", "base"] (defScope s__law_by_turns) := ⟨rfl, rfl, rfl, by decide +kernel, rfl, by decide +kernel, by decide +kernel⟩
theorem ok__law_by_turns {P : Program} {w : World} {K : PySem.W.Frag} {mg : Str → Option Value} {base : Heap} {f : Addr} {fd : FuncData} (F : Fun K "_law_by_turns" "_law_by_turns" s__law_by_turns f fd) (gf : mg "_law_by_turns" = some (.ref f)) (C__law_are_held : Cal P w K mg base "_law_are_held" 6 ["state", "doms", "firm", "soft", "fillings"] (sp__law_are_held K)) (C__law_near : Cal P w K mg base "_law_near" 4 ["state", "doms", "base"] (sp__law_near K))  (m_len : mg "len" = none) (m_range : mg "range" = none)  : Cal P w K mg base "_law_by_turns" 7 ["state", "doms", "made", "firm", "soft", "fillings", "base"] (sp__law_by_turns K) := by
  refine ⟨f, fd, F.ok sc__law_by_turns len__law_by_turns (fun cdv A outer s H vs Q E hr h => ⟨t__law_by_turns K, PSs.nox ?_, pure__law_by_turns vs H Q E h⟩), F.kp, F.binds (fun _ _ _ _ _ _ us hl => match us, hl with | [_, _, _, _, _, _, _], _ => rfl), gf⟩
  exact (pss_cons (ps_set (i := 7) sc__law_by_turns.nd rfl (by first | exact .inl rfl | exact .inr rfl) (pe_op op_cat (pe_op op_cat (pe_lst (pa_cons (pv 6) pa_nil)) (pe_slice sl_list (pv 5) po_none (po_some pe_int))) (pe_lst (pa_cons (pe_cal C__law_near (hr.mono (by decide)) rfl (pa_cons (pv 0) (pa_cons (pv 1) (pa_cons (pv 6) pa_nil)))) pa_nil))))
  (pss_cons (ps_setLc (i := 8) (own := [("k", 9)]) rfl sc__law_by_turns.nd rfl rfl (sw_true rfl rfl rfl (by decide +kernel)) (pi_range1 (by rfl) m_range (pa_cons (pe_callB call_len1 (by rfl) m_len (by decide +kernel) (pa_cons (pv 2) pa_nil)) pa_nil)) (blkOk_by (own := [("k", 9)]) (N := n__law_by_turns) (sc := defScope s__law_by_turns) (by decide +kernel)) (fun _ _ _ _ _ => (pg_name (i := 9) sc__law_by_turns.nd rfl (by first | exact .inl rfl | exact .inr rfl))) (fun _ _ _ _ _ => pts_nil) (fun _ _ _ _ _ => (pe_tup (pa_cons (pe_ix ix_tup (pe_ix ix_list (pv 2) (pv 9) (fun _ _ => rfl)) pe_int (fun _ _ => rfl)) (pa_cons (pe_ix ix_tup (pe_ix ix_list (pv 2) (pe_op op_sub (pv 9) pe_int) (fun _ _ => rfl)) pe_int (fun _ _ => rfl)) pa_nil)))))
  (pss_cons (ps_if (PW.pt (pw_or (pt_not (pt_val (pe_cal C__law_are_held (hr.mono (by decide)) rfl (pa_cons (pv 0) (pa_cons (pv 1) (pa_cons (pv 3) (pa_cons (pv 4) (pa_cons (pv 5) pa_nil)))))))) (pw_or1 (pt_not (pt_val (pe_cal C__law_are_held (hr.mono (by decide)) rfl (pa_cons (pv 0) (pa_cons (pv 1) (pa_cons (pe_slice sl_list (pv 8) (po_some pe_int) po_none) (pa_cons (pe_slice sl_list (pv 8) po_none (po_some pe_int)) (pa_cons (pv 7) pa_nil))))))))))) (pss_one (ps_ret pe_bl)) pss_nil)
  (pss_one (ps_ret (pe_cal C__law_are_held (hr.mono (by decide)) rfl (pa_cons (pv 0) (pa_cons (pv 1) (pa_cons (pv 3) (pa_cons (pv 4) (pa_cons (pv 7) pa_nil)))))))))))
abbrev s__law_domain : Stmt := topS 39
abbrev n__law_domain : List Str := ["state", "size", "wide", "found", "k", "low", "one"]
theorem sc__law_domain : FnScope n__law_domain ["state", "size"] (defScope s__law_domain) := ⟨rfl, rfl, rfl, by decide +kernel, rfl, by decide +kernel, by decide +kernel⟩
theorem ok__law_domain {P : Program} {w : World} {K : PySem.W.Frag} {mg : Str → Option Value} {base : Heap} {f : Addr} {fd : FuncData} (F : Fun K "_law_domain" "_law_domain" s__law_domain f fd) (gf : mg "_law_domain" = some (.ref f)) (C__law_pick : Cal P w K mg base "_law_pick" 3 ["state", "some"] (sp__law_pick K)) (C__law_take : Cal P w K mg base "_law_take" 2 ["state", "limit"] (sp__law_take K))  (m_max : mg "max" = none) (m_min : mg "min" = none) (m_range : mg "range" = none) (m_tuple : mg "tuple" = none)  : Cal P w K mg base "_law_domain" 4 ["state", "size"] (sp__law_domain K) := by
  refine ⟨f, fd, F.ok sc__law_domain len__law_domain (fun cdv A outer s H vs Q E hr h => ⟨t__law_domain K, PSs.nox ?_, pure__law_domain vs H Q E h⟩), F.kp, F.binds (fun _ _ _ _ _ _ us hl => match us, hl with | [_, _], _ => rfl), gf⟩
  exact (pss_cons (ps_set (i := 2) sc__law_domain.nd rfl (by first | exact .inl rfl | exact .inr rfl) (pe_cal C__law_pick (hr.mono (by decide)) rfl (pa_cons (pv 0) (pa_cons (pe_lst (pa_cons pe_int (pa_cons pe_int (pa_cons pe_int (pa_cons pe_int pa_nil))))) pa_nil))))
  (pss_cons (ps_set (i := 3) sc__law_domain.nd rfl (by first | exact .inl rfl | exact .inr rfl) (pe_lst (pa_cons pe_int pa_nil)))
  (pss_cons (ps_for PassesOwn.never rfl (pi_range1 (by rfl) m_range (pa_cons (pe_op op_sub (pv 1) pe_int) pa_nil)) (pg_name (i := 4) sc__law_domain.nd rfl (by first | exact .inl rfl | exact .inr rfl))
  (pss_one (ps_expr (pe_bm PySem.F.plainAttrs_list PySem.F.slot_list_append PySem.F.type_list_append mt_append (pv 3) (pa_cons (pe_op op_add (pe_op op_add (pe_ix ix_list (pv 3) (pe_un un_neg pe_int) (fun _ _ => rfl)) pe_int) (pe_cal C__law_take (hr.mono (by decide)) rfl (pa_cons (pv 0) (pa_cons (pv 2) pa_nil)))) pa_nil)))))
  (pss_cons (ps_set (i := 5) sc__law_domain.nd rfl (by first | exact .inl rfl | exact .inr rfl) (pe_cal C__law_pick (hr.mono (by decide)) rfl (pa_cons (pv 0) (pa_cons (pe_lst (pa_cons pe_int (pa_cons (pe_op op_fdiv (pe_un un_neg (pe_ix ix_list (pv 3) (pe_un un_neg pe_int) (fun _ _ => rfl))) pe_int) (pa_cons (pe_un un_neg pe_int) (pa_cons (pe_op op_sub pe_int (pe_ix ix_list (pv 3) (pe_un un_neg pe_int) (fun _ _ => rfl))) (pa_cons (pe_op op_sub (pe_cal C__law_take (hr.mono (by decide)) rfl (pa_cons (pv 0) (pa_cons pe_int pa_nil))) pe_int) pa_nil)))))) pa_nil))))
  (pss_cons (ps_set (i := 5) sc__law_domain.nd rfl (by first | exact .inl rfl | exact .inr rfl) (pe_callB (call_max2 rfl) (by rfl) m_max (by decide +kernel) (pa_cons (pe_un un_neg pe_int) (pa_cons (pe_callB (call_min2 rfl) (by rfl) m_min (by decide +kernel) (pa_cons (pe_op op_sub pe_int (pe_ix ix_list (pv 3) (pe_un un_neg pe_int) (fun _ _ => rfl))) (pa_cons (pv 5) pa_nil))) pa_nil))))
  (pss_one (ps_ret (pe_tupleOf (by rfl) m_tuple (pe_lc (own := [("one", 6)]) rfl sc__law_domain.nd (pi_list (pv 3)) (blkOk_by (own := [("one", 6)]) (N := n__law_domain) (sc := defScope s__law_domain) (by decide +kernel)) (fun _ _ _ _ _ => (pg_name (i := 6) sc__law_domain.nd rfl (by first | exact .inl rfl | exact .inr rfl))) (fun _ _ _ _ _ => pts_nil) (fun _ _ _ _ _ => (pe_op op_add (pv 5) (pv 6))))))))))))
abbrev s__law_circle : Stmt := topS 49
abbrev n__law_circle : List Str := ["state", "many", "order", "after", "k", "one", "two"]
theorem sc__law_circle : FnScope n__law_circle ["state", "many"] (defScope s__law_circle) := ⟨rfl, rfl, rfl, by decide +kernel, rfl, by decide +kernel, by decide +kernel⟩
theorem ok__law_circle {P : Program} {w : World} {K : PySem.W.Frag} {mg : Str → Option Value} {base : Heap} {f : Addr} {fd : FuncData} (F : Fun K "_law_circle" "_law_circle" s__law_circle f fd) (gf : mg "_law_circle" = some (.ref f)) (C__law_shuffled : Cal P w K mg base "_law_shuffled" 3 ["state", "some"] (sp__law_shuffled K)) (C__law_take : Cal P w K mg base "_law_take" 2 ["state", "limit"] (sp__law_take K))  (m_int : mg "int" = none) (m_list : mg "list" = none) (m_range : mg "range" = none)  : Cal P w K mg base "_law_circle" 4 ["state", "many"] (sp__law_circle K) := by
  refine ⟨f, fd, F.ok sc__law_circle len__law_circle (fun cdv A outer s H vs Q E hr h => ⟨t__law_circle K, PSs.nox ?_, pure__law_circle vs H Q E h⟩), F.kp, F.binds (fun _ _ _ _ _ _ us hl => match us, hl with | [_, _], _ => rfl), gf⟩
  exact (pss_cons (ps_set (i := 2) sc__law_circle.nd rfl (by first | exact .inl rfl | exact .inr rfl) (pe_cal C__law_shuffled (hr.mono (by decide)) rfl (pa_cons (pv 0) (pa_cons (pe_listRg rfl (by rfl) m_list (prg_1 (by rfl) m_range (pv 1))) pa_nil))))
  (pss_cons (ps_set (i := 3) sc__law_circle.nd rfl (by first | exact .inl rfl | exact .inr rfl) (pe_op op_rep (pe_lst (pa_cons pe_int pa_nil)) (pv 1)))
  (pss_cons (ps_for PassesOwn.never rfl (pi_range1 (by rfl) m_range (pa_cons (pv 1) pa_nil)) (pg_name (i := 4) sc__law_circle.nd rfl (by first | exact .inl rfl | exact .inr rfl))
  (pss_one (ps_asg (pe_ix ix_list (pv 2) (pe_op op_mod (pe_callTy call_int1 (by rfl) m_int (by decide +kernel) (pa_cons (pe_op op_add (pv 4) pe_int) pa_nil)) (pv 1)) (fun _ _ => rfl)) (pg_sub (pv 3) (pe_ix ix_list (pv 2) (pv 4) (fun _ _ => rfl)) set_list))))
  (pss_cons (ps_if (pt_cmpR op_eq (pe_cal C__law_take (hr.mono (by decide)) rfl (pa_cons (pv 0) (pa_cons pe_int pa_nil))) pe_int (nomark _)) (pss_cons (ps_par (i := 5) (j := 6) (by rfl) sc__law_circle.nd rfl rfl (by decide) rfl rfl (pa_cons (pe_cal C__law_take (hr.mono (by decide)) rfl (pa_cons (pv 0) (pa_cons (pv 1) pa_nil))) (pa_cons (pe_cal C__law_take (hr.mono (by decide)) rfl (pa_cons (pv 0) (pa_cons (pv 1) pa_nil))) pa_nil)) (by rfl))
  (pss_one (ps_asg (pe_tup (pa_cons (pe_ix ix_list (pv 3) (pv 6) (fun _ _ => rfl)) (pa_cons (pe_ix ix_list (pv 3) (pv 5) (fun _ _ => rfl)) pa_nil))) (pg_tup rfl (pgs_cons (pg_sub (pv 3) (pv 5) set_list) (pgs_cons (pg_sub (pv 3) (pv 6) set_list) pgs_nil)))))) pss_nil)
  (pss_one (ps_ret (pv 3)))))))
abbrev s__law_around : Stmt := topS 50
abbrev n__law_around : List Str := ["state", "value", "size", "many", "some", "v", "found"]
theorem sc__law_around : FnScope n__law_around ["state", "value", "size", "many"] (defScope s__law_around) := ⟨rfl, rfl, rfl, by decide +kernel, rfl, by decide +kernel, by decide +kernel⟩
theorem ok__law_around {P : Program} {w : World} {K : PySem.W.Frag} {mg : Str → Option Value} {base : Heap} {f : Addr} {fd : FuncData} (F : Fun K "_law_around" "_law_around" s__law_around f fd) (gf : mg "_law_around" = some (.ref f)) (C__law_shuffled : Cal P w K mg base "_law_shuffled" 3 ["state", "some"] (sp__law_shuffled K)) (C__law_take : Cal P w K mg base "_law_take" 2 ["state", "limit"] (sp__law_take K))  (m_list : mg "list" = none) (m_range : mg "range" = none) (m_sorted : mg "sorted" = none) (m_tuple : mg "tuple" = none)  : Cal P w K mg base "_law_around" 4 ["state", "value", "size", "many"] (sp__law_around K) := by
  refine ⟨f, fd, F.ok sc__law_around len__law_around (fun cdv A outer s H vs Q E hr h => ⟨t__law_around K, PSs.nox ?_, pure__law_around vs H Q E h⟩), F.kp, F.binds (fun _ _ _ _ _ _ us hl => match us, hl with | [_, _, _, _], _ => rfl), gf⟩
  exact (pss_cons (ps_setLc (i := 4) (own := [("v", 5)]) rfl sc__law_around.nd rfl rfl (sw_true rfl rfl rfl (by decide +kernel)) (pi_list (pe_op op_cat (pe_listRg rfl (by rfl) m_list (prg_1 (by rfl) m_range (pv 3))) (pe_lst (pa_cons (pe_un un_neg pe_int) (pa_cons (pv 3) (pa_cons (pe_op op_sub (pe_cal C__law_take (hr.mono (by decide)) rfl (pa_cons (pv 0) (pa_cons pe_int pa_nil))) pe_int) pa_nil)))))) (blkOk_by (own := [("v", 5)]) (N := n__law_around) (sc := defScope s__law_around) (by decide +kernel)) (fun _ _ _ _ _ => (pg_name (i := 5) sc__law_around.nd rfl (by first | exact .inl rfl | exact .inr rfl))) (fun _ _ _ _ _ => (pts_one (pt_cmpR op_ne (pv 5) (pv 1) (nomark _)))) (fun _ _ _ _ _ => (pv 5)))
  (pss_cons (ps_set (i := 6) sc__law_around.nd rfl (by first | exact .inl rfl | exact .inr rfl) (pe_disp (pps_cons (pv 1) pe_bl pps_nil) (by rfl) (by rfl) (fun z => by cases z) (by decide)))
  (pss_cons (ps_for PassesOwn.never rfl (pi_list (pe_slice sl_list (pe_cal C__law_shuffled (hr.mono (by decide)) rfl (pa_cons (pv 0) (pa_cons (pv 4) pa_nil))) po_none (po_some (pe_op op_sub (pv 2) pe_int)))) (pg_name (i := 5) sc__law_around.nd rfl (by first | exact .inl rfl | exact .inr rfl))
  (pss_one (ps_dput (hu_of hr) (pv 6) (pv 5) pe_bl rfl)))
  (pss_one (ps_ret (pe_tupleOf (by rfl) m_tuple (pe_callB (call_sortedDI rfl) (by rfl) m_sorted (by decide +kernel) (pa_cons (pv 6) pa_nil))))))))
abbrev s__law_works : Stmt := topS 48
abbrev n__law_works : List Str := ["state", "doms", "at", "xs", "pair", "long", "much", "lengths", "x", "needs", "room"]
theorem sc__law_works : FnScope n__law_works ["state", "doms", "at"] (defScope s__law_works) := ⟨rfl, rfl, rfl, by decide +kernel, rfl, by decide +kernel, by decide +kernel⟩
theorem ok__law_works {P : Program} {w : World} {K : PySem.W.Frag} {mg : Str → Option Value} {base : Heap} {f : Addr} {fd : FuncData} (F : Fun K "_law_works" "_law_works" s__law_works f fd) (gf : mg "_law_works" = some (.ref f)) (C__law_peak : Cal P w K mg base "_law_peak" 1 ["xs", "lengths", "needs", "at"] (sp__law_peak K)) (C__law_pick : Cal P w K mg base "_law_pick" 3 ["state", "some"] (sp__law_pick K)) (C__law_shuffled : Cal P w K mg base "_law_shuffled" 3 ["state", "some"] (sp__law_shuffled K)) (C__law_take : Cal P w K mg base "_law_take" 2 ["state", "limit"] (sp__law_take K))  (m_max : mg "max" = none) (m_min : mg "min" = none) (m_tuple : mg "tuple" = none)  : Cal P w K mg base "_law_works" 4 ["state", "doms", "at"] (sp__law_works K) := by
  refine ⟨f, fd, F.ok sc__law_works len__law_works (fun cdv A outer s H vs Q E hr h => ⟨t__law_works K, PSs.nox ?_, pure__law_works vs H Q E h⟩), F.kp, F.binds (fun _ _ _ _ _ _ us hl => match us, hl with | [_, _, _], _ => rfl), gf⟩
  exact (pss_cons (ps_setLc (i := 3) (own := [("pair", 4)]) rfl sc__law_works.nd rfl rfl (sw_true rfl rfl rfl (by decide +kernel)) (pi_list (pe_slice sl_list (pe_cal C__law_shuffled (hr.mono (by decide)) rfl (pa_cons (pv 0) (pa_cons (pv 1) pa_nil))) po_none (po_some (pe_cal C__law_pick (hr.mono (by decide)) rfl (pa_cons (pv 0) (pa_cons (pe_lst (pa_cons (pe_op op_add pe_int (pe_cal C__law_take (hr.mono (by decide)) rfl (pa_cons (pv 0) (pa_cons pe_int pa_nil)))) (pa_cons (pe_op op_add pe_int (pe_cal C__law_take (hr.mono (by decide)) rfl (pa_cons (pv 0) (pa_cons pe_int pa_nil)))) (pa_cons pe_int pa_nil)))) pa_nil)))))) (blkOk_by (own := [("pair", 4)]) (N := n__law_works) (sc := defScope s__law_works) (by decide +kernel)) (fun _ _ _ _ _ => (pg_name (i := 4) sc__law_works.nd rfl (by first | exact .inl rfl | exact .inr rfl))) (fun _ _ _ _ _ => pts_nil) (fun _ _ _ _ _ => (pe_ix ix_tup (pv 4) pe_int (fun _ _ => rfl))))
  (pss_cons (ps_asg (pe_tup (pa_cons (pe_cal C__law_pick (hr.mono (by decide)) rfl (pa_cons (pv 0) (pa_cons (pe_lst (pa_cons pe_int (pa_cons pe_int (pa_cons pe_int pa_nil)))) pa_nil))) (pa_cons (pe_cal C__law_pick (hr.mono (by decide)) rfl (pa_cons (pv 0) (pa_cons (pe_lst (pa_cons pe_int (pa_cons pe_int (pa_cons pe_int pa_nil)))) pa_nil))) pa_nil))) (pg_tup rfl (pgs_cons (pg_name (i := 5) sc__law_works.nd rfl (by first | exact .inl rfl | exact .inr rfl)) (pgs_cons (pg_name (i := 6) sc__law_works.nd rfl (by first | exact .inl rfl | exact .inr rfl)) pgs_nil))))
  (pss_cons (ps_setLc (i := 7) (own := [("x", 8)]) rfl sc__law_works.nd rfl rfl (sw_true rfl rfl rfl (by decide +kernel)) (pi_list (pv 3)) (blkOk_by (own := [("x", 8)]) (N := n__law_works) (sc := defScope s__law_works) (by decide +kernel)) (fun _ _ _ _ _ => (pg_name (i := 8) sc__law_works.nd rfl (by first | exact .inl rfl | exact .inr rfl))) (fun _ _ _ _ _ => pts_nil) (fun _ _ _ _ _ => (pe_op op_add pe_int (pe_cal C__law_take (hr.mono (by decide)) rfl (pa_cons (pv 0) (pa_cons (pv 5) pa_nil))))))
  (pss_cons (ps_setLc (i := 9) (own := [("x", 8)]) rfl sc__law_works.nd rfl rfl (sw_true rfl rfl rfl (by decide +kernel)) (pi_list (pv 3)) (blkOk_by (own := [("x", 8)]) (N := n__law_works) (sc := defScope s__law_works) (by decide +kernel)) (fun _ _ _ _ _ => (pg_name (i := 8) sc__law_works.nd rfl (by first | exact .inl rfl | exact .inr rfl))) (fun _ _ _ _ _ => pts_nil) (fun _ _ _ _ _ => (pe_cal C__law_take (hr.mono (by decide)) rfl (pa_cons (pv 0) (pa_cons (pv 6) pa_nil)))))
  (pss_cons (ps_set (i := 10) sc__law_works.nd rfl (by first | exact .inl rfl | exact .inr rfl) (pe_op op_add (pe_cal C__law_peak (hr.mono (by decide)) rfl (pa_cons (pv 3) (pa_cons (pv 7) (pa_cons (pv 9) (pa_cons (pv 2) pa_nil))))) (pe_cal C__law_pick (hr.mono (by decide)) rfl (pa_cons (pv 0) (pa_cons (pe_lst (pa_cons pe_int (pa_cons pe_int (pa_cons (pe_un un_neg pe_int) (pa_cons pe_int (pa_cons (pe_op op_sub (pe_cal C__law_take (hr.mono (by decide)) rfl (pa_cons (pv 0) (pa_cons pe_int pa_nil))) pe_int) pa_nil)))))) pa_nil)))))
  (pss_one (ps_ret (pe_tup (pa_cons pe_str (pa_cons (pe_tupleOf (by rfl) m_tuple (pv 3)) (pa_cons (pe_tupleOf (by rfl) m_tuple (pv 7)) (pa_cons (pe_tupleOf (by rfl) m_tuple (pv 9)) (pa_cons (pe_callB (call_max2 rfl) (by rfl) m_max (by decide +kernel) (pa_cons pe_int (pa_cons (pe_callB (call_min2 rfl) (by rfl) m_min (by decide +kernel) (pa_cons pe_int (pa_cons (pv 10) pa_nil))) pa_nil))) pa_nil)))))))))))))
abbrev s__law_names : Stmt := topS 38
abbrev n__law_names : List Str := ["state", "many", "signs", "style", "start", "step", "word", "k", "one", "two", "found", "first", "name"]
theorem sc__law_names : FnScope n__law_names ["state", "many"] (defScope s__law_names) := ⟨rfl, rfl, rfl, by decide +kernel, rfl, by decide +kernel, by decide +kernel⟩
theorem ok__law_names {P : Program} {w : World} {K : PySem.W.Frag} {mg : Str → Option Value} {base : Heap} {f : Addr} {fd : FuncData} (F : Fun K "_law_names" "_law_names" s__law_names f fd) (gf : mg "_law_names" = some (.ref f)) (C__law_shuffled : Cal P w K mg base "_law_shuffled" 3 ["state", "some"] (sp__law_shuffled K)) (C__law_take : Cal P w K mg base "_law_take" 2 ["state", "limit"] (sp__law_take K))  (m_int : mg "int" = none) (m_range : mg "range" = none) (m_str : mg "str" = none)  : Cal P w K mg base "_law_names" 4 ["state", "many"] (sp__law_names K) := by
  refine ⟨f, fd, F.ok sc__law_names len__law_names (fun cdv A outer s H vs Q E hr h => ⟨t__law_names K, PSs.nox ?_, pure__law_names vs H Q E h⟩), F.kp, F.binds (fun _ _ _ _ _ _ us hl => match us, hl with | [_, _], _ => rfl), gf⟩
  exact (pss_cons (ps_set (i := 2) sc__law_names.nd rfl (by first | exact .inl rfl | exact .inr rfl) pe_str)
  (pss_cons (ps_set (i := 3) sc__law_names.nd rfl (by first | exact .inl rfl | exact .inr rfl) (pe_cal C__law_take (hr.mono (by decide)) rfl (pa_cons (pv 0) (pa_cons pe_int pa_nil))))
  (pss_cons (ps_par (i := 4) (j := 5) (by rfl) sc__law_names.nd rfl rfl (by decide) rfl rfl (pa_cons (pe_cal C__law_take (hr.mono (by decide)) rfl (pa_cons (pv 0) (pa_cons pe_int pa_nil))) (pa_cons (pe_op op_add pe_int (pe_cal C__law_take (hr.mono (by decide)) rfl (pa_cons (pv 0) (pa_cons pe_int pa_nil)))) pa_nil)) (by rfl))
  (pss_cons (ps_set (i := 6) sc__law_names.nd rfl (by first | exact .inl rfl | exact .inr rfl) (pe_joinK pe_str (pe_lc (own := [("k", 7)]) rfl sc__law_names.nd (pi_range1 (by rfl) m_range (pa_cons pe_int pa_nil)) (blkOk_by (own := [("k", 7)]) (N := n__law_names) (sc := defScope s__law_names) (by decide +kernel)) (fun _ _ _ _ _ => (pg_name (i := 7) sc__law_names.nd rfl (by first | exact .inl rfl | exact .inr rfl))) (fun _ _ _ _ _ => pts_nil) (fun _ _ _ _ _ => (pe_ix ix_str (pv 2) (pe_cal C__law_take (hr.mono (by decide)) rfl (pa_cons (pv 0) (pa_cons pe_int pa_nil))) (fun _ _ => rfl))))))
  (pss_cons (ps_par (i := 8) (j := 9) (by rfl) sc__law_names.nd rfl rfl (by decide) rfl rfl (pa_cons (pe_cal C__law_take (hr.mono (by decide)) rfl (pa_cons (pv 0) (pa_cons pe_int pa_nil))) (pa_cons (pe_op op_add pe_int (pe_cal C__law_take (hr.mono (by decide)) rfl (pa_cons (pv 0) (pa_cons pe_int pa_nil)))) pa_nil)) (by rfl))
  (pss_cons (ps_set (i := 10) sc__law_names.nd rfl (by first | exact .inl rfl | exact .inr rfl) (pe_lst pa_nil))
  (pss_cons (ps_for PassesOwn.never rfl (pi_range1 (by rfl) m_range (pa_cons (pv 1) pa_nil)) (pg_name (i := 7) sc__law_names.nd rfl (by first | exact .inl rfl | exact .inr rfl))
  (pss_cons (ps_set (i := 11) sc__law_names.nd rfl (by first | exact .inl rfl | exact .inr rfl) (pe_ix ix_str (pv 2) (pe_op op_mod (pe_callTy call_int1 (by rfl) m_int (by decide +kernel) (pa_cons (pe_op op_add (pv 4) (pe_op op_mul (pv 5) (pv 7))) pa_nil)) pe_int) (fun _ _ => rfl)))
  (pss_cons (ps_set (i := 12) sc__law_names.nd rfl (by first | exact .inl rfl | exact .inr rfl) (pe_op op_addS (pe_op op_addS (pe_op op_addS (pe_op op_addS (pe_slice sl_str (pv 6) po_none (po_some (pv 8))) (pv 11)) (pe_slice sl_str (pv 6) (po_some (pe_op op_add (pv 8) pe_int)) (po_some (pv 9)))) (pe_ix ix_str (pv 2) (pe_op op_fdiv (pv 7) pe_int) (fun _ _ => rfl))) (pe_slice sl_str (pv 6) (po_some (pe_op op_add (pv 9) pe_int)) po_none)))
  (pss_cons (ps_if (pt_cmpR op_eq (pv 3) pe_int (nomark _)) (pss_one (ps_set (i := 12) sc__law_names.nd rfl (by first | exact .inl rfl | exact .inr rfl) (pe_op op_addS (pv 11) (pe_op op_repS (pe_ix ix_str (pv 2) (pe_op op_fdiv (pv 7) pe_int) (fun _ _ => rfl)) (pe_callTy call_int1 (by rfl) m_int (by decide +kernel) (pa_cons (pe_cmpR op_gt (pv 1) pe_int (nomark _)) pa_nil)))))) (pss_one (ps_if (pt_cmpR op_eq (pv 3) pe_int (nomark _)) (pss_one (ps_set (i := 12) sc__law_names.nd rfl (by first | exact .inl rfl | exact .inr rfl) (pe_op op_addS (pe_op op_addS (pe_slice sl_str (pv 6) po_none (po_some (pv 8))) (pv 11)) (pe_callTy call_str_int (by rfl) m_str (by decide +kernel) (pa_cons (pv 7) pa_nil))))) (pss_one (ps_if (pt_cmpR op_eq (pv 3) pe_int (nomark _)) (pss_one (ps_set (i := 12) sc__law_names.nd rfl (by first | exact .inl rfl | exact .inr rfl) (pe_op op_addS (pe_op op_addS (pe_op op_addS (pe_op op_addS (pe_slice sl_str (pv 6) po_none (po_some (pe_op op_add pe_int (pe_op op_fdiv (pv 8) pe_int)))) pe_str) (pe_callTy call_str_int (by rfl) m_str (by decide +kernel) (pa_cons (pe_op op_fdiv (pv 7) pe_int) pa_nil))) pe_str) (pe_callTy call_str_int (by rfl) m_str (by decide +kernel) (pa_cons (pe_op op_mod (pe_callTy call_int1 (by rfl) m_int (by decide +kernel) (pa_cons (pv 7) pa_nil)) pe_int) pa_nil))))) pss_nil)))))
  (pss_one (ps_expr (pe_bm PySem.F.plainAttrs_list PySem.F.slot_list_append PySem.F.type_list_append mt_append (pv 10) (pa_cons (pv 12) pa_nil))))))))
  (pss_one (ps_ret (pe_cal C__law_shuffled (hr.mono (by decide)) rfl (pa_cons (pv 0) (pa_cons (pv 10) pa_nil))))))))))))
abbrev s_law : Stmt := topS 52
abbrev n_law : List Str := ["script", "state", "great", "many", "more", "names", "after", "doms", "k", "size", "at", "pair", "rounds", "made", "order", "base", "parted", "fillings"]
theorem sc_law : FnScope n_law ["script"] (defScope s_law) := ⟨rfl, rfl, rfl, by decide +kernel, rfl, by decide +kernel, by decide +kernel⟩
theorem ok_law {P : Program} {w : World} {K : PySem.W.Frag} {mg : Str → Option Value} {base : Heap} {f : Addr} {fd : FuncData} (F : Fun K "law" "law" s_law f fd) (gf : mg "law" = some (.ref f)) (C__law_around : Cal P w K mg base "_law_around" 4 ["state", "value", "size", "many"] (sp__law_around K)) (C__law_by_turns : Cal P w K mg base "_law_by_turns" 7 ["state", "doms", "made", "firm", "soft", "fillings", "base"] (sp__law_by_turns K)) (C__law_circle : Cal P w K mg base "_law_circle" 4 ["state", "many"] (sp__law_circle K)) (C__law_domain : Cal P w K mg base "_law_domain" 4 ["state", "size"] (sp__law_domain K)) (C__law_fillings : Cal P w K mg base "_law_fillings" 1 ["doms"] (sp__law_fillings K)) (C__law_names : Cal P w K mg base "_law_names" 4 ["state", "many"] (sp__law_names K)) (C__law_near : Cal P w K mg base "_law_near" 4 ["state", "doms", "base"] (sp__law_near K)) (C__law_parted : Cal P w K mg base "_law_parted" 3 ["state", "made", "at"] (sp__law_parted K)) (C__law_pick : Cal P w K mg base "_law_pick" 3 ["state", "some"] (sp__law_pick K)) (C__law_shuffled : Cal P w K mg base "_law_shuffled" 3 ["state", "some"] (sp__law_shuffled K)) (C__law_start : Cal P w K mg base "_law_start" 2 ["script"] (sp__law_start K)) (C__law_take : Cal P w K mg base "_law_take" 2 ["state", "limit"] (sp__law_take K)) (C__law_works : Cal P w K mg base "_law_works" 4 ["state", "doms", "at"] (sp__law_works K)) (C__law_world : Cal P w K mg base "_law_world" 1 ["doms", "filling"] (sp__law_world K))  (m_int : mg "int" = none) (m_min : mg "min" = none) (m_range : mg "range" = none) (m_tuple : mg "tuple" = none)  : FnOk P w K mg base CX0 8 f fd ["script"] (sp_law K) := by
  refine F.ok sc_law len_law (fun cdv A outer s H vs Q E hr h => ⟨t_law K, PSs.nox ?_, pure_law vs H Q E h⟩)
  exact (pss_cons (ps_set (i := 1) sc_law.nd rfl (by first | exact .inl rfl | exact .inr rfl) (pe_cal C__law_start (hr.mono (by decide)) rfl (pa_cons (pv 0) pa_nil)))
  (pss_cons (ps_set (i := 2) sc_law.nd rfl (by first | exact .inl rfl | exact .inr rfl) (pe_cmpR op_eq (pe_cal C__law_take (hr.mono (by decide)) rfl (pa_cons (pv 1) (pa_cons pe_int pa_nil))) pe_int (nomark _)))
  (pss_cons (ps_set (i := 3) sc_law.nd rfl (by first | exact .inl rfl | exact .inr rfl) (pe_ifExp (pt_val (pv 2)) (pe_cal C__law_pick (hr.mono (by decide)) rfl (pa_cons (pv 1) (pa_cons (pe_lst (pa_cons pe_int (pa_cons (pe_op op_add pe_int (pe_cal C__law_take (hr.mono (by decide)) rfl (pa_cons (pv 1) (pa_cons pe_int pa_nil)))) pa_nil))) pa_nil))) (pe_op op_add pe_int (pe_cal C__law_take (hr.mono (by decide)) rfl (pa_cons (pv 1) (pa_cons pe_int pa_nil))))))
  (pss_cons (ps_set (i := 4) sc_law.nd rfl (by first | exact .inl rfl | exact .inr rfl) (pe_ifExp (pt_val (pv 2)) (pe_op op_add pe_int (pe_cal C__law_take (hr.mono (by decide)) rfl (pa_cons (pv 1) (pa_cons pe_int pa_nil)))) (pe_cal C__law_take (hr.mono (by decide)) rfl (pa_cons (pv 1) (pa_cons pe_int pa_nil)))))
  (pss_cons (ps_set (i := 5) sc_law.nd rfl (by first | exact .inl rfl | exact .inr rfl) (pe_cal C__law_names (hr.mono (by decide)) rfl (pa_cons (pv 1) (pa_cons (pe_op op_add (pe_op op_add (pv 3) (pv 4)) pe_int) pa_nil))))
  (pss_cons (ps_set (i := 6) sc_law.nd rfl (by first | exact .inl rfl | exact .inr rfl) (pe_cal C__law_circle (hr.mono (by decide)) rfl (pa_cons (pv 1) (pa_cons (pv 3) pa_nil))))
  (pss_cons (ps_set (i := 7) sc_law.nd rfl (by first | exact .inl rfl | exact .inr rfl) (pe_lst pa_nil))
  (pss_cons (ps_for PassesOwn.never rfl (pi_range1 (by rfl) m_range (pa_cons (pv 3) pa_nil)) (pg_name (i := 8) sc_law.nd rfl (by first | exact .inl rfl | exact .inr rfl))
  (pss_cons (ps_set (i := 9) sc_law.nd rfl (by first | exact .inl rfl | exact .inr rfl) (pe_ifExp (pt_val (pv 2)) (pe_op op_add pe_int (pe_cal C__law_take (hr.mono (by decide)) rfl (pa_cons (pv 1) (pa_cons pe_int pa_nil)))) (pe_op op_add pe_int (pe_cal C__law_take (hr.mono (by decide)) rfl (pa_cons (pv 1) (pa_cons pe_int pa_nil))))))
  (pss_one (ps_expr (pe_bm PySem.F.plainAttrs_list PySem.F.slot_list_append PySem.F.type_list_append mt_append (pv 7) (pa_cons (pe_tup (pa_cons (pe_ix ix_list (pv 5) (pv 8) (fun _ _ => rfl)) (pa_cons (pe_cal C__law_around (hr.mono (by decide)) rfl (pa_cons (pv 1) (pa_cons (pe_ix ix_list (pv 6) (pv 8) (fun _ _ => rfl)) (pa_cons (pe_callB (call_min2 rfl) (by rfl) m_min (by decide +kernel) (pa_cons pe_int (pa_cons (pv 9) pa_nil))) (pa_cons (pv 3) pa_nil))))) pa_nil))) pa_nil))))))
  (pss_cons (ps_for PassesOwn.never rfl (pi_range1 (by rfl) m_range (pa_cons (pv 4) pa_nil)) (pg_name (i := 8) sc_law.nd rfl (by first | exact .inl rfl | exact .inr rfl))
  (pss_one (ps_expr (pe_bm PySem.F.plainAttrs_list PySem.F.slot_list_append PySem.F.type_list_append mt_append (pv 7) (pa_cons (pe_tup (pa_cons (pe_ix ix_list (pv 5) (pe_op op_add (pv 3) (pv 8)) (fun _ _ => rfl)) (pa_cons (pe_cal C__law_domain (hr.mono (by decide)) rfl (pa_cons (pv 1) (pa_cons (pe_ifExp (pt_val (pv 2)) (pe_op op_add pe_int (pe_cal C__law_take (hr.mono (by decide)) rfl (pa_cons (pv 1) (pa_cons pe_int pa_nil)))) (pe_op op_add pe_int (pe_callTy call_int1 (by rfl) m_int (by decide +kernel) (pa_cons (pe_cmpR op_eq (pv 8) pe_int (nomark _)) pa_nil)))) pa_nil))) pa_nil))) pa_nil)))))
  (pss_cons (ps_set (i := 10) sc_law.nd rfl (by first | exact .inl rfl | exact .inr rfl) (pe_cal C__law_world (hr.mono (by decide)) rfl (pa_cons (pv 7) (pa_cons (pe_op op_cat (pv 6) (pe_lc (own := [("pair", 11)]) rfl sc_law.nd (pi_list (pe_slice sl_list (pv 7) (po_some (pv 3)) po_none)) (blkOk_by (own := [("pair", 11)]) (N := n_law) (sc := defScope s_law) (by decide +kernel)) (fun _ _ _ _ _ => (pg_name (i := 11) sc_law.nd rfl (by first | exact .inl rfl | exact .inr rfl))) (fun _ _ _ _ _ => pts_nil) (fun _ _ _ _ _ => (pe_cal C__law_pick (hr.mono (by decide)) rfl (pa_cons (pv 1) (pa_cons (pe_ix ix_tup (pv 11) pe_int (fun _ _ => rfl)) pa_nil)))))) pa_nil))))
  (pss_cons (ps_set (i := 12) sc_law.nd rfl (by first | exact .inl rfl | exact .inr rfl) (pe_lst (pa_cons (pe_tup (pa_cons pe_str (pa_cons (pe_tupleOf (by rfl) m_tuple (pe_slice sl_list (pv 5) po_none (po_some (pv 3)))) pa_nil))) (pa_cons (pe_tup (pa_cons pe_str (pa_cons (pe_tupleOf (by rfl) m_tuple (pe_cal C__law_shuffled (hr.mono (by decide)) rfl (pa_cons (pv 1) (pa_cons (pe_slice sl_list (pv 5) po_none (po_some (pv 3))) pa_nil)))) pa_nil))) pa_nil))))
  (pss_cons (ps_expr (pe_bm PySem.F.plainAttrs_list PySem.F.slot_list_append PySem.F.type_list_append mt_append (pv 12) (pa_cons (pe_tup (pa_cons pe_str (pa_cons (pe_tupleOf (by rfl) m_tuple (pe_lc (own := [("pair", 11)]) rfl sc_law.nd (pi_list (pe_slice sl_list (pe_cal C__law_shuffled (hr.mono (by decide)) rfl (pa_cons (pv 1) (pa_cons (pv 7) pa_nil))) po_none (po_some (pe_op op_add pe_int (pe_cal C__law_take (hr.mono (by decide)) rfl (pa_cons (pv 1) (pa_cons (pe_callB (call_min2 rfl) (by rfl) m_min (by decide +kernel) (pa_cons pe_int (pa_cons (pv 3) pa_nil))) pa_nil))))))) (blkOk_by (own := [("pair", 11)]) (N := n_law) (sc := defScope s_law) (by decide +kernel)) (fun _ _ _ _ _ => (pg_name (i := 11) sc_law.nd rfl (by first | exact .inl rfl | exact .inr rfl))) (fun _ _ _ _ _ => pts_nil) (fun _ _ _ _ _ => (pe_ix ix_tup (pv 11) pe_int (fun _ _ => rfl))))) pa_nil))) pa_nil)))
  (pss_cons (ps_set (i := 13) sc_law.nd rfl (by first | exact .inl rfl | exact .inr rfl) (pe_cal C__law_shuffled (hr.mono (by decide)) rfl (pa_cons (pv 1) (pa_cons (pe_op op_cat (pv 12) (pe_lst (pa_cons (pe_cal C__law_works (hr.mono (by decide)) rfl (pa_cons (pv 1) (pa_cons (pv 7) (pa_cons (pv 10) pa_nil)))) (pa_cons (pe_cal C__law_works (hr.mono (by decide)) rfl (pa_cons (pv 1) (pa_cons (pv 7) (pa_cons (pv 10) pa_nil)))) pa_nil)))) pa_nil))))
  (pss_cons (ps_set (i := 14) sc_law.nd rfl (by first | exact .inl rfl | exact .inr rfl) (pe_cal C__law_shuffled (hr.mono (by decide)) rfl (pa_cons (pv 1) (pa_cons (pv 7) pa_nil))))
  (pss_cons (ps_set (i := 15) sc_law.nd rfl (by first | exact .inl rfl | exact .inr rfl) (pe_tupleOf (by rfl) m_tuple (pe_lc (own := [("pair", 11)]) rfl sc_law.nd (pi_list (pv 14)) (blkOk_by (own := [("pair", 11)]) (N := n_law) (sc := defScope s_law) (by decide +kernel)) (fun _ _ _ _ _ => (pg_name (i := 11) sc_law.nd rfl (by first | exact .inl rfl | exact .inr rfl))) (fun _ _ _ _ _ => pts_nil) (fun _ _ _ _ _ => (pe_dget (hu_of hr) (pv 10) (pe_ix ix_tup (pv 11) pe_int (fun _ _ => rfl)) (fun _ _ => rfl))))))
  (pss_cons (ps_set (i := 13) sc_law.nd rfl (by first | exact .inl rfl | exact .inr rfl) (pe_lc (own := [("k", 8)]) rfl sc_law.nd (pi_range1 (by rfl) m_range (pa_cons pe_int pa_nil)) (blkOk_by (own := [("k", 8)]) (N := n_law) (sc := defScope s_law) (by decide +kernel)) (fun _ _ _ _ _ => (pg_name (i := 8) sc_law.nd rfl (by first | exact .inl rfl | exact .inr rfl))) (fun _ _ _ _ _ => pts_nil) (fun _ _ _ _ _ => (pe_tup (pa_cons (pe_ix ix_list (pv 5) (pe_op op_add (pe_op op_add (pv 3) (pv 4)) (pv 8)) (fun _ _ => rfl)) (pa_cons (pe_ix ix_list (pv 13) (pv 8) (fun _ _ => rfl)) pa_nil))))))
  (pss_cons (ps_set (i := 16) sc_law.nd rfl (by first | exact .inl rfl | exact .inr rfl) (pe_cal C__law_parted (hr.mono (by decide)) rfl (pa_cons (pv 1) (pa_cons (pv 13) (pa_cons (pv 10) pa_nil)))))
  (pss_cons (ps_set (i := 17) sc_law.nd rfl (by first | exact .inl rfl | exact .inr rfl) (pe_ifExp (pt_not (pt_val (pv 2))) (pe_cal C__law_fillings (hr.mono (by decide)) rfl (pa_cons (pv 14) pa_nil)) (pe_op op_cat (pe_lst (pa_cons (pv 15) pa_nil)) (pe_lc (own := [("k", 8)]) rfl sc_law.nd (pi_range1 (by rfl) m_range (pa_cons pe_int pa_nil)) (blkOk_by (own := [("k", 8)]) (N := n_law) (sc := defScope s_law) (by decide +kernel)) (fun _ _ _ _ _ => (pg_name (i := 8) sc_law.nd rfl (by first | exact .inl rfl | exact .inr rfl))) (fun _ _ _ _ _ => pts_nil) (fun _ _ _ _ _ => (pe_cal C__law_near (hr.mono (by decide)) rfl (pa_cons (pv 1) (pa_cons (pv 14) (pa_cons (pv 15) pa_nil)))))))))
  (pss_one (ps_ret (pe_cal C__law_by_turns (hr.mono (by decide)) rfl (pa_cons (pv 1) (pa_cons (pv 14) (pa_cons (pv 13) (pa_cons (pe_ix ix_list (pv 16) pe_int (fun _ _ => rfl)) (pa_cons (pe_ix ix_list (pv 16) pe_int (fun _ _ => rfl)) (pa_cons (pv 17) (pa_cons (pv 15) pa_nil))))))))))))))))))))))))))))
abbrev s_holds : Stmt := topS 3
abbrev n_holds : List Str := ["saying", "at", "tell"]
theorem sc_holds : FnScope n_holds ["saying", "at"] (defScope s_holds) := ⟨rfl, rfl, rfl, by decide +kernel, rfl, by decide +kernel, by decide +kernel⟩
theorem held_of {P : Program} {w : World} {K : PySem.W.Frag} {mg : Str → Option Value} {base : Heap} {x : Str} {k : Nat} {ps : List Str} {sp : Sp} {a : Addr} (C : Cal P w K mg base x k ps sp) (hk : k ≤ 3) (ga : mg x = some (.ref a)) : Held P w K mg base 3 a sp := by
  obtain ⟨f', fd', h1, h2, h3, h4⟩ := C.ex
  rw [ga] at h4
  cases h4
  exact ⟨fd', _, h1.mono hk, h2, h3⟩
theorem ok_holds {P : Program} {w : World} {K : PySem.W.Frag} {mg : Str → Option Value} {base : Heap} {f T fW fR : Addr} {fd : FuncData} (F : Fun K "holds" "holds" s_holds f fd) (gf : mg "holds" = some (.ref f)) (gT : mg "_TELLS" = some (.ref T))
    (kW : KDct K w T "works" (.ref fW)) (kR : KDct K w T "round" (.ref fR)) (hne : fW ≠ fR) (gW : mg "_works_holds" = some (.ref fW)) (gR : mg "_round_holds" = some (.ref fR))
    (CW : Cal P w K mg base "_works_holds" 2 ["saying", "at"] (sp__works_holds K)) (CR : Cal P w K mg base "_round_holds" 3 ["saying", "at"] (sp__round_holds K)) : Cal P w K mg base "holds" 4 ["saying", "at"] (sp_holds K) := by
  have A_tell : ∀ (a : Addr) (sp : Sp), S_tell K fW fR a = some sp → Held P w K mg base 3 a sp := fun a sp e => by
    unfold S_tell at e
    split at e
    · rename_i z; cases e; subst z; exact held_of CW (by decide) gW
    split at e
    · rename_i z; cases e; subst z; exact held_of CR (by decide) gR
    · cases e
  refine ⟨f, fd, F.ok (k := 3) sc_holds len_holds (fun cdv A outer s H vs Q E hr h => ⟨t_holds K w T fW fR, PSs.nox ?_, pure_holds kW kR hne vs H Q E h⟩), F.kp, F.binds (fun _ _ _ _ _ _ us hl => match us, hl with | [_, _], _ => rfl), gf⟩
  exact (pss_cons (ps_set (i := 2) sc_holds.nd rfl (by first | exact .inl rfl | exact .inr rfl) (pe_ix ix_kdict (pe_glob rfl gT rfl) (pe_ix ix_tup (pv 0) pe_int (fun _ _ => rfl)) (fun _ _ => rfl)))
  (pss_one (ps_ret (pe_callA A_tell (hr.mono (by decide)) rfl (.inl rfl) (pa_cons (pv 0) (pa_cons (pv 1) pa_nil))))))
theorem FunD.plain {K : PySem.W.Frag} {x qual : Str} {st : Stmt} {f : Addr} {fd : FuncData} (F : FunD K x qual (defArgs st) (defBody st) (defScope st) [] [] f fd) : Fun K x qual st f fd := by
  obtain ⟨⟨oc, od, dV, kV, doc, pm, an, cdv, ct, osl, rfl, lk, hcd, hD, _⟩, kp⟩ := F
  rcases hD with ⟨_, rfl⟩ | ⟨e, _⟩
  · exact ⟨⟨oc, od, kV, doc, pm, an, cdv, ct, osl, rfl, lk, hcd⟩, kp⟩
  · exact absurd rfl e
theorem Fun.kb {K : PySem.W.Frag} {x qual : Str} {st : Stmt} {f : Addr} {fd : FuncData} {ps : List Str} (F : Fun K x qual st f fd) (h0 : 0 < ps.length)
    (h : ∀ (kV doc pm : Value) (an : Option Addr) (cdv ct : Value) (us : List Value), us.length = ps.length → bindArgs (PySem.W.fnOf x qual (defArgs st) (defBody st) (defScope st) .none kV doc pm an cdv ct) ⟨[], ps.zip us⟩ = pure (ps.zip us)) : KBinds K fd ps ps gK gK := by
  obtain ⟨oc, od, kV, doc, pm, an, cdv, ct, osl, rfl, lk, hcd⟩ := F.ex
  refine ⟨fun s us ws _ hl => ?_, fun {vs us zs ws} r rz => ?_⟩
  · cases us with
    | nil => exact .of_eq (h kV doc pm an cdv ct ws hl)
    | cons a r =>
      have : (0 : Nat) = ps.length := hl
      omega
  · cases r with
    | nil => exact rz
    | cons _ _ => exact .nil

end AW
namespace AW
open PySem PySem.Spec PyProof.Rows L2 RZ
theorem ckOf {P : Program} {w : World} {K : PySem.W.Frag} {mg : Str → Option Value} {base : Heap} {x qual : Str} {st : Stmt} {f : Addr} {fd : FuncData} {k : Nat} {ps : List Str} {sp : Sp} (C : FnOk P w K mg base CX0 k f fd ps sp) (F : Fun K x qual st f fd) (gf : mg x = some (.ref f)) (h0 : 0 < ps.length)
    (h : ∀ (kV doc pm : Value) (an : Option Addr) (cdv ct : Value) (us : List Value), us.length = ps.length → bindArgs (PySem.W.fnOf x qual (defArgs st) (defBody st) (defScope st) .none kV doc pm an cdv ct) ⟨[], ps.zip us⟩ = pure (ps.zip us)) : CalK P w K mg base x k ps ps gK sp :=
  ⟨f, fd, gK, C, F.kp, AW.Fun.kb F h0 h, gf⟩
theorem facts7 {P : Program} {w : World} {K : PySem.W.Frag} {h : Heap} {mg : Str → Option Value} {fa : Addr} (X : K.In h) (G : h.Ns mainGlobals mg) (hfa : mg "law" = some (.ref fa))
    {f0 : Addr} {od0 an0 : Option Addr} {sl0 : Array (Option Value)} {oc0 kV0 dc0 pm0 cd0 ct0 : Value} (a0 : PySem.W.nsIn K mainGlobals "holds" = some (some (.ref f0))) (l0 : K.lookup f0 = some ⟨oc0, od0, .func (PySem.W.fnOf "holds" "holds" (defArgs (topS 3)) (defBody (topS 3)) (defScope (topS 3)) .none kV0 dc0 pm0 an0 cd0 ct0), sl0⟩) (c0 : PySem.W.codeIn K cd0 "holds" = true) (k0 : PySem.W.keepIn K (.ref f0) = true)
    {f1 : Addr} {od1 an1 : Option Addr} {sl1 : Array (Option Value)} {oc1 kV1 dc1 pm1 cd1 ct1 : Value} (a1 : PySem.W.nsIn K mainGlobals "_law_mixed" = some (some (.ref f1))) (l1 : K.lookup f1 = some ⟨oc1, od1, .func (PySem.W.fnOf "_law_mixed" "_law_mixed" (defArgs (topS 33)) (defBody (topS 33)) (defScope (topS 33)) .none kV1 dc1 pm1 an1 cd1 ct1), sl1⟩) (c1 : PySem.W.codeIn K cd1 "_law_mixed" = true) (k1 : PySem.W.keepIn K (.ref f1) = true)
    {f2 : Addr} {od2 an2 : Option Addr} {sl2 : Array (Option Value)} {oc2 kV2 dc2 pm2 cd2 ct2 : Value} (a2 : PySem.W.nsIn K mainGlobals "_law_start" = some (some (.ref f2))) (l2 : K.lookup f2 = some ⟨oc2, od2, .func (PySem.W.fnOf "_law_start" "_law_start" (defArgs (topS 34)) (defBody (topS 34)) (defScope (topS 34)) .none kV2 dc2 pm2 an2 cd2 ct2), sl2⟩) (c2 : PySem.W.codeIn K cd2 "_law_start" = true) (k2 : PySem.W.keepIn K (.ref f2) = true)
    {f3 : Addr} {od3 an3 : Option Addr} {sl3 : Array (Option Value)} {oc3 kV3 dc3 pm3 cd3 ct3 : Value} (a3 : PySem.W.nsIn K mainGlobals "_law_take" = some (some (.ref f3))) (l3 : K.lookup f3 = some ⟨oc3, od3, .func (PySem.W.fnOf "_law_take" "_law_take" (defArgs (topS 35)) (defBody (topS 35)) (defScope (topS 35)) .none kV3 dc3 pm3 an3 cd3 ct3), sl3⟩) (c3 : PySem.W.codeIn K cd3 "_law_take" = true) (k3 : PySem.W.keepIn K (.ref f3) = true)
    {f4 : Addr} {od4 an4 : Option Addr} {sl4 : Array (Option Value)} {oc4 kV4 dc4 pm4 cd4 ct4 : Value} (a4 : PySem.W.nsIn K mainGlobals "_law_pick" = some (some (.ref f4))) (l4 : K.lookup f4 = some ⟨oc4, od4, .func (PySem.W.fnOf "_law_pick" "_law_pick" (defArgs (topS 36)) (defBody (topS 36)) (defScope (topS 36)) .none kV4 dc4 pm4 an4 cd4 ct4), sl4⟩) (c4 : PySem.W.codeIn K cd4 "_law_pick" = true) (k4 : PySem.W.keepIn K (.ref f4) = true)
    {f5 : Addr} {od5 an5 : Option Addr} {sl5 : Array (Option Value)} {oc5 kV5 dc5 pm5 cd5 ct5 : Value} (a5 : PySem.W.nsIn K mainGlobals "_law_shuffled" = some (some (.ref f5))) (l5 : K.lookup f5 = some ⟨oc5, od5, .func (PySem.W.fnOf "_law_shuffled" "_law_shuffled" (defArgs (topS 37)) (defBody (topS 37)) (defScope (topS 37)) .none kV5 dc5 pm5 an5 cd5 ct5), sl5⟩) (c5 : PySem.W.codeIn K cd5 "_law_shuffled" = true) (k5 : PySem.W.keepIn K (.ref f5) = true)
    {f6 : Addr} {od6 an6 : Option Addr} {sl6 : Array (Option Value)} {oc6 kV6 dc6 pm6 cd6 ct6 : Value} (a6 : PySem.W.nsIn K mainGlobals "_load" = some (some (.ref f6))) (l6 : K.lookup f6 = some ⟨oc6, od6, .func (PySem.W.fnOf "_load" "_load" (defArgs (topS 17)) (defBody (topS 17)) (defScope (topS 17)) .none kV6 dc6 pm6 an6 cd6 ct6), sl6⟩) (c6 : PySem.W.codeIn K cd6 "_load" = true) (k6 : PySem.W.keepIn K (.ref f6) = true)
    {f7 : Addr} {od7 an7 : Option Addr} {sl7 : Array (Option Value)} {oc7 kV7 dc7 pm7 cd7 ct7 : Value} (a7 : PySem.W.nsIn K mainGlobals "_works_holds" = some (some (.ref f7))) (l7 : K.lookup f7 = some ⟨oc7, od7, .func (PySem.W.fnOf "_works_holds" "_works_holds" (defArgs (topS 16)) (defBody (topS 16)) (defScope (topS 16)) .none kV7 dc7 pm7 an7 cd7 ct7), sl7⟩) (c7 : PySem.W.codeIn K cd7 "_works_holds" = true) (k7 : PySem.W.keepIn K (.ref f7) = true)
    {f8 : Addr} {od8 an8 : Option Addr} {sl8 : Array (Option Value)} {oc8 kV8 dc8 pm8 cd8 ct8 : Value} (a8 : PySem.W.nsIn K mainGlobals "_places_met" = some (some (.ref f8))) (l8 : K.lookup f8 = some ⟨oc8, od8, .func (PySem.W.fnOf "_places_met" "_places_met" (defArgs (topS 25)) (defBody (topS 25)) (defScope (topS 25)) .none kV8 dc8 pm8 an8 cd8 ct8), sl8⟩) (c8 : PySem.W.codeIn K cd8 "_places_met" = true) (k8 : PySem.W.keepIn K (.ref f8) = true)
    {f9 : Addr} {od9 an9 : Option Addr} {sl9 : Array (Option Value)} {oc9 kV9 dc9 pm9 cd9 ct9 : Value} (a9 : PySem.W.nsIn K mainGlobals "path_of" = some (some (.ref f9))) (l9 : K.lookup f9 = some ⟨oc9, od9, .func (PySem.W.fnOf "path_of" "path_of" (defArgs (topS 22)) (defBody (topS 22)) (defScope (topS 22)) .none kV9 dc9 pm9 an9 cd9 ct9), sl9⟩) (c9 : PySem.W.codeIn K cd9 "path_of" = true) (k9 : PySem.W.keepIn K (.ref f9) = true)
    {f10 : Addr} {od10 an10 : Option Addr} {sl10 : Array (Option Value)} {oc10 kV10 dc10 pm10 cd10 ct10 : Value} (a10 : PySem.W.nsIn K mainGlobals "_round_holds" = some (some (.ref f10))) (l10 : K.lookup f10 = some ⟨oc10, od10, .func (PySem.W.fnOf "_round_holds" "_round_holds" (defArgs (topS 18)) (defBody (topS 18)) (defScope (topS 18)) .none kV10 dc10 pm10 an10 cd10 ct10), sl10⟩) (c10 : PySem.W.codeIn K cd10 "_round_holds" = true) (k10 : PySem.W.keepIn K (.ref f10) = true)
    {f11 : Addr} {od11 an11 : Option Addr} {sl11 : Array (Option Value)} {oc11 kV11 dc11 pm11 cd11 ct11 : Value} (a11 : PySem.W.nsIn K mainGlobals "values_at" = some (some (.ref f11))) (l11 : K.lookup f11 = some ⟨oc11, od11, .func (PySem.W.fnOf "values_at" "values_at" (defArgs (topS 28)) (defBody (topS 28)) (defScope (topS 28)) .none kV11 dc11 pm11 an11 cd11 ct11), sl11⟩) (c11 : PySem.W.codeIn K cd11 "values_at" = true) (k11 : PySem.W.keepIn K (.ref f11) = true)
    {f12 : Addr} {od12 an12 : Option Addr} {sl12 : Array (Option Value)} {oc12 kV12 dc12 pm12 cd12 ct12 : Value} (a12 : PySem.W.nsIn K mainGlobals "saying_of" = some (some (.ref f12))) (l12 : K.lookup f12 = some ⟨oc12, od12, .func (PySem.W.fnOf "saying_of" "saying_of" (defArgs (topS 29)) (defBody (topS 29)) (defScope (topS 29)) .none kV12 dc12 pm12 an12 cd12 ct12), sl12⟩) (c12 : PySem.W.codeIn K cd12 "saying_of" = true) (k12 : PySem.W.keepIn K (.ref f12) = true)
    {f13 : Addr} {od13 an13 : Option Addr} {sl13 : Array (Option Value)} {oc13 kV13 dc13 pm13 cd13 ct13 : Value} (a13 : PySem.W.nsIn K mainGlobals "keeps_saying" = some (some (.ref f13))) (l13 : K.lookup f13 = some ⟨oc13, od13, .func (PySem.W.fnOf "keeps_saying" "keeps_saying" (defArgs (topS 30)) (defBody (topS 30)) (defScope (topS 30)) .none kV13 dc13 pm13 an13 cd13 ct13), sl13⟩) (c13 : PySem.W.codeIn K cd13 "keeps_saying" = true) (k13 : PySem.W.keepIn K (.ref f13) = true)
    {f14 : Addr} {od14 an14 : Option Addr} {sl14 : Array (Option Value)} {oc14 kV14 dc14 pm14 cd14 ct14 : Value} (a14 : PySem.W.nsIn K mainGlobals "keeps" = some (some (.ref f14))) (l14 : K.lookup f14 = some ⟨oc14, od14, .func (PySem.W.fnOf "keeps" "keeps" (defArgs (topS 31)) (defBody (topS 31)) (defScope (topS 31)) .none kV14 dc14 pm14 an14 cd14 ct14), sl14⟩) (c14 : PySem.W.codeIn K cd14 "keeps" = true) (k14 : PySem.W.keepIn K (.ref f14) = true)
    {f15 : Addr} {od15 an15 : Option Addr} {sl15 : Array (Option Value)} {oc15 kV15 dc15 pm15 cd15 ct15 : Value} (a15 : PySem.W.nsIn K mainGlobals "_law_is_due" = some (some (.ref f15))) (l15 : K.lookup f15 = some ⟨oc15, od15, .func (PySem.W.fnOf "_law_is_due" "_law_is_due" (defArgs (topS 40)) (defBody (topS 40)) (defScope (topS 40)) .none kV15 dc15 pm15 an15 cd15 ct15), sl15⟩) (c15 : PySem.W.codeIn K cd15 "_law_is_due" = true) (k15 : PySem.W.keepIn K (.ref f15) = true)
    {f16 : Addr} {od16 an16 : Option Addr} {sl16 : Array (Option Value)} {oc16 kV16 dc16 pm16 cd16 ct16 : Value} (a16 : PySem.W.nsIn K mainGlobals "_law_world" = some (some (.ref f16))) (l16 : K.lookup f16 = some ⟨oc16, od16, .func (PySem.W.fnOf "_law_world" "_law_world" (defArgs (topS 42)) (defBody (topS 42)) (defScope (topS 42)) .none kV16 dc16 pm16 an16 cd16 ct16), sl16⟩) (c16 : PySem.W.codeIn K cd16 "_law_world" = true) (k16 : PySem.W.keepIn K (.ref f16) = true)
    {f17 : Addr} {od17 an17 : Option Addr} {sl17 : Array (Option Value)} {oc17 kV17 dc17 pm17 cd17 ct17 : Value} (a17 : PySem.W.nsIn K mainGlobals "_law_peak" = some (some (.ref f17))) (l17 : K.lookup f17 = some ⟨oc17, od17, .func (PySem.W.fnOf "_law_peak" "_law_peak" (defArgs (topS 46)) (defBody (topS 46)) (defScope (topS 46)) .none kV17 dc17 pm17 an17 cd17 ct17), sl17⟩) (c17 : PySem.W.codeIn K cd17 "_law_peak" = true) (k17 : PySem.W.keepIn K (.ref f17) = true)
    {f18 : Addr} {od18 an18 : Option Addr} {sl18 : Array (Option Value)} {oc18 kV18 dc18 pm18 cd18 ct18 : Value} (a18 : PySem.W.nsIn K mainGlobals "_law_holds" = some (some (.ref f18))) (l18 : K.lookup f18 = some ⟨oc18, od18, .func (PySem.W.fnOf "_law_holds" "_law_holds" (defArgs (topS 47)) (defBody (topS 47)) (defScope (topS 47)) .none kV18 dc18 pm18 an18 cd18 ct18), sl18⟩) (c18 : PySem.W.codeIn K cd18 "_law_holds" = true) (k18 : PySem.W.keepIn K (.ref f18) = true)
    {f19 : Addr} {od19 an19 : Option Addr} {sl19 : Array (Option Value)} {oc19 kV19 dc19 pm19 cd19 ct19 : Value} (a19 : PySem.W.nsIn K mainGlobals "_law_fillings" = some (some (.ref f19))) (l19 : K.lookup f19 = some ⟨oc19, od19, .func (PySem.W.fnOf "_law_fillings" "_law_fillings" (defArgs (topS 41)) (defBody (topS 41)) (defScope (topS 41)) .none kV19 dc19 pm19 an19 cd19 ct19), sl19⟩) (c19 : PySem.W.codeIn K cd19 "_law_fillings" = true) (k19 : PySem.W.keepIn K (.ref f19) = true)
    {f20 : Addr} {od20 an20 : Option Addr} {sl20 : Array (Option Value)} {oc20 kV20 dc20 pm20 cd20 ct20 : Value} (a20 : PySem.W.nsIn K mainGlobals "_law_near" = some (some (.ref f20))) (l20 : K.lookup f20 = some ⟨oc20, od20, .func (PySem.W.fnOf "_law_near" "_law_near" (defArgs (topS 43)) (defBody (topS 43)) (defScope (topS 43)) .none kV20 dc20 pm20 an20 cd20 ct20), sl20⟩) (c20 : PySem.W.codeIn K cd20 "_law_near" = true) (k20 : PySem.W.keepIn K (.ref f20) = true)
    {f21 : Addr} {od21 an21 : Option Addr} {sl21 : Array (Option Value)} {oc21 kV21 dc21 pm21 cd21 ct21 : Value} (a21 : PySem.W.nsIn K mainGlobals "_law_parted" = some (some (.ref f21))) (l21 : K.lookup f21 = some ⟨oc21, od21, .func (PySem.W.fnOf "_law_parted" "_law_parted" (defArgs (topS 45)) (defBody (topS 45)) (defScope (topS 45)) .none kV21 dc21 pm21 an21 cd21 ct21), sl21⟩) (c21 : PySem.W.codeIn K cd21 "_law_parted" = true) (k21 : PySem.W.keepIn K (.ref f21) = true)
    {f22 : Addr} {od22 an22 : Option Addr} {sl22 : Array (Option Value)} {oc22 kV22 dc22 pm22 cd22 ct22 : Value} (a22 : PySem.W.nsIn K mainGlobals "_law_are_held" = some (some (.ref f22))) (l22 : K.lookup f22 = some ⟨oc22, od22, .func (PySem.W.fnOf "_law_are_held" "_law_are_held" (defArgs (topS 44)) (defBody (topS 44)) (defScope (topS 44)) .none kV22 dc22 pm22 an22 cd22 ct22), sl22⟩) (c22 : PySem.W.codeIn K cd22 "_law_are_held" = true) (k22 : PySem.W.keepIn K (.ref f22) = true)
    {f23 : Addr} {od23 an23 : Option Addr} {sl23 : Array (Option Value)} {oc23 kV23 dc23 pm23 cd23 ct23 : Value} (a23 : PySem.W.nsIn K mainGlobals "_law_by_turns" = some (some (.ref f23))) (l23 : K.lookup f23 = some ⟨oc23, od23, .func (PySem.W.fnOf "_law_by_turns" "_law_by_turns" (defArgs (topS 51)) (defBody (topS 51)) (defScope (topS 51)) .none kV23 dc23 pm23 an23 cd23 ct23), sl23⟩) (c23 : PySem.W.codeIn K cd23 "_law_by_turns" = true) (k23 : PySem.W.keepIn K (.ref f23) = true)
    {f24 : Addr} {od24 an24 : Option Addr} {sl24 : Array (Option Value)} {oc24 kV24 dc24 pm24 cd24 ct24 : Value} (a24 : PySem.W.nsIn K mainGlobals "_law_domain" = some (some (.ref f24))) (l24 : K.lookup f24 = some ⟨oc24, od24, .func (PySem.W.fnOf "_law_domain" "_law_domain" (defArgs (topS 39)) (defBody (topS 39)) (defScope (topS 39)) .none kV24 dc24 pm24 an24 cd24 ct24), sl24⟩) (c24 : PySem.W.codeIn K cd24 "_law_domain" = true) (k24 : PySem.W.keepIn K (.ref f24) = true)
    {f25 : Addr} {od25 an25 : Option Addr} {sl25 : Array (Option Value)} {oc25 kV25 dc25 pm25 cd25 ct25 : Value} (a25 : PySem.W.nsIn K mainGlobals "_law_circle" = some (some (.ref f25))) (l25 : K.lookup f25 = some ⟨oc25, od25, .func (PySem.W.fnOf "_law_circle" "_law_circle" (defArgs (topS 49)) (defBody (topS 49)) (defScope (topS 49)) .none kV25 dc25 pm25 an25 cd25 ct25), sl25⟩) (c25 : PySem.W.codeIn K cd25 "_law_circle" = true) (k25 : PySem.W.keepIn K (.ref f25) = true)
    {f26 : Addr} {od26 an26 : Option Addr} {sl26 : Array (Option Value)} {oc26 kV26 dc26 pm26 cd26 ct26 : Value} (a26 : PySem.W.nsIn K mainGlobals "_law_around" = some (some (.ref f26))) (l26 : K.lookup f26 = some ⟨oc26, od26, .func (PySem.W.fnOf "_law_around" "_law_around" (defArgs (topS 50)) (defBody (topS 50)) (defScope (topS 50)) .none kV26 dc26 pm26 an26 cd26 ct26), sl26⟩) (c26 : PySem.W.codeIn K cd26 "_law_around" = true) (k26 : PySem.W.keepIn K (.ref f26) = true)
    {f27 : Addr} {od27 an27 : Option Addr} {sl27 : Array (Option Value)} {oc27 kV27 dc27 pm27 cd27 ct27 : Value} (a27 : PySem.W.nsIn K mainGlobals "_law_works" = some (some (.ref f27))) (l27 : K.lookup f27 = some ⟨oc27, od27, .func (PySem.W.fnOf "_law_works" "_law_works" (defArgs (topS 48)) (defBody (topS 48)) (defScope (topS 48)) .none kV27 dc27 pm27 an27 cd27 ct27), sl27⟩) (c27 : PySem.W.codeIn K cd27 "_law_works" = true) (k27 : PySem.W.keepIn K (.ref f27) = true)
    {f28 : Addr} {od28 an28 : Option Addr} {sl28 : Array (Option Value)} {oc28 kV28 dc28 pm28 cd28 ct28 : Value} (a28 : PySem.W.nsIn K mainGlobals "_law_names" = some (some (.ref f28))) (l28 : K.lookup f28 = some ⟨oc28, od28, .func (PySem.W.fnOf "_law_names" "_law_names" (defArgs (topS 38)) (defBody (topS 38)) (defScope (topS 38)) .none kV28 dc28 pm28 an28 cd28 ct28), sl28⟩) (c28 : PySem.W.codeIn K cd28 "_law_names" = true) (k28 : PySem.W.keepIn K (.ref f28) = true)
    {f29 : Addr} {od29 an29 : Option Addr} {sl29 : Array (Option Value)} {oc29 kV29 dc29 pm29 cd29 ct29 : Value} (a29 : PySem.W.nsIn K mainGlobals "law" = some (some (.ref f29))) (l29 : K.lookup f29 = some ⟨oc29, od29, .func (PySem.W.fnOf "law" "law" (defArgs (topS 52)) (defBody (topS 52)) (defScope (topS 52)) .none kV29 dc29 pm29 an29 cd29 ct29), sl29⟩) (c29 : PySem.W.codeIn K cd29 "law" = true) (k29 : PySem.W.keepIn K (.ref f29) = true)
    (z_abs : PySem.W.nsIn K mainGlobals "abs" = some none)
    (z_all : PySem.W.nsIn K mainGlobals "all" = some none)
    (z_int : PySem.W.nsIn K mainGlobals "int" = some none)
    (z_len : PySem.W.nsIn K mainGlobals "len" = some none)
    (z_list : PySem.W.nsIn K mainGlobals "list" = some none)
    (z_max : PySem.W.nsIn K mainGlobals "max" = some none)
    (z_min : PySem.W.nsIn K mainGlobals "min" = some none)
    (z_range : PySem.W.nsIn K mainGlobals "range" = some none)
    (z_sorted : PySem.W.nsIn K mainGlobals "sorted" = some none)
    (z_str : PySem.W.nsIn K mainGlobals "str" = some none)
    (z_sum : PySem.W.nsIn K mainGlobals "sum" = some none)
    (z_tuple : PySem.W.nsIn K mainGlobals "tuple" = some none)
    (z_zip : PySem.W.nsIn K mainGlobals "zip" = some none)
    {TT : Addr} {es : Array DictEntry} {en : Nat} (aT : PySem.W.nsIn K mainGlobals "_TELLS" = some (some (.ref TT))) (lT : K.lookup TT = some ⟨.type "dict", none, .dict es en, #[]⟩) (kT : PySem.W.KeysLit w.params es.toList)
    (t_works : PySem.W.nsIn K TT "works" = some (some (.ref f7))) (t_round : PySem.W.nsIn K TT "round" = some (some (.ref f10))) (hne : f7 ≠ f10) :
    ∃ fd : FuncData, (∀ (s : Shared) (v : Value), BindsTo s fd ⟨[v], []⟩ [("script", v)]) ∧ ∀ base : Heap, K.In base → base.Ns mainGlobals mg → FnOk P w K mg base CX0 8 fa fd ["script"] (sp_law K) := by
  have F_holds := fun_mk (st := topS 3) l0 c0 k0
  have G_holds := PySem.W.mg_of X G a0
  have F__law_mixed := fun_mk (st := topS 33) l1 c1 k1
  have G__law_mixed := PySem.W.mg_of X G a1
  have F__law_start := fun_mk (st := topS 34) l2 c2 k2
  have G__law_start := PySem.W.mg_of X G a2
  have F__law_take := fun_mk (st := topS 35) l3 c3 k3
  have G__law_take := PySem.W.mg_of X G a3
  have F__law_pick := fun_mk (st := topS 36) l4 c4 k4
  have G__law_pick := PySem.W.mg_of X G a4
  have F__law_shuffled := fun_mk (st := topS 37) l5 c5 k5
  have G__law_shuffled := PySem.W.mg_of X G a5
  have F__load := fun_mk (st := topS 17) l6 c6 k6
  have G__load := PySem.W.mg_of X G a6
  have F__works_holds := fun_mk (st := topS 16) l7 c7 k7
  have G__works_holds := PySem.W.mg_of X G a7
  have F__places_met := fun_mk (st := topS 25) l8 c8 k8
  have G__places_met := PySem.W.mg_of X G a8
  have F_path_of := fun_mk (st := topS 22) l9 c9 k9
  have G_path_of := PySem.W.mg_of X G a9
  have F__round_holds := fun_mk (st := topS 18) l10 c10 k10
  have G__round_holds := PySem.W.mg_of X G a10
  have F_values_at := fun_mk (st := topS 28) l11 c11 k11
  have G_values_at := PySem.W.mg_of X G a11
  have F_saying_of := fun_mk (st := topS 29) l12 c12 k12
  have G_saying_of := PySem.W.mg_of X G a12
  have F_keeps_saying := fun_mk (st := topS 30) l13 c13 k13
  have G_keeps_saying := PySem.W.mg_of X G a13
  have F_keeps := fun_mk (st := topS 31) l14 c14 k14
  have G_keeps := PySem.W.mg_of X G a14
  have F__law_is_due := fun_mk (st := topS 40) l15 c15 k15
  have G__law_is_due := PySem.W.mg_of X G a15
  have F__law_world := fun_mk (st := topS 42) l16 c16 k16
  have G__law_world := PySem.W.mg_of X G a16
  have F__law_peak := fun_mk (st := topS 46) l17 c17 k17
  have G__law_peak := PySem.W.mg_of X G a17
  have F__law_holds := fun_mk (st := topS 47) l18 c18 k18
  have G__law_holds := PySem.W.mg_of X G a18
  have F__law_fillings := fun_mk (st := topS 41) l19 c19 k19
  have G__law_fillings := PySem.W.mg_of X G a19
  have F__law_near := fun_mk (st := topS 43) l20 c20 k20
  have G__law_near := PySem.W.mg_of X G a20
  have F__law_parted := fun_mk (st := topS 45) l21 c21 k21
  have G__law_parted := PySem.W.mg_of X G a21
  have F__law_are_held := fun_mk (st := topS 44) l22 c22 k22
  have G__law_are_held := PySem.W.mg_of X G a22
  have F__law_by_turns := fun_mk (st := topS 51) l23 c23 k23
  have G__law_by_turns := PySem.W.mg_of X G a23
  have F__law_domain := fun_mk (st := topS 39) l24 c24 k24
  have G__law_domain := PySem.W.mg_of X G a24
  have F__law_circle := fun_mk (st := topS 49) l25 c25 k25
  have G__law_circle := PySem.W.mg_of X G a25
  have F__law_around := fun_mk (st := topS 50) l26 c26 k26
  have G__law_around := PySem.W.mg_of X G a26
  have F__law_works := fun_mk (st := topS 48) l27 c27 k27
  have G__law_works := PySem.W.mg_of X G a27
  have F__law_names := fun_mk (st := topS 38) l28 c28 k28
  have G__law_names := PySem.W.mg_of X G a28
  have F_law := fun_mk (st := topS 52) l29 c29 k29
  have G_law := PySem.W.mg_of X G a29
  have m_abs := PySem.W.mg_none_of X G z_abs
  have m_all := PySem.W.mg_none_of X G z_all
  have m_int := PySem.W.mg_none_of X G z_int
  have m_len := PySem.W.mg_none_of X G z_len
  have m_list := PySem.W.mg_none_of X G z_list
  have m_max := PySem.W.mg_none_of X G z_max
  have m_min := PySem.W.mg_none_of X G z_min
  have m_range := PySem.W.mg_none_of X G z_range
  have m_sorted := PySem.W.mg_none_of X G z_sorted
  have m_str := PySem.W.mg_none_of X G z_str
  have m_sum := PySem.W.mg_none_of X G z_sum
  have m_tuple := PySem.W.mg_none_of X G z_tuple
  have m_zip := PySem.W.mg_none_of X G z_zip
  have kW : KDct K w TT "works" (.ref f7) := ⟨es, en, _, lT, kT, t_works, rfl⟩
  have kR : KDct K w TT "round" (.ref f10) := ⟨es, en, _, lT, kT, t_round, rfl⟩
  have G__TELLS := PySem.W.mg_of X G aT
  have e := hfa.symm.trans G_law
  cases e
  refine ⟨PySem.W.fnOf "law" "law" (defArgs (topS 52)) (defBody (topS 52)) (defScope (topS 52)) .none kV29 dc29 pm29 an29 cd29 ct29, fun s v => .of_eq rfl, fun base _ _ => ?_⟩
  have C__places_met := ok__places_met (P := P) (w := w) (base := base) F__places_met G__places_met   m_len
  have C_path_of := ok_path_of (P := P) (w := w) (base := base) F_path_of G_path_of C__places_met  
  have C__round_holds := ok__round_holds (P := P) (w := w) (base := base) F__round_holds G__round_holds C_path_of  m_len
  have C__load := ok__load (P := P) (w := w) (base := base) F__load G__load   m_sum m_zip
  have C__works_holds := ok__works_holds (P := P) (w := w) (base := base) F__works_holds G__works_holds C__load  m_all
  have C_holds := ok_holds (P := P) (w := w) (base := base) F_holds G_holds G__TELLS kW kR hne G__works_holds G__round_holds C__works_holds C__round_holds
  have C__law_mixed := ok__law_mixed (P := P) (w := w) (base := base) F__law_mixed G__law_mixed   m_int
  have C__law_start := ok__law_start (P := P) (w := w) (base := base) F__law_start G__law_start C__law_mixed  m_len m_list
  have C__law_take := ok__law_take (P := P) (w := w) (base := base) F__law_take G__law_take C__law_mixed  m_abs m_int m_len
  have C__law_pick := ok__law_pick (P := P) (w := w) (base := base) F__law_pick G__law_pick C__law_take  m_len
  have C__law_shuffled := ok__law_shuffled (P := P) (w := w) (base := base) F__law_shuffled G__law_shuffled C__law_take  m_len m_list m_range
  have C_values_at := ok_values_at (P := P) (w := w) (base := base) F_values_at G_values_at   m_zip
  have C_saying_of := ok_saying_of (P := P) (w := w) (base := base) F_saying_of G_saying_of   
  have N_keeps_saying := ok_keeps_saying (P := P) (w := w) (base := base) F_keeps_saying G_keeps_saying C_holds C_saying_of C_values_at  
  have C_keeps_saying : Cal P w K mg base "keeps_saying" 5 ["model", "name", "filling"] (sp_keeps_saying K) := ⟨_, _, N_keeps_saying, F_keeps_saying.kp, F_keeps_saying.binds (fun _ _ _ _ _ _ us hl => match us, hl with | [_, _, _], _ => rfl), G_keeps_saying⟩
  have CK_keeps_saying : CalK P w K mg base "keeps_saying" 5 ["model", "name", "filling"] ["model", "name", "filling"] gK (sp_keeps_saying K) := ckOf N_keeps_saying F_keeps_saying G_keeps_saying (by decide) (fun _ _ _ _ _ _ us hl => match us, hl with | [_, _, _], _ => rfl)
  have N_keeps := ok_keeps (P := P) (w := w) (base := base) F_keeps G_keeps C_holds C_values_at  
  have C_keeps : Cal P w K mg base "keeps" 5 ["model", "filling"] (sp_keeps K) := ⟨_, _, N_keeps, F_keeps.kp, F_keeps.binds (fun _ _ _ _ _ _ us hl => match us, hl with | [_, _], _ => rfl), G_keeps⟩
  have CK_keeps : CalK P w K mg base "keeps" 5 ["model", "filling"] ["model", "filling"] gK (sp_keeps K) := ckOf N_keeps F_keeps G_keeps (by decide) (fun _ _ _ _ _ _ us hl => match us, hl with | [_, _], _ => rfl)
  have C__law_is_due := ok__law_is_due (P := P) (w := w) (base := base) F__law_is_due G__law_is_due   
  have C__law_world := ok__law_world (P := P) (w := w) (base := base) F__law_world G__law_world   m_len m_range
  have C__law_peak := ok__law_peak (P := P) (w := w) (base := base) F__law_peak G__law_peak   m_len m_max m_range m_sum
  have C__law_holds := ok__law_holds (P := P) (w := w) (base := base) F__law_holds G__law_holds C__law_peak  m_len m_range
  have C__law_fillings := ok__law_fillings (P := P) (w := w) (base := base) F__law_fillings G__law_fillings   
  have C__law_near := ok__law_near (P := P) (w := w) (base := base) F__law_near G__law_near C__law_pick C__law_take  m_len m_list m_range m_tuple
  have C__law_parted := ok__law_parted (P := P) (w := w) (base := base) F__law_parted G__law_parted C__law_holds C__law_take  m_len
  have C__law_are_held := ok__law_are_held (P := P) (w := w) (base := base) F__law_are_held G__law_are_held C__law_holds C__law_is_due C__law_take C__law_world C_keeps C_keeps_saying CK_keeps CK_keeps_saying m_len m_range m_tuple
  have C__law_by_turns := ok__law_by_turns (P := P) (w := w) (base := base) F__law_by_turns G__law_by_turns C__law_are_held C__law_near  m_len m_range
  have C__law_domain := ok__law_domain (P := P) (w := w) (base := base) F__law_domain G__law_domain C__law_pick C__law_take  m_max m_min m_range m_tuple
  have C__law_circle := ok__law_circle (P := P) (w := w) (base := base) F__law_circle G__law_circle C__law_shuffled C__law_take  m_int m_list m_range
  have C__law_around := ok__law_around (P := P) (w := w) (base := base) F__law_around G__law_around C__law_shuffled C__law_take  m_list m_range m_sorted m_tuple
  have C__law_works := ok__law_works (P := P) (w := w) (base := base) F__law_works G__law_works C__law_peak C__law_pick C__law_shuffled C__law_take  m_max m_min m_tuple
  have C__law_names := ok__law_names (P := P) (w := w) (base := base) F__law_names G__law_names C__law_shuffled C__law_take  m_int m_range m_str
  exact ok_law F_law G_law C__law_around C__law_by_turns C__law_circle C__law_domain C__law_fillings C__law_names C__law_near C__law_parted C__law_pick C__law_shuffled C__law_start C__law_take C__law_works C__law_world  m_int m_min m_range m_tuple
end AW
open PySem PySem.W PyProof.Rows
set_option maxHeartbeats 0 in
theorem PySem.Challenge.cw_aswritten_k06_works_and_rounds_held_holds : PySem.Challenge.rw_aswritten_k06_works_and_rounds_held.Holds := by
  w_on; o_law; k_head; (case hw => w_witness2)
  k_fill
  refine L2.walk_of (l := PySem.Challenge.rw_aswritten_k06_works_and_rounds_held) (n := 63) (k := 8) (x := "script") (CX := fun _ => L2.CX0) (sp := fun w => AW.sp_law _) rfl (by decide) rfl ⟨rfl, by decide, by decide⟩ (fun w h Y => PySem.W.kIn_of Y) ?F (fun _ _ a ns hl _ hS => ⟨a, ns, rfl, hS, hl, fun _ => rfl⟩) (fun _ _ _ _ _ h => h)
  case F =>
    intro w mg fa h KX G hmg
    refine' AW.facts7 KX G hmg ?a0 ?l0 ?c0 ?k0 ?a1 ?l1 ?c1 ?k1 ?a2 ?l2 ?c2 ?k2 ?a3 ?l3 ?c3 ?k3 ?a4 ?l4 ?c4 ?k4 ?a5 ?l5 ?c5 ?k5 ?a6 ?l6 ?c6 ?k6 ?a7 ?l7 ?c7 ?k7 ?a8 ?l8 ?c8 ?k8 ?a9 ?l9 ?c9 ?k9 ?a10 ?l10 ?c10 ?k10 ?a11 ?l11 ?c11 ?k11 ?a12 ?l12 ?c12 ?k12 ?a13 ?l13 ?c13 ?k13 ?a14 ?l14 ?c14 ?k14 ?a15 ?l15 ?c15 ?k15 ?a16 ?l16 ?c16 ?k16 ?a17 ?l17 ?c17 ?k17 ?a18 ?l18 ?c18 ?k18 ?a19 ?l19 ?c19 ?k19 ?a20 ?l20 ?c20 ?k20 ?a21 ?l21 ?c21 ?k21 ?a22 ?l22 ?c22 ?k22 ?a23 ?l23 ?c23 ?k23 ?a24 ?l24 ?c24 ?k24 ?a25 ?l25 ?c25 ?k25 ?a26 ?l26 ?c26 ?k26 ?a27 ?l27 ?c27 ?k27 ?a28 ?l28 ?c28 ?k28 ?a29 ?l29 ?c29 ?k29 ?z_abs ?z_all ?z_int ?z_len ?z_list ?z_max ?z_min ?z_range ?z_sorted ?z_str ?z_sum ?z_tuple ?z_zip ?aT ?lT ?kT ?t_works ?t_round ?hne
    (case a0 => k_is); (case l0 => k_is); (case c0 => k_is); (case k0 => k_is); (case a1 => k_is); (case l1 => k_is); (case c1 => k_is); (case k1 => k_is); (case a2 => k_is); (case l2 => k_is); (case c2 => k_is); (case k2 => k_is); (case a3 => k_is); (case l3 => k_is); (case c3 => k_is); (case k3 => k_is); (case a4 => k_is); (case l4 => k_is); (case c4 => k_is); (case k4 => k_is); (case a5 => k_is); (case l5 => k_is); (case c5 => k_is); (case k5 => k_is); (case a6 => k_is); (case l6 => k_is); (case c6 => k_is); (case k6 => k_is); (case a7 => k_is); (case l7 => k_is); (case c7 => k_is); (case k7 => k_is); (case a8 => k_is); (case l8 => k_is); (case c8 => k_is); (case k8 => k_is); (case a9 => k_is); (case l9 => k_is); (case c9 => k_is); (case k9 => k_is); (case a10 => k_is); (case l10 => k_is); (case c10 => k_is); (case k10 => k_is); (case a11 => k_is); (case l11 => k_is); (case c11 => k_is); (case k11 => k_is); (case a12 => k_is); (case l12 => k_is); (case c12 => k_is); (case k12 => k_is); (case a13 => k_is); (case l13 => k_is); (case c13 => k_is); (case k13 => k_is); (case a14 => k_is); (case l14 => k_is); (case c14 => k_is); (case k14 => k_is); (case a15 => k_is); (case l15 => k_is); (case c15 => k_is); (case k15 => k_is); (case a16 => k_is); (case l16 => k_is); (case c16 => k_is); (case k16 => k_is); (case a17 => k_is); (case l17 => k_is); (case c17 => k_is); (case k17 => k_is); (case a18 => k_is); (case l18 => k_is); (case c18 => k_is); (case k18 => k_is); (case a19 => k_is); (case l19 => k_is); (case c19 => k_is); (case k19 => k_is); (case a20 => k_is); (case l20 => k_is); (case c20 => k_is); (case k20 => k_is); (case a21 => k_is); (case l21 => k_is); (case c21 => k_is); (case k21 => k_is); (case a22 => k_is); (case l22 => k_is); (case c22 => k_is); (case k22 => k_is); (case a23 => k_is); (case l23 => k_is); (case c23 => k_is); (case k23 => k_is); (case a24 => k_is); (case l24 => k_is); (case c24 => k_is); (case k24 => k_is); (case a25 => k_is); (case l25 => k_is); (case c25 => k_is); (case k25 => k_is); (case a26 => k_is); (case l26 => k_is); (case c26 => k_is); (case k26 => k_is); (case a27 => k_is); (case l27 => k_is); (case c27 => k_is); (case k27 => k_is); (case a28 => k_is); (case l28 => k_is); (case c28 => k_is); (case k28 => k_is); (case a29 => k_is); (case l29 => k_is); (case c29 => k_is); (case k29 => k_is); (case z_abs => k_is); (case z_all => k_is); (case z_int => k_is); (case z_len => k_is); (case z_list => k_is); (case z_max => k_is); (case z_min => k_is); (case z_range => k_is); (case z_sorted => k_is); (case z_str => k_is); (case z_sum => k_is); (case z_tuple => k_is); (case z_zip => k_is); (case aT => k_is); (case lT => k_is)
    (case kT => repeat' (first | exact trivial | refine ⟨⟨_, _, rfl, rfl⟩, ?_⟩))
    (case t_works => k_is); (case t_round => k_is); (case hne => decide)
