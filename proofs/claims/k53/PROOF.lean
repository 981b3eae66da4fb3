import PyProof.Rows.All
import Wide.All
import OpenK.AllK
import Wide.FinOn
import HandS.ForMost
import HandS.DictComp
import HandS.Zip
import HandS.TupAny
import HandS.Style
import HandS.Deep
import HandS.CallLocal
import HandS.More
import HandS.Conv
import HandS.SortInts
import HandS.Walk
import KE.GoesMore
import HandS.Strs
import HandS.SetFor
import PyProof.Rows.SetFrom
import HandS.ExcInit
import HandS.ExcOwn
import HandS.IsInst
import KE.KExcIs
import KE.KIsAll
import HandS.TupMul
import KE.KRevSl
import PyProof.EnumMake
import PyProof.EnumFor
import KE.KEqDeep
import HandS.Star
import HandS.WordsDict
import HandS.Steps
import PyProof.Rows.StrMeet
import PyProof.TypeEq
import KE.KDictPairs
import HandS.SetBool
import HandS.Comp
import KE.SortData
import HandS.Defaults
import HandS.Ends
import PySem.Challenge.RW_aswritten_k53_the_very_view_model
set_option Elab.async false
set_option linter.all false
set_option maxRecDepth 100000
set_option maxHeartbeats 4000000
/-! own words over the hand layer: names of readings, calls by a bundle, the lists' in-place store, text times number, keywords alone. -/
namespace AW
open PySem PySem.Spec PyProof.Rows L2

abbrev rAddI : R2 := rI0 fun i j => .int (i + j)
abbrev rSubI : R2 := rI0 fun i j => .int (i - j)
abbrev rMulI : R2 := rI CMul fun i j => .int (i * j)
abbrev rDivI : R2 := rI CDiv fun i j => .int (i / j)
abbrev rModI : R2 := rI (fun _ j => 0 < j) fun i j => .int (i % j)
abbrev rPowI : R2 := rI CPow fun i j => .int (i ^ j.toNat)
abbrev rLtI : R2 := rI0 fun i j => .bl (decide (i < j))
abbrev rLeI : R2 := rI0 fun i j => .bl (decide (i ≤ j))
abbrev rGtI : R2 := rI0 fun i j => .bl (decide (j < i))
abbrev rGeI : R2 := rI0 fun i j => .bl (decide (j ≤ i))
abbrev rNeg : V → Hp → VK → Prop := rU fun i => .int (-i)
def rAddS : R2 := fun x y H Q => ∃ i j, x = .str i ∧ y = .str j ∧ i.length + j.length ≤ sizeLine ∧ Q (.str (i ++ j)) H
theorem op_addS {X : Cx} : OpR X (binaryOp .Add) rAddS := op_add_str
def rRepS : R2 := fun x y H Q => ∃ z n, x = .str z ∧ y = .int n ∧ MulOk z n ∧ Q (.str (Txt.mul z n)) H
theorem op_repS {X : Cx} : OpR X (binaryOp .Mult) rRepS := by
  intro pins s σ H x y v u Q I rx ry h
  obtain ⟨z, n, rfl, rfl, ok, q⟩ := h
  obtain ⟨t, rfl⟩ := rx
  obtain ⟨t', rfl⟩ := ry
  exact SB.mul ok fun t2 k => ⟨.str _, H, I.tok _, ⟨_, rfl⟩, q⟩
def rLen1 (K : PySem.W.Frag) : List V → Hp → VK → Prop := fun xs H Q => ∃ x n, xs = [x] ∧ LenV K x H n ∧ Q (.int n) H
theorem call_len1 {X : Cx} : CallR X (.builtin "len") (rLen1 X.K) := call_len
def rAbs : List V → Hp → VK → Prop := fun xs H Q => ∃ i, xs = [.int i] ∧ Q (.int (if i < 0 then -i else i)) H
def rInt1 : List V → Hp → VK → Prop := fun xs H Q => (∃ i, xs = [.int i] ∧ Q (.int i) H) ∨ ∃ k, xs = [.bl k] ∧ Q (.int (if k then 1 else 0)) H
def rStr1 : List V → Hp → VK → Prop := fun xs H Q => ∃ i, xs = [.int i] ∧ i.natAbs.log2 < 1920 ∧ Q (.str (toString i)) H
def rMax2 : List V → Hp → VK → Prop := fun xs H Q => ∃ i j, xs = [.int i, .int j] ∧ Q (.int (if j > i then j else i)) H
def rMin2 : List V → Hp → VK → Prop := fun xs H Q => ∃ i j, xs = [.int i, .int j] ∧ Q (.int (if j < i then j else i)) H
def rListOf (K : PySem.W.Frag) : List V → Hp → VK → Prop := fun xs H Q => ∃ p ys, xs = [.ref p] ∧ (SqL K H p ys ∨ SqT K H p ys) ∧ ∀ l, H l = none → Q (.ref l) (upd H l (.lst ys))
theorem call_listOf {X : Cx} : CallR X (.type "list") (rListOf X.K) := call_list_of
def rSortDI : List V → Hp → VK → Prop := fun xs H Q => ∃ (a : Addr) (kvs : List (Key × V)) (ks : List Int), xs = [.ref a] ∧ Rd H a (.dK kvs) ∧ kvs.map (·.1) = ks.map Sum.inl ∧ ks.length < 64 ∧
    ∀ (ys : List Int) (p : Addr), ys.Perm ks → ys.Pairwise (· ≤ ·) → H p = none → Q (.ref p) (upd H p (.lst (ys.map V.int)))
def rIxA (K : PySem.W.Frag) : R2 := fun x y H Q => rIxL K x y H Q ∨ rIxT K x y H Q
theorem ix_any {X : Cx} : IxR X (rIxA X.K) := ix_list.or ix_tup
def rIsN : R2 := fun x y H Q => y = .non ∧ Q (.bl (decide (x = .non))) H
theorem op_isN1 {X : Cx} : OpR X (compareOp .Is) rIsN := op_isN
theorem units64 {A : Around} {k : Nat} (hr : Room k A) : A.units + 64 < cLine := hr.units
theorem units65 {A : Around} {k : Nat} (hr : Room k A) : A.units + 65 < cLine := by have := hr.un; omega
section
variable {X : Cx}
/-! ### a def by name, with all that a call asks of it -/
structure Cal (P : Program) (w : World) (K : PySem.W.Frag) (mg : Str → Option Value) (base : Heap) (x : Str) (k : Nat) (ps : List Str) (sp : Sp) : Prop where
  ex : ∃ (f : Addr) (fd : FuncData), FnOk P w K mg base CX0 k f fd ps sp ∧ PySem.W.keepIn K (.ref f) = true ∧ Binds K fd ps [] ∧ mg x = some (.ref f)
theorem pe_cal {x : Str} {k : Nat} {ps : List Str} {sp : Sp} {e : Expr} {es : List Expr} {t : TA} {p pos : Pos} (C : Cal X.prog X.w X.K X.mg X.base x k ps sp) (hr : Room k X.A) (hg : Gl X x) (ha : PA X (e :: es) t)
    (hdb : (x == ("__debug__" : Str)) = false := by decide) (he : starEach (e :: es) X.env = (false, eval e X.env) :: starEach es X.env := by rfl) (hpl : (backTo pos (starEach es X.env)).any (·.1) = false := by rfl) :
    PE X (.Call (.Name x p) (e :: es) [] pos) (tCall sp [] E0 t) := by
  refine ⟨fun pins s σ H Q I h => ?_⟩
  obtain ⟨f, fd, F, hk, hb, hm⟩ := C.ex
  exact (pe_call F hr hg hm hk hb .nil pass0 ha hdb he hpl).run pins s σ H Q I h
/-- how keywords alone bind -/
structure CalK (P : Program) (w : World) (K : PySem.W.Frag) (mg : Str → Option Value) (base : Heap) (x : Str) (k : Nat) (ps ks : List Str) (gV : List V → List V → List V) (sp : Sp) : Prop where
  ex : ∃ (f : Addr) (fd : FuncData) (g : List Value → List Value → List Value), FnOk P w K mg base CX0 k f fd ps sp ∧ PySem.W.keepIn K (.ref f) = true ∧ KBinds K fd ps ks g gV ∧ mg x = some (.ref f)
theorem pe_calK {x : Str} {k : Nat} {ps ks : List Str} {gV : List V → List V → List V} {sp : Sp} {kws : List Keyword} {tk : TA} {p pos : Pos} (C : CalK X.prog X.w X.K X.mg X.base x k ps ks gV sp) (hr : Room k X.A) (hg : Gl X x) (hkw : PK X kws tk)
    (hall : (backToKw pos (keywordEach kws X.env)).all (·.1.isSome) = true := by rfl) (hks : (backToKw pos (keywordEach kws X.env)).filterMap (·.1) = ks := by rfl)
    (hdb : (x == ("__debug__" : Str)) = false := by decide)
    (hpl : ((backTo pos (starEach [] X.env)).any (·.1) || (backToKw pos (keywordEach kws X.env)).any (·.1.isNone)) = false := by rfl) :
    PE X (.Call (.Name x p) [] kws pos) (tCallK sp gV E0 tNil tk) := by
  refine ⟨fun pins s σ H Q I h => ?_⟩
  obtain ⟨f, fd, g, F, hk, hb, hm⟩ := C.ex
  refine wpAny_Call_Name_kw (ld_glob I hg hm ?_ hdb)
  refine PySem.W.callWith_KW0 (h₀ := X.base) I.ok.mod.kin hk hall (thn (hkw.run pos pins s σ H _ I h) fun ws s2 ⟨zs, H2, I2, rz, q2⟩ => ⟨I2.kIn, ?_⟩) hpl
  rw [hks]
  exact run_fnk (us := []) F hr hb pass0 I2 .nil rz q2
end
end AW
/-! heaps that go on, the law's state, readings of one def at a time -/
namespace AW
open PySem PySem.Spec PyProof.Rows L2

/-- what goes on: all but the objects of S; tuples and locked things always -/
structure Adv (S : List Addr) (H H' : Hp) : Prop where
  keep : ∀ a o, a ∉ S → H a = some o → H' a = some o
  tup : ∀ a xs, H a = some (.tup xs) → H' a = some (.tup xs)
theorem Adv.refl (S : List Addr) (H : Hp) : Adv S H H := ⟨fun _ _ _ h => h, fun _ _ h => h⟩
theorem Adv.trans {S : List Addr} {H H1 H2 : Hp} (a : Adv S H H1) (b : Adv S H1 H2) : Adv S H H2 := ⟨fun c o n h => b.keep c o n (a.keep c o n h), fun c xs h => b.tup c xs (a.tup c xs h)⟩
theorem Adv.mono {S S' : List Addr} {H H' : Hp} (a : Adv S H H') (h : ∀ b ∈ S, b ∈ S') : Adv S' H H' := ⟨fun c o n q => a.keep c o (fun m => n (h c m)) q, a.tup⟩
theorem Adv.any {S : List Addr} {H H' : Hp} (a : Adv [] H H') : Adv S H H' := a.mono fun _ h => nomatch h
theorem Adv.new {H : Hp} {p : Addr} {o : HO} (h : H p = none) : Adv [] H (upd H p o) :=
  ⟨fun a u _ e => by rw [upd_ne (ne_of_none e h)]; exact e, fun a xs e => by rw [upd_ne (ne_of_none e h)]; exact e⟩
/-- an object that is no tuple is changed -/
theorem Adv.set {H : Hp} {f : Addr} {o u : HO} (e : H f = some u) (nt : ∀ xs, u ≠ .tup xs) : Adv [f] H (upd H f o) :=
  ⟨fun a v n q => by rw [upd_ne (fun z => n (by rw [z]; exact List.mem_singleton.mpr rfl))]; exact q, fun a xs q => by rw [upd_ne (ne_of q e (nt xs).symm)]; exact q⟩
theorem Adv.lst {H : Hp} {f : Addr} {o : HO} {ys : List V} (e : H f = some (.lst ys)) : Adv [f] H (upd H f o) := Adv.set e (fun _ z => by cases z)
theorem Adv.dct {H : Hp} {f : Addr} {o : HO} {ys : List (Key × V)} (e : H f = some (.dK ys)) : Adv [f] H (upd H f o) := Adv.set e (fun _ z => by cases z)
/-- what H does not know yet need not be named -/
theorem Adv.drop {S : List Addr} {f : Addr} {H H' : Hp} (a : Adv (f :: S) H H') (h : H f = none) : Adv S H H' :=
  ⟨fun b o n e => a.keep b o (fun m => by
    rcases List.mem_cons.mp m with z | z
    · rw [z] at e; rw [h] at e; cases e
    · exact n z) e, a.tup⟩
/-- f is new, the rest goes on, f is changed -/
theorem Adv.mut {S : List Addr} {f : Addr} {H H' : Hp} {o u : HO} (a : Adv S H H') (h : H f = none) (e : H' f = some u) (nt : ∀ xs, u ≠ .tup xs) : Adv S H (upd H' f o) :=
  ⟨fun b v n q => by rw [upd_ne (ne_of_none q h)]; exact a.keep b v n q, fun b xs q => by rw [upd_ne (ne_of_none q h)]; exact a.tup b xs q⟩
theorem Adv.free {S : List Addr} {H H' : Hp} {p : Addr} (a : Adv S H H') (hS : p ∉ S) (h : H' p = none) : H p = none := by
  cases q : H p with
  | none => rfl
  | some o =>
    rw [a.keep p o hS q] at h
    cases h
section
variable {K : PySem.W.Frag} {S : List Addr} {H H' : Hp} {a : Addr} {xs : List V}
theorem Adv.sql (e : Adv S H H') (hn : a ∉ S) (h : SqL K H a xs) : SqL K H' a xs := by
  rcases h with (h | ⟨o, h⟩) | h
  · exact .inl (.inl (e.keep _ _ hn h))
  · exact .inl (.inr ⟨o, e.keep _ _ hn h⟩)
  · exact .inr h
end
theorem w_new {H : Hp} {o : HO} {Q : V → Hp → Prop} (h : ∀ p H', H p = none → Adv [] H H' → H' p = some o → Q (.ref p) H') : ∀ p, H p = none → Q (.ref p) (upd H p o) := fun p hp => h p _ hp (Adv.new hp) upd_same

/-! ### the law's tape at st: a dict, its cells at cs.1 -/
def tapeK (c : Addr) (i g l s t : Int) : List (L2.Key × V) := [(.inr "cells", .ref c), (.inr "at", .int i), (.inr "great", .int g), (.inr "left", .int l), (.inr "seed", .int s), (.inr "turn", .int t)]
def StOk (st : Addr) (cs : Addr × Addr) (H : Hp) : Prop := ∃ (i g l s t : Int) (ns : List Int),
  H st = some (.dK (tapeK cs.1 i g l s t)) ∧ H cs.1 = some (.lst (ns.map V.int)) ∧ ns.length ≤ 63 ∧ cs.1 ≠ st ∧ cs.2 = cs.1 ∧ 0 ≤ i
def Off (p st : Addr) (cs : Addr × Addr) : Prop := p ≠ st ∧ p ≠ cs.1
theorem Off.not {p st : Addr} {cs : Addr × Addr} (h : Off p st cs) : p ∉ [st, cs.1] := fun z => by
  rcases List.mem_cons.mp z with e | e
  · exact h.1 e
  · exact h.2 (List.mem_singleton.mp e)
/-- a new object is none of them -/
theorem StOk.ne {st : Addr} {cs : Addr × Addr} {p : Addr} {H : Hp} (h : StOk st cs H) (hp : H p = none) : Off p st cs ∧ p ≠ cs.2 := by
  obtain ⟨_, _, _, _, _, _, h1, h2, _, _, h3, _⟩ := h
  exact ⟨⟨(ne_of_none h1 hp).symm, (ne_of_none h2 hp).symm⟩, by rw [h3]; exact (ne_of_none h2 hp).symm⟩
theorem StOk.keep {st : Addr} {cs : Addr × Addr} {H H' : Hp} {S : List Addr} (h : StOk st cs H) (e : Adv S H H') (h1 : st ∉ S) (h2 : cs.1 ∉ S) (h3 : cs.2 ∉ S) : StOk st cs H' := by
  obtain ⟨i, r, m, l, t, ns, a, b, d⟩ := h
  exact ⟨i, r, m, l, t, ns, e.keep _ _ h1 a, e.keep _ _ h2 b, d⟩
/-- the run goes on: the bag alone is changed -/
structure Go (st : Addr) (cs : Addr × Addr) (H H' : Hp) : Prop where
  adv : Adv [st, cs.1] H H'
  ok : StOk st cs H'
section
variable {st : Addr} {cs : Addr × Addr}
theorem Go.refl {H : Hp} (h : StOk st cs H) : Go st cs H H := ⟨.refl _ _, h⟩
theorem Go.trans {H H1 H2 : Hp} (a : Go st cs H H1) (b : Go st cs H1 H2) : Go st cs H H2 := ⟨a.adv.trans b.adv, b.ok⟩
theorem Go.of {H H' : Hp} (h : StOk st cs H) (e : Adv [] H H') : Go st cs H H' := ⟨e.any, h.keep e (fun z => nomatch z) (fun z => nomatch z) fun z => nomatch z⟩
theorem Go.new {H H' : Hp} (a : Go st cs H H') {H2 : Hp} (e : Adv [] H' H2) : Go st cs H H2 := a.trans (.of a.ok e)
theorem Go.mut {f : Addr} {H H' : Hp} {o u : HO} (a : Go st cs H H') (h : H f = none) (e : H' f = some u) (nt : ∀ xs, u ≠ .tup xs) (n1 : Off f st cs) (n2 : f ≠ cs.2) : Go st cs H (upd H' f o) :=
  ⟨a.adv.mut h e nt, a.ok.keep (Adv.set e nt) (fun z => n1.1 (List.mem_singleton.mp z).symm) (fun z => n1.2 (List.mem_singleton.mp z).symm) fun z => n2 (List.mem_singleton.mp z).symm⟩
theorem Go.mutL {f : Addr} {H H' : Hp} {o : HO} {xs : List V} (a : Go st cs H H') (hs : StOk st cs H) (h : H f = none) (e : H' f = some (.lst xs)) : Go st cs H (upd H' f o) :=
  a.mut h e (fun _ z => by cases z) (hs.ne h).1 (hs.ne h).2
theorem Go.mutT {f : Addr} {H H' : Hp} {o : HO} {xs : List (List L2.Key × V)} (a : Go st cs H H') (hs : StOk st cs H) (h : H f = none) (e : H' f = some (.dT xs)) : Go st cs H (upd H' f o) :=
  a.mut h e (fun _ z => by cases z) (hs.ne h).1 (hs.ne h).2
theorem Go.keep {a : Addr} {H H' : Hp} {o : HO} (g : Go st cs H H') (n : Off a st cs) (h : H a = some o) : H' a = some o := g.adv.keep a o n.not h
theorem Go.sql {a : Addr} {K : PySem.W.Frag} {H H' : Hp} {xs : List V} (g : Go st cs H H') (n : Off a st cs) (h : SqL K H a xs) : SqL K H' a xs := g.adv.sql n.not h
theorem Go.free {p : Addr} {H H' : Hp} (g : Go st cs H H') (hs : StOk st cs H) (h : H' p = none) : H p = none := g.adv.free (g.ok.ne h).1.not h
end
end AW
/-! one step of a reading at a time -/
namespace AW
open PySem PySem.Spec PyProof.Rows L2
section
variable {σ : L2.St} {H : Hp} {Q : VK} {ta tb te : TE} {t u : TT} {D : Ends} {t1 t2 : TS} {K : PySem.W.Frag}
theorem w_var {i : Nat} {v : V} (h : σ[i]? = some (some v)) (q : Q v H) : tVar i σ H Q := ⟨v, h, q⟩
theorem w_c {v : V} (q : Q v H) : tC v σ H Q := q
theorem w_op {r : R2} (h : ta σ H fun x H1 => tb σ H1 fun y H2 => r x y H2 Q) : tOp r ta tb σ H Q := h
theorem w_un {r : V → Hp → VK → Prop} (h : ta σ H fun x H1 => r x H1 Q) : tUn r ta σ H Q := h
theorem w_I0 {g : Int → Int → V} {i j : Int} (q : Q (g i j) H) : rI0 g (.int i) (.int j) H Q := ⟨i, j, rfl, rfl, q⟩
theorem w_I {C : Int → Int → Prop} {g : Int → Int → V} {i j : Int} (c : C i j) (q : Q (g i j) H) : rI C g (.int i) (.int j) H Q := ⟨i, j, rfl, rfl, c, q⟩
theorem w_U {g : Int → V} {i : Int} (q : Q (g i) H) : rU g (.int i) H Q := ⟨i, rfl, q⟩
theorem w_cb {r : List V → Hp → VK → Prop} {a : TA} (h : a σ H fun vs H1 => r vs H1 Q) : tCB r a σ H Q := h
theorem w_nil {Q : List V → Hp → Prop} (q : Q [] H) : tNil σ H Q := q
theorem w_cons {Q : List V → Hp → Prop} {a : TA} (h : ta σ H fun x H1 => a σ H1 fun xs H2 => Q (x :: xs) H2) : tCons ta a σ H Q := h
theorem w_call {sp : Sp} {E : XK} {a : TA} (h : a σ H fun vs H1 => sp vs H1 Q E) : tCall sp [] E a σ H Q := by
  show a σ H fun vs H1 => sp (vs ++ []) H1 Q E
  have e : (fun (vs : List V) (H1 : Hp) => sp (vs ++ []) H1 Q E) = fun vs H1 => sp vs H1 Q E := by
    funext vs H1
    rw [List.append_nil]
  rw [e]
  exact h
theorem w_test {Q : Bool → Hp → Prop} (h : te σ H fun x H1 => ∃ k, x = .bl k ∧ Q k H1) : tTest te σ H Q := h
theorem w_B {Q : Bool → Hp → Prop} (h : te σ H fun x H1 => ∃ k, x = .bl k ∧ Q k H1) : tB te σ H Q := h
theorem w_bl {k : Bool} {P : Bool → Prop} (q : P k) : ∃ k', V.bl k = .bl k' ∧ P k' := ⟨k, rfl, q⟩
theorem w_yes {Q : Bool → Hp → Prop} (q : Q true H) : tYes σ H Q := q
theorem w_not {Q : Bool → Hp → Prop} (h : t σ H fun c H1 => Q (!c) H1) : tNot t σ H Q := h
theorem w_and {Q : Bool → Hp → Prop} (h : t σ H fun c H1 => if c = true then u σ H1 Q else Q false H1) : tAnd t u σ H Q := h
theorem w_or {Q : Bool → Hp → Prop} (h : t σ H fun c H1 => if c = true then Q true H1 else u σ H1 Q) : tOr t u σ H Q := h
theorem w_andV (h : ta σ H fun x H1 => ∃ c, x = .bl c ∧ if c = true then tb σ H1 Q else Q (.bl false) H1) : tAndV ta tb σ H Q := h
theorem w_orV (h : ta σ H fun x H1 => ∃ c, x = .bl c ∧ if c = true then Q (.bl true) H1 else tb σ H1 Q) : tOrV ta tb σ H Q := h
theorem w_notV (h : ta σ H fun x H1 => ∃ c, x = .bl c ∧ Q (.bl (!c)) H1) : tNotV ta σ H Q := h
theorem w_if (h : t σ H fun c H1 => if c = true then ta σ H1 Q else tb σ H1 Q) : tIf t ta tb σ H Q := h
def kTupD (xs : List V) (H : Hp) (Q : VK) : Prop := xs.length ≤ sizeLine ∧ ∀ p, H p = none → Q (.ref p) (upd H p (.tup xs))
theorem w_tup {a : TA} (h : a σ H fun xs H1 => kTupD xs H1 Q) : tTup a σ H Q := h
def kLstD (xs : List V) (H : Hp) (Q : VK) : Prop := xs.length ≤ sizeLine ∧ ∀ p, H p = none → Q (.ref p) (upd H p (.lst xs))
theorem w_lst {a : TA} (h : a σ H fun xs H1 => kLstD xs H1 Q) : tLst a σ H Q := h
theorem w_int1 {i : Int} (q : Q (.int i) H) : rInt1 [.int i] H Q := .inl ⟨i, rfl, q⟩
theorem w_int1b {k : Bool} (q : Q (.int (if k then 1 else 0)) H) : rInt1 [.bl k] H Q := .inr ⟨k, rfl, q⟩
theorem w_abs {i : Int} (q : Q (.int (if i < 0 then -i else i)) H) : rAbs [.int i] H Q := ⟨i, rfl, q⟩
theorem w_max2 {i j : Int} (q : Q (.int (if j > i then j else i)) H) : rMax2 [.int i, .int j] H Q := ⟨i, j, rfl, q⟩
theorem w_min2 {i j : Int} (q : Q (.int (if j < i then j else i)) H) : rMin2 [.int i, .int j] H Q := ⟨i, j, rfl, q⟩
theorem w_eq {x y : V} (h : scal x y = true) (q : Q (.bl (decide (x = y))) H) : rEq x y H Q := ⟨h, q⟩
theorem w_ne {x y : V} (h : scal x y = true) (q : Q (.bl (!decide (x = y))) H) : rNe x y H Q := ⟨h, q⟩
theorem w_isN {x : V} (q : Q (.bl (decide (x = .non))) H) : rIsN x .non H Q := ⟨rfl, q⟩
theorem w_isB {a b : Bool} (q : Q (.bl (decide (a = b))) H) : rIsB (.bl a) (.bl b) H Q := ⟨a, b, rfl, rfl, q⟩
theorem w_chain {r r' : R2} {tc : TE} (h : ta σ H fun x H1 => tb σ H1 fun y H2 => r x y H2 fun z H3 => ∃ k, z = .bl k ∧ (if k = true then tc σ H3 fun w' H4 => r' y w' H4 Q else Q (.bl false) H3)) : tChain r r' ta tb tc σ H Q := h
/-- a list's item at a place -/
theorem w_ixL {p : Addr} {xs : List V} {i : Int} {v : V} (h : SqL K H p xs) (e : atI xs i = some v) (q : Q v H) : rIxL K (.ref p) (.int i) H Q := ⟨p, xs, i, v, rfl, rfl, h, e, q⟩
theorem w_ixT {p : Addr} {xs : List V} {i : Int} {v : V} (h : SqT K H p xs) (e : atI xs i = some v) (q : Q v H) : rIxT K (.ref p) (.int i) H Q := ⟨p, xs, i, v, rfl, rfl, h, e, q⟩
theorem w_lenL {p : Addr} {xs : List V} (h : SqL K H p xs) (q : Q (.int (xs.length : Nat)) H) : rLen1 K [.ref p] H Q := ⟨.ref p, xs.length, rfl, .inl ⟨xs, h, rfl⟩, q⟩
theorem w_lenT {p : Addr} {xs : List V} (h : SqT K H p xs) (q : Q (.int (xs.length : Nat)) H) : rLen1 K [.ref p] H Q := ⟨.ref p, xs.length, rfl, .inr ⟨xs, h, rfl⟩, q⟩
/-! statements -/
theorem w_seq (h : t1 { D with nx := t2 D } σ H) : tSeq t1 t2 D σ H := h
theorem w_next (q : D.nx σ H) : tNext D σ H := q
theorem w_ret (h : te σ H D.rt) : tRet te D σ H := h
theorem w_drop (h : te σ H fun _ H1 => D.nx σ H1) : tDrop te D σ H := h
theorem w_asg {g : TG} (h : te σ H fun x H1 => g x σ H1 D.nx) : tAsg te g D σ H := h
theorem w_gname {i : Nat} {v : V} {Q : L2.St → Hp → Prop} (q : Q (σ.set i (some v)) H) : gName i v σ H Q := q
theorem w_ifS (h : t σ H fun b H1 => if b = true then t1 D σ H1 else t2 D σ H1) : tIfS t t1 t2 D σ H := h
theorem w_gsub {s : TSet} {v : V} {Q : L2.St → Hp → Prop} (h : ta σ H fun o H1 => tb σ H1 fun i H2 => s o i v H2 fun H3 => Q σ H3) : gSub ta tb s v σ H Q := h
theorem w_augS {to ti : TE} {tget : V → V → Hp → VK → Prop} {tip : TIp} {tset : TSet} (h : to σ H fun o H1 => ti σ H1 fun i H2 => tget o i H2 fun x H3 => te σ H3 fun y H4 => tip x y H4 fun z H5 => tset o i z H5 fun H6 => D.nx σ H6) : tAugS to ti te tget tip tset D σ H := h
theorem w_ipI {f : Int → Int → Int} {i j : Int} (q : Q (.int (f i j)) H) : ipI f (.int i) (.int j) H Q := ⟨i, j, rfl, rfl, q⟩
theorem w_iteB {c : Prop} [Decidable c] {A B : Prop} (h1 : c → A) (h2 : ¬c → B) : if (decide c) = true then A else B := ite2 (fun h => h1 (of_decide_eq_true h)) fun h => h2 fun z => h (decide_eq_true z)
/-! slices, lists joined, append -/
theorem w_sl {r : V → Option Int → Option Int → Hp → VK → Prop} {tl th : TO} (h : te σ H fun x H1 => tl σ H1 fun l H2 => th σ H2 fun u H3 => r x l u H3 Q) : tSl r te tl th σ H Q := h
theorem w_part {Q : Option Int → Hp → Prop} (h : te σ H fun x H1 => ∃ i, x = .int i ∧ Q (some i) H1) : tPart te σ H Q := h
theorem w_noPart {Q : Option Int → Hp → Prop} (q : Q none H) : tNoPart σ H Q := q
theorem w_in {i : Int} {P : Int → Prop} (q : P i) : ∃ k, V.int i = .int k ∧ P k := ⟨i, rfl, q⟩
theorem w_slL {p : Addr} {xs : List V} {lo hi : Option Int} (h : SqL K H p xs) (q : ∀ r H', H r = none → Adv [] H H' → H' r = some (.lst (cutV xs lo hi)) → Q (.ref r) H') : rSlL K (.ref p) lo hi H Q := ⟨p, xs, rfl, h, w_new q⟩
theorem w_cat {a b : Addr} {xs ys : List V} (h1 : H a = some (.lst xs)) (h2 : H b = some (.lst ys)) (hz : xs.length + ys.length ≤ 100000) (q : ∀ r H', H r = none → Adv [] H H' → H' r = some (.lst (xs ++ ys)) → Q (.ref r) H') : rCat (.ref a) (.ref b) H Q :=
  ⟨a, b, xs, ys, rfl, rfl, h1, h2, Nat.le_trans hz (by decide), w_new q⟩
theorem w_listOf {p : Addr} {xs : List V} (h : SqL K H p xs ∨ SqT K H p xs) (q : ∀ r H', H r = none → Adv [] H H' → H' r = some (.lst xs) → Q (.ref r) H') : rListOf K [.ref p] H Q := ⟨p, xs, rfl, h, w_new q⟩
theorem w_app {i : Nat} {l : Addr} {xs0 : List V} {a : TA} (hσ : σ[i]? = some (some (.ref l))) (h0 : H l = some (.lst xs0)) (h : a σ H fun vs H2 => rAppend (.ref l) vs H2 Q) : tBM K "list" rAppend (tVar i) a σ H Q :=
  ⟨.ref l, hσ, .inl ⟨rfl, xs0, SqL.of h0⟩, h⟩
theorem w_append {l : Addr} {xs : List V} {y : V} (h : H l = some (.lst xs)) (hz : xs.length < 100000) (q : Q .non (upd H l (.lst (xs ++ [y])))) : rAppend (.ref l) [y] H Q :=
  ⟨l, xs, y, rfl, rfl, h, Nat.lt_of_lt_of_le hz (by decide), q⟩
theorem w_lstD {xs : List V} (hz : xs.length ≤ 100000) (q : ∀ r H', H r = none → Adv [] H H' → H' r = some (.lst xs) → Q (.ref r) H') : kLstD xs H Q := ⟨Nat.le_trans hz (by decide), w_new q⟩
theorem w_tupD {xs : List V} (hz : xs.length ≤ 100000) (q : ∀ r H', H r = none → Adv [] H H' → H' r = some (.tup xs) → Q (.ref r) H') : kTupD xs H Q := ⟨Nat.le_trans hz (by decide), w_new q⟩
/-! loops -/
def kFor (J : It) (g : TG) (tb : TS) (D : Ends) (σ : L2.St) (H1 : Hp) : Prop := ∃ W : Nat → Nat → L2.St → Hp → Prop, (∃ m, W 0 m σ H1) ∧ ∀ i m σ H, W i m σ H →
  (J.stop i H ∧ D.nx σ H) ∨ (J.go i H ∧ ∃ N : L2.St → Hp → Prop, (∀ σ' H', N σ' H' → ∃ m', m' < m ∧ W (i + 1) m' σ' H') ∧ ∀ v H', J.yld i H v H' → g v σ H' fun σ2 H2 => tb { D with nx := N, ct := N, bk := D.nx } σ2 H2)
def kForR (g : TG) (tb : TS) (D : Ends) (σ : L2.St) (vs : List V) (H1 : Hp) : Prop := ∃ j : Int, vs = [.int j] ∧ -(2 ^ 62) ≤ j ∧ j < 2 ^ 62 ∧ kFor (Itr 0 j.toNat) g tb D σ H1
theorem w_forR {a : TA} {g : TG} {tb : TS} (h : a σ H (kForR g tb D σ)) : tFor (iRng1 a) g tb D σ H := h
theorem kForR_i {n : Nat} {j : Nat} {tb : TS} (hn : n ≤ 1000000) (Pv : Nat → L2.St → Hp → Prop) (h0 : Pv 0 σ H) (hs : ∀ i σ' H', i < n → Pv i σ' H' → tb { D with nx := Pv (i + 1), ct := Pv (i + 1), bk := D.nx } (σ'.set j (some (.int (i : Nat)))) H')
    (hd : ∀ σ' H', Pv n σ' H' → D.nx σ' H') : kForR (gName j) tb D σ [.int (n : Nat)] H := by
  refine ⟨n, rfl, by omega, by omega, ?_⟩
  have e : ((n : Nat) : Int).toNat = n := by omega
  rw [e]
  refine for_range (lo := 0) (n := n) Pv h0 (fun i σ' H' hi p => ?_) hd
  show tb { D with nx := Pv (i + 1), ct := Pv (i + 1), bk := D.nx } (σ'.set j (some (.int ((0 : Int) + (i : Nat))))) H'
  rw [Int.zero_add]
  exact hs i σ' H' hi p
def kForR2 (g : TG) (tb : TS) (D : Ends) (σ : L2.St) (vs : List V) (H1 : Hp) : Prop := ∃ i j : Int, vs = [.int i, .int j] ∧ (-(2 ^ 62) ≤ i ∧ i < 2 ^ 62 ∧ -(2 ^ 62) ≤ j ∧ j < 2 ^ 62) ∧ kFor (Itr i (j - i).toNat) g tb D σ H1
theorem w_forR2 {a : TA} {g : TG} {tb : TS} (h : a σ H (kForR2 g tb D σ)) : tFor (iRng2 a) g tb D σ H := h
def kForL (K : PySem.W.Frag) (g : TG) (tb : TS) (D : Ends) (σ : L2.St) (x : V) (H1 : Hp) : Prop := ∃ a, x = .ref a ∧ (∃ xs, SqL K H1 a xs) ∧ kFor (Itl K a) g tb D σ H1
theorem w_forL {tl : TE} {g : TG} {tb : TS} (h : tl σ H (kForL K g tb D σ)) : tFor (iList K tl) g tb D σ H := h
theorem kForL_i {p : Addr} {xs : List V} {g : TG} {tb : TS} (Pv : Nat → L2.St → Hp → Prop) (hp : SqL K H p xs) (h0 : Pv 0 σ H) (hl : ∀ i σ' H', i ≤ xs.length → Pv i σ' H' → SqL K H' p xs)
    (hs : ∀ i v σ' H', xs[i]? = some v → Pv i σ' H' → g v σ' H' fun σ2 H2 => tb { D with nx := Pv (i + 1), ct := Pv (i + 1), bk := D.nx } σ2 H2) (hd : ∀ σ' H', Pv xs.length σ' H' → D.nx σ' H') : kForL K g tb D σ (.ref p) H :=
  ⟨p, rfl, ⟨xs, hp⟩, for_list Pv h0 hl hs hd⟩
def kForT (K : PySem.W.Frag) (g : TG) (tb : TS) (D : Ends) (σ : L2.St) (x : V) (H1 : Hp) : Prop := ∃ a, x = .ref a ∧ (∃ xs, SqT K H1 a xs) ∧ kFor (Itt K a) g tb D σ H1
theorem w_forT {tl : TE} {g : TG} {tb : TS} (h : tl σ H (kForT K g tb D σ)) : tFor (iTup K tl) g tb D σ H := h
theorem kForT_i {p : Addr} {xs : List V} {g : TG} {tb : TS} (Pv : Nat → L2.St → Hp → Prop) (hp : SqT K H p xs) (h0 : Pv 0 σ H) (hl : ∀ i σ' H', i ≤ xs.length → Pv i σ' H' → SqT K H' p xs)
    (hs : ∀ i v σ' H', xs[i]? = some v → Pv i σ' H' → g v σ' H' fun σ2 H2 => tb { D with nx := Pv (i + 1), ct := Pv (i + 1), bk := D.nx } σ2 H2) (hd : ∀ σ' H', Pv xs.length σ' H' → D.nx σ' H') : kForT K g tb D σ (.ref p) H :=
  ⟨p, rfl, ⟨xs, hp⟩, for_tup Pv h0 hl hs hd⟩
/-! comprehensions -/
def kLc (J : It) (g : TG) (tt : TT) (te : TE) (vs : List Nat) (σ : L2.St) (Q : VK) (H1 : Hp) : Prop := ∀ D, H1 D = none → ∃ W : Nat → Nat → Hp → Prop, (∃ m, W 0 m (upd H1 D (.lst []))) ∧ ∀ i m H, W i m H →
  (J.stop i H ∧ Q (.ref D) H) ∨ (J.go i H ∧ ∃ Nx : Hp → Prop, (∀ H', Nx H' → ∃ m', m' < m ∧ W (i + 1) m' H') ∧ ∀ x H', J.yld i H x H' → g x (wipe σ vs) H' fun σ2 H2 => wipe σ2 vs = wipe σ vs ∧ tt σ2 H2 fun b H3 =>
    if b = true then te σ2 H3 fun y H4 => ∃ acc, H4 D = some (.lst acc) ∧ acc.length < sizeLine ∧ Nx (upd H4 D (.lst (acc ++ [y]))) else Nx H3)
def kLcR (g : TG) (tt : TT) (te : TE) (vs : List Nat) (σ : L2.St) (Q : VK) (ws : List V) (H1 : Hp) : Prop := ∃ j : Int, ws = [.int j] ∧ -(2 ^ 62) ≤ j ∧ j < 2 ^ 62 ∧ kLc (Itr 0 j.toNat) g tt te vs σ Q H1
def kLcL (K : PySem.W.Frag) (g : TG) (tt : TT) (te : TE) (vs : List Nat) (σ : L2.St) (Q : VK) (x : V) (H1 : Hp) : Prop := ∃ a, x = .ref a ∧ (∃ xs, SqL K H1 a xs) ∧ kLc (Itl K a) g tt te vs σ Q H1
def kLcT (K : PySem.W.Frag) (g : TG) (tt : TT) (te : TE) (vs : List Nat) (σ : L2.St) (Q : VK) (x : V) (H1 : Hp) : Prop := ∃ a, x = .ref a ∧ (∃ xs, SqT K H1 a xs) ∧ kLc (Itt K a) g tt te vs σ Q H1
theorem w_lcR {a : TA} {g : TG} {vs : List Nat} (h : a σ H (kLcR g t te vs σ Q)) : tLc (iRng1 a) g t te vs σ H Q := h
theorem w_lcL {tl : TE} {g : TG} {vs : List Nat} (h : tl σ H (kLcL K g t te vs σ Q)) : tLc (iList K tl) g t te vs σ H Q := h
theorem w_lcT {tl : TE} {g : TG} {vs : List Nat} (h : tl σ H (kLcT K g t te vs σ Q)) : tLc (iTup K tl) g t te vs σ H Q := h
/-- a list is made, turn by turn, while the run goes on: R tells of each item that is given, at the places that are taken -/
structure Mk (st : Addr) (cs : Addr × Addr) (H0 : Hp) (R : Nat → V → Hp → Prop) (l : Addr) (i : Nat) (H : Hp) : Prop where
  go : Go st cs H0 H
  new : H0 l = none
  ok0 : StOk st cs H0
  at_ : ∃ (ks : List Nat) (ys : List V), H l = some (.lst ys) ∧ ks.length = ys.length ∧ ks.Pairwise (· < ·) ∧ (∀ k ∈ ks, k < i) ∧ ∀ (m : Nat) k v, ks[m]? = some k → ys[m]? = some v → R k v H
end
end AW
/-! data that stand in tuples; lists made by comprehensions while the run goes on -/
namespace AW
open PySem PySem.Spec PyProof.Rows L2

/-- tuples are kept -/
def TK (H H' : Hp) : Prop := ∀ a xs, H a = some (.tup xs) → H' a = some (.tup xs)
theorem TK.refl (H : Hp) : TK H H := fun _ _ h => h
theorem TK.trans {H H1 H2 : Hp} (a : TK H H1) (b : TK H1 H2) : TK H H2 := fun c xs h => b c xs (a c xs h)
theorem Go.tk {st : Addr} {cs : Addr × Addr} {H H' : Hp} (g : Go st cs H H') : TK H H' := g.adv.tup
mutual
/-- the value stands for the datum: scalars, and tuples of such -/
inductive Is (H : Hp) : PyData → V → Prop where
  | non : Is H .none .non
  | bl (b : Bool) : Is H (.bool b) (.bl b)
  | int (i : Int) : Is H (.int i) (.int i)
  | str (x : Str) : Is H (.str x) (.str x)
  | tup {a : Addr} {xs : List V} {ds : List PyData} : H a = some (.tup xs) → IsAll H ds xs → Is H (.tuple ds) (.ref a)
inductive IsAll (H : Hp) : List PyData → List V → Prop where
  | nil : IsAll H [] []
  | cons {d : PyData} {ds : List PyData} {v : V} {vs : List V} : Is H d v → IsAll H ds vs → IsAll H (d :: ds) (v :: vs)
end
mutual
theorem Is.up {H H' : Hp} (k : TK H H') : ∀ {d : PyData} {v : V}, Is H d v → Is H' d v
  | _, _, .non => .non
  | _, _, .bl b => .bl b
  | _, _, .int i => .int i
  | _, _, .str x => .str x
  | _, _, .tup e h => .tup (k _ _ e) (IsAll.up k h)
theorem IsAll.up {H H' : Hp} (k : TK H H') : ∀ {ds : List PyData} {vs : List V}, IsAll H ds vs → IsAll H' ds vs
  | _, _, .nil => .nil
  | _, _, .cons h t => .cons (Is.up k h) (IsAll.up k t)
end
mutual
theorem Is.dp {K : PySem.W.Frag} {H : Hp} : ∀ {d : PyData} {v : V}, Is H d v → Dp K H v d
  | _, _, .non => .non
  | _, _, .bl b => .bl b
  | _, _, .int i => .int i
  | _, _, .str x => .str x
  | _, _, .tup e h => .tup (SqT.of e) (IsAll.dp h)
theorem IsAll.dp {K : PySem.W.Frag} {H : Hp} : ∀ {ds : List PyData} {vs : List V}, IsAll H ds vs → DpAll K H vs ds
  | _, _, .nil => .nil
  | _, _, .cons h t => .cons (Is.dp h) (IsAll.dp t)
end
theorem IsAll.length {H : Hp} : ∀ {ds : List PyData} {vs : List V}, IsAll H ds vs → vs.length = ds.length
  | _, _, .nil => rfl
  | _, _, .cons _ t => congrArg (· + 1) t.length
theorem IsAll.get {H : Hp} : ∀ {ds : List PyData} {vs : List V} {i : Nat} {v : V}, IsAll H ds vs → vs[i]? = some v → ∃ d, ds[i]? = some d ∧ Is H d v
  | _, _, _, _, .nil, e => by simp at e
  | _, _, 0, _, .cons h _, e => by
    simp at e
    subst e
    exact ⟨_, rfl, h⟩
  | _, _, i + 1, v, .cons _ t, e => by
    obtain ⟨d, h1, h2⟩ := IsAll.get (i := i) (v := v) t (by simpa using e)
    exact ⟨d, by simpa using h1, h2⟩
theorem IsAll.get' {H : Hp} : ∀ {ds : List PyData} {vs : List V} {i : Nat} {d : PyData}, IsAll H ds vs → ds[i]? = some d → ∃ v, vs[i]? = some v ∧ Is H d v
  | _, _, _, _, .nil, e => by simp at e
  | _, _, 0, _, .cons h _, e => by
    simp at e
    subst e
    exact ⟨_, rfl, h⟩
  | _, _, i + 1, d, .cons _ t, e => by
    obtain ⟨v, h1, h2⟩ := IsAll.get' (i := i) (d := d) t (by simpa using e)
    exact ⟨v, by simpa using h1, h2⟩
theorem IsAll.of {H : Hp} : ∀ (ds : List PyData) (vs : List V), vs.length = ds.length → (∀ (i : Nat) d v, ds[i]? = some d → vs[i]? = some v → Is H d v) → IsAll H ds vs
  | [], [], _, _ => .nil
  | d :: ds, v :: vs, hl, h => .cons (h 0 d v rfl rfl) (IsAll.of ds vs (Nat.succ.inj hl) fun i d' v' h1 h2 => h (i + 1) d' v' (by simpa using h1) (by simpa using h2))
  | [], _ :: _, hl, _ => by simp at hl
  | _ :: _, [], hl, _ => by simp at hl
theorem IsAll.append {H : Hp} : ∀ {ds es : List PyData} {vs ws : List V}, IsAll H ds vs → IsAll H es ws → IsAll H (ds ++ es) (vs ++ ws)
  | _, _, _, _, .nil, h => h
  | _, _, _, _, .cons a t, h => .cons a (IsAll.append t h)
theorem IsAll.ints {H : Hp} : ∀ (ns : List Int), IsAll H (ns.map .int) (ns.map V.int)
  | [] => .nil
  | n :: ns => .cons (.int n) (IsAll.ints ns)
theorem IsAll.strs {H : Hp} : ∀ (ns : List Str), IsAll H (ns.map .str) (ns.map V.str)
  | [] => .nil
  | n :: ns => .cons (.str n) (IsAll.strs ns)
theorem IsAll.ints_inv {H : Hp} : ∀ {ns : List Int} {vs : List V}, IsAll H (ns.map .int) vs → vs = ns.map V.int
  | [], _, .nil => rfl
  | n :: ns, _, .cons h t => by
    cases h
    rw [IsAll.ints_inv t]
    rfl
theorem Is.int_inv {H : Hp} {n : Int} {v : V} (h : Is H (.int n) v) : v = .int n := by
  cases h
  rfl
theorem Is.str_inv {H : Hp} {n : Str} {v : V} (h : Is H (.str n) v) : v = .str n := by
  cases h
  rfl
theorem Is.tup_inv {H : Hp} {ds : List PyData} {v : V} (h : Is H (.tuple ds) v) : ∃ a xs, v = .ref a ∧ H a = some (.tup xs) ∧ IsAll H ds xs := by
  cases h with
  | tup e t => exact ⟨_, _, rfl, e, t⟩
section
variable {K : PySem.W.Frag} {st : Addr} {cs : Addr × Addr} {J : It} {n : Nat} {G : Hp → Prop} {Y : Nat → Hp → V → Hp → Prop} {g : TG} {tt : TT} {te : TE} {vs : List Nat} {σ : L2.St} {Q : VK} {H1 : Hp}
/-- a comprehension without a test -/
theorem kLc_all (wk : Walk J n G Y) (hn : n ≤ 100000) (ok : StOk st cs H1) (hG : ∀ H', Go st cs H1 H' → G H') (R : Nat → V → Hp → Prop) (mono : ∀ i v H H', TK H H' → R i v H → R i v H')
    (step : ∀ i x H H' (Kt : V → Hp → Prop), i < n → Go st cs H1 H → Y i H x H' → (∀ y H4, Go st cs H H4 → R i y H4 → Kt y H4) → g x (wipe σ vs) H' fun σ2 H2 => wipe σ2 vs = wipe σ vs ∧ te σ2 H2 Kt)
    (k : ∀ p H' ys, H1 p = none → Go st cs H1 H' → H' p = some (.lst ys) → ys.length = n → (∀ (i : Nat) v, ys[i]? = some v → R i v H') → Q (.ref p) H') : kLc J g tYes te vs σ Q H1 := by
  intro D hD
  have nD := ok.ne hD
  refine lc_it wk (fun i H => Go st cs H1 H ∧ ∃ ys, H D = some (.lst ys) ∧ ys.length = i ∧ ∀ (m : Nat) v, ys[m]? = some v → R m v H) ⟨.of ok (Adv.new hD), [], upd_same, rfl, fun m v e => by simp at e⟩ (fun i H _ p => hG H p.1)
    (fun i x H H' hi p y => ?_) fun H p => ?_
  · obtain ⟨g1, ys, e1, hl, hr⟩ := p
    refine step i x H H' _ hi g1 y fun v H4 g4 r4 => ?_
    have e4 : H4 D = some (.lst ys) := g4.keep nD.1 e1
    have t5 : TK H4 (upd H4 D (.lst (ys ++ [v]))) := (Adv.lst e4).tup
    refine ⟨ys, e4, Nat.lt_of_lt_of_le (show ys.length < 100001 by omega) (by decide), (g1.trans g4).mutL ok hD e4, ys ++ [v], upd_same, by rw [List.length_append, hl]; rfl, fun m w e => ?_⟩
    by_cases hm : m < ys.length
    · rw [List.getElem?_append_left hm] at e
      exact mono _ _ _ _ (g4.tk.trans t5) (hr m w e)
    · have hm2 : m = ys.length := by
        have := (List.getElem?_eq_some_iff.mp e).1
        rw [List.length_append] at this
        simp at this
        omega
      subst hm2
      rw [List.getElem?_append_right (Nat.le_refl _), Nat.sub_self] at e
      simp at e
      subst e
      rw [hl]
      exact mono _ _ _ _ t5 r4
  · obtain ⟨g1, ys, e1, hl, hr⟩ := p
    exact k D H ys hD g1 e1 hl hr
/-- a comprehension with a test: ks the places that are taken, in order; F tells of the others -/
theorem kLc_some (wk : Walk J n G Y) (hn : n ≤ 100000) (ok : StOk st cs H1) (hG : ∀ H', Go st cs H1 H' → G H') (R : Nat → V → Hp → Prop) (F : Nat → Prop) (mono : ∀ i v H H', TK H H' → R i v H → R i v H')
    (step : ∀ i x H H' (Kt : V → Hp → Prop) (Kf : Hp → Prop), i < n → Go st cs H1 H → Y i H x H' → (∀ y H4, Go st cs H H4 → R i y H4 → Kt y H4) → (∀ H3, Go st cs H H3 → F i → Kf H3) →
      g x (wipe σ vs) H' fun σ2 H2 => wipe σ2 vs = wipe σ vs ∧ tt σ2 H2 fun b H3 => if b = true then te σ2 H3 Kt else Kf H3)
    (k : ∀ p H' (ks : List Nat) ys, H1 p = none → Go st cs H1 H' → H' p = some (.lst ys) → ks.length = ys.length → ks.Pairwise (· < ·) → (∀ k ∈ ks, k < n) → (∀ k, k < n → k ∉ ks → F k) → (∀ (m k : Nat) v, ks[m]? = some k → ys[m]? = some v → R k v H') → Q (.ref p) H') :
    kLc J g tt te vs σ Q H1 := by
  intro D hD
  have nD := ok.ne hD
  refine lc_it wk (fun i H => Go st cs H1 H ∧ ∃ (ks : List Nat) (ys : List V), H D = some (.lst ys) ∧ ks.length = ys.length ∧ ks.Pairwise (· < ·) ∧ (∀ k ∈ ks, k < i) ∧ (∀ k, k < i → k ∉ ks → F k) ∧ ks.length ≤ i ∧ ∀ (m : Nat) k v, ks[m]? = some k → ys[m]? = some v → R k v H)
    ⟨.of ok (Adv.new hD), [], [], upd_same, rfl, .nil, fun k h => (nomatch h), fun k h => absurd h (Nat.not_lt_zero _), Nat.le_refl _, fun m k v e => by simp at e⟩ (fun i H _ p => hG H p.1) (fun i x H H' hi p y => ?_) fun H p => ?_
  · obtain ⟨g1, ks, ys, e1, hl, hp, hk, hf, hle, hr⟩ := p
    refine step i x H H' _ _ hi g1 y (fun v H4 g4 r4 => ?_) fun H3 g3 f3 => ?_
    · have e4 : H4 D = some (.lst ys) := g4.keep nD.1 e1
      have t5 : TK H4 (upd H4 D (.lst (ys ++ [v]))) := (Adv.lst e4).tup
      refine ⟨ys, e4, Nat.lt_of_lt_of_le (show ys.length < 100001 by omega) (by decide), (g1.trans g4).mutL ok hD e4, ks ++ [i], ys ++ [v], upd_same, by rw [List.length_append, List.length_append, hl]; rfl, ?_, fun k h => ?_, fun k h1 h2 => ?_, by rw [List.length_append]; simp; omega, fun m k w e1 e2 => ?_⟩
      · rw [List.pairwise_append]
        exact ⟨hp, List.pairwise_singleton .., fun a ha b hb => by rw [List.mem_singleton.mp hb]; exact hk a ha⟩
      · rcases List.mem_append.mp h with h | h
        · exact Nat.lt_succ_of_lt (hk k h)
        · rw [List.mem_singleton.mp h]
          exact Nat.lt_succ_self _
      · have h3 : k ≠ i := fun z => h2 (List.mem_append_right _ (by rw [z]; exact List.mem_singleton.mpr rfl))
        exact hf k (by omega) fun z => h2 (List.mem_append_left _ z)
      · by_cases hm : m < ys.length
        · rw [List.getElem?_append_left hm] at e2
          rw [List.getElem?_append_left (by omega)] at e1
          exact mono _ _ _ _ (g4.tk.trans t5) (hr m k w e1 e2)
        · have hm2 : m = ys.length := by
            have := (List.getElem?_eq_some_iff.mp e2).1
            rw [List.length_append] at this
            simp at this
            omega
          subst hm2
          rw [List.getElem?_append_right (Nat.le_refl _), Nat.sub_self] at e2
          rw [← hl, List.getElem?_append_right (Nat.le_refl _), Nat.sub_self] at e1
          simp at e1 e2
          subst e1 e2
          exact mono _ _ _ _ t5 r4
    · refine ⟨g1.trans g3, ks, ys, g3.keep nD.1 e1, hl, hp, fun k h => Nat.lt_succ_of_lt (hk k h), fun k h1 h2 => ?_, by omega, fun m k w e1 e2 => mono _ _ _ _ g3.tk (hr m k w e1 e2)⟩
      by_cases hki : k = i
      · subst hki
        exact f3
      · exact hf k (by omega) h2
  · obtain ⟨g1, ks, ys, e1, hl, hp, hk, hf, hle, hr⟩ := p
    exact k D H ks ys hD g1 e1 hl hp hk hf hr
theorem kLcR_all {n : Nat} (hn : n ≤ 100000) (ok : StOk st cs H1) (R : Nat → V → Hp → Prop) (mono : ∀ i v H H', TK H H' → R i v H → R i v H')
    (step : ∀ i H (Kt : V → Hp → Prop), i < n → Go st cs H1 H → (∀ y H4, Go st cs H H4 → R i y H4 → Kt y H4) → g (.int (i : Nat)) (wipe σ vs) H fun σ2 H2 => wipe σ2 vs = wipe σ vs ∧ te σ2 H2 Kt)
    (k : ∀ p H' ys, H1 p = none → Go st cs H1 H' → H' p = some (.lst ys) → ys.length = n → (∀ (i : Nat) v, ys[i]? = some v → R i v H') → Q (.ref p) H') : kLcR g tYes te vs σ Q [.int (n : Nat)] H1 := by
  refine ⟨n, rfl, by omega, by omega, ?_⟩
  have e : ((n : Nat) : Int).toNat = n := by omega
  rw [e]
  refine kLc_all walk_range hn ok (fun _ _ => trivial) R mono (fun i x H H' Kt hi g1 y kt => ?_) k
  obtain ⟨rfl, rfl⟩ := y
  show g (.int ((0 : Int) + (i : Nat))) _ _ _
  rw [Int.zero_add]
  exact step i H' Kt hi g1 kt
theorem kLcR_some {n : Nat} (hn : n ≤ 100000) (ok : StOk st cs H1) (R : Nat → V → Hp → Prop) (F : Nat → Prop) (mono : ∀ i v H H', TK H H' → R i v H → R i v H')
    (step : ∀ i H (Kt : V → Hp → Prop) (Kf : Hp → Prop), i < n → Go st cs H1 H → (∀ y H4, Go st cs H H4 → R i y H4 → Kt y H4) → (∀ H3, Go st cs H H3 → F i → Kf H3) →
      g (.int (i : Nat)) (wipe σ vs) H fun σ2 H2 => wipe σ2 vs = wipe σ vs ∧ tt σ2 H2 fun b H3 => if b = true then te σ2 H3 Kt else Kf H3)
    (k : ∀ p H' (ks : List Nat) ys, H1 p = none → Go st cs H1 H' → H' p = some (.lst ys) → ks.length = ys.length → ks.Pairwise (· < ·) → (∀ k ∈ ks, k < n) → (∀ k, k < n → k ∉ ks → F k) → (∀ (m k : Nat) v, ks[m]? = some k → ys[m]? = some v → R k v H') → Q (.ref p) H') :
    kLcR g tt te vs σ Q [.int (n : Nat)] H1 := by
  refine ⟨n, rfl, by omega, by omega, ?_⟩
  have e : ((n : Nat) : Int).toNat = n := by omega
  rw [e]
  refine kLc_some walk_range hn ok (fun _ _ => trivial) R F mono (fun i x H H' Kt Kf hi g1 y kt kf => ?_) k
  obtain ⟨rfl, rfl⟩ := y
  show g (.int ((0 : Int) + (i : Nat))) _ _ _
  rw [Int.zero_add]
  exact step i H' Kt Kf hi g1 kt kf
theorem kLcL_all {p : Addr} {xs : List V} (hp : SqL K H1 p xs) (np : Off p st cs) (hn : xs.length ≤ 100000) (ok : StOk st cs H1) (R : Nat → V → Hp → Prop) (mono : ∀ i v H H', TK H H' → R i v H → R i v H')
    (step : ∀ i x H (Kt : V → Hp → Prop), xs[i]? = some x → Go st cs H1 H → (∀ y H4, Go st cs H H4 → R i y H4 → Kt y H4) → g x (wipe σ vs) H fun σ2 H2 => wipe σ2 vs = wipe σ vs ∧ te σ2 H2 Kt)
    (k : ∀ p H' ys, H1 p = none → Go st cs H1 H' → H' p = some (.lst ys) → ys.length = xs.length → (∀ (i : Nat) v, ys[i]? = some v → R i v H') → Q (.ref p) H') : kLcL K g tYes te vs σ Q (.ref p) H1 :=
  ⟨p, rfl, ⟨xs, hp⟩, kLc_all walk_list hn ok (fun _ g => g.sql np hp) R mono (fun i x H H' Kt hi g1 y kt => by
    obtain ⟨rfl, e⟩ := y
    exact step i x H' Kt e g1 kt) k⟩
end
theorem at_nat {xs : List V} {n : Int} {v : V} (h0 : 0 ≤ n) (h : xs[n.toNat]? = some v) : atI xs n = some v := at_of (j := n.toNat) (by omega) h
theorem get_some {α : Type} {xs : List α} {i : Nat} (h : i < xs.length) : ∃ v, xs[i]? = some v := ⟨xs[i], List.getElem?_eq_getElem h⟩
theorem cut_to (xs : List V) {n : Int} (h0 : 0 ≤ n) : cutV xs none (some n) = xs.take n.toNat := by
  obtain ⟨m, rfl⟩ : ∃ m : Nat, n = m := ⟨n.toNat, by omega⟩
  unfold cutV
  rw [HT.sIx_none, HT.sIx_nat]
  simp only [List.drop_zero, Nat.sub_zero, Int.toNat_natCast]
  by_cases h : m ≤ xs.length
  · rw [Nat.min_eq_left h]
  · rw [Nat.min_eq_right (by omega), List.take_of_length_le (Nat.le_refl _), List.take_of_length_le (by omega)]
theorem cut_from (xs : List V) {n : Int} (h0 : 0 ≤ n) : cutV xs (some n) none = xs.drop n.toNat := by
  obtain ⟨m, rfl⟩ : ∃ m : Nat, n = m := ⟨n.toNat, by omega⟩
  unfold cutV
  rw [HT.sIx_none, HT.sIx_nat]
  simp only [Int.toNat_natCast]
  by_cases h : m ≤ xs.length
  · rw [Nat.min_eq_left h, List.take_of_length_le (by rw [List.length_drop]; exact Nat.le_refl _)]
  · rw [Nat.min_eq_right (by omega), List.drop_of_length_le (Nat.le_refl _), List.drop_of_length_le (by omega)]
    simp
theorem SqL.upd {K : PySem.W.Frag} {H : Hp} {a : Addr} {xs : List V} : SqL K (upd H a (.lst xs)) a xs := SqL.of upd_same
theorem getD_of {α : Type} {xs : List α} {i : Nat} {d v : α} (h : xs[i]? = some v) : xs.getD i d = v := by rw [List.getD_eq_getElem?_getD, h]; rfl
end AW
/-! zip of three tuples of one length; zip of two tuples as a walk; dicts made by comprehensions -/
namespace AW
open PySem PySem.Spec PyProof.Rows L2 RZ

/-- three tuples beside one another, of one length -/
def Itz3 (K : PySem.W.Frag) (a b c : Addr) : It where
  go i H := ∃ xs ys zs : List V, SqT K H a xs ∧ SqT K H b ys ∧ SqT K H c zs ∧ i < xs.length ∧ i < ys.length ∧ i < zs.length
  yld i H v H' := ∃ (T : Addr) (x y u : V), v = .ref T ∧ H T = none ∧ H' = upd H T (.tup [x, y, u]) ∧ (∀ xs, SqT K H a xs → xs[i]? = some x) ∧ (∀ ys, SqT K H b ys → ys[i]? = some y) ∧ ∀ zs, SqT K H c zs → zs[i]? = some u
  stop i H := ∃ xs ys zs : List V, SqT K H a xs ∧ SqT K H b ys ∧ SqT K H c zs ∧ i = xs.length ∧ i = ys.length ∧ i = zs.length

/-- what stands within zip(a, b, c) -/
def iZip3 (K : PySem.W.Frag) (ta : TA) : TI := fun σ H R => ta σ H fun vs H1 => ∃ (a b c : Addr) (xs ys zs : List V), vs = [.ref a, .ref b, .ref c] ∧ SqT K H1 a xs ∧ SqT K H1 b ys ∧ SqT K H1 c zs ∧ R (Itz3 K a b c) H1
theorem no2 {x y z : Nat} (h1 : x ≠ y) (h2 : x ≠ z) : x ∉ [y, z] := fun h => by
  rcases List.mem_cons.mp h with e | e
  · exact h1 e
  · exact h2 (List.mem_singleton.mp e)
section
variable {K : PySem.W.Frag} {a b c : Addr} {xs ys zs : List V}
theorem walk_zipT (h1 : ys.length = xs.length) : Walk (ItzT K a b) xs.length (fun H => H a = some (.tup xs) ∧ H b = some (.tup ys)) (YPair (fun i => xs[i]?) (fun i => ys[i]?)) :=
  ⟨fun i H hi q => ⟨xs, ys, xs[i], ys[i], SqT.of q.1, SqT.of q.2, List.getElem?_eq_getElem hi, List.getElem?_eq_getElem (by omega)⟩, fun H q => ⟨xs, ys, SqT.of q.1, SqT.of q.2, .inl (Nat.le_refl _)⟩,
    fun i H v H' _ q ⟨T, x, y, e1, e2, e3, e4, e5⟩ => ⟨T, x, y, e1, e2, e3, e4 _ (SqT.of q.1), e5 _ (SqT.of q.2)⟩⟩
end

/-! ### comprehensions that leave the state alone: a pure one; a dict -/
section
variable {J : It} {n : Nat} {G : Hp → Prop} {Y : Nat → Hp → V → Hp → Prop} {g : TG} {tt : TT} {te tk tv : TE} {vs : List Nat} {σ : L2.St} {Q : VK} {H1 : Hp} {K : PySem.W.Frag} {ta : TA}
/-- a comprehension with a test, nothing changed but new objects; B tells the test's word at each turn, v the item's value -/
theorem kLc_pure (wk : Walk J n G Y) (hn : n ≤ 100000) (hG : ∀ H', Adv [] H1 H' → G H') (B : Nat → Bool) (v : Nat → V)
    (step : ∀ i x H H' (Kt : V → Hp → Prop) (Kf : Hp → Prop), i < n → Adv [] H1 H → Y i H x H' → (B i = true → ∀ H4, Adv [] H H4 → Kt (v i) H4) → (B i = false → ∀ H3, Adv [] H H3 → Kf H3) →
      g x (wipe σ vs) H' fun σ2 H2 => wipe σ2 vs = wipe σ vs ∧ tt σ2 H2 fun b H3 => if b = true then te σ2 H3 Kt else Kf H3)
    (k : ∀ p H', H1 p = none → Adv [] H1 H' → H' p = some (.lst (((List.range n).filter B).map v)) → Q (.ref p) H') : kLc J g tt te vs σ Q H1 := by
  intro D hD
  refine lc_it wk (fun i H => i ≤ n ∧ Adv [] H1 H ∧ H D = some (.lst (((List.range i).filter B).map v))) ⟨Nat.zero_le _, Adv.new hD, upd_same⟩ (fun i H _ p => hG H p.2.1) (fun i x H H' hi p y => ?_) fun H p => k D H hD p.2.1 p.2.2
  obtain ⟨_, g1, e1⟩ := p
  have hlen : (((List.range i).filter B).map v).length ≤ 100000 := by
    rw [List.length_map]
    refine Nat.le_trans (List.length_filter_le ..) ?_
    rw [List.length_range]
    omega
  refine step i x H H' _ _ hi g1 y (fun hb H4 g4 => ?_) fun hb H3 g3 => ?_
  · have e4 := g4.keep _ _ (fun z => nomatch z) e1
    refine ⟨_, e4, Nat.lt_of_lt_of_le (Nat.lt_succ_of_le hlen) (by decide), hi, (g1.trans g4).mut hD e4 (fun _ z => by cases z), ?_⟩
    rw [upd_same, List.range_succ, List.filter_append, List.map_append]
    simp [hb]
  · refine ⟨hi, g1.trans g3, ?_⟩
    rw [g3.keep _ _ (fun z => nomatch z) e1, List.range_succ, List.filter_append, List.map_append]
    simp [hb]
/-- over three tuples of one length -/
def kLc3 (K : PySem.W.Frag) (g : TG) (tt : TT) (te : TE) (vs : List Nat) (σ : L2.St) (Q : VK) (ws : List V) (H1 : Hp) : Prop := ∃ (a b c : Addr) (xs ys zs : List V), ws = [.ref a, .ref b, .ref c] ∧ SqT K H1 a xs ∧ SqT K H1 b ys ∧ SqT K H1 c zs ∧ kLc (Itz3 K a b c) g tt te vs σ Q H1
theorem w_lc3 (h : ta σ H1 (kLc3 K g tt te vs σ Q)) : tLc (iZip3 K ta) g tt te vs σ H1 Q := h
/-- a dict is made, turn by turn -/
def kDc (J : It) (g : TG) (tt : TT) (tk tv : TE) (vs : List Nat) (σ : L2.St) (Q : VK) (H1 : Hp) : Prop := ∀ D, H1 D = none → ∃ W : Nat → Nat → Hp → Prop, (∃ m, W 0 m (upd H1 D (.dK []))) ∧ ∀ i m H, W i m H →
  (J.stop i H ∧ Q (.ref D) H) ∨ (J.go i H ∧ ∃ Nx : Hp → Prop, (∀ H', Nx H' → ∃ m', m' < m ∧ W (i + 1) m' H') ∧ ∀ x H', J.yld i H x H' → g x (wipe σ vs) H' fun σ2 H2 => wipe σ2 vs = wipe σ vs ∧ tt σ2 H2 fun b H3 =>
    if b = true then tk σ2 H3 fun y H4 => tv σ2 H4 fun z H5 => ∃ kvs k, y = kV k ∧ H5 D = some (.dK kvs) ∧ kvs.length < sizeLine ∧ Nx (upd H5 D (.dK (putK kvs k z))) else Nx H3)
/-- all turns give: the dict holds the last of each key -/
def dictOf (key : Nat → Key) (val : Nat → V) : Nat → List (Key × V)
  | 0 => []
  | i + 1 => putK (dictOf key val i) (key i) (val i)
theorem dictOf_len (key : Nat → Key) (val : Nat → V) : ∀ n, (dictOf key val n).length ≤ n
  | 0 => Nat.le_refl _
  | i + 1 => Nat.le_trans (length_putK ..) (Nat.succ_le_succ (dictOf_len key val i))
theorem kDc_pure (wk : Walk J n G Y) (hn : n ≤ 100000) (hG : ∀ H', Adv [] H1 H' → G H') (key : Nat → Key) (val : Nat → V)
    (step : ∀ i x H H' (Kt : V → V → Hp → Prop), i < n → Adv [] H1 H → Y i H x H' → (∀ H4, Adv [] H H4 → Kt (kV (key i)) (val i) H4) → g x (wipe σ vs) H' fun σ2 H2 => wipe σ2 vs = wipe σ vs ∧ tk σ2 H2 fun y H4 => tv σ2 H4 (Kt y))
    (k : ∀ p H', H1 p = none → Adv [] H1 H' → H' p = some (.dK (dictOf key val n)) → Q (.ref p) H') : kDc J g tYes tk tv vs σ Q H1 := by
  intro D hD
  refine ⟨fun i m H => m = n - i ∧ i ≤ n ∧ Adv [] H1 H ∧ H D = some (.dK (dictOf key val i)), ⟨n, by simp, Nat.zero_le _, Adv.new hD, upd_same⟩, ?_⟩
  rintro i m H ⟨rfl, hi, g1, e1⟩
  have q := hG H g1
  by_cases hlt : i < n
  · refine .inr ⟨wk.goes i H hlt q, fun H' => i + 1 ≤ n ∧ Adv [] H1 H' ∧ H' D = some (.dK (dictOf key val (i + 1))), fun H' p' => ⟨n - (i + 1), by omega, rfl, p'⟩, fun x H' y => ?_⟩
    refine step i x H H' (fun y z H5 => ∃ kvs k, y = kV k ∧ H5 D = some (.dK kvs) ∧ kvs.length < sizeLine ∧ (fun H' => i + 1 ≤ n ∧ Adv [] H1 H' ∧ H' D = some (.dK (dictOf key val (i + 1)))) (upd H5 D (.dK (putK kvs k z)))) hlt g1 (wk.yields i H x H' hlt q y) fun H4 g4 => ?_
    have e4 := g4.keep _ _ (fun z => nomatch z) e1
    exact ⟨_, key i, rfl, e4, Nat.lt_of_le_of_lt (dictOf_len key val i) (Nat.lt_of_lt_of_le (show i < 100001 by omega) (by decide)), hlt, (g1.trans g4).mut hD e4 (fun _ z => by cases z), upd_same⟩
  · have e : i = n := by omega
    subst e
    exact .inl ⟨wk.stops H q, k D H hD g1 e1⟩
/-- a dict over zip(a, b) of tuples; over a tuple -/
def kDcZ (K : PySem.W.Frag) (g : TG) (tt : TT) (tk tv : TE) (vs : List Nat) (σ : L2.St) (Q : VK) (ws : List V) (H1 : Hp) : Prop := ∃ a b xs ys, ws = [.ref a, .ref b] ∧ ((SqL K H1 a xs ∧ SqL K H1 b ys ∧ kDc (Itz K a b) g tt tk tv vs σ Q H1) ∨ (SqT K H1 a xs ∧ SqT K H1 b ys ∧ kDc (ItzT K a b) g tt tk tv vs σ Q H1))
theorem w_dcZ (h : ta σ H1 (kDcZ K g tt tk tv vs σ Q)) : tDc (iZipA K ta) g tt tk tv vs σ H1 Q := h
def kDcT (K : PySem.W.Frag) (g : TG) (tt : TT) (tk tv : TE) (vs : List Nat) (σ : L2.St) (Q : VK) (x : V) (H1 : Hp) : Prop := ∃ a, x = .ref a ∧ (∃ xs, SqT K H1 a xs) ∧ kDc (Itt K a) g tt tk tv vs σ Q H1
theorem w_dcT {tl : TE} (h : tl σ H1 (kDcT K g tt tk tv vs σ Q)) : tDc (iTup K tl) g tt tk tv vs σ H1 Q := h
theorem w_dnew {σ : L2.St} {H : Hp} (q : ∀ r H', H r = none → Adv [] H H' → H' r = some (.dK []) → Q (.ref r) H') : tDNewK σ H Q := w_new q
/-! pairs and triples taken apart -/
theorem w_gtup {n : Nat} {t : TGs} {a : Addr} {xs : List V} {σ : L2.St} {H : Hp} {Q : L2.St → Hp → Prop} (h : SqT K H a xs) (hl : xs.length = n) (q : t xs σ H Q) : gTup K n t (.ref a) σ H Q := ⟨a, xs, rfl, h, hl, q⟩
theorem w_gcons {t : TG} {u : TGs} {v : V} {r : List V} {σ : L2.St} {H : Hp} {Q : L2.St → Hp → Prop} (q : t v σ H fun σ' H' => u r σ' H' Q) : gCons t u (v :: r) σ H Q := ⟨v, r, rfl, q⟩
theorem w_gnil {σ : L2.St} {H : Hp} {Q : L2.St → Hp → Prop} (q : Q σ H) : gNil [] σ H Q := ⟨rfl, q⟩
end
end AW
/-! tuple(d): a dict's keys -/
namespace AW
open PySem PySem.Spec PyProof.Rows L2
section
variable {prog : Program} {w : World} {A : Around} {E : Value → Shared → Prop} {s : Shared} {T : String} {r d : Addr} {n : Nat} {P : Nat → Value → Prop} {OK : Heap → Prop}
end
end AW
/-! sorted(t), t a tuple of texts -/
namespace AW
open PySem PySem.Spec PyProof.Rows L2
end AW
/-! list(x), x a text -/
namespace AW
open PySem PySem.Spec PyProof.Rows L2
section
variable {prog : Program} {w : World} {A : Around} {E : Value → Shared → Prop} {s : Shared}
theorem init_list_str {R : Result → Shared → Prop} (hh : A.handled = none) (x : Str) (t : Tok) (S : Addr) (hS : s.heap.get? S = some { cls := .type "list", data := .seq #[] })
    (hR : ∀ h' tk acc' c', (∀ b o, b ≠ S → s.heap.get? b = some o → h'.get? b = some o) → h'.get? S = some { cls := .type "list", dict := none, data := .seq acc' c', slots := #[] } → ItemsOf (SignAt x) acc' x.cps.size → R (.ok (.ret .none)) { s with heap := h', toks := tk }) (hn : x.cps.size ≤ sizeLine) :
    wpAny (model prog w) A.in1 (Builtin.«list.__init__» ⟨[.ref S, .str x t], []⟩)
      (fun fin s' => match fin with | .done f => R (.ok f) s' | .again c' => c'.quiet = true ∧ codeAny (model prog w) A c' R s') (fun e s' => R (.error e) s') s := by
  show wpAny _ _ (do let old ← Builtin.List.listItems (.ref S); Builtin.List.listUpdate (.ref S) (fun _ => #[]); letGo old.toList.reverse; Builtin.List.listExtendWith (.ref S) (.str x t) .none) _ _ s
  refine wpAny_bind ?_
  unfold Builtin.List.listItems
  refine wpAny_bind (wpAny_seqItems hS rfl (wpAny_pure ?_))
  show wpAny _ _ (updateSeq S (fun _ => #[]) >>= fun _ => letGo (#[] : Array Value).toList.reverse >>= fun _ => Builtin.List.listExtendWith (.ref S) (.str x t) .none) _ _ s
  refine wpAny_bind (wpAny_updateSeq hS rfl ?_)
  have hS₂ := Heap.get?_update_self (Obj.mapSeq (fun _ => (#[] : Array Value))) hS rfl
  have oth : ∀ b o, b ≠ S → s.heap.get? b = some o → (s.heap.update S (Obj.mapSeq (fun _ => (#[] : Array Value)))).get? b = some o :=
    fun b o hb e => (Heap.get?_update_other _ _ (Ne.symm hb)).trans e
  refine wpAny_bind (wpAny_letGo ?_)
  unfold Builtin.List.listExtendWith
  refine wpAny_bind (wpAny_typeOf (T := "str") (v := .str x t) rfl ?_)
  have h1 : Builtin.List.listSameRef (.ref S) (.str x t) = false := rfl
  have h2 : (Value.type "str" == Value.type "list") = false := by decide
  have h3 : (Value.type "str" == Value.type "tuple") = false := by decide
  simp only [h1, h2, h3, Bool.or_false, Bool.false_eq_true, if_false]
  refine wpAny_bind (wpAny_pyIter_str fun o St W hst => ?_)
  refine wpAny_bind (wpAny_holding ?_)
  unfold Builtin.List.listLengthHint
  refine wpAny_bind (wpAny_specialOf (T := "str") (v := .str x t) rfl PySem.F.str_len ?_)
  wp_delta
  refine wpAny_bind (wpAny_isInstance (T := "str") (v := .str x t) (b := true) rfl (by rw [isSubtype_type]; kernel_rfl) ?_)
  show wpAny _ A.in1 (typeOf (Value.str x t) >>= _) _ _ _
  refine wpAny_bind (wpAny_typeOf (T := "str") (v := .str x t) rfl ?_)
  refine wpAny_pure ?_
  rw [if_neg (by decide)]
  generalize hH : s.heap.update S (Obj.mapSeq (fun _ => (#[] : Array Value))) = H at W hst hS₂ oth ⊢
  have hSlt := Heap.lt_size hS₂
  have hSf : S ∉ [H.objs.size] := fun hm => by rw [List.mem_singleton.mp hm] at hSlt; exact Nat.lt_irrefl _ hSlt
  have hS3 : (H.push o).get? S = _ := Heap.get?_push_of_some _ hS₂
  refine wpAny_pure ⟨plainId_quiet PySem.F.plain_extend_loop _, codeAny_extend_loopS (W A.in1 hh).toS hn S hSf .none x.cps.size 0 _ #[] _ rfl (Nat.zero_le _) hst hS3 (ItemsOf.nil _) fun s' acc' c' hm hS' hacc => ?_⟩
  rw [Moved.eq_with hm]
  refine hR s'.heap s'.toks acc' c' (fun b ob hb e => hm.heap b ob (fun hmem => ?_) (Heap.get?_push_of_some _ (oth b ob hb e))) hS' hacc
  rcases List.mem_cons.mp hmem with e' | hmem
  · exact hb e'
  · have e3 := Heap.lt_size (oth b ob hb e)
    rw [List.mem_singleton.mp hmem] at e3
    exact Nat.lt_irrefl _ e3
theorem call_list_str {Q : Value → Shared → Prop} (hh : A.handled = none) (x : Str) (t : Tok) (hn : x.cps.size ≤ sizeLine)
    (hQ : ∀ h' tk acc' c', (∀ b o, s.heap.get? b = some o → h'.get? b = some o) → h'.get? s.heap.objs.size = some { cls := .type "list", dict := none, data := .seq acc' c', slots := #[] } → ItemsOf (SignAt x) acc' x.cps.size → Q (.ref s.heap.objs.size) { s with heap := h', toks := tk }) :
    wpAny (model prog w) A (call (.type "list") [.str x t]) Q E s := by
  refine callType_codes (Q₁ := fun obj s₁ => obj = .ref s.heap.objs.size ∧ s₁ = { s with heap := s.heap.push { cls := .type "list", data := .seq #[] } }) PySem.F.called_list (PySem.F.typeCall_list_1 _) PySem.F.entry_list_init
    (code_list_new _ ⟨rfl, rfl⟩) fun obj s₁ h₁ => ?_
  obtain ⟨rfl, rfl⟩ := h₁
  have hS : (s.heap.push { cls := .type "list", data := .seq #[] }).get? s.heap.objs.size = some { cls := .type "list", data := .seq #[] } := Heap.get?_push_size _ rfl
  refine ⟨⟨_, hS, rfl⟩, PySem.F.args_list_init_2 _ _, init_list_str (A := A.in1) hh x t _ hS (fun h' tk acc' c' hk hS' hacc => ?_) hn⟩
  exact ⟨rfl, hQ h' tk acc' c' (fun b o e => hk b o (Nat.ne_of_lt (Heap.lt_size e)) (Heap.get?_push_of_some _ e)) hS' hacc⟩
end
/-- the signs of a text, each as a text -/
def signsOf (x : Str) : List Str := x.cps.toList.map fun c => ⟨#[c]⟩
def rListS : List V → Hp → VK → Prop := fun xs H Q => ∃ x, xs = [.str x] ∧ x.cps.size ≤ sizeLine ∧ ∀ l, H l = none → Q (.ref l) (upd H l (.lst ((signsOf x).map V.str)))
theorem call_listS {X : Cx} (hc : X.calm = true) : CallR X (.type "list") rListS := by
  rintro pins s σ H _ us Q I r ⟨x, rfl, hz, q⟩
  obtain ⟨u, rfl, rx⟩ := vals1 r
  obtain ⟨t, rfl⟩ := rx
  refine call_list_str (I.ok.hd hc) x t hz fun h' tk acc' c' hkeep hS hacc => ?_
  refine ⟨.ref s.heap.objs.size, upd H s.heap.objs.size (.lst ((signsOf x).map V.str)), I.laid hkeep (Nat.le_refl _) (show ObjOk X.prog X.w _ _ _ (.lst ((signsOf x).map V.str)) from ⟨?_, acc'.toList, c', ?_, ?_⟩), rfl, q _ (I.hok.fresh (Nat.le_refl _))⟩
  · unfold signsOf
    rw [List.length_map, List.length_map, Array.length_toList]
    exact hz
  · have el : acc'.toList.length = acc'.size := by simp
    refine vals_of_at (by unfold signsOf; rw [List.length_map, List.length_map, Array.length_toList, el]; exact hacc.1.symm) fun j v w' h1 h2 => ?_
    obtain ⟨c, u, h3, rfl⟩ := hacc.2 j w' (by rw [← Array.getElem?_toList]; exact h2)
    unfold signsOf at h1
    rw [List.getElem?_map, List.getElem?_map, Array.getElem?_toList, h3] at h1
    cases h1
    exact ⟨u, rfl⟩
  · rw [Array.toArray_toList]; exact hS
def rListOfA (K : PySem.W.Frag) : List V → Hp → VK → Prop := fun xs H Q => rListOf K xs H Q ∨ rListS xs H Q
theorem call_listOfA {X : Cx} (hc : X.calm = true) : CallR X (.type "list") (rListOfA X.K) := (call_list_of).or (call_listS hc)
end AW
namespace PySem
namespace STT
open PyProof.Rows
/-! set(t) of a tuple of texts: how many it has -/
section
variable {P : Program} {w : World} {A : Around} {E : Value → Shared → Prop} {s : Shared}
/-- what is told of a set while the first i texts have been put in -/
def Told (P : Program) (w : World) (S : Addr) (xs : List Str) (i : Nat) (h : Heap) : Prop :=
  ∃ c, h.SetOf (strKind P w) S (fun k => decide (k ∈ xs.take i)) c ∧ c ≤ i ∧ (c = i ↔ (xs.take i).Nodup)
theorem Told.at {S : Addr} {xs : List Str} {i : Nat} {h h' : Heap} (x : Told P w S xs i h) (k : ∀ o, h.get? S = some o → h'.get? S = some o) : Told P w S xs i h' := by
  obtain ⟨c, ⟨o, es, ep, tb, ho, r⟩, y⟩ := x
  exact ⟨c, ⟨o, es, ep, tb, k o ho, r⟩, y⟩
theorem put_texts {I : Addr} {fp wr : List Addr} {G : Array GenState → Array GenState → Prop} {Pv : Nat → Value → Prop} {St : Nat → Shared → Prop} {R : Result → Shared → Prop} (xs : List Str)
    (W : WalksS P w A.in1 I fp wr G xs.length Pv St) (S : Addr) (hSf : S ∉ fp) (hb : xs.length + 1 < scanBound) (hval : ∀ i v, Pv i v → ∃ z t, xs[i]? = some z ∧ v = .str z t) :
    ∀ (k i : Nat) (s : Shared), i + k = xs.length → St i s → Told P w S xs i s.heap →
      (∀ s', Moved (S :: wr) G s s' → Told P w S xs xs.length s'.heap → R (.ok (.ret .none)) s') →
      codeAny (model P w) A (.builtin "set.update.loop" ⟨[.ref S, .ref I], []⟩) R s
  | 0, i, s, e, st, hS, hR => by
    obtain rfl : i = xs.length := by omega
    refine codeAny_builtin F.entry_set_update_loop ?_
    rw [Around.under_plainId F.plain_set_update_loop _]
    refine wpAny_bind (W.done s _ _ st fun s' hm => ?_)
    exact wpAny_pure (hR s' (hm.mono fun b hb => List.mem_cons_of_mem _ hb) (hS.at fun o e => hm.heap S o (fun h => hSf (W.sub _ h)) e))
  | k + 1, i, s, e, st, hS, hR => by
    refine codeAny_builtin F.entry_set_update_loop ?_
    rw [Around.under_plainId F.plain_set_update_loop _]
    refine wpAny_bind (W.item i s _ _ (by omega) st fun v s1 hP st1 hm => ?_)
    obtain ⟨z, t, hz, rfl⟩ := hval i v hP
    obtain ⟨c, hS1, hc, hn⟩ := hS.at (h' := s1.heap) fun o e => hm.heap S o (fun h => hSf (W.sub _ h)) e
    refine wpAny_bind (wpAny_holding ?_)
    unfold setAdd
    refine wpAny_holding (wpAny_bind ((strKind P w).pyHash (k := z) (strKind_is _ _ _ _) ?_))
    refine wpAny_setAddHashed_of (knd := strKind P w) (s := { s1 with toks := s1.toks + 1 }) (strKind_is _ _ _ _) rfl hS1 (by omega) fun h' hsb hS2 => ?_
    have T2 : Told P w S xs (i + 1) h' := by
      refine ⟨_, SetOf_congr hS2 (fun j => ?_) rfl, ?_, ?_⟩
      · rw [List.take_add_one, hz]
        simp [List.mem_append]
      · split <;> omega
      · rw [List.take_add_one, hz]
        have nd : (xs.take i ++ (some z).toList).Nodup ↔ (xs.take i).Nodup ∧ z ∉ xs.take i := by
          rw [List.nodup_append]
          constructor
          · rintro ⟨h1, _, h3⟩
            exact ⟨h1, fun hm => h3 z hm z (by simp) rfl⟩
          · rintro ⟨h1, h2⟩
            refine ⟨h1, by simp, fun a ha b hb e => h2 ?_⟩
            have hb' : b = z := by simpa using hb
            rw [← hb', ← e]
            exact ha
        rw [nd, ← hn]
        by_cases hm : z ∈ xs.take i
        · simp only [hm, decide_true, if_true, not_true, and_false, iff_false]
          omega
        · simp only [hm, decide_false, not_false_iff, and_true]
          simp
    have same : ∀ b, b ≠ S → ∀ o, s1.heap.get? b = some o → h'.get? b = some o := fun b hb o e => by rw [hsb.2 b hb]; exact e
    refine wpAny_pure ⟨plainId_quiet F.plain_set_update_loop _, put_texts xs W S hSf hb hval k (i + 1) _ (by omega) (W.frame _ s1 _ _ st1 (Nat.le_succ _) fun b hb o e => same b (fun h => hSf (by rw [← h]; exact hb)) o e) T2 fun s'' m2 hS'' => ?_⟩
    exact hR s'' (Moved.trans W.gtrans ((hm.mono fun b hb => List.mem_cons_of_mem _ hb).then_heap (Nat.le_succ _) fun b o hb e => same b (fun h => hb (by rw [h]; exact List.mem_cons_self)) o e) m2) hS''
/-- set(t) -/
theorem call_set_texts {l : Addr} {items : Array Value} {xs : List Str} {Q : Value → Shared → Prop} (hh : A.handled = none) (hl : s.heap.IsTuple l items) (hi : StrsAre items.toList xs) (hb : xs.length + 1 < scanBound)
    (h : ∀ (h' : Heap) (tk : Nat), Told P w s.heap.objs.size xs xs.length h' → (∀ b o, s.heap.get? b = some o → h'.get? b = some o) → Q (.ref s.heap.objs.size) { s with heap := h', toks := tk }) :
    wpAny (model P w) A (call (.type "set") [.ref l]) Q E s := by
  have hsz : items.size = xs.length := by rw [← StrsAre.len_eq hi, Array.length_toList]
  have C := PySem.F.called_set
  obtain ⟨c0, tl0, hmro⟩ := C.mro
  have f1 := C.made
  have f2 := C.sub
  have f3 := C.notType
  have f4 := C.canCreate
  have f5 := PySem.F.typeCall_set_1 (.ref l)
  refine wpAny_call (codeAny_of_tree ?_)
  refine wpAny_pure ⟨Code.quiet_builtin _ (by decide +kernel), codeAny_builtin PySem.F.entry_type_call ?_⟩
  rw [Around.under_plain (weight_type_call_type "set" [.ref l] []) rfl]
  repeat (any_goals (first | assumption | wp_step))
  refine codeAny_mono (code_set_new_1 (.ref l) (E := E) (Q₁ := fun u s₁ => u = .ref s.heap.objs.size ∧ ∃ led : Bool, s₁ = { s with heap := s.heap.push { cls := .type "set", dict := none, data := .set #[] 0 (.fresh 0 0 led) } }) fun led => ⟨rfl, led, rfl⟩) fun r s₁ hr => ?_
  match r, hr with
  | .error e, hr => exact hr
  | .ok .next, hr => exact hr.elim
  | .ok .brk, hr => exact hr.elim
  | .ok .cont, hr => exact hr.elim
  | .ok (.ret u), hr =>
    obtain ⟨rfl, led, rfl⟩ := hr
    have hS : (s.heap.push { cls := .type "set", dict := none, data := .set #[] 0 (.fresh 0 0 led) }).get? s.heap.objs.size = some { cls := .type "set", dict := none, data := .set #[] 0 (.fresh 0 0 led) } := Heap.get?_push_size _ rfl
    have hT : Shared.TypeIs { s with heap := s.heap.push { cls := .type "set", dict := none, data := .set #[] 0 (.fresh 0 0 led) } } (.ref s.heap.objs.size) "set" := ⟨_, hS, rfl⟩
    have f6 := C.init.lookup
    have f7 := C.init.bind (.ref s.heap.objs.size)
    repeat (any_goals (first | assumption | wp_step))
    refine codeAny_mono (codeAny_call_builtin (R := wants (fun u s₂ => u = .none ∧ ∃ h' tk, s₂ = { s with heap := h', toks := tk } ∧ Told P w s.heap.objs.size xs xs.length h' ∧ ∀ b o, s.heap.get? b = some o → h'.get? b = some o) E)
      C.init.plain PySem.F.entry_set_init (check_set_init_1 hT ?_)) fun r₂ s₂ hr₂ => ?_
    · have hl1 : (s.heap.push { cls := .type "set", dict := none, data := .set #[] 0 (.fresh 0 0 led) }).IsTuple l items := hl.push _
      have hlS : l < s.heap.objs.size := by
        obtain ⟨ol, hol, _⟩ := hl
        exact Heap.lt_size hol
      obtain ⟨⟨kc, kd, kx, ks⟩, hol, hcl, nl, hdl⟩ := hl1
      simp only at hcl hdl
      subst hcl; subst hdl
      have hl1 : (s.heap.push { cls := .type "set", dict := none, data := .set #[] 0 (.fresh 0 0 led) }).IsTuple l items := ⟨_, hol, rfl, nl, rfl⟩
      have g1 := PySem.F.sub_tuple_set
      have g2 := PySem.F.sub_tuple_frozenset
      have g3 : (Value.type "tuple" == Value.type "dict") = false := by decide
      unfold Builtin.«set.__init__» noKeywords Builtin.Frozenset.updateFrom
      generalize hPI : pyIter = PI
      wp_walk
      subst hPI
      refine wpAny_pyIter_tuple hl1 ?_
      refine wpAny_bind (wpAny_runValue ?_)
      have zs : (s.heap.push { cls := .type "set", dict := none, data := .set #[] 0 (.fresh 0 0 led) }).objs.size = s.heap.objs.size + 1 := Heap.size_push ..
      have hval : ∀ (i : Nat) (v : Value), items[i]? = some v → ∃ z t, xs[i]? = some z ∧ v = .str z t := fun i v hv => by
        obtain ⟨t, e⟩ := SS.strs_at hi i v (by rw [Array.getElem?_toList]; exact hv)
        have hlt : i < xs.length := by rw [← hsz]; exact (Array.getElem?_eq_some_iff.mp hv).1
        exact ⟨xs[i], t, List.getElem?_eq_getElem hlt, by rw [e, List.getD_eq_getElem?_getD, List.getElem?_eq_getElem hlt]; rfl⟩
      have hne : l ≠ (s.heap.push { cls := .type "set", dict := none, data := .set #[] 0 (.fresh 0 0 led) }).objs.size := by
        rw [zs]
        exact Nat.ne_of_lt (Nat.lt_succ_of_lt hlS)
      refine put_texts xs (hsz ▸ (Walks.tuple (by simp [hh]) _ l hne items).toS) s.heap.objs.size (by simp only [zs, List.mem_cons, List.not_mem_nil, or_false, not_or]; exact ⟨Nat.ne_of_lt (Nat.lt_succ_self _), Nat.ne_of_gt hlS⟩) hb hval xs.length 0 _ (by omega) ⟨⟨_, Heap.get?_push_size _ rfl, rfl, rfl⟩, hl1.push _⟩ ?_ ?_
      · exact ⟨0, SetOf_congr ((setObjOf_fresh (knd := strKind P w) led).setOf (Heap.get?_push_of_some _ hS) (by unfold scanBound; omega)) (fun _ => rfl) rfl, Nat.le_refl _, by simp⟩
      · intro s' hm hS'
        obtain ⟨h', g', d', tk', os'⟩ := s'
        obtain rfl : g' = s.gens := hm.gens
        obtain rfl : d' = s.drawn := hm.drawn
        obtain rfl : os' = s.os := hm.os
        refine wpAny_pure (wpAny_pure ⟨rfl, h', tk', rfl, hS', fun b o e => ?_⟩)
        have hlb := Heap.lt_size e
        exact hm.heap b o (by simp only [zs, List.mem_cons, List.not_mem_nil, or_false, not_or]; exact ⟨Nat.ne_of_lt hlb, Nat.ne_of_lt (Nat.lt_succ_of_lt hlb)⟩) (Heap.get?_push_of_some _ (Heap.get?_push_of_some _ e))
    · match r₂, hr₂ with
      | .error e, hr₂ => exact hr₂
      | .ok .next, hr₂ => exact hr₂.elim
      | .ok .brk, hr₂ => exact hr₂.elim
      | .ok .cont, hr₂ => exact hr₂.elim
      | .ok (.ret u), hr₂ =>
        obtain ⟨rfl, h', tk, rfl, hS', hk'⟩ := hr₂
        repeat (any_goals (first | assumption | wp_step))
        exact h _ _ hS' hk'
end
end STT
end PySem
namespace L2
open PySem PySem.Spec PyProof.Rows
section
variable {X : Cx}
/-- len(set(t)), t a tuple of texts: as many as t has just where no text stands twice -/
def tLenSetS (K : PySem.W.Frag) (ta : TE) : TE := fun σ H Q => ta σ H fun x H1 => ∃ (l : Addr) (xs : List Str), x = .ref l ∧ SqT K H1 l (xs.map V.str) ∧ xs.length ≤ 1000 ∧ ∀ c : Nat, (c = xs.length ↔ xs.Nodup) → Q (.int (c : Nat)) H1
theorem pe_lenSetS {a : Expr} {ta : TE} {p p2 q pos : Pos} (hc : X.calm = true) (hg : Gl X "len") (hm : X.mg "len" = none) (hg2 : Gl X "set") (hm2 : X.mg "set" = none) (ha : PE X a ta)
    (na : starEach [a] X.env = (false, eval a X.env) :: starEach [] X.env := by rfl) : PE X (.Call (.Name "len" p) [.Call (.Name "set" p2) [a] [] q] [] pos) (tLenSetS X.K ta) := by
  refine ⟨fun pins s σ H Q I h => ?_⟩
  refine Call_ (ld_blt I hg hm boot_len ?_)
  refine PyProof.Rows.callWith_builtin1 (PyProof.Rows.args_cons ?_ rfl) rfl rfl
  refine Call_ (ld_blt I hg2 hm2 boot_set ?_)
  refine PyProof.Rows.callWith_type1 (PyProof.Rows.args_cons (thn (ha.run pins s σ H _ I h) fun v s1 ⟨x, H1, I1, r1, q1⟩ => PyProof.Rows.args_nil ?_) na) na rfl
  obtain ⟨l, xs, rfl, hq, hl, q1⟩ := q1
  cases r1
  obtain ⟨its, r, pl, hz⟩ := I1.tuple hq
  refine STT.call_set_texts (I1.ok.hd hc) pl (by simpa using strsAre_of r) (by unfold scanBound; omega) fun h' tk hS hk => ?_
  refine PyProof.Rows.args_nil ?_
  obtain ⟨c, hS, hc1, hn⟩ := hS
  obtain ⟨o, es, ep, t, ho, hex, hd, _, _, _, hf, he⟩ := hS
  have I2 : Inv X pins σ H1 { s1 with heap := h', toks := tk } := I1.kept hk
  rw [List.take_length] at hn
  refine call_len_set ho hex hd hf (by rw [he] <;> omega) ⟨.int (c : Nat), H1, I2.tok _, ⟨_, by rw [he]⟩, q1 c hn⟩
end
end L2
namespace L2
open PySem PySem.Spec PyProof.Rows
/-! exceptions of classes over a class of the program over ValueError -/
/-- the class at W that has no __init__ of its own, above it ValueError -/
structure WiC (K : PySem.W.Frag) (W : Addr) : Prop where
  reads : PySem.W.readsIn K W (.type "type") = true
  ga : PySem.W.specialIn K (.ref W) "__getattribute__" = some (some (.builtin "type.__getattribute__"))
  fi : PySem.W.findCls K (.ref W) (.type "type") "__init__" = some (.val (.builtin "ValueError.__init__"))
section
variable {X : Cx} {o e : Expr} {es : List Expr} {to te : TE} {ta : TA} {f : Str} {p p' p1 p2 pos : Pos}
end
/-! isinstance(e, T) of a caught exception without fields -/
structure ExI (K : PySem.W.Frag) (C : Addr) : Prop where
  cl : (PySem.W.clsIn K C).isSome = true
  ga : PySem.W.findIn K (.ref C) "__getattribute__" = some (some (.builtin "BaseException.__getattribute__"))
  gt : ∃ gt, PySem.W.findIn K (.ref C) "__getattr__" = some gt
  sub : PySem.W.subIn K (.ref C) (.type "BaseException") = some true
  cf : PySem.W.findIn K (.ref C) "__class__" = some (some (.builtin "object.__class__"))
  sp : PySem.W.specialIn K (.builtin "object.__class__") "__get__" = some (some (.builtin "getset_descriptor.__get__"))
  tk : PySem.W.takesIn K (.builtin "object.__class__") = some true
  ob : PySem.W.mroIn K C (.type "object") = some true
end L2
namespace AW
open PySem PySem.Spec PyProof.Rows L2
/-! tuple * number, many times; text < text -/
end AW
/-! t[::-1] of a tuple; slices and sums of tuples and texts alike -/
namespace AW
open PySem PySem.Spec PyProof.Rows L2 HT
section
variable {prog : Program} {w : World} {A : Around} {E : Value → Shared → Prop} {s : Shared}
end
section
variable {X : Cx}
end
end AW
/-! zip of a tuple and a list of one length -/
namespace AW
open PySem PySem.Spec PyProof.Rows L2 RZ
/-- a tuple beside a list, of one length -/
def Itzm (K : PySem.W.Frag) (a b : Addr) : It where
  go i H := ∃ xs ys : List V, SqT K H a xs ∧ SqL K H b ys ∧ i < xs.length ∧ i < ys.length
  yld i H v H' := ∃ (T : Addr) (x y : V), v = .ref T ∧ H T = none ∧ H' = upd H T (.tup [x, y]) ∧ (∀ xs, SqT K H a xs → xs[i]? = some x) ∧ ∀ ys, SqL K H b ys → ys[i]? = some y
  stop i H := ∃ xs ys : List V, SqT K H a xs ∧ SqL K H b ys ∧ i = xs.length ∧ i = ys.length
theorem five {z TI TO i1 i2 d : Addr} (h : d ∈ [z, TI, TO, i1, i2]) : d = z ∨ d = TI ∨ d = TO ∨ d = i1 ∨ d = i2 := by simpa using h
theorem turn_zipM {P : Program} {w : World} {K : PySem.W.Frag} {elts : List Expr} {kk : Nat} {tpos : Pos} {a b z TI TO i1 i2 : Addr} (D : ZipSep2 z TI TO i1 i2 [i1, a] [i2, b]) :
    Turn P w K (.Tuple elts kk tpos) (Itzm K a b) [z, TI, TO, i1, i2] z (fun i h => IsZip h z TI TO .none ∧ IsTupOf2 h TI (.ref i1) (.ref i2) ∧ (∃ x y, IsTupOf2 h TO x y) ∧ h.IsTupleIter i1 a i ∧ h.IsListIter i2 b i) := by
  have dT : ∀ {h : Heap} {p q : Addr} {its : Array Value} {j : Nat}, h.IsTuple p its → h.IsTupleIter q p j → p ≠ q := fun {h p q its j} hp hq e => by
    obtain ⟨o, ho, hcl, _⟩ := hp
    obtain ⟨o2, ho2, hcl2, _⟩ := hq
    rw [e, ho2] at ho
    cases ho
    rw [hcl2] at hcl
    exact absurd (Value.type.inj hcl) (by decide)
  have dL : ∀ {h : Heap} {p q : Addr} {its : Array Value} {j : Nat}, h.IsList p its → h.IsListIter q p j → p ≠ q := fun {h p q its j} hp hq e => by
    obtain ⟨o, ho, hcl, _⟩ := hp
    obtain ⟨o2, ho2, hcl2, _⟩ := hq
    rw [e, ho2] at ho
    cases ho
    rw [hcl2] at hcl
    exact absurd (Value.type.inj hcl) (by decide)
  refine ⟨by simp, ?obj, ?keep, ?item, ?done, ?self⟩
  case obj =>
    rintro i h ⟨s1, s2, ⟨x, y, s3⟩, ⟨p1, q1, _, r1⟩, ⟨p2, q2, _, r2⟩⟩ d hd
    rcases five hd with rfl | rfl | rfl | rfl | rfl
    · exact ⟨_, s1, fun v e => nomatch e⟩
    · exact ⟨_, s2, fun v e => nomatch e⟩
    · exact ⟨_, s3, fun v e => nomatch e⟩
    · exact ⟨p1, q1, fun v e => by rw [r1] at e; cases e⟩
    · exact ⟨p2, q2, fun v e => by rw [r2] at e; cases e⟩
  case keep =>
    rintro i h h' ⟨s1, s2, ⟨x, y, s3⟩, t1, t2⟩ k
    exact ⟨k _ (by simp) _ s1, k _ (by simp) _ s2, ⟨x, y, k _ (by simp) _ s3⟩, t1.at fun o e => k _ (by simp) o e, t2.at fun o e => k _ (by simp) o e⟩
  case self =>
    exact fun A i s Q E st h => wpAny_pyIter_zip st.1 h
  case item =>
    intro X hP hw hK hc i pins s σ H E I hf st hg
    subst hP hw hK
    obtain ⟨s1, s2, ⟨x0, y0, s3⟩, t1, t2⟩ := st
    obtain ⟨xs, ys, qa, qb, la, lb⟩ := hg
    obtain ⟨ia, ra, pa, _⟩ := I.tuple qa
    obtain ⟨ib, rb, pb0, _⟩ := I.list qb
    have pb := pb0.isList
    have hh : X.A.in1.handled = none := I.ok.hd hc
    have zl : z < s.heap.objs.size := Heap.lt_size s1
    refine wpAny_pyNext_zipD2_item (i := i) D (Draws.tuple hh i1 a (dT pa t1) ia.toArray) (Draws.list hh i2 b (dL pb t2) ib.toArray) s1 s2 s3 ⟨t1, pa⟩ ⟨t2, pb⟩
      (by rw [List.size_toArray, ← ra.length]; exact la) (by rw [List.size_toArray, ← rb.length]; exact lb) fun x1 x2 h' tk g1 g2 z' TO' v1 v2 hT hsz hk => ?_
    obtain ⟨y1, hy1⟩ := get_some (xs := xs) la
    obtain ⟨y2, hy2⟩ := get_some (xs := ys) lb
    have rel : ∀ {l : List V} {us : List Value} {y : V} {x : Value}, Vals l us → l[i]? = some y → us.toArray[i]? = some x → RelV y x := fun r e e2 => by
      obtain ⟨u, eu, ru⟩ := r.get e
      have e3 : some u = some _ := eu.symm.trans (by simpa using e2)
      cases e3
      exact ru
    refine ⟨_, rfl, wpAny_letOwnedTupleGo_zip (s := { s with heap := h', toks := tk }) z' fun h'' z'' sb => ?_⟩
    have hT2 : h''.get? s.heap.objs.size = some { cls := .type "tuple", data := .seq #[x1, x2] } := (sb.2 _ (Nat.ne_of_gt zl)).trans hT
    have new : ObjOk X.prog X.w (upd H s.heap.objs.size (.tup [y1, y2])) h'' s.heap.objs.size (.tup [y1, y2]) :=
      ⟨by show 2 ≤ sizeLine; decide, [x1, x2], .cons (rel ra hy1 g1) (.cons (rel rb hy2 g2) .nil), ⟨_, hT2, rfl, _, rfl⟩⟩
    have I1 : Inv X pins σ (upd H s.heap.objs.size (.tup [y1, y2])) { s with heap := h'', toks := tk } :=
      I.turnedNew (ch := [z, TI, TO, i1, i2]) (fun d o hd q => (sb.2 d (fun e => hd (by simp [e]))).trans (hk d o (fun e => hd (by simp [e])) (fun e => hd (by simp [e])) (fun e => hd (by simp [e])) (fun e => hd (by simp [e])) q)) hf (Nat.le_refl _) new
    have uniqT : ∀ l, SqT X.K H a l → l[i]? = some y1 := fun l hl => by rw [I.tuple_inj hl qa]; exact hy1
    have uniqL : ∀ l, SqL X.K H b l → l[i]? = some y2 := fun l hl => by rw [I.list_inj hl qb]; exact hy2
    refine ⟨.ref s.heap.objs.size, _, I1, rfl, ⟨_, y1, y2, rfl, I.hok.fresh (Nat.le_refl _), rfl, uniqT, uniqL⟩, ⟨z'', ?_, ⟨x1, x2, ?_⟩, ?_, ?_⟩, fun d hd => ?_⟩
    · exact (sb.2 _ D.TIz).trans (hk _ _ D.TIz D.TITO D.TIi1 D.TIi2 s2)
    · exact (sb.2 _ D.TOz).trans TO'
    · exact v1.1.at fun o e => (sb.2 _ (fun q => D.zi1 q.symm)).trans e
    · exact v2.1.at fun o e => (sb.2 _ (fun q => D.zi2 q.symm)).trans e
    · have hlt : d < s.heap.objs.size := by
        rcases five hd with rfl | rfl | rfl | rfl | rfl
        · exact zl
        · exact Heap.lt_size s2
        · exact Heap.lt_size s3
        · obtain ⟨_, e, _⟩ := t1; exact Heap.lt_size e
        · obtain ⟨_, e, _⟩ := t2; exact Heap.lt_size e
      rw [upd_ne (Nat.ne_of_lt hlt)]
      exact (hf d hd).1
  case done =>
    intro X hP hw hK hc i pins s σ H E I hf st hg
    subst hP hw hK
    obtain ⟨s1, s2, ⟨x0, y0, s3⟩, t1, t2⟩ := st
    obtain ⟨xs, ys, qa, qb, la, lb⟩ := hg
    obtain ⟨ia, ra, pa, _⟩ := I.tuple qa
    obtain ⟨ib, rb, pb0, _⟩ := I.list qb
    have pb := pb0.isList
    have hh : X.A.in1.handled = none := I.ok.hd hc
    have sa : i = ia.toArray.size := by rw [List.size_toArray, ← ra.length]; exact la
    have sb : i = ib.toArray.size := by rw [List.size_toArray, ← rb.length]; exact lb
    exact wpAny_pyNext_zipD2_end (i := i) D (Draws.tuple hh i1 a (dT pa t1) ia.toArray) (Draws.list hh i2 b (dL pb t2) ib.toArray) s1 s2 s3 ⟨t1, pa⟩ ⟨t2, pb⟩
      (Nat.le_of_eq sa) (Nat.le_of_eq sb) (.inl sa) fun h' tk hk => ⟨rfl, I.turnedL (ch := [z, TI, TO, i1, i2]) (fun d o hd q => hk d o (fun e => hd (by simp [e])) (fun e => hd (by simp [e])) (fun e => hd (by simp [e])) (fun e => hd (by simp [e])) q) hf⟩
/-- what stands within zip(t, l) -/
def iZipM (K : PySem.W.Frag) (ta : TA) : TI := fun σ H R => ta σ H fun vs H1 => ∃ (a b : Addr) (xs ys : List V), vs = [.ref a, .ref b] ∧ SqT K H1 a xs ∧ SqL K H1 b ys ∧ R (Itzm K a b) H1
theorem sep_newM (n a b : Nat) (la : a < n) (lb : b < n) : ZipSep2 (n + 4) (n + 2) (n + 3) n (n + 1) [n, a] [n + 1, b] :=
  ⟨(show (n + 2 : Nat) ≠ n + 4 by omega), (show (n + 3 : Nat) ≠ n + 4 by omega), (show (n + 2 : Nat) ≠ n + 3 by omega), (show (n + 2 : Nat) ≠ n by omega), (List.mem_cons_self ..),
    (no2 (show (n + 4 : Nat) ≠ n by omega) (show (n + 4 : Nat) ≠ a by omega)), (no2 (show (n + 3 : Nat) ≠ n by omega) (show (n + 3 : Nat) ≠ a by omega)), (show (n + 2 : Nat) ≠ n + 1 by omega), (List.mem_cons_self ..),
    (no2 (show (n + 4 : Nat) ≠ n + 1 by omega) (show (n + 4 : Nat) ≠ b by omega)), (no2 (show (n + 3 : Nat) ≠ n + 1 by omega) (show (n + 3 : Nat) ≠ b by omega)),
    (no2 (show (n : Nat) ≠ n + 1 by omega) (show (n : Nat) ≠ b by omega)), (no2 (show (n + 1 : Nat) ≠ n by omega) (show (n + 1 : Nat) ≠ a by omega))⟩
theorem pi_zipM {X : Cx} {e e2 : Expr} {ta : TA} {p pos tpos : Pos} {elts : List Expr} {kk : Nat} (hg : Gl X "zip") (hm : X.mg "zip" = none) (ha : PA X [e, e2] ta)
    (hs : starEach [e, e2] X.env = (false, eval e X.env) :: starEach [e2] X.env := by rfl) (hpl : (backTo pos (starEach [e2] X.env)).any (·.1) = false := by rfl) :
    PI X (.Tuple elts kk tpos) (.Call (.Name "zip" p) [e, e2] [] pos) (iZipM X.K ta) := by
  refine ⟨fun pins s σ H R I h => ?_⟩
  refine Call_ (ld_blt I hg hm PyProof.Rows.boot_zip (PyProof.Rows.callWith_type1 (thn (ha.run pos pins s σ H _ I h) fun us s1 ⟨vs, H1, I1, r1, q1⟩ => ?_) hs hpl))
  obtain ⟨a, b, xs, ys, rfl, qa, qb, q⟩ := q1
  obtain ⟨ua, ub, rfl, r1', r2'⟩ := vals2 r1
  cases r1'
  cases r2'
  obtain ⟨ia, ra, pa, _⟩ := I1.tuple qa
  obtain ⟨ib, rb, pb0, _⟩ := I1.list qb
  have pb := pb0.isList
  have la : a < s1.heap.objs.size := by obtain ⟨_, e, _⟩ := pa; exact Heap.lt_size e
  have lb : b < s1.heap.objs.size := by obtain ⟨_, e, _⟩ := pb; exact Heap.lt_size e
  refine zip_begins2 (begins_tuple a ia.toArray) (begins_list b ib.toArray) pa pb fun h' hz hTI hTO g1 g2 _ hk => wpAny_pyIter_zip hz ?_
  have I2 : Inv X pins σ H1 { s1 with heap := h' } := I1.kept (t' := s1.toks) hk
  refine ⟨s1.heap.objs.size + 4, [s1.heap.objs.size + 4, s1.heap.objs.size + 2, s1.heap.objs.size + 3, s1.heap.objs.size, s1.heap.objs.size + 1], _, _, H1, rfl, I2, turn_zipM (sep_newM s1.heap.objs.size a b la lb), ⟨hz, hTI, ⟨_, _, hTO⟩, ⟨_, g1, rfl, rfl⟩, ⟨_, g2, rfl, rfl⟩⟩, fun d hd => ?_, q⟩
  have hle : s1.heap.objs.size ≤ d := by
    rcases five hd with e | e | e | e | e <;> rw [e] <;> first | exact Nat.le_add_right _ _ | exact Nat.le_refl _
  exact I1.fpOk hle (I1.hok.fresh hle)
theorem walk_zipM {K : PySem.W.Frag} {a b : Addr} {xs ys : List V} (h1 : ys.length = xs.length) : Walk (Itzm K a b) xs.length (fun H => SqT K H a xs ∧ SqL K H b ys) (YPair (fun i => xs[i]?) (fun i => ys[i]?)) :=
  ⟨fun i H hi ⟨q1, q2⟩ => ⟨xs, ys, q1, q2, hi, by omega⟩, fun H ⟨q1, q2⟩ => ⟨xs, ys, q1, q2, rfl, h1.symm⟩,
    fun i H v H' _ ⟨q1, q2⟩ ⟨T, x, y, e1, e2, e3, e4, e5⟩ => ⟨T, x, y, e1, e2, e3, e4 _ q1, e5 _ q2⟩⟩
end AW
/-! enumerate(t) of a tuple -/
namespace AW
open PySem PySem.Spec PyProof.Rows L2 RZ
open AutoSeq1 (wpAny_loadPart')
/-- the two new cells -/
abbrev etH1 (h : Heap) (t : Addr) : Heap := h.push { cls := .type "tuple_iterator", data := .fields #[.ref t, .int 0 0] }
abbrev etH2 (h : Heap) (t : Addr) : Heap := (etH1 h t).push { cls := .type "enumerate", data := .fields #[.none, .bool false, .ref h.objs.size, rawInt 0, .none, .none] }
theorem meets_enumT (t : Addr) (ts : Array Value) :
    Meets (Builtin.«enumerate.__new__» ⟨[.type "enumerate", .ref t], []⟩) (fun _ R s => s.heap.IsTuple t ts ∧ R (.ok (.ret (.ref (etH1 s.heap t).objs.size))) { s with heap := etH2 s.heap t }) :=
  .of_wp fun prog w A R s hh => by
    obtain ⟨hp, gg, dr, tok, os⟩ := s
    obtain ⟨ht, q⟩ := hh
    have sub := sub_enumerate
    have isT : Heap.IsTuple (Shared.heap ⟨hp, gg, dr, tok, os⟩) t ts := ht
    obtain ⟨ob, hob, hcl, nn, hdt⟩ := id ht
    wp_walk using wpAny_loadPart' hob
    refine wpAny_stack_any fun sk => wpAny_pure ?_
    split
    · rename_i c _ _ _ _ _
      cases (c == Value.type "enumerate") <;>
      · wp_walk using wpAny_loadPart' hob, wpAny_pyIter_tuple isT
        exact ⟨_, rfl, q⟩
    · wp_walk using wpAny_loadPart' hob, wpAny_pyIter_tuple isT
      exact ⟨_, rfl, q⟩
section
variable {prog : Program} {w : World} {A : Around} {E : Value → Shared → Prop} {s : Shared}
theorem call_enumT {t : Addr} {ts : Array Value} {Q : Value → Shared → Prop} (ht : s.heap.IsTuple t ts)
    (k : ∀ G, IsEnum G (s.heap.objs.size + 1) s.heap.objs.size 0 .none → G.IsTupleIter s.heap.objs.size t 0 → (∀ b o, s.heap.get? b = some o → G.get? b = some o) → Q (.ref (s.heap.objs.size + 1)) { s with heap := G }) :
    wpAny (model prog w) A (call (.type "enumerate") [.ref t]) Q E s := by
  refine callType_new F.called_enumerate (by decide) (F.typeCall_enumerate_1 _) (F.newCall_enumerate_1 _) (fun obj => F.args_object_init_2 obj _) F.entry_enumerate_new (meets_enumT t ts) ⟨ht, ?_⟩
  have n1 : (etH1 s.heap t).objs.size = s.heap.objs.size + 1 := Heap.size_push ..
  have g2 : (etH2 s.heap t).get? (etH1 s.heap t).objs.size = some _ := Heap.get?_push_size _ rfl
  have g1 : (etH2 s.heap t).get? s.heap.objs.size = some _ := Heap.get?_push_of_some _ (Heap.get?_push_size _ rfl)
  rw [n1] at g2
  show _ ∧ _
  rw [n1]
  exact ⟨⟨_, g2, rfl⟩, k _ g2 ⟨_, g1, rfl, rfl⟩ fun b o e => Heap.get?_push_of_some _ (Heap.get?_push_of_some _ e)⟩
end
/-- a tuple's items, each in a new pair behind its number -/
def IteT (K : PySem.W.Frag) (a : Addr) : It where
  go i H := ∃ xs : List V, SqT K H a xs ∧ i < xs.length
  yld i H v H' := ∃ (T : Addr) (x : V), v = .ref T ∧ H T = none ∧ H' = upd H T (.tup [.int (i : Nat), x]) ∧ ∀ xs, SqT K H a xs → xs[i]? = some x
  stop i H := ∃ xs : List V, SqT K H a xs ∧ i = xs.length
theorem turn_enumT {P : Program} {w : World} {K : PySem.W.Frag} {elts : List Expr} {kk : Nat} {tpos : Pos} {a e it : Addr} (hne : e ≠ it) (hea : a ≠ e) :
    Turn P w K (.Tuple elts kk tpos) (IteT K a) [e, it] e (fun i h => (∃ old, IsEnum h e it ((i : Nat) : Int) old) ∧ h.IsTupleIter it a i) := by
  have dT : ∀ {h : Heap} {p q : Addr} {its : Array Value} {j : Nat}, h.IsTuple p its → h.IsTupleIter q p j → p ≠ q := fun {h p q its j} hp hq e => by
    obtain ⟨o, ho, hcl, _⟩ := hp
    obtain ⟨o2, ho2, hcl2, _⟩ := hq
    rw [e, ho2] at ho
    cases ho
    rw [hcl2] at hcl
    exact absurd (Value.type.inj hcl) (by decide)
  have two : ∀ {d : Addr}, d ∈ [e, it] → d = e ∨ d = it := fun h => by simpa using h
  refine ⟨by simp, ?obj, ?keep, ?item, ?done, ?self⟩
  case obj =>
    rintro i h ⟨⟨old, s1⟩, p1, q1, _, r1⟩ d hd
    rcases two hd with rfl | rfl
    · exact ⟨_, s1, fun v e => nomatch e⟩
    · exact ⟨p1, q1, fun v e => by rw [r1] at e; cases e⟩
  case keep =>
    rintro i h h' ⟨⟨old, s1⟩, t1⟩ k
    exact ⟨⟨old, k _ (by simp) _ s1⟩, t1.at fun o e => k _ (by simp) o e⟩
  case self =>
    exact fun A i s Q E st h => wpAny_pyIter_enum st.1.choose_spec h
  case item =>
    intro X hP hw hK hc i pins s σ H E I hf st hg
    subst hP hw hK
    obtain ⟨⟨old, s1⟩, t1⟩ := st
    obtain ⟨xs, qa, la⟩ := hg
    obtain ⟨ia, ra, pa, _⟩ := I.tuple qa
    have hh : X.A.in1.handled = none := I.ok.hd hc
    have el : e < s.heap.objs.size := Heap.lt_size s1
    have il : it < s.heap.objs.size := by obtain ⟨_, q, _⟩ := t1; exact Heap.lt_size q
    refine wpAny_pyNext_enum_itemD (i := i) (Draws.tuple hh it a (dT pa t1) ia.toArray) s1 ⟨t1, pa⟩ (by rw [List.size_toArray, ← ra.length]; exact la) hne (fun z => by
      rcases List.mem_cons.mp z with z | z
      · exact hne z
      · exact hea (List.mem_singleton.mp z).symm) fun x1 h' tk g1 ho v1 hT hsz hk => ?_
    obtain ⟨y1, hy1⟩ := get_some (xs := xs) la
    obtain ⟨u, eu, ru⟩ := ra.get hy1
    have e3 : some u = some x1 := eu.symm.trans (by simpa using g1)
    obtain rfl : u = x1 := Option.some.inj e3
    refine ⟨_, rfl, wpAny_letOwnedTupleGo_enum (s := { s with heap := h', toks := tk + 1 }) ho fun h'' he' sb => ?_⟩
    have hT2 : h''.get? s.heap.objs.size = some { cls := .type "tuple", data := .seq #[.int i tk, u] } := (sb.2 _ (Nat.ne_of_gt el)).trans hT
    have mk : ObjOk X.prog X.w (upd H s.heap.objs.size (.tup [.int (i : Nat), y1])) h'' s.heap.objs.size (.tup [.int (i : Nat), y1]) :=
      ⟨by show 2 ≤ sizeLine; decide, [.int i tk, u], .cons ⟨_, rfl⟩ (.cons ru .nil), ⟨_, hT2, rfl, _, rfl⟩⟩
    have I1 : Inv X pins σ (upd H s.heap.objs.size (.tup [.int (i : Nat), y1])) { s with heap := h'', toks := tk + 1 } :=
      I.turnedNew (ch := [e, it]) (fun d o hd q => (sb.2 d (fun z => hd (by simp [z]))).trans (hk d o (fun z => hd (by simp [z])) (fun z => hd (by simp [z])) q)) hf (Nat.le_refl _) mk
    have uniq : ∀ l, SqT X.K H a l → l[i]? = some y1 := fun l hl => by rw [I.tuple_inj hl qa]; exact hy1
    refine ⟨.ref s.heap.objs.size, _, I1, rfl, ⟨_, y1, rfl, I.hok.fresh (Nat.le_refl _), rfl, uniq⟩, ⟨⟨u, ?_⟩, v1.1.at fun o q => (sb.2 it hne.symm).trans q⟩, fun d hd => ?_⟩
    · rw [show ((i + 1 : Nat) : Int) = (i : Int) + 1 by omega]
      exact he'
    · have hlt : d < s.heap.objs.size := by
        rcases two hd with rfl | rfl
        · exact el
        · exact il
      rw [upd_ne (Nat.ne_of_lt hlt)]
      exact (hf d hd).1
  case done =>
    intro X hP hw hK hc i pins s σ H E I hf st hg
    subst hP hw hK
    obtain ⟨⟨old, s1⟩, t1⟩ := st
    obtain ⟨xs, qa, la⟩ := hg
    obtain ⟨ia, ra, pa, _⟩ := I.tuple qa
    have hh : X.A.in1.handled = none := I.ok.hd hc
    have sa : i = ia.toArray.size := by rw [List.size_toArray, ← ra.length]; exact la
    obtain ⟨f0, f1, f2, f3, f4, f5⟩ := hf it (by simp)
    rw [sa] at t1 s1
    exact wpAny_pyNext_enum_endD (Draws.tuple hh it a (dT pa t1) ia.toArray) s1 ⟨t1, pa⟩ fun h' eb => ⟨rfl, I.turned (t' := s.toks) (fun b o hb q => eb b o hb q) f0 f1 f3 f4 f5⟩
/-- what stands within enumerate(t) -/
def iEnumT (K : PySem.W.Frag) (ta : TA) : TI := fun σ H R => ta σ H fun vs H1 => ∃ (a : Addr) (xs : List V), vs = [.ref a] ∧ SqT K H1 a xs ∧ R (IteT K a) H1
theorem pi_enumT {X : Cx} {e : Expr} {ta : TA} {p pos tpos : Pos} {elts : List Expr} {kk : Nat} (hg : Gl X "enumerate") (hm : X.mg "enumerate" = none) (ha : PA X [e] ta) (hs : starEach [e] X.env = [(false, eval e X.env)] := by rfl) :
    PI X (.Tuple elts kk tpos) (.Call (.Name "enumerate" p) [e] [] pos) (iEnumT X.K ta) := by
  refine ⟨fun pins s σ H R I h => ?_⟩
  refine Call_ (ld_blt I hg hm boot_enumerate (PyProof.Rows.callWith_type1 (thn (ha.run pos pins s σ H _ I h) fun us s1 ⟨vs, H1, I1, r1, q1⟩ => ?_) hs rfl))
  obtain ⟨a, xs, rfl, qa, q⟩ := q1
  obtain rfl := Vals.ref1 r1
  obtain ⟨ia, ra, pa, _⟩ := I1.tuple qa
  have la : a < s1.heap.objs.size := by obtain ⟨_, e, _⟩ := pa; exact Heap.lt_size e
  refine call_enumT pa fun G hE hI hk => wpAny_pyIter_enum hE ?_
  have I2 : Inv X pins σ H1 { s1 with heap := G } := I1.kept (t' := s1.toks) hk
  have n1 : s1.heap.objs.size + 1 ≠ s1.heap.objs.size := Nat.succ_ne_self _
  have n2 : a ≠ s1.heap.objs.size + 1 := Nat.ne_of_lt (Nat.lt_succ_of_lt la)
  refine ⟨s1.heap.objs.size + 1, [s1.heap.objs.size + 1, s1.heap.objs.size], _, _, H1, rfl, I2, turn_enumT n1 n2, ⟨⟨.none, hE⟩, hI⟩, fun d hd => ?_, q⟩
  have hle : s1.heap.objs.size ≤ d := by
    rcases List.mem_cons.mp hd with z | z
    · rw [z]; exact Nat.le_succ _
    · rw [List.mem_singleton.mp z]; exact Nat.le_refl _
  exact I1.fpOk hle (I1.hok.fresh hle)
theorem walk_enumT {K : PySem.W.Frag} {a : Addr} {xs : List V} : Walk (IteT K a) xs.length (fun H => SqT K H a xs) (YPair (fun i => some (.int (i : Nat))) (fun i => xs[i]?)) :=
  ⟨fun i H hi q => ⟨xs, q, hi⟩, fun H q => ⟨xs, q, rfl⟩, fun i H v H' _ q ⟨T, x, e1, e2, e3, e4⟩ => ⟨T, .int (i : Nat), x, e1, e2, e3, rfl, e4 _ q⟩⟩
end AW
/-! dicts asked, tuple(..), slices of tuples; what the law speaks of: sayings, worlds, models -/
namespace AW
open PySem PySem.Spec PyProof.Rows L2 RZ
section
variable {σ : L2.St} {H : Hp} {Q : VK} {ta tb te td ty : TE} {K : PySem.W.Frag}
/-- keywords alone, in the parameters' order -/
def gK {α : Type} : List α → List α → List α
  | [], zs => zs
  | _ :: _, _ => []
theorem w_callK {sp : Sp} {E : XK} {tk : TA} (h : tk σ H fun zs H2 => sp zs H2 Q E) : tCallK sp gK E tNil tk σ H Q := h
def kDGet (x y : V) (H : Hp) (Q : VK) : Prop := ∃ a v, x = .ref a ∧ DGet H a y (some v) ∧ Q v H
theorem w_dg (h : td σ H fun x H1 => ty σ H1 fun y H2 => kDGet x y H2 Q) : tDGet td ty σ H Q := h
theorem kDGet_i {d : Addr} {kvs : List (Key × V)} {k : Key} {v : V} (h : H d = some (.dK kvs)) (e : valV kvs k = some v) (q : Q v H) : kDGet (.ref d) (kV k) H Q := ⟨d, v, rfl, e ▸ DGet.k h, q⟩
def kDPut (x y v : V) (H : Hp) (N : Hp → Prop) : Prop := ∃ a H4, x = .ref a ∧ DPut H a y v H4 ∧ N H4
theorem w_dput {D : Ends} {tv : TE} (h : tv σ H fun v H1 => td σ H1 fun x H2 => ty σ H2 fun y H3 => kDPut x y v H3 (D.nx σ)) : sDPut td ty tv D σ H := h
theorem kDPut_i {d : Addr} {kvs : List (Key × V)} {k : Key} {v : V} {N : Hp → Prop} (h : H d = some (.dK kvs)) (hl : kvs.length < 100000) (q : N (upd H d (.dK (putK kvs k v)))) : kDPut (.ref d) (kV k) v H N :=
  ⟨d, _, rfl, DPut.k h (Nat.lt_of_lt_of_le hl (by decide)), q⟩
/-- tuple(x) -/
theorem w_tup1 (h : ta σ H fun x H1 => kTup K x H1 Q) : tThen ta (kTup K) σ H Q := h
theorem w_tupL {p : Addr} {xs : List V} (h : SqL K H p xs) (q : ∀ r H', H r = none → Adv [] H H' → H' r = some (.tup xs) → Q (.ref r) H') : kTup K (.ref p) H Q := .inl ⟨p, xs, rfl, h, w_new q⟩
/-- tuples joined, none of them empty -/
theorem w_catT {a b : Addr} {xs ys : List V} (h1 : H a = some (.tup xs)) (h2 : H b = some (.tup ys)) (hz : xs.length + ys.length ≤ 100000) (q0 : xs = [] → Q (.ref b) H) (q1 : xs ≠ [] → ys = [] → Q (.ref a) H)
    (q : ∀ r H', H r = none → Adv [] H H' → H' r = some (.tup (xs ++ ys)) → Q (.ref r) H') : rCatA K (.ref a) (.ref b) H Q :=
  ⟨a, b, xs, ys, rfl, rfl, SqT.of h1, SqT.of h2, Nat.le_trans hz (by decide), q0, q1, fun _ _ => w_new q⟩
/-- joined, whatever they are: a tuple that holds both -/
theorem w_catT' {a b : Addr} {xs ys : List V} (h1 : H a = some (.tup xs)) (h2 : H b = some (.tup ys)) (hz : xs.length + ys.length ≤ 100000) (q : ∀ r H', Adv [] H H' → H' r = some (.tup (xs ++ ys)) → Q (.ref r) H') : rCatA K (.ref a) (.ref b) H Q :=
  w_catT h1 h2 hz (fun e => q _ _ (.refl _ _) (by rw [e]; exact h2)) (fun _ e => q _ _ (.refl _ _) (by rw [e, List.append_nil]; exact h1)) fun r H' _ a e => q r H' a e
end
/-- the dict at d tells the value of each of these names -/
def WD (H : Hp) (d : Addr) (names : List Str) (w : Str → Int) : Prop := ∃ kvs, H d = some (.dK kvs) ∧ ∀ x ∈ names, valV kvs (Sum.inr x) = some (.int (w x))
theorem WD.up {H H' : Hp} {d : Addr} {names : List Str} {w : Str → Int} (h : WD H d names w) (e : Adv [] H H') : WD H' d names w := by
  obtain ⟨kvs, h1, h2⟩ := h
  exact ⟨kvs, e.keep _ _ (fun z => nomatch z) h1, h2⟩
theorem WD.go {st : Addr} {cs : Addr × Addr} {H H' : Hp} {d : Addr} {names : List Str} {w : Str → Int} (h : WD H d names w) (hs : Off d st cs) (e : Go st cs H H') : WD H' d names w := by
  obtain ⟨kvs, h1, h2⟩ := h
  exact ⟨kvs, e.keep hs h1, h2⟩
theorem WD.get {H : Hp} {Q : VK} {d : Addr} {names : List Str} {w : Str → Int} {x : Str} (h : WD H d names w) (hx : x ∈ names) (q : Q (.int (w x)) H) : kDGet (.ref d) (.str x) H Q := by
  obtain ⟨kvs, h1, h2⟩ := h
  exact kDGet_i (k := Sum.inr x) h1 (h2 x hx) q

/-! ### sayings -/
def okS (x : Str) : Prop := x.cps.all (· < 0x110000) = true
abbrev Wd := Str → Int
def atW (b : Bool) : Str := if b = true then "from" else "is"
def manyW (b : Bool) : Str := if b = true then "and" else "or"
/-- a claim, as data: of so many levels, what it tells of a world, and its names as they stand -/
inductive ClD : Nat → PyData → (Wd → Bool) → List Str → Prop
  | one {m : Nat} {x : Str} {v : Int} (b : Bool) : ClD (m + 1) (.tuple [.str (atW b), .str x, .int v]) (fun w => if b = true then decide (v ≤ w x) else decide (w x = v)) [x]
  | neg {m : Nat} {d : PyData} {f : Wd → Bool} {ns : List Str} (h : ClD m d f ns) : ClD (m + 1) (.tuple [.str "not", d]) (fun w => !f w) ns
  | many {m : Nat} (b : Bool) (ds : List PyData) (fs : List (Wd → Bool)) (nss : List (List Str)) (hl : ds.length = fs.length) (hl2 : ds.length = nss.length) (h1 : ds.length ≤ 100)
      (h : ∀ (i : Nat) d f ns, ds[i]? = some d → fs[i]? = some f → nss[i]? = some ns → ClD m d f ns) :
      ClD (m + 1) (.tuple [.str (manyW b), .tuple ds]) (fun w => if b = true then fs.all (· w) else fs.any (· w)) nss.flatten
theorem ClD.le {m : Nat} {d : PyData} {f : Wd → Bool} {ns : List Str} (h : ClD m d f ns) : ∀ {n : Nat}, m ≤ n → ClD n d f ns := by
  induction h with
  | one b =>
    intro n hn
    obtain ⟨k, rfl⟩ : ∃ k, n = k + 1 := ⟨n - 1, by omega⟩
    exact .one b
  | neg h ih =>
    intro n hn
    obtain ⟨k, rfl⟩ : ∃ k, n = k + 1 := ⟨n - 1, by omega⟩
    exact .neg (ih (by omega))
  | many b ds fs nss hl hl2 h1 h ih =>
    intro n hn
    obtain ⟨k, rfl⟩ : ∃ k, n = k + 1 := ⟨n - 1, by omega⟩
    exact .many b ds fs nss hl hl2 h1 fun i d f ns e1 e2 e3 => ih i d f ns e1 e2 e3 (by omega)
inductive Say where
  | sums (least : Bool) (ts : List (Str × Int)) (n : Int)
  | unlike (xs : List Str)
  | counts (xs : List Str) (ts : List (Int × Int × Int))
  | tab (b : Bool) (xs : List Str) (rows : List (List Int))
  | pick (i : Str) (xs : List Str) (r : Str)
  | top (xs : List Str) (r : Str)
  | prod (x y z : Str)
  | ahead (xs ys : List Str)
  | mach (xs : List Str) (s : Int) (mv : List (Int × Int × Int)) (en : List Int)
  | works (xs : List Str) (ls ns : List Int) (room : Int)
  | round (xs : List Str)
  | claim (d : PyData) (f : Wd → Bool) (ns : List Str)
  | when (d : PyData) (f : Wd → Bool) (ns : List Str) (s : Say)
def trD (t : Str × Int) : PyData := .tuple [.str t.1, .int t.2]
def rowD (r : List Int) : PyData := .tuple (r.map .int)
def sumW (b : Bool) : Str := if b = true then "least" else "same"
/-- the names of a saying as they stand -/
def Say.names : Say → List Str
  | .sums _ ts _ => ts.map (·.1)
  | .unlike xs => xs
  | .counts xs _ => xs
  | .tab _ xs _ => xs
  | .pick i xs r => i :: (xs ++ [r])
  | .top xs r => xs ++ [r]
  | .prod x y z => [x, y, z]
  | .ahead xs ys => xs ++ ys
  | .mach xs _ _ _ => xs
  | .works xs _ _ _ => xs
  | .round xs => xs
  | .claim _ _ ns => ns
  | .when _ _ ns s => ns ++ s.names
def wt (n : Int) : Prop := -(2 ^ 64) < n ∧ n < 2 ^ 64
def Say.isWhen : Say → Bool
  | .when .. => true
  | _ => false
def Say.ok : Say → Prop
  | .sums _ ts _ => ts.length ≤ 100 ∧ ∀ t ∈ ts, wt t.2
  | .unlike xs => xs.length ≤ 100
  | .counts xs ts => xs.length ≤ 100 ∧ ts.length ≤ 100
  | .tab _ xs rows => xs.length ≤ 100 ∧ rows.length ≤ 1000
  | .pick _ xs _ => xs.length ≤ 100
  | .top xs _ => 0 < xs.length ∧ xs.length ≤ 100 ∧ ∀ x ∈ xs, okS x
  | .prod _ _ _ => True
  | .ahead xs ys => xs.length = ys.length ∧ xs.length ≤ 100
  | .mach xs _ mv en => xs.length ≤ 100 ∧ mv.length ≤ 1000 ∧ (mv.map fun m => (m.1, m.2.1)).Nodup ∧ en.length ≤ 100
  | .works xs ls ns room => ls.length = xs.length ∧ ns.length = xs.length ∧ 0 ≤ room ∧ xs.length ≤ 100
  | .round xs => 0 < xs.length ∧ xs.length ≤ 100
  | .claim d f ns => ClD 8 d f ns ∧ ns.length ≤ 1000
  | .when d f ns s => ClD 8 d f ns ∧ ns.length ≤ 1000 ∧ s.isWhen = false ∧ s.ok
/-- outside of claims no name comes twice -/
def Say.nd : Say → Prop
  | .claim _ _ _ => True
  | .when _ _ _ s => s.nd
  | s => s.names.Nodup
/-! ### x in t, t a tuple of data -/
def rInT (K : PySem.W.Frag) : R2 := fun x y H Q => ∃ d ds, Dp K H x d ∧ Dp K H y (.tuple ds) ∧ SeqAt.shaped d = true ∧ SeqAt.shaped (.tuple ds) = true ∧ Q (.bl (ds.any fun z => PyData.eqv z d)) H
theorem op_inT {X : Cx} (hu : X.A.units + 65 < cLine) : OpR X (compareOp .In) (rInT X.K) := by
  intro pins s σ H x y v u Q I rx ry h
  obtain ⟨d, ds, hd, he, sd, se, q⟩ := h
  obtain ⟨as, r1⟩ := Dp.reads I d x v hd rx
  obtain ⟨bs, r2⟩ := Dp.reads I (.tuple ds) y u he ry
  exact SeqAt.in_tuple_reads r2 r1 (SeqAt.canLay_of_shaped se) (SeqAt.canLay_of_shaped sd) (room_in_shaped sd hu) ⟨.bl _, H, I, rfl, q⟩
end AW
/-! a dict comprehension that is given to a name -/
namespace AW
open PySem PySem.Spec PyProof.Rows L2 RZ
section
variable {X : Cx}
end
/-! ### models -/
theorem nodup_inj {α : Type} {l : List α} (h : l.Nodup) {i j : Nat} {x : α} (a : l[i]? = some x) (b : l[j]? = some x) : i = j := L2.nd_ix h a b
end AW
/-! steps that were not there: isinstance, pop, tuple(d), sorted, a comprehension with two fors -/
namespace AW
open PySem PySem.Spec PyProof.Rows L2 RZ StX
def rDictP (K : PySem.W.Frag) : List V → Hp → VK → Prop := fun xs H Q => ∃ (a : Addr) (ps : List Addr) (kvs : List (Key × V)), xs = [.ref a] ∧ SqL K H a (ps.map V.ref) ∧ Paired (fun p kv => SqT K H p [kV kv.1, kv.2]) ps kvs ∧ ∀ p, H p = none → Q (.ref p) (upd H p (.dK (mergeK [] kvs)))
theorem call_dictP1 {X : Cx} (hc : X.calm = true) : CallR X (.type "dict") (rDictP X.K) := call_dictP hc
section
variable {σ : L2.St} {H : Hp} {Q : VK} {ta tb te td ty : TE} {K : PySem.W.Frag}
theorem w_listOfL {p : Addr} {xs : List V} (h : SqL K H p xs ∨ SqT K H p xs) (q : ∀ r H', H r = none → Adv [] H H' → H' r = some (.lst xs) → Q (.ref r) H') : rListOfA K [.ref p] H Q := .inl (w_listOf h q)
theorem w_isi {x : V} {a b : String} {r : Bool} (ty : TyX K H x (.type a)) (e : kitB a b = some r) (q : Q (.bl r) H) : rIsi K [x, .ty b] H Q := ⟨x, .ty b, _, _, r, rfl, .ty b, ty, kit_ty e, q⟩
theorem w_notN {x : V} (q : Q (.bl (!decide (x = .non))) H) : rNotN x .non H Q := ⟨rfl, q⟩
theorem w_popAt {i : Nat} {l : Addr} {xs : List V} {a : TA} (hσ : σ[i]? = some (some (.ref l))) (h0 : H l = some (.lst xs)) (h : a σ H fun vs H2 => rPopAt (.ref l) vs H2 Q) : tBM K "list" rPopAt (tVar i) a σ H Q :=
  ⟨.ref l, hσ, .inl ⟨rfl, xs, SqL.of h0⟩, h⟩
end
end AW
/-! keys of dicts, sorted texts -/
namespace AW
open PySem PySem.Spec PyProof.Rows L2 RZ
theorem filter_true {α : Type} (l : List α) : l.filter (fun _ => true) = l := List.filter_eq_self.mpr fun _ _ => rfl
section
variable {σ : L2.St} {H1 : Hp} {Q : VK} {K : PySem.W.Frag} {g : TG} {tt : TT} {tk tv : TE} {vs : List Nat}
theorem w_inT {x : V} {p : Addr} {xs : List V} {H : Hp} (h : H p = some (.tup xs)) (hx : flatV x = true) (ha : xs.all flatV = true) (q : Q (.bl (inV x xs)) H) : rIn K false x (.ref p) H Q := ⟨p, xs, rfl, .inr (SqT.of h), hx, ha, q⟩
theorem w_inL {x : V} {p : Addr} {xs : List V} {H : Hp} (h : H p = some (.lst xs)) (hx : flatV x = true) (ha : xs.all flatV = true) (q : Q (.bl (inV x xs)) H) : rIn K false x (.ref p) H Q := ⟨p, xs, rfl, .inl (SqL.of h), hx, ha, q⟩
end
end AW
/-! type(x) in (T, U) -/
namespace AW
open PySem PySem.Spec PyProof.Rows L2 RZ
end AW
namespace AW
open PySem PySem.Spec PyProof.Rows L2 RZ
open StX
local macro_rules | `(tactic| walk_at "aw1") => `(tactic| first
  | (with_reducible refine w_seq ?_) | (with_reducible refine w_asg ?_) | (with_reducible refine w_gname ?_) | (with_reducible refine w_op ?_) | (with_reducible refine w_un ?_)
  | ((with_reducible refine' w_var ?h ?_); (case h => rfl)) | (with_reducible refine w_c ?_)
  | (with_reducible refine w_I0 ?_) | (with_reducible refine w_U ?_) | (with_reducible refine w_cb ?_) | (with_reducible refine w_nil ?_) | (with_reducible refine w_cons ?_) | (with_reducible refine w_call ?_)
  | (with_reducible refine w_test ?_) | (with_reducible refine w_B ?_) | (with_reducible refine w_bl ?_) | (with_reducible refine w_not ?_) | (with_reducible refine w_yes ?_) | (with_reducible refine iteT ?_) | (with_reducible refine iteF ?_) | (with_reducible refine w_and ?_) | (with_reducible refine w_or ?_)
  | (with_reducible refine w_andV ?_) | (with_reducible refine w_orV ?_) | (with_reducible refine w_notV ?_) | (with_reducible refine w_if ?_)
  | (with_reducible refine w_int1 ?_) | (with_reducible refine w_int1b ?_) | (with_reducible refine w_abs ?_) | (with_reducible refine w_max2 ?_) | (with_reducible refine w_min2 ?_)
  | ((with_reducible refine w_eq ?h ?_); (case h => rfl)) | ((with_reducible refine w_ne ?h ?_); (case h => rfl)) | (with_reducible refine w_isN ?_) | (with_reducible refine w_isB ?_) | (with_reducible refine w_chain ?_)
  | (with_reducible refine w_ret ?_) | (with_reducible refine w_drop ?_) | (with_reducible refine w_ifS ?_) | (with_reducible refine w_gsub ?_) | (with_reducible refine w_augS ?_) | (with_reducible refine w_ipI ?_) | (with_reducible refine w_next ?_)
  | (with_reducible refine w_forR ?_) | (with_reducible refine w_forR2 ?_) | (with_reducible refine w_forL ?_) | (with_reducible refine w_forT ?_) | (with_reducible refine w_lcR ?_) | (with_reducible refine w_lcL ?_) | (with_reducible refine w_lcT ?_) | (with_reducible refine w_sl ?_) | (with_reducible refine w_part ?_) | (with_reducible refine w_noPart ?_) | (with_reducible refine w_in ?_)
  | (with_reducible refine w_gcons ?_) | (with_reducible refine w_gnil ?_) | (with_reducible refine w_lc3 ?_) | (with_reducible refine w_dcZ ?_) | (with_reducible refine w_dcT ?_) | (with_reducible refine w_dg ?_) | (with_reducible refine w_callK ?_) | (with_reducible refine w_dput ?_) | (with_reducible refine w_tup1 ?_)
  | (with_reducible refine w_tup ?_) | (with_reducible refine w_lst ?_)
  | ((with_reducible refine w_I ?h ?_); (case h => first | (exact Or.inr ⟨by decide, by decide⟩) | (exact Or.inl ⟨by decide, by decide⟩) | (show (0 : Int) < _; decide) | (exact ⟨by decide, by decide, by decide⟩) | assumption)))
local macro_rules | `(tactic| walk_at "aw") => `(tactic| repeat (walk_at "aw1"))
def tyD : PyData → String
  | .none => "NoneType"
  | .bool _ => "bool"
  | .int _ => "int"
  | .str _ => "str"
  | _ => "tuple"
theorem is_ty {K : PySem.W.Frag} {H : Hp} {D : PyData} {v : V} (h : Is H D v) : TyB K H v (tyD D) := by
  cases h with
  | non => exact .non
  | bl b => exact .bl b
  | int i => exact .int i
  | str x => exact .str x
  | tup e _ => exact .tup (SqT.of e)
def rIsTyB : R2 := fun x y H Q => ∃ a b, x = .ty a ∧ y = .ty b ∧ Q (.bl (decide (a = b))) H
theorem op_isTyB1 {X : Cx} : OpR X (compareOp .Is) rIsTyB := op_isTyB
theorem w_typ {K : PySem.W.Frag} {H : Hp} {D : PyData} {v : V} {Q : VK} (h : Is H D v) (q : Q (.ty (tyD D)) H) : rTyp K [v] H Q := ⟨v, _, rfl, is_ty h, q⟩
theorem w_isTy {a b : String} {H : Hp} {Q : VK} (q : Q (.bl (decide (a = b))) H) : rIsTyB (.ty a) (.ty b) H Q := ⟨a, b, rfl, rfl, q⟩
def lenIn (D : PyData) (f m : Int) : Bool := match D with
  | .tuple ds => decide (f ≤ (ds.length : Nat)) && decide (((ds.length : Nat) : Int) ≤ m)
  | _ => false
def sp_is_tuple (_ : PySem.W.Frag) : Sp := fun vs H Q _ => ∃ (v : V) (f m : Int), vs = [v, .int f, .int m] ∧ ∃ D, Is H D v ∧ Q (.bl (lenIn D f m)) H
def t_is_tuple (K : PySem.W.Frag) : TS := (tRet (tAndV (tOp rIsTyB (tCB (rTyp K) (tCons (tVar 0) tNil)) (tC (.ty "tuple"))) (tChain rLeI rLeI (tVar 1) (tCB (rLen1 K) (tCons (tVar 0) tNil)) (tVar 2))))
theorem len_is_tuple {K : PySem.W.Frag} : ∀ (vs : List V) (H : Hp) (Q : VK) (E : XK), sp_is_tuple K vs H Q E → vs.length = 3 := fun vs H Q E h => by
  obtain ⟨_, _, _, rfl, _⟩ := h
  rfl
theorem pure_is_tuple {K : PySem.W.Frag} (vs : List V) (H : Hp) (Q : VK) (E : XK) (h : sp_is_tuple K vs H Q E) : t_is_tuple K { nx := fun _ H' => Q .non H', rt := Q } (start ["value", "fewest", "most"] vs) H := by
  obtain ⟨v, f, m, rfl, D, hD, q⟩ := h
  show t_is_tuple K _ [some v, some (.int f), some (.int m)] H
  unfold t_is_tuple
  walk_at "aw"
  refine w_typ hD ?_
  walk_at "aw"
  refine w_isTy ?_
  walk_at "aw"
  cases hD with
  | tup e t =>
    refine w_iteB (fun _ => ?_) fun h => absurd rfl h
    have hl := t.length
    walk_at "aw"
    refine w_lenT (SqT.of e) ?_
    rw [hl]
    walk_at "aw"
    replace q : Q (.bl (decide (f ≤ (_ : Nat)) && decide (((_ : Nat) : Int) ≤ m))) H := q
    refine w_iteB (fun h1 => ?_) fun h1 => ?_
    · walk_at "aw"
      rw [decide_eq_true h1, Bool.true_and] at q
      exact q
    · rw [decide_eq_false h1, Bool.false_and] at q
      exact q
  | non => exact w_iteB (fun h => absurd h (by simp [tyD])) fun _ => q
  | bl b => exact w_iteB (fun h => absurd h (by simp [tyD])) fun _ => q
  | int i => exact w_iteB (fun h => absurd h (by simp [tyD])) fun _ => q
  | str x => exact w_iteB (fun h => absurd h (by simp [tyD])) fun _ => q
def isiD (D : PyData) (T : String) : Bool := decide (tyD D = T) || (decide (tyD D = "bool") && decide (T = "int"))
theorem w_isiD {K : PySem.W.Frag} {H : Hp} {D : PyData} {v : V} {T : String} {Q : VK} (h : Is H D v) (hT : T ∈ ["tuple", "str", "int", "bool"]) (q : Q (.bl (isiD D T)) H) : rIsi K [v, .ty T] H Q := by
  have key : ∃ t, TyX K H v (.type t) ∧ t = tyD D ∧ t ∈ ["NoneType", "bool", "int", "str", "tuple"] := by
    cases h with
    | non => exact ⟨_, .base .non, rfl, by simp⟩
    | bl b => exact ⟨_, .base (.bl b), rfl, by simp⟩
    | int i => exact ⟨_, .base (.int i), rfl, by simp⟩
    | str x => exact ⟨_, .base (.str x), rfl, by simp⟩
    | tup e _ => exact ⟨_, .base (.tup e), rfl, by simp⟩
  obtain ⟨t, ht, e, hm⟩ := key
  refine w_isi ht (r := isiD D T) ?_ q
  unfold isiD
  rw [← e]
  clear e ht q
  simp only [List.mem_cons, List.not_mem_nil, or_false] at hm hT
  rcases hm with rfl | rfl | rfl | rfl | rfl <;> rcases hT with rfl | rfl | rfl | rfl <;> decide +kernel
end AW
namespace AW
open PySem PySem.Spec PyProof.Rows L2 RZ
open StX
local macro_rules | `(tactic| walk_at "aw1") => `(tactic| first
  | (with_reducible refine w_seq ?_) | (with_reducible refine w_asg ?_) | (with_reducible refine w_gname ?_) | (with_reducible refine w_op ?_) | (with_reducible refine w_un ?_)
  | ((with_reducible refine' w_var ?h ?_); (case h => rfl)) | (with_reducible refine w_c ?_)
  | (with_reducible refine w_I0 ?_) | (with_reducible refine w_U ?_) | (with_reducible refine w_cb ?_) | (with_reducible refine w_nil ?_) | (with_reducible refine w_cons ?_) | (with_reducible refine w_call ?_)
  | (with_reducible refine w_test ?_) | (with_reducible refine w_B ?_) | (with_reducible refine w_bl ?_) | (with_reducible refine w_not ?_) | (with_reducible refine w_yes ?_) | (with_reducible refine iteT ?_) | (with_reducible refine iteF ?_) | (with_reducible refine w_and ?_) | (with_reducible refine w_or ?_)
  | (with_reducible refine w_andV ?_) | (with_reducible refine w_orV ?_) | (with_reducible refine w_notV ?_) | (with_reducible refine w_if ?_)
  | (with_reducible refine w_int1 ?_) | (with_reducible refine w_int1b ?_) | (with_reducible refine w_abs ?_) | (with_reducible refine w_max2 ?_) | (with_reducible refine w_min2 ?_)
  | ((with_reducible refine w_eq ?h ?_); (case h => rfl)) | ((with_reducible refine w_ne ?h ?_); (case h => rfl)) | (with_reducible refine w_isN ?_) | (with_reducible refine w_isB ?_) | (with_reducible refine w_chain ?_)
  | (with_reducible refine w_ret ?_) | (with_reducible refine w_drop ?_) | (with_reducible refine w_ifS ?_) | (with_reducible refine w_gsub ?_) | (with_reducible refine w_augS ?_) | (with_reducible refine w_ipI ?_) | (with_reducible refine w_next ?_)
  | (with_reducible refine w_forR ?_) | (with_reducible refine w_forR2 ?_) | (with_reducible refine w_forL ?_) | (with_reducible refine w_forT ?_) | (with_reducible refine w_lcR ?_) | (with_reducible refine w_lcL ?_) | (with_reducible refine w_lcT ?_) | (with_reducible refine w_sl ?_) | (with_reducible refine w_part ?_) | (with_reducible refine w_noPart ?_) | (with_reducible refine w_in ?_)
  | (with_reducible refine w_gcons ?_) | (with_reducible refine w_gnil ?_) | (with_reducible refine w_lc3 ?_) | (with_reducible refine w_dcZ ?_) | (with_reducible refine w_dcT ?_) | (with_reducible refine w_dg ?_) | (with_reducible refine w_callK ?_) | (with_reducible refine w_dput ?_) | (with_reducible refine w_tup1 ?_)
  | (with_reducible refine w_tup ?_) | (with_reducible refine w_lst ?_)
  | ((with_reducible refine w_I ?h ?_); (case h => first | (exact Or.inr ⟨by decide, by decide⟩) | (exact Or.inl ⟨by decide, by decide⟩) | (show (0 : Int) < _; decide) | (exact ⟨by decide, by decide, by decide⟩) | assumption)))
local macro_rules | `(tactic| walk_at "aw") => `(tactic| repeat (walk_at "aw1"))
def sp__law_mixed (_ : PySem.W.Frag) : Sp := fun vs H Q _ => ∃ a b : Int, vs = [.int a, .int b] ∧ ∀ n : Int, 0 ≤ n → n < 999983 → Q (.int n) H
def sp__law_tape (K : PySem.W.Frag) : Sp := fun vs H Q _ => ∃ (a : Addr) (ns : List Int), vs = [.ref a] ∧ SqL K H a (ns.map V.int) ∧ ns.length ≤ 63 ∧ ∀ st cs H', StOk st cs H' → Adv [] H H' → H st = none → Q (.ref st) H'
def sp__law_draw (_ : PySem.W.Frag) : Sp := fun vs H Q _ => ∃ (st : Addr) (lim : Int), vs = [.ref st, .int lim] ∧ ∃ cs, StOk st cs H ∧ 0 < lim ∧ lim < 1073741824 ∧ ∀ n H', 0 ≤ n → n < lim → Go st cs H H' → Q (.int n) H'
/-- the tape at st: cells at c -/
structure PAt (st c : Addr) (ns : List Int) (H : Hp) (i g l s t : Int) : Prop where
  e : H st = some (.dK (tapeK c i g l s t))
  ec : H c = some (.lst (ns.map V.int))
  hl : ns.length ≤ 63
  ne : c ≠ st
theorem PAt.ok {st c : Addr} {ns : List Int} {H : Hp} {i g l s t : Int} (p : PAt st c ns H i g l s t) (hi : 0 ≤ i) : StOk st (c, c) H := ⟨i, g, l, s, t, ns, p.e, p.ec, p.hl, p.ne, rfl, hi⟩
theorem PAt.set {st c : Addr} {ns : List Int} {H : Hp} {i g l s t : Int} (p : PAt st c ns H i g l s t) (i' g' l' s' t' : Int) : PAt st c ns (upd H st (.dK (tapeK c i' g' l' s' t'))) i' g' l' s' t' ∧ Adv [st, c] H (upd H st (.dK (tapeK c i' g' l' s' t'))) :=
  ⟨⟨upd_same, by rw [upd_ne p.ne]; exact p.ec, p.hl, p.ne⟩, (Adv.set p.e (fun _ z => by cases z)).mono (fun b hb => by rw [List.mem_singleton.mp hb]; exact List.mem_cons_self ..)⟩
section
variable {st c : Addr} {ns : List Int} {H : Hp} {i g l s t : Int} {Q : VK} {N : Hp → Prop}
theorem PAt.get {k : L2.Key} {v : V} (p : PAt st c ns H i g l s t) (e : valV (tapeK c i g l s t) k = some v) (q : Q v H) : kDGet (.ref st) (kV k) H Q := kDGet_i p.e e q
theorem tp_cells : valV (tapeK c i g l s t) (.inr "cells") = some (.ref c) := rfl
theorem tp_at : valV (tapeK c i g l s t) (.inr "at") = some (.int i) := rfl
theorem tp_great : valV (tapeK c i g l s t) (.inr "great") = some (.int g) := rfl
theorem tp_left : valV (tapeK c i g l s t) (.inr "left") = some (.int l) := rfl
theorem tp_seed : valV (tapeK c i g l s t) (.inr "seed") = some (.int s) := rfl
theorem tp_turn : valV (tapeK c i g l s t) (.inr "turn") = some (.int t) := rfl
theorem tq_at {z : Int} : putK (tapeK c i g l s t) (.inr "at") (.int z) = tapeK c z g l s t := rfl
theorem tq_great {z : Int} : putK (tapeK c i g l s t) (.inr "great") (.int z) = tapeK c i z l s t := rfl
theorem tq_left {z : Int} : putK (tapeK c i g l s t) (.inr "left") (.int z) = tapeK c i g z s t := rfl
theorem tq_seed {z : Int} : putK (tapeK c i g l s t) (.inr "seed") (.int z) = tapeK c i g l z t := rfl
theorem tq_turn {z : Int} : putK (tapeK c i g l s t) (.inr "turn") (.int z) = tapeK c i g l s z := rfl
theorem PAt.put {k : L2.Key} {v : V} {i' g' l' s' t' : Int} (p : PAt st c ns H i g l s t) (e : putK (tapeK c i g l s t) k v = tapeK c i' g' l' s' t') (q : ∀ H', PAt st c ns H' i' g' l' s' t' → Adv [st, c] H H' → N H') : kDPut (.ref st) (kV k) v H N := by
  refine kDPut_i p.e (by show 6 < 100000; decide) ?_
  rw [e]
  exact q _ (p.set i' g' l' s' t').1 (p.set i' g' l' s' t').2
end
def t__law_mixed  : TS := (tSeq (tAsg (tOp rModI (tCB rInt1 (tCons (tOp rAddI (tOp rAddI (tOp rMulI (tVar 0) (tC (.int 48271))) (tOp rMulI (tVar 1) (tC (.int 69621)))) (tC (.int 11))) tNil)) (tC (.int 2147483647))) (gName 2))
  (tSeq (tAsg (tOp rModI (tCB rInt1 (tCons (tOp rAddI (tOp rAddI (tOp rMulI (tVar 2) (tC (.int 16807))) (tOp rDivI (tVar 2) (tC (.int 127773)))) (tOp rMulI (tVar 1) (tC (.int 271)))) tNil)) (tC (.int 1000003))) (gName 3))
  (tRet (tOp rModI (tCB rInt1 (tCons (tOp rAddI (tOp rMulI (tVar 3) (tVar 3)) (tOp rDivI (tVar 2) (tC (.int 1009)))) tNil)) (tC (.int 999983))))))
def t__law_tape (K : PySem.W.Frag) : TS := (tRet (tDisp (((tC (.str "cells")), (tCB (rListOf K) (tCons (tVar 0) tNil))) :: (((tC (.str "at")), (tC (.int 0))) :: (((tC (.str "great")), (tC (.int 0))) :: (((tC (.str "left")), (tC (.int 0))) :: (((tC (.str "seed")), (tC (.int 7))) :: (((tC (.str "turn")), (tC (.int 0))) :: []))))))))
def t__law_draw (K : PySem.W.Frag) : TS := (tSeq (sDPut (tVar 0) (tC (.str "turn")) (tOp rAddI (tDGet (tVar 0) (tC (.str "turn"))) (tC (.int 1))))
  (tSeq (tIfS (tAnd (tTest (tOp rEq (tDGet (tVar 0) (tC (.str "left"))) (tC (.int 0)))) (tTest (tOp rLtI (tDGet (tVar 0) (tC (.str "at"))) (tCB (rLen1 K) (tCons (tDGet (tVar 0) (tC (.str "cells"))) tNil))))) (tSeq (tAsg (tOp (rIxL K) (tDGet (tVar 0) (tC (.str "cells"))) (tDGet (tVar 0) (tC (.str "at")))) (gName 2))
  (tSeq (sDPut (tVar 0) (tC (.str "at")) (tOp rAddI (tDGet (tVar 0) (tC (.str "at"))) (tC (.int 1))))
  (tSeq (sDPut (tVar 0) (tC (.str "seed")) (tCall (sp__law_mixed K) [] E0 (tCons (tOp rAddI (tDGet (tVar 0) (tC (.str "seed"))) (tVar 2)) (tCons (tDGet (tVar 0) (tC (.str "at"))) tNil))))
  (tSeq (sDPut (tVar 0) (tC (.str "left")) (tC (.int 4)))
  (tIfS (tTest (tOp rGeI (tVar 2) (tOp rPowI (tC (.int 10)) (tC (.int 18))))) (tSeq (sDPut (tVar 0) (tC (.str "great")) (tVar 2))
  (sDPut (tVar 0) (tC (.str "left")) (tC (.int 60)))) tNext))))) tNext)
  (tSeq (tIfS (tTest (tOp rGtI (tDGet (tVar 0) (tC (.str "left"))) (tC (.int 0)))) (sDPut (tVar 0) (tC (.str "left")) (tOp rSubI (tDGet (tVar 0) (tC (.str "left"))) (tC (.int 1)))) tNext)
  (tSeq (tIfS (tTest (tOp rEq (tDGet (tVar 0) (tC (.str "great"))) (tC (.int 0)))) (tRet (tOp rModI (tCB rInt1 (tCons (tCall (sp__law_mixed K) [] E0 (tCons (tDGet (tVar 0) (tC (.str "seed"))) (tCons (tDGet (tVar 0) (tC (.str "turn"))) tNil))) tNil)) (tVar 1))) tNext)
  (tSeq (tAsg (tOp rModI (tCB rInt1 (tCons (tDGet (tVar 0) (tC (.str "great"))) tNil)) (tC (.int 1009))) (gName 3))
  (tSeq (sDPut (tVar 0) (tC (.str "great")) (tOp rDivI (tDGet (tVar 0) (tC (.str "great"))) (tC (.int 1009))))
  (tSeq (tIfS (tOr (tTest (tOp rEq (tDGet (tVar 0) (tC (.str "great"))) (tC (.int 0)))) (tTest (tOp rEq (tDGet (tVar 0) (tC (.str "left"))) (tC (.int 0))))) (tSeq (sDPut (tVar 0) (tC (.str "great")) (tC (.int 0)))
  (sDPut (tVar 0) (tC (.str "left")) (tC (.int 0)))) tNext)
  (tRet (tOp rModI (tCB rInt1 (tCons (tVar 3) tNil)) (tVar 1))))))))))
theorem len__law_mixed {K : PySem.W.Frag} : ∀ (vs : List V) (H : Hp) (Q : VK) (E : XK), sp__law_mixed K vs H Q E → vs.length = 2 := fun vs H Q E h => by
  obtain ⟨_, _, rfl, _⟩ := h
  rfl
theorem pure__law_mixed {K : PySem.W.Frag} (vs : List V) (H : Hp) (Q : VK) (E : XK) (h : sp__law_mixed K vs H Q E) : t__law_mixed { nx := fun _ H' => Q .non H', rt := Q } (start ["number", "turn", "first", "second"] vs) H := by
  obtain ⟨a, b, rfl, q⟩ := h
  show t__law_mixed _ [some (.int a), some (.int b), none, none] H
  unfold t__law_mixed
  walk_at "aw"
  generalize h1 : (a * 48271 + b * 69621 + 11) % 2147483647 = one
  have o0 : 0 ≤ one ∧ one < 2147483647 := by rw [← h1]; omega
  refine w_I ⟨by decide, by decide⟩ ?_
  walk_at "aw"
  generalize h2 : (one * 16807 + one / 127773 + b * 271) % 1000003 = two
  have o2 : 0 ≤ two ∧ two < 1000003 := by rw [← h2]; omega
  walk_at "aw"
  refine w_I (.inl ⟨by omega, by omega⟩) ?_
  walk_at "aw"
  refine w_I ⟨by decide, by decide⟩ ?_
  walk_at "aw"
  exact q _ (Int.emod_nonneg _ (by decide)) (Int.emod_lt_of_pos _ (by decide))
theorem len__law_tape {K : PySem.W.Frag} : ∀ (vs : List V) (H : Hp) (Q : VK) (E : XK), sp__law_tape K vs H Q E → vs.length = 1 := fun vs H Q E h => by
  obtain ⟨_, _, rfl, _⟩ := h
  rfl
theorem pure__law_tape {K : PySem.W.Frag} (vs : List V) (H : Hp) (Q : VK) (E : XK) (h : sp__law_tape K vs H Q E) : t__law_tape K { nx := fun _ H' => Q .non H', rt := Q } (start ["script"] vs) H := by
  obtain ⟨a, ns, rfl, hs, hl, q⟩ := h
  show t__law_tape K _ [some (.ref a)] H
  unfold t__law_tape
  walk_at "aw"
  intro st nst
  have a0 : Adv [] H (upd H st (.dK [])) := Adv.new nst
  refine w_c ?_
  refine w_cb ?_
  refine w_cons ?_
  refine w_var (v := .ref a) rfl ?_
  refine w_nil ?_
  refine w_listOf (.inl (a0.sql (fun z => nomatch z) hs)) fun c H1 nc a1 ec => ?_
  have e1 := a1.keep st _ (fun z => nomatch z) (upd_same (H := H) (o := .dK []))
  have ne : c ≠ st := fun z => by rw [z, upd_same] at nc; exact nomatch nc
  iterate 10 (refine w_c ?_)
  refine ⟨e1, tapeK c 0 0 0 7 0, rfl, by show 6 ≤ 15; decide, ?_⟩
  rw [show mergeK [] (tapeK c 0 0 0 7 0) = tapeK c 0 0 0 7 0 from rfl]
  refine q st (c, c) _ ⟨0, 0, 0, 7, 0, ns, upd_same, by rw [upd_ne ne]; exact ec, hl, ne, rfl, by decide⟩ ?_ nst
  exact (a0.trans a1).mut nst e1 (fun _ z => by cases z)
theorem len__law_draw {K : PySem.W.Frag} : ∀ (vs : List V) (H : Hp) (Q : VK) (E : XK), sp__law_draw K vs H Q E → vs.length = 2 := fun vs H Q E h => by
  obtain ⟨_, _, rfl, _⟩ := h
  rfl
theorem pure__law_draw {K : PySem.W.Frag} (vs : List V) (H : Hp) (Q : VK) (E : XK) (h : sp__law_draw K vs H Q E) : t__law_draw K { nx := fun _ H' => Q .non H', rt := Q } (start ["tape", "many", "cell", "digit"] vs) H := by
  obtain ⟨st, lim, rfl, ⟨c, c2⟩, ⟨i, g, l, s, t, ns, e, ec, hl, ne, e2, hi⟩, h0, h1, q⟩ := h
  dsimp only at e ec ne e2
  have e3 := e2.symm
  subst e3
  have P : PAt st c ns H i g l s t := ⟨e, ec, hl, ne⟩
  show t__law_draw K _ [some (.ref st), some (.int lim), none, none] H
  unfold t__law_draw
  have fin : ∀ (H' : Hp) (i g l s t n : Int), PAt st c ns H' i g l s t → Adv [st, c] H H' → 0 ≤ i → Q (.int (n % lim)) H' := fun H' i g l s t n p a hi => q _ _ (Int.emod_nonneg _ (by omega)) (Int.emod_lt_of_pos _ h0) ⟨a, p.ok hi⟩
  have tail2 : ∀ (H' : Hp) (y2 y3 : Option V) (i g l s t : Int), PAt st c ns H' i g l s t → Adv [st, c] H H' → 0 ≤ i → (tSeq (tIfS (tTest (tOp rEq (tDGet (tVar 0) (tC (.str "great"))) (tC (.int 0)))) (tRet (tOp rModI (tCB rInt1 (tCons (tCall (sp__law_mixed K) [] E0 (tCons (tDGet (tVar 0) (tC (.str "seed"))) (tCons (tDGet (tVar 0) (tC (.str "turn"))) tNil))) tNil)) (tVar 1))) tNext)
  (tSeq (tAsg (tOp rModI (tCB rInt1 (tCons (tDGet (tVar 0) (tC (.str "great"))) tNil)) (tC (.int 1009))) (gName 3))
  (tSeq (sDPut (tVar 0) (tC (.str "great")) (tOp rDivI (tDGet (tVar 0) (tC (.str "great"))) (tC (.int 1009))))
  (tSeq (tIfS (tOr (tTest (tOp rEq (tDGet (tVar 0) (tC (.str "great"))) (tC (.int 0)))) (tTest (tOp rEq (tDGet (tVar 0) (tC (.str "left"))) (tC (.int 0))))) (tSeq (sDPut (tVar 0) (tC (.str "great")) (tC (.int 0)))
  (sDPut (tVar 0) (tC (.str "left")) (tC (.int 0)))) tNext)
  (tRet (tOp rModI (tCB rInt1 (tCons (tVar 3) tNil)) (tVar 1))))))) { nx := fun _ H' => Q .non H', rt := Q } [some (.ref st), some (.int lim), y2, y3] H' := fun H' y2 y3 i g l s t p a hi => by
    walk_at "aw"
    refine p.get tp_great ?_
    walk_at "aw"
    refine w_iteB (fun _ => ?_) fun _ => ?_
    · walk_at "aw"
      refine p.get tp_seed ?_
      walk_at "aw"
      refine p.get tp_turn ?_
      walk_at "aw"
      refine ⟨_, _, rfl, fun n n0 n1 => ?_⟩
      walk_at "aw"
      exact fin _ i g l s t _ p a hi
    walk_at "aw"
    refine p.get tp_great ?_
    walk_at "aw"
    refine p.get tp_great ?_
    walk_at "aw"
    refine w_I ⟨by decide, by decide⟩ ?_
    walk_at "aw"
    refine p.put tq_great fun H2 p2 a2 => ?_
    walk_at "aw"
    refine p2.get tp_great ?_
    walk_at "aw"
    refine w_iteB (fun _ => ?_) fun _ => ?_
    · walk_at "aw"
      refine p2.put tq_great fun H3 p3 a3 => ?_
      walk_at "aw"
      refine p3.put tq_left fun H4 p4 a4 => ?_
      walk_at "aw"
      exact fin _ _ _ _ _ _ _ p4 (a.trans (a2.trans (a3.trans a4))) hi
    · walk_at "aw"
      refine p2.get tp_left ?_
      walk_at "aw"
      refine w_iteB (fun _ => ?_) fun _ => ?_
      · walk_at "aw"
        refine p2.put tq_great fun H3 p3 a3 => ?_
        walk_at "aw"
        refine p3.put tq_left fun H4 p4 a4 => ?_
        walk_at "aw"
        exact fin _ _ _ _ _ _ _ p4 (a.trans (a2.trans (a3.trans a4))) hi
      · walk_at "aw"
        exact fin _ _ _ _ _ _ _ p2 (a.trans a2) hi
  have tail1 : ∀ (H' : Hp) (y2 y3 : Option V) (i g l s t : Int), PAt st c ns H' i g l s t → Adv [st, c] H H' → 0 ≤ i → (tSeq (tIfS (tTest (tOp rGtI (tDGet (tVar 0) (tC (.str "left"))) (tC (.int 0)))) (sDPut (tVar 0) (tC (.str "left")) (tOp rSubI (tDGet (tVar 0) (tC (.str "left"))) (tC (.int 1)))) tNext)
  (tSeq (tIfS (tTest (tOp rEq (tDGet (tVar 0) (tC (.str "great"))) (tC (.int 0)))) (tRet (tOp rModI (tCB rInt1 (tCons (tCall (sp__law_mixed K) [] E0 (tCons (tDGet (tVar 0) (tC (.str "seed"))) (tCons (tDGet (tVar 0) (tC (.str "turn"))) tNil))) tNil)) (tVar 1))) tNext)
  (tSeq (tAsg (tOp rModI (tCB rInt1 (tCons (tDGet (tVar 0) (tC (.str "great"))) tNil)) (tC (.int 1009))) (gName 3))
  (tSeq (sDPut (tVar 0) (tC (.str "great")) (tOp rDivI (tDGet (tVar 0) (tC (.str "great"))) (tC (.int 1009))))
  (tSeq (tIfS (tOr (tTest (tOp rEq (tDGet (tVar 0) (tC (.str "great"))) (tC (.int 0)))) (tTest (tOp rEq (tDGet (tVar 0) (tC (.str "left"))) (tC (.int 0))))) (tSeq (sDPut (tVar 0) (tC (.str "great")) (tC (.int 0)))
  (sDPut (tVar 0) (tC (.str "left")) (tC (.int 0)))) tNext)
  (tRet (tOp rModI (tCB rInt1 (tCons (tVar 3) tNil)) (tVar 1)))))))) { nx := fun _ H' => Q .non H', rt := Q } [some (.ref st), some (.int lim), y2, y3] H' := fun H' y2 y3 i g l s t p a hi => by
    walk_at "aw"
    refine p.get tp_left ?_
    walk_at "aw"
    refine w_iteB (fun _ => ?_) fun _ => ?_
    · walk_at "aw"
      refine p.get tp_left ?_
      walk_at "aw"
      refine p.put tq_left fun H2 p2 a2 => ?_
      exact tail2 _ _ _ _ _ _ _ _ p2 (a.trans a2) hi
    · with_reducible refine w_next ?_
      exact tail2 _ _ _ _ _ _ _ _ p a hi
  walk_at "aw"
  refine P.get tp_turn ?_
  walk_at "aw"
  refine P.put tq_turn fun H2 p2 a2 => ?_
  with_reducible refine w_seq ?_
  walk_at "aw"
  refine p2.get tp_left ?_
  walk_at "aw"
  refine w_iteB (fun _ => ?_) fun _ => ?_
  case refine_2 =>
    with_reducible refine iteF ?_
    with_reducible refine w_next ?_
    exact tail1 _ _ _ _ _ _ _ _ p2 a2 hi
  walk_at "aw"
  refine p2.get tp_at ?_
  walk_at "aw"
  refine p2.get tp_cells ?_
  walk_at "aw"
  refine w_lenL (SqL.of p2.ec) ?_
  rw [List.length_map]
  walk_at "aw"
  refine w_iteB (fun hin => ?_) fun _ => ?_
  case refine_2 =>
    with_reducible refine w_next ?_
    exact tail1 _ _ _ _ _ _ _ _ p2 a2 hi
  walk_at "aw"
  refine p2.get tp_cells ?_
  walk_at "aw"
  refine p2.get tp_at ?_
  have hit : i.toNat < ns.length := by omega
  refine w_ixL (SqL.of p2.ec) (v := .int ns[i.toNat]) (at_of (j := i.toNat) (by omega) (by rw [List.getElem?_map, List.getElem?_eq_getElem hit]; rfl)) ?_
  walk_at "aw"
  refine p2.get tp_at ?_
  walk_at "aw"
  refine p2.put tq_at fun H3 p3 a3 => ?_
  walk_at "aw"
  refine p3.get tp_seed ?_
  walk_at "aw"
  refine p3.get tp_at ?_
  walk_at "aw"
  refine ⟨_, _, rfl, fun n n0 n1 => ?_⟩
  walk_at "aw"
  refine p3.put tq_seed fun H4 p4 a4 => ?_
  walk_at "aw"
  refine p4.put tq_left fun H5 p5 a5 => ?_
  have a25 := a2.trans (a3.trans (a4.trans a5))
  walk_at "aw"
  refine w_iteB (fun hc => ?_) fun _ => ?_
  · walk_at "aw"
    refine p5.put tq_great fun H6 p6 a6 => ?_
    walk_at "aw"
    refine p6.put tq_left fun H7 p7 a7 => ?_
    exact tail1 _ _ _ _ _ _ _ _ p7 (a25.trans (a6.trans a7)) (by omega)
  · with_reducible refine w_next ?_
    exact tail1 _ _ _ _ _ _ _ _ p5 a25 (by omega)
end AW
namespace AW
open PySem PySem.Spec PyProof.Rows L2 RZ
open StX
local macro_rules | `(tactic| walk_at "aw1") => `(tactic| first
  | (with_reducible refine w_seq ?_) | (with_reducible refine w_asg ?_) | (with_reducible refine w_gname ?_) | (with_reducible refine w_op ?_) | (with_reducible refine w_un ?_)
  | ((with_reducible refine' w_var ?h ?_); (case h => rfl)) | (with_reducible refine w_c ?_)
  | (with_reducible refine w_I0 ?_) | (with_reducible refine w_U ?_) | (with_reducible refine w_cb ?_) | (with_reducible refine w_nil ?_) | (with_reducible refine w_cons ?_) | (with_reducible refine w_call ?_)
  | (with_reducible refine w_test ?_) | (with_reducible refine w_B ?_) | (with_reducible refine w_bl ?_) | (with_reducible refine w_not ?_) | (with_reducible refine w_yes ?_) | (with_reducible refine iteT ?_) | (with_reducible refine iteF ?_) | (with_reducible refine w_and ?_) | (with_reducible refine w_or ?_)
  | (with_reducible refine w_andV ?_) | (with_reducible refine w_orV ?_) | (with_reducible refine w_notV ?_) | (with_reducible refine w_if ?_)
  | (with_reducible refine w_int1 ?_) | (with_reducible refine w_int1b ?_) | (with_reducible refine w_abs ?_) | (with_reducible refine w_max2 ?_) | (with_reducible refine w_min2 ?_)
  | ((with_reducible refine w_eq ?h ?_); (case h => rfl)) | ((with_reducible refine w_ne ?h ?_); (case h => rfl)) | (with_reducible refine w_isN ?_) | (with_reducible refine w_isB ?_) | (with_reducible refine w_chain ?_)
  | (with_reducible refine w_ret ?_) | (with_reducible refine w_drop ?_) | (with_reducible refine w_ifS ?_) | (with_reducible refine w_gsub ?_) | (with_reducible refine w_augS ?_) | (with_reducible refine w_ipI ?_) | (with_reducible refine w_next ?_)
  | (with_reducible refine w_forR ?_) | (with_reducible refine w_forR2 ?_) | (with_reducible refine w_forL ?_) | (with_reducible refine w_forT ?_) | (with_reducible refine w_lcR ?_) | (with_reducible refine w_lcL ?_) | (with_reducible refine w_lcT ?_) | (with_reducible refine w_sl ?_) | (with_reducible refine w_part ?_) | (with_reducible refine w_noPart ?_) | (with_reducible refine w_in ?_)
  | (with_reducible refine w_gcons ?_) | (with_reducible refine w_gnil ?_) | (with_reducible refine w_lc3 ?_) | (with_reducible refine w_dcZ ?_) | (with_reducible refine w_dcT ?_) | (with_reducible refine w_dg ?_) | (with_reducible refine w_callK ?_) | (with_reducible refine w_dput ?_) | (with_reducible refine w_tup1 ?_)
  | (with_reducible refine w_tup ?_) | (with_reducible refine w_lst ?_)
  | ((with_reducible refine w_I ?h ?_); (case h => first | (exact Or.inr ⟨by decide, by decide⟩) | (exact Or.inl ⟨by decide, by decide⟩) | (show (0 : Int) < _; decide) | (exact ⟨by decide, by decide, by decide⟩) | assumption)))
local macro_rules | `(tactic| walk_at "aw") => `(tactic| repeat (walk_at "aw1"))
def allN : List Str := ["a", "b", "x", "y", "z", "n1", "u.0", "q.q.q", "7", "0a", ".", "v..", "wwwwwwwwwwwwwwwwwwwwwwww", "abcdefghijkl.nopqrstuvwx", "s", "t", "web", "r.1", "m.2.3", "k9"]
theorem allN_ok : allN.Nodup ∧ ∀ x ∈ allN, x.cps.all (· < 0x110000) = true ∧ x.length ≤ 24 ∧ 0 < x.length := by unfold allN; decide +kernel
def sp__law_names (_ : PySem.W.Frag) : Sp := fun vs H Q _ => ∃ (st : Addr) (n : Nat), vs = [.ref st, .int (n : Nat)] ∧ ∃ cs, StOk st cs H ∧ n ≤ 20 ∧ ∀ l (names : List Str) H', Go st cs H H' → H l = none → H' l = some (.lst (names.map V.str)) → names.length = n → names.Nodup → (∀ x ∈ names, x ∈ allN) → Q (.ref l) H'
def sp__law_some (K : PySem.W.Frag) : Sp := fun vs H Q _ => ∃ (st p : Addr) (a b : Nat), vs = [.ref st, .ref p, .int (a : Nat), .int (b : Nat)] ∧ ∃ cs xs, StOk st cs H ∧ (SqL K H p xs ∨ SqT K H p xs) ∧ a ≤ b ∧ a ≤ xs.length ∧ b ≤ 1000 ∧ xs.length ≤ 1000 ∧ ∀ l made left H', Go st cs H H' → H l = none → H' l = some (.lst made) → (made ++ left).Perm xs → a ≤ made.length → made.length ≤ b → Q (.ref l) H'
structure DomOk (w : Nat) (fl : List Int) : Prop where
  l1 : 1 ≤ fl.length
  l2 : fl.length ≤ w
  asc : fl.Pairwise (· < ·)
  bd : ∀ x ∈ fl, -200 ≤ x ∧ x ≤ 200 ∧ x ≤ 188 + 2 * (w : Int)
def sp__law_domain (_ : PySem.W.Frag) : Sp := fun vs H Q _ => ∃ (st : Addr) (n : Nat), vs = [.ref st, .int (n : Nat)] ∧ ∃ cs, StOk st cs H ∧ 1 ≤ n ∧ n ≤ 12 ∧ ∀ t (fl : List Int) H', Go st cs H H' → H' t = some (.tup (fl.map V.int)) → DomOk n fl → Q (.ref t) H'
/-- pairs of a name and its domain -/
def UnkAt (H : Hp) (us : List V) (doms : List (Str × List Int)) : Prop := us.length = doms.length ∧ ∀ (i : Nat) u, us[i]? = some u → ∃ p q d, u = .ref p ∧ doms[i]? = some d ∧ H p = some (.tup [.str d.1, .ref q]) ∧ H q = some (.tup (d.2.map V.int))
theorem UnkAt.up {H H' : Hp} {us : List V} {doms : List (Str × List Int)} (h : UnkAt H us doms) (k : TK H H') : UnkAt H' us doms := ⟨h.1, fun i u e => by
  obtain ⟨p, q, d, h1, h2, h3, h4⟩ := h.2 i u e
  exact ⟨p, q, d, h1, h2, k _ _ h3, k _ _ h4⟩⟩
structure MdlOk (w : Nat) (doms : List (Str × List Int)) : Prop where
  nd : (doms.map (·.1)).Nodup
  nm : ∀ x ∈ doms.map (·.1), okS x ∧ x.length ≤ 24
  dm : ∀ d ∈ doms, DomOk w d.2
def sp__law_unknowns (_ : PySem.W.Frag) : Sp := fun vs H Q _ => ∃ (st : Addr) (a b w : Nat), vs = [.ref st, .int (a : Nat), .int (b : Nat), .int (w : Nat)] ∧ ∃ cs, StOk st cs H ∧ 1 ≤ a ∧ a ≤ b ∧ b ≤ 12 ∧ 1 ≤ w ∧ w ≤ 12 ∧ ∀ t us doms H', Go st cs H H' → H' t = some (.tup us) → UnkAt H' us doms → MdlOk w doms → a ≤ doms.length → doms.length ≤ b → Q (.ref t) H'
theorem perm_map_inv {α β : Type} {f : α → β} {l m : List β} (h : l.Perm m) : ∀ {xs : List α}, m = xs.map f → ∃ ys : List α, ys.Perm xs ∧ l = ys.map f := by
  induction h with
  | nil => intro xs e; exact ⟨[], by rw [List.map_eq_nil_iff.mp e.symm], rfl⟩
  | cons x h ih =>
    intro xs e
    cases xs with
    | nil => cases e
    | cons a xs =>
      rw [List.map_cons, List.cons.injEq] at e
      obtain ⟨ys, h1, h2⟩ := ih e.2
      exact ⟨a :: ys, h1.cons _, by rw [List.map_cons, h2, e.1]⟩
  | swap x y l =>
    intro xs e
    match xs, e with
    | [], e => cases e
    | [a], e => cases e
    | a :: b :: xs, e =>
      rw [List.map_cons, List.map_cons, List.cons.injEq, List.cons.injEq] at e
      exact ⟨b :: a :: xs, .swap .., by rw [List.map_cons, List.map_cons, e.1, e.2.1, e.2.2]⟩
  | trans h1 h2 ih1 ih2 =>
    intro xs e
    obtain ⟨ys, a1, b1⟩ := ih2 e
    obtain ⟨zs, a2, b2⟩ := ih1 b1
    exact ⟨zs, a2.trans a1, b2⟩
theorem perm_erase {α : Type} {xs : List α} {i : Nat} {v : α} (h : xs[i]? = some v) : ([v] ++ xs.eraseIdx i).Perm xs := by
  induction xs generalizing i with
  | nil => simp at h
  | cons a xs ih =>
    cases i with
    | zero => cases h; exact .refl _
    | succ i =>
      rw [List.eraseIdx_cons_succ]
      exact (List.Perm.swap ..).trans ((ih (by simpa using h)).cons a)
theorem w_draw {K : PySem.W.Frag} {st : Addr} {cs : Addr × Addr} {lim : Int} {H : Hp} {Q : VK} {E : XK} (ok : StOk st cs H) (h1 : 0 < lim) (h2 : lim < 1073741824) (q : ∀ n H', 0 ≤ n → n < lim → Go st cs H H' → Q (.int n) H') : sp__law_draw K [.ref st, .int lim] H Q E := ⟨st, lim, rfl, cs, ok, h1, h2, q⟩
theorem ixN_at' {n j : Nat} (h : j < n) : ixN n ((j : Nat) : Int) = some j := by
  unfold ixN
  rw [if_pos (by omega), if_pos (by omega)]
  rfl
theorem w_catB {a b : Addr} {xs ys : List V} {H : Hp} {Q : VK} (h1 : H a = some (.lst xs)) (h2 : H b = some (.lst ys)) (hz : xs.length + ys.length ≤ 16777216) (q : ∀ r H', H r = none → Adv [] H H' → H' r = some (.lst (xs ++ ys)) → Q (.ref r) H') : rCat (.ref a) (.ref b) H Q :=
  ⟨a, b, xs, ys, rfl, rfl, h1, h2, by rw [sizeLine_eq]; omega, w_new q⟩
/-- one of a list of values, the list made for it -/
theorem w_ofL {K : PySem.W.Frag} {st : Addr} {cs : Addr × Addr} {xs : List V} {σ : L2.St} {H : Hp} {Q : VK} {m : Int} (ok : StOk st cs H) (hσ : σ[0]? = some (some (.ref st))) (hm : m = (xs.length : Nat)) (h0 : 0 < xs.length) (h1 : xs.length < 1000) (q : ∀ v ∈ xs, ∀ H', Go st cs H H' → Q v H') :
    kLstD xs H fun x H1 => tCall (sp__law_draw K) [] E0 (tCons (tVar 0) (tCons (tC (.int m)) tNil)) σ H1 fun y H2 => rIxL K x y H2 Q := by
  refine w_lstD (by omega) fun l H1 nl a1 el => ?_
  have g1 := Go.of ok a1
  refine ⟨_, hσ, ?_⟩
  show sp__law_draw K [.ref st, .int m] H1 (fun y H2 => rIxL K (.ref l) y H2 Q) E0
  refine w_draw (lim := m) g1.ok (by omega) (by omega) fun n H2 n0 n1 g2 => ?_
  exact w_ixL (SqL.of (g2.keep (ok.ne nl).1 el)) (v := xs[n.toNat]'(by omega)) (at_nat n0 (List.getElem?_eq_getElem (by omega))) (q _ (List.getElem_mem _) _ (g1.trans g2))
theorem filt_get (P : Int → Bool) (xs : List Int) : ((List.range xs.length).filter fun i => P (xs.getD i 0)).map (fun i => V.int (xs.getD i 0)) = (xs.filter P).map V.int := by
  conv => rhs; rw [← range_getD xs 0]
  rw [List.filter_map, List.map_map]
  rfl
theorem w_slTo {K : PySem.W.Frag} {p : Addr} {xs : List V} {n : Int} {H : Hp} {Q : VK} (h : H p = some (.tup xs)) (h0 : 0 ≤ n) (q : ∀ t H', Adv [] H H' → H' t = some (.tup (xs.take n.toNat)) → Q (.ref t) H') : rSlA K (.ref p) none (some n) H Q := by
  refine ⟨p, xs, rfl, SqT.of h, fun z => q p H (.refl _ _) ?_, fun _ => w_new fun r H' _ a e => q r H' a (by rw [← cut_to xs h0]; exact e)⟩
  rw [h, ← cut_to xs h0]
  unfold cutV
  rw [z.1, z.2]
  simp
def t__law_names (K : PySem.W.Frag) : TS := (tSeq (tAsg (tLst (tCons (tC (.str "a")) (tCons (tC (.str "b")) (tCons (tC (.str "x")) (tCons (tC (.str "y")) (tCons (tC (.str "z")) (tCons (tC (.str "n1")) (tCons (tC (.str "u.0")) (tCons (tC (.str "q.q.q")) (tCons (tC (.str "7")) (tCons (tC (.str "0a")) (tCons (tC (.str ".")) (tCons (tC (.str "v..")) (tCons (tC (.str "wwwwwwwwwwwwwwwwwwwwwwww")) tNil)))))))))))))) (gName 2))
  (tSeq (tAsg (tOp rCat (tVar 2) (tLst (tCons (tC (.str "abcdefghijkl.nopqrstuvwx")) (tCons (tC (.str "s")) (tCons (tC (.str "t")) (tCons (tC (.str "web")) (tCons (tC (.str "r.1")) (tCons (tC (.str "m.2.3")) (tCons (tC (.str "k9")) tNil))))))))) (gName 2))
  (tRet (tLc (iRng1 (tCons (tVar 1) tNil)) (gName 3) tYes (tBM K "list" rPopAt (tVar 2) (tCons (tCall (sp__law_draw K) [] E0 (tCons (tVar 0) (tCons (tCB (rLen1 K) (tCons (tVar 2) tNil)) tNil))) tNil)) [3]))))
def t__law_some (K : PySem.W.Frag) : TS := (tSeq (tAsg (tCB (rListOfA K) (tCons (tVar 1) tNil)) (gName 4))
  (tSeq (tAsg (tOp rAddI (tVar 2) (tCall (sp__law_draw K) [] E0 (tCons (tVar 0) (tCons (tCB rMax2 (tCons (tC (.int 1)) (tCons (tOp rAddI (tOp rSubI (tCB rMin2 (tCons (tVar 3) (tCons (tCB (rLen1 K) (tCons (tVar 4) tNil)) tNil))) (tVar 2)) (tC (.int 1))) tNil))) tNil)))) (gName 5))
  (tRet (tLc (iRng1 (tCons (tVar 5) tNil)) (gName 6) tYes (tBM K "list" rPopAt (tVar 4) (tCons (tCall (sp__law_draw K) [] E0 (tCons (tVar 0) (tCons (tCB (rLen1 K) (tCons (tVar 4) tNil)) tNil))) tNil)) [6]))))
def t__law_domain (K : PySem.W.Frag) : TS := (tSeq (tAsg (tCB rMin2 (tCons (tVar 1) (tCons (tOp rAddI (tC (.int 1)) (tCall (sp__law_draw K) [] E0 (tCons (tVar 0) (tCons (tOp rAddI (tVar 1) (tC (.int 1))) tNil)))) tNil))) (gName 2))
  (tSeq (tAsg (tOp (rIxL K) (tLst (tCons (tC (.int 0)) (tCons (tC (.int 0)) (tCons (tUn rNeg (tC (.int 1))) (tCons (tC (.int 1)) (tCons (tUn rNeg (tC (.int 2))) (tCons (tUn rNeg (tC (.int 200))) (tCons (tC (.int 190)) tNil)))))))) (tCall (sp__law_draw K) [] E0 (tCons (tVar 0) (tCons (tC (.int 7)) tNil)))) (gName 3))
  (tSeq (tAsg (tLst (tCons (tVar 3) tNil)) (gName 4))
  (tSeq (tFor (iRng1 (tCons (tOp rSubI (tVar 2) (tC (.int 1))) tNil)) (gName 5)
  (tDrop (tBM K "list" rAppend (tVar 4) (tCons (tOp rAddI (tOp (rIxL K) (tVar 4) (tUn rNeg (tC (.int 1)))) (tOp (rIxL K) (tLst (tCons (tC (.int 1)) (tCons (tC (.int 1)) (tCons (tC (.int 1)) (tCons (tC (.int 2)) tNil))))) (tCall (sp__law_draw K) [] E0 (tCons (tVar 0) (tCons (tC (.int 4)) tNil))))) tNil))))
  (tRet (tThen (tLc (iList K (tVar 4)) (gName 6) (tTest (tOp rLeI (tVar 6) (tC (.int 200)))) (tVar 6) [6]) (kTup K)))))))
def t__law_unknowns (K : PySem.W.Frag) : TS := (tSeq (tAsg (tCall (sp__law_names K) [] E0 (tCons (tVar 0) (tCons (tC (.int 12)) tNil))) (gName 4))
  (tSeq (tAsg (tLst tNil) (gName 5))
  (tSeq (tAsg (tC (.int 1)) (gName 6))
  (tSeq (tFor (iRng1 (tCons (tOp rAddI (tVar 1) (tCall (sp__law_draw K) [] E0 (tCons (tVar 0) (tCons (tOp rAddI (tOp rSubI (tVar 2) (tVar 1)) (tC (.int 1))) tNil)))) tNil)) (gName 7)
  (tSeq (tAsg (tCall (sp__law_domain K) [] E0 (tCons (tVar 0) (tCons (tVar 3) tNil))) (gName 8))
  (tSeq (tAsg (tSl (rSlA K) (tVar 8) tNoPart (tPart (tCB rMax2 (tCons (tC (.int 1)) (tCons (tOp rDivI (tC (.int 100)) (tVar 6)) tNil))))) (gName 8))
  (tSeq (tAsg (tOp rMulI (tVar 6) (tCB (rLen1 K) (tCons (tVar 8) tNil))) (gName 6))
  (tDrop (tBM K "list" rAppend (tVar 5) (tCons (tTup (tCons (tOp (rIxL K) (tVar 4) (tVar 7)) (tCons (tVar 8) tNil))) tNil)))))))
  (tRet (tThen (tVar 5) (kTup K)))))))
theorem len__law_names {K : PySem.W.Frag} : ∀ (vs : List V) (H : Hp) (Q : VK) (E : XK), sp__law_names K vs H Q E → vs.length = 2 := fun vs H Q E h => by
  obtain ⟨_, _, rfl, _⟩ := h
  rfl
theorem pure__law_names {K : PySem.W.Frag} (vs : List V) (H : Hp) (Q : VK) (E : XK) (h : sp__law_names K vs H Q E) : t__law_names K { nx := fun _ H' => Q .non H', rt := Q } (start ["tape", "many", "left", "k"] vs) H := by
  obtain ⟨st, n, rfl, cs, ok, hn, q⟩ := h
  show t__law_names K _ [some (.ref st), some (.int (n : Nat)), none, none] H
  unfold t__law_names
  walk_at "aw"
  refine w_lstD (by simp) fun l1 H1 nl1 a1 el1 => ?_
  walk_at "aw"
  refine w_lstD (by simp) fun l2 H2 nl2 a2 el2 => ?_
  refine w_catB (a2.keep _ _ (fun z => nomatch z) el1) el2 (by simp) fun l H3 nl3 a3 el => ?_
  have a13 := a1.trans (a2.trans a3)
  have nl : H l = none := a1.free (fun z => nomatch z) (a2.free (fun z => nomatch z) nl3)
  have el : H3 l = some (.lst (allN.map V.str)) := el
  have hal : (allN.map V.str).length = 20 := rfl
  walk_at "aw"
  refine ⟨(n : Nat), rfl, by omega, by omega, ?_⟩
  rw [show ((n : Nat) : Int).toNat = n by omega]
  intro D hD
  have nD0 : H D = none := (Go.of ok a13).free ok hD
  have nDst : Off D st cs := (ok.ne nD0).1
  have nlst : Off l st cs := (ok.ne nl).1
  have hlD : l ≠ D := ne_of_none el hD
  refine lc_it walk_range (fun i H' => i ≤ n ∧ Go st cs H H' ∧ ∃ made left, H' D = some (.lst made) ∧ H' l = some (.lst left) ∧ made.length = i ∧ (made ++ left).Perm (allN.map V.str)) ⟨Nat.zero_le _, (Go.of ok a13).new (Adv.new hD), [], (allN.map V.str), upd_same, by rw [upd_ne hlD]; exact el, rfl, .refl _⟩ (fun i H' _ _ => trivial) (fun i x H' H'' hi pp y => ?_) fun H' pp => ?_
  · obtain ⟨hi', g, made, left, e1, e2, hm, hperm⟩ := pp
    obtain ⟨rfl, rfl⟩ := y
    have hll : left.length = ((allN.map V.str)).length - i := by
      have := hperm.length_eq
      rw [List.length_append] at this
      omega
    walk_at "aw"
    refine ⟨rfl, ?_⟩
    walk_at "aw"
    refine w_popAt rfl e2 ?_
    walk_at "aw"
    refine w_lenL (SqL.of e2) ?_
    walk_at "aw"
    refine w_draw g.ok (by omega) (by omega) fun n H3 n0 n1 g3 => ?_
    walk_at "aw"
    obtain ⟨v, hv⟩ := get_some (xs := left) (i := n.toNat) (by omega)
    have e13 := g3.keep nDst e1
    have e23 := g3.keep nlst e2
    have hsx : seqIndex? n left.length = some n.toNat := (ixN_seq (by
      have := ixN_at' (n := left.length) (j := n.toNat) (by omega)
      rw [show ((n.toNat : Nat) : Int) = n by omega] at this
      exact this)).1
    refine ⟨l, left, n, n.toNat, v, rfl, rfl, e23, by omega, by omega, hsx, hv, ?_⟩
    have e14 : (upd H3 l (.lst (left.eraseIdx n.toNat))) D = some (.lst made) := by rw [upd_ne hlD.symm]; exact e13
    have g4 := (g.trans g3).mutL (o := .lst (left.eraseIdx n.toNat)) ok nl e23
    refine ⟨made, e14, Nat.lt_of_lt_of_le (show made.length < 100001 by omega) (by decide), by omega, g4.mutL ok nD0 e14, made ++ [v], left.eraseIdx n.toNat, upd_same, by rw [upd_ne hlD, upd_same], by rw [List.length_append, hm]; rfl, ?_⟩
    refine List.Perm.trans ?_ hperm
    rw [List.append_assoc]
    exact List.Perm.append_left made (perm_erase hv)
  · obtain ⟨_, g, made, left, e1, e2, hm, hperm⟩ := pp

    obtain ⟨ys, hys, e3⟩ := perm_map_inv hperm rfl
    have hml : made = (ys.take made.length).map V.str := by
      have := congrArg (List.take made.length) e3
      rwa [List.take_left, ← List.map_take] at this
    have hsub : ∀ x ∈ ys.take made.length, x ∈ allN := fun x hx => hys.subset (List.mem_of_mem_take hx)
    rw [hml] at e1
    refine q D (ys.take made.length) H' g nD0 e1 ?_ ((hys.nodup_iff.mpr allN_ok.1).sublist (List.take_sublist _ _)) hsub
    rw [← hm, ← List.length_map (f := V.str), ← hml]
theorem len__law_some {K : PySem.W.Frag} : ∀ (vs : List V) (H : Hp) (Q : VK) (E : XK), sp__law_some K vs H Q E → vs.length = 4 := fun vs H Q E h => by
  obtain ⟨_, _, _, _, rfl, _⟩ := h
  rfl
theorem pure__law_some {K : PySem.W.Frag} (vs : List V) (H : Hp) (Q : VK) (E : XK) (h : sp__law_some K vs H Q E) : t__law_some K { nx := fun _ H' => Q .non H', rt := Q } (start ["tape", "unknowns", "least", "most", "left", "many", "k"] vs) H := by
  obtain ⟨st, p, a, b, rfl, cs, xs, ok, hp, hab, hax, hb, hx, q⟩ := h
  show t__law_some K _ [some (.ref st), some (.ref p), some (.int (a : Nat)), some (.int (b : Nat)), none, none, none] H
  unfold t__law_some
  walk_at "aw"
  refine w_listOfL hp fun l H1 nl a1 el1 => ?_
  have g1 := Go.of ok a1
  walk_at "aw"
  refine w_lenL (SqL.of el1) ?_
  walk_at "aw"
  refine w_draw g1.ok (by omega) (by omega) fun z H2 z0 z1 g2 => ?_
  have g12 := g1.trans g2
  have el := g2.keep (ok.ne nl).1 el1
  obtain ⟨m, hm, hma, hmb, hmx⟩ : ∃ m : Nat, (a : Int) + z = (m : Int) ∧ a ≤ m ∧ m ≤ b ∧ m ≤ xs.length := ⟨a + z.toNat, by omega, by omega, by omega, by omega⟩
  walk_at "aw"
  rw [hm]
  refine ⟨(m : Nat), rfl, by omega, by omega, ?_⟩
  rw [show ((m : Nat) : Int).toNat = m by omega]
  intro D hD
  have nD0 : H D = none := (g12).free ok hD
  have nDst : Off D st cs := (ok.ne nD0).1
  have nlst : Off l st cs := (ok.ne nl).1
  have hlD : l ≠ D := ne_of_none el hD
  refine lc_it walk_range (fun i H' => i ≤ m ∧ Go st cs H H' ∧ ∃ made left, H' D = some (.lst made) ∧ H' l = some (.lst left) ∧ made.length = i ∧ (made ++ left).Perm xs) ⟨Nat.zero_le _, (g12).new (Adv.new hD), [], xs, upd_same, by rw [upd_ne hlD]; exact el, rfl, .refl _⟩ (fun i H' _ _ => trivial) (fun i x H' H'' hi pp y => ?_) fun H' pp => ?_
  · obtain ⟨hi', g, made, left, e1, e2, hm, hperm⟩ := pp
    obtain ⟨rfl, rfl⟩ := y
    have hll : left.length = (xs).length - i := by
      have := hperm.length_eq
      rw [List.length_append] at this
      omega
    walk_at "aw"
    refine ⟨rfl, ?_⟩
    walk_at "aw"
    refine w_popAt rfl e2 ?_
    walk_at "aw"
    refine w_lenL (SqL.of e2) ?_
    walk_at "aw"
    refine w_draw g.ok (by omega) (by omega) fun n H3 n0 n1 g3 => ?_
    walk_at "aw"
    obtain ⟨v, hv⟩ := get_some (xs := left) (i := n.toNat) (by omega)
    have e13 := g3.keep nDst e1
    have e23 := g3.keep nlst e2
    have hsx : seqIndex? n left.length = some n.toNat := (ixN_seq (by
      have := ixN_at' (n := left.length) (j := n.toNat) (by omega)
      rw [show ((n.toNat : Nat) : Int) = n by omega] at this
      exact this)).1
    refine ⟨l, left, n, n.toNat, v, rfl, rfl, e23, by omega, by omega, hsx, hv, ?_⟩
    have e14 : (upd H3 l (.lst (left.eraseIdx n.toNat))) D = some (.lst made) := by rw [upd_ne hlD.symm]; exact e13
    have g4 := (g.trans g3).mutL (o := .lst (left.eraseIdx n.toNat)) ok nl e23
    refine ⟨made, e14, Nat.lt_of_lt_of_le (show made.length < 100001 by omega) (by decide), by omega, g4.mutL ok nD0 e14, made ++ [v], left.eraseIdx n.toNat, upd_same, by rw [upd_ne hlD, upd_same], by rw [List.length_append, hm]; rfl, ?_⟩
    refine List.Perm.trans ?_ hperm
    rw [List.append_assoc]
    exact List.Perm.append_left made (perm_erase hv)
  · obtain ⟨_, g, made, left, e1, e2, hm, hperm⟩ := pp

    exact q D made left H' g nD0 e1 hperm (by omega) (by omega)
theorem len__law_domain {K : PySem.W.Frag} : ∀ (vs : List V) (H : Hp) (Q : VK) (E : XK), sp__law_domain K vs H Q E → vs.length = 2 := fun vs H Q E h => by
  obtain ⟨_, _, rfl, _⟩ := h
  rfl
theorem pure__law_domain {K : PySem.W.Frag} (vs : List V) (H : Hp) (Q : VK) (E : XK) (h : sp__law_domain K vs H Q E) : t__law_domain K { nx := fun _ H' => Q .non H', rt := Q } (start ["tape", "most", "many", "value", "found", "k", "one"] vs) H := by
  obtain ⟨st, n, rfl, cs, ok, hn1, hn2, q⟩ := h
  show t__law_domain K _ [some (.ref st), some (.int (n : Nat)), none, none, none, none, none] H
  unfold t__law_domain
  walk_at "aw"
  refine w_draw ok (by omega) (by omega) fun z H1 z0 z1 g1 => ?_
  walk_at "aw"
  generalize hmm : (if 1 + z < (n : Int) then 1 + z else (n : Int)) = mz
  obtain ⟨m, rfl, hm1, hm2⟩ : ∃ m : Nat, mz = (m : Int) ∧ 1 ≤ m ∧ m ≤ n := by
    refine ⟨mz.toNat, ?_, ?_, ?_⟩ <;> · rw [← hmm]; split <;> omega
  clear hmm
  refine w_ofL (xs := [.int 0, .int 0, .int (-1), .int 1, .int (-2), .int (-200), .int 190]) g1.ok rfl rfl (by simp) (by simp) fun v hv H2 g2 => ?_
  obtain ⟨f, rfl, hf⟩ : ∃ f : Int, v = .int f ∧ -200 ≤ f ∧ f ≤ 190 := by
    simp only [List.mem_cons, List.not_mem_nil, or_false] at hv
    rcases hv with rfl | rfl | rfl | rfl | rfl | rfl | rfl <;> exact ⟨_, rfl, by decide, by decide⟩
  have g12 := g1.trans g2
  walk_at "aw"
  refine w_lstD (by simp) fun l H3 nl a3 el => ?_
  have nl0 := g12.free ok nl
  have nlst := (ok.ne nl0).1
  walk_at "aw"
  rw [show ((m : Nat) : Int) - 1 = ((m - 1 : Nat) : Int) by omega]
  refine kForR_i (n := m - 1) (by omega) (fun i σ' H' => ∃ (y5 : Option V) (fl : List Int), σ' = [some (.ref st), some (.int (n : Nat)), some (.int (m : Nat)), some (.int f), some (.ref l), y5, none] ∧ Go st cs H H' ∧ H' l = some (.lst (fl.map V.int)) ∧ fl.length = i + 1 ∧ fl[0]? = some f ∧ fl.Pairwise (· < ·) ∧ ∀ x ∈ fl, f ≤ x ∧ x ≤ f + 2 * (i : Int))
    ⟨_, [f], rfl, g12.new a3, el, rfl, rfl, List.pairwise_singleton _ _, fun x hx => by rw [List.mem_singleton.mp hx]; omega⟩ (fun i σ' H' hi pp => ?_) fun σ' H' pp => ?_
  · obtain ⟨y5, fl, rfl, g, el, hfl, hfz, hp, hb⟩ := pp
    walk_at "aw"
    refine w_app rfl el ?_
    walk_at "aw"
    have hlast : (fl.map V.int)[i]? = some (.int (fl.getD i 0)) := by
      rw [List.getElem?_map, List.getElem?_eq_getElem (show i < fl.length by omega), getD_of (List.getElem?_eq_getElem (show i < fl.length by omega))]
      rfl
    refine w_ixL (SqL.of el) (v := .int (fl.getD i 0)) ?_ ?_
    · unfold atI ixN
      rw [if_neg (by decide), if_pos (by rw [List.length_map]; omega), List.length_map, Option.bind_some, show (-1 + ((fl.length : Nat) : Int)).toNat = i by omega]
      exact hlast
    walk_at "aw"
    refine w_ofL (xs := [.int 1, .int 1, .int 1, .int 2]) g.ok rfl rfl (by simp) (by simp) fun s hs H3 g3 => ?_
    obtain ⟨s, rfl, hs2⟩ : ∃ t : Int, s = .int t ∧ 1 ≤ t ∧ t ≤ 2 := by
      simp only [List.mem_cons, List.not_mem_nil, or_false] at hs
      rcases hs with rfl | rfl | rfl | rfl <;> exact ⟨_, rfl, by decide, by decide⟩
    have el3 := g3.keep nlst el
    walk_at "aw"
    refine w_append el3 (by rw [List.length_map]; omega) ?_
    walk_at "aw"
    have hx : fl.getD i 0 ∈ fl := by
      rw [getD_of (List.getElem?_eq_getElem (show i < fl.length by omega))]
      exact List.getElem_mem _
    refine ⟨_, fl ++ [fl.getD i 0 + s], rfl, (g.trans g3).mutL ok nl0 el3, by rw [upd_same, List.map_append]; rfl, by rw [List.length_append, hfl]; rfl, by rw [List.getElem?_append_left (by omega)]; exact hfz, ?_, fun x hx' => ?_⟩
    · rw [List.pairwise_append]
      refine ⟨hp, List.pairwise_singleton _ _, fun a ha b hb' => ?_⟩
      rw [List.mem_singleton.mp hb']
      obtain ⟨j, hj, rfl⟩ := List.mem_iff_getElem.mp ha
      rw [getD_of (List.getElem?_eq_getElem (show i < fl.length by omega))]
      by_cases z : j = i
      · subst z
        omega
      · have := List.pairwise_iff_getElem.mp hp j i hj (by omega) (by omega)
        omega
    · rcases List.mem_append.mp hx' with h | h
      · have := hb x h
        omega
      · have := hb _ hx
        rw [List.mem_singleton.mp h]
        omega
  · obtain ⟨y5, fl, rfl, g, el, hfl, hfz, hp, hb⟩ := pp
    walk_at "aw"
    refine ⟨l, rfl, ⟨_, SqL.of el⟩, kLc_pure (walk_list (xs := fl.map V.int)) (by rw [List.length_map]; omega) (fun H' a => SqL.of (a.keep _ _ (fun z => nomatch z) el)) (fun i => decide (fl.getD i 0 ≤ 200)) (fun i => .int (fl.getD i 0)) (fun i v H2 H3 Kt Kf hi a2 yy kt kf => ?_) fun l2 H2 nl2 a2 el2 => ?_⟩
    · obtain ⟨rfl, hv⟩ := yy
      have hi' : i < fl.length := by rw [List.length_map] at hi; exact hi
      rw [List.getElem?_map, List.getElem?_eq_getElem hi'] at hv
      cases hv
      rw [getD_of (List.getElem?_eq_getElem hi')] at kt kf
      walk_at "aw"
      refine ⟨rfl, ?_⟩
      walk_at "aw"
      refine w_iteB (fun h => ?_) fun h => ?_
      · walk_at "aw"
        exact kt (decide_eq_true h) _ (.refl _ _)
      · exact kf (decide_eq_false h) _ (.refl _ _)
    · rw [List.length_map, filt_get fun x => decide (x ≤ 200)] at el2
      walk_at "aw"
      refine w_tupL (SqL.of el2) fun t H3 nt a3 et => ?_
      refine q t _ H3 (g.new (a2.trans a3)) et ⟨?_, ?_, hp.filter _, fun x hx => ?_⟩
      · have : f ∈ fl.filter fun x => decide (x ≤ 200) := List.mem_filter.mpr ⟨List.mem_of_getElem? hfz, decide_eq_true (by omega)⟩
        exact List.length_pos_of_mem this
      · have := List.length_filter_le (fun x => decide (x ≤ 200)) fl
        omega
      · obtain ⟨h1, h2⟩ := List.mem_filter.mp hx
        have := hb x h1
        have := of_decide_eq_true h2
        omega
theorem len__law_unknowns {K : PySem.W.Frag} : ∀ (vs : List V) (H : Hp) (Q : VK) (E : XK), sp__law_unknowns K vs H Q E → vs.length = 4 := fun vs H Q E h => by
  obtain ⟨_, _, _, _, rfl, _⟩ := h
  rfl
theorem DomOk.take {w : Nat} {fl : List Int} (h : DomOk w fl) {m : Nat} (hm : 1 ≤ m) : DomOk w (fl.take m) := by
  obtain ⟨h1, h2, h3, h4⟩ := h
  exact ⟨by rw [List.length_take]; omega, by rw [List.length_take]; omega, h3.sublist (List.take_sublist _ _), fun x hx => h4 x (List.mem_of_mem_take hx)⟩
theorem pure__law_unknowns {K : PySem.W.Frag} (vs : List V) (H : Hp) (Q : VK) (E : XK) (h : sp__law_unknowns K vs H Q E) : t__law_unknowns K { nx := fun _ H' => Q .non H', rt := Q } (start ["tape", "least", "most", "wide", "names", "found", "many", "k", "domain"] vs) H := by
  obtain ⟨st, a, b, w, rfl, cs, ok, ha, hab, hb, hw1, hw2, q⟩ := h
  show t__law_unknowns K _ [some (.ref st), some (.int (a : Nat)), some (.int (b : Nat)), some (.int (w : Nat)), none, none, none, none, none] H
  unfold t__law_unknowns
  walk_at "aw"
  refine ⟨st, 12, rfl, cs, ok, by decide, fun nl names H1 g1 nnl enl hnl hnd hnm => ?_⟩
  have onl := (ok.ne nnl).1
  walk_at "aw"
  refine w_lstD (by simp) fun l H2 nl2 a2 el => ?_
  have nl0 := g1.free ok nl2
  have nlst := (ok.ne nl0).1
  have g12 := g1.new a2
  have enl2 := a2.keep _ _ (fun z => nomatch z) enl
  walk_at "aw"
  refine w_draw g12.ok (by omega) (by omega) fun z H3 z0 z1 g3 => ?_
  obtain ⟨m, hm, hma, hmb⟩ : ∃ m : Nat, (a : Int) + z = (m : Int) ∧ a ≤ m ∧ m ≤ b := ⟨a + z.toNat, by omega, by omega, by omega⟩
  walk_at "aw"
  rw [hm]
  have enl3 := g3.keep onl enl2
  refine kForR_i (n := m) (by omega) (fun i σ' H' => ∃ (y7 y8 : Option V) (us : List V) (doms : List (Str × List Int)) (mm : Int), σ' = [some (.ref st), some (.int (a : Nat)), some (.int (b : Nat)), some (.int (w : Nat)), some (.ref nl), some (.ref l), some (.int mm), y7, y8] ∧ Go st cs H H' ∧ H' nl = some (.lst (names.map V.str)) ∧ H' l = some (.lst us) ∧ UnkAt H' us doms ∧ doms.map (·.1) = names.take i ∧ (1 ≤ mm ∧ mm ≤ 100) ∧ ∀ d ∈ doms, DomOk w d.2)
    ⟨_, _, [], [], 1, rfl, g12.trans g3, enl3, g3.keep nlst el, ⟨rfl, fun i u e => by simp at e⟩, rfl, ⟨by decide, by decide⟩, fun _ h => nomatch h⟩ (fun i σ' H' hi pp => ?_) fun σ' H' pp => ?_
  · obtain ⟨y7, y8, us, doms, mm, rfl, g, enl', el', hus, hdn, ⟨hmm, hm100⟩, hdm⟩ := pp
    walk_at "aw"
    refine ⟨st, w, rfl, cs, g.ok, hw1, hw2, fun dt fl H4 g4 edt hdt => ?_⟩
    walk_at "aw"
    refine w_I (by unfold CDiv; omega) ?_
    walk_at "aw"
    generalize hk : (if 100 / mm > 1 then 100 / mm else 1) = kk
    have hk1 : 1 ≤ kk := by rw [← hk]; split <;> omega
    have hk2 : mm * kk ≤ 100 := by
      have h1 : 1 ≤ 100 / mm := Int.le_ediv_of_mul_le (by omega) (by omega)
      have h2 : kk = 100 / mm := by rw [← hk]; split <;> omega
      rw [h2]
      exact Int.mul_ediv_self_le (by omega)
    refine w_slTo edt (by omega) fun dt2 H5 a5 edt2 => ?_
    rw [← List.map_take] at edt2
    have hdt2 := hdt.take (m := kk.toNat) (by omega)
    walk_at "aw"
    refine w_lenT (SqT.of edt2) ?_
    rw [List.length_map]
    walk_at "aw"
    refine w_I (.inl ⟨by omega, by omega⟩) ?_
    walk_at "aw"
    have g5 := g4.new a5
    have enl5 := g5.keep onl enl'
    have el5 := g5.keep nlst el'
    obtain ⟨x, hx⟩ := get_some (xs := names) (i := i) (by omega)
    refine w_app rfl el5 ?_
    walk_at "aw"
    refine w_ixL (SqL.of enl5) (v := .str x) (at_of (j := i) rfl (by rw [List.getElem?_map, hx]; rfl)) ?_
    walk_at "aw"
    refine w_tupD (by show 2 ≤ 100000; decide) fun pr H6 npr a6 epr => ?_
    walk_at "aw"
    have el6 := a6.keep _ _ (fun z => nomatch z) el5
    have hdl : doms.length = i := by
      have := congrArg List.length hdn
      rw [List.length_map, List.length_take] at this
      omega
    have hul := hus.1
    refine w_append el6 (by omega) ?_
    walk_at "aw"
    have kk2 : TK H6 (upd H6 l (.lst (us ++ [.ref pr]))) := (Adv.lst el6).tup
    have hnl : nl ≠ l := ne_of_none enl nl2
    have hpos := hdt2.l1
    refine ⟨_, _, us ++ [.ref pr], doms ++ [(x, fl.take kk.toNat)], _, rfl, ((g.trans g5).new a6).mutL ok nl0 el6, by rw [upd_ne hnl]; exact a6.keep _ _ (fun z => nomatch z) enl5, upd_same, ⟨by rw [List.length_append, List.length_append, hul]; rfl, fun j u hj => ?_⟩, by rw [List.map_append, hdn, List.take_add_one, hx]; rfl, ?_, fun d hd => ?_⟩
    · by_cases hjl : j < us.length
      · rw [List.getElem?_append_left hjl] at hj
        obtain ⟨p', q', d', e1, e2, e3, e4⟩ := (hus.up (TK.trans g5.tk (TK.trans a6.tup kk2))).2 j u hj
        exact ⟨p', q', d', e1, by rw [List.getElem?_append_left (by rw [← hul]; exact hjl)]; exact e2, e3, e4⟩
      · have hj2 := (List.getElem?_eq_some_iff.mp hj).1
        rw [List.length_append] at hj2
        simp at hj2
        have hj3 : j = us.length := by omega
        subst hj3
        rw [List.getElem?_append_right (Nat.le_refl _), Nat.sub_self] at hj
        simp at hj
        subst hj
        exact ⟨pr, dt2, (x, fl.take kk.toNat), rfl, by rw [hul, List.getElem?_append_right (Nat.le_refl _), Nat.sub_self]; rfl, kk2 _ _ epr, kk2 _ _ (a6.tup _ _ edt2)⟩
    · have h1 : (1 : Int) ≤ ((fl.take kk.toNat).length : Nat) := by omega
      have h3 := Int.mul_le_mul hmm h1 (by decide) (by omega)
      have h4 : ((fl.take kk.toNat).length : Int) ≤ kk := by rw [List.length_take]; omega
      have h5 := Int.mul_le_mul_of_nonneg_left h4 (show 0 ≤ mm by omega)
      exact ⟨by omega, by omega⟩
    · rcases List.mem_append.mp hd with h | h
      · exact hdm d h
      · rw [List.mem_singleton.mp h]
        exact hdt2
  · obtain ⟨y7, y8, us, doms, mm, rfl, g, enl', el', hus, hdn, hmm, hdm⟩ := pp
    walk_at "aw"
    refine w_tupL (SqL.of el') fun t H4 nt a4 et => ?_
    have hdl : doms.length = m := by
      have := congrArg List.length hdn
      rw [List.length_map, List.length_take] at this
      omega
    exact q t us doms H4 (g.new a4) et (hus.up a4.tup) ⟨by rw [hdn]; exact hnd.sublist (List.take_sublist _ _), fun x hx => (fun z => ⟨(allN_ok.2 x z).1, (allN_ok.2 x z).2.1⟩) (hnm x (by rw [hdn] at hx; exact List.mem_of_mem_take hx)), hdm⟩ (by omega) (by omega)
end AW
namespace AW
open PySem PySem.Spec PyProof.Rows L2 RZ
open StX
local macro_rules | `(tactic| walk_at "aw1") => `(tactic| first
  | (with_reducible refine w_seq ?_) | (with_reducible refine w_asg ?_) | (with_reducible refine w_gname ?_) | (with_reducible refine w_op ?_) | (with_reducible refine w_un ?_)
  | ((with_reducible refine' w_var ?h ?_); (case h => rfl)) | (with_reducible refine w_c ?_)
  | (with_reducible refine w_I0 ?_) | (with_reducible refine w_U ?_) | (with_reducible refine w_cb ?_) | (with_reducible refine w_nil ?_) | (with_reducible refine w_cons ?_) | (with_reducible refine w_call ?_)
  | (with_reducible refine w_test ?_) | (with_reducible refine w_B ?_) | (with_reducible refine w_bl ?_) | (with_reducible refine w_not ?_) | (with_reducible refine w_yes ?_) | (with_reducible refine iteT ?_) | (with_reducible refine iteF ?_) | (with_reducible refine w_and ?_) | (with_reducible refine w_or ?_)
  | (with_reducible refine w_andV ?_) | (with_reducible refine w_orV ?_) | (with_reducible refine w_notV ?_) | (with_reducible refine w_if ?_)
  | (with_reducible refine w_int1 ?_) | (with_reducible refine w_int1b ?_) | (with_reducible refine w_abs ?_) | (with_reducible refine w_max2 ?_) | (with_reducible refine w_min2 ?_)
  | ((with_reducible refine w_eq ?h ?_); (case h => rfl)) | ((with_reducible refine w_ne ?h ?_); (case h => rfl)) | (with_reducible refine w_isN ?_) | (with_reducible refine w_isB ?_) | (with_reducible refine w_chain ?_)
  | (with_reducible refine w_ret ?_) | (with_reducible refine w_drop ?_) | (with_reducible refine w_ifS ?_) | (with_reducible refine w_gsub ?_) | (with_reducible refine w_augS ?_) | (with_reducible refine w_ipI ?_) | (with_reducible refine w_next ?_)
  | (with_reducible refine w_forR ?_) | (with_reducible refine w_forR2 ?_) | (with_reducible refine w_forL ?_) | (with_reducible refine w_forT ?_) | (with_reducible refine w_lcR ?_) | (with_reducible refine w_lcL ?_) | (with_reducible refine w_lcT ?_) | (with_reducible refine w_sl ?_) | (with_reducible refine w_part ?_) | (with_reducible refine w_noPart ?_) | (with_reducible refine w_in ?_)
  | (with_reducible refine w_gcons ?_) | (with_reducible refine w_gnil ?_) | (with_reducible refine w_lc3 ?_) | (with_reducible refine w_dcZ ?_) | (with_reducible refine w_dcT ?_) | (with_reducible refine w_dg ?_) | (with_reducible refine w_callK ?_) | (with_reducible refine w_dput ?_) | (with_reducible refine w_tup1 ?_)
  | (with_reducible refine w_tup ?_) | (with_reducible refine w_lst ?_)
  | ((with_reducible refine w_I ?h ?_); (case h => first | (exact Or.inr ⟨by decide, by decide⟩) | (exact Or.inl ⟨by decide, by decide⟩) | (show (0 : Int) < _; decide) | (exact ⟨by decide, by decide, by decide⟩) | assumption)))
local macro_rules | `(tactic| walk_at "aw") => `(tactic| repeat (walk_at "aw1"))
def stepR (rows : List (List Int)) (d : List Int) : List (List Int) := rows.flatMap fun r => d.map fun v => r ++ [v]
/-- all rows, the first column slowest -/
def allR (ds : List (List Int)) : List (List Int) := ds.foldl stepR [[]]
def TupAt (H : Hp) (u : V) (r : List Int) : Prop := ∃ a, u = .ref a ∧ H a = some (.tup (r.map V.int))
theorem TupAt.up {H H' : Hp} {u : V} {r : List Int} (h : TupAt H u r) (k : TK H H') : TupAt H' u r := by
  obtain ⟨a, h1, h2⟩ := h
  exact ⟨a, h1, k _ _ h2⟩
def TupsAt (H : Hp) (us : List V) (rs : List (List Int)) : Prop := Paired (fun u r => TupAt H u r) us rs
theorem TupsAt.up {H H' : Hp} {us : List V} {rs : List (List Int)} (h : TupsAt H us rs) (k : TK H H') : TupsAt H' us rs := L2.Paired.mapP h fun _ _ z => z.up k
theorem paired_app {α β : Type} {R : α → β → Prop} : ∀ {xs : List α} {ys : List β} {xs' : List α} {ys' : List β}, Paired R xs ys → Paired R xs' ys' → Paired R (xs ++ xs') (ys ++ ys')
  | _, _, _, _, .nil, h => h
  | _, _, _, _, .cons a t, h => .cons a (paired_app t h)
theorem paired_at {α β : Type} {F : α → β → Prop} : ∀ {xs : List α} {ys : List β}, Paired F xs ys → ∀ {i : Nat} {x : α} {y : β}, xs[i]? = some x → ys[i]? = some y → F x y
  | _, _, .nil, _, _, _, h, _ => by simp at h
  | _, _, .cons a t, 0, _, _, h, h2 => by cases h; cases h2; exact a
  | _, _, .cons a t, i + 1, _, _, h, h2 => paired_at t (by simpa using h) (by simpa using h2)
theorem paired_ix {α β : Type} {R : α → β → Prop} : ∀ {xs : List α} {ys : List β}, xs.length = ys.length → (∀ (i : Nat) x y, xs[i]? = some x → ys[i]? = some y → R x y) → Paired R xs ys
  | [], [], _, _ => .nil
  | [], y :: ys, h, _ => by simp at h
  | x :: xs, [], h, _ => by simp at h
  | x :: xs, y :: ys, h, g => .cons (g 0 x y rfl rfl) (paired_ix (by simpa using h) fun i a b e f => g (i + 1) a b (by simpa using e) (by simpa using f))
theorem allR_take {ds : List (List Int)} {i : Nat} {d : List Int} (h : ds[i]? = some d) : allR (ds.take (i + 1)) = stepR (allR (ds.take i)) d := by
  unfold allR
  rw [List.take_add_one, h, List.foldl_append]
  rfl
theorem stepR_len {rows : List (List Int)} {d : List Int} : (stepR rows d).length = rows.length * d.length := by
  unfold stepR
  induction rows with
  | nil => simp
  | cons r rows ih => rw [List.flatMap_cons, List.length_append, ih, List.length_map, List.length_cons, Nat.add_mul, Nat.one_mul, Nat.add_comm]
theorem allR_len {ds : List (List Int)} (h : ∀ d ∈ ds, d.length ≤ 12) : ∀ i, i ≤ ds.length → (allR (ds.take i)).length ≤ 12 ^ i
  | 0, _ => by simp [allR]
  | i + 1, hi => by
    have hd : ds[i]? = some ds[i] := List.getElem?_eq_getElem (by omega)
    rw [allR_take hd, stepR_len, Nat.pow_succ]
    exact Nat.mul_le_mul (allR_len h i (by omega)) (h _ (List.getElem_mem _))
def sp__law_all (_ : PySem.W.Frag) : Sp := fun vs H Q _ => ∃ (p : Addr), vs = [.ref p] ∧ ∃ us ds, H p = some (.lst us) ∧ TupsAt H us ds ∧ ds.length ≤ 3 ∧ (∀ d ∈ ds, d.length ≤ 12) ∧ ∀ l ws H', Adv [] H H' → H l = none → H' l = some (.lst ws) → TupsAt H' ws (allR ds) → Q (.ref l) H'
theorem take_flatMap {α β : Type} (f : α → List β) {xs : List α} {i : Nat} {x : α} (h : xs[i]? = some x) : (xs.take (i + 1)).flatMap f = (xs.take i).flatMap f ++ f x := by
  rw [List.take_add_one, h, List.flatMap_append]
  simp
theorem kLc_rel {J : It} {n : Nat} {G : Hp → Prop} {Y : Nat → Hp → V → Hp → Prop} {g : TG} {te : TE} {vs : List Nat} {σ : L2.St} {Q : VK} {H1 : Hp} (wk : Walk J n G Y) (hn : n ≤ 100000) (hG : ∀ H', Adv [] H1 H' → G H') (R : Nat → V → Hp → Prop) (mono : ∀ i v H H', TK H H' → R i v H → R i v H')
    (step : ∀ i x H H' (Kt : V → Hp → Prop), i < n → Adv [] H1 H → Y i H x H' → (∀ y H4, Adv [] H H4 → R i y H4 → Kt y H4) → g x (wipe σ vs) H' fun σ2 H2 => wipe σ2 vs = wipe σ vs ∧ te σ2 H2 Kt)
    (k : ∀ p H' ys, H1 p = none → Adv [] H1 H' → H' p = some (.lst ys) → ys.length = n → (∀ (i : Nat) v, ys[i]? = some v → R i v H') → Q (.ref p) H') : kLc J g tYes te vs σ Q H1 := by
  intro D hD
  refine lc_it wk (fun i H => Adv [] H1 H ∧ ∃ ys, H D = some (.lst ys) ∧ ys.length = i ∧ ∀ (m : Nat) v, ys[m]? = some v → R m v H) ⟨Adv.new hD, [], upd_same, rfl, fun m v e => by simp at e⟩ (fun i H _ p => hG H p.1)
    (fun i x H H' hi p y => ?_) fun H p => ?_
  · obtain ⟨g1, ys, e1, hl, hr⟩ := p
    refine step i x H H' _ hi g1 y fun v H4 g4 r4 => ?_
    have e4 : H4 D = some (.lst ys) := g4.keep _ _ (fun z => nomatch z) e1
    have t5 : TK H4 (upd H4 D (.lst (ys ++ [v]))) := (Adv.lst e4).tup
    refine ⟨ys, e4, Nat.lt_of_lt_of_le (show ys.length < 100001 by omega) (by decide), (g1.trans g4).mut hD e4 (fun _ z => by cases z), ys ++ [v], upd_same, by rw [List.length_append, hl]; rfl, fun m w e => ?_⟩
    by_cases hm : m < ys.length
    · rw [List.getElem?_append_left hm] at e
      exact mono _ _ _ _ (TK.trans g4.tup t5) (hr m w e)
    · have hm2 : m = ys.length := by
        have := (List.getElem?_eq_some_iff.mp e).1
        rw [List.length_append] at this
        simp at this
        omega
      subst hm2
      rw [List.getElem?_append_right (Nat.le_refl _), Nat.sub_self] at e
      simp at e
      subst e
      rw [hl]
      exact mono _ _ _ _ t5 r4
  · obtain ⟨g1, ys, e1, hl, hr⟩ := p
    exact k D H ys hD g1 e1 hl hr
/-- dict([(a, b) for ..]) of numbers, drawn from anything that is walked -/
theorem allR_row {ds : List (List Int)} : ∀ i, i ≤ ds.length → ∀ r ∈ allR (ds.take i), r.length = i
  | 0, _, r, h => by simp [allR] at h; rw [h]; rfl
  | i + 1, hi, r, h => by
    have hd : ds[i]? = some ds[i] := List.getElem?_eq_getElem (by omega)
    rw [allR_take hd] at h
    obtain ⟨r0, h1, h2⟩ := List.mem_flatMap.mp h
    obtain ⟨v, _, rfl⟩ := List.mem_map.mp h2
    rw [List.length_append, allR_row i (by omega) r0 h1]
    rfl
def t__law_all (K : PySem.W.Frag) : TS := (tSeq (tAsg (tLst (tCons (tTup tNil) tNil)) (gName 1))
  (tSeq (tFor (iList K (tVar 0)) (gName 2)
  (tSeq (tAsg (tLst tNil) (gName 3))
  (tSeq (tFor (iList K (tVar 1)) (gName 4)
  (tAsg (tOp rCat (tVar 3) (tLc (iTup K (tVar 2)) (gName 5) tYes (tOp (rCatA K) (tVar 4) (tTup (tCons (tVar 5) tNil))) [5])) (gName 3)))
  (tAsg (tVar 3) (gName 1)))))
  (tRet (tVar 1))))
theorem len__law_all {K : PySem.W.Frag} : ∀ (vs : List V) (H : Hp) (Q : VK) (E : XK), sp__law_all K vs H Q E → vs.length = 1 := fun vs H Q E h => by
  obtain ⟨_, rfl, _⟩ := h
  rfl
theorem pure__law_all {K : PySem.W.Frag} (vs : List V) (H : Hp) (Q : VK) (E : XK) (h : sp__law_all K vs H Q E) : t__law_all K { nx := fun _ H' => Q .non H', rt := Q } (start ["domains", "rows", "domain", "longer", "row", "value"] vs) H := by
  obtain ⟨p, rfl, us, ds, ep, hus, h3, h12, q⟩ := h
  have hul := hus.length
  have hlen := allR_len h12
  have hpow : ∀ i, i ≤ 3 → (12 : Nat) ^ i ≤ 1728 := fun i hi => by
    have : i = 0 ∨ i = 1 ∨ i = 2 ∨ i = 3 := by omega
    rcases this with rfl | rfl | rfl | rfl <;> decide
  show t__law_all K _ [some (.ref p), none, none, none, none, none] H
  unfold t__law_all
  walk_at "aw"
  refine w_tupD (by show 0 ≤ 100000; decide) fun t0 H1 nt0 a1 et0 => ?_
  walk_at "aw"
  refine w_lstD (by simp) fun l0 H2 nl0 a2 el0 => ?_
  walk_at "aw"
  refine kForL_i (fun i σ' H' => ∃ (y2 y3 y4 : Option V) (l : Addr) (ws : List V), σ' = [some (.ref p), some (.ref l), y2, y3, y4, none] ∧ Adv [] H H' ∧ (H l = none ∧ H' l = some (.lst ws)) ∧ TupsAt H' ws (allR (ds.take i))) (SqL.of ((a1.trans a2).keep _ _ (fun z => nomatch z) ep))
    ⟨_, _, _, l0, _, rfl, a1.trans a2, ⟨a1.free (fun z => nomatch z) nl0, el0⟩, .cons ⟨t0, rfl, a2.tup _ _ et0⟩ .nil⟩ (fun i σ' H' _ pp => by obtain ⟨_, _, _, _, _, _, a, _⟩ := pp; exact SqL.of (a.keep _ _ (fun z => nomatch z) ep)) (fun i u σ' H' hu pp => ?_) fun σ' H' pp => ?_
  · obtain ⟨y2, y3, y4, l, ws, rfl, a, ⟨nl, el⟩, hws⟩ := pp
    have hil := (List.getElem?_eq_some_iff.mp hu).1
    obtain ⟨d, hd⟩ := get_some (xs := ds) (i := i) (by omega)
    obtain ⟨da, rfl, eda⟩ := paired_at hus hu hd
    have hdl := h12 _ (List.mem_of_getElem? hd)
    have hwl := hws.length
    have hb := hlen i (by omega)
    have hb2 := hpow i (by omega)
    walk_at "aw"
    refine w_lstD (by simp) fun m0 H3 nm0 a3 em0 => ?_
    walk_at "aw"
    have a03 := a.trans a3
    refine kForL_i (fun j σ' H' => ∃ (y4 : Option V) (m : Addr) (vs : List V), σ' = [some (.ref p), some (.ref l), some (.ref da), some (.ref m), y4, none] ∧ Adv [] H3 H' ∧ (H m = none ∧ H' m = some (.lst vs)) ∧ TupsAt H' vs (((allR (ds.take i)).take j).flatMap fun r => d.map fun v => r ++ [v])) (SqL.of (a3.keep _ _ (fun z => nomatch z) el))
      ⟨_, m0, _, rfl, .refl _ _, ⟨a.free (fun z => nomatch z) nm0, em0⟩, .nil⟩ (fun j σ' H' _ pp => by obtain ⟨_, _, _, _, a4, _⟩ := pp; exact SqL.of ((a3.trans a4).keep _ _ (fun z => nomatch z) el)) (fun j v σ' H' hv pp => ?_) fun σ' H' pp => ?_
    · obtain ⟨y4, m, vs, rfl, a4, ⟨nm', em⟩, hvs⟩ := pp
      have hjl := (List.getElem?_eq_some_iff.mp hv).1
      obtain ⟨r, hr⟩ := get_some (xs := allR (ds.take i)) (i := j) (by omega)
      obtain ⟨ra, rfl, era⟩ := paired_at hws hv hr
      have eda4 := (a03.trans a4).tup _ _ eda
      have era4 := (a3.trans a4).tup _ _ era
      walk_at "aw"
      refine ⟨da, rfl, ⟨_, SqT.of eda4⟩, kLc_rel (walk_tup (xs := d.map V.int)) (by rw [List.length_map]; omega) (fun H5 a5 => SqT.of (a5.tup _ _ eda4)) (fun k u H5 => ∃ x, d[k]? = some x ∧ TupAt H5 u (r ++ [x])) (fun k u H5 H6 kk hh => by
        obtain ⟨x, h1, h2⟩ := hh
        exact ⟨x, h1, h2.up kk⟩) (fun k u H5 H6 Kt hk a5 yy kt => ?_) fun nl H5 ys nnl a5 enl hyl hyr => ?_⟩
      · obtain ⟨rfl, hu⟩ := yy
        rw [List.getElem?_map] at hu
        obtain ⟨x, hx, rfl⟩ := Option.map_eq_some_iff.mp hu
        walk_at "aw"
        refine ⟨rfl, ?_⟩
        walk_at "aw"
        refine w_tupD (by show 1 ≤ 100000; decide) fun t1 H7 nt1 a7 et1 => ?_
        refine w_catT' ((a5.trans a7).tup _ _ era4) et1 ?_ fun t2 H8 a8 et2 => ?_
        · rw [List.length_map, allR_row i (by omega) r (List.mem_of_getElem? hr)]
          show i + 1 ≤ 100000
          omega
        · exact kt _ _ (a7.trans a8) ⟨x, hx, t2, rfl, by rw [et2, List.map_append]; rfl⟩
      · walk_at "aw"
        refine w_catB (a5.keep _ _ (fun z => nomatch z) em) enl ?_ fun nm H6 nnm a6 enm => ?_
        · have h1 := hvs.length
          have h2 := stepR_len (rows := (allR (ds.take i)).take j) (d := d)
          have h3 : (((allR (ds.take i)).take j).flatMap fun r => d.map fun v => r ++ [v]).length = _ := h2
          rw [h3] at h1
          have h4 : ((allR (ds.take i)).take j).length ≤ 1728 := by rw [List.length_take]; omega
          have h5 := Nat.mul_le_mul h4 hdl
          rw [List.length_map] at hyl
          omega
        walk_at "aw"
        refine ⟨_, nm, vs ++ ys, rfl, a4.trans (a5.trans a6), ⟨((a.trans a3).trans (a4.trans a5)).free (fun z => nomatch z) nnm, enm⟩, ?_⟩
        rw [take_flatMap _ hr]
        refine paired_app (TupsAt.up hvs (a5.trans a6).tup) (paired_ix (by rw [hyl, List.length_map, List.length_map]) fun k u x hu hx => ?_)
        obtain ⟨y, h1, h2⟩ := hyr k u hu
        rw [List.getElem?_map, h1] at hx
        cases hx
        exact h2.up a6.tup
    · obtain ⟨y4, m, vs, rfl, a4, ⟨nm', em⟩, hvs⟩ := pp
      walk_at "aw"
      rw [hwl, List.take_length] at hvs
      refine ⟨_, _, _, m, vs, rfl, a03.trans a4, ⟨nm', em⟩, ?_⟩
      rw [allR_take hd]
      exact hvs
  · obtain ⟨y2, y3, y4, l, ws, rfl, a, ⟨nl, el⟩, hws⟩ := pp
    rw [hul, List.take_length] at hws
    walk_at "aw"
    exact q l ws H' a nl el hws
end AW
/-! tuple(l), the new object known (so that it has no dict of its own); dict(t) of such a tuple of pairs -/
namespace AW
open PySem PySem.Spec PyProof.Rows L2 RZ
section
variable {X : Cx} {a : Expr} {ta : TE}
end
end AW
namespace AW
open PySem PySem.Spec PyProof.Rows L2 RZ
open StX
local macro_rules | `(tactic| walk_at "aw1") => `(tactic| first
  | (with_reducible refine w_seq ?_) | (with_reducible refine w_asg ?_) | (with_reducible refine w_gname ?_) | (with_reducible refine w_op ?_) | (with_reducible refine w_un ?_)
  | ((with_reducible refine' w_var ?h ?_); (case h => rfl)) | (with_reducible refine w_c ?_)
  | (with_reducible refine w_I0 ?_) | (with_reducible refine w_U ?_) | (with_reducible refine w_cb ?_) | (with_reducible refine w_nil ?_) | (with_reducible refine w_cons ?_) | (with_reducible refine w_call ?_)
  | (with_reducible refine w_test ?_) | (with_reducible refine w_B ?_) | (with_reducible refine w_bl ?_) | (with_reducible refine w_not ?_) | (with_reducible refine w_yes ?_) | (with_reducible refine iteT ?_) | (with_reducible refine iteF ?_) | (with_reducible refine w_and ?_) | (with_reducible refine w_or ?_)
  | (with_reducible refine w_andV ?_) | (with_reducible refine w_orV ?_) | (with_reducible refine w_notV ?_) | (with_reducible refine w_if ?_)
  | (with_reducible refine w_int1 ?_) | (with_reducible refine w_int1b ?_) | (with_reducible refine w_abs ?_) | (with_reducible refine w_max2 ?_) | (with_reducible refine w_min2 ?_)
  | ((with_reducible refine w_eq ?h ?_); (case h => rfl)) | ((with_reducible refine w_ne ?h ?_); (case h => rfl)) | (with_reducible refine w_isN ?_) | (with_reducible refine w_isB ?_) | (with_reducible refine w_chain ?_)
  | (with_reducible refine w_ret ?_) | (with_reducible refine w_drop ?_) | (with_reducible refine w_ifS ?_) | (with_reducible refine w_gsub ?_) | (with_reducible refine w_augS ?_) | (with_reducible refine w_ipI ?_) | (with_reducible refine w_next ?_)
  | (with_reducible refine w_forR ?_) | (with_reducible refine w_forR2 ?_) | (with_reducible refine w_forL ?_) | (with_reducible refine w_forT ?_) | (with_reducible refine w_lcR ?_) | (with_reducible refine w_lcL ?_) | (with_reducible refine w_lcT ?_) | (with_reducible refine w_sl ?_) | (with_reducible refine w_part ?_) | (with_reducible refine w_noPart ?_) | (with_reducible refine w_in ?_)
  | (with_reducible refine w_gcons ?_) | (with_reducible refine w_gnil ?_) | (with_reducible refine w_lc3 ?_) | (with_reducible refine w_dcZ ?_) | (with_reducible refine w_dcT ?_) | (with_reducible refine w_dg ?_) | (with_reducible refine w_callK ?_) | (with_reducible refine w_dput ?_) | (with_reducible refine w_tup1 ?_)
  | (with_reducible refine w_tup ?_) | (with_reducible refine w_lst ?_)
  | ((with_reducible refine w_I ?h ?_); (case h => first | (exact Or.inr ⟨by decide, by decide⟩) | (exact Or.inl ⟨by decide, by decide⟩) | (show (0 : Int) < _; decide) | (exact ⟨by decide, by decide, by decide⟩) | assumption)))
local macro_rules | `(tactic| walk_at "aw") => `(tactic| repeat (walk_at "aw1"))
theorem refs_of : ∀ {ys : List V}, (∀ (i : Nat) v, ys[i]? = some v → ∃ n : Addr, v = .ref n) → ∃ ps : List Addr, ys = ps.map V.ref
  | [], _ => ⟨[], rfl⟩
  | y :: ys, h => by
    obtain ⟨n, rfl⟩ := h 0 y rfl
    obtain ⟨ps, rfl⟩ := refs_of (ys := ys) fun i v e => h (i + 1) v (by simpa using e)
    exact ⟨n :: ps, rfl⟩
theorem paired_of {α β : Type} {F : α → β → Prop} : ∀ {xs : List α} {ys : List β}, xs.length = ys.length → (∀ (i : Nat) x y, xs[i]? = some x → ys[i]? = some y → F x y) → Paired F xs ys
  | [], [], _, _ => .nil
  | [], _ :: _, h, _ => by simp at h
  | _ :: _, [], h, _ => by simp at h
  | x :: xs, y :: ys, h, f => .cons (f 0 x y rfl rfl) (paired_of (by simpa using h) fun i a b ha hb => f (i + 1) a b (by simpa using ha) (by simpa using hb))
theorem nodup_map_inj {α β : Type} {f : α → β} (hf : ∀ a b, f a = f b → a = b) {xs : List α} (h : xs.Nodup) : (xs.map f).Nodup := List.Pairwise.map f (fun a b z e => z (hf a b e)) h
theorem paired_perm {α β : Type} {R : α → β → Prop} {xs ys : List α} (h : ys.Perm xs) : ∀ {ms : List β}, Paired R xs ms → ∃ ms', ms'.Perm ms ∧ Paired R ys ms' := by
  induction h with
  | nil => intro ms p; cases p; exact ⟨[], .nil, .nil⟩
  | cons x h ih =>
    intro ms p
    cases p with
    | cons a t =>
      obtain ⟨ms', h1, h2⟩ := ih t
      exact ⟨_ :: ms', h1.cons _, .cons a h2⟩
  | swap x y l =>
    intro ms p
    cases p with
    | cons a t =>
      cases t with
      | cons b t => exact ⟨_, .swap .., .cons b (.cons a t)⟩
  | trans h1 h2 ih1 ih2 =>
    intro ms p
    obtain ⟨m1, a1, b1⟩ := ih2 p
    obtain ⟨m2, a2, b2⟩ := ih1 b1
    exact ⟨m2, a2.trans a1, b2⟩
def UnkP (H : Hp) (u : V) (d : Str × List Int) : Prop := ∃ p q, u = .ref p ∧ H p = some (.tup [.str d.1, .ref q]) ∧ H q = some (.tup (d.2.map V.int))
theorem UnkP.up {H H' : Hp} {u : V} {d : Str × List Int} (h : UnkP H u d) (k : TK H H') : UnkP H' u d := by
  obtain ⟨p, q, h1, h2, h3⟩ := h
  exact ⟨p, q, h1, k _ _ h2, k _ _ h3⟩
theorem UnkAt.p {H : Hp} {us : List V} {doms : List (Str × List Int)} (h : UnkAt H us doms) : Paired (fun u d => UnkP H u d) us doms := paired_ix h.1 fun i u d hu hd => by
  obtain ⟨p, q, d', h1, h2, h3, h4⟩ := h.2 i u hu
  rw [hd] at h2
  cases h2
  exact ⟨p, q, h1, h3, h4⟩
/-- a model's unknowns -/
def MdlAt (H : Hp) (m : V) (doms : List (Str × List Int)) : Prop := ∃ (a b : Addr) (r us : List V), m = .ref a ∧ H a = some (.tup (.ref b :: r)) ∧ H b = some (.tup us) ∧ UnkAt H us doms
theorem MdlAt.up {H H' : Hp} {m : V} {doms : List (Str × List Int)} (h : MdlAt H m doms) (k : TK H H') : MdlAt H' m doms := by
  obtain ⟨a, b, r, us, h1, h2, h3, h4⟩ := h
  exact ⟨a, b, r, us, h1, k _ _ h2, k _ _ h3, h4.up k⟩
/-- one item of a view -/
abbrev Itm := List (Str × List Int) × List (List Int)
def ItmAt (H : Hp) (u : V) (it : Itm) : Prop := ∃ p a b vs, u = .ref p ∧ H p = some (.tup [.ref a, .ref b]) ∧ H a = some (.tup ((it.1.map (·.1)).map V.str)) ∧ H b = some (.tup vs) ∧ TupsAt H vs it.2
theorem ItmAt.up {H H' : Hp} {u : V} {it : Itm} (h : ItmAt H u it) (k : TK H H') : ItmAt H' u it := by
  obtain ⟨p, a, b, vs, h1, h2, h3, h4, h5⟩ := h
  exact ⟨p, a, b, vs, h1, k _ _ h2, k _ _ h3, k _ _ h4, h5.up k⟩
def ViewAt (H : Hp) (t : Addr) (L : List Itm) : Prop := ∃ us, H t = some (.tup us) ∧ Paired (fun u it => ItmAt H u it) us L
/-- a right item: some unknowns of one model, and all their rows, each with a value of the domain behind -/
structure ItmOk (doms : List (Str × List Int)) (dom : List Int) (it : Itm) : Prop where
  l1 : 1 ≤ it.1.length
  l3 : it.1.length ≤ 3
  nd : (it.1.map (·.1)).Nodup
  mem : ∀ s ∈ it.1, s ∈ doms
  rows : Paired (fun r fr => ∃ v ∈ dom, r = fr ++ [v]) it.2 (allR (it.1.map (·.2)))
def sp__law_view (_ : PySem.W.Frag) : Sp := fun vs H Q _ => ∃ (st : Addr) (m1 m2 : V), vs = [.ref st, m1, m2] ∧ ∃ cs d1 d2 w1 w2, StOk st cs H ∧ MdlAt H m1 d1 ∧ MdlOk w1 d1 ∧ w1 ≤ 12 ∧ 1 ≤ d1.length ∧ d1.length ≤ 24 ∧ MdlAt H m2 d2 ∧ MdlOk w2 d2 ∧ w2 ≤ 12 ∧ d2.length ≤ 24 ∧ ∀ t L H', Go st cs H H' → ViewAt H' t L → Paired (fun it d => ItmOk d1 d.2 it) L d2 → Q (.ref t) H'
theorem list_choose {α β : Type} : ∀ {xs : List α} {P : Nat → α → β → Prop}, (∀ (i : Nat) x, xs[i]? = some x → ∃ b, P i x b) → ∃ bs : List β, bs.length = xs.length ∧ ∀ (i : Nat) x b, xs[i]? = some x → bs[i]? = some b → P i x b
  | [], _, _ => ⟨[], rfl, fun i x b h => by simp at h⟩
  | x :: xs, P, h => by
    obtain ⟨b, hb⟩ := h 0 x rfl
    obtain ⟨bs, h1, h2⟩ := list_choose (xs := xs) (P := fun i => P (i + 1)) fun i y e => h (i + 1) y (by simpa using e)
    refine ⟨b :: bs, by simp [h1], fun i y c e f => ?_⟩
    cases i with
    | zero => cases e; cases f; exact hb
    | succ i => exact h2 i y c (by simpa using e) (by simpa using f)
def t__law_view (K : PySem.W.Frag) : TS := (tSeq (tAsg (tLst tNil) (gName 3))
  (tSeq (tFor (iTup K (tOp (rIxT K) (tVar 2) (tC (.int 0)))) (gTup K 2 (gCons (gName 4) (gCons (gName 5) gNil)))
  (tSeq (tAsg (tCall (sp__law_some K) [] E0 (tCons (tVar 0) (tCons (tOp (rIxT K) (tVar 1) (tC (.int 0))) (tCons (tC (.int 1)) (tCons (tC (.int 3)) tNil))))) (gName 6))
  (tSeq (tAsg (tLc (iList K (tCall (sp__law_all K) [] E0 (tCons (tLc (iList K (tVar 6)) (gName 9) tYes (tOp (rIxT K) (tVar 9) (tC (.int 1))) [9]) tNil))) (gName 8) tYes (tOp (rCatA K) (tVar 8) (tTup (tCons (tOp (rIxT K) (tVar 5) (tCall (sp__law_draw K) [] E0 (tCons (tVar 0) (tCons (tCB (rLen1 K) (tCons (tVar 5) tNil)) tNil)))) tNil))) [8]) (gName 7))
  (tDrop (tBM K "list" rAppend (tVar 3) (tCons (tTup (tCons (tThen (tLc (iList K (tVar 6)) (gName 9) tYes (tOp (rIxT K) (tVar 9) (tC (.int 0))) [9]) (kTup K)) (tCons (tThen (tVar 7) (kTup K)) tNil))) tNil))))))
  (tRet (tThen (tVar 3) (kTup K)))))
theorem paired_split {α β : Type} {R : α → β → Prop} : ∀ {xs xs' : List α} {ys : List β}, Paired R (xs ++ xs') ys → Paired R xs (ys.take xs.length) ∧ Paired R xs' (ys.drop xs.length)
  | [], _, _, h => ⟨.nil, h⟩
  | x :: xs, xs', _, .cons a t => by
    obtain ⟨h1, h2⟩ := paired_split t
    exact ⟨.cons a h1, h2⟩
theorem len__law_view {K : PySem.W.Frag} : ∀ (vs : List V) (H : Hp) (Q : VK) (E : XK), sp__law_view K vs H Q E → vs.length = 3 := fun vs H Q E h => by
  obtain ⟨_, _, _, rfl, _⟩ := h
  rfl
theorem pure__law_view {K : PySem.W.Frag} (vs : List V) (H : Hp) (Q : VK) (E : XK) (h : sp__law_view K vs H Q E) : t__law_view K { nx := fun _ H' => Q .non H', rt := Q } (start ["tape", "one", "other", "view", "name", "domain", "some", "rows", "row", "pair"] vs) H := by
  obtain ⟨st, m1, m2, rfl, cs, d1, d2, w1, w2, ok, hm1, mok1, hw1, hl1, hl1', hm2, mok2, hw2, hl2, q⟩ := h
  obtain ⟨a1, b1, r1, us1, rfl, ea1, eb1, hus1⟩ := id hm1
  obtain ⟨a2, b2, r2, us2, rfl, ea2, eb2, hus2⟩ := id hm2
  have hul1 := hus1.1
  have hul2 := hus2.1
  show t__law_view K _ [some (.ref st), some (.ref a1), some (.ref a2), none, none, none, none, none, none, none] H
  unfold t__law_view
  walk_at "aw"
  refine w_lstD (by simp) fun vl H1 nvl av evl => ?_
  have g1 := Go.of ok av
  have ovl := (ok.ne nvl).1
  walk_at "aw"
  refine w_ixT (SqT.of (av.tup _ _ ea2)) (at_nat (by decide) rfl) ?_
  refine kForT_i (fun i σ' H' => ∃ (y4 y5 y6 y7 : Option V) (vs : List V) (L : List Itm), σ' = [some (.ref st), some (.ref a1), some (.ref a2), some (.ref vl), y4, y5, y6, y7, none, none] ∧ Go st cs H H' ∧ H' vl = some (.lst vs) ∧ Paired (fun u it => ItmAt H' u it) vs L ∧ Paired (fun it d => ItmOk d1 d.2 it) L (d2.take i)) (SqT.of (av.tup _ _ eb2))
    ⟨_, _, _, _, [], [], rfl, g1, evl, .nil, .nil⟩ (fun i σ' H' _ pp => by obtain ⟨_, _, _, _, _, _, _, g, _⟩ := pp; exact SqT.of (g.tk _ _ eb2)) (fun i u σ' H' hu pp => ?_) fun σ' H' pp => ?_
  · obtain ⟨y4, y5, y6, y7, vs, L, rfl, g, evl', hvs, hL⟩ := pp
    obtain ⟨p, qd, d, rfl, hd, ep, eqd⟩ := hus2.2 i u hu
    have hil := (List.getElem?_eq_some_iff.mp hd).1
    have hdm := mok2.dm d (List.mem_of_getElem? hd)
    refine w_gtup (SqT.of (g.tk _ _ ep)) rfl ?_
    walk_at "aw"
    refine w_ixT (SqT.of (g.tk _ _ ea1)) (at_nat (by decide) rfl) ?_
    walk_at "aw"
    refine ⟨st, b1, 1, 3, rfl, cs, us1, g.ok, .inr (SqT.of (g.tk _ _ eb1)), by decide, by omega, by decide, by omega, fun sl made left H2 g2 nsl esl hperm hmade1 hmade3 => ?_⟩
    have osl := (g.ok.ne nsl).1
    obtain ⟨ms', hms, hpm⟩ := paired_perm hperm (hus1.p)
    obtain ⟨hsome0, _⟩ := paired_split hpm
    have hsl := hsome0.length
    have hmem : ∀ s ∈ ms'.take made.length, s ∈ d1 := fun s hs => hms.subset (List.mem_of_mem_take hs)
    have hndm : ((ms'.take made.length).map (·.1)).Nodup := by
      have h1 : (ms'.map (·.1)).Nodup := (hms.map _).nodup_iff.mpr mok1.nd
      rw [List.map_take]
      exact h1.sublist (List.take_sublist _ _)
    generalize ms'.take made.length = some at hsome0 hsl hmem hndm
    have g02 := g.trans g2
    have hsome : Paired (fun u d => UnkP H2 u d) made some := L2.Paired.mapP hsome0 fun _ _ z => z.up g02.tk
    walk_at "aw"
    refine ⟨sl, rfl, ⟨_, SqL.of esl⟩, kLc_rel (walk_list (xs := made)) (by omega) (fun H' a => SqL.of (a.keep _ _ (fun z => nomatch z) esl)) (fun k u H3 => ∃ s, some[k]? = .some s ∧ TupAt H3 u s.2) (fun k u H3 H4 kk hh => by
      obtain ⟨s, h1, h2⟩ := hh
      exact ⟨s, h1, h2.up kk⟩) (fun k u H3 H4 Kt hk a3 yy kt => ?_) fun dl H3 ys ndl a3 edl hyl hyr => ?_⟩
    · obtain ⟨rfl, hu⟩ := yy
      obtain ⟨s, hs⟩ := get_some (xs := some) (i := k) (by omega)
      obtain ⟨pp, qq, rfl, epp, eqq⟩ := paired_at hsome hu hs
      walk_at "aw"
      refine ⟨rfl, ?_⟩
      walk_at "aw"
      refine w_ixT (SqT.of (a3.tup _ _ epp)) (at_nat (by decide) rfl) ?_
      exact kt _ _ (.refl _ _) ⟨s, hs, qq, rfl, a3.tup _ _ eqq⟩
    walk_at "aw"
    have hds : TupsAt H3 ys (some.map (·.2)) := paired_ix (by rw [hyl, List.length_map, hsl]) fun k u r hu hr => by
      obtain ⟨s, h1, h2⟩ := hyr k u hu
      rw [List.getElem?_map, h1] at hr
      cases hr
      exact h2
    refine ⟨dl, rfl, ys, some.map (·.2), edl, hds, by rw [List.length_map]; omega, fun d hd => ?_, fun rl ws H4 a4 nrl erl hrows => ?_⟩
    · obtain ⟨s, hs, rfl⟩ := List.mem_map.mp hd
      have := (mok1.dm s (hmem s hs)).l2
      omega
    have a34 := a3.trans a4
    have g24 := g2.new a34
    have nrl2 := a3.free (fun z => nomatch z) nrl
    have orl : Off rl st cs := (g2.ok.ne nrl2).1
    have hwl := hrows.length
    have hbl : (allR (some.map (·.2))).length ≤ 1728 := by
      have h1 := allR_len (ds := some.map (·.2)) (fun d hd => by
        obtain ⟨s, hs, rfl⟩ := List.mem_map.mp hd
        have := (mok1.dm s (hmem s hs)).l2
        omega) (some.map (·.2)).length (Nat.le_refl _)
      rw [List.take_length, List.length_map] at h1
      have : some.length = 0 ∨ some.length = 1 ∨ some.length = 2 ∨ some.length = 3 := by omega
      rcases this with z | z | z | z <;> · rw [z] at h1; omega
    have hrl : ∀ r ∈ allR (some.map (·.2)), r.length ≤ 3 := fun r hr => by
      have := allR_row (ds := some.map (·.2)) (some.map (·.2)).length (Nat.le_refl _) r (by rw [List.take_length]; exact hr)
      rw [List.length_map] at this
      omega
    have l1 := hdm.l1
    have l2 := hdm.l2
    refine ⟨rl, rfl, ⟨_, SqL.of erl⟩, kLc_all (walk_list (xs := ws)) (by omega) g24.ok (fun H' a => SqL.of (a.keep orl erl)) (fun k u H5 => ∃ r, (allR (some.map (·.2)))[k]? = .some r ∧ ∃ v ∈ d.2, TupAt H5 u (r ++ [v])) (fun k u H5 H6 kk hh => by
      obtain ⟨r, h1, v, h2, h3⟩ := hh
      exact ⟨r, h1, v, h2, h3.up kk⟩) (fun k u H5 H6 Kt hk g5 yy kt => ?_) fun rowl H5 zs nrowl g5 erowl hzl hzr => ?_⟩
    · obtain ⟨rfl, hu⟩ := yy
      obtain ⟨r, hr⟩ := get_some (xs := allR (some.map (·.2))) (i := k) (by omega)
      obtain ⟨ra, rfl, era⟩ := paired_at hrows hu hr
      have hrlen := hrl r (List.mem_of_getElem? hr)
      have eqd5 := ((g.trans g24).trans g5).tk _ _ eqd
      walk_at "aw"
      refine ⟨rfl, ?_⟩
      walk_at "aw"
      refine w_lenT (SqT.of eqd5) ?_
      rw [List.length_map]
      walk_at "aw"
      refine w_draw g5.ok (by omega) (by omega) fun n H7 n0 n1 g7 => ?_
      have hn : n.toNat < d.2.length := by omega
      refine w_ixT (SqT.of (g7.tk _ _ eqd5)) (v := .int d.2[n.toNat]) (at_nat n0 (by rw [List.getElem?_map, List.getElem?_eq_getElem hn]; rfl)) ?_
      walk_at "aw"
      refine w_tupD (by show 1 ≤ 100000; decide) fun t1 H8 nt1 a8 et1 => ?_
      refine w_catT' ((g5.trans g7).tk _ _ era |> a8.tup _ _) et1 (by rw [List.length_map]; show r.length + 1 ≤ 100000; omega) fun t2 H9 a9 et2 => ?_
      exact kt _ _ (g7.new (a8.trans a9)) ⟨r, hr, d.2[n.toNat], List.getElem_mem _, t2, rfl, by rw [et2, List.map_append]; rfl⟩
    walk_at "aw"
    obtain ⟨rows, hrowl, hrowP⟩ := list_choose (P := fun k u (row : List Int) => TupAt H5 u row ∧ ∃ r, (allR (some.map (·.2)))[k]? = .some r ∧ ∃ v ∈ d.2, row = r ++ [v]) fun k u hu => by
      obtain ⟨r, h1, v, h2, h3⟩ := hzr k u hu
      exact ⟨r ++ [v], h3, r, h1, v, h2, rfl⟩
    have hallr : rows.length = (allR (some.map (·.2))).length := by omega
    have g25 := g24.trans g5
    have g05 := g.trans g25
    have orowl : Off rowl st cs := (g24.ok.ne nrowl).1
    have evl5 := g25.keep ovl evl'
    have esl5 := ((Go.of g2.ok a34).trans g5).keep osl esl
    have hsome5 : Paired (fun u d => UnkP H5 u d) made some := L2.Paired.mapP hsome fun _ _ z => z.up ((Go.of g2.ok a34).trans g5).tk
    refine w_app rfl evl5 ?_
    walk_at "aw"
    refine ⟨sl, rfl, ⟨_, SqL.of esl5⟩, kLc_pure (walk_list (xs := made)) (by omega) (fun H' a => SqL.of (a.keep _ _ (fun z => nomatch z) esl5)) (fun _ => true) (fun k => .str ((some.map (·.1)).getD k Str.empty)) (fun k u H6 H7 Kt Kf hk a6 yy kt kf => ?_) fun nl2 H6 nnl2 a6 enl2 => ?_⟩
    · obtain ⟨rfl, hu⟩ := yy
      obtain ⟨s, hs⟩ := get_some (xs := some) (i := k) (by omega)
      obtain ⟨pp, qq, rfl, epp, eqq⟩ := paired_at hsome5 hu hs
      rw [getD_of (show (some.map (·.1))[k]? = .some s.1 by rw [List.getElem?_map, hs]; rfl)] at kt
      walk_at "aw"
      refine ⟨rfl, ?_⟩
      walk_at "aw"
      refine w_ixT (SqT.of (a6.tup _ _ epp)) (at_nat (by decide) rfl) ?_
      exact kt rfl _ (.refl _ _)
    have enl2' : H6 nl2 = .some (.lst ((some.map (·.1)).map V.str)) := by
      rw [enl2, filter_true, hsl]
      congr 2
      conv => rhs; rw [← range_getD (some.map (·.1)) Str.empty]
      rw [List.length_map, List.map_map]
      rfl
    walk_at "aw"
    refine w_tupL (SqL.of enl2') fun nt H7 nnt a7 ent => ?_
    walk_at "aw"
    refine w_tupL (SqL.of ((a6.trans a7).keep _ _ (fun z => nomatch z) erowl)) fun rt H8 nrt a8 ert => ?_
    walk_at "aw"
    refine w_tupD (by show 2 ≤ 100000; decide) fun it H9 nit a9 eit => ?_
    have a69 := a6.trans (a7.trans (a8.trans a9))
    have evl9 := a69.keep _ _ (fun z => nomatch z) evl5
    have hLl : L.length = i := by rw [hL.length, List.length_take]; omega
    have hvl := hvs.length
    walk_at "aw"
    refine w_append evl9 (by omega) ?_
    walk_at "aw"
    have kk : TK H9 (upd H9 vl (.lst (vs ++ [.ref it]))) := (Adv.lst evl9).tup
    have g09 := g05.new a69
    refine ⟨_, _, _, _, vs ++ [.ref it], L ++ [(some, rows)], rfl, g09.mutL ok nvl evl9, upd_same, ?_, ?_⟩
    · refine paired_app (L2.Paired.mapP hvs fun _ _ z => (z.up (g25.new a69).tk).up kk) (.cons ⟨it, nt, rt, zs, rfl, kk _ _ eit, kk _ _ ((a8.trans a9).tup _ _ ent), kk _ _ (a9.tup _ _ ert), ?_⟩ .nil)
      refine paired_ix (show zs.length = rows.length by omega) fun k u r hu hr => ?_
      exact ((hrowP k u r hu hr).1.up a69.tup).up kk
    · rw [List.take_add_one, hd]
      refine paired_app hL (.cons ⟨show 1 ≤ some.length by omega, show some.length ≤ 3 by omega, hndm, hmem, ?_⟩ .nil)
      refine paired_ix (show rows.length = (allR (some.map (·.2))).length by omega) fun k r fr hr hfr => ?_
      obtain ⟨u, hu⟩ := get_some (xs := zs) (i := k) (by have : k < rows.length := (List.getElem?_eq_some_iff.mp hr).1; omega)
      obtain ⟨_, r0, h1, v, h2, h3⟩ := hrowP k u r hu hr
      rw [hfr] at h1
      cases h1
      exact ⟨v, h2, h3⟩
  · obtain ⟨y4, y5, y6, y7, vs, L, rfl, g, evl', hvs, hL⟩ := pp
    rw [hul2, List.take_length] at hL
    walk_at "aw"
    refine w_tupL (SqL.of evl') fun t H4 nt a4 et => ?_
    exact q t L H4 (g.new a4) ⟨vs, et, L2.Paired.mapP hvs fun _ _ z => z.up a4.tup⟩ hL
end AW
/-! expressions that make data of a bounded depth -/
namespace AW
open PySem PySem.Spec PyProof.Rows L2 RZ
theorem w_slA {K : PySem.W.Frag} {p : Addr} {xs : List V} {lo hi : Option Int} {H : Hp} {Q : VK} (h : H p = some (.tup xs)) (q : ∀ t H', Adv [] H H' → H' t = some (.tup (cutV xs lo hi)) → Q (.ref t) H') : rSlA K (.ref p) lo hi H Q := by
  refine ⟨p, xs, rfl, SqT.of h, fun z => q p H (.refl _ _) ?_, fun _ => w_new fun r H' _ a e => q r H' a e⟩
  rw [h]
  unfold cutV
  rw [z.1, z.2]
  simp
def Nc (d : Nat) (D : PyData) : Prop := D.canLay0 = true ∧ D.depth ≤ d
/-- data of at most d levels, its tuples of at most 300 items -/
inductive Sw : Nat → PyData → Prop where
  | int {k : Nat} (n : Int) : Sw k (.int n)
  | bl {k : Nat} (b : Bool) : Sw k (.bool b)
  | non {k : Nat} : Sw k .none
  | str {k : Nat} {x : Str} (h : okS x) : Sw k (.str x)
  | tup {k : Nat} {ds : List PyData} (l : ds.length ≤ 300) (h : ∀ d ∈ ds, Sw k d) : Sw (k + 1) (.tuple ds)
theorem Sw.mono : ∀ {k : Nat} {D : PyData}, Sw k D → ∀ {e : Nat}, k ≤ e → Sw e D
  | _, _, .int n, _, _ => .int n
  | _, _, .bl b, _, _ => .bl b
  | _, _, .non, _, _ => .non
  | _, _, .str h, _, _ => .str h
  | _, _, .tup l h, 0, z => absurd z (by omega)
  | _, _, .tup l h, e + 1, z => .tup l fun d hd => (h d hd).mono (by omega)
def Dat (d : Nat) (H : Hp) (v : V) : Prop := ∃ D, Is H D v ∧ Sw d D
theorem Dat.up {d : Nat} {H H' : Hp} {v : V} (h : Dat d H v) (k : TK H H') : Dat d H' v := by
  obtain ⟨D, h, n⟩ := h
  exact ⟨D, h.up k, n⟩
theorem Dat.mono {d e : Nat} {H : Hp} {v : V} (h : Dat d H v) (z : d ≤ e) : Dat e H v := by
  obtain ⟨D, h, n⟩ := h
  exact ⟨D, h, n.mono z⟩
theorem Nc.int {d : Nat} (n : Int) : Nc d (.int n) := ⟨rfl, by simp [PyData.depth]⟩
theorem Nc.bl {d : Nat} (b : Bool) : Nc d (.bool b) := ⟨rfl, by simp [PyData.depth]⟩
theorem Nc.non {d : Nat} : Nc d .none := ⟨rfl, by simp [PyData.depth]⟩
theorem Nc.str {d : Nat} {x : Str} (h : okS x) : Nc d (.str x) := ⟨h, by simp [PyData.depth]⟩
theorem nc_all {d : Nat} : ∀ {ds : List PyData}, (∀ x ∈ ds, Nc d x) → PyData.canLayAll0 ds = true ∧ PyData.depthAll ds ≤ d
  | [], _ => ⟨rfl, by simp [PyData.depthAll]⟩
  | x :: ds, h => by
    obtain ⟨h1, h2⟩ := h x (List.mem_cons_self ..)
    obtain ⟨h3, h4⟩ := nc_all (ds := ds) fun y hy => h y (List.mem_cons_of_mem _ hy)
    refine ⟨by simp only [PyData.canLayAll0, h1, h3, Bool.and_self], ?_⟩
    simp only [PyData.depthAll]
    omega
theorem Nc.tup {d : Nat} {ds : List PyData} (h : ∀ x ∈ ds, Nc d x) : Nc (d + 1) (.tuple ds) := by
  obtain ⟨h1, h2⟩ := nc_all h
  exact ⟨h1, by simp only [PyData.depth]; omega⟩
theorem Nc.shaped {d : Nat} {D : PyData} (h : Nc d D) (z : d ≤ 64) : SeqAt.shaped D = true := by
  show (D.canLay0 && decide (D.depth ≤ 64)) = true
  rw [h.1, Bool.true_and]
  exact decide_eq_true (Nat.le_trans h.2 z)
theorem Sw.nc : ∀ {k : Nat} {D : PyData}, Sw k D → Nc k D
  | _, _, .int n => .int n
  | _, _, .bl b => .bl b
  | _, _, .non => .non
  | _, _, .str h => .str h
  | _, _, .tup _ h => .tup fun d hd => (h d hd).nc
def AllDat (d : Nat) (H : Hp) (xs : List V) : Prop := ∀ x ∈ xs, Dat d H x
theorem AllDat.up {d : Nat} {H H' : Hp} {xs : List V} (h : AllDat d H xs) (k : TK H H') : AllDat d H' xs := fun x hx => (h x hx).up k
theorem AllDat.mono {d e : Nat} {H : Hp} {xs : List V} (h : AllDat d H xs) (z : d ≤ e) : AllDat e H xs := fun x hx => (h x hx).mono z
theorem AllDat.is {d : Nat} {H : Hp} : ∀ {xs : List V}, AllDat d H xs → ∃ ds, IsAll H ds xs ∧ ∀ x ∈ ds, Sw d x
  | [], _ => ⟨[], .nil, fun _ h => nomatch h⟩
  | x :: xs, h => by
    obtain ⟨D, hd, hn⟩ := h x (List.mem_cons_self ..)
    obtain ⟨ds, hs, hm⟩ := AllDat.is (xs := xs) fun y hy => h y (List.mem_cons_of_mem _ hy)
    exact ⟨D :: ds, .cons hd hs, fun y hy => by
      rcases List.mem_cons.mp hy with rfl | hy
      · exact hn
      · exact hm y hy⟩
theorem Dat.tup {d : Nat} {H : Hp} {a : Addr} {xs : List V} (e : H a = some (.tup xs)) (h : AllDat d H xs) (hl : xs.length ≤ 300) : Dat (d + 1) H (.ref a) := by
  obtain ⟨ds, hs, hn⟩ := h.is
  exact ⟨.tuple ds, .tup e hs, .tup (by rw [← hs.length]; exact hl) hn⟩
section
variable {K : PySem.W.Frag} {σ : L2.St} {H : Hp} {te tf : TE} {ta : TA} {n m d e : Nat}
/-- a whole number comes out -/
def IE (te : TE) (σ : L2.St) (H : Hp) : Prop := ∀ (H' : Hp) (Q : VK), Adv [] H H' → (∀ (k : Int) H'', Adv [] H' H'' → Q (.int k) H'') → te σ H' Q
/-- a datum of at most d levels comes out -/
def DE (d : Nat) (te : TE) (σ : L2.St) (H : Hp) : Prop := ∀ (H' : Hp) (Q : VK), Adv [] H H' → (∀ v H'', Adv [] H' H'' → Dat d H'' v → Q v H'') → te σ H' Q
/-- a tuple of at most n data comes out -/
def TT' (d n : Nat) (te : TE) (σ : L2.St) (H : Hp) : Prop := ∀ (H' : Hp) (Q : VK), Adv [] H H' → (∀ a xs H'', Adv [] H' H'' → H'' a = some (.tup xs) → AllDat d H'' xs → xs.length ≤ n → Q (.ref a) H'') → te σ H' Q
theorem IE.de (h : IE te σ H) : DE d te σ H := fun H' Q a q => h H' Q a fun k H'' a' => q _ H'' a' ⟨_, .int k, .int k⟩
theorem TT'.de (h : TT' d n te σ H) (hn : n ≤ 300) : DE (d + 1) te σ H := fun H' Q a q => h H' Q a fun p xs H'' a' e dd hl => q _ H'' a' (.tup e dd (Nat.le_trans hl hn))
theorem DE.mono (h : DE d te σ H) (z : d ≤ e) : DE e te σ H := fun H' Q a q => h H' Q a fun v H'' a' dd => q v H'' a' (dd.mono z)
theorem TT'.mono (h : TT' d n te σ H) (z : d ≤ e) : TT' e n te σ H := fun H' Q a q => h H' Q a fun p xs H'' a' ee dd l => q p xs H'' a' ee (dd.mono z) l
end
end AW
namespace AW
open PySem PySem.Spec PyProof.Rows L2 RZ
open StX
local macro_rules | `(tactic| walk_at "aw1") => `(tactic| first
  | (with_reducible refine w_seq ?_) | (with_reducible refine w_asg ?_) | (with_reducible refine w_gname ?_) | (with_reducible refine w_op ?_) | (with_reducible refine w_un ?_)
  | ((with_reducible refine' w_var ?h ?_); (case h => rfl)) | (with_reducible refine w_c ?_)
  | (with_reducible refine w_I0 ?_) | (with_reducible refine w_U ?_) | (with_reducible refine w_cb ?_) | (with_reducible refine w_nil ?_) | (with_reducible refine w_cons ?_) | (with_reducible refine w_call ?_)
  | (with_reducible refine w_test ?_) | (with_reducible refine w_B ?_) | (with_reducible refine w_bl ?_) | (with_reducible refine w_not ?_) | (with_reducible refine w_yes ?_) | (with_reducible refine iteT ?_) | (with_reducible refine iteF ?_) | (with_reducible refine w_and ?_) | (with_reducible refine w_or ?_)
  | (with_reducible refine w_andV ?_) | (with_reducible refine w_orV ?_) | (with_reducible refine w_notV ?_) | (with_reducible refine w_if ?_)
  | (with_reducible refine w_int1 ?_) | (with_reducible refine w_int1b ?_) | (with_reducible refine w_abs ?_) | (with_reducible refine w_max2 ?_) | (with_reducible refine w_min2 ?_)
  | ((with_reducible refine w_eq ?h ?_); (case h => rfl)) | ((with_reducible refine w_ne ?h ?_); (case h => rfl)) | (with_reducible refine w_isN ?_) | (with_reducible refine w_isB ?_) | (with_reducible refine w_chain ?_)
  | (with_reducible refine w_ret ?_) | (with_reducible refine w_drop ?_) | (with_reducible refine w_ifS ?_) | (with_reducible refine w_gsub ?_) | (with_reducible refine w_augS ?_) | (with_reducible refine w_ipI ?_) | (with_reducible refine w_next ?_)
  | (with_reducible refine w_forR ?_) | (with_reducible refine w_forR2 ?_) | (with_reducible refine w_forL ?_) | (with_reducible refine w_forT ?_) | (with_reducible refine w_lcR ?_) | (with_reducible refine w_lcL ?_) | (with_reducible refine w_lcT ?_) | (with_reducible refine w_sl ?_) | (with_reducible refine w_part ?_) | (with_reducible refine w_noPart ?_) | (with_reducible refine w_in ?_)
  | (with_reducible refine w_gcons ?_) | (with_reducible refine w_gnil ?_) | (with_reducible refine w_lc3 ?_) | (with_reducible refine w_dcZ ?_) | (with_reducible refine w_dcT ?_) | (with_reducible refine w_dg ?_) | (with_reducible refine w_callK ?_) | (with_reducible refine w_dput ?_) | (with_reducible refine w_tup1 ?_)
  | (with_reducible refine w_tup ?_) | (with_reducible refine w_lst ?_)
  | ((with_reducible refine w_I ?h ?_); (case h => first | (exact Or.inr ⟨by decide, by decide⟩) | (exact Or.inl ⟨by decide, by decide⟩) | (show (0 : Int) < _; decide) | (exact ⟨by decide, by decide, by decide⟩) | assumption)))
local macro_rules | `(tactic| walk_at "aw") => `(tactic| repeat (walk_at "aw1"))
def nameIn (names : List Str) (D : PyData) : Bool := match D with
  | .str x => decide (x ∈ names)
  | _ => false
def txtD (D : PyData) : Str := match D with
  | .str x => x
  | _ => Str.empty
def domF (doms : List (Str × List Int)) (x : Str) : List Int := ((doms.find? fun d => decide (d.1 = x)).map (·.2)).getD []
def DomAt (H : Hp) (d : Str × List Int) (kv : Key × V) : Prop := kv.1 = .inr d.1 ∧ ∃ q, kv.2 = .ref q ∧ H q = some (.tup (d.2.map V.int))
theorem dom_up {H H' : Hp} {doms : List (Str × List Int)} {kvs : List (Key × V)} (h : Paired (DomAt H) doms kvs) (k : TK H H') : Paired (DomAt H') doms kvs := L2.Paired.mapP h fun _ _ ⟨h1, q, h2, h3⟩ => ⟨h1, q, h2, k _ _ h3⟩
theorem dom_get {H : Hp} : ∀ {doms : List (Str × List Int)} {kvs : List (Key × V)}, Paired (DomAt H) doms kvs → (doms.map (·.1)).Nodup → ∀ d ∈ doms, ∃ q, valV kvs (.inr d.1) = some (.ref q) ∧ H q = some (.tup (d.2.map V.int))
  | _, _, .nil, _, g, h => by simp at h
  | d0 :: G, kv :: kvs, .cons a t, nd, d, h => by
    rw [List.map_cons, List.nodup_cons] at nd
    rcases List.mem_cons.mp h with h | h
    · subst h
      obtain ⟨h1, r, h2, h3⟩ := a
      exact ⟨r, by rw [valV_pos h1, h2], h3⟩
    · obtain ⟨r, h2, h3⟩ := dom_get t nd.2 d h
      refine ⟨r, ?_, h3⟩
      rw [valV_neg fun z => nd.1 (by
        have := a.1.symm.trans z
        rw [Sum.inr.inj this]
        exact List.mem_map_of_mem h)]
      exact h2
/-- the dict at d tells the domains -/
def DomD (H : Hp) (d : Addr) (doms : List (Str × List Int)) : Prop := ∃ kd, H d = some (.dK kd) ∧ Paired (DomAt H) doms kd
theorem DomD.up {H H' : Hp} {d : Addr} {doms : List (Str × List Int)} (h : DomD H d doms) (a : Adv [] H H') : DomD H' d doms := by
  obtain ⟨kd, h1, h2⟩ := h
  exact ⟨kd, a.keep _ _ (fun z => nomatch z) h1, dom_up h2 a.tup⟩
theorem domF_mem {doms : List (Str × List Int)} (nd : (doms.map (·.1)).Nodup) {x : Str} (hx : x ∈ doms.map (·.1)) : (x, domF doms x) ∈ doms := by
  induction doms with
  | nil => simp at hx
  | cons d doms ih =>
    rw [List.map_cons, List.nodup_cons] at nd
    unfold domF
    by_cases e : d.1 = x
    · rw [List.find?_cons_of_pos (by rw [e]; exact decide_eq_true rfl), ← e]
      exact List.mem_cons_self ..
    · rw [List.find?_cons_of_neg (by rw [decide_eq_true_iff]; exact e)]
      rcases List.mem_cons.mp hx with h | h
      · exact absurd h.symm e
      · exact List.mem_cons_of_mem _ (ih nd.2 h)
theorem dom_is {H : Hp} : ∀ {doms : List (Str × List Int)} {kd : List (Key × V)}, Paired (DomAt H) doms kd → ∀ x : Str, (valV kd (Sum.inr x)).isSome = decide (x ∈ doms.map (·.1))
  | _, _, .nil, x => by simp [valV]
  | d :: doms, kv :: kd, .cons a t, x => by
    rw [List.map_cons]
    obtain ⟨k0, v0⟩ := kv
    have ha : k0 = .inr d.1 := a.1
    subst ha
    by_cases e : d.1 = x
    · rw [valV_pos (by rw [e])]
      simp [e]
    · rw [valV_neg fun z => e (Sum.inr.inj z), dom_is t x]
      rw [Bool.eq_iff_iff, decide_eq_true_iff, decide_eq_true_iff, List.mem_cons]
      constructor
      · exact .inr
      · rintro (z | z)
        · exact absurd z.symm e
        · exact z
theorem DomD.get {H : Hp} {d : Addr} {doms : List (Str × List Int)} (h : DomD H d doms) (nd : (doms.map (·.1)).Nodup) {x : Str} (hx : x ∈ doms.map (·.1)) : ∃ kd q, H d = some (.dK kd) ∧ valV kd (.inr x) = some (.ref q) ∧ H q = some (.tup ((domF doms x).map V.int)) := by
  obtain ⟨kd, h1, h2⟩ := h
  obtain ⟨q, h3, h4⟩ := dom_get h2 nd _ (domF_mem nd hx)
  exact ⟨kd, q, h1, h3, h4⟩
theorem DomD.has {H : Hp} {d : Addr} {doms : List (Str × List Int)} (h : DomD H d doms) (x : Str) : ∃ kd, H d = some (.dK kd) ∧ (valV kd (Sum.inr x)).isSome = decide (x ∈ doms.map (·.1)) := by
  obtain ⟨kd, h1, h2⟩ := h
  exact ⟨kd, h1, dom_is h2 x⟩
theorem iteT'' {c : Bool} {A B : Prop} (h : c = true) (a : A) : if c = true then A else B := by rw [if_pos h]; exact a
theorem iteF'' {c : Bool} {A B : Prop} (h : c = false) (a : B) : if c = true then A else B := by rw [if_neg (by rw [h]; decide)]; exact a
abbrev v_MOST_SEEN : V := .int 3
abbrev v_MOST_VIEW_ROWS : V := .int 256
def unkB (names : List Str) (D : PyData) (m : Int) : Bool := match D with
  | .tuple ds => decide (1 ≤ (ds.length : Int)) && decide ((ds.length : Int) ≤ m) && ds.all (nameIn names) && decide (ds.map txtD).Nodup
  | _ => false
def cellB (D : PyData) (col : List Int) : Bool := match D with
  | .int n => decide (n ∈ col)
  | _ => false
def rowB (cols : List (List Int)) (D : PyData) : Bool := match D with
  | .tuple ds => decide (ds.length = cols.length) && ((List.range cols.length).map fun i => cellB (ds.getD i .none) (cols.getD i [])).all id
  | _ => false
def rowI (D : PyData) : List Int := match D with
  | .tuple ds => ds.map fun d => match d with | .int n => n | _ => 0
  | _ => []
def ascR (rs : List (List Int)) : Bool := ((List.range (rs.length - 1)).map fun k => HT.lexLt (rs.getD k []) (rs.getD (k + 1) [])).all id
def manyR (cols : List (List Int)) : Nat := (cols.map (·.length)).foldl (· * ·) 1
def rowsB (cols : List (List Int)) (dom : List Int) (R : PyData) : Bool := match R with
  | .tuple rs => decide (1 ≤ (rs.length : Int)) && decide ((rs.length : Int) ≤ 256) && rs.all (rowB (cols ++ [dom])) && (ascR (rs.map fun r => (rowI r).dropLast) && decide (rs.length = manyR cols))
  | _ => false
def itmB (doms : List (Str × List Int)) (dom : List Int) (D : PyData) : Bool := match D with
  | .tuple [X, R] => unkB (doms.map (·.1)) X 3 && rowsB ((match X with | .tuple xs => xs | _ => []).map fun x => domF doms (txtD x)) dom R
  | _ => false
def sp_is_unknown (_ : PySem.W.Frag) : Sp := fun vs H Q _ => ∃ (d : Addr) (v : V), vs = [.ref d, v] ∧ ∃ doms D, DomD H d doms ∧ Is H D v ∧ Q (.bl (nameIn (doms.map (·.1)) D)) H
def sp_are_unknowns (_ : PySem.W.Frag) : Sp := fun vs H Q _ => ∃ (d : Addr) (v : V) (m : Int), vs = [.ref d, v, .int m] ∧ ∃ doms D, DomD H d doms ∧ Is H D v ∧ m ≤ 100 ∧ ∀ H', Adv [] H H' → Q (.bl (unkB (doms.map (·.1)) D m)) H'
def sp_ascends (_ : PySem.W.Frag) : Sp := fun vs H Q _ => ∃ (l : Addr), vs = [.ref l] ∧ ∃ us rs, H l = some (.lst us) ∧ TupsAt H us rs ∧ rs.length ≤ 1000 ∧ ∀ H', Adv [] H H' → Q (.bl (ascR rs)) H'
def sp__is_row (_ : PySem.W.Frag) : Sp := fun vs H Q _ => ∃ (l : Addr) (v : V), vs = [.ref l, v] ∧ ∃ us cols D, H l = some (.lst us) ∧ TupsAt H us cols ∧ cols.length ≤ 100 ∧ Is H D v ∧ ∀ H', Adv [] H H' → Q (.bl (rowB cols D)) H'
def sp__many_tuples (_ : PySem.W.Frag) : Sp := fun vs H Q _ => ∃ (l : Addr), vs = [.ref l] ∧ ∃ us cols, H l = some (.lst us) ∧ TupsAt H us cols ∧ cols.length ≤ 3 ∧ (∀ c ∈ cols, c.length ≤ 12) ∧ Q (.int (manyR cols : Nat)) H
def sp__is_item (_ : PySem.W.Frag) : Sp := fun vs H Q _ => ∃ (d q : Addr) (v : V), vs = [.ref d, .ref q, v] ∧ ∃ doms w dom D n, DomD H d doms ∧ MdlOk w doms ∧ w ≤ 12 ∧ H q = some (.tup (dom.map V.int)) ∧ Is H D v ∧ Sw n D ∧ n ≤ 60 ∧ ∀ H', Adv [] H H' → Q (.bl (itmB doms dom D)) H'
theorem w_lcM {K : PySem.W.Frag} {ta : TA} {g : TG} {tt : TT} {te : TE} {vs : List Nat} {σ : L2.St} {H : Hp} {Q : VK} (h : ta σ H fun ws H1 => ∃ (a b : Addr) (xs ys : List V), ws = [.ref a, .ref b] ∧ SqT K H1 a xs ∧ SqL K H1 b ys ∧ kLc (Itzm K a b) g tt te vs σ Q H1) : tLc (iZipM K ta) g tt te vs σ H Q := h
theorem nc_ints (ns : List Int) : Nc 1 (.tuple (ns.map .int)) := .tup fun x hx => by
  obtain ⟨n, _, rfl⟩ := List.mem_map.mp hx
  exact .int n
theorem any_int (n : Int) (col : List Int) : ((col.map PyData.int).any fun z => PyData.eqv z (.int n)) = decide (n ∈ col) := by
  rw [Bool.eq_iff_iff, List.any_eq_true, decide_eq_true_iff]
  constructor
  · rintro ⟨z, h1, h2⟩
    obtain ⟨m, hm, rfl⟩ := List.mem_map.mp h1
    have : m = n := by simpa [PyData.eqv] using h2
    exact this ▸ hm
  · intro h
    exact ⟨.int n, List.mem_map_of_mem h, by simp [PyData.eqv]⟩
theorem w_inI {K : PySem.W.Frag} {n : Int} {p : Addr} {col : List Int} {H : Hp} {Q : VK} (e : H p = some (.tup (col.map V.int))) (q : Q (.bl (decide (n ∈ col))) H) : rInT K (.int n) (.ref p) H Q := by
  refine ⟨.int n, col.map .int, .int n, .tup (SqT.of e) (IsAll.ints col).dp, (Nc.int (d := 0) n).shaped (by decide), (nc_ints col).shaped (by decide), ?_⟩
  rw [any_int]
  exact q
def t_is_unknown (K : PySem.W.Frag) : TS := (tRet (tAndV (tOp rIsTyB (tCB (rTyp K) (tCons (tVar 1) tNil)) (tC (.ty "str"))) (tDIn (tVar 1) (tVar 0))))
def t_are_unknowns (K : PySem.W.Frag) : TS := (tSeq (tIfS (tOr (tNot (tB (tCall (sp_is_tuple K) [] E0 (tCons (tVar 1) (tCons (tC (.int 1)) (tCons (tVar 2) tNil)))))) (tNot (tB (tCB (rAll K) (tCons (tLc (iTup K (tVar 1)) (gName 3) tYes (tCall (sp_is_unknown K) [] E0 (tCons (tVar 0) (tCons (tVar 3) tNil))) [3]) tNil))))) (tRet (tC (.bl false))) tNext)
  (tRet (tOp rEq (tLenSetS K (tVar 1)) (tCB (rLen1 K) (tCons (tVar 1) tNil)))))
def t_ascends (K : PySem.W.Frag) : TS := (tRet (tCB (rAll K) (tCons (tLc (iRng1 (tCons (tOp rSubI (tCB (rLen1 K) (tCons (tVar 0) tNil)) (tC (.int 1))) tNil)) (gName 1) tYes (tOp (rLtT K) (tOp (rIxA K) (tVar 0) (tVar 1)) (tOp (rIxA K) (tVar 0) (tOp rAddI (tVar 1) (tC (.int 1))))) [1]) tNil)))
def t__is_row (K : PySem.W.Frag) : TS := (tSeq (tIfS (tNot (tB (tCall (sp_is_tuple K) [] E0 (tCons (tVar 1) (tCons (tCB (rLen1 K) (tCons (tVar 0) tNil)) (tCons (tCB (rLen1 K) (tCons (tVar 0) tNil)) tNil)))))) (tRet (tC (.bl false))) tNext)
  (tRet (tCB (rAll K) (tCons (tLc (iZipM K (tCons (tVar 1) (tCons (tVar 0) tNil))) (gTup K 2 (gCons (gName 2) (gCons (gName 3) gNil))) tYes (tAndV (tOp rIsTyB (tCB (rTyp K) (tCons (tVar 2) tNil)) (tC (.ty "int"))) (tOp (rInT K) (tVar 2) (tVar 3))) [2, 3]) tNil))))
def t__many_tuples (K : PySem.W.Frag) : TS := (tSeq (tAsg (tC (.int 1)) (gName 1))
  (tSeq (tFor (iList K (tVar 0)) (gName 2)
  (tAsg (tOp rMulI (tVar 1) (tCB (rLen1 K) (tCons (tVar 2) tNil))) (gName 1)))
  (tRet (tVar 1))))
theorem bls_map {n : Nat} (f : Nat → Bool) : ((List.range n).filter fun _ => true).map (fun i => V.bl (f i)) = ((List.range n).map f).map V.bl := by
  rw [filter_true, List.map_map]
  rfl
theorem all_range {α : Type} (xs : List α) (f : α → Bool) (d : α) : ((List.range xs.length).map fun i => f (xs.getD i d)).all id = xs.all f := by
  rw [List.all_map, Bool.eq_iff_iff, List.all_eq_true, List.all_eq_true]
  constructor
  · intro h x hx
    obtain ⟨i, hi, rfl⟩ := List.mem_iff_getElem.mp hx
    have := h i (List.mem_range.mpr hi)
    show f xs[i] = true
    rw [← getD_of (d := d) (List.getElem?_eq_getElem hi)]
    exact this
  · intro h i hi
    have hi := List.mem_range.mp hi
    show f (xs.getD i d) = true
    rw [getD_of (List.getElem?_eq_getElem hi)]
    exact h _ (List.getElem_mem hi)
theorem kLcR_sub {g : TG} {tt : TT} {te : TE} {vs : List Nat} {σ : L2.St} {Q : VK} {H1 : Hp} {n : Nat} {z : Int} (hz0 : z.toNat = n ∧ -1000 ≤ z ∧ z ≤ 100000) (hn : n ≤ 100000) (B : Nat → Bool) (v : Nat → V)
    (step : ∀ i H (Kt : V → Hp → Prop) (Kf : Hp → Prop), i < n → Adv [] H1 H → (B i = true → ∀ H4, Adv [] H H4 → Kt (v i) H4) → (B i = false → ∀ H3, Adv [] H H3 → Kf H3) →
      g (.int (i : Nat)) (wipe σ vs) H fun σ2 H2 => wipe σ2 vs = wipe σ vs ∧ tt σ2 H2 fun b H3 => if b = true then te σ2 H3 Kt else Kf H3)
    (k : ∀ p H', H1 p = none → Adv [] H1 H' → H' p = some (.lst (((List.range n).filter B).map v)) → Q (.ref p) H') : kLcR g tt te vs σ Q [.int z] H1 := by
  obtain ⟨hz, _, _⟩ := hz0
  refine ⟨z, rfl, by omega, by omega, ?_⟩
  rw [hz]
  refine kLc_pure walk_range hn (fun _ _ => trivial) B v (fun i x H H' Kt Kf hi g1 y kt kf => ?_) k
  obtain ⟨rfl, rfl⟩ := y
  show g (.int ((0 : Int) + (i : Nat))) _ _ _
  rw [Int.zero_add]
  exact step i H' Kt Kf hi g1 kt kf
theorem len_is_unknown {K : PySem.W.Frag} : ∀ (vs : List V) (H : Hp) (Q : VK) (E : XK), sp_is_unknown K vs H Q E → vs.length = 2 := fun vs H Q E h => by
  obtain ⟨_, _, rfl, _⟩ := h
  rfl
def kDIn (x y : V) (H : Hp) (Q : VK) : Prop := ∃ a o, x = .ref a ∧ DGet H a y o ∧ Q (.bl o.isSome) H
theorem w_din {ty td : TE} {σ : L2.St} {H : Hp} {Q : VK} (h : ty σ H fun y H1 => td σ H1 fun x H2 => kDIn x y H2 Q) : tDIn ty td σ H Q := h
theorem pure_is_unknown {K : PySem.W.Frag} (vs : List V) (H : Hp) (Q : VK) (E : XK) (h : sp_is_unknown K vs H Q E) : t_is_unknown K { nx := fun _ H' => Q .non H', rt := Q } (start ["domains", "value"] vs) H := by
  obtain ⟨d, v, rfl, doms, D, hd, hD, q⟩ := h
  show t_is_unknown K _ [some (.ref d), some v] H
  unfold t_is_unknown
  walk_at "aw"
  refine w_typ hD ?_
  walk_at "aw"
  refine w_isTy ?_
  walk_at "aw"
  cases hD with
  | str x =>
    refine w_iteB (fun _ => ?_) fun h => absurd rfl h
    obtain ⟨kvs, ed, hk⟩ := hd.has x
    walk_at "aw"
    refine w_din ?_
    walk_at "aw"
    refine ⟨d, _, rfl, DGet.k (k := Sum.inr x) ed, ?_⟩
    rw [hk]
    exact q
  | tup e t => exact w_iteB (fun h => absurd h (by simp [tyD])) fun _ => q
  | non => exact w_iteB (fun h => absurd h (by simp [tyD])) fun _ => q
  | bl b => exact w_iteB (fun h => absurd h (by simp [tyD])) fun _ => q
  | int x => exact w_iteB (fun h => absurd h (by simp [tyD])) fun _ => q
theorem len_are_unknowns {K : PySem.W.Frag} : ∀ (vs : List V) (H : Hp) (Q : VK) (E : XK), sp_are_unknowns K vs H Q E → vs.length = 3 := fun vs H Q E h => by
  obtain ⟨_, _, _, rfl, _⟩ := h
  rfl
theorem lenIn_tup {ds : List PyData} {f m : Int} : lenIn (.tuple ds) f m = (decide (f ≤ (ds.length : Int)) && decide ((ds.length : Int) ≤ m)) := rfl
theorem names_txt {H : Hp} {names : List Str} : ∀ {ds : List PyData} {vs : List V}, IsAll H ds vs → ds.all (nameIn names) = true → vs = (ds.map txtD).map V.str
  | [], _, .nil, _ => rfl
  | d :: ds, _, .cons h1 h2, f => by
    rw [List.all_cons, Bool.and_eq_true] at f
    have e := names_txt h2 f.2
    cases h1 with
    | str x => rw [e]; rfl
    | tup _ _ => exact absurd f.1 (by simp [nameIn])
    | int _ => exact absurd f.1 (by simp [nameIn])
    | bl _ => exact absurd f.1 (by simp [nameIn])
    | non => exact absurd f.1 (by simp [nameIn])
theorem unkB_no {names : List Str} {D : PyData} {m : Int} (h : lenIn D 1 m = false) : unkB names D m = false := by
  unfold unkB
  split
  · rw [lenIn_tup] at h
    rw [h, Bool.false_and, Bool.false_and]
  · rfl
theorem unk_tup {D : PyData} {f m : Int} (h : lenIn D f m = true) : ∃ ds, D = .tuple ds := by
  unfold lenIn at h
  split at h
  · exact ⟨_, rfl⟩
  · exact absurd h (by decide)
theorem pure_are_unknowns {K : PySem.W.Frag} (vs : List V) (H : Hp) (Q : VK) (E : XK) (h : sp_are_unknowns K vs H Q E) : t_are_unknowns K { nx := fun _ H' => Q .non H', rt := Q } (start ["domains", "value", "most", "x"] vs) H := by
  obtain ⟨d, v, m, rfl, doms, D, hd, hD, hm, q⟩ := h
  show t_are_unknowns K _ [some (.ref d), some v, some (.int m), none] H
  unfold t_are_unknowns
  walk_at "aw"
  refine ⟨v, 1, m, rfl, _, hD, ?_⟩
  walk_at "aw"
  by_cases hl : lenIn D 1 m = true
  case neg =>
    rw [Bool.not_eq_true] at hl
    refine iteT'' (by rw [hl]; rfl) ?_
    walk_at "aw"
    have q1 := q H (.refl _ _)
    rw [unkB_no hl] at q1
    exact q1
  obtain ⟨ds, rfl⟩ := unk_tup hl
  obtain ⟨t, xs, rfl, et, hxs⟩ := hD.tup_inv
  have hxl := hxs.length
  have q0 := fun H' a' => q H' a'
  unfold unkB at q0
  simp only [] at q0
  rw [← lenIn_tup (f := 1), hl, Bool.true_and] at q0
  refine iteF'' (by rw [hl]; rfl) ?_
  rw [lenIn_tup, Bool.and_eq_true, decide_eq_true_iff, decide_eq_true_iff] at hl
  walk_at "aw"
  refine ⟨t, rfl, ⟨_, SqT.of et⟩, kLc_pure (walk_tup (xs := xs)) (by omega) (fun H' g => SqT.of (g.tup _ _ et)) (fun _ => true) (fun i => .bl (nameIn (doms.map (·.1)) (ds.getD i .none))) (fun i x H2 H3 Kt Kf hi g2 y kt kf => ?_) fun l H1 nl g1 el => ?_⟩
  · obtain ⟨rfl, y1⟩ := y
    obtain ⟨dt, z1, hdt⟩ := hxs.get y1
    rw [getD_of z1] at kt
    walk_at "aw"
    refine ⟨rfl, ?_⟩
    walk_at "aw"
    exact ⟨d, x, rfl, doms, dt, hd.up g2, hdt.up g2.tup, kt rfl _ (.refl _ _)⟩
  rw [bls_map fun i => nameIn (doms.map (·.1)) (ds.getD i .none), hxl] at el
  walk_at "aw"
  refine ⟨l, _, rfl, SqL.of el, ?_⟩
  rw [all_range]
  have q1 := q0 H1 g1
  walk_at "aw"
  by_cases ha : ds.all (nameIn (doms.map (·.1))) = true
  · refine iteF'' (by rw [ha]; rfl) ?_
    rw [ha, Bool.true_and] at q1
    walk_at "aw"
    have e1 := g1.tup _ _ et
    rw [names_txt hxs ha] at e1
    refine ⟨.ref t, rfl, t, ds.map txtD, rfl, SqT.of e1, by rw [List.length_map]; omega, fun c hc => ?_⟩
    walk_at "aw"
    refine w_lenT (SqT.of e1) ?_
    walk_at "aw"
    have e2 : decide (V.int (c : Nat) = V.int (((ds.map txtD).map V.str).length : Nat)) = decide (ds.map txtD).Nodup := by
      rw [List.length_map, Bool.eq_iff_iff, decide_eq_true_iff, decide_eq_true_iff, ← hc]
      constructor
      · intro h
        have := V.int.inj h
        omega
      · intro h
        rw [h]
    rw [e2]
    exact q1
  · rw [Bool.not_eq_true] at ha
    refine iteT'' (by rw [ha]; rfl) ?_
    rw [ha, Bool.false_and] at q1
    walk_at "aw"
    exact q1
theorem len_ascends {K : PySem.W.Frag} : ∀ (vs : List V) (H : Hp) (Q : VK) (E : XK), sp_ascends K vs H Q E → vs.length = 1 := fun vs H Q E h => by
  obtain ⟨_, rfl, _⟩ := h
  rfl
theorem pure_ascends {K : PySem.W.Frag} (vs : List V) (H : Hp) (Q : VK) (E : XK) (h : sp_ascends K vs H Q E) : t_ascends K { nx := fun _ H' => Q .non H', rt := Q } (start ["items", "k"] vs) H := by
  obtain ⟨l, rfl, us, rs, e, hus, hl, q⟩ := h
  have hul := hus.length
  show t_ascends K _ [some (.ref l), none] H
  unfold t_ascends
  walk_at "aw"
  refine w_lenL (SqL.of e) ?_
  walk_at "aw"
  refine kLcR_sub (n := rs.length - 1) (z := ((us.length : Nat) : Int) - 1) (by omega) (by omega) (fun _ => true) (fun i => .bl (HT.lexLt (rs.getD i []) (rs.getD (i + 1) []))) (fun i H3 Kt Kf hi g2 kt kf => ?_) fun l2 H1 nl g1 el => ?_
  · have e3 := g2.keep _ _ (fun z => nomatch z) e
    obtain ⟨r1, hr1⟩ := get_some (xs := rs) (i := i) (by omega)
    obtain ⟨u1, hu1⟩ := get_some (xs := us) (i := i) (by omega)
    obtain ⟨p1, rfl, ep1⟩ := paired_at hus hu1 hr1
    obtain ⟨r2, hr2⟩ := get_some (xs := rs) (i := i + 1) (by omega)
    obtain ⟨u2, hu2⟩ := get_some (xs := us) (i := i + 1) (by omega)
    obtain ⟨p2, rfl, ep2⟩ := paired_at hus hu2 hr2
    rw [getD_of hr1, getD_of hr2] at kt
    walk_at "aw"
    refine ⟨rfl, ?_⟩
    walk_at "aw"
    refine .inl (w_ixL (SqL.of e3) (at_of (j := i) (by omega) hu1) ?_)
    walk_at "aw"
    refine .inl (w_ixL (SqL.of e3) (at_of (j := i + 1) (by omega) hu2) ?_)
    exact ⟨p1, p2, r1, r2, rfl, rfl, SqT.of (g2.tup _ _ ep1), SqT.of (g2.tup _ _ ep2), kt rfl _ (.refl _ _)⟩
  · rw [bls_map fun i => HT.lexLt (rs.getD i []) (rs.getD (i + 1) [])] at el
    walk_at "aw"
    exact ⟨l2, _, rfl, SqL.of el, q H1 g1⟩
theorem len__many_tuples {K : PySem.W.Frag} : ∀ (vs : List V) (H : Hp) (Q : VK) (E : XK), sp__many_tuples K vs H Q E → vs.length = 1 := fun vs H Q E h => by
  obtain ⟨_, rfl, _⟩ := h
  rfl
theorem manyR_take {cols : List (List Int)} {i : Nat} {c : List Int} (h : cols[i]? = some c) : manyR (cols.take (i + 1)) = manyR (cols.take i) * c.length := by
  unfold manyR
  rw [List.take_add_one, h, List.map_append, List.foldl_append]
  rfl
theorem pure__many_tuples {K : PySem.W.Frag} (vs : List V) (H : Hp) (Q : VK) (E : XK) (h : sp__many_tuples K vs H Q E) : t__many_tuples K { nx := fun _ H' => Q .non H', rt := Q } (start ["columns", "many", "column"] vs) H := by
  obtain ⟨l, rfl, us, cols, e, hus, h3, h12, q⟩ := h
  have hul := hus.length
  show t__many_tuples K _ [some (.ref l), none, none] H
  unfold t__many_tuples
  walk_at "aw"
  refine kForL_i (fun i σ' H' => ∃ (y2 : Option V), σ' = [some (.ref l), some (.int (manyR (cols.take i) : Nat)), y2] ∧ H' = H) (SqL.of e) ⟨_, rfl, rfl⟩ (fun i σ' H' _ pp => by obtain ⟨_, _, rfl⟩ := pp; exact SqL.of e) (fun i u σ' H' hu pp => ?_) fun σ' H' pp => ?_
  · obtain ⟨y2, rfl, rfl⟩ := pp
    have hil := (List.getElem?_eq_some_iff.mp hu).1
    obtain ⟨c, hc⟩ := get_some (xs := cols) (i := i) (by omega)
    obtain ⟨p, rfl, ep⟩ := paired_at hus hu hc
    have hcl := h12 _ (List.mem_of_getElem? hc)
    walk_at "aw"
    refine w_lenT (SqT.of ep) ?_
    rw [List.length_map]
    walk_at "aw"
    refine w_I (.inr ⟨by omega, by omega⟩) ?_
    walk_at "aw"
    refine ⟨some (.ref p), ?_, rfl⟩
    rw [manyR_take hc, Int.natCast_mul]
    rfl
  · obtain ⟨y2, rfl, rfl⟩ := pp
    rw [hul, List.take_length]
    walk_at "aw"
    exact q
theorem row_no {cols : List (List Int)} {D : PyData} (h : lenIn D (cols.length : Nat) (cols.length : Nat) = false) : rowB cols D = false := by
  unfold rowB
  split
  · rename_i ds
    have hl : ds.length ≠ cols.length := fun z => by simp [lenIn, z] at h
    rw [decide_eq_false hl, Bool.false_and]
  · rfl
theorem lenIn_eq {D : PyData} {n : Nat} (h : lenIn D (n : Nat) (n : Nat) = true) : ∃ ds, D = .tuple ds ∧ ds.length = n := by
  obtain ⟨ds, rfl⟩ := unk_tup h
  rw [lenIn_tup, Bool.and_eq_true, decide_eq_true_iff, decide_eq_true_iff] at h
  exact ⟨ds, rfl, by omega⟩
theorem len__is_row {K : PySem.W.Frag} : ∀ (vs : List V) (H : Hp) (Q : VK) (E : XK), sp__is_row K vs H Q E → vs.length = 2 := fun vs H Q E h => by
  obtain ⟨_, _, rfl, _⟩ := h
  rfl
theorem pure__is_row {K : PySem.W.Frag} (vs : List V) (H : Hp) (Q : VK) (E : XK) (h : sp__is_row K vs H Q E) : t__is_row K { nx := fun _ H' => Q .non H', rt := Q } (start ["columns", "value", "v", "column"] vs) H := by
  obtain ⟨l, v, rfl, us, cols, D, e, hus, hc, hD, q⟩ := h
  have hul := hus.length
  show t__is_row K _ [some (.ref l), some v, none, none] H
  unfold t__is_row
  walk_at "aw"
  refine w_lenL (SqL.of e) ?_
  walk_at "aw"
  refine w_lenL (SqL.of e) ?_
  rw [hul]
  walk_at "aw"
  refine ⟨v, _, _, rfl, D, hD, ?_⟩
  walk_at "aw"
  cases hl : lenIn D (cols.length : Nat) (cols.length : Nat) with
  | false =>
    refine iteT'' rfl ?_
    walk_at "aw"
    have q1 := q H (.refl _ _)
    rw [row_no hl] at q1
    exact q1
  | true =>
  refine iteF'' rfl ?_
  walk_at "aw"
  obtain ⟨ds, rfl, hds⟩ := lenIn_eq hl
  obtain ⟨t, xs, rfl, et, hxs⟩ := hD.tup_inv
  have hxl := hxs.length
  refine w_lcM ?_
  walk_at "aw"
  refine ⟨t, l, xs, us, rfl, SqT.of et, SqL.of e, kLc_pure (walk_zipM (xs := xs) (ys := us) (by omega)) (by omega) (fun H' g => ⟨SqT.of (g.tup _ _ et), SqL.of (g.keep _ _ (fun z => nomatch z) e)⟩) (fun _ => true) (fun i => .bl (cellB (ds.getD i .none) (cols.getD i []))) (fun i x H2 H3 Kt Kf hi g2 y kt kf => ?_) fun l2 H1 nl g1 el => ?_⟩
  · obtain ⟨T, u, z, rfl, nT, rfl, hu, hz⟩ := y
    dsimp only at hu hz
    obtain ⟨dt, hdt, hud⟩ := hxs.get hu
    obtain ⟨col, hcol⟩ := get_some (xs := cols) (i := i) (by omega)
    obtain ⟨pc, rfl, epc⟩ := paired_at hus hz hcol
    rw [getD_of hdt, getD_of hcol] at kt
    have aT : Adv [] H2 (upd H2 T (.tup [u, .ref pc])) := Adv.new nT
    refine w_gtup (SqT.of upd_same) rfl ?_
    walk_at "aw"
    refine ⟨rfl, ?_⟩
    walk_at "aw"
    refine w_typ (hud.up (g2.trans aT).tup) ?_
    walk_at "aw"
    refine w_isTy ?_
    walk_at "aw"
    cases hud with
    | int n =>
      refine iteT'' rfl ?_
      walk_at "aw"
      refine w_inI ((g2.trans aT).tup _ _ epc) ?_
      exact kt rfl _ aT
    | tup e1 t1 =>
      refine iteF'' (by simp [tyD]) ?_
      have := kt rfl _ aT
      simpa [tyD, cellB] using this
    | non => exact iteF'' (by simp [tyD]) (by simpa [tyD, cellB] using kt rfl _ aT)
    | bl b => exact iteF'' (by simp [tyD]) (by simpa [tyD, cellB] using kt rfl _ aT)
    | str x => exact iteF'' (by simp [tyD]) (by simpa [tyD, cellB] using kt rfl _ aT)
  rw [bls_map fun i => cellB (ds.getD i .none) (cols.getD i []), hxl, hds] at el
  walk_at "aw"
  refine ⟨l2, _, rfl, SqL.of el, ?_⟩
  have q1 := q H1 g1
  rw [show rowB cols (.tuple ds) = ((List.range cols.length).map fun i => cellB (ds.getD i .none) (cols.getD i [])).all id by simp only [rowB, decide_eq_true hds, Bool.true_and]] at q1
  exact q1
end AW
namespace AW
open PySem PySem.Spec PyProof.Rows L2 RZ
open StX
local macro_rules | `(tactic| walk_at "aw1") => `(tactic| first
  | (with_reducible refine w_seq ?_) | (with_reducible refine w_asg ?_) | (with_reducible refine w_gname ?_) | (with_reducible refine w_op ?_) | (with_reducible refine w_un ?_)
  | ((with_reducible refine' w_var ?h ?_); (case h => rfl)) | (with_reducible refine w_c ?_)
  | (with_reducible refine w_I0 ?_) | (with_reducible refine w_U ?_) | (with_reducible refine w_cb ?_) | (with_reducible refine w_nil ?_) | (with_reducible refine w_cons ?_) | (with_reducible refine w_call ?_)
  | (with_reducible refine w_test ?_) | (with_reducible refine w_B ?_) | (with_reducible refine w_bl ?_) | (with_reducible refine w_not ?_) | (with_reducible refine w_yes ?_) | (with_reducible refine iteT ?_) | (with_reducible refine iteF ?_) | (with_reducible refine w_and ?_) | (with_reducible refine w_or ?_)
  | (with_reducible refine w_andV ?_) | (with_reducible refine w_orV ?_) | (with_reducible refine w_notV ?_) | (with_reducible refine w_if ?_)
  | (with_reducible refine w_int1 ?_) | (with_reducible refine w_int1b ?_) | (with_reducible refine w_abs ?_) | (with_reducible refine w_max2 ?_) | (with_reducible refine w_min2 ?_)
  | ((with_reducible refine w_eq ?h ?_); (case h => rfl)) | ((with_reducible refine w_ne ?h ?_); (case h => rfl)) | (with_reducible refine w_isN ?_) | (with_reducible refine w_isB ?_) | (with_reducible refine w_chain ?_)
  | (with_reducible refine w_ret ?_) | (with_reducible refine w_drop ?_) | (with_reducible refine w_ifS ?_) | (with_reducible refine w_gsub ?_) | (with_reducible refine w_augS ?_) | (with_reducible refine w_ipI ?_) | (with_reducible refine w_next ?_)
  | (with_reducible refine w_forR ?_) | (with_reducible refine w_forR2 ?_) | (with_reducible refine w_forL ?_) | (with_reducible refine w_forT ?_) | (with_reducible refine w_lcR ?_) | (with_reducible refine w_lcL ?_) | (with_reducible refine w_lcT ?_) | (with_reducible refine w_sl ?_) | (with_reducible refine w_part ?_) | (with_reducible refine w_noPart ?_) | (with_reducible refine w_in ?_)
  | (with_reducible refine w_gcons ?_) | (with_reducible refine w_gnil ?_) | (with_reducible refine w_lc3 ?_) | (with_reducible refine w_dcZ ?_) | (with_reducible refine w_dcT ?_) | (with_reducible refine w_dg ?_) | (with_reducible refine w_callK ?_) | (with_reducible refine w_dput ?_) | (with_reducible refine w_tup1 ?_)
  | (with_reducible refine w_tup ?_) | (with_reducible refine w_lst ?_)
  | ((with_reducible refine w_I ?h ?_); (case h => first | (exact Or.inr ⟨by decide, by decide⟩) | (exact Or.inl ⟨by decide, by decide⟩) | (show (0 : Int) < _; decide) | (exact ⟨by decide, by decide, by decide⟩) | assumption)))
local macro_rules | `(tactic| walk_at "aw") => `(tactic| repeat (walk_at "aw1"))
theorem six_last (n : Nat) : HT.sIx n n (some (-1)) = n - 1 := by
  unfold HT.sIx
  simp only []
  rw [if_pos (by decide)]
  omega
theorem cut_last (xs : List V) : cutV xs none (some (-1)) = xs.dropLast := by
  unfold cutV
  rw [HT.sIx_none, List.drop_zero, Nat.sub_zero, List.dropLast_eq_take, six_last]
def t__is_item (K : PySem.W.Frag) : TS := (tSeq (tIfS (tOr (tNot (tB (tCall (sp_is_tuple K) [] E0 (tCons (tVar 2) (tCons (tC (.int 2)) (tCons (tC (.int 2)) tNil)))))) (tNot (tB (tCall (sp_are_unknowns K) [] E0 (tCons (tVar 0) (tCons (tOp (rIxT K) (tVar 2) (tC (.int 0))) (tCons (tC v_MOST_SEEN) tNil))))))) (tRet (tC (.bl false))) tNext)
  (tSeq (tAsg (tVar 2) (gTup K 2 (gCons (gName 3) (gCons (gName 4) gNil))))
  (tSeq (tAsg (tOp rCat (tLc (iTup K (tVar 3)) (gName 6) tYes (tDGet (tVar 0) (tVar 6)) [6]) (tLst (tCons (tVar 1) tNil))) (gName 5))
  (tSeq (tIfS (tOr (tNot (tB (tCall (sp_is_tuple K) [] E0 (tCons (tVar 4) (tCons (tC (.int 1)) (tCons (tC v_MOST_VIEW_ROWS) tNil)))))) (tNot (tB (tCB (rAll K) (tCons (tLc (iTup K (tVar 4)) (gName 7) tYes (tCall (sp__is_row K) [] E0 (tCons (tVar 5) (tCons (tVar 7) tNil))) [7]) tNil))))) (tRet (tC (.bl false))) tNext)
  (tSeq (tAsg (tLc (iTup K (tVar 4)) (gName 7) tYes (tSl (rSlA K) (tVar 7) tNoPart (tPart (tUn rNeg (tC (.int 1))))) [7]) (gName 8))
  (tRet (tAndV (tCall (sp_ascends K) [] E0 (tCons (tVar 8) tNil)) (tOp rEq (tCB (rLen1 K) (tCons (tVar 8) tNil)) (tCall (sp__many_tuples K) [] E0 (tCons (tSl (rSlL K) (tVar 5) tNoPart (tPart (tUn rNeg (tC (.int 1))))) tNil))))))))))
theorem itm_no {doms : List (Str × List Int)} {dom : List Int} {D : PyData} (h : lenIn D 2 2 = false) : itmB doms dom D = false := by
  unfold itmB
  split
  · exact absurd h (by simp [lenIn])
  · rfl
theorem itm_two {D : PyData} (p : lenIn D 2 2 = true) : ∃ a b, D = .tuple [a, b] := by
  obtain ⟨ds, rfl, h⟩ := lenIn_eq (n := 2) p
  match ds, h with
  | [a, b], _ => exact ⟨a, b, rfl⟩
theorem rows_no {cols : List (List Int)} {dom : List Int} {R : PyData} (h : lenIn R 1 256 = false) : rowsB cols dom R = false := by
  unfold rowsB
  split
  · rw [lenIn_tup] at h
    rw [h, Bool.false_and, Bool.false_and]
  · rfl
theorem row_ints {H : Hp} {cols : List (List Int)} {D : PyData} {v : V} (h : Is H D v) (p : rowB cols D = true) : ∃ a, v = .ref a ∧ H a = some (.tup ((rowI D).map V.int)) := by
  unfold rowB at p
  split at p
  · rename_i ds
    rw [Bool.and_eq_true, decide_eq_true_iff, List.all_map, List.all_eq_true] at p
    obtain ⟨hl, hp⟩ := p
    obtain ⟨a, xs, rfl, e, t⟩ := h.tup_inv
    refine ⟨a, rfl, ?_⟩
    rw [e]
    congr 2
    have hxl := t.length
    apply List.ext_getElem (by simp [rowI, hxl])
    intro i h1 h2
    obtain ⟨dt, hdt, hud⟩ := t.get (List.getElem?_eq_getElem h1)
    have h3 := hp i (List.mem_range.mpr (by omega))
    have h3 : cellB (ds.getD i .none) (cols.getD i []) = true := h3
    rw [getD_of hdt] at h3
    have hdi := (List.getElem?_eq_some_iff.mp hdt)
    obtain ⟨hi, hdi⟩ := hdi
    generalize xs[i] = u at hud ⊢
    cases hud with
    | int n => simp [rowI, hdi]
    | tup e1 t1 => exact absurd h3 (by simp [cellB])
    | non => exact absurd h3 (by simp [cellB])
    | bl b => exact absurd h3 (by simp [cellB])
    | str x => exact absurd h3 (by simp [cellB])
  · exact absurd p (by decide)
theorem len__is_item {K : PySem.W.Frag} : ∀ (vs : List V) (H : Hp) (Q : VK) (E : XK), sp__is_item K vs H Q E → vs.length = 3 := fun vs H Q E h => by
  obtain ⟨_, _, _, rfl, _⟩ := h
  rfl
theorem pure__is_item {K : PySem.W.Frag} (vs : List V) (H : Hp) (Q : VK) (E : XK) (h : sp__is_item K vs H Q E) : t__is_item K { nx := fun _ H' => Q .non H', rt := Q } (start ["domains", "domain", "value", "xs", "rows", "columns", "x", "row", "fronts"] vs) H := by
  obtain ⟨d, qd, v, rfl, doms, w, dom, D, n, hd, mok, hw, eqd, hD, hS, hn, q⟩ := h
  show t__is_item K _ [some (.ref d), some (.ref qd), some v, none, none, none, none, none, none] H
  unfold t__is_item
  walk_at "aw"
  refine ⟨v, 2, 2, rfl, D, hD, ?_⟩
  walk_at "aw"
  cases hl : lenIn D 2 2 with
  | false =>
    refine iteT'' rfl ?_
    walk_at "aw"
    have q1 := q H (.refl _ _)
    rw [itm_no hl] at q1
    exact q1
  | true =>
  obtain ⟨X, R, rfl⟩ := itm_two hl
  obtain ⟨t, xs, rfl, et, hxs⟩ := id hD.tup_inv
  match xs, hxs with
  | [ux, ur], .cons hX (.cons hR .nil) =>
  refine iteF'' rfl ?_
  walk_at "aw"
  refine w_ixT (SqT.of et) (at_nat (by decide) rfl) ?_
  walk_at "aw"
  refine ⟨d, ux, 3, rfl, doms, X, hd, hX, by decide, fun H1 g1 => ?_⟩
  walk_at "aw"
  cases hu : unkB (doms.map (·.1)) X 3 with
  | false =>
    refine iteT'' rfl ?_
    walk_at "aw"
    have q1 := q H1 g1
    rw [show itmB doms dom (.tuple [X, R]) = false by simp only [itmB, hu, Bool.false_and]] at q1
    exact q1
  | true =>
  refine iteF'' rfl ?_
  walk_at "aw"
  obtain ⟨ds, rfl⟩ : ∃ ds, X = .tuple ds := by
    unfold unkB at hu
    split at hu
    · exact ⟨_, rfl⟩
    · exact absurd hu (by decide)
  have hu' := hu
  unfold unkB at hu'
  simp only [Bool.and_eq_true, decide_eq_true_iff] at hu'
  obtain ⟨⟨⟨hd1, hd3⟩, hall⟩, hnd⟩ := hu'
  obtain ⟨tx, vs, rfl, etx, hvs⟩ := hX.tup_inv
  have hvl := hvs.length
  have etx1 := g1.tup _ _ etx
  rw [names_txt hvs hall] at etx1
  have hnm : ∀ x ∈ ds.map txtD, x ∈ doms.map (·.1) := fun x hx => by
    obtain ⟨dt, hdt, rfl⟩ := List.mem_map.mp hx
    have := List.all_eq_true.mp hall dt hdt
    unfold nameIn at this
    split at this
    · exact of_decide_eq_true this
    · exact absurd this (by decide)
  have hqd : ∀ c, rowsB (ds.map fun x => domF doms (txtD x)) dom R = c → ∀ H', Adv [] H1 H' → Q (.bl c) H' := fun c h H' g => by
    have := q H' (g1.trans g)
    rwa [show itmB doms dom (.tuple [.tuple ds, R]) = c by simp only [itmB, hu, Bool.true_and, h]] at this
  have hcols : (ds.map fun x => domF doms (txtD x)) = (ds.map txtD).map (domF doms) := by rw [List.map_map]; rfl
  rw [hcols] at hqd
  have hnl : (ds.map txtD).length ≤ 3 := by rw [List.length_map]; omega
  generalize ds.map txtD = names at *
  refine w_gtup (SqT.of (g1.tup _ _ et)) rfl ?_
  walk_at "aw"
  refine ⟨tx, rfl, ⟨_, SqT.of etx1⟩, kLc_rel (walk_tup (xs := names.map V.str)) (by rw [List.length_map]; omega) (fun H2 g2 => SqT.of (g2.tup _ _ etx1)) (fun i u H2 => ∃ x, names[i]? = some x ∧ TupAt H2 u (domF doms x)) (fun i u H2 H3 kk hh => by
    obtain ⟨x, h1, h2⟩ := hh
    exact ⟨x, h1, h2.up kk⟩) (fun i u H2 H3 Kt hi g2 yy kt => ?_) fun cl H2 ys ncl g2 ecl hyl hyr => ?_⟩
  · obtain ⟨rfl, hux⟩ := yy
    rw [List.getElem?_map] at hux
    obtain ⟨x, hx, rfl⟩ := Option.map_eq_some_iff.mp hux
    obtain ⟨kd, qx, ekd, hvx, eqx⟩ := (hd.up (g1.trans g2)).get mok.nd (hnm x (List.mem_of_getElem? hx))
    walk_at "aw"
    refine ⟨rfl, ?_⟩
    walk_at "aw"
    refine kDGet_i (k := .inr x) ekd hvx ?_
    exact kt _ _ (.refl _ _) ⟨x, hx, qx, rfl, eqx⟩
  walk_at "aw"
  refine w_lstD (by simp) fun dl H3 ndl g3 edl => ?_
  refine w_catB (g3.keep _ _ (fun z => nomatch z) ecl) edl (by rw [hyl]; simp; omega) fun col H4 ncol g4 ecol => ?_
  have g14 := g2.trans (g3.trans g4)
  have g04 := g1.trans g14
  have hcolT : TupsAt H4 (ys ++ [.ref qd]) (names.map (domF doms) ++ [dom]) := by
    refine paired_app (paired_ix (by rw [hyl, List.length_map, List.length_map]) fun i u r hu hr => ?_) (.cons ⟨qd, rfl, g04.tup _ _ eqd⟩ .nil)
    obtain ⟨x, h1, h2⟩ := hyr i u hu
    rw [List.getElem?_map, h1] at hr
    cases hr
    exact h2.up (g3.trans g4).tup
  have hyn : ys.length = names.length := by rw [hyl, List.length_map]
  walk_at "aw"
  refine ⟨ur, 1, 256, rfl, R, hR.up g04.tup, ?_⟩
  walk_at "aw"
  cases hr : lenIn R 1 256 with
  | false =>
    refine iteT'' rfl ?_
    walk_at "aw"
    exact hqd false (rows_no hr) H4 g14
  | true =>
  refine iteF'' rfl ?_
  walk_at "aw"
  obtain ⟨rs, rfl⟩ := unk_tup hr
  have hr' := hr
  rw [lenIn_tup, Bool.and_eq_true, decide_eq_true_iff, decide_eq_true_iff] at hr'
  obtain ⟨tr, ws, rfl, etr, hws⟩ := hR.tup_inv
  have hwl := hws.length
  have etr4 := g04.tup _ _ etr
  have hws4 := hws.up g04.tup
  refine ⟨tr, rfl, ⟨_, SqT.of etr4⟩, kLc_pure (walk_tup (xs := ws)) (by omega) (fun H' g => SqT.of (g.tup _ _ etr4)) (fun _ => true) (fun i => .bl (rowB (names.map (domF doms) ++ [dom]) (rs.getD i .none))) (fun i x H5 H6 Kt Kf hi g5 y kt kf => ?_) fun l5 H5 nl5 g5 el5 => ?_⟩
  · obtain ⟨rfl, y1⟩ := y
    obtain ⟨dt, z1, hdt⟩ := hws4.get y1
    rw [getD_of z1] at kt
    walk_at "aw"
    refine ⟨rfl, ?_⟩
    walk_at "aw"
    refine ⟨col, x, rfl, _, _, dt, g5.keep _ _ (fun z => nomatch z) ecol, TupsAt.up hcolT g5.tup, by rw [List.length_append, List.length_map]; show names.length + 1 ≤ 100; omega, hdt.up g5.tup, fun H7 g7 => ?_⟩
    exact kt rfl H7 g7
  rw [bls_map fun i => rowB (names.map (domF doms) ++ [dom]) (rs.getD i .none), hwl] at el5
  walk_at "aw"
  refine ⟨l5, _, rfl, SqL.of el5, ?_⟩
  rw [all_range]
  walk_at "aw"
  have hlen : (decide (1 ≤ (rs.length : Int)) && decide ((rs.length : Int) ≤ 256)) = true := hr
  cases hra : rs.all (rowB (names.map (domF doms) ++ [dom])) with
  | false =>
    refine iteT'' rfl ?_
    walk_at "aw"
    exact hqd false (by simp only [rowsB, hlen, hra, Bool.and_false, Bool.false_and]) H5 (g14.trans g5)
  | true =>
  refine iteF'' rfl ?_
  walk_at "aw"
  have hqd : ∀ c, (ascR (rs.map fun r => (rowI r).dropLast) && decide (rs.length = manyR (names.map (domF doms)))) = c → ∀ H', Adv [] H5 H' → Q (.bl c) H' := fun c h H' g => hqd c (by simp only [rowsB, hlen, hra, Bool.true_and, h]) H' (g14.trans (g5.trans g))
  have etr5 := g5.tup _ _ etr4
  have hws5 := hws4.up g5.tup
  refine ⟨tr, rfl, ⟨_, SqT.of etr5⟩, kLc_rel (walk_tup (xs := ws)) (by omega) (fun H' g => SqT.of (g.tup _ _ etr5)) (fun i u H6 => ∃ r, rs[i]? = some r ∧ TupAt H6 u (rowI r).dropLast) (fun i u H6 H7 kk hh => by
    obtain ⟨x, h1, h2⟩ := hh
    exact ⟨x, h1, h2.up kk⟩) (fun i u H6 H7 Kt hi g6 yy kt => ?_) fun fl H6 zs nfl g6 efl hzl hzr => ?_⟩
  · obtain ⟨rfl, y1⟩ := yy
    obtain ⟨dt, z1, hdt⟩ := hws5.get y1
    obtain ⟨p, rfl, ep⟩ := row_ints (hdt.up g6.tup) (List.all_eq_true.mp hra _ (List.mem_of_getElem? z1))
    walk_at "aw"
    refine ⟨rfl, ?_⟩
    walk_at "aw"
    refine w_slA ep fun t8 H8 a8 et8 => ?_
    rw [cut_last, ← List.map_dropLast] at et8
    exact kt _ _ a8 ⟨dt, z1, t8, rfl, et8⟩
  have hfr : TupsAt H6 zs (rs.map fun r => (rowI r).dropLast) := paired_ix (by rw [hzl, List.length_map]; exact hwl) fun i u r hu hr => by
    obtain ⟨x, h1, h2⟩ := hzr i u hu
    rw [List.getElem?_map, h1] at hr
    cases hr
    exact h2
  walk_at "aw"
  refine ⟨fl, rfl, zs, _, efl, hfr, by rw [List.length_map]; omega, fun H7 g7 => ?_⟩
  walk_at "aw"
  cases hasc : ascR (rs.map fun r => (rowI r).dropLast) with
  | false =>
    refine iteF'' rfl ?_
    exact hqd false (by rw [hasc, Bool.false_and]) H7 (g6.trans g7)
  | true =>
  refine iteT'' rfl ?_
  walk_at "aw"
  refine w_lenL (SqL.of (g7.keep _ _ (fun z => nomatch z) efl)) ?_
  walk_at "aw"
  have g47 := g5.trans (g6.trans g7)
  refine w_slL (SqL.of (g47.keep _ _ (fun z => nomatch z) ecol)) fun cl2 H8 ncl2 g8 ecl2 => ?_
  rw [cut_last, List.dropLast_concat] at ecl2
  walk_at "aw"
  refine ⟨cl2, rfl, ys, names.map (domF doms), ecl2, ?_, by rw [List.length_map]; exact hnl, fun c hc => ?_, ?_⟩
  · exact paired_ix (by rw [hyn, List.length_map]) fun i u r hu hr => by
      obtain ⟨x, h1, h2⟩ := hyr i u hu
      rw [List.getElem?_map, h1] at hr
      cases hr
      exact h2.up ((g3.trans g4).trans (g47.trans g8)).tup
  · obtain ⟨x, hx, rfl⟩ := List.mem_map.mp hc
    have : (domF doms x).length ≤ w := (mok.dm _ (domF_mem mok.nd (hnm x hx))).l2
    show (domF doms x).length ≤ 12
    omega
  · walk_at "aw"
    have e2 : decide (V.int (zs.length : Nat) = V.int (manyR (names.map (domF doms)) : Nat)) = decide (rs.length = manyR (names.map (domF doms))) := by
      rw [Bool.eq_iff_iff, decide_eq_true_iff, decide_eq_true_iff]
      constructor
      · intro h
        have := V.int.inj h
        omega
      · intro h
        rw [hzl, hwl, h]
    rw [e2]
    exact hqd _ (by rw [hasc, Bool.true_and]) H8 (g6.trans (g7.trans g8))
end AW
namespace AW
open PySem PySem.Spec PyProof.Rows L2 RZ
open StX
local macro_rules | `(tactic| walk_at "aw1") => `(tactic| first
  | (with_reducible refine w_seq ?_) | (with_reducible refine w_asg ?_) | (with_reducible refine w_gname ?_) | (with_reducible refine w_op ?_) | (with_reducible refine w_un ?_)
  | ((with_reducible refine' w_var ?h ?_); (case h => rfl)) | (with_reducible refine w_c ?_)
  | (with_reducible refine w_I0 ?_) | (with_reducible refine w_U ?_) | (with_reducible refine w_cb ?_) | (with_reducible refine w_nil ?_) | (with_reducible refine w_cons ?_) | (with_reducible refine w_call ?_)
  | (with_reducible refine w_test ?_) | (with_reducible refine w_B ?_) | (with_reducible refine w_bl ?_) | (with_reducible refine w_not ?_) | (with_reducible refine w_yes ?_) | (with_reducible refine iteT ?_) | (with_reducible refine iteF ?_) | (with_reducible refine w_and ?_) | (with_reducible refine w_or ?_)
  | (with_reducible refine w_andV ?_) | (with_reducible refine w_orV ?_) | (with_reducible refine w_notV ?_) | (with_reducible refine w_if ?_)
  | (with_reducible refine w_int1 ?_) | (with_reducible refine w_int1b ?_) | (with_reducible refine w_abs ?_) | (with_reducible refine w_max2 ?_) | (with_reducible refine w_min2 ?_)
  | ((with_reducible refine w_eq ?h ?_); (case h => rfl)) | ((with_reducible refine w_ne ?h ?_); (case h => rfl)) | (with_reducible refine w_isN ?_) | (with_reducible refine w_isB ?_) | (with_reducible refine w_chain ?_)
  | (with_reducible refine w_ret ?_) | (with_reducible refine w_drop ?_) | (with_reducible refine w_ifS ?_) | (with_reducible refine w_gsub ?_) | (with_reducible refine w_augS ?_) | (with_reducible refine w_ipI ?_) | (with_reducible refine w_next ?_)
  | (with_reducible refine w_forR ?_) | (with_reducible refine w_forR2 ?_) | (with_reducible refine w_forL ?_) | (with_reducible refine w_forT ?_) | (with_reducible refine w_lcR ?_) | (with_reducible refine w_lcL ?_) | (with_reducible refine w_lcT ?_) | (with_reducible refine w_sl ?_) | (with_reducible refine w_part ?_) | (with_reducible refine w_noPart ?_) | (with_reducible refine w_in ?_)
  | (with_reducible refine w_gcons ?_) | (with_reducible refine w_gnil ?_) | (with_reducible refine w_lc3 ?_) | (with_reducible refine w_dcZ ?_) | (with_reducible refine w_dcT ?_) | (with_reducible refine w_dg ?_) | (with_reducible refine w_callK ?_) | (with_reducible refine w_dput ?_) | (with_reducible refine w_tup1 ?_)
  | (with_reducible refine w_tup ?_) | (with_reducible refine w_lst ?_)
  | ((with_reducible refine w_I ?h ?_); (case h => first | (exact Or.inr ⟨by decide, by decide⟩) | (exact Or.inl ⟨by decide, by decide⟩) | (show (0 : Int) < _; decide) | (exact ⟨by decide, by decide, by decide⟩) | assumption)))
local macro_rules | `(tactic| walk_at "aw") => `(tactic| repeat (walk_at "aw1"))
theorem val_none {kvs : List (Key × V)} {k : Key} (h : k ∉ kvs.map (·.1)) : valV kvs k = none := by
  unfold valV
  rw [List.find?_eq_none.mpr fun x hx => ?_]
  · rfl
  · intro z
    have z2 : x.1 = k := by simpa using z
    exact h (z2 ▸ List.mem_map_of_mem hx)
theorem dictOf_nd {key : Nat → Key} {val : Nat → V} : ∀ n, (∀ a b, a < n → b < n → key a = key b → a = b) → dictOf key val n = (List.range n).map fun i => (key i, val i)
  | 0, _ => rfl
  | i + 1, h => by
    show putK (dictOf key val i) (key i) (val i) = _
    rw [dictOf_nd i fun a b ha hb => h a b (by omega) (by omega), putK_new _ (val_none fun z => ?_), List.range_succ, List.map_append]
    · rfl
    · rw [List.map_map] at z
      obtain ⟨j, hj, e⟩ := List.mem_map.mp z
      have hj' := List.mem_range.mp hj
      have := h j i (by omega) (by omega) e
      omega
theorem unk_kvs {H : Hp} {us : List V} {doms : List (Str × List Int)} (h : UnkAt H us doms) : ∃ kvs : List (Key × V), us.length = kvs.length ∧ (∀ (i : Nat) u, us[i]? = some u → ∃ p kv, u = .ref p ∧ kvs[i]? = some kv ∧ H p = some (.tup [kV kv.1, kv.2])) ∧ Paired (DomAt H) doms kvs := by
  obtain ⟨hl, hr⟩ := h
  induction us generalizing doms with
  | nil =>
    cases doms with
    | nil => exact ⟨[], rfl, fun i u e => by simp at e, .nil⟩
    | cons d doms => simp at hl
  | cons u us ih =>
    cases doms with
    | nil => simp at hl
    | cons d doms =>
      obtain ⟨kvs, h1, h2, h3⟩ := ih (doms := doms) (by simpa using hl) fun i v e => by
        obtain ⟨p, q, d', e1, e2, e3, e4⟩ := hr (i + 1) v (by simpa using e)
        exact ⟨p, q, d', e1, by simpa using e2, e3, e4⟩
      obtain ⟨p, q, d', e1, e2, e3, e4⟩ := hr 0 u rfl
      cases e2
      refine ⟨(.inr d.1, .ref q) :: kvs, by rw [List.length_cons, List.length_cons, h1], fun i v e => ?_, .cons ⟨rfl, q, rfl, e4⟩ h3⟩
      cases i with
      | zero =>
        cases e
        exact ⟨p, (.inr d.1, .ref q), e1, rfl, e3⟩
      | succ i =>
        obtain ⟨p', kv', e5, e6, e7⟩ := h2 i v (by simpa using e)
        exact ⟨p', kv', e5, by simpa using e6, e7⟩
theorem dom_keys {H : Hp} : ∀ {doms : List (Str × List Int)} {kvs : List (Key × V)}, Paired (DomAt H) doms kvs → kvs.map (·.1) = (doms.map (·.1)).map Sum.inr
  | _, _, .nil => rfl
  | _, _, .cons h t => by rw [List.map_cons, List.map_cons, List.map_cons, dom_keys t, h.1]
def sp_domains_of (_ : PySem.W.Frag) : Sp := fun vs H Q _ => ∃ m, vs = [m] ∧ ∃ doms, MdlAt H m doms ∧ (doms.map (·.1)).Nodup ∧ doms.length ≤ 24 ∧ ∀ d H', Adv [] H H' → DomD H' d doms → Q (.ref d) H'
/-- where a view is wrong first -/
def vwB (d1 d2 : List (Str × List Int)) (D : PyData) : Option Int := match D with
  | .tuple is => if is.length = d2.length then Option.map Int.ofNat ((List.range is.length).find? fun k => !itmB d1 (d2.getD k (Str.empty, [])).2 (is.getD k .none)) else some (-1)
  | _ => some (-1)
def sp_check_items (_ : PySem.W.Frag) : Sp := fun vs H Q _ => ∃ (m1 m2 v : V), vs = [m1, m2, v] ∧ ∃ d1 d2 w D n, MdlAt H m1 d1 ∧ MdlOk w d1 ∧ w ≤ 12 ∧ d1.length ≤ 24 ∧ MdlAt H m2 d2 ∧ d2.length ≤ 24 ∧ Is H D v ∧ Sw n D ∧ n ≤ 60 ∧ vwB d1 d2 D = none ∧ ∀ H', Adv [] H H' → Q .non H'
def sp_check_view (K : PySem.W.Frag) : Sp := sp_check_items K
theorem find_first {p : Nat → Bool} {n i : Nat} (hi : i < n) (h1 : p i = true) (h2 : ∀ j, j < i → p j = false) : (List.range n).find? p = some i := by
  rw [List.find?_range_eq_some]
  exact ⟨h1, List.mem_range.mpr hi, fun j hj => by rw [h2 j hj]; rfl⟩
def kForJ (J : It) (g : TG) (tb : TS) (D : Ends) (σ : L2.St) (H : Hp) : Prop := ∃ W : Nat → Nat → L2.St → Hp → Prop, (∃ m, W 0 m σ H) ∧ ∀ i m σ H, W i m σ H →
  (J.stop i H ∧ D.nx σ H) ∨ (J.go i H ∧ ∃ N : L2.St → Hp → Prop, (∀ σ' H', N σ' H' → ∃ m', m' < m ∧ W (i + 1) m' σ' H') ∧ ∀ x H', J.yld i H x H' → g x σ H' fun σ2 H2 => tb { D with nx := N, ct := N, bk := D.nx } σ2 H2)
theorem w_forET {K : PySem.W.Frag} {ta : TA} {g : TG} {tb : TS} {D : Ends} {σ : L2.St} {H : Hp} (h : ta σ H fun vs H1 => ∃ (a : Addr) (xs : List V), vs = [.ref a] ∧ SqT K H1 a xs ∧ kForJ (IteT K a) g tb D σ H1) : tFor (iEnumT K ta) g tb D σ H := h
def t_domains_of (K : PySem.W.Frag) : TS := (tRet (tDc (iTup K (tOp (rIxT K) (tVar 0) (tC (.int 0)))) (gTup K 2 (gCons (gName 1) (gCons (gName 2) gNil))) tYes (tVar 1) (tVar 2) [1, 2]))
def t_check_items (K : PySem.W.Frag) : TS := (tSeq (tAsg (tCB (rLen1 K) (tCons (tOp (rIxT K) (tVar 1) (tC (.int 0))) tNil)) (gName 3))
  (tSeq (tIfS (tNot (tB (tCall (sp_is_tuple K) [] E0 (tCons (tVar 2) (tCons (tVar 3) (tCons (tVar 3) tNil)))))) tNever tNext)
  (tSeq (tAsg (tCall (sp_domains_of K) [] E0 (tCons (tVar 0) tNil)) (gName 4))
  (tFor (iEnumT K (tCons (tVar 2) tNil)) (gTup K 2 (gCons (gName 5) (gCons (gName 6) gNil)))
  (tIfS (tNot (tB (tCall (sp__is_item K) [] E0 (tCons (tVar 4) (tCons (tOp (rIxT K) (tOp (rIxT K) (tOp (rIxT K) (tVar 1) (tC (.int 0))) (tVar 5)) (tC (.int 1))) (tCons (tVar 6) tNil)))))) tNever tNext)))))
def t_check_view (K : PySem.W.Frag) : TS := (tDrop (tCall (sp_check_items K) [] E0 (tCons (tVar 0) (tCons (tVar 1) (tCons (tVar 2) tNil)))))
theorem len_domains_of {K : PySem.W.Frag} : ∀ (vs : List V) (H : Hp) (Q : VK) (E : XK), sp_domains_of K vs H Q E → vs.length = 1 := fun vs H Q E h => by
  obtain ⟨_, rfl, _⟩ := h
  rfl
theorem pure_domains_of {K : PySem.W.Frag} (vs : List V) (H : Hp) (Q : VK) (E : XK) (h : sp_domains_of K vs H Q E) : t_domains_of K { nx := fun _ H' => Q .non H', rt := Q } (start ["model", "name", "domain"] vs) H := by
  obtain ⟨m, rfl, doms, hm, hmn, hl24, q⟩ := h
  obtain ⟨ma, mb, r, us, rfl, e1, e2, hus⟩ := hm
  have hul := hus.1
  obtain ⟨kd, hk1, hk2, hk3⟩ := unk_kvs hus
  show t_domains_of K _ [some (.ref ma), none, none] H
  unfold t_domains_of
  walk_at "aw"
  refine w_ixT (SqT.of e1) (at_nat (by decide) rfl) ?_
  refine ⟨mb, rfl, ⟨_, SqT.of e2⟩, kDc_pure (walk_tup (xs := us)) (by omega) (fun H' g => SqT.of (g.tup _ _ e2)) (fun i => (kd.getD i (.inl 0, .non)).1) (fun i => (kd.getD i (.inl 0, .non)).2) (fun i x H2 H3 Kt hi g2 y kt => ?_) fun p H' np g' ep => ?_⟩
  · obtain ⟨rfl, y1⟩ := y
    obtain ⟨p, kv, rfl, hkv, epp⟩ := hk2 i x y1
    rw [getD_of hkv] at kt
    have h1 := hk3
    walk_at "aw"
    refine w_gtup (SqT.of (g2.tup _ _ epp)) rfl ?_
    walk_at "aw"
    refine ⟨rfl, ?_⟩
    walk_at "aw"
    exact kt _ (.refl _ _)
  · have hkeys := dom_keys hk3
    have hnd : (kd.map (·.1)).Nodup := by
      rw [hkeys]
      exact nodup_map_inj (fun a b z => Sum.inr.inj z) hmn
    refine q p H' g' ⟨kd, ?_, dom_up hk3 g'.tup⟩
    rw [ep, dictOf_nd _ fun a b ha hb e => ?_]
    · rw [hk1]
      congr 2
      exact range_getD kd _
    · have h1 : (kd.map (·.1))[a]? = some (kd.getD a (.inl 0, .non)).1 := by rw [List.getElem?_map, List.getElem?_eq_getElem (by omega), getD_of (List.getElem?_eq_getElem (by omega))]; rfl
      have h2 : (kd.map (·.1))[b]? = some (kd.getD b (.inl 0, .non)).1 := by rw [List.getElem?_map, List.getElem?_eq_getElem (by omega), getD_of (List.getElem?_eq_getElem (by omega))]; rfl
      exact nodup_inj hnd h1 (e ▸ h2)
theorem len_check_items {K : PySem.W.Frag} : ∀ (vs : List V) (H : Hp) (Q : VK) (E : XK), sp_check_items K vs H Q E → vs.length = 3 := fun vs H Q E h => by
  obtain ⟨_, _, _, rfl, _⟩ := h
  rfl
theorem vw_no {d1 d2 : List (Str × List Int)} {D : PyData} (h : lenIn D (d2.length : Nat) (d2.length : Nat) = false) : vwB d1 d2 D = some (-1) := by
  unfold vwB
  split
  · rename_i is
    rw [if_neg fun z => by simp [lenIn, z] at h]
  · rfl
theorem pure_check_items {K : PySem.W.Frag} (vs : List V) (H : Hp) (Q : VK) (E : XK) (h : sp_check_items K vs H Q E) : t_check_items K { nx := fun _ H' => Q .non H', rt := Q } (start ["one", "other", "value", "many", "domains", "number", "item"] vs) H := by
  obtain ⟨m1, m2, v, rfl, d1, d2, w, D, n, hm1, mok, hw, hl1, hm2, hl2, hD, hS, hn, hv, q1⟩ := h
  obtain ⟨a2, b2, r2, us2, rfl, ea2, eb2, hus2⟩ := id hm2
  have hul2 := hus2.1
  show t_check_items K _ [some m1, some (.ref a2), some v, none, none, none, none] H
  unfold t_check_items
  walk_at "aw"
  refine w_ixT (SqT.of ea2) (at_nat (by decide) rfl) ?_
  walk_at "aw"
  refine w_lenT (SqT.of eb2) ?_
  rw [hul2]
  walk_at "aw"
  refine ⟨v, _, _, rfl, D, hD, ?_⟩
  walk_at "aw"
  cases hl : lenIn D (d2.length : Nat) (d2.length : Nat) with
  | false =>
    rw [vw_no hl] at hv
    cases hv
  | true =>
  refine iteF'' rfl ?_
  walk_at "aw"
  obtain ⟨is, rfl, his⟩ := lenIn_eq hl
  refine ⟨m1, rfl, d1, hm1, mok.nd, hl1, fun dd H1 g1 hd => ?_⟩
  walk_at "aw"
  obtain ⟨tv, xs, rfl, etv, hxs⟩ := hD.tup_inv
  have hxl := hxs.length
  have etv1 := g1.tup _ _ etv
  obtain ⟨k, hSw, hk⟩ : ∃ k, (∀ D ∈ is, Sw k D) ∧ k ≤ 60 := by
    cases hS with
    | tup _ h => exact ⟨_, h, by omega⟩
  have hvw : vwB d1 d2 (.tuple is) = Option.map Int.ofNat ((List.range is.length).find? fun k => !itmB d1 (d2.getD k (Str.empty, [])).2 (is.getD k .none)) := if_pos his
  with_reducible refine w_forET ?_
  walk_at "aw"
  refine ⟨tv, xs, rfl, SqT.of etv1, ?_⟩
  refine for_it (walk_enumT (xs := xs)) (fun i σ' H' => ∃ (y5 y6 : Option V), σ' = [some m1, some (.ref a2), some (.ref tv), some (.int (d2.length : Nat)), some (.ref dd), y5, y6] ∧ Adv [] H1 H' ∧ ∀ j, j < i → itmB d1 (d2.getD j (Str.empty, [])).2 (is.getD j .none) = true) ⟨none, none, rfl, .refl _ _, fun j h => absurd h (Nat.not_lt_zero _)⟩
    (fun i σ' H' _ pp => by obtain ⟨_, _, _, a, _⟩ := pp; exact SqT.of (a.tup _ _ etv1)) (fun i x σ' H' H'' hi pp yy => ?_) fun σ' H' pp => ?_
  · obtain ⟨y5, y6, rfl, a, hpre⟩ := pp
    obtain ⟨Tp, u, z, rfl, nT, rfl, hu, hz⟩ := yy
    cases hu
    dsimp only at hz
    obtain ⟨dt, hdt, hzd⟩ := hxs.get hz
    obtain ⟨dm, hdm⟩ := get_some (xs := d2) (i := i) (by omega)
    obtain ⟨uu, huu⟩ := get_some (xs := us2) (i := i) (by omega)
    obtain ⟨p, qd, d', rfl, hd', ep, eqd⟩ := hus2.2 i uu huu
    rw [hdm] at hd'
    cases hd'
    have aT : Adv [] H' (upd H' Tp (.tup [.int (i : Nat), z])) := Adv.new nT
    have g2 := g1.trans (a.trans aT)
    refine w_gtup (SqT.of upd_same) rfl ?_
    walk_at "aw"
    refine w_ixT (SqT.of (g2.tup _ _ ea2)) (at_nat (by decide) rfl) ?_
    walk_at "aw"
    refine w_ixT (SqT.of (g2.tup _ _ eb2)) (at_of (j := i) (by omega) huu) ?_
    walk_at "aw"
    refine w_ixT (SqT.of (g2.tup _ _ ep)) (at_nat (by decide) rfl) ?_
    walk_at "aw"
    refine ⟨dd, qd, z, rfl, d1, w, dm.2, dt, k, hd.up (a.trans aT), mok, hw, g2.tup _ _ eqd, hzd.up g2.tup, hSw _ (List.mem_of_getElem? hdt), hk, fun H3 a3 => ?_⟩
    walk_at "aw"
    have hit : itmB d1 (d2.getD i (Str.empty, [])).2 (is.getD i .none) = itmB d1 dm.2 dt := by rw [getD_of hdm, getD_of hdt]
    cases hb : itmB d1 dm.2 dt with
    | false =>
      rw [hvw, find_first (i := i) (by omega) (by rw [hit, hb]; rfl) fun j hj => by rw [hpre j hj]; rfl] at hv
      cases hv
    | true =>
      refine iteF'' rfl ?_
      with_reducible refine w_next ?_
      refine ⟨_, _, rfl, a.trans (aT.trans a3), fun j hj => ?_⟩
      by_cases e : j = i
      · rw [e, hit, hb]
      · exact hpre j (by omega)
  · obtain ⟨y5, y6, rfl, a, hpre⟩ := pp
    exact q1 H' (g1.trans a)
theorem len_check_view {K : PySem.W.Frag} : ∀ (vs : List V) (H : Hp) (Q : VK) (E : XK), sp_check_view K vs H Q E → vs.length = 3 := len_check_items
theorem pure_check_view {K : PySem.W.Frag} (vs : List V) (H : Hp) (Q : VK) (E : XK) (h : sp_check_view K vs H Q E) : t_check_view K { nx := fun _ H' => Q .non H', rt := Q } (start ["one", "other", "value"] vs) H := by
  obtain ⟨m1, m2, v, rfl, d1, d2, w, D, n, hm1, mok, hw, hl1, hm2, hl2, hD, hS, hn, hv, q1⟩ := h
  show t_check_view K _ [some m1, some m2, some v] H
  unfold t_check_view
  walk_at "aw"
  exact ⟨m1, m2, v, rfl, d1, d2, w, D, n, hm1, mok, hw, hl1, hm2, hl2, hD, hS, hn, hv, q1⟩
end AW
namespace AW
open PySem PySem.Spec PyProof.Rows L2 RZ
open StX
local macro_rules | `(tactic| walk_at "aw1") => `(tactic| first
  | (with_reducible refine w_seq ?_) | (with_reducible refine w_asg ?_) | (with_reducible refine w_gname ?_) | (with_reducible refine w_op ?_) | (with_reducible refine w_un ?_)
  | ((with_reducible refine' w_var ?h ?_); (case h => rfl)) | (with_reducible refine w_c ?_)
  | (with_reducible refine w_I0 ?_) | (with_reducible refine w_U ?_) | (with_reducible refine w_cb ?_) | (with_reducible refine w_nil ?_) | (with_reducible refine w_cons ?_) | (with_reducible refine w_call ?_)
  | (with_reducible refine w_test ?_) | (with_reducible refine w_B ?_) | (with_reducible refine w_bl ?_) | (with_reducible refine w_not ?_) | (with_reducible refine w_yes ?_) | (with_reducible refine iteT ?_) | (with_reducible refine iteF ?_) | (with_reducible refine w_and ?_) | (with_reducible refine w_or ?_)
  | (with_reducible refine w_andV ?_) | (with_reducible refine w_orV ?_) | (with_reducible refine w_notV ?_) | (with_reducible refine w_if ?_)
  | (with_reducible refine w_int1 ?_) | (with_reducible refine w_int1b ?_) | (with_reducible refine w_abs ?_) | (with_reducible refine w_max2 ?_) | (with_reducible refine w_min2 ?_)
  | ((with_reducible refine w_eq ?h ?_); (case h => rfl)) | ((with_reducible refine w_ne ?h ?_); (case h => rfl)) | (with_reducible refine w_isN ?_) | (with_reducible refine w_isB ?_) | (with_reducible refine w_chain ?_)
  | (with_reducible refine w_ret ?_) | (with_reducible refine w_drop ?_) | (with_reducible refine w_ifS ?_) | (with_reducible refine w_gsub ?_) | (with_reducible refine w_augS ?_) | (with_reducible refine w_ipI ?_) | (with_reducible refine w_next ?_)
  | (with_reducible refine w_forR ?_) | (with_reducible refine w_forR2 ?_) | (with_reducible refine w_forL ?_) | (with_reducible refine w_forT ?_) | (with_reducible refine w_lcR ?_) | (with_reducible refine w_lcL ?_) | (with_reducible refine w_lcT ?_) | (with_reducible refine w_sl ?_) | (with_reducible refine w_part ?_) | (with_reducible refine w_noPart ?_) | (with_reducible refine w_in ?_)
  | (with_reducible refine w_gcons ?_) | (with_reducible refine w_gnil ?_) | (with_reducible refine w_lc3 ?_) | (with_reducible refine w_dcZ ?_) | (with_reducible refine w_dcT ?_) | (with_reducible refine w_dg ?_) | (with_reducible refine w_callK ?_) | (with_reducible refine w_dput ?_) | (with_reducible refine w_tup1 ?_)
  | (with_reducible refine w_tup ?_) | (with_reducible refine w_lst ?_)
  | ((with_reducible refine w_I ?h ?_); (case h => first | (exact Or.inr ⟨by decide, by decide⟩) | (exact Or.inl ⟨by decide, by decide⟩) | (show (0 : Int) < _; decide) | (exact ⟨by decide, by decide, by decide⟩) | assumption)))
local macro_rules | `(tactic| walk_at "aw") => `(tactic| repeat (walk_at "aw1"))
/-- texts, numbers, truth values, nothing, and tuples of such -/
inductive SmE : Nat → PyData → Prop
  | bl {m : Nat} (b : Bool) : SmE (m + 1) (.bool b)
  | int {m : Nat} (n : Int) : SmE (m + 1) (.int n)
  | non {m : Nat} : SmE (m + 1) .none
  | str {m : Nat} (x : Str) : SmE (m + 1) (.str x)
  | tup {m : Nat} (ds : List PyData) (hl : ds.length ≤ 1000) (h : ∀ d ∈ ds, SmE m d) : SmE (m + 1) (.tuple ds)
def sp__law_same (_ : PySem.W.Frag) (m : Nat) : Sp := fun vs H Q _ => ∃ v u, vs = [v, u] ∧ ∃ d, Is H d v ∧ Is H d u ∧ SmE m d ∧ Q (.bl true) H
def gR {α : Type} : List α → List α → List α
  | [], zs => zs.reverse
  | _ :: _, _ => []
def t__law_same (K : PySem.W.Frag) (m : Nat) : TS := (tSeq (tIfS (tB (tCB (rIsi K) (tCons (tVar 1) (tCons (tC (.ty "tuple")) tNil)))) (tSeq (tIfS (tOr (tNot (tB (tCB (rIsi K) (tCons (tVar 0) (tCons (tC (.ty "tuple")) tNil))))) (tTest (tOp rNe (tCB (rLen1 K) (tCons (tVar 0) tNil)) (tCB (rLen1 K) (tCons (tVar 1) tNil))))) (tRet (tC (.bl false))) tNext)
  (tSeq (tFor (iRng1 (tCons (tCB (rLen1 K) (tCons (tVar 1) tNil)) tNil)) (gName 2)
  (tIfS (tNot (tB (tCall (sp__law_same K m) [] E0 (tCons (tOp (rIxA K) (tVar 0) (tVar 2)) (tCons (tOp (rIxA K) (tVar 1) (tVar 2)) tNil))))) (tRet (tC (.bl false))) tNext))
  (tRet (tC (.bl true))))) tNext)
  (tSeq (tIfS (tTest (tOp rIsN (tVar 1) (tC .non))) (tRet (tOp rIsN (tVar 0) (tC .non))) tNext)
  (tSeq (tIfS (tB (tCB (rIsi K) (tCons (tVar 1) (tCons (tC (.ty "str")) tNil)))) (tRet (tAndV (tCB (rIsi K) (tCons (tVar 0) (tCons (tC (.ty "str")) tNil))) (tOp rEq (tVar 0) (tVar 1)))) tNext)
  (tSeq (tIfS (tB (tCB (rIsi K) (tCons (tVar 1) (tCons (tC (.ty "bool")) tNil)))) (tRet (tAndV (tCB (rIsi K) (tCons (tVar 0) (tCons (tC (.ty "bool")) tNil))) (tOp rEq (tVar 0) (tVar 1)))) tNext)
  (tRet (tAndV (tCB (rIsi K) (tCons (tVar 0) (tCons (tC (.ty "int")) tNil))) (tAndV (tNotV (tCB (rIsi K) (tCons (tVar 0) (tCons (tC (.ty "bool")) tNil)))) (tOp rEq (tVar 0) (tVar 1)))))))))
theorem len__law_same {K : PySem.W.Frag} {m : Nat} : ∀ (vs : List V) (H : Hp) (Q : VK) (E : XK), sp__law_same K m vs H Q E → vs.length = 2 := fun vs H Q E h => by
  obtain ⟨_, _, rfl, _⟩ := h
  rfl
theorem no__law_same {K : PySem.W.Frag} {vs : List V} {H : Hp} {Q : VK} {E : XK} (h : sp__law_same K 0 vs H Q E) : False := by
  obtain ⟨_, _, _, _, _, _, h, _⟩ := h
  cases h
theorem pure__law_same {K : PySem.W.Frag} {m : Nat} (vs : List V) (H : Hp) (Q : VK) (E : XK) (h : sp__law_same K (m + 1) vs H Q E) : t__law_same K m { nx := fun _ H' => Q .non H', rt := Q } (start ["actual", "due", "k"] vs) H := by
  obtain ⟨v, u, rfl, d, hv, hu, hd, q⟩ := h
  show t__law_same K m _ [some v, some u, none] H
  unfold t__law_same
  cases hd with
  | bl b =>
    have hv' := hv
    cases hv
    cases hu
    walk_at "aw"
    refine w_isiD hv' (by simp) ?_
    walk_at "aw"
    refine iteF'' (by simp [isiD, tyD]) ?_
    walk_at "aw"
    refine iteF'' (by simp) ?_
    walk_at "aw"
    refine w_isiD hv' (by simp) ?_
    walk_at "aw"
    refine iteF'' (by simp [isiD, tyD]) ?_
    walk_at "aw"
    refine w_isiD hv' (by simp) ?_
    walk_at "aw"
    refine iteT'' (by simp [isiD, tyD]) ?_
    walk_at "aw"
    refine w_isiD hv' (by simp) ?_
    walk_at "aw"
    refine iteT'' (by simp [isiD, tyD]) ?_
    walk_at "aw"
    have e : decide (V.bl b = V.bl b) = true := decide_eq_true rfl
    rw [e]
    exact q
  | int n =>
    have hv' := hv
    cases hv
    cases hu
    walk_at "aw"
    refine w_isiD hv' (by simp) ?_
    walk_at "aw"
    refine iteF'' (by simp [isiD, tyD]) ?_
    walk_at "aw"
    refine iteF'' (by simp) ?_
    walk_at "aw"
    refine w_isiD hv' (by simp) ?_
    walk_at "aw"
    refine iteF'' (by simp [isiD, tyD]) ?_
    walk_at "aw"
    refine w_isiD hv' (by simp) ?_
    walk_at "aw"
    refine iteF'' (by simp [isiD, tyD]) ?_
    walk_at "aw"
    refine w_isiD hv' (by simp) ?_
    walk_at "aw"
    refine iteT'' (by simp [isiD, tyD]) ?_
    walk_at "aw"
    refine w_isiD hv' (by simp) ?_
    refine ⟨_, rfl, ?_⟩
    refine ⟨_, rfl, ?_⟩
    refine iteT'' (by simp [isiD, tyD]) ?_
    walk_at "aw"
    have e : decide (V.int n = V.int n) = true := decide_eq_true rfl
    rw [e]
    exact q
  | non =>
    have hv' := hv
    cases hv
    cases hu
    walk_at "aw"
    refine w_isiD hv' (by simp) ?_
    walk_at "aw"
    refine iteF'' (by simp [isiD, tyD]) ?_
    walk_at "aw"
    refine iteT'' (by simp) ?_
    walk_at "aw"
    have e : decide (V.non = V.non) = true := decide_eq_true rfl
    rw [e]
    exact q
  | str x =>
    have hv' := hv
    cases hv
    cases hu
    walk_at "aw"
    refine w_isiD hv' (by simp) ?_
    walk_at "aw"
    refine iteF'' (by simp [isiD, tyD]) ?_
    walk_at "aw"
    refine iteF'' (by simp) ?_
    walk_at "aw"
    refine w_isiD hv' (by simp) ?_
    walk_at "aw"
    refine iteT'' (by simp [isiD, tyD]) ?_
    walk_at "aw"
    refine w_isiD hv' (by simp) ?_
    walk_at "aw"
    refine iteT'' (by simp [isiD, tyD]) ?_
    walk_at "aw"
    have e : decide (V.str x = V.str x) = true := decide_eq_true rfl
    rw [e]
    exact q
  | tup ds hl h =>
    have hv' := hv
    have hu' := hu
    obtain ⟨a, xs, rfl, ea, tx⟩ := hv.tup_inv
    obtain ⟨b, ys, rfl, eb, ty⟩ := hu.tup_inv
    have lx := tx.length
    have ly := ty.length
    walk_at "aw"
    refine w_isiD hu' (by simp) ?_
    walk_at "aw"
    refine iteT'' (by simp [isiD, tyD]) ?_
    walk_at "aw"
    refine w_isiD hv' (by simp) ?_
    walk_at "aw"
    refine iteF'' (by simp [isiD, tyD]) ?_
    walk_at "aw"
    refine w_lenT (SqT.of ea) ?_
    walk_at "aw"
    refine w_lenT (SqT.of eb) ?_
    walk_at "aw"
    refine iteF'' (by rw [lx, ly, decide_eq_true rfl]; rfl) ?_
    walk_at "aw"
    refine w_lenT (SqT.of eb) ?_
    refine kForR_i (n := ys.length) (by omega) (fun i σ H' => H' = H ∧ ∃ y, σ = [some (.ref a), some (.ref b), y]) ⟨rfl, none, rfl⟩ (fun i σ H' hi p => ?_) fun σ H' p => ?_
    · obtain ⟨rfl, y, rfl⟩ := p
      have hx : xs[i]? = some xs[i] := List.getElem?_eq_getElem (by omega)
      have hz : ys[i]? = some ys[i] := List.getElem?_eq_getElem (by omega)
      obtain ⟨d, hd, hdx⟩ := tx.get hx
      obtain ⟨d', hd', hdz⟩ := ty.get hz
      rw [hd] at hd'
      cases hd'
      walk_at "aw"
      refine .inr (w_ixT (SqT.of ea) (at_of (j := i) (by omega) hx) ?_)
      walk_at "aw"
      refine .inr (w_ixT (SqT.of eb) (at_of (j := i) (by omega) hz) ?_)
      walk_at "aw"
      refine ⟨_, _, rfl, d, hdx, hdz, h d (List.mem_of_getElem? hd), ?_⟩
      walk_at "aw"
      exact ⟨rfl, _, rfl⟩
    · obtain ⟨rfl, y, rfl⟩ := p
      walk_at "aw"
      exact q
end AW
/-! expressions of which the very datum is told; lists of data that keep a property -/
namespace AW
open PySem PySem.Spec PyProof.Rows L2 RZ
theorem IsAll.drop {H : Hp} : ∀ {ds : List PyData} {xs : List V} (n : Nat), IsAll H ds xs → IsAll H (ds.drop n) (xs.drop n)
  | _, _, 0, h => h
  | _, _, _ + 1, .nil => .nil
  | _, _, n + 1, .cons _ t => IsAll.drop n t
theorem IsAll.take {H : Hp} : ∀ {ds : List PyData} {xs : List V} (n : Nat), IsAll H ds xs → IsAll H (ds.take n) (xs.take n)
  | _, _, 0, _ => .nil
  | _, _, _ + 1, .nil => .nil
  | _, _, n + 1, .cons a t => .cons a (IsAll.take n t)
def cutD (ds : List PyData) (lo hi : Option Int) : List PyData := (ds.drop (HT.sIx ds.length 0 lo)).take (HT.sIx ds.length ds.length hi - HT.sIx ds.length 0 lo)
theorem IsAll.cut {H : Hp} {ds : List PyData} {xs : List V} {lo hi : Option Int} (h : IsAll H ds xs) : IsAll H (cutD ds lo hi) (cutV xs lo hi) := by
  unfold cutD cutV
  rw [h.length]
  exact (h.drop _).take _
theorem sIx_nat {n b k : Nat} (h : k ≤ n) : HT.sIx n b (some (k : Int)) = k := by
  unfold HT.sIx
  simp only []
  rw [if_neg (by omega)]
  omega
theorem sIx_past {n b k : Nat} (h : n ≤ k) : HT.sIx n b (some (k : Int)) = n := by
  unfold HT.sIx
  simp only []
  rw [if_neg (by omega)]
  omega
theorem cutD_from {ds : List PyData} (k : Nat) : cutD ds (some (k : Int)) none = ds.drop k := by
  unfold cutD
  rw [HT.sIx_none]
  rcases Nat.le_total k ds.length with h | h
  · rw [sIx_nat h, List.take_of_length_le (by rw [List.length_drop]; omega)]
  · rw [sIx_past h, List.drop_of_length_le h, List.drop_of_length_le (Nat.le_refl _), List.take_nil]
section
variable {K : PySem.W.Frag} {σ : L2.St} {H : Hp} {te tf : TE} {ta : TA} {D D1 D2 : PyData} {ds es : List PyData} {n m : Nat}
def EX (D : PyData) (te : TE) (σ : L2.St) (H : Hp) : Prop := ∀ (H' : Hp) (Q : VK), Adv [] H H' → (∀ v H'', Adv [] H' H'' → Is H'' D v → Q v H'') → te σ H' Q
def EXA (ds : List PyData) (ta : TA) (σ : L2.St) (H : Hp) : Prop := ∀ (H' : Hp) (Q : List V → Hp → Prop), Adv [] H H' → (∀ vs H'', Adv [] H' H'' → IsAll H'' ds vs → Q vs H'') → ta σ H' Q
def EXP (o : Option Int) (to : TO) (σ : L2.St) (H : Hp) : Prop := ∀ (H' : Hp) (Q : Option Int → Hp → Prop), Adv [] H H' → (∀ H'', Adv [] H' H'' → Q o H'') → to σ H' Q
theorem EX.get (h : EX D te σ H) {Q : VK} (q : ∀ v H', Adv [] H H' → Is H' D v → Q v H') : te σ H Q := h H Q (.refl _ _) q
theorem ex_c {v : V} (h : Is H D v) : EX D (tC v) σ H := fun H' Q a q => q v H' (.refl _ _) (h.up a.tup)
theorem ex_int {k : Int} : EX (.int k) (tC (.int k)) σ H := ex_c (.int _)
theorem ex_str {x : Str} : EX (.str x) (tC (.str x)) σ H := ex_c (.str x)
theorem ex_var {i : Nat} {v : V} (h : σ[i]? = some (some v)) (d : Is H D v) : EX D (tVar i) σ H := fun H' Q a q => ⟨v, h, q v H' (.refl _ _) (d.up a.tup)⟩
theorem exa_nil : EXA [] tNil σ H := fun H' Q a q => q [] H' (.refl _ _) .nil
theorem exa_cons (h : EX D te σ H) (g : EXA ds ta σ H) : EXA (D :: ds) (tCons te ta) σ H := fun H' Q a q => h H' _ a fun v H1 a1 dd => g H1 _ (a.trans a1) fun vs H2 a2 dds => q _ H2 (a1.trans a2) (.cons (dd.up a2.tup) dds)
theorem ex_tup (h : EXA ds ta σ H) (hn : ds.length ≤ 100000 := by simp) : EX (.tuple ds) (tTup ta) σ H := fun H' Q a q => h H' _ a fun vs H1 a1 dd => w_tupD (by rw [dd.length]; exact hn) fun t H2 nt a2 e => q _ H2 (a1.trans a2) (.tup e (dd.up a2.tup))
theorem ex_cat (h : EX (.tuple ds) te σ H) (g : EX (.tuple es) tf σ H) (hz : ds.length + es.length ≤ 100000) : EX (.tuple (ds ++ es)) (tOp (rCatA K) te tf) σ H := fun H' Q a q => h H' _ a fun v H1 a1 dd => g H1 _ (a.trans a1) fun w H2 a2 d2 => by
  obtain ⟨p, xs, rfl, e, hx⟩ := dd.tup_inv
  obtain ⟨r, ys, rfl, e2, hy⟩ := d2.tup_inv
  exact w_catT' (a2.tup _ _ e) e2 (by rw [hx.length, hy.length]; exact hz) fun t H3 a3 e3 => q _ H3 (a1.trans (a2.trans a3)) (.tup e3 ((hx.up (a2.trans a3).tup).append (hy.up a3.tup)))
theorem exp_no : EXP none tNoPart σ H := fun H' Q a q => q H' (.refl _ _)
theorem exp_int {k : Int} (h : EX (.int k) te σ H) : EXP (some k) (tPart te) σ H := fun H' Q a q => h H' _ a fun v H1 a1 e => by
  rw [e.int_inv]
  exact ⟨k, rfl, q H1 a1⟩
theorem ex_sl {lo hi : TO} {o o2 : Option Int} (h : EX (.tuple ds) te σ H) (l : EXP o lo σ H) (u : EXP o2 hi σ H) : EX (.tuple (cutD ds o o2)) (tSl (rSlA K) te lo hi) σ H := fun H' Q a q => h H' _ a fun v H1 a1 dd => l H1 _ (a.trans a1) fun H2 a2 => u H2 _ (a.trans (a1.trans a2)) fun H3 a3 => by
  obtain ⟨p, xs, rfl, e, hx⟩ := dd.tup_inv
  exact w_slA ((a2.trans a3).tup _ _ e) fun t H4 a4 e4 => q _ H4 (a1.trans ((a2.trans a3).trans a4)) (.tup e4 (hx.cut.up ((a2.trans a3).trans a4).tup))
theorem EX.to (h : EX D1 te σ H) (e : D1 = D2) : EX D2 te σ H := e ▸ h
theorem ex_from {lo : TE} {k : Nat} (h : EX (.tuple ds) te σ H) (l : EX (.int (k : Int)) lo σ H) : EX (.tuple (ds.drop k)) (tSl (rSlA K) te (tPart lo) tNoPart) σ H := (ex_sl h (exp_int l) exp_no).to (by rw [cutD_from])
theorem ex_ix {i : Nat} (h : EX (.tuple ds) te σ H) (g : EX (.int (i : Int)) tf σ H) (e : ds[i]? = some D) : EX D (tOp (rIxT K) te tf) σ H := fun H' Q a q => h H' _ a fun v H1 a1 dd => g H1 _ (a.trans a1) fun w H2 a2 d2 => by
  obtain ⟨p, xs, rfl, e1, hx⟩ := dd.tup_inv
  rw [d2.int_inv]
  obtain ⟨v, hv, hd⟩ := hx.get' e
  exact w_ixT (SqT.of (a2.tup _ _ e1)) (at_of (j := i) (by omega) hv) (q _ H2 (a1.trans a2) (hd.up a2.tup))
/-! lists of data that keep a property -/
def AllP (P : PyData → Prop) (H : Hp) (xs : List V) : Prop := ∀ x ∈ xs, ∃ D, Is H D x ∧ P D
theorem AllP.up {P : PyData → Prop} {H H' : Hp} {xs : List V} (h : AllP P H xs) (k : TK H H') : AllP P H' xs := fun x hx => by
  obtain ⟨D, h1, h2⟩ := h x hx
  exact ⟨D, h1.up k, h2⟩
theorem AllP.of {P : PyData → Prop} {H : Hp} {ds : List PyData} {xs : List V} (h : IsAll H ds xs) (p : ∀ d ∈ ds, P d) : AllP P H xs := fun x hx => by
  obtain ⟨i, hi, rfl⟩ := List.mem_iff_getElem.mp hx
  obtain ⟨d, e, hd⟩ := h.get (List.getElem?_eq_getElem hi)
  exact ⟨d, hd, p d (List.mem_of_getElem? e)⟩
/-- the list at l, made over the heap Hb, has n data that keep P -/
def FB (P : PyData → Prop) (Hb : Hp) (l : Addr) (n : Nat) (H : Hp) : Prop := Adv [] Hb H ∧ ∃ xs, H l = some (.lst xs) ∧ AllP P H xs ∧ xs.length = n
theorem FB.up {P : PyData → Prop} {Hb H H' : Hp} {l : Addr} (f : FB P Hb l n H) (a : Adv [] H H') : FB P Hb l n H' := by
  obtain ⟨a0, xs, e, p, hl⟩ := f
  exact ⟨a0.trans a, xs, a.keep _ _ (fun z => nomatch z) e, p.up a.tup, hl⟩
end
end AW
/-! data that comprehensions make out of data; names led by a dict -/
namespace AW
open PySem PySem.Spec PyProof.Rows L2 RZ
/-- the dict at d leads names to texts -/
def DicN (H : Hp) (d : Addr) (nms : List Str) (f : Str → Str) : Prop := ∃ kvs, H d = some (.dK kvs) ∧ ∀ x ∈ nms, valV kvs (Sum.inr x) = some (.str (f x))
theorem DicN.up {H H' : Hp} {d : Addr} {nms : List Str} {f : Str → Str} (h : DicN H d nms f) (a : Adv [] H H') : DicN H' d nms f := by
  obtain ⟨kvs, h1, h2⟩ := h
  exact ⟨kvs, a.keep _ _ (fun z => nomatch z) h1, h2⟩
section
variable {K : PySem.W.Frag} {σ : L2.St} {H : Hp} {te tf : TE} {ta : TA} {D D1 D2 : PyData} {ds es : List PyData} {n m : Nat} {d : Addr} {nms : List Str} {f : Str → Str}
theorem EX.at {H' : Hp} (h : EX D te σ H) (a : Adv [] H H') : EX D te σ H' := fun H2 Q a2 q => h H2 Q (a.trans a2) q
/-- new.get(x, x) -/
theorem ex_get2 {i : Nat} {x : Str} (hi : σ[i]? = some (some (.ref d))) (hd : DicN H d nms f) (hx : x ∈ nms) (h : EX (.str x) te σ H) (g : EX (.str x) tf σ H) : EX (.str (f x)) (tDGet2 (tVar i) te tf) σ H := fun H' Q a q => by
  obtain ⟨kvs, e, v⟩ := hd.up a
  refine ⟨_, hi, d, rfl, .inl ⟨kvs, .inl e⟩, ?_⟩
  refine h H' _ a fun y H1 a1 hy => g H1 _ (a.trans a1) fun z H2 a2 hz => ?_
  rw [hy.str_inv]
  refine ⟨_, DGet.k (k := .inr x) ((a1.trans a2).keep _ _ (fun z => nomatch z) e), ?_⟩
  rw [v x hx]
  exact q _ H2 (a1.trans a2) (.str _)
/-- new[x] -/
theorem ex_dget {i : Nat} {x : Str} (hi : σ[i]? = some (some (.ref d))) (hd : DicN H d nms f) (hx : x ∈ nms) (h : EX (.str x) te σ H) : EX (.str (f x)) (tDGet (tVar i) te) σ H := fun H' Q a q => by
  obtain ⟨kvs, e, v⟩ := hd.up a
  refine w_dg ?_
  refine ⟨_, hi, ?_⟩
  refine h H' _ a fun y H1 a1 hy => ?_
  rw [hy.str_inv]
  exact kDGet_i (k := .inr x) (a1.keep _ _ (fun z => nomatch z) e) (v x hx) (q _ H1 a1 (.str _))
theorem ex_addS {x y : Str} (h : EX (.str x) te σ H) (g : EX (.str y) tf σ H) (hl : x.length + y.length ≤ 100000) : EX (.str (x ++ y)) (tOp rAddS te tf) σ H := fun H' Q a q => h H' _ a fun v H1 a1 hv => g H1 _ (a.trans a1) fun w H2 a2 hw => by
  rw [hv.str_inv, hw.str_inv]
  exact ⟨x, y, rfl, rfl, Nat.le_trans hl (by decide), q _ H2 (a1.trans a2) (.str _)⟩
/-- a list of these data comes out -/
def LX (ds : List PyData) (te : TE) (σ : L2.St) (H : Hp) : Prop := ∀ (H' : Hp) (Q : VK), Adv [] H H' → (∀ l xs H'', H' l = none → Adv [] H' H'' → H'' l = some (.lst xs) → IsAll H'' ds xs → Q (.ref l) H'') → te σ H' Q
theorem ex_ofL (h : LX ds te σ H) : EX (.tuple ds) (tThen te (kTup K)) σ H := fun H' Q a q => h H' _ a fun l xs H1 nl a1 e hx => w_tupL (SqL.of e) fun t H2 nt a2 e2 => q _ H2 (a1.trans a2) (.tup e2 (hx.up a2.tup))
theorem lx_var {i : Nat} {l : Addr} {xs : List V} (h : σ[i]? = some (some (.ref l))) (e : H l = some (.lst xs)) (hx : IsAll H ds xs) : EX (.tuple ds) (tThen (tVar i) (kTup K)) σ H := fun H' Q a q => ⟨_, h, w_tupL (SqL.of (a.keep _ _ (fun z => nomatch z) e)) fun t H2 nt a2 e2 => q _ H2 a2 (.tup e2 ((hx.up a.tup).up a2.tup))⟩
/-- a comprehension over a tuple of data, any target -/
theorem lx_mapG {g : TG} {vs : List Nat} {tb : TE} (φ : PyData → PyData) (h : EX (.tuple ds) te σ H) (hn : ds.length ≤ 1000)
    (step : ∀ e ∈ ds, ∀ v H' (Kt : V → Hp → Prop), Adv [] H H' → Is H' e v → (∀ w H'', Adv [] H' H'' → Is H'' (φ e) w → Kt w H'') → g v (wipe σ vs) H' fun σ2 H2 => wipe σ2 vs = wipe σ vs ∧ tb σ2 H2 Kt) :
    LX (ds.map φ) (tLc (iTup K te) g tYes tb vs) σ H := fun H' Q a q => by
  refine h H' _ a fun v H1 a1 hv => ?_
  obtain ⟨p, xs, rfl, ep, hx⟩ := hv.tup_inv
  have hl := hx.length
  show kLcT K g tYes tb vs σ Q (.ref p) H1
  refine ⟨p, rfl, ⟨_, SqT.of ep⟩, kLc_rel (walk_tup (xs := xs)) (by omega) (fun H2 a2 => SqT.of (a2.tup _ _ ep)) (fun i y H2 => ∃ e, ds[i]? = some e ∧ Is H2 (φ e) y) (fun i y H2 H3 kk hh => by
    obtain ⟨e, h1, h2⟩ := hh
    exact ⟨e, h1, h2.up kk⟩) (fun i x H2 H3 Kt hi a2 yy kt => ?_) fun l H2 ys nl a2 el hyl hyr => ?_⟩
  · obtain ⟨rfl, hu⟩ := yy
    obtain ⟨e, he, hxe⟩ := hx.get hu
    exact step e (List.mem_of_getElem? he) x _ Kt ((a.trans a1).trans a2) (hxe.up a2.tup) fun w H4 a4 hw => kt w H4 a4 ⟨e, he, hw⟩
  · refine q l ys H2 (a1.free (fun z => nomatch z) nl) (a1.trans a2) el (IsAll.of _ _ (by rw [List.length_map]; omega) fun i dd v h1 h2 => ?_)
    obtain ⟨e, h3, h4⟩ := hyr i v h2
    rw [List.getElem?_map, h3] at h1
    cases h1
    exact h4
theorem lx_map {j : Nat} {tb : TE} (φ : PyData → PyData) (h : EX (.tuple ds) te σ H) (hn : ds.length ≤ 1000) (hw : ∀ v, wipe ((wipe σ [j]).set j (some v)) [j] = wipe σ [j])
    (step : ∀ e ∈ ds, ∀ v H', Adv [] H H' → Is H' e v → EX (φ e) tb ((wipe σ [j]).set j (some v)) H') : LX (ds.map φ) (tLc (iTup K te) (gName j) tYes tb [j]) σ H :=
  lx_mapG φ h hn fun e he v H' Kt a hv q => ⟨hw v, step e he v H' a hv H' Kt (.refl _ _) q⟩
/-- the items are pairs, their parts are taken -/
theorem lx_map2 {i j : Nat} {tb : TE} (φ : PyData → PyData) (h : EX (.tuple ds) te σ H) (hn : ds.length ≤ 1000) (hw : ∀ v w, wipe (((wipe σ [i, j]).set i (some v)).set j (some w)) [i, j] = wipe σ [i, j])
    (step : ∀ e ∈ ds, ∃ e1 e2, e = .tuple [e1, e2] ∧ ∀ v w H', Adv [] H H' → Is H' e1 v → Is H' e2 w → EX (φ e) tb (((wipe σ [i, j]).set i (some v)).set j (some w)) H') : LX (ds.map φ) (tLc (iTup K te) (gTup K 2 (gCons (gName i) (gCons (gName j) gNil))) tYes tb [i, j]) σ H :=
  lx_mapG φ h hn fun e he v H' Kt a hv q => by
    obtain ⟨e1, e2, rfl, st⟩ := step e he
    obtain ⟨p, xs, rfl, ep, hx⟩ := hv.tup_inv
    cases hx with
    | cons h1 t =>
      cases t with
      | cons h2 t =>
        cases t
        refine w_gtup (SqT.of ep) rfl ?_
        exact w_gcons (w_gname (w_gcons (w_gname (w_gnil ⟨hw _ _, st _ _ H' a h1 h2 H' Kt (.refl _ _) q⟩))))
/-- f(a, new) -/
theorem ex_call2 {sp : Sp} {i : Nat} {u : V} (hi : σ[i]? = some (some u)) (h : EX D1 te σ H) (c : ∀ v H' (Q : VK), Adv [] H H' → Is H' D1 v → (∀ w H'', Adv [] H' H'' → Is H'' D2 w → Q w H'') → sp [v, u] H' Q E0) : EX D2 (tCall sp [] E0 (tCons te (tCons (tVar i) tNil))) σ H := fun H' Q a q => by
  refine w_call ?_
  refine h H' _ a fun v H1 a1 hv => ?_
  exact ⟨_, hi, c v H1 Q (a.trans a1) hv fun w H2 a2 hw => q w H2 (a1.trans a2) hw⟩
end
end AW
namespace AW
open PySem PySem.Spec PyProof.Rows L2 RZ
open StX
local macro_rules | `(tactic| walk_at "aw1") => `(tactic| first
  | (with_reducible refine w_seq ?_) | (with_reducible refine w_asg ?_) | (with_reducible refine w_gname ?_) | (with_reducible refine w_op ?_) | (with_reducible refine w_un ?_)
  | ((with_reducible refine' w_var ?h ?_); (case h => rfl)) | (with_reducible refine w_c ?_)
  | (with_reducible refine w_I0 ?_) | (with_reducible refine w_U ?_) | (with_reducible refine w_cb ?_) | (with_reducible refine w_nil ?_) | (with_reducible refine w_cons ?_) | (with_reducible refine w_call ?_)
  | (with_reducible refine w_test ?_) | (with_reducible refine w_B ?_) | (with_reducible refine w_bl ?_) | (with_reducible refine w_not ?_) | (with_reducible refine w_yes ?_) | (with_reducible refine iteT ?_) | (with_reducible refine iteF ?_) | (with_reducible refine w_and ?_) | (with_reducible refine w_or ?_)
  | (with_reducible refine w_andV ?_) | (with_reducible refine w_orV ?_) | (with_reducible refine w_notV ?_) | (with_reducible refine w_if ?_)
  | (with_reducible refine w_int1 ?_) | (with_reducible refine w_int1b ?_) | (with_reducible refine w_abs ?_) | (with_reducible refine w_max2 ?_) | (with_reducible refine w_min2 ?_)
  | ((with_reducible refine w_eq ?h ?_); (case h => rfl)) | ((with_reducible refine w_ne ?h ?_); (case h => rfl)) | (with_reducible refine w_isN ?_) | (with_reducible refine w_isB ?_) | (with_reducible refine w_chain ?_)
  | (with_reducible refine w_ret ?_) | (with_reducible refine w_drop ?_) | (with_reducible refine w_ifS ?_) | (with_reducible refine w_gsub ?_) | (with_reducible refine w_augS ?_) | (with_reducible refine w_ipI ?_) | (with_reducible refine w_next ?_)
  | (with_reducible refine w_forR ?_) | (with_reducible refine w_forR2 ?_) | (with_reducible refine w_forL ?_) | (with_reducible refine w_forT ?_) | (with_reducible refine w_lcR ?_) | (with_reducible refine w_lcL ?_) | (with_reducible refine w_lcT ?_) | (with_reducible refine w_sl ?_) | (with_reducible refine w_part ?_) | (with_reducible refine w_noPart ?_) | (with_reducible refine w_in ?_)
  | (with_reducible refine w_gcons ?_) | (with_reducible refine w_gnil ?_) | (with_reducible refine w_lc3 ?_) | (with_reducible refine w_dcZ ?_) | (with_reducible refine w_dcT ?_) | (with_reducible refine w_dg ?_) | (with_reducible refine w_callK ?_) | (with_reducible refine w_dput ?_) | (with_reducible refine w_tup1 ?_)
  | (with_reducible refine w_tup ?_) | (with_reducible refine w_lst ?_)
  | ((with_reducible refine w_I ?h ?_); (case h => first | (exact Or.inr ⟨by decide, by decide⟩) | (exact Or.inl ⟨by decide, by decide⟩) | (show (0 : Int) < _; decide) | (exact ⟨by decide, by decide, by decide⟩) | assumption)))
local macro_rules | `(tactic| walk_at "aw") => `(tactic| repeat (walk_at "aw1"))
inductive ClO (nms : List Str) : Nat → PyData → Prop
  | one {m : Nat} {x : Str} {v : Int} (b : Bool) (hx : x ∈ nms) : ClO nms (m + 1) (.tuple [.str (atW b), .str x, .int v])
  | neg {m : Nat} {d : PyData} (h : ClO nms m d) : ClO nms (m + 1) (.tuple [.str "not", d])
  | many {m : Nat} (b : Bool) (ds : List PyData) (hl : ds.length ≤ 100) (h : ∀ d ∈ ds, ClO nms m d) : ClO nms (m + 1) (.tuple [.str (manyW b), .tuple ds])
def renC (f : Str → Str) : Nat → PyData → PyData
  | 0, d => d
  | m + 1, d => match d with
    | .tuple (.str w :: e :: r) => match r with
      | [] => if w = "not" then .tuple [.str w, renC f m e] else match e with
        | .tuple ds => .tuple [.str w, .tuple (ds.map (renC f m))]
        | e => .tuple [.str w, e]
      | v :: _ => match e with
        | .str x => .tuple [.str w, .str (f x), v]
        | e => .tuple [.str w, e, v]
    | d => d
theorem renC_one {f : Str → Str} {m : Nat} {w x : Str} {v : Int} : renC f (m + 1) (.tuple [.str w, .str x, .int v]) = .tuple [.str w, .str (f x), .int v] := rfl
theorem renC_neg {f : Str → Str} {m : Nat} {d : PyData} : renC f (m + 1) (.tuple [.str "not", d]) = .tuple [.str "not", renC f m d] := by simp [renC]
theorem renC_many {f : Str → Str} {m : Nat} {b : Bool} {ds : List PyData} : renC f (m + 1) (.tuple [.str (manyW b), .tuple ds]) = .tuple [.str (manyW b), .tuple (ds.map (renC f m))] := by
  have : ¬ manyW b = "not" := by cases b <;> decide
  exact if_neg this
/-- a saying: its names and what else it says -/
inductive Sy where
  | sums (b : Bool) (ts : List (Str × Int)) (n : Int)
  | claim (d : PyData)
  | when (d : PyData) (s : Sy)
  | prod (x y z : Str)
  | pick (i : Str) (xs : List Str) (r : Str)
  | top (xs : List Str) (r : Str)
  | ahead (xs ys : List Str)
  | flat (k : Nat) (xs : List Str) (rest : List PyData)
def flW : List Str := ["unlike", "counts", "table", "bar", "machine", "works", "round"]
def strsD (xs : List Str) : PyData := .tuple (xs.map .str)
def Sy.D : Sy → PyData
  | .sums b ts n => .tuple [.str (sumW b), .tuple (ts.map trD), .int n]
  | .claim d => .tuple [.str "claim", d]
  | .when d s => .tuple [.str "when", d, s.D]
  | .prod x y z => .tuple [.str "product", .str x, .str y, .str z]
  | .pick i xs r => .tuple [.str "pick", .str i, strsD xs, .str r]
  | .top xs r => .tuple [.str "top", strsD xs, .str r]
  | .ahead xs ys => .tuple [.str "ahead", strsD xs, strsD ys]
  | .flat k xs rest => .tuple (.str (flW.getD k "round") :: strsD xs :: rest)
def Sy.ren (f : Str → Str) : Sy → Sy
  | .sums b ts n => .sums b (ts.map fun t => (f t.1, t.2)) n
  | .claim d => .claim (renC f 4 d)
  | .when d s => .when (renC f 4 d) (s.ren f)
  | .prod x y z => .prod (f x) (f y) (f z)
  | .pick i xs r => .pick (f i) (xs.map f) (f r)
  | .top xs r => .top (xs.map f) (f r)
  | .ahead xs ys => .ahead (xs.map f) (ys.map f)
  | .flat k xs rest => .flat k (xs.map f) rest
def AllIn (nms xs : List Str) : Prop := xs.length ≤ 100 ∧ ∀ x ∈ xs, x ∈ nms
def Sy.ok (nms : List Str) : Nat → Sy → Prop
  | _, .sums _ ts _ => AllIn nms (ts.map (·.1))
  | _, .claim d => ClO nms 4 d
  | m, .when d s => ClO nms 4 d ∧ 0 < m ∧ s.ok nms (m - 1)
  | _, .prod x y z => x ∈ nms ∧ y ∈ nms ∧ z ∈ nms
  | _, .pick i xs r => i ∈ nms ∧ AllIn nms xs ∧ r ∈ nms
  | _, .top xs r => AllIn nms xs ∧ r ∈ nms
  | _, .ahead xs ys => AllIn nms xs ∧ AllIn nms ys
  | _, .flat _ xs rest => AllIn nms xs ∧ rest.length ≤ 3 ∧ ∀ d ∈ rest, SmE 4 d
theorem w_tupW {xs : List V} {H : Hp} {Q : VK} (h : xs.length ≤ 100000) (q : ∀ r H', Adv [] H H' → H' r = some (.tup xs) → Q (.ref r) H') : kTupD xs H Q := w_tupD h fun r H' _ a e => q r H' a e
theorem inV_str (x : Str) (xs : List Str) : inV (.str x) (xs.map V.str) = decide (x ∈ xs) := by
  unfold inV
  rw [Bool.eq_iff_iff, List.any_map, List.any_eq_true, decide_eq_true_iff]
  constructor
  · rintro ⟨y, hy, e⟩
    have : y = x := by simpa [eqV] using e
    exact this ▸ hy
  · intro h
    exact ⟨x, h, by simp [eqV]⟩
def sp_renamed_names (_ : PySem.W.Frag) : Sp := fun vs H Q _ => ∃ (v : V) (d : Addr), vs = [v, .ref d] ∧ ∃ nms f, ∃ xs : List Str, DicN H d nms f ∧ Is H (strsD xs) v ∧ AllIn nms xs ∧ ∀ w H', Adv [] H H' → Is H' (strsD (xs.map f)) w → Q w H'
def sp_renamed_claim (_ : PySem.W.Frag) (m : Nat) : Sp := fun vs H Q _ => ∃ (v : V) (d : Addr), vs = [v, .ref d] ∧ ∃ nms f D, DicN H d nms f ∧ Is H D v ∧ ClO nms m D ∧ ∀ w H', Adv [] H H' → Is H' (renC f m D) w → Q w H'
def sp_renamed_saying (_ : PySem.W.Frag) (m : Nat) : Sp := fun vs H Q _ => ∃ (v : V) (d : Addr), vs = [v, .ref d] ∧ ∃ nms f, ∃ s : Sy, DicN H d nms f ∧ Is H (Sy.D s) v ∧ 0 < m ∧ s.ok nms (m - 1) ∧ ∀ w H', Adv [] H H' → Is H' (s.ren f).D w → Q w H'
/-- one item of a model -/
def iD (p : Str × Sy) : PyData := .tuple [.str p.1, p.2.D]
def sD (p : Str × Sy × Int) : PyData := .tuple [.str p.1, p.2.1.D, .int p.2.2]
def uD (p : Str × List Int) : PyData := .tuple [.str p.1, .tuple (p.2.map .int)]
def mD (doms : List (Str × List Int)) (its : List (Str × Sy)) (soft : List (Str × Sy × Int)) : PyData := .tuple [.tuple (doms.map uD), .tuple (its.map iD), .tuple (soft.map sD)]
def sp_renamed_items (_ : PySem.W.Frag) : Sp := fun vs H Q _ => ∃ (v : V) (d : Addr), vs = [v, .ref d] ∧ ∃ nms f, ∃ its : List (Str × Sy), DicN H d nms f ∧ Is H (.tuple (its.map iD)) v ∧ its.length ≤ 100 ∧ (∀ p ∈ its, p.1 ∈ nms ∧ p.2.ok nms 1) ∧ ∀ w H', Adv [] H H' → Is H' (.tuple ((its.map fun p => (f p.1, p.2.ren f)).map iD)) w → Q w H'
def sp_renamed_unknowns (_ : PySem.W.Frag) : Sp := fun vs H Q _ => ∃ (v : V) (d : Addr), vs = [v, .ref d] ∧ ∃ nms f, ∃ us : List (Str × List Int), DicN H d nms f ∧ Is H (.tuple (us.map uD)) v ∧ us.length ≤ 100 ∧ (∀ p ∈ us, p.1 ∈ nms) ∧ ∀ w H', Adv [] H H' → Is H' (.tuple ((us.map fun p => (f p.1, p.2)).map uD)) w → Q w H'
theorem map_map' {α β γ : Type} (f : α → β) (g : β → γ) (xs : List α) : (xs.map f).map g = xs.map fun x => g (f x) := by rw [List.map_map]; rfl
section
variable {K : PySem.W.Frag} {σ : L2.St} {H : Hp} {te : TE} {Q : VK} {t1 t2 : TS} {E : Ends}
/-- if word == "..": the word is another -/
theorem if_ne {i : Nat} {w c : Str} (hi : σ[i]? = some (some (.str w))) (h : ¬ w = c) (q : t2 E σ H) : tIfS (tTest (tOp rEq (tVar i) (tC (.str c)))) t1 t2 E σ H := by
  refine ⟨_, hi, rfl, _, rfl, ?_⟩
  exact iteF'' (decide_eq_false fun z => h (V.str.inj z)) q
theorem if_eq {i : Nat} {w c : Str} (hi : σ[i]? = some (some (.str w))) (h : w = c) (q : t1 E σ H) : tIfS (tTest (tOp rEq (tVar i) (tC (.str c)))) t1 t2 E σ H := by
  refine ⟨_, hi, rfl, _, rfl, ?_⟩
  exact iteT'' (decide_eq_true (by rw [h])) q
theorem in_two {i : Nat} {w a b : Str} {R : Prop} (hi : σ[i]? = some (some (.str w))) (q : ∀ H', Adv [] H H' → if decide (w = a ∨ w = b) = true then t1 E σ H' else t2 E σ H') : tIfS (tTest (tOp (rIn K false) (tVar i) (tTup (tCons (tC (.str a)) (tCons (tC (.str b)) tNil))))) t1 t2 E σ H := by
  refine ⟨_, hi, ?_⟩
  refine w_tup ?_
  refine w_cons (w_c (w_cons (w_c (w_nil ?_))))
  refine w_tupW (by simp) fun t H2 a2 et => ?_
  refine w_inT et rfl rfl ⟨_, rfl, ?_⟩
  rw [show ([V.str a, V.str b] : List V) = ([a, b] : List Str).map V.str from rfl, inV_str]
  have := q H2 a2
  simpa using this
end
theorem flW_ne {k : Nat} {c : Str} (h : c ∉ flW) : ¬ flW.getD k "round" = c := by
  intro z
  apply h
  rw [← z]
  rw [List.getD_eq_getElem?_getD]
  cases e : flW[k]? with
  | none => decide
  | some v => exact List.mem_of_getElem? e
def t_renamed_names (K : PySem.W.Frag) : TS := (tRet (tThen (tLc (iTup K (tVar 0)) (gName 2) tYes (tDGet2 (tVar 1) (tVar 2) (tVar 2)) [2]) (kTup K)))
def t_renamed_claim (K : PySem.W.Frag) (m : Nat) : TS := (tSeq (tIfS (tTest (tOp (rIn K false) (tOp (rIxT K) (tVar 0) (tC (.int 0))) (tTup (tCons (tC (.str "from")) (tCons (tC (.str "is")) tNil))))) (tRet (tTup (tCons (tOp (rIxT K) (tVar 0) (tC (.int 0))) (tCons (tDGet2 (tVar 1) (tOp (rIxT K) (tVar 0) (tC (.int 1))) (tOp (rIxT K) (tVar 0) (tC (.int 1)))) (tCons (tOp (rIxT K) (tVar 0) (tC (.int 2))) tNil))))) tNext)
  (tSeq (tIfS (tTest (tOp rEq (tOp (rIxT K) (tVar 0) (tC (.int 0))) (tC (.str "not")))) (tRet (tTup (tCons (tC (.str "not")) (tCons (tCall (sp_renamed_claim K m) [] E0 (tCons (tOp (rIxT K) (tVar 0) (tC (.int 1))) (tCons (tVar 1) tNil))) tNil)))) tNext)
  (tRet (tTup (tCons (tOp (rIxT K) (tVar 0) (tC (.int 0))) (tCons (tThen (tLc (iTup K (tOp (rIxT K) (tVar 0) (tC (.int 1)))) (gName 2) tYes (tCall (sp_renamed_claim K m) [] E0 (tCons (tVar 2) (tCons (tVar 1) tNil))) [2]) (kTup K)) tNil))))))
def t_renamed_saying (K : PySem.W.Frag) (m : Nat) : TS := (tSeq (tAsg (tOp (rIxT K) (tVar 0) (tC (.int 0))) (gName 2))
  (tSeq (tIfS (tTest (tOp (rIn K false) (tVar 2) (tTup (tCons (tC (.str "least")) (tCons (tC (.str "same")) tNil))))) (tRet (tTup (tCons (tVar 2) (tCons (tThen (tLc (iTup K (tOp (rIxT K) (tVar 0) (tC (.int 1)))) (gTup K 2 (gCons (gName 3) (gCons (gName 4) gNil))) tYes (tTup (tCons (tDGet2 (tVar 1) (tVar 3) (tVar 3)) (tCons (tVar 4) tNil))) [3, 4]) (kTup K)) (tCons (tOp (rIxT K) (tVar 0) (tC (.int 2))) tNil))))) tNext)
  (tSeq (tIfS (tTest (tOp rEq (tVar 2) (tC (.str "claim")))) (tRet (tTup (tCons (tVar 2) (tCons (tCall (sp_renamed_claim K 4) [] E0 (tCons (tOp (rIxT K) (tVar 0) (tC (.int 1))) (tCons (tVar 1) tNil))) tNil)))) tNext)
  (tSeq (tIfS (tTest (tOp rEq (tVar 2) (tC (.str "when")))) (tRet (tTup (tCons (tVar 2) (tCons (tCall (sp_renamed_claim K 4) [] E0 (tCons (tOp (rIxT K) (tVar 0) (tC (.int 1))) (tCons (tVar 1) tNil))) (tCons (tCall (sp_renamed_saying K m) [] E0 (tCons (tOp (rIxT K) (tVar 0) (tC (.int 2))) (tCons (tVar 1) tNil))) tNil))))) tNext)
  (tSeq (tIfS (tTest (tOp rEq (tVar 2) (tC (.str "pick")))) (tRet (tTup (tCons (tVar 2) (tCons (tDGet2 (tVar 1) (tOp (rIxT K) (tVar 0) (tC (.int 1))) (tOp (rIxT K) (tVar 0) (tC (.int 1)))) (tCons (tCall (sp_renamed_names K) [] E0 (tCons (tOp (rIxT K) (tVar 0) (tC (.int 2))) (tCons (tVar 1) tNil))) (tCons (tDGet2 (tVar 1) (tOp (rIxT K) (tVar 0) (tC (.int 3))) (tOp (rIxT K) (tVar 0) (tC (.int 3)))) tNil)))))) tNext)
  (tSeq (tIfS (tTest (tOp rEq (tVar 2) (tC (.str "top")))) (tRet (tTup (tCons (tVar 2) (tCons (tCall (sp_renamed_names K) [] E0 (tCons (tOp (rIxT K) (tVar 0) (tC (.int 1))) (tCons (tVar 1) tNil))) (tCons (tDGet2 (tVar 1) (tOp (rIxT K) (tVar 0) (tC (.int 2))) (tOp (rIxT K) (tVar 0) (tC (.int 2)))) tNil))))) tNext)
  (tSeq (tIfS (tTest (tOp rEq (tVar 2) (tC (.str "product")))) (tRet (tOp (rCatA K) (tTup (tCons (tVar 2) tNil)) (tCall (sp_renamed_names K) [] E0 (tCons (tSl (rSlA K) (tVar 0) (tPart (tC (.int 1))) tNoPart) (tCons (tVar 1) tNil))))) tNext)
  (tSeq (tIfS (tTest (tOp rEq (tVar 2) (tC (.str "ahead")))) (tRet (tTup (tCons (tVar 2) (tCons (tCall (sp_renamed_names K) [] E0 (tCons (tOp (rIxT K) (tVar 0) (tC (.int 1))) (tCons (tVar 1) tNil))) (tCons (tCall (sp_renamed_names K) [] E0 (tCons (tOp (rIxT K) (tVar 0) (tC (.int 2))) (tCons (tVar 1) tNil))) tNil))))) tNext)
  (tRet (tOp (rCatA K) (tTup (tCons (tVar 2) (tCons (tCall (sp_renamed_names K) [] E0 (tCons (tOp (rIxT K) (tVar 0) (tC (.int 1))) (tCons (tVar 1) tNil))) tNil))) (tSl (rSlA K) (tVar 0) (tPart (tC (.int 2))) tNoPart)))))))))))
def t_renamed_items (K : PySem.W.Frag) : TS := (tRet (tThen (tLc (iTup K (tVar 0)) (gName 2) tYes (tOp (rCatA K) (tTup (tCons (tDGet2 (tVar 1) (tOp (rIxT K) (tVar 2) (tC (.int 0))) (tOp (rIxT K) (tVar 2) (tC (.int 0)))) (tCons (tCall (sp_renamed_saying K 2) [] E0 (tCons (tOp (rIxT K) (tVar 2) (tC (.int 1))) (tCons (tVar 1) tNil))) tNil))) (tSl (rSlA K) (tVar 2) (tPart (tC (.int 2))) tNoPart)) [2]) (kTup K)))
def t_renamed_unknowns (K : PySem.W.Frag) : TS := (tRet (tThen (tLc (iTup K (tVar 0)) (gTup K 2 (gCons (gName 2) (gCons (gName 3) gNil))) tYes (tTup (tCons (tDGet2 (tVar 1) (tVar 2) (tVar 2)) (tCons (tVar 3) tNil))) [2, 3]) (kTup K)))
theorem len_renamed_names {K : PySem.W.Frag} : ∀ (vs : List V) (H : Hp) (Q : VK) (E : XK), sp_renamed_names K vs H Q E → vs.length = 2 := fun vs H Q E h => by
  obtain ⟨_, _, rfl, _⟩ := h
  rfl
theorem pure_renamed_names {K : PySem.W.Frag} (vs : List V) (H : Hp) (Q : VK) (E : XK) (h : sp_renamed_names K vs H Q E) : t_renamed_names K { nx := fun _ H' => Q .non H', rt := Q } (start ["names", "new", "x"] vs) H := by
  obtain ⟨v, d, rfl, nms, f, xs, hd, hv, hx, q⟩ := h
  show t_renamed_names K _ [some v, some (.ref d), none] H
  unfold t_renamed_names
  with_reducible refine w_ret ?_
  refine (ex_ofL (lx_map (fun e => .str (f (txtD e))) (ex_var rfl hv) (by rw [List.length_map]; have := hx.1; omega) (fun _ => rfl) fun e he v H' a hv => ?_)).get fun w H' a hw => q w H' a ?_
  · obtain ⟨x, hxm, rfl⟩ := List.mem_map.mp he
    exact ex_get2 rfl (hd.up a) (hx.2 x hxm) (ex_var rfl hv) (ex_var rfl hv)
  · unfold strsD
    rw [map_map'] at hw ⊢
    exact hw
theorem len_renamed_claim {K : PySem.W.Frag} {m : Nat} : ∀ (vs : List V) (H : Hp) (Q : VK) (E : XK), sp_renamed_claim K m vs H Q E → vs.length = 2 := fun vs H Q E h => by
  obtain ⟨_, _, rfl, _⟩ := h
  rfl
theorem no_renamed_claim {K : PySem.W.Frag} {vs : List V} {H : Hp} {Q : VK} {E : XK} (h : sp_renamed_claim K 0 vs H Q E) : False := by
  obtain ⟨_, _, _, _, _, _, _, _, h, _⟩ := h
  cases h
theorem pure_renamed_claim {K : PySem.W.Frag} {m : Nat} (vs : List V) (H : Hp) (Q : VK) (E : XK) (h : sp_renamed_claim K (m + 1) vs H Q E) : t_renamed_claim K m { nx := fun _ H' => Q .non H', rt := Q } (start ["claim", "new", "part"] vs) H := by
  obtain ⟨v, d, rfl, nms, f, D, hd, hv, hc, q⟩ := h
  show t_renamed_claim K m _ [some v, some (.ref d), none] H
  unfold t_renamed_claim
  have hin : ∀ (w : Str) (σ : L2.St) (H' : Hp) (Q : VK), Adv [] H H' → (∀ H'', Adv [] H' H'' → Q (.bl (decide (w = "from" ∨ w = "is"))) H'') → EX (.str w) (tOp (rIxT K) (tVar 0) (tC (.int 0))) σ H → tOp (rIn K false) (tOp (rIxT K) (tVar 0) (tC (.int 0))) (tTup (tCons (tC (.str "from")) (tCons (tC (.str "is")) tNil))) σ H' Q := fun w σ H' Q a q e => by
    refine e H' _ a fun y H1 a1 hy => ?_
    rw [hy.str_inv]
    walk_at "aw"
    refine w_tupW (by simp) fun t H2 a2 et => ?_
    refine w_inT et rfl rfl ?_
    rw [show ([V.str "from", V.str "is"] : List V) = (["from", "is"] : List Str).map V.str from rfl, inV_str]
    have := q H2 (a1.trans a2)
    simpa using this
  cases hc with
  | @one _ x n b hx =>
    have W : ∀ σ : L2.St, σ[0]? = some (some v) → EX (.str (atW b)) (tOp (rIxT K) (tVar 0) (tC (.int 0))) σ H := fun σ h => ex_ix (i := 0) (ex_var h hv) ex_int rfl
    have X : ∀ σ : L2.St, σ[0]? = some (some v) → EX (.str x) (tOp (rIxT K) (tVar 0) (tC (.int 1))) σ H := fun σ h => ex_ix (i := 1) (ex_var h hv) ex_int rfl
    with_reducible refine w_seq ?_
    with_reducible refine w_ifS ?_
    with_reducible refine w_test ?_
    refine hin (atW b) _ H _ (.refl _ _) (fun H1 a1 => ?_) (W _ rfl)
    refine ⟨_, rfl, ?_⟩
    refine iteT'' (decide_eq_true (by cases b <;> simp [atW])) ?_
    with_reducible refine w_ret ?_
    refine (EX.at (ex_tup (exa_cons (W _ rfl) (exa_cons (ex_get2 rfl hd hx (X _ rfl) (X _ rfl)) (exa_cons (ex_ix (i := 2) (ex_var rfl hv) ex_int rfl) exa_nil)))) a1).get fun w H' a hw => ?_
    rw [renC_one] at q
    exact q w H' (a1.trans a) hw
  | @neg _ e h =>
    have W : ∀ σ : L2.St, σ[0]? = some (some v) → EX (.str "not") (tOp (rIxT K) (tVar 0) (tC (.int 0))) σ H := fun σ h => ex_ix (i := 0) (ex_var h hv) ex_int rfl
    with_reducible refine w_seq ?_
    with_reducible refine w_ifS ?_
    with_reducible refine w_test ?_
    refine hin _ _ H _ (.refl _ _) (fun H1 a1 => ?_) (W _ rfl)
    refine ⟨_, rfl, ?_⟩
    refine iteF'' (decide_eq_false (by decide)) ?_
    with_reducible refine w_next ?_
    with_reducible refine w_seq ?_
    with_reducible refine w_ifS ?_
    with_reducible refine w_test ?_
    with_reducible refine w_op ?_
    refine (W _ rfl) H1 _ a1 fun y H2 a2 hy => ?_
    rw [hy.str_inv]
    walk_at "aw"
    refine (EX.at (ex_tup (exa_cons ex_str (exa_cons (ex_call2 (D2 := renC f m e) (i := 1) rfl (ex_ix (i := 1) (ex_var rfl hv) ex_int rfl) fun v1 H3 Q1 a3 hv1 q1 => ⟨v1, d, rfl, nms, f, e, hd.up a3, hv1, h, q1⟩) exa_nil))) (a1.trans a2)).get fun w H' a hw => ?_
    rw [renC_neg] at q
    exact q w H' (a1.trans (a2.trans a)) hw
  | @many _ b ds hl h =>
    have W : ∀ σ : L2.St, σ[0]? = some (some v) → EX (.str (manyW b)) (tOp (rIxT K) (tVar 0) (tC (.int 0))) σ H := fun σ h => ex_ix (i := 0) (ex_var h hv) ex_int rfl
    with_reducible refine w_seq ?_
    with_reducible refine w_ifS ?_
    with_reducible refine w_test ?_
    refine hin _ _ H _ (.refl _ _) (fun H1 a1 => ?_) (W _ rfl)
    refine ⟨_, rfl, ?_⟩
    refine iteF'' (decide_eq_false (by cases b <;> decide)) ?_
    with_reducible refine w_next ?_
    with_reducible refine w_seq ?_
    with_reducible refine w_ifS ?_
    with_reducible refine w_test ?_
    with_reducible refine w_op ?_
    refine (W _ rfl) H1 _ a1 fun y H2 a2 hy => ?_
    rw [hy.str_inv]
    walk_at "aw"
    refine iteF'' (decide_eq_false (by cases b <;> decide)) ?_
    with_reducible refine w_next ?_
    with_reducible refine w_ret ?_
    refine (EX.at (ex_tup (exa_cons (W _ rfl) (exa_cons (ex_ofL (lx_map (renC f m) (ex_ix (i := 1) (ex_var rfl hv) ex_int rfl) (by omega) (fun _ => rfl) fun e he u H3 a3 hu => ex_call2 (D2 := renC f m e) (i := 1) rfl (ex_var rfl hu) fun v1 H4 Q1 a4 hv1 q1 => ⟨v1, d, rfl, nms, f, e, hd.up (a3.trans a4), hv1, h e he, q1⟩)) exa_nil))) (a1.trans a2)).get fun w H' a hw => ?_
    rw [renC_many] at q
    exact q w H' (a1.trans (a2.trans a)) hw
theorem len_renamed_saying {K : PySem.W.Frag} {m : Nat} : ∀ (vs : List V) (H : Hp) (Q : VK) (E : XK), sp_renamed_saying K m vs H Q E → vs.length = 2 := fun vs H Q E h => by
  obtain ⟨_, _, rfl, _⟩ := h
  rfl
theorem no_renamed_saying {K : PySem.W.Frag} {vs : List V} {H : Hp} {Q : VK} {E : XK} (h : sp_renamed_saying K 0 vs H Q E) : False := by
  obtain ⟨_, _, _, _, _, _, _, _, h, _⟩ := h
  cases h
theorem pure_renamed_saying {K : PySem.W.Frag} {m : Nat} (vs : List V) (H : Hp) (Q : VK) (E : XK) (h : sp_renamed_saying K (m + 1) vs H Q E) : t_renamed_saying K m { nx := fun _ H' => Q .non H', rt := Q } (start ["saying", "new", "word", "x", "w"] vs) H := by
  obtain ⟨v, d, rfl, nms, f, s, hd, hv, _, ok, q⟩ := h
  rw [Nat.add_sub_cancel] at ok
  show t_renamed_saying K m _ [some v, some (.ref d), none, none, none] H
  unfold t_renamed_saying
  have IX : ∀ (ds : List PyData) (i : Nat) (D : PyData) (σ : L2.St) (H' : Hp), Adv [] H H' → σ[0]? = some (some v) → Is H (.tuple ds) v → ds[i]? = some D → EX D (tOp (rIxT K) (tVar 0) (tC (.int i))) σ H' := fun ds i D σ H' a h hv e => (ex_ix (i := i) (ex_var h (hv.up a.tup)) ex_int e)
  have NM : ∀ (te : TE) (xs : List Str) (σ : L2.St) (H' : Hp), Adv [] H H' → σ[1]? = some (some (.ref d)) → AllIn nms xs → EX (strsD xs) te σ H' → EX (strsD (xs.map f)) (tCall (sp_renamed_names K) [] E0 (tCons te (tCons (tVar 1) tNil))) σ H' := fun te xs σ H' a h1 hx e => ex_call2 h1 e fun v1 H3 Q1 a3 hv1 q1 => ⟨v1, d, rfl, nms, f, xs, hd.up (a.trans a3), hv1, hx, q1⟩
  have CL : ∀ (te : TE) (D : PyData) (σ : L2.St) (H' : Hp), Adv [] H H' → σ[1]? = some (some (.ref d)) → ClO nms 4 D → EX D te σ H' → EX (renC f 4 D) (tCall (sp_renamed_claim K 4) [] E0 (tCons te (tCons (tVar 1) tNil))) σ H' := fun te D σ H' a h1 hx e => ex_call2 h1 e fun v1 H3 Q1 a3 hv1 q1 => ⟨v1, d, rfl, nms, f, D, hd.up (a.trans a3), hv1, hx, q1⟩
  have G : ∀ (te tf : TE) (x : Str) (σ : L2.St) (H' : Hp), Adv [] H H' → σ[1]? = some (some (.ref d)) → x ∈ nms → EX (.str x) te σ H' → EX (.str x) tf σ H' → EX (.str (f x)) (tDGet2 (tVar 1) te tf) σ H' := fun te tf x σ H' a h1 hx e g => ex_get2 h1 (hd.up a) hx e g
  have fin : ∀ (te : TE) (D : PyData) (σ : L2.St) (H' : Hp), Adv [] H H' → D = (s.ren f).D → EX D te σ H' → tRet te { nx := fun _ H' => Q .non H', rt := Q } σ H' := fun te D σ H' a e h => w_ret (h.get fun w H2 a2 hw => q w H2 (a.trans a2) (e ▸ hw))
  have W : ∀ (w : Str) (ds : List PyData), Is H (.tuple (.str w :: ds)) v → (∀ H', Adv [] H H' → tSeq (tIfS (tTest (tOp (rIn K false) (tVar 2) (tTup (tCons (tC (.str "least")) (tCons (tC (.str "same")) tNil))))) (tRet (tTup (tCons (tVar 2) (tCons (tThen (tLc (iTup K (tOp (rIxT K) (tVar 0) (tC (.int 1)))) (gTup K 2 (gCons (gName 3) (gCons (gName 4) gNil))) tYes (tTup (tCons (tDGet2 (tVar 1) (tVar 3) (tVar 3)) (tCons (tVar 4) tNil))) [3, 4]) (kTup K)) (tCons (tOp (rIxT K) (tVar 0) (tC (.int 2))) tNil))))) tNext) (tSeq (tIfS (tTest (tOp rEq (tVar 2) (tC (.str "claim")))) (tRet (tTup (tCons (tVar 2) (tCons (tCall (sp_renamed_claim K 4) [] E0 (tCons (tOp (rIxT K) (tVar 0) (tC (.int 1))) (tCons (tVar 1) tNil))) tNil)))) tNext)
  (tSeq (tIfS (tTest (tOp rEq (tVar 2) (tC (.str "when")))) (tRet (tTup (tCons (tVar 2) (tCons (tCall (sp_renamed_claim K 4) [] E0 (tCons (tOp (rIxT K) (tVar 0) (tC (.int 1))) (tCons (tVar 1) tNil))) (tCons (tCall (sp_renamed_saying K m) [] E0 (tCons (tOp (rIxT K) (tVar 0) (tC (.int 2))) (tCons (tVar 1) tNil))) tNil))))) tNext)
  (tSeq (tIfS (tTest (tOp rEq (tVar 2) (tC (.str "pick")))) (tRet (tTup (tCons (tVar 2) (tCons (tDGet2 (tVar 1) (tOp (rIxT K) (tVar 0) (tC (.int 1))) (tOp (rIxT K) (tVar 0) (tC (.int 1)))) (tCons (tCall (sp_renamed_names K) [] E0 (tCons (tOp (rIxT K) (tVar 0) (tC (.int 2))) (tCons (tVar 1) tNil))) (tCons (tDGet2 (tVar 1) (tOp (rIxT K) (tVar 0) (tC (.int 3))) (tOp (rIxT K) (tVar 0) (tC (.int 3)))) tNil)))))) tNext)
  (tSeq (tIfS (tTest (tOp rEq (tVar 2) (tC (.str "top")))) (tRet (tTup (tCons (tVar 2) (tCons (tCall (sp_renamed_names K) [] E0 (tCons (tOp (rIxT K) (tVar 0) (tC (.int 1))) (tCons (tVar 1) tNil))) (tCons (tDGet2 (tVar 1) (tOp (rIxT K) (tVar 0) (tC (.int 2))) (tOp (rIxT K) (tVar 0) (tC (.int 2)))) tNil))))) tNext)
  (tSeq (tIfS (tTest (tOp rEq (tVar 2) (tC (.str "product")))) (tRet (tOp (rCatA K) (tTup (tCons (tVar 2) tNil)) (tCall (sp_renamed_names K) [] E0 (tCons (tSl (rSlA K) (tVar 0) (tPart (tC (.int 1))) tNoPart) (tCons (tVar 1) tNil))))) tNext)
  (tSeq (tIfS (tTest (tOp rEq (tVar 2) (tC (.str "ahead")))) (tRet (tTup (tCons (tVar 2) (tCons (tCall (sp_renamed_names K) [] E0 (tCons (tOp (rIxT K) (tVar 0) (tC (.int 1))) (tCons (tVar 1) tNil))) (tCons (tCall (sp_renamed_names K) [] E0 (tCons (tOp (rIxT K) (tVar 0) (tC (.int 2))) (tCons (tVar 1) tNil))) tNil))))) tNext)
  (tRet (tOp (rCatA K) (tTup (tCons (tVar 2) (tCons (tCall (sp_renamed_names K) [] E0 (tCons (tOp (rIxT K) (tVar 0) (tC (.int 1))) (tCons (tVar 1) tNil))) tNil))) (tSl (rSlA K) (tVar 0) (tPart (tC (.int 2))) tNoPart))))))))) { nx := fun _ H' => Q .non H', rt := Q } [some v, some (.ref d), some (.str w), none, none] H') → tSeq (tAsg (tOp (rIxT K) (tVar 0) (tC (.int 0))) (gName 2)) (tSeq (tIfS (tTest (tOp (rIn K false) (tVar 2) (tTup (tCons (tC (.str "least")) (tCons (tC (.str "same")) tNil))))) (tRet (tTup (tCons (tVar 2) (tCons (tThen (tLc (iTup K (tOp (rIxT K) (tVar 0) (tC (.int 1)))) (gTup K 2 (gCons (gName 3) (gCons (gName 4) gNil))) tYes (tTup (tCons (tDGet2 (tVar 1) (tVar 3) (tVar 3)) (tCons (tVar 4) tNil))) [3, 4]) (kTup K)) (tCons (tOp (rIxT K) (tVar 0) (tC (.int 2))) tNil))))) tNext) (tSeq (tIfS (tTest (tOp rEq (tVar 2) (tC (.str "claim")))) (tRet (tTup (tCons (tVar 2) (tCons (tCall (sp_renamed_claim K 4) [] E0 (tCons (tOp (rIxT K) (tVar 0) (tC (.int 1))) (tCons (tVar 1) tNil))) tNil)))) tNext)
  (tSeq (tIfS (tTest (tOp rEq (tVar 2) (tC (.str "when")))) (tRet (tTup (tCons (tVar 2) (tCons (tCall (sp_renamed_claim K 4) [] E0 (tCons (tOp (rIxT K) (tVar 0) (tC (.int 1))) (tCons (tVar 1) tNil))) (tCons (tCall (sp_renamed_saying K m) [] E0 (tCons (tOp (rIxT K) (tVar 0) (tC (.int 2))) (tCons (tVar 1) tNil))) tNil))))) tNext)
  (tSeq (tIfS (tTest (tOp rEq (tVar 2) (tC (.str "pick")))) (tRet (tTup (tCons (tVar 2) (tCons (tDGet2 (tVar 1) (tOp (rIxT K) (tVar 0) (tC (.int 1))) (tOp (rIxT K) (tVar 0) (tC (.int 1)))) (tCons (tCall (sp_renamed_names K) [] E0 (tCons (tOp (rIxT K) (tVar 0) (tC (.int 2))) (tCons (tVar 1) tNil))) (tCons (tDGet2 (tVar 1) (tOp (rIxT K) (tVar 0) (tC (.int 3))) (tOp (rIxT K) (tVar 0) (tC (.int 3)))) tNil)))))) tNext)
  (tSeq (tIfS (tTest (tOp rEq (tVar 2) (tC (.str "top")))) (tRet (tTup (tCons (tVar 2) (tCons (tCall (sp_renamed_names K) [] E0 (tCons (tOp (rIxT K) (tVar 0) (tC (.int 1))) (tCons (tVar 1) tNil))) (tCons (tDGet2 (tVar 1) (tOp (rIxT K) (tVar 0) (tC (.int 2))) (tOp (rIxT K) (tVar 0) (tC (.int 2)))) tNil))))) tNext)
  (tSeq (tIfS (tTest (tOp rEq (tVar 2) (tC (.str "product")))) (tRet (tOp (rCatA K) (tTup (tCons (tVar 2) tNil)) (tCall (sp_renamed_names K) [] E0 (tCons (tSl (rSlA K) (tVar 0) (tPart (tC (.int 1))) tNoPart) (tCons (tVar 1) tNil))))) tNext)
  (tSeq (tIfS (tTest (tOp rEq (tVar 2) (tC (.str "ahead")))) (tRet (tTup (tCons (tVar 2) (tCons (tCall (sp_renamed_names K) [] E0 (tCons (tOp (rIxT K) (tVar 0) (tC (.int 1))) (tCons (tVar 1) tNil))) (tCons (tCall (sp_renamed_names K) [] E0 (tCons (tOp (rIxT K) (tVar 0) (tC (.int 2))) (tCons (tVar 1) tNil))) tNil))))) tNext)
  (tRet (tOp (rCatA K) (tTup (tCons (tVar 2) (tCons (tCall (sp_renamed_names K) [] E0 (tCons (tOp (rIxT K) (tVar 0) (tC (.int 1))) (tCons (tVar 1) tNil))) tNil))) (tSl (rSlA K) (tVar 0) (tPart (tC (.int 2))) tNoPart)))))))))) { nx := fun _ H' => Q .non H', rt := Q } [some v, some (.ref d), none, none, none] H := fun w ds hv k => by
    with_reducible refine w_seq ?_
    with_reducible refine w_asg ?_
    refine (IX _ 0 _ _ H (.refl _ _) rfl hv rfl).get fun y H1 a1 hy => ?_
    rw [hy.str_inv]
    with_reducible refine w_gname ?_
    exact k H1 a1
  -- the words that are no sum
  have W2 : ∀ (w : Str) (ds : List PyData), Is H (.tuple (.str w :: ds)) v → ¬ (w = "least" ∨ w = "same") → (∀ H', Adv [] H H' → (tSeq (tIfS (tTest (tOp rEq (tVar 2) (tC (.str "claim")))) (tRet (tTup (tCons (tVar 2) (tCons (tCall (sp_renamed_claim K 4) [] E0 (tCons (tOp (rIxT K) (tVar 0) (tC (.int 1))) (tCons (tVar 1) tNil))) tNil)))) tNext)
  (tSeq (tIfS (tTest (tOp rEq (tVar 2) (tC (.str "when")))) (tRet (tTup (tCons (tVar 2) (tCons (tCall (sp_renamed_claim K 4) [] E0 (tCons (tOp (rIxT K) (tVar 0) (tC (.int 1))) (tCons (tVar 1) tNil))) (tCons (tCall (sp_renamed_saying K m) [] E0 (tCons (tOp (rIxT K) (tVar 0) (tC (.int 2))) (tCons (tVar 1) tNil))) tNil))))) tNext)
  (tSeq (tIfS (tTest (tOp rEq (tVar 2) (tC (.str "pick")))) (tRet (tTup (tCons (tVar 2) (tCons (tDGet2 (tVar 1) (tOp (rIxT K) (tVar 0) (tC (.int 1))) (tOp (rIxT K) (tVar 0) (tC (.int 1)))) (tCons (tCall (sp_renamed_names K) [] E0 (tCons (tOp (rIxT K) (tVar 0) (tC (.int 2))) (tCons (tVar 1) tNil))) (tCons (tDGet2 (tVar 1) (tOp (rIxT K) (tVar 0) (tC (.int 3))) (tOp (rIxT K) (tVar 0) (tC (.int 3)))) tNil)))))) tNext)
  (tSeq (tIfS (tTest (tOp rEq (tVar 2) (tC (.str "top")))) (tRet (tTup (tCons (tVar 2) (tCons (tCall (sp_renamed_names K) [] E0 (tCons (tOp (rIxT K) (tVar 0) (tC (.int 1))) (tCons (tVar 1) tNil))) (tCons (tDGet2 (tVar 1) (tOp (rIxT K) (tVar 0) (tC (.int 2))) (tOp (rIxT K) (tVar 0) (tC (.int 2)))) tNil))))) tNext)
  (tSeq (tIfS (tTest (tOp rEq (tVar 2) (tC (.str "product")))) (tRet (tOp (rCatA K) (tTup (tCons (tVar 2) tNil)) (tCall (sp_renamed_names K) [] E0 (tCons (tSl (rSlA K) (tVar 0) (tPart (tC (.int 1))) tNoPart) (tCons (tVar 1) tNil))))) tNext)
  (tSeq (tIfS (tTest (tOp rEq (tVar 2) (tC (.str "ahead")))) (tRet (tTup (tCons (tVar 2) (tCons (tCall (sp_renamed_names K) [] E0 (tCons (tOp (rIxT K) (tVar 0) (tC (.int 1))) (tCons (tVar 1) tNil))) (tCons (tCall (sp_renamed_names K) [] E0 (tCons (tOp (rIxT K) (tVar 0) (tC (.int 2))) (tCons (tVar 1) tNil))) tNil))))) tNext)
  (tRet (tOp (rCatA K) (tTup (tCons (tVar 2) (tCons (tCall (sp_renamed_names K) [] E0 (tCons (tOp (rIxT K) (tVar 0) (tC (.int 1))) (tCons (tVar 1) tNil))) tNil))) (tSl (rSlA K) (tVar 0) (tPart (tC (.int 2))) tNoPart))))))))) { nx := fun _ H' => Q .non H', rt := Q } [some v, some (.ref d), some (.str w), none, none] H') → tSeq (tAsg (tOp (rIxT K) (tVar 0) (tC (.int 0))) (gName 2)) (tSeq (tIfS (tTest (tOp (rIn K false) (tVar 2) (tTup (tCons (tC (.str "least")) (tCons (tC (.str "same")) tNil))))) (tRet (tTup (tCons (tVar 2) (tCons (tThen (tLc (iTup K (tOp (rIxT K) (tVar 0) (tC (.int 1)))) (gTup K 2 (gCons (gName 3) (gCons (gName 4) gNil))) tYes (tTup (tCons (tDGet2 (tVar 1) (tVar 3) (tVar 3)) (tCons (tVar 4) tNil))) [3, 4]) (kTup K)) (tCons (tOp (rIxT K) (tVar 0) (tC (.int 2))) tNil))))) tNext) (tSeq (tIfS (tTest (tOp rEq (tVar 2) (tC (.str "claim")))) (tRet (tTup (tCons (tVar 2) (tCons (tCall (sp_renamed_claim K 4) [] E0 (tCons (tOp (rIxT K) (tVar 0) (tC (.int 1))) (tCons (tVar 1) tNil))) tNil)))) tNext)
  (tSeq (tIfS (tTest (tOp rEq (tVar 2) (tC (.str "when")))) (tRet (tTup (tCons (tVar 2) (tCons (tCall (sp_renamed_claim K 4) [] E0 (tCons (tOp (rIxT K) (tVar 0) (tC (.int 1))) (tCons (tVar 1) tNil))) (tCons (tCall (sp_renamed_saying K m) [] E0 (tCons (tOp (rIxT K) (tVar 0) (tC (.int 2))) (tCons (tVar 1) tNil))) tNil))))) tNext)
  (tSeq (tIfS (tTest (tOp rEq (tVar 2) (tC (.str "pick")))) (tRet (tTup (tCons (tVar 2) (tCons (tDGet2 (tVar 1) (tOp (rIxT K) (tVar 0) (tC (.int 1))) (tOp (rIxT K) (tVar 0) (tC (.int 1)))) (tCons (tCall (sp_renamed_names K) [] E0 (tCons (tOp (rIxT K) (tVar 0) (tC (.int 2))) (tCons (tVar 1) tNil))) (tCons (tDGet2 (tVar 1) (tOp (rIxT K) (tVar 0) (tC (.int 3))) (tOp (rIxT K) (tVar 0) (tC (.int 3)))) tNil)))))) tNext)
  (tSeq (tIfS (tTest (tOp rEq (tVar 2) (tC (.str "top")))) (tRet (tTup (tCons (tVar 2) (tCons (tCall (sp_renamed_names K) [] E0 (tCons (tOp (rIxT K) (tVar 0) (tC (.int 1))) (tCons (tVar 1) tNil))) (tCons (tDGet2 (tVar 1) (tOp (rIxT K) (tVar 0) (tC (.int 2))) (tOp (rIxT K) (tVar 0) (tC (.int 2)))) tNil))))) tNext)
  (tSeq (tIfS (tTest (tOp rEq (tVar 2) (tC (.str "product")))) (tRet (tOp (rCatA K) (tTup (tCons (tVar 2) tNil)) (tCall (sp_renamed_names K) [] E0 (tCons (tSl (rSlA K) (tVar 0) (tPart (tC (.int 1))) tNoPart) (tCons (tVar 1) tNil))))) tNext)
  (tSeq (tIfS (tTest (tOp rEq (tVar 2) (tC (.str "ahead")))) (tRet (tTup (tCons (tVar 2) (tCons (tCall (sp_renamed_names K) [] E0 (tCons (tOp (rIxT K) (tVar 0) (tC (.int 1))) (tCons (tVar 1) tNil))) (tCons (tCall (sp_renamed_names K) [] E0 (tCons (tOp (rIxT K) (tVar 0) (tC (.int 2))) (tCons (tVar 1) tNil))) tNil))))) tNext)
  (tRet (tOp (rCatA K) (tTup (tCons (tVar 2) (tCons (tCall (sp_renamed_names K) [] E0 (tCons (tOp (rIxT K) (tVar 0) (tC (.int 1))) (tCons (tVar 1) tNil))) tNil))) (tSl (rSlA K) (tVar 0) (tPart (tC (.int 2))) tNoPart)))))))))) { nx := fun _ H' => Q .non H', rt := Q } [some v, some (.ref d), none, none, none] H := fun w ds hv hw k => W w ds hv fun H1 a1 => by
    with_reducible refine w_seq ?_
    refine in_two (R := True) rfl fun H2 a2 => ?_
    refine iteF'' (decide_eq_false hw) ?_
    exact k H2 (a1.trans a2)
  cases s with
  | sums b ts n =>
    refine W (sumW b) _ hv fun H1 a1 => ?_
    with_reducible refine w_seq ?_
    refine in_two (R := True) rfl fun H2 a2 => ?_
    refine iteT'' (decide_eq_true (by cases b <;> simp [sumW])) ?_
    have a12 := a1.trans a2
    refine fin _ _ _ H2 a12 ?_ (ex_tup (exa_cons (ex_var rfl (.str _)) (exa_cons (ex_ofL (lx_map2 (fun e => match e with | .tuple [.str x, w] => .tuple [.str (f x), w] | e => e) (IX _ 1 _ _ H2 a12 rfl hv rfl) ?_ (fun _ _ => rfl) fun e he => ?_)) (exa_cons (IX _ 2 _ _ H2 a12 rfl hv rfl) exa_nil))))
    · show _ = PyData.tuple [_, PyData.tuple ((ts.map fun t => (f t.1, t.2)).map trD), _]
      rw [map_map', map_map']
      rfl
    · have := ok.1
      rw [List.length_map] at this ⊢
      omega
    · obtain ⟨t, ht, rfl⟩ := List.mem_map.mp he
      refine ⟨.str t.1, .int t.2, rfl, fun u z H3 a3 hu hz => ?_⟩
      exact ex_tup (exa_cons (G _ _ _ _ _ (a12.trans a3) rfl (ok.2 _ (List.mem_map_of_mem ht)) (ex_var rfl hu) (ex_var rfl hu)) (exa_cons (ex_var rfl hz) exa_nil))
  | claim D =>
    refine W2 "claim" _ hv (by decide) fun H1 a1 => ?_
    with_reducible refine w_seq ?_
    refine if_eq rfl rfl ?_
    exact fin _ _ _ H1 a1 rfl (ex_tup (exa_cons (ex_var rfl (.str _)) (exa_cons (CL _ _ _ _ a1 rfl ok (IX _ 1 _ _ H1 a1 rfl hv rfl)) exa_nil)))
  | when D s =>
    refine W2 "when" _ hv (by decide) fun H1 a1 => ?_
    with_reducible refine w_seq ?_
    refine if_ne rfl (by decide) ?_
    with_reducible refine w_next ?_
    with_reducible refine w_seq ?_
    refine if_eq rfl rfl ?_
    obtain ⟨ok1, hm, ok2⟩ := ok
    exact fin _ _ _ H1 a1 rfl (ex_tup (exa_cons (ex_var rfl (.str _)) (exa_cons (CL _ _ _ _ a1 rfl ok1 (IX _ 1 _ _ H1 a1 rfl hv rfl)) (exa_cons (ex_call2 rfl (IX _ 2 _ _ H1 a1 rfl hv rfl) fun v1 H3 Q1 a3 hv1 q1 => ⟨v1, d, rfl, nms, f, s, hd.up (a1.trans a3), hv1, hm, ok2, q1⟩) exa_nil))))
  | pick i xs r =>
    refine W2 "pick" _ hv (by decide) fun H1 a1 => ?_
    iterate 2
      with_reducible refine w_seq ?_
      refine if_ne rfl (by decide) ?_
      with_reducible refine w_next ?_
    with_reducible refine w_seq ?_
    refine if_eq rfl rfl ?_
    exact fin _ _ _ H1 a1 rfl (ex_tup (exa_cons (ex_var rfl (.str _)) (exa_cons (G _ _ _ _ _ a1 rfl ok.1 (IX _ 1 _ _ H1 a1 rfl hv rfl) (IX _ 1 _ _ H1 a1 rfl hv rfl)) (exa_cons (NM _ _ _ _ a1 rfl ok.2.1 (IX _ 2 _ _ H1 a1 rfl hv rfl)) (exa_cons (G _ _ _ _ _ a1 rfl ok.2.2 (IX _ 3 _ _ H1 a1 rfl hv rfl) (IX _ 3 _ _ H1 a1 rfl hv rfl)) exa_nil)))))
  | top xs r =>
    refine W2 "top" _ hv (by decide) fun H1 a1 => ?_
    iterate 3
      with_reducible refine w_seq ?_
      refine if_ne rfl (by decide) ?_
      with_reducible refine w_next ?_
    with_reducible refine w_seq ?_
    refine if_eq rfl rfl ?_
    exact fin _ _ _ H1 a1 rfl (ex_tup (exa_cons (ex_var rfl (.str _)) (exa_cons (NM _ _ _ _ a1 rfl ok.1 (IX _ 1 _ _ H1 a1 rfl hv rfl)) (exa_cons (G _ _ _ _ _ a1 rfl ok.2 (IX _ 2 _ _ H1 a1 rfl hv rfl) (IX _ 2 _ _ H1 a1 rfl hv rfl)) exa_nil))))
  | prod x y z =>
    refine W2 "product" _ hv (by decide) fun H1 a1 => ?_
    iterate 4
      with_reducible refine w_seq ?_
      refine if_ne rfl (by decide) ?_
      with_reducible refine w_next ?_
    with_reducible refine w_seq ?_
    refine if_eq rfl rfl ?_
    exact fin _ _ _ H1 a1 rfl (ex_cat (ex_tup (exa_cons (ex_var rfl (.str _)) exa_nil)) (NM _ [x, y, z] _ _ a1 rfl ⟨by simp, fun u hu => by
      simp only [List.mem_cons, List.not_mem_nil, or_false] at hu
      rcases hu with rfl | rfl | rfl
      · exact ok.1
      · exact ok.2.1
      · exact ok.2.2⟩ (ex_from (k := 1) (ex_var rfl (hv.up a1.tup)) ex_int)) (by simp))
  | ahead xs ys =>
    refine W2 "ahead" _ hv (by decide) fun H1 a1 => ?_
    iterate 5
      with_reducible refine w_seq ?_
      refine if_ne rfl (by decide) ?_
      with_reducible refine w_next ?_
    with_reducible refine w_seq ?_
    refine if_eq rfl rfl ?_
    exact fin _ _ _ H1 a1 rfl (ex_tup (exa_cons (ex_var rfl (.str _)) (exa_cons (NM _ _ _ _ a1 rfl ok.1 (IX _ 1 _ _ H1 a1 rfl hv rfl)) (exa_cons (NM _ _ _ _ a1 rfl ok.2 (IX _ 2 _ _ H1 a1 rfl hv rfl)) exa_nil))))
  | flat k xs rest =>
    have ne : ∀ c : Str, c ∉ flW → ¬ flW.getD k "round" = c := fun c h => flW_ne h
    refine W2 _ _ hv (fun z => z.elim (ne _ (by decide)) (ne _ (by decide))) fun H1 a1 => ?_
    iterate 6
      with_reducible refine w_seq ?_
      refine if_ne rfl (ne _ (by decide)) ?_
      with_reducible refine w_next ?_
    exact fin _ _ _ H1 a1 rfl (ex_cat (ex_tup (exa_cons (ex_var rfl (.str _)) (exa_cons (NM _ _ _ _ a1 rfl ok.1 (IX _ 1 _ _ H1 a1 rfl hv rfl)) exa_nil))) (ex_from (k := 2) (ex_var rfl (hv.up a1.tup)) ex_int) (by have := ok.2.1; simp; omega))
theorem len_renamed_items {K : PySem.W.Frag} : ∀ (vs : List V) (H : Hp) (Q : VK) (E : XK), sp_renamed_items K vs H Q E → vs.length = 2 := fun vs H Q E h => by
  obtain ⟨_, _, rfl, _⟩ := h
  rfl
theorem pure_renamed_items {K : PySem.W.Frag} (vs : List V) (H : Hp) (Q : VK) (E : XK) (h : sp_renamed_items K vs H Q E) : t_renamed_items K { nx := fun _ H' => Q .non H', rt := Q } (start ["items", "new", "item"] vs) H := by
  obtain ⟨v, d, rfl, nms, f, its, hd, hv, hl, hok, q⟩ := h
  show t_renamed_items K _ [some v, some (.ref d), none] H
  unfold t_renamed_items
  have e0 : its.map iD = (its.map iD).map id := (List.map_id _).symm
  obtain ⟨p, xs, rfl, ep, hx⟩ := hv.tup_inv
  with_reducible refine w_ret ?_
  with_reducible refine w_tup1 ?_
  with_reducible refine w_lcT ?_
  refine w_var (v := .ref p) rfl ?_
  have hxl := hx.length
  rw [List.length_map] at hxl
  refine ⟨p, rfl, ⟨_, SqT.of ep⟩, kLc_rel (walk_tup (xs := xs)) (by omega) (fun H' a => SqT.of (a.tup _ _ ep)) (fun k u H' => ∃ i, its[k]? = some i ∧ Is H' (iD (f i.1, i.2.ren f)) u) (fun k u H' H'' kk hh => by
    obtain ⟨i, h1, h2⟩ := hh
    exact ⟨i, h1, h2.up kk⟩) (fun k u H' H'' Kt hk a yy kt => ?_) fun l H' ys nl a el hyl hyr => ?_⟩
  · obtain ⟨rfl, hu⟩ := yy
    obtain ⟨e, he, hue⟩ := hx.get hu
    rw [List.getElem?_map] at he
    obtain ⟨i, hi, rfl⟩ := Option.map_eq_some_iff.mp he
    have ho := hok i (List.mem_of_getElem? hi)
    have hue := hue.up a.tup
    refine ⟨rfl, ?_⟩
    have I0 : ∀ H2 (σ : L2.St), Adv [] H'' H2 → σ[2]? = some (some u) → EX (.str i.1) (tOp (rIxT K) (tVar 2) (tC (.int 0))) σ H2 := fun H2 σ a2 h => ex_ix (i := 0) (ex_var h (hue.up a2.tup)) ex_int rfl
    refine (ex_cat (ds := [.str (f i.1), (i.2.ren f).D]) (es := []) (ex_tup (exa_cons (ex_get2 rfl (hd.up a) ho.1 (I0 _ _ (.refl _ _) rfl) (I0 _ _ (.refl _ _) rfl)) (exa_cons (ex_call2 (i := 1) rfl (ex_ix (i := 1) (ex_var rfl hue) ex_int rfl) fun v1 H3 Q1 a3 hv1 q1 => ⟨v1, d, rfl, nms, f, i.2, hd.up (a.trans a3), hv1, by decide, ho.2, q1⟩) exa_nil))) ((ex_from (k := 2) (ex_var rfl hue) ex_int).to rfl) (by simp)).get fun w H3 a3 hw => ?_
    exact kt w H3 a3 ⟨i, hi, hw⟩
  · refine w_tupL (SqL.of el) fun t H3 nt a3 et => ?_
    refine q _ H3 (a.trans a3) (.tup et (IsAll.up a3.tup (IsAll.of _ _ (by rw [List.length_map, List.length_map]; omega) fun k dd u h1 h2 => ?_)))
    obtain ⟨i, h3, h4⟩ := hyr k u h2
    rw [List.getElem?_map, List.getElem?_map, h3] at h1
    cases h1
    exact h4
theorem len_renamed_unknowns {K : PySem.W.Frag} : ∀ (vs : List V) (H : Hp) (Q : VK) (E : XK), sp_renamed_unknowns K vs H Q E → vs.length = 2 := fun vs H Q E h => by
  obtain ⟨_, _, rfl, _⟩ := h
  rfl
theorem pure_renamed_unknowns {K : PySem.W.Frag} (vs : List V) (H : Hp) (Q : VK) (E : XK) (h : sp_renamed_unknowns K vs H Q E) : t_renamed_unknowns K { nx := fun _ H' => Q .non H', rt := Q } (start ["unknowns", "new", "x", "domain"] vs) H := by
  obtain ⟨v, d, rfl, nms, f, us, hd, hv, hl, hok, q⟩ := h
  show t_renamed_unknowns K _ [some v, some (.ref d), none, none] H
  unfold t_renamed_unknowns
  with_reducible refine w_ret ?_
  refine (ex_ofL (lx_map2 (fun e => match e with | .tuple [.str x, w] => .tuple [.str (f x), w] | e => e) (ex_var rfl hv) (by rw [List.length_map]; omega) (fun _ _ => rfl) fun e he => ?_)).get fun w H' a hw => q w H' a ?_
  · obtain ⟨t, ht, rfl⟩ := List.mem_map.mp he
    exact ⟨.str t.1, .tuple (t.2.map .int), rfl, fun u z H3 a3 hu hz => ex_tup (exa_cons (ex_get2 rfl (hd.up a3) (hok t ht) (ex_var rfl hu) (ex_var rfl hu)) (exa_cons (ex_var rfl hz) exa_nil))⟩
  · rw [map_map'] at hw ⊢
    exact hw
end AW
/-! a dict that a comprehension makes, its keys tuples -/
namespace AW
open PySem PySem.Spec PyProof.Rows L2
section
variable {X : Cx} {pins : List (Addr × Obj)} {H : Hp} {s : Shared} {σ : L2.St}
end
section
variable {K : PySem.W.Frag} {g : TG} {tt : TT} {tk tv tl : TE} {vs : List Nat} {σ : L2.St} {Q : VK} {H H1 : Hp}
end
end AW
/-! a dict that a comprehension with two fors makes -/
namespace AW
open PySem PySem.Spec PyProof.Rows L2
section
variable {prog : Program} {w : World} {A : Around} {R : Result → Shared → Prop} {st : Shared} {kx vx ta sa tb sb : Expr} {fa fb : List Expr} {sc : Scope} {po : Pos} {D : Addr} {ce : Env} {it : Value}
/-- the comprehension itself -/
abbrev dc2E (kx vx ta sa tb sb : Expr) (fa fb : List Expr) (sc : Scope) (po : Pos) : Expr := .DictComp kx vx [⟨ta, sa, fa, 0⟩, ⟨tb, sb, fb, 0⟩] sc po
theorem dc2_turnA : compTurn (dc2E kx vx ta sa tb sb fa fb sc po) 0 it (.ref D) ce = (do
      standAt sa.pos
      match ← pyNext it with
      | none => pure (.done .next)
      | some z =>
        letOwnedTupleGo ta it z
        assign ta ce z
        let mut fine := true
        for q in fa do
          if fine then fine ← isTrue q ce (eval q ce)
        if fine then
          let y ← eval sb ce
          standAt sb.pos
          let y ← foldedSetIterable sb ce y
          let _ ← runOwn (.compStart (dc2E kx vx ta sa tb sb fa fb sc po) 1 (← holding [y] (pyIter y)) (.ref D) ce) ce
        again (.compLoop (dc2E kx vx ta sa tb sb fa fb sc po) 0 it (.ref D) ce)) := by rfl
theorem dc2_turnB : compTurn (dc2E kx vx ta sa tb sb fa fb sc po) 1 it (.ref D) ce = (do
      standAt sb.pos
      match ← pyNext it with
      | none => pure (.done .next)
      | some z =>
        letOwnedTupleGo tb it z
        assign tb ce z
        let mut fine := true
        for q in fb do
          if fine then fine ← isTrue q ce (eval q ce)
        if fine then
          (do
            let kv ← eval kx ce
            let vv ← holding [kv] (eval vx ce)
            standAt { kx.pos with endLine := vx.pos.endLine, endCol := vx.pos.endCol }
            holding [kv, vv] (dictSet D kv vv))
        again (.compLoop (dc2E kx vx ta sa tb sb fa fb sc po) 1 it (.ref D) ce)) := by rfl
/-- nothing gets out of the block -/
abbrev Quiet (prog : Program) (w : World) (A : Around) (ce : Env) (R : Result → Shared → Prop) : Value → Shared → Prop := notedBy (model prog w) A ce fun e t => R (.error e) t
abbrev goesOn (fs : List Expr) (ce : Env) : Sem Bool := forIn fs true fun q r => if r = true then do let fine ← isTrue q ce (eval q ce); pure (ForInStep.yield fine) else pure (ForInStep.yield r)
theorem dc2_loopA (plain : ∀ y, foldedSetIterable sb ce y = pure y) (I : Nat → Shared → Prop)
    (turn : ∀ n t, I n t → wpAny (model prog w) A (pyNext it) (fun r t1 => match r with
      | none => R (.ok .next) t1
      | some z => wpAny (model prog w) A (letOwnedTupleGo ta it z) (fun _ t2 => wpAny (model prog w) A (assign ta ce z) (fun _ t3 => wpAny (model prog w) A (goesOn fa ce) (fun fine t4 =>
          if fine = true then wpAny (model prog w) A (eval sb ce) (fun y t5 => wpAny (model prog w) A (pyIter y) (fun it1 t6 =>
            codeAny (model prog w) A (.compStart (dc2E kx vx ta sa tb sb fa fb sc po) 1 it1 (.ref D) ce) (fun r t7 => match r with
              | .ok _ => ∃ m, m < n ∧ I m t7
              | .error _ => False) t6) (Quiet prog w A ce R) t5) (Quiet prog w A ce R) t4
          else ∃ m, m < n ∧ I m t4) (Quiet prog w A ce R) t3) (Quiet prog w A ce R) t2) (Quiet prog w A ce R) t1) (Quiet prog w A ce R) t)
    (n : Nat) (h : I n st) : codeAny (model prog w) A (.compLoop (dc2E kx vx ta sa tb sb fa fb sc po) 0 it (.ref D) ce) R st := by
  refine codeAny_loop rfl I (fun n t hI => ?_) n h
  show wpAny _ A ((compTurn (dc2E kx vx ta sa tb sb fa fb sc po) 0 it (.ref D) ce).onRaise (fun x => do noteFrame x ce; theTreesLotGoes x)) _ _ t
  refine wpAny_noted ?_
  rw [dc2_turnA]
  refine wpAny_bind (wpAny_standAt (wpAny_bind (wpAny_mono (turn n t hI) (fun r t1 q => ?_) fun _ _ z => z)))
  match r, q with
  | none, q => exact wpAny_pure q
  | some v, q =>
    refine wpAny_bind (wpAny_mono q (fun _ t2 q => wpAny_bind (wpAny_mono q (fun _ t3 q => wpAny_bind (wpAny_mono q (fun fine t4 q => ?_) fun _ _ z => z)) fun _ _ z => z)) fun _ _ z => z)
    match fine, q with
    | false, q => exact wpAny_pure ⟨rfl, q⟩
    | true, q =>
      refine wpAny_bind (wpAny_mono q (fun y t5 q => wpAny_bind (wpAny_standAt (wpAny_bind (wpAny_of_eq (plain y) (wpAny_bind (wpAny_holding (wpAny_mono q (fun it1 t6 q => ?_) fun _ _ z => z))))))) fun _ _ z => z)
      refine wpAny_bind (wpAny_runOwn ?_)
      rw [Around.mark_none]
      refine codeAny_mono q fun r t7 q => ?_
      match r, q with
      | .ok f, q => first | exact wpAny_pure ⟨rfl, q⟩ | exact wpAny_bind (wpAny_pure (wpAny_pure ⟨rfl, q⟩))
      | .error e, q => exact q.elim
theorem dc2_loopB (I : Nat → Shared → Prop)
    (turn : ∀ n t, I n t → wpAny (model prog w) A (pyNext it) (fun r t1 => match r with
      | none => R (.ok .next) t1
      | some z => wpAny (model prog w) A (letOwnedTupleGo tb it z) (fun _ t2 => wpAny (model prog w) A (assign tb ce z) (fun _ t3 => wpAny (model prog w) A (goesOn fb ce) (fun fine t4 =>
          if fine = true then wpAny (model prog w) A (eval kx ce) (fun kv t5 => wpAny (model prog w) A (eval vx ce) (fun vv t6 =>
            wpAny (model prog w) A (dictSet D kv vv) (fun _ t7 => ∃ m, m < n ∧ I m t7) (Quiet prog w A ce R) t6) (Quiet prog w A ce R) t5) (Quiet prog w A ce R) t4
          else ∃ m, m < n ∧ I m t4) (Quiet prog w A ce R) t3) (Quiet prog w A ce R) t2) (Quiet prog w A ce R) t1) (Quiet prog w A ce R) t)
    (n : Nat) (h : I n st) : codeAny (model prog w) A (.compLoop (dc2E kx vx ta sa tb sb fa fb sc po) 1 it (.ref D) ce) R st := by
  refine codeAny_loop rfl I (fun n t hI => ?_) n h
  show wpAny _ A ((compTurn (dc2E kx vx ta sa tb sb fa fb sc po) 1 it (.ref D) ce).onRaise (fun x => do noteFrame x ce; theTreesLotGoes x)) _ _ t
  refine wpAny_noted ?_
  rw [dc2_turnB]
  refine wpAny_bind (wpAny_standAt (wpAny_bind (wpAny_mono (turn n t hI) (fun r t1 q => ?_) fun _ _ z => z)))
  match r, q with
  | none, q => exact wpAny_pure q
  | some v, q =>
    refine wpAny_bind (wpAny_mono q (fun _ t2 q => wpAny_bind (wpAny_mono q (fun _ t3 q => wpAny_bind (wpAny_mono q (fun fine t4 q => ?_) fun _ _ z => z)) fun _ _ z => z)) fun _ _ z => z)
    match fine, q with
    | false, q => exact wpAny_pure ⟨rfl, q⟩
    | true, q => exact wpAny_bind (wpAny_bind (wpAny_mono q (fun kv t5 q => wpAny_bind (wpAny_holding (wpAny_mono q (fun vv t6 q => wpAny_bind (wpAny_standAt (wpAny_holding (wpAny_mono q (fun _ t7 q => wpAny_pure ⟨rfl, q⟩) fun _ _ z => z)))) fun _ _ z => z))) fun _ _ z => z))
/-- the inner loop begins -/
theorem dc2_startB (h0 : codeAny (model prog w) A (.compLoop (dc2E kx vx ta sa tb sb fa fb sc po) 1 it (.ref D) ce) R st)
    (h : wpAny (model prog w) A (pyIter it) (fun it' t => codeAny (model prog w) A (.compLoop (dc2E kx vx ta sa tb sb fa fb sc po) 1 it' (.ref D) ce) R t) (Quiet prog w A ce R) st) :
    codeAny (model prog w) A (.compStart (dc2E kx vx ta sa tb sb fa fb sc po) 1 it (.ref D) ce) R st := by
  refine codeAny_of_tree ?_
  show wpAny _ _ ((compStart (dc2E kx vx ta sa tb sb fa fb sc po) 1 it (.ref D) ce).onRaise (fun x => do noteFrame x ce; standAt theWindowsPlace)) _ _ st
  refine wpAny_notedAt ?_
  unfold compStart
  show wpAny _ _ (ask >>= _) _ _ st
  refine wpAny_bind (wpAny_askSetting (wpAny_ite ?_))
  split
  · first
      | exact wpAny_bind (wpAny_pure (wpAny_pure ⟨rfl, h0⟩))
      | exact wpAny_pure ⟨rfl, h0⟩
  · first
      | exact wpAny_bind (wpAny_rule (wpAny_bind (wpAny_standAt (wpAny_bind (wpAny_mono h (fun it' t q => wpAny_pure ⟨rfl, q⟩) fun _ _ z => z)))))
      | (refine wpAny_bind (wpAny_rule ?_); show wpAny _ _ (standAt sb.pos >>= _) _ _ st; exact wpAny_bind (wpAny_standAt (wpAny_bind (wpAny_mono h (fun it' t q => wpAny_pure ⟨rfl, q⟩) fun _ _ z => z))))
end
section
variable {X : Cx} {σ : L2.St}
/-- what the turns ask: D is the dict that grows; vs the block's names, vs1 those of the inner target -/
def D2Inner (J : It) (g : TG) (tt : TT) (tk tv : TE) (vs1 : List Nat) (σ2 : L2.St) (D : Addr) (W : Nat → Nat → Hp → Prop) (Z : Hp → Prop) : Prop := ∀ i m H, W i m H →
  (J.stop i H ∧ Z H) ∨ (J.go i H ∧ ∃ Nx : Hp → Prop, (∀ H', Nx H' → ∃ m', m' < m ∧ W (i + 1) m' H') ∧ ∀ x H', J.yld i H x H' → g x (wipe σ2 vs1) H' fun σ3 H2 => wipe σ3 vs1 = wipe σ2 vs1 ∧ tt σ3 H2 fun b H3 =>
    if b = true then tk σ3 H3 fun y H4 => tv σ3 H4 fun z H5 => ∃ kvs k, y = kV k ∧ H5 D = some (.dK kvs) ∧ kvs.length < sizeLine ∧ Nx (upd H5 D (.dK (putK kvs k z))) else Nx H3)
def D2Turns (J : It) (g : TG) (tt : TT) (wi1 : TI) (g1 : TG) (tt1 : TT) (tk tv : TE) (vs vs1 : List Nat) (σ : L2.St) (D : Addr) (W : Nat → Nat → Hp → Prop) (Z : Hp → Prop) : Prop := ∀ i m H, W i m H →
  (J.stop i H ∧ Z H) ∨ (J.go i H ∧ ∃ Nx : Hp → Prop, (∀ H', Nx H' → ∃ m', m' < m ∧ W (i + 1) m' H') ∧ ∀ x H', J.yld i H x H' → g x (wipe σ vs) H' fun σ2 H2 => wipe σ2 vs = wipe σ vs ∧ tt σ2 H2 fun b H3 =>
    if b = true then wi1 σ2 H3 fun J1 H4 => ∃ W1 : Nat → Nat → Hp → Prop, (∃ m, W1 0 m H4) ∧ D2Inner J1 g1 tt1 tk tv vs1 σ2 D W1 Nx else Nx H3)
def tDc2 (wi : TI) (g : TG) (tt : TT) (wi1 : TI) (g1 : TG) (tt1 : TT) (tk tv : TE) (vs vs1 : List Nat) : TE := fun σ H Q => wi σ H fun J H1 => ∀ D, H1 D = none → ∃ W : Nat → Nat → Hp → Prop, (∃ m, W 0 m (upd H1 D (.dK []))) ∧ D2Turns J g tt wi1 g1 tt1 tk tv vs vs1 σ D W (Q (.ref D))
/-- the inner loop, from its start on -/
theorem d2_inner {pins : List (Addr × Obj)} {kx vx ta sa tb sb : Expr} {fa fb : List Expr} {scope : Scope} {po : Pos} {J : It} {g : TG} {tt : TT} {tk tv : TE} {vs1 : List Nat} {σ2 : L2.St} {s3 t0 : Shared} {H3 H0 : Hp} {ce : Env} {fpo fp : List Addr} {it D : Addr} {tn : Nat → Heap → Prop} {W : Nat → Nat → Hp → Prop} {Z : Hp → Prop} {R : Result → Shared → Prop} {m0 : Nat}
    (calm : X.calm = true) (tu : Turn X.prog X.w X.K tb J fp it tn) (pg : PG (X.blk s3 H3 scope ce fpo) tb g) (pt : PTs (X.blk s3 H3 scope ce fpo) fb tt) (pk : PE (X.blk s3 H3 scope ce fpo) kx tk) (pe : PE (X.blk s3 H3 scope ce fpo) vx tv)
    (iv : Inv (X.blk s3 H3 scope ce fpo) pins σ2 H0 t0) (st : tn 0 t0.heap) (far : ∀ b ∈ fp, FpOk (X.blk s3 H3 scope ce fpo) pins H0 b) (w0 : W 0 m0 H0) (turns : D2Inner J g tt tk tv vs1 σ2 D W Z)
    (fin : ∀ t H', Inv (X.blk s3 H3 scope ce fpo) pins (wipe σ2 vs1) H' t → Z H' → R (.ok .next) t) :
    codeAny (model X.prog X.w) X.A (.compLoop (dc2E kx vx ta sa tb sb fa fb scope po) 1 (.ref it) (.ref D) ce) R t0 := by
  have quiet : ∀ {G : Hp}, (∀ b ∈ fp, G b = none) → ∀ b ∈ fp, FpOk (X.blk s3 H3 scope ce fpo) pins G b := fun nb b hb => ⟨nb b hb, (far b hb).2⟩
  refine dc2_loopB (fun m t => ∃ i G, W i m G ∧ tn i t.heap ∧ (∀ b ∈ fp, G b = none) ∧ Inv (X.blk s3 H3 scope ce fpo) pins (wipe σ2 vs1) G t) ?_ m0 ⟨0, H0, w0, st, fun b hb => (far b hb).1, iv.weak (wipe_length _ _) fun j v e => (wipe_some e).1⟩
  rintro m t ⟨i, G, wi, ti, ni, jv⟩
  cases turns i m G wi with
  | inl over =>
    refine thnF (tu.done (X.blk s3 H3 scope ce fpo) rfl rfl rfl calm i pins t _ G (fun _ _ => False) jv (quiet ni) ti over.1) fun r t2 z => ?_
    cases z.1
    exact fin t2 G z.2 over.2
  | inr more =>
    obtain ⟨on, Nx, back, step⟩ := more
    refine thnF (tu.item (X.blk s3 H3 scope ce fpo) rfl rfl rfl calm i pins t _ G (fun _ _ => False) jv (quiet ni) ti on) fun r t2 z => ?_
    obtain ⟨u, rfl, got⟩ := z
    refine thnF got fun _ t3 z => ?_
    obtain ⟨x, G3, jv3, rx, yx, ti3, ni3⟩ := z
    have hold := jv3.pinned (quiet ni3) (tu.obj _ _ ti3)
    have next : ∀ {τ : L2.St} {t' : Shared} {G' : Hp}, wipe τ vs1 = wipe σ2 vs1 → Inv (X.blk s3 H3 scope ce fpo) (pins ++ pinsAt fp t3.heap) τ G' t' → Nx G' → ∃ m', m' < m ∧ ∃ i G, W i m' G ∧ tn i t'.heap ∧ (∀ b ∈ fp, G b = none) ∧ Inv (X.blk s3 H3 scope ce fpo) pins (wipe σ2 vs1) G t' := by
      intro τ t' G' same kv nx
      obtain ⟨m', less, w'⟩ := back G' nx
      have pin : ∀ b ∈ fp, ∀ o, t3.heap.get? b = some o → t'.heap.get? b = some o ∧ G' b = none := fun b hb o e => by
        have q := kv.pin (b, o) (List.mem_append_right _ (List.mem_append_right _ (mem_pinsAt hb e)))
        exact ⟨q.1, q.2.1⟩
      refine ⟨m', less, i + 1, G', w', tu.keep _ _ _ ti3 fun b hb o e => (pin b hb o e).1, fun b hb => ?_, kv.unpinned.weak ?_ fun j v e => ?_⟩
      · obtain ⟨o, e, _⟩ := tu.obj _ _ ti3 b hb
        exact (pin b hb o e).2
      · rw [← wipe_length (σ := τ) (vs := vs1), same]
      · rw [← same] at e
        exact (wipe_some e).1
    refine thnF (pg.run _ t3 _ G3 x u _ hold rx (step x G3 yx)) fun _ t4 z => ?_
    obtain ⟨τ, G4, jv4, same, z⟩ := z
    refine thnF (pt.run _ t4 τ G4 _ jv4 z) fun b t5 z => ?_
    obtain ⟨G5, jv5, z⟩ := z
    cases b with
    | false => exact next same jv5 z
    | true =>
      refine thnF (pk.run _ t5 τ G5 _ jv5 z) fun kv t6 z => ?_
      obtain ⟨y, G6, jv6, ry, z⟩ := z
      refine thnF (pe.run _ t6 τ G6 _ jv6 z) fun vv t7 z => ?_
      obtain ⟨yv, G7, jv7, rv, kvs, k, rfl, eD, room, nx⟩ := z
      exact d_dictSet (X := X.blk s3 H3 scope ce fpo) jv7 eD room ry rv fun t8 jv8 => next same jv8 nx
/-- the outer loop, from its start on -/
theorem d2_outer {kx vx ta sa tb sb : Expr} {fa fb : List Expr} {scope : Scope} {po : Pos} {own : List (PySem.Str × Nat)} {J : It} {wi1 : TI} {g g1 : TG} {tt tt1 : TT} {tk tv : TE} {vs1 : List Nat} {s3 t0 : Shared} {H3 : Hp} {ce : Env} {fp : List Addr} {it D : Addr} {tn : Nat → Heap → Prop} {W : Nat → Nat → Hp → Prop} {Z : Hp → Prop} {R : Result → Shared → Prop} {m0 : Nat}
    (calm : X.calm = true) (plain : ∀ y, foldedSetIterable sb ce y = pure y) (hv : ∀ i ∈ vs1, i ∈ own.map (·.2)) (tu : Turn X.prog X.w X.K ta J fp it tn) (pg : PG (X.blk s3 H3 scope ce fp) ta g) (pt : PTs (X.blk s3 H3 scope ce fp) fa tt) (pi : PI (X.blk s3 H3 scope ce fp) tb sb wi1) (pg1 : PG (X.blk s3 H3 scope ce fp) tb g1) (pt1 : PTs (X.blk s3 H3 scope ce fp) fb tt1) (pk : PE (X.blk s3 H3 scope ce fp) kx tk) (pe : PE (X.blk s3 H3 scope ce fp) vx tv)
    (iv : Inv (X.blk s3 H3 scope ce fp) [] (wipe σ (own.map (·.2))) H3 t0) (st : tn 0 t0.heap) (nf : ∀ b ∈ fp, H3 b = none) (w0 : W 0 m0 H3) (turns : D2Turns J g tt wi1 g1 tt1 tk tv (own.map (·.2)) vs1 σ D W Z)
    (fin : ∀ t H', Inv (X.blk s3 H3 scope ce fp) [] (wipe σ (own.map (·.2))) H' t → Z H' → R (.ok .next) t) :
    codeAny (model X.prog X.w) X.A (.compLoop (dc2E kx vx ta sa tb sb fa fb scope po) 0 (.ref it) (.ref D) ce) R t0 := by
  have quiet : ∀ {τ : L2.St} {G : Hp} {t : Shared}, Inv (X.blk s3 H3 scope ce fp) [] τ G t → (∀ b ∈ fp, G b = none) → ∀ b ∈ fp, FpOk (X.blk s3 H3 scope ce fp) [] G b := fun {_ G _} jv nb b hb => by
    have q := jv.ok.exf b hb
    refine ⟨nb b hb, q.1, jv.ok.exfs b hb, .inl hb, fun x c e => q.2 x c e, fun p hp => ?_⟩
    exact nomatch (show p ∈ ([] : List (Addr × Obj)) ++ [] from hp)
  refine dc2_loopA plain (fun m t => ∃ i G, W i m G ∧ tn i t.heap ∧ (∀ b ∈ fp, G b = none) ∧ Inv (X.blk s3 H3 scope ce fp) [] (wipe σ (own.map (·.2))) G t) ?_ m0 ⟨0, H3, w0, st, nf, iv⟩
  rintro m t ⟨i, G, wi, ti, ni, jv⟩
  cases turns i m G wi with
  | inl over =>
    refine thnF (tu.done (X.blk s3 H3 scope ce fp) rfl rfl rfl calm i [] t _ G (fun _ _ => False) jv (quiet jv ni) ti over.1) fun r t2 z => ?_
    cases z.1
    exact fin t2 G z.2 over.2
  | inr more =>
    obtain ⟨on, Nx, back, step⟩ := more
    refine thnF (tu.item (X.blk s3 H3 scope ce fp) rfl rfl rfl calm i [] t _ G (fun _ _ => False) jv (quiet jv ni) ti on) fun r t2 z => ?_
    obtain ⟨u, rfl, got⟩ := z
    refine thnF got fun _ t3 z => ?_
    obtain ⟨x, G3, jv3, rx, yx, ti3, ni3⟩ := z
    have hold := jv3.pinned (quiet jv3 ni3) (tu.obj _ _ ti3)
    have next : ∀ {τ : L2.St} {t' : Shared} {G' : Hp}, (wipe σ (own.map (·.2))).length = τ.length → (∀ (j : Nat) v, (wipe σ (own.map (·.2)))[j]? = some (some v) → τ[j]? = some (some v)) → Inv (X.blk s3 H3 scope ce fp) ([] ++ pinsAt fp t3.heap) τ G' t' → Nx G' → ∃ m', m' < m ∧ ∃ i G, W i m' G ∧ tn i t'.heap ∧ (∀ b ∈ fp, G b = none) ∧ Inv (X.blk s3 H3 scope ce fp) [] (wipe σ (own.map (·.2))) G t' := by
      intro τ t' G' len known kv nx
      obtain ⟨m', less, w'⟩ := back G' nx
      have pin : ∀ b ∈ fp, ∀ o, t3.heap.get? b = some o → t'.heap.get? b = some o ∧ G' b = none := fun b hb o e => by
        have q := kv.pin (b, o) (List.mem_append_right _ (List.mem_append_right _ (mem_pinsAt hb e)))
        exact ⟨q.1, q.2.1⟩
      refine ⟨m', less, i + 1, G', w', tu.keep _ _ _ ti3 fun b hb o e => (pin b hb o e).1, fun b hb => ?_, (kv.unpinned (pins := [])).weak len known⟩
      obtain ⟨o, e, _⟩ := tu.obj _ _ ti3 b hb
      exact (pin b hb o e).2
    refine thnF (pg.run _ t3 _ G3 x u _ hold rx (step x G3 yx)) fun _ t4 z => ?_
    obtain ⟨τ, G4, jv4, same, z⟩ := z
    have len : (wipe σ (own.map (·.2))).length = τ.length := by rw [← same, wipe_length]
    refine thnF (pt.run _ t4 τ G4 _ jv4 z) fun b t5 z => ?_
    obtain ⟨G5, jv5, z⟩ := z
    cases b with
    | false =>
      refine next len (fun j v e => ?_) jv5 z
      rw [← same] at e
      exact (wipe_some e).1
    | true =>
      refine thnF (pi.run _ t5 τ G5 _ jv5 z) fun xv t6 z => thnF z fun itv t7 z => ?_
      obtain ⟨it1, fp1, tn1, J1, G7, rfl, jv7, tu1, st1, far1, W1, ⟨m1, w1⟩, turns1⟩ := z
      have run := d2_inner (ta := ta) (sa := sa) (sb := sb) (fa := fa) (po := po) (R := fun r t' => match r with
          | .ok _ => ∃ m', m' < m ∧ ∃ i G, W i m' G ∧ tn i t'.heap ∧ (∀ b ∈ fp, G b = none) ∧ Inv (X.blk s3 H3 scope ce fp) [] (wipe σ (own.map (·.2))) G t'
          | .error _ => False) calm tu1 pg1 pt1 pk pe jv7 st1 far1 w1 turns1 fun t' G' kv nx => next (len.trans (wipe_length τ vs1).symm) (fun j v e => ?_) kv nx
      · exact dc2_startB run (tu1.self X.A 0 _ _ _ st1 run)
      · rw [← same] at e
        obtain ⟨e1, e2⟩ := wipe_some e
        rw [wipe_out fun z => e2 (hv j z)]
        exact e1
/-- {key: value for target in iter if .. for target in iter if ..} -/
theorem pe_dc2 {kx vx ta sa tb sb : Expr} {fa fb : List Expr} {scope : Scope} {own : List (PySem.Str × Nat)} {vs1 : List Nat} {po : Pos} {wi wi1 : TI} {g g1 : TG} {tt tt1 : TT} {tk tv : TE} (calm : X.calm = true) (nod : X.N.Nodup) (hi : PI X ta sa wi) (blk : BlkOk X.N X.env.scope scope own) (hv : ∀ i ∈ vs1, i ∈ own.map (·.2))
    (hg : ∀ t G C cl fp, PG (X.blk t G scope (compEnvC scope cl C X.env) fp) ta g) (ht : ∀ t G C cl fp, PTs (X.blk t G scope (compEnvC scope cl C X.env) fp) fa tt) (hi1 : ∀ t G C cl fp, PI (X.blk t G scope (compEnvC scope cl C X.env) fp) tb sb wi1) (hg1 : ∀ t G C cl fp, PG (X.blk t G scope (compEnvC scope cl C X.env) fp) tb g1) (ht1 : ∀ t G C cl fp, PTs (X.blk t G scope (compEnvC scope cl C X.env) fp) fb tt1)
    (hk : ∀ t G C cl fp, PE (X.blk t G scope (compEnvC scope cl C X.env) fp) kx tk) (he : ∀ t G C cl fp, PE (X.blk t G scope (compEnvC scope cl C X.env) fp) vx tv)
    (plain : ∀ x, foldedSetIterable sa X.env x = pure x := by intro _; rfl) (plain1 : ∀ ce y, foldedSetIterable sb ce y = pure y := by intro _ _; rfl) : PE X (dc2E kx vx ta sa tb sb fa fb scope po) (tDc2 wi g tt wi1 g1 tt1 tk tv (own.map (·.2)) vs1) := by
  refine ⟨fun pins s σ H Q iv want => ?_⟩
  have cells : ∀ y ∈ scope.names, y.2 = .free → ∃ c, X.env.cells.lookup y.1 = some c := fun y hy e => (blk.free y hy e).elim (fun q => iv.ok.has _ (.inl q)) fun q => iv.ok.has _ (.inr q)
  rw [arm_eval_DictComp]
  refine wpAny_comprehension_free (use := none) rfl plain (closure_ok cells) blk.kind (fun y hy e => by rw [blk.uniq y hy, e]) (thn (hi.run pins s σ H _ iv want) fun xv s1 q1 => thn q1 fun itv s2 q2 => ?_)
  obtain ⟨it, fp, tn, J, H2, rfl, iv2, tu, st, far, q⟩ := q2
  refine wpAny_newObj_type (newEnv_comp ?_)
  have fresh : H2 s2.heap.objs.size = none := iv2.hok.fresh (Nat.le_refl _)
  obtain ⟨W, ⟨m0, w0⟩, turns⟩ := q s2.heap.objs.size fresh
  generalize hs3 : ({ s2 with heap := s2.heap.push { cls := .type "dict", data := .dict #[] } } : Shared) = s3
  generalize hD : s2.heap.objs.size = D at *
  have h3 : ∀ b o, s2.heap.get? b = some o → s3.heap.get? b = some o := fun b o e => by rw [← hs3]; exact Heap.get?_push_of_some _ e
  have z3 : s3.heap.objs.size = D + 1 := by rw [← hs3, ← hD]; exact Heap.size_push ..
  have iv3 : Inv X pins σ (upd H2 D (.dK [])) s3 := by
    rw [← hs3]
    refine iv2.laid (t' := s2.toks) (fun b o e => Heap.get?_push_of_some _ e) (Nat.le_of_eq hD) ?_
    rw [← hD]
    exact dk_empty s2.heap iv2.big
  have low : ∀ b ∈ fp, b < D := fun b hb => by
    obtain ⟨o, e, _⟩ := tu.obj _ _ st b hb
    rw [← hD]
    exact Heap.lt_size e
  generalize hH3 : upd H2 D (.dK []) = H3 at iv3 w0
  have far3 : ∀ b ∈ fp, FpOk X pins H3 b ∧ b < s3.heap.objs.size := fun b hb => by
    have lt := low b hb
    refine ⟨⟨?_, (far b hb).2⟩, by rw [z3]; exact Nat.lt_succ_of_lt lt⟩
    rw [← hH3, upd_ne (Nat.ne_of_lt lt)]
    exact (far b hb).1
  have iv4 := block_start iv3 blk nod far3
  generalize hcl : cellsFrom (s3.heap.objs.size + 1) scope.names (cloFrom X.env.cells scope.names []) = cl at iv4
  have run := d2_outer (Z := Q (.ref D)) (sa := sa) (t0 := { s3 with heap := pushCells (s3.heap.push { cls := .type "dict", data := .dict #[] }) scope.names }) (po := po) (R := compPost (model X.prog X.w) X.A X.xe none (EP X pins σ Q) (.ref D) s3.heap.objs.size) calm (plain1 _) hv tu
    (hg s3 H3 s3.heap.objs.size cl fp) (ht s3 H3 s3.heap.objs.size cl fp) (hi1 s3 H3 s3.heap.objs.size cl fp) (hg1 s3 H3 s3.heap.objs.size cl fp) (ht1 s3 H3 s3.heap.objs.size cl fp) (hk s3 H3 s3.heap.objs.size cl fp) (he s3 H3 s3.heap.objs.size cl fp) iv4 (tu.keep _ _ _ st fun b _ o e => pushCells_keeps _ _ _ _ (Heap.get?_push_of_some _ (h3 b o e))) (fun b hb => (far3 b hb).1.1) w0 turns fun t G jv z => ?_
  · subst hcl
    exact codeAny_compStart_dict run (tu.self X.A 0 _ _ _ (tu.keep _ _ _ st fun b _ o e => pushCells_keeps _ _ _ _ (Heap.get?_push_of_some _ (h3 b o e))) run)
  · -- the block is left
    have back : Inv X pins σ G t := iv3.call' (ch := fp) jv.os jv.base jv.hok jv.bare fun b hb => by
      have f := (far3 b hb).1.2
      exact ⟨f.2.2.1, f.1, f.2.2.2.1, f.2.2.2.2⟩
    have none_ : G s3.heap.objs.size = none := jv.free
    obtain ⟨m, ns, _⟩ := jv.loc
    refine ⟨m, ns, fun h'' sb => ?_⟩
    obtain ⟨f0, f1, f2, f3, f4, f5⟩ := iv3.fpOk (Nat.le_refl _) none_
    exact ⟨.ref D, G, back.turned (t' := t.toks) (fun b o hb e => (sb.2 b hb).trans e) f0 f1 f3 f4 f5, rfl, z⟩
end
section
variable {K : PySem.W.Frag} {a D : Addr} {xs : List V} {g g1 : TG} {tt tt1 : TT} {wi1 : TI} {tk tv : TE} {vs vs1 : List Nat} {σ : L2.St} {H1 : Hp} {Z : Hp → Prop}
/-- the outer loop over a tuple -/
theorem d2_tup (Pv : Nat → Hp → Prop) (h0 : Pv 0 H1) (hl : ∀ i H, i ≤ xs.length → Pv i H → SqT K H a xs)
    (hs : ∀ i x H, xs[i]? = some x → Pv i H → g x (wipe σ vs) H fun σ2 H2 => wipe σ2 vs = wipe σ vs ∧ tt σ2 H2 fun b H3 => if b = true then wi1 σ2 H3 fun J1 H4 => ∃ W1 : Nat → Nat → Hp → Prop, (∃ m, W1 0 m H4) ∧ D2Inner J1 g1 tt1 tk tv vs1 σ2 D W1 (Pv (i + 1)) else Pv (i + 1) H3)
    (hd : ∀ H, Pv xs.length H → Z H) : ∃ W : Nat → Nat → Hp → Prop, (∃ m, W 0 m H1) ∧ D2Turns (Itt K a) g tt wi1 g1 tt1 tk tv vs vs1 σ D W Z := by
  refine ⟨fun i m H => m = xs.length - i ∧ i ≤ xs.length ∧ Pv i H, ⟨xs.length, rfl, Nat.zero_le _, h0⟩, ?_⟩
  rintro i m H ⟨rfl, hi, p⟩
  have q := hl i H hi p
  by_cases hlt : i < xs.length
  · refine .inr ⟨⟨xs, xs[i], q, List.getElem?_eq_getElem hlt⟩, Pv (i + 1), fun H' p' => ⟨xs.length - (i + 1), by omega, rfl, hlt, p'⟩, fun x H' y => ?_⟩
    obtain ⟨rfl, y⟩ := y
    exact hs i x _ (y xs q) p
  · have e : i = xs.length := by omega
    subst e
    exact .inl ⟨⟨xs, q, Nat.le_refl _⟩, hd H p⟩
/-- the inner one -/
theorem d2_inTup (Pv : Nat → Hp → Prop) (h0 : Pv 0 H1) (hl : ∀ i H, i ≤ xs.length → Pv i H → SqT K H a xs)
    (hs : ∀ i x H, xs[i]? = some x → Pv i H → g x (wipe σ vs1) H fun σ3 H2 => wipe σ3 vs1 = wipe σ vs1 ∧ tt σ3 H2 fun b H3 => if b = true then tk σ3 H3 fun y H4 => tv σ3 H4 fun z H5 => ∃ kvs k, y = kV k ∧ H5 D = some (.dK kvs) ∧ kvs.length < sizeLine ∧ Pv (i + 1) (upd H5 D (.dK (putK kvs k z))) else Pv (i + 1) H3)
    (hd : ∀ H, Pv xs.length H → Z H) : ∃ W : Nat → Nat → Hp → Prop, (∃ m, W 0 m H1) ∧ D2Inner (Itt K a) g tt tk tv vs1 σ D W Z := by
  refine ⟨fun i m H => m = xs.length - i ∧ i ≤ xs.length ∧ Pv i H, ⟨xs.length, rfl, Nat.zero_le _, h0⟩, ?_⟩
  rintro i m H ⟨rfl, hi, p⟩
  have q := hl i H hi p
  by_cases hlt : i < xs.length
  · refine .inr ⟨⟨xs, xs[i], q, List.getElem?_eq_getElem hlt⟩, Pv (i + 1), fun H' p' => ⟨xs.length - (i + 1), by omega, rfl, hlt, p'⟩, fun x H' y => ?_⟩
    obtain ⟨rfl, y⟩ := y
    exact hs i x _ (y xs q) p
  · have e : i = xs.length := by omega
    subst e
    exact .inl ⟨⟨xs, q, Nat.le_refl _⟩, hd H p⟩
end
end AW
namespace AW
open PySem PySem.Spec PyProof.Rows L2 RZ
open StX
local macro_rules | `(tactic| walk_at "aw1") => `(tactic| first
  | (with_reducible refine w_seq ?_) | (with_reducible refine w_asg ?_) | (with_reducible refine w_gname ?_) | (with_reducible refine w_op ?_) | (with_reducible refine w_un ?_)
  | ((with_reducible refine' w_var ?h ?_); (case h => rfl)) | (with_reducible refine w_c ?_)
  | (with_reducible refine w_I0 ?_) | (with_reducible refine w_U ?_) | (with_reducible refine w_cb ?_) | (with_reducible refine w_nil ?_) | (with_reducible refine w_cons ?_) | (with_reducible refine w_call ?_)
  | (with_reducible refine w_test ?_) | (with_reducible refine w_B ?_) | (with_reducible refine w_bl ?_) | (with_reducible refine w_not ?_) | (with_reducible refine w_yes ?_) | (with_reducible refine iteT ?_) | (with_reducible refine iteF ?_) | (with_reducible refine w_and ?_) | (with_reducible refine w_or ?_)
  | (with_reducible refine w_andV ?_) | (with_reducible refine w_orV ?_) | (with_reducible refine w_notV ?_) | (with_reducible refine w_if ?_)
  | (with_reducible refine w_int1 ?_) | (with_reducible refine w_int1b ?_) | (with_reducible refine w_abs ?_) | (with_reducible refine w_max2 ?_) | (with_reducible refine w_min2 ?_)
  | ((with_reducible refine w_eq ?h ?_); (case h => rfl)) | ((with_reducible refine w_ne ?h ?_); (case h => rfl)) | (with_reducible refine w_isN ?_) | (with_reducible refine w_isB ?_) | (with_reducible refine w_chain ?_)
  | (with_reducible refine w_ret ?_) | (with_reducible refine w_drop ?_) | (with_reducible refine w_ifS ?_) | (with_reducible refine w_gsub ?_) | (with_reducible refine w_augS ?_) | (with_reducible refine w_ipI ?_) | (with_reducible refine w_next ?_)
  | (with_reducible refine w_forR ?_) | (with_reducible refine w_forR2 ?_) | (with_reducible refine w_forL ?_) | (with_reducible refine w_forT ?_) | (with_reducible refine w_lcR ?_) | (with_reducible refine w_lcL ?_) | (with_reducible refine w_lcT ?_) | (with_reducible refine w_sl ?_) | (with_reducible refine w_part ?_) | (with_reducible refine w_noPart ?_) | (with_reducible refine w_in ?_)
  | (with_reducible refine w_gcons ?_) | (with_reducible refine w_gnil ?_) | (with_reducible refine w_lc3 ?_) | (with_reducible refine w_dcZ ?_) | (with_reducible refine w_dcT ?_) | (with_reducible refine w_dg ?_) | (with_reducible refine w_callK ?_) | (with_reducible refine w_dput ?_) | (with_reducible refine w_tup1 ?_)
  | (with_reducible refine w_tup ?_) | (with_reducible refine w_lst ?_)
  | ((with_reducible refine w_I ?h ?_); (case h => first | (exact Or.inr ⟨by decide, by decide⟩) | (exact Or.inl ⟨by decide, by decide⟩) | (show (0 : Int) < _; decide) | (exact ⟨by decide, by decide, by decide⟩) | assumption)))
local macro_rules | `(tactic| walk_at "aw") => `(tactic| repeat (walk_at "aw1"))
def rowP (r : List Int) : PyData := .tuple (r.map .int)
def rowsD (rs : List (List Int)) : PyData := .tuple (rs.map rowP)
def itmD (it : Itm) : PyData := .tuple [.tuple ((it.1.map (·.1)).map .str), rowsD it.2]
theorem ClO.mono {nms nms' : List Str} (s : ∀ x ∈ nms, x ∈ nms') {m : Nat} {d : PyData} (h : ClO nms m d) : ClO nms' m d := by
  induction h with
  | one b hx => exact .one b (s _ hx)
  | neg h ih => exact .neg ih
  | many b ds hl h ih => exact .many b ds hl ih
theorem AllIn.mono {nms nms' xs : List Str} (s : ∀ x ∈ nms, x ∈ nms') (h : AllIn nms xs) : AllIn nms' xs := ⟨h.1, fun x hx => s x (h.2 x hx)⟩
theorem Sy.ok_mono {nms nms' : List Str} (s : ∀ x ∈ nms, x ∈ nms') : ∀ {y : Sy} {m : Nat}, y.ok nms m → y.ok nms' m
  | .sums .., _, h => AllIn.mono s h
  | .claim _, _, h => ClO.mono s h
  | .when _ y, _, h => ⟨ClO.mono s h.1, h.2.1, Sy.ok_mono s h.2.2⟩
  | .prod .., _, h => ⟨s _ h.1, s _ h.2.1, s _ h.2.2⟩
  | .pick .., _, h => ⟨s _ h.1, AllIn.mono s h.2.1, s _ h.2.2⟩
  | .top .., _, h => ⟨AllIn.mono s h.1, s _ h.2⟩
  | .ahead .., _, h => ⟨AllIn.mono s h.1, AllIn.mono s h.2⟩
  | .flat .., _, h => ⟨AllIn.mono s h.1, h.2⟩
/-- groups of items, each with a name in front -/
def GrD (gs : List (List PyData)) : PyData := .tuple (gs.map .tuple)
def Nmd (e : PyData) : Prop := ∃ x r, e = .tuple (.str x :: r) ∧ x.length ≤ 100
def Has (gs : List (List PyData)) (i : Nat) (x : Str) : Prop := ∃ j g r, j < i ∧ gs[j]? = some g ∧ PyData.tuple (.str x :: r) ∈ g
def sp_with_beginning (_ : PySem.W.Frag) : Sp := fun vs H Q _ => ∃ (v : V) (s : Str), vs = [v, .str s] ∧ ∃ (gs : List (List PyData)) (nms : List Str), Is H (GrD gs) v ∧ gs.length ≤ 3 ∧ (∀ g ∈ gs, g.length ≤ 100 ∧ ∀ e ∈ g, Nmd e) ∧ s.length ≤ 10 ∧ (∀ x ∈ nms, Has gs gs.length x) ∧ ∀ d H', Adv [] H H' → DicN H' d nms (fun x => s ++ x) → Q (.ref d) H'
def tabD (d : Str × List Int) (it : Itm) : PyData := .tuple [.str ("v." ++ d.1), .tuple [.str "table", .tuple ((it.1.map fun s => ("a." : Str) ++ s.1).map .str ++ [.str ("b." ++ d.1)]), rowsD it.2]]
def begA (x : Str) : Str := "a." ++ x
def begB (x : Str) : Str := "b." ++ x
def sfD1 (p : Str × Sy) : PyData := .tuple [.str p.1, p.2.D, .int 1]
def vmD (d1 : List (Str × List Int)) (i1 : List (Str × Sy)) (d2 : List (Str × List Int)) (i2 : List (Str × Sy)) (L : List Itm) : PyData :=
  .tuple [.tuple ((d1.map fun p => (begA p.1, p.2)).map uD ++ (d2.map fun p => (begB p.1, p.2)).map uD), .tuple ((i1.map fun p => (begA p.1, p.2.ren begA)).map iD ++ List.zipWith tabD d2 L), .tuple ((i2.map fun p => (begB p.1, p.2.ren begB)).map sfD1)]
/-- what a model is -/
structure MO (d : List (Str × List Int)) (i : List (Str × Sy)) (s : List (Str × Sy × Int)) : Prop where
  ld : d.length ≤ 24
  li : i.length ≤ 40
  ls : s.length ≤ 8
  nd : ∀ p ∈ d, p.1.length ≤ 24
  ni : ∀ p ∈ i, p.1.length ≤ 24 ∧ p.2.ok (d.map (·.1)) 1
  ns : ∀ p ∈ s, p.1.length ≤ 24
def sp_joined_model (_ : PySem.W.Frag) : Sp := fun vs H Q _ => ∃ (m1 m2 vw : V), vs = [m1, m2, vw] ∧ ∃ d1 i1 s1 d2 i2 s2 L, Is H (mD d1 i1 s1) m1 ∧ MO d1 i1 s1 ∧ Is H (mD d2 i2 s2) m2 ∧ MO d2 i2 s2 ∧ Is H (.tuple (List.map itmD L)) vw ∧ L.length = d2.length ∧ (∀ it ∈ L, it.1.length ≤ 3 ∧ ∀ s ∈ it.1, s.1 ∈ d1.map (·.1)) ∧ ∀ w H', Adv [] H H' → Is H' (vmD d1 i1 d2 i2 L) w → Q w H'
def sp_view_model (K : PySem.W.Frag) : Sp := sp_joined_model K
theorem w_forZ {K : PySem.W.Frag} {ta : TA} {g : TG} {tb : TS} {D : Ends} {σ : L2.St} {H : Hp} (h : ta σ H fun vs H1 => ∃ (a b : Addr) (xs ys : List V), vs = [.ref a, .ref b] ∧ ((SqL K H1 a xs ∧ SqL K H1 b ys ∧ kForJ (Itz K a b) g tb D σ H1) ∨ (SqT K H1 a xs ∧ SqT K H1 b ys ∧ kForJ (ItzT K a b) g tb D σ H1))) : tFor (iZipA K ta) g tb D σ H := h
theorem Is.dom {H : Hp} {p : Str × List Int} {u : V} (h : Is H (uD p) u) : UnkP H u p := by
  obtain ⟨a, xs, rfl, e, hx⟩ := h.tup_inv
  cases hx with
  | cons h1 t =>
    cases t with
    | cons h2 t =>
      cases t
      rw [h1.str_inv] at e
      obtain ⟨q, ys, rfl, e2, hy⟩ := h2.tup_inv
      rw [hy.ints_inv] at e2
      exact ⟨a, q, rfl, e, e2⟩
theorem DicN.upL {H H' : Hp} {d l : Addr} {nms : List Str} {f : Str → Str} {xs : List V} (h : DicN H d nms f) (a : Adv [l] H H') (el : H l = some (.lst xs)) : DicN H' d nms f := by
  obtain ⟨kvs, e, v⟩ := h
  refine ⟨kvs, a.keep _ _ (fun z => ?_) e, v⟩
  rw [List.mem_singleton.mp z, el] at e
  cases e
/-- l.append(a datum) -/
theorem w_appX {K : PySem.W.Frag} {σ : L2.St} {H : Hp} {te : TE} {D : PyData} {E : Ends} {i : Nat} {l : Addr} {xs : List V} (hσ : σ[i]? = some (some (.ref l))) (el : H l = some (.lst xs)) (hn : xs.length ≤ 10000) (h : EX D te σ H) (q : ∀ v H', Adv [] H H' → H' l = some (.lst xs) → Is H' D v → E.nx σ (upd H' l (.lst (xs ++ [v])))) : tDrop (tBM K "list" rAppend (tVar i) (tCons te tNil)) E σ H := by
  refine ⟨_, hσ, .inl ⟨rfl, _, SqL.of el⟩, ?_⟩
  refine h H _ (.refl _ _) fun v H1 a1 hd => ?_
  have e1 := a1.keep _ _ (fun z => nomatch z) el
  refine w_nil ?_
  dsimp only
  exact w_append e1 (by omega) (q v H1 a1 e1 hd)
theorem EX.set {σ : L2.St} {H : Hp} {te : TE} {D : PyData} {i : Nat} {E : L2.St → Hp → Prop} (h : EX D te σ H) (q : ∀ v H', Adv [] H H' → Is H' D v → E (σ.set i (some v)) H') {t : TS} {N : Ends} (e : N.nx = E) : tAsg te (gName i) N σ H := h.get fun v H' a hv => by
  show N.nx (σ.set i (some v)) H'
  rw [e]
  exact q v H' a hv
def t_with_beginning (K : PySem.W.Frag) : TS := (tRet (tDc2 (iTup K (tVar 0)) (gName 2) tYes (iTup K (tVar 2)) (gName 3) tYes (tOp (rIxT K) (tVar 3) (tC (.int 0))) (tOp rAddS (tVar 1) (tOp (rIxT K) (tVar 3) (tC (.int 0)))) [2, 3] [3]))
def t_joined_model (K : PySem.W.Frag) : TS := (tSeq (tAsg (tTup (tCons (tCall (sp_with_beginning K) [] E0 (tCons (tVar 0) (tCons (tC (.str "a.")) tNil))) (tCons (tCall (sp_with_beginning K) [] E0 (tCons (tVar 1) (tCons (tC (.str "b.")) tNil))) tNil))) (gTup K 2 (gCons (gName 3) (gCons (gName 4) gNil))))
  (tSeq (tAsg (tLst tNil) (gName 5))
  (tSeq (tFor (iZipA K (tCons (tOp (rIxT K) (tVar 1) (tC (.int 0))) (tCons (tVar 2) tNil))) (gTup K 2 (gCons (gTup K 2 (gCons (gName 6) (gCons (gName 7) gNil))) (gCons (gTup K 2 (gCons (gName 8) (gCons (gName 9) gNil))) gNil)))
  (tSeq (tAsg (tOp (rCatA K) (tThen (tLc (iTup K (tVar 8)) (gName 11) tYes (tDGet (tVar 3) (tVar 11)) [11]) (kTup K)) (tTup (tCons (tDGet (tVar 4) (tVar 6)) tNil))) (gName 10))
  (tDrop (tBM K "list" rAppend (tVar 5) (tCons (tTup (tCons (tOp rAddS (tC (.str "v.")) (tVar 6)) (tCons (tTup (tCons (tC (.str "table")) (tCons (tVar 10) (tCons (tVar 9) tNil)))) tNil))) tNil)))))
  (tSeq (tAsg (tOp (rCatA K) (tCall (sp_renamed_unknowns K) [] E0 (tCons (tOp (rIxT K) (tVar 0) (tC (.int 0))) (tCons (tVar 3) tNil))) (tCall (sp_renamed_unknowns K) [] E0 (tCons (tOp (rIxT K) (tVar 1) (tC (.int 0))) (tCons (tVar 4) tNil)))) (gName 12))
  (tSeq (tAsg (tThen (tLc (iTup K (tCall (sp_renamed_items K) [] E0 (tCons (tOp (rIxT K) (tVar 1) (tC (.int 1))) (tCons (tVar 4) tNil)))) (gName 14) tYes (tOp (rCatA K) (tVar 14) (tTup (tCons (tC (.int 1)) tNil))) [14]) (kTup K)) (gName 13))
  (tRet (tTup (tCons (tVar 12) (tCons (tOp (rCatA K) (tCall (sp_renamed_items K) [] E0 (tCons (tOp (rIxT K) (tVar 0) (tC (.int 1))) (tCons (tVar 3) tNil))) (tThen (tVar 5) (kTup K))) (tCons (tVar 13) tNil))))))))))
def t_view_model (K : PySem.W.Frag) : TS := (tRet (tCall (sp_joined_model K) [] E0 (tCons (tVar 0) (tCons (tVar 1) (tCons (tVar 2) tNil)))))
theorem len_with_beginning {K : PySem.W.Frag} : ∀ (vs : List V) (H : Hp) (Q : VK) (E : XK), sp_with_beginning K vs H Q E → vs.length = 2 := fun vs H Q E h => by
  obtain ⟨_, _, rfl, _⟩ := h
  rfl
theorem pure_with_beginning {K : PySem.W.Frag} (vs : List V) (H : Hp) (Q : VK) (E : XK) (h : sp_with_beginning K vs H Q E) : t_with_beginning K { nx := fun _ H' => Q .non H', rt := Q } (start ["model", "beginning", "items", "item"] vs) H := by
  obtain ⟨v, s, rfl, gs, nms, hv, h3, hg, hs, hn, q⟩ := h
  obtain ⟨p, xs, rfl, ep, hx⟩ := hv.tup_inv
  have hxl := hx.length
  rw [List.length_map] at hxl
  show t_with_beginning K _ [some (.ref p), some (.str s), none, none] H
  unfold t_with_beginning
  with_reducible refine w_ret ?_
  refine ⟨_, rfl, p, rfl, ⟨_, SqT.of ep⟩, fun D hD => ?_⟩
  have hDn : ∀ H' : Hp, Adv [] H H' → True := fun _ _ => trivial
  refine d2_tup (xs := xs) (fun i H' => i ≤ 3 ∧ Adv [] H H' ∧ ∃ kvs, H' D = some (.dK kvs) ∧ kvs.length ≤ 100 * i ∧ ∀ x, Has gs i x → valV kvs (.inr x) = some (.str (s ++ x))) ⟨by decide, Adv.new hD, [], upd_same, by simp, fun x h => by obtain ⟨_, _, _, h, _⟩ := h; exact absurd h (Nat.not_lt_zero _)⟩ (fun i H' _ pp => SqT.of (pp.2.1.tup _ _ ep)) (fun i x H' hx1 pp => ?_) fun H' pp => ?_
  · obtain ⟨hi3, a, kvs, ed, hk, hv⟩ := pp
    obtain ⟨gd, hgd, hgx⟩ := hx.get hx1
    rw [List.getElem?_map] at hgd
    obtain ⟨g, hgi, rfl⟩ := Option.map_eq_some_iff.mp hgd
    obtain ⟨gp, ys, rfl, egp, hy⟩ := (hgx.up a.tup).tup_inv
    have hyl := hy.length
    obtain ⟨hgl, hge⟩ := hg g (List.mem_of_getElem? hgi)
    have hil := (List.getElem?_eq_some_iff.mp hgi).1
    refine ⟨rfl, ?_⟩
    refine w_yes (iteT ?_)
    refine ⟨_, rfl, gp, rfl, ⟨_, SqT.of egp⟩, ?_⟩
    refine d2_inTup (xs := ys) (fun j H2 => j ≤ 100 ∧ Adv [] H H2 ∧ Adv [D] H' H2 ∧ ∃ kvs, H2 D = some (.dK kvs) ∧ kvs.length ≤ 100 * i + j ∧ (∀ x, Has gs i x → valV kvs (.inr x) = some (.str (s ++ x))) ∧ ∀ x l r, l < j → g[l]? = some (.tuple (.str x :: r)) → valV kvs (.inr x) = some (.str (s ++ x))) ⟨by decide, a, .refl _ _, kvs, ed, by omega, hv, fun x l r hl => absurd hl (Nat.not_lt_zero _)⟩ (fun j H2 _ pp => SqT.of (pp.2.2.1.tup _ _ egp)) (fun j y H2 hy1 pp => ?_) fun H2 pp => ?_
    · obtain ⟨hj, a2, aD, kv2, ed2, hk2, hv2, hw2⟩ := pp
      have hjl := (List.getElem?_eq_some_iff.mp hy1).1
      obtain ⟨e, he, hey⟩ := hy.get hy1
      obtain ⟨x, r, rfl, hxl2⟩ := hge e (List.mem_of_getElem? he)
      obtain ⟨ip, zs, rfl, eip, hz⟩ := (hey.up aD.tup).tup_inv
      cases hz with
      | cons h1 t =>
        rw [h1.str_inv] at eip
        refine ⟨rfl, ?_⟩
        refine w_yes (iteT ?_)
        walk_at "aw"
        refine w_ixT (SqT.of eip) (v := .str x) (at_nat (by decide) rfl) ?_
        walk_at "aw"
        refine w_ixT (SqT.of eip) (v := .str x) (at_nat (by decide) rfl) ?_
        refine ⟨s, x, rfl, rfl, Nat.le_trans (show _ ≤ 1000 by omega) (by decide), ?_⟩
        refine ⟨kv2, .inr x, rfl, ed2, Nat.lt_of_le_of_lt (show _ ≤ 1000 by omega) (by decide), by omega, a2.mut hD ed2 (fun _ z => by cases z), aD.trans ((Adv.dct ed2)), _, upd_same, by have := length_putK kv2 (.inr x) (.str (s ++ x)); omega, fun u hu => ?_, fun u l r' hl hu => ?_⟩
        · rw [valV_put]
          by_cases z : (Sum.inr u : L2.Key) = .inr x
          · rw [if_pos z, Sum.inr.inj z]
          · rw [if_neg z]
            exact hv2 u hu
        · rw [valV_put]
          by_cases z : (Sum.inr u : L2.Key) = .inr x
          · rw [if_pos z, Sum.inr.inj z]
          · rw [if_neg z]
            by_cases hlj : l = j
            · subst hlj
              rw [he] at hu
              cases hu
              exact absurd rfl z
            · exact hw2 u l r' (by omega) hu
    · obtain ⟨_, a2, aD, kv2, ed2, hk2, hv2, hw2⟩ := pp
      refine ⟨by omega, a2, kv2, ed2, by omega, fun x hx => ?_⟩
      obtain ⟨j, g', r, hj, hgj, hm⟩ := hx
      by_cases hji : j = i
      · subst hji
        rw [hgi] at hgj
        cases hgj
        obtain ⟨l, hl, e⟩ := List.mem_iff_getElem.mp hm
        exact hw2 x l r (by omega) (by rw [List.getElem?_eq_getElem hl, e])
      · exact hv2 x ⟨j, g', r, by omega, hgj, hm⟩
  · obtain ⟨_, a, kvs, ed, hk, hv⟩ := pp
    rw [hxl] at hv
    exact q D H' a ⟨kvs, ed, fun x hx => hv x (hn x hx)⟩
theorem len_joined_model {K : PySem.W.Frag} : ∀ (vs : List V) (H : Hp) (Q : VK) (E : XK), sp_joined_model K vs H Q E → vs.length = 3 := fun vs H Q E h => by
  obtain ⟨_, _, _, rfl, _⟩ := h
  rfl
theorem mD_gs (d : List (Str × List Int)) (i : List (Str × Sy)) (s : List (Str × Sy × Int)) : mD d i s = GrD [d.map uD, i.map iD, s.map sD] := rfl
theorem MO.gs {d : List (Str × List Int)} {i : List (Str × Sy)} {s : List (Str × Sy × Int)} (m : MO d i s) : ∀ g ∈ [d.map uD, i.map iD, s.map sD], g.length ≤ 100 ∧ ∀ e ∈ g, Nmd e := by
  intro g hg
  simp only [List.mem_cons, List.not_mem_nil, or_false] at hg
  have h1 := m.ld
  have h2 := m.li
  have h3 := m.ls
  rcases hg with rfl | rfl | rfl
  · refine ⟨by rw [List.length_map]; omega, fun e he => ?_⟩
    obtain ⟨p, hp, rfl⟩ := List.mem_map.mp he
    exact ⟨p.1, _, rfl, by have := m.nd p hp; omega⟩
  · refine ⟨by rw [List.length_map]; omega, fun e he => ?_⟩
    obtain ⟨p, hp, rfl⟩ := List.mem_map.mp he
    exact ⟨p.1, _, rfl, by have := (m.ni p hp).1; omega⟩
  · refine ⟨by rw [List.length_map]; omega, fun e he => ?_⟩
    obtain ⟨p, hp, rfl⟩ := List.mem_map.mp he
    exact ⟨p.1, _, rfl, by have := m.ns p hp; omega⟩
theorem MO.has {d : List (Str × List Int)} {i : List (Str × Sy)} {s : List (Str × Sy × Int)} : ∀ x ∈ d.map (·.1) ++ i.map (·.1), Has [d.map uD, i.map iD, s.map sD] 3 x := by
  intro x hx
  rcases List.mem_append.mp hx with hx | hx
  · obtain ⟨p, hp, rfl⟩ := List.mem_map.mp hx
    exact ⟨0, _, _, by decide, rfl, List.mem_map_of_mem (f := uD) hp⟩
  · obtain ⟨p, hp, rfl⟩ := List.mem_map.mp hx
    exact ⟨1, _, _, by decide, rfl, List.mem_map_of_mem (f := iD) hp⟩
theorem pure_joined_model {K : PySem.W.Frag} (vs : List V) (H : Hp) (Q : VK) (E : XK) (h : sp_joined_model K vs H Q E) : t_joined_model K { nx := fun _ H' => Q .non H', rt := Q } (start ["one", "other", "view", "new_one", "new_other", "tables", "y", "domain", "xs", "rows", "names", "x", "unknowns", "soft", "item"] vs) H := by
  obtain ⟨m1, m2, vw, rfl, d1, i1, s1, d2, i2, s2, L, h1, o1, h2, o2, hvw, hLl, hLn, q⟩ := h
  show t_joined_model K _ [some m1, some m2, some vw, none, none, none, none, none, none, none, none, none, none, none, none] H
  unfold t_joined_model
  walk_at "aw"
  refine ⟨m1, "a.", rfl, _, d1.map (·.1) ++ i1.map (·.1), mD_gs _ _ _ ▸ h1, by simp, o1.gs, by decide, MO.has, fun dA H1 a1 hA => ?_⟩
  walk_at "aw"
  refine ⟨m2, "b.", rfl, _, d2.map (·.1) ++ i2.map (·.1), mD_gs _ _ _ ▸ h2.up a1.tup, by simp, o2.gs, by decide, MO.has, fun dB H2 a2 hB => ?_⟩
  walk_at "aw"
  refine w_tupW (by simp) fun pr H3 a3 epr => ?_
  refine w_gtup (SqT.of epr) rfl ?_
  walk_at "aw"
  refine w_lstD (by simp) fun tl H4 ntl a4 etl => ?_
  have a04 := a1.trans (a2.trans (a3.trans a4))
  have ntl' : H tl = none := (a1.trans (a2.trans a3)).free (fun z => nomatch z) ntl
  have hA4 := hA.up (a2.trans (a3.trans a4))
  have hB4 := hB.up (a3.trans a4)
  have M1 := h1.up a04.tup
  have M2 := h2.up a04.tup
  have V0 := hvw.up a04.tup
  clear epr a4 a3 a2 a1 hA hB h1 h2 hvw
  with_reducible refine w_gname ?_
  with_reducible refine w_seq ?_
  obtain ⟨pv, ws, rfl, epv, hws⟩ := V0.tup_inv
  obtain ⟨pm, xm, rfl, epm, hxm⟩ := id M2.tup_inv
  cases hxm with
  | cons hu2 t =>
    cases t with
    | cons hi2 t =>
      obtain ⟨pu, us, rfl, epu, hus⟩ := hu2.tup_inv
      have hul := hus.length
      have hwl := hws.length
      rw [List.length_map] at hul hwl
      have ld2 := o2.ld
      refine w_forZ ?_
      walk_at "aw"
      refine w_ixT (SqT.of epm) (at_nat (by decide) rfl) ?_
      walk_at "aw"
      refine ⟨pu, pv, us, ws, rfl, .inr ⟨SqT.of epu, SqT.of epv, ?_⟩⟩
      refine for_it (walk_zipT (xs := us) (ys := ws) (by omega)) (fun i σ' H' => ∃ (y6 y7 y8 y9 y10 : Option V) (ts : List V), σ' = [some m1, some (.ref pm), some (.ref pv), some (.ref dA), some (.ref dB), some (.ref tl), y6, y7, y8, y9, y10, none, none, none, none] ∧ Adv [] H H' ∧ Adv [tl] H4 H' ∧ H' tl = some (.lst ts) ∧ ts.length = i ∧ IsAll H' ((List.zipWith tabD d2 L).take i) ts) ⟨_, _, _, _, _, [], rfl, a04, .refl _ _, etl, rfl, .nil⟩
        (fun i σ' H' _ pp => by obtain ⟨_, _, _, _, _, _, _, _, a, _⟩ := pp; exact ⟨a.tup _ _ epu, a.tup _ _ epv⟩) (fun i x σ' H' H'' hi pp yy => ?_) fun σ' H' pp => ?_
      · obtain ⟨y6, y7, y8, y9, y10, ts, rfl, a0, a, et, htl, hts⟩ := pp
        obtain ⟨Tp, u, z, rfl, nT, rfl, hu, hz⟩ := yy
        dsimp only at hu hz
        have aT : Adv [] H' (upd H' Tp (.tup [u, z])) := Adv.new nT
        obtain ⟨de, hde, hdu⟩ := hus.get hu
        obtain ⟨ie, hie, hiz⟩ := hws.get hz
        rw [List.getElem?_map] at hde hie
        obtain ⟨dm, hdm, rfl⟩ := Option.map_eq_some_iff.mp hde
        obtain ⟨it, hit, rfl⟩ := Option.map_eq_some_iff.mp hie
        have aT4 := a.trans (aT.any (S := [tl]))
        have eT : (upd H' Tp (.tup [u, z])) Tp = some (.tup [u, z]) := upd_same
        have a0T := a0.trans aT
        have hdu := hdu.up aT4.tup
        have hiz := hiz.up aT4.tup
        have etT := aT.keep _ _ (fun z => nomatch z) et
        have hA' : DicN (upd H' Tp (.tup [u, z])) dA (d1.map (·.1) ++ i1.map (·.1)) begA := hA4.upL aT4 etl
        have hB' : DicN (upd H' Tp (.tup [u, z])) dB (d2.map (·.1) ++ i2.map (·.1)) begB := hB4.upL aT4 etl
        generalize upd H' Tp (.tup [u, z]) = HT at *
        obtain ⟨ua, ux, rfl, eua, hux⟩ := hdu.tup_inv
        obtain ⟨za, zx, rfl, eza, hzx⟩ := hiz.tup_inv
        cases hux with
        | cons hx1 t1 =>
        cases t1 with
        | cons hx2 t2 =>
        cases t2
        cases hzx with
        | cons hz1 t3 =>
        cases t3 with
        | cons hz2 t4 =>
        cases t4
        rw [hx1.str_inv] at eua
        refine w_gtup (SqT.of eT) rfl ?_
        refine w_gcons ?_
        refine w_gtup (SqT.of eua) rfl ?_
        walk_at "aw"
        refine w_gtup (SqT.of eza) rfl ?_
        refine w_gcons (w_gname (w_gcons (w_gname (w_gnil ?_))))
        refine w_gnil ?_
        with_reducible refine w_seq ?_
        with_reducible refine w_asg ?_
        obtain ⟨hit3, hitn⟩ := hLn it (List.mem_of_getElem? hit)
        have hdm1 := o2.nd dm (List.mem_of_getElem? hdm)
        refine EX.get (ex_cat (ex_ofL (lx_map (fun e => .str (begA (txtD e))) (ex_var rfl hz1) (by rw [List.length_map, List.length_map]; omega) (fun _ => rfl) fun e he u H5 a5 hu5 => ?_)) (ex_tup (exa_cons (ex_dget rfl hB' (List.mem_append_left _ (List.mem_map_of_mem (List.mem_of_getElem? hdm))) (ex_var rfl (.str dm.1))) exa_nil)) (by rw [List.length_map, List.length_map, List.length_map]; simp; omega)) fun nv H5 a5 hnv => ?_
        · rw [List.map_map] at he
          obtain ⟨s, hs, rfl⟩ := List.mem_map.mp he
          exact ex_dget rfl (hA'.up a5) (List.mem_append_left _ (hitn s hs)) (ex_var rfl hu5)
        with_reducible refine w_gname ?_
        have etH5 := a5.keep _ _ (fun z => nomatch z) etT
        have hil := (List.getElem?_eq_some_iff.mp hdm).1
        refine w_appX (i := 5) rfl etH5 (by omega) (ex_tup (exa_cons (ex_addS (x := "v.") ex_str (ex_var (i := 6) rfl (.str dm.1)) (by show 2 + _ ≤ _; omega)) (exa_cons (ex_tup (exa_cons ex_str (exa_cons (ex_var (i := 10) rfl hnv) (exa_cons (ex_var (i := 9) rfl (hz2.up a5.tup)) exa_nil)))) exa_nil))) fun v H6 a6 e6 hv6 => ?_
        have k7 : TK H6 (upd H6 tl (.lst (ts ++ [v]))) := (Adv.lst e6).tup
        refine ⟨_, _, _, _, _, ts ++ [v], rfl, ((a0T.trans (a5.trans a6))).mut ntl' e6 (fun _ z => by cases z), ((aT4.trans ((a5.trans a6).any)).trans (Adv.lst e6)), upd_same, by rw [List.length_append, htl]; rfl, ?_⟩
        rw [List.take_add_one, List.getElem?_zipWith, hdm, hit]
        refine IsAll.append (((hts.up aT.tup).up (a5.trans a6).tup).up k7) (.cons ?_ .nil)
        refine (Is.up k7 hv6) |> fun z => ?_
        rw [List.map_map, List.map_map] at z
        unfold tabD
        rw [List.map_map]
        exact z
      · obtain ⟨y6, y7, y8, y9, y10, ts, rfl, a0, a, et, htl, hts⟩ := pp
        have hA' := hA4.upL a etl
        have hB' := hB4.upL a etl
        have M1' := M1.up a.tup
        have M2' := M2.up a.tup
        rw [List.take_of_length_le (by rw [List.length_zipWith]; omega)] at hts
        have sub1 : ∀ x ∈ d1.map (·.1), x ∈ d1.map (·.1) ++ i1.map (·.1) := fun x hx => List.mem_append_left _ hx
        have sub2 : ∀ x ∈ d2.map (·.1), x ∈ d2.map (·.1) ++ i2.map (·.1) := fun x hx => List.mem_append_left _ hx
        have ld1 := o1.ld
        have li1 := o1.li
        have li2 := o2.li
        with_reducible refine w_seq ?_
        with_reducible refine w_asg ?_
        refine EX.get (ex_cat (ex_call2 (D2 := .tuple ((d1.map fun p => (begA p.1, p.2)).map uD)) (i := 3) rfl (ex_ix (i := 0) (ex_var rfl M1') ex_int rfl) fun v1 H5 Q1 a5 hv1 q1 => ⟨v1, dA, rfl, _, begA, d1, hA'.up a5, hv1, by omega, fun p hp => sub1 _ (List.mem_map_of_mem hp), q1⟩) (ex_call2 (D2 := .tuple ((d2.map fun p => (begB p.1, p.2)).map uD)) (i := 4) rfl (ex_ix (i := 0) (ex_var rfl M2') ex_int rfl) fun v1 H5 Q1 a5 hv1 q1 => ⟨v1, dB, rfl, _, begB, d2, hB'.up a5, hv1, by omega, fun p hp => sub2 _ (List.mem_map_of_mem hp), q1⟩) (by rw [List.length_map, List.length_map, List.length_map, List.length_map]; omega)) fun un H5 a5 hun => ?_
        with_reducible refine w_gname ?_
        with_reducible refine w_seq ?_
        with_reducible refine w_asg ?_
        refine EX.get (ex_ofL (lx_map (ds := (i2.map fun p => (begB p.1, p.2.ren begB)).map iD) (fun e => match e with | .tuple ds => .tuple (ds ++ [.int 1]) | e => e) (ex_call2 (i := 4) rfl (ex_ix (i := 1) (ex_var rfl (M2'.up a5.tup)) ex_int rfl) fun v1 H6 Q1 a6 hv1 q1 => ⟨v1, dB, rfl, _, begB, i2, hB'.up (a5.trans a6), hv1, by omega, fun p hp => ⟨List.mem_append_right _ (List.mem_map_of_mem hp), Sy.ok_mono sub2 (o2.ni p hp).2⟩, q1⟩) (by rw [List.length_map, List.length_map]; omega) (fun _ => rfl) fun e he u H6 a6 hu6 => ?_)) fun so H6 a6 hso => ?_
        · rw [List.map_map] at he
          obtain ⟨p, hp, rfl⟩ := List.mem_map.mp he
          exact ex_cat (ex_var rfl hu6) (ex_tup (exa_cons ex_int exa_nil)) (by simp)
        with_reducible refine w_gname ?_
        with_reducible refine w_ret ?_
        have a56 := a5.trans a6
        refine EX.get (ex_tup (exa_cons (ex_var rfl (hun.up a6.tup)) (exa_cons (ex_cat (ex_call2 (D2 := .tuple ((i1.map fun p => (begA p.1, p.2.ren begA)).map iD)) (i := 3) rfl (ex_ix (i := 1) (ex_var rfl (M1'.up a56.tup)) ex_int rfl) fun v1 H7 Q1 a7 hv1 q1 => ⟨v1, dA, rfl, _, begA, i1, hA'.up (a56.trans a7), hv1, by omega, fun p hp => ⟨List.mem_append_right _ (List.mem_map_of_mem hp), Sy.ok_mono sub1 (o1.ni p hp).2⟩, q1⟩) (lx_var rfl (a56.keep _ _ (fun z => nomatch z) et) (hts.up a56.tup)) (by rw [List.length_map, List.length_map, List.length_zipWith]; omega)) (exa_cons (ex_var rfl hso) exa_nil)))) fun w H7 a7 hw => ?_
        refine q w H7 (a0.trans (a56.trans a7)) ?_
        unfold vmD
        simp only [List.map_map] at hw ⊢
        exact hw
theorem len_view_model {K : PySem.W.Frag} : ∀ (vs : List V) (H : Hp) (Q : VK) (E : XK), sp_view_model K vs H Q E → vs.length = 3 := len_joined_model
theorem pure_view_model {K : PySem.W.Frag} (vs : List V) (H : Hp) (Q : VK) (E : XK) (h : sp_view_model K vs H Q E) : t_view_model K { nx := fun _ H' => Q .non H', rt := Q } (start ["one", "other", "view"] vs) H := by
  obtain ⟨m1, m2, vw, rfl, r⟩ := h
  show t_view_model K _ [some m1, some m2, some vw] H
  unfold t_view_model
  walk_at "aw"
  exact ⟨m1, m2, vw, rfl, r⟩
end AW
namespace AW
open PySem PySem.Spec PyProof.Rows L2 RZ
open StX
local macro_rules | `(tactic| walk_at "aw1") => `(tactic| first
  | (with_reducible refine w_seq ?_) | (with_reducible refine w_asg ?_) | (with_reducible refine w_gname ?_) | (with_reducible refine w_op ?_) | (with_reducible refine w_un ?_)
  | ((with_reducible refine' w_var ?h ?_); (case h => rfl)) | (with_reducible refine w_c ?_)
  | (with_reducible refine w_I0 ?_) | (with_reducible refine w_U ?_) | (with_reducible refine w_cb ?_) | (with_reducible refine w_nil ?_) | (with_reducible refine w_cons ?_) | (with_reducible refine w_call ?_)
  | (with_reducible refine w_test ?_) | (with_reducible refine w_B ?_) | (with_reducible refine w_bl ?_) | (with_reducible refine w_not ?_) | (with_reducible refine w_yes ?_) | (with_reducible refine iteT ?_) | (with_reducible refine iteF ?_) | (with_reducible refine w_and ?_) | (with_reducible refine w_or ?_)
  | (with_reducible refine w_andV ?_) | (with_reducible refine w_orV ?_) | (with_reducible refine w_notV ?_) | (with_reducible refine w_if ?_)
  | (with_reducible refine w_int1 ?_) | (with_reducible refine w_int1b ?_) | (with_reducible refine w_abs ?_) | (with_reducible refine w_max2 ?_) | (with_reducible refine w_min2 ?_)
  | ((with_reducible refine w_eq ?h ?_); (case h => rfl)) | ((with_reducible refine w_ne ?h ?_); (case h => rfl)) | (with_reducible refine w_isN ?_) | (with_reducible refine w_isB ?_) | (with_reducible refine w_chain ?_)
  | (with_reducible refine w_ret ?_) | (with_reducible refine w_drop ?_) | (with_reducible refine w_ifS ?_) | (with_reducible refine w_gsub ?_) | (with_reducible refine w_augS ?_) | (with_reducible refine w_ipI ?_) | (with_reducible refine w_next ?_)
  | (with_reducible refine w_forR ?_) | (with_reducible refine w_forR2 ?_) | (with_reducible refine w_forL ?_) | (with_reducible refine w_forT ?_) | (with_reducible refine w_lcR ?_) | (with_reducible refine w_lcL ?_) | (with_reducible refine w_lcT ?_) | (with_reducible refine w_sl ?_) | (with_reducible refine w_part ?_) | (with_reducible refine w_noPart ?_) | (with_reducible refine w_in ?_)
  | (with_reducible refine w_gcons ?_) | (with_reducible refine w_gnil ?_) | (with_reducible refine w_lc3 ?_) | (with_reducible refine w_dcZ ?_) | (with_reducible refine w_dcT ?_) | (with_reducible refine w_dg ?_) | (with_reducible refine w_callK ?_) | (with_reducible refine w_dput ?_) | (with_reducible refine w_tup1 ?_)
  | (with_reducible refine w_tup ?_) | (with_reducible refine w_lst ?_)
  | ((with_reducible refine w_I ?h ?_); (case h => first | (exact Or.inr ⟨by decide, by decide⟩) | (exact Or.inl ⟨by decide, by decide⟩) | (show (0 : Int) < _; decide) | (exact ⟨by decide, by decide, by decide⟩) | assumption)))
local macro_rules | `(tactic| walk_at "aw") => `(tactic| repeat (walk_at "aw1"))
def Shrt (nms : List Str) : Prop := ∀ x ∈ nms, x.length ≤ 100
def sp__law_renamed_claim (_ : PySem.W.Frag) (m : Nat) : Sp := fun vs H Q _ => ∃ (v : V) (s : Str), vs = [v, .str s] ∧ ∃ nms D, Shrt nms ∧ s.length ≤ 10 ∧ Is H D v ∧ ClO nms m D ∧ ∀ w H', Adv [] H H' → Is H' (renC (fun x => s ++ x) m D) w → Q w H'
def sp__law_renamed (_ : PySem.W.Frag) (m : Nat) : Sp := fun vs H Q _ => ∃ (v : V) (b : Str), vs = [v, .str b] ∧ ∃ nms, ∃ s : Sy, Shrt nms ∧ b.length ≤ 10 ∧ Is H (Sy.D s) v ∧ 0 < m ∧ s.ok nms (m - 1) ∧ ∀ w H', Adv [] H H' → Is H' (s.ren fun x => b ++ x).D w → Q w H'
def sp__law_view_model (_ : PySem.W.Frag) : Sp := fun vs H Q _ => ∃ (m1 m2 vw : V), vs = [m1, m2, vw] ∧ ∃ d1 i1 s1 d2 i2 s2 L, Is H (mD d1 i1 s1) m1 ∧ MO d1 i1 s1 ∧ Is H (mD d2 i2 s2) m2 ∧ MO d2 i2 s2 ∧ Is H (.tuple (List.map itmD L)) vw ∧ L.length = d2.length ∧ (∀ it ∈ L, it.1.length ≤ 3 ∧ ∀ s ∈ it.1, s.1 ∈ d1.map (·.1)) ∧ ∀ w H', Adv [] H H' → Is H' (vmD d1 i1 d2 i2 L) w → Q w H'
section
variable {K : PySem.W.Frag} {σ : L2.St} {H : Hp} {te : TE} {Q : VK} {t1 t2 : TS} {E : Ends}
theorem in_twoL {i : Nat} {w a b : Str} (hi : σ[i]? = some (some (.str w))) (q : ∀ H', Adv [] H H' → if decide (w = a ∨ w = b) = true then t1 E σ H' else t2 E σ H') : tIfS (tTest (tOp (rIn K false) (tVar i) (tLst (tCons (tC (.str a)) (tCons (tC (.str b)) tNil))))) t1 t2 E σ H := by
  refine ⟨_, hi, ?_⟩
  refine w_lst ?_
  refine w_cons (w_c (w_cons (w_c (w_nil ?_))))
  refine w_lstD (by simp) fun l H2 nl a2 el => ?_
  refine w_inL el rfl rfl ⟨_, rfl, ?_⟩
  rw [show ([V.str a, V.str b] : List V) = ([a, b] : List Str).map V.str from rfl, inV_str]
  have := q H2 a2
  simpa using this
theorem ex_beg {i : Nat} {s x : Str} (hi : σ[i]? = some (some (.str s))) (h1 : s.length ≤ 10) (h2 : x.length ≤ 100) (h : EX (.str x) te σ H) : EX (.str (s ++ x)) (tOp rAddS (tVar i) te) σ H := ex_addS (ex_var hi (.str s)) h (by omega)
/-- tuple([start + x for x in xs]) -/
theorem ex_begs {i j : Nat} {s : Str} {xs nms : List Str} (hi : ∀ v, ((wipe σ [j]).set j (some v))[i]? = some (some (.str s))) (hj : ∀ v, ((wipe σ [j]).set j (some v))[j]? = some (some v)) (hw : ∀ v, wipe ((wipe σ [j]).set j (some v)) [j] = wipe σ [j]) (h1 : s.length ≤ 10) (hs : Shrt nms) (hx : AllIn nms xs) (h : EX (strsD xs) te σ H) :
    EX (strsD (xs.map fun x => s ++ x)) (tThen (tLc (iTup K te) (gName j) tYes (tOp rAddS (tVar i) (tVar j)) [j]) (kTup K)) σ H := by
  have := ex_ofL (K := K) (lx_map (K := K) (tb := tOp rAddS (tVar i) (tVar j)) (fun e => .str (s ++ txtD e)) h (by rw [List.length_map]; have := hx.1; omega) hw fun e he v H' a hv => by
    obtain ⟨x, hxm, rfl⟩ := List.mem_map.mp he
    exact ex_beg (hi v) h1 (hs x (hx.2 x hxm)) (ex_var (hj v) hv))
  unfold strsD
  rw [List.map_map] at this ⊢
  exact this
end
section
variable {K : PySem.W.Frag} {σ : L2.St} {H : Hp} {te tf : TE} {D1 D2 : PyData} {ds es : List PyData}
theorem ex_call2c {sp : Sp} {u : V} (h : EX D1 te σ H) (c : ∀ v H' (Q : VK), Adv [] H H' → Is H' D1 v → (∀ w H'', Adv [] H' H'' → Is H'' D2 w → Q w H'') → sp [v, u] H' Q E0) : EX D2 (tCall sp [] E0 (tCons te (tCons (tC u) tNil))) σ H := fun H' Q a q => by
  refine w_call ?_
  refine h H' _ a fun v H1 a1 hv => ?_
  exact c v H1 Q (a.trans a1) hv fun w H2 a2 hw => q w H2 (a1.trans a2) hw
theorem lx_cat (h : LX ds te σ H) (g : LX es tf σ H) (hz : ds.length + es.length ≤ 10000) : LX (ds ++ es) (tOp rCat te tf) σ H := fun H' Q a q => h H' _ a fun l xs H1 nl a1 el hx => g H1 _ (a.trans a1) fun l2 ys H2 nl2 a2 el2 hy =>
  w_cat (a2.keep _ _ (fun z => nomatch z) el) el2 (by rw [hx.length, hy.length]; omega) fun r H3 nr a3 er => q r _ H3 ((a1.trans a2).free (fun z => nomatch z) nr) (a1.trans (a2.trans a3)) er ((hx.up (a2.trans a3).tup).append (hy.up a3.tup))
theorem LX.get (h : LX ds te σ H) {Q : VK} (q : ∀ l xs H', H l = none → Adv [] H H' → H' l = some (.lst xs) → IsAll H' ds xs → Q (.ref l) H') : te σ H Q := h H Q (.refl _ _) q
theorem lx_mapA {α : Type} {xs : List α} {f : α → PyData} {g : TG} {vs : List Nat} {tb : TE} (φ : α → PyData) (h : EX (.tuple (xs.map f)) te σ H) (hn : xs.length ≤ 1000)
    (step : ∀ x ∈ xs, ∀ v H' (Kt : V → Hp → Prop), Adv [] H H' → Is H' (f x) v → (∀ w H'', Adv [] H' H'' → Is H'' (φ x) w → Kt w H'') → g v (wipe σ vs) H' fun σ2 H2 => wipe σ2 vs = wipe σ vs ∧ tb σ2 H2 Kt) :
    LX (xs.map φ) (tLc (iTup K te) g tYes tb vs) σ H := fun H' Q a q => by
  refine h H' _ a fun v H1 a1 hv => ?_
  obtain ⟨p, ys, rfl, ep, hx⟩ := hv.tup_inv
  have hl := hx.length
  rw [List.length_map] at hl
  show kLcT K g tYes tb vs σ Q (.ref p) H1
  refine ⟨p, rfl, ⟨_, SqT.of ep⟩, kLc_rel (walk_tup (xs := ys)) (by omega) (fun H2 a2 => SqT.of (a2.tup _ _ ep)) (fun i y H2 => ∃ e, xs[i]? = some e ∧ Is H2 (φ e) y) (fun i y H2 H3 kk hh => by
    obtain ⟨e, h1, h2⟩ := hh
    exact ⟨e, h1, h2.up kk⟩) (fun i x H2 H3 Kt hi a2 yy kt => ?_) fun l H2 zs nl a2 el hyl hyr => ?_⟩
  · obtain ⟨rfl, hu⟩ := yy
    obtain ⟨e, he, hxe⟩ := hx.get hu
    rw [List.getElem?_map] at he
    obtain ⟨w, hw, rfl⟩ := Option.map_eq_some_iff.mp he
    exact step w (List.mem_of_getElem? hw) x _ Kt ((a.trans a1).trans a2) (hxe.up a2.tup) fun u H4 a4 hu => kt u H4 a4 ⟨w, hw, hu⟩
  · refine q l zs H2 (a1.free (fun z => nomatch z) nl) (a1.trans a2) el (IsAll.of _ _ (by rw [List.length_map]; omega) fun i dd v h1 h2 => ?_)
    obtain ⟨e, h3, h4⟩ := hyr i v h2
    rw [List.getElem?_map, h3] at h1
    cases h1
    exact h4
theorem lx_mapA2 {α : Type} {xs : List α} {f e1 e2 : α → PyData} {i j : Nat} {tb : TE} (φ : α → PyData) (h : EX (.tuple (xs.map f)) te σ H) (hn : xs.length ≤ 1000) (hf : ∀ x, f x = .tuple [e1 x, e2 x]) (hw : ∀ v w, wipe (((wipe σ [i, j]).set i (some v)).set j (some w)) [i, j] = wipe σ [i, j])
    (step : ∀ x ∈ xs, ∀ v w H', Adv [] H H' → Is H' (e1 x) v → Is H' (e2 x) w → EX (φ x) tb (((wipe σ [i, j]).set i (some v)).set j (some w)) H') : LX (xs.map φ) (tLc (iTup K te) (gTup K 2 (gCons (gName i) (gCons (gName j) gNil))) tYes tb [i, j]) σ H :=
  lx_mapA φ h hn fun x hx v H' Kt a hv q => by
    rw [hf] at hv
    obtain ⟨p, xs, rfl, ep, hx2⟩ := hv.tup_inv
    cases hx2 with
    | cons h1 t =>
      cases t with
      | cons h2 t =>
        cases t
        refine w_gtup (SqT.of ep) rfl ?_
        exact w_gcons (w_gname (w_gcons (w_gname (w_gnil ⟨hw _ _, step x hx _ _ H' a h1 h2 H' Kt (.refl _ _) q⟩))))
end
def t__law_renamed_claim (K : PySem.W.Frag) (m : Nat) : TS := (tSeq (tIfS (tTest (tOp (rIn K false) (tOp (rIxT K) (tVar 0) (tC (.int 0))) (tLst (tCons (tC (.str "from")) (tCons (tC (.str "is")) tNil))))) (tRet (tTup (tCons (tOp (rIxT K) (tVar 0) (tC (.int 0))) (tCons (tOp rAddS (tVar 1) (tOp (rIxT K) (tVar 0) (tC (.int 1)))) (tCons (tOp (rIxT K) (tVar 0) (tC (.int 2))) tNil))))) tNext)
  (tSeq (tIfS (tTest (tOp rEq (tOp (rIxT K) (tVar 0) (tC (.int 0))) (tC (.str "not")))) (tRet (tTup (tCons (tC (.str "not")) (tCons (tCall (sp__law_renamed_claim K m) [] E0 (tCons (tOp (rIxT K) (tVar 0) (tC (.int 1))) (tCons (tVar 1) tNil))) tNil)))) tNext)
  (tRet (tTup (tCons (tOp (rIxT K) (tVar 0) (tC (.int 0))) (tCons (tThen (tLc (iTup K (tOp (rIxT K) (tVar 0) (tC (.int 1)))) (gName 2) tYes (tCall (sp__law_renamed_claim K m) [] E0 (tCons (tVar 2) (tCons (tVar 1) tNil))) [2]) (kTup K)) tNil))))))
def t__law_renamed (K : PySem.W.Frag) (m : Nat) : TS := (tSeq (tAsg (tOp (rIxT K) (tVar 0) (tC (.int 0))) (gName 2))
  (tSeq (tIfS (tTest (tOp (rIn K false) (tVar 2) (tLst (tCons (tC (.str "least")) (tCons (tC (.str "same")) tNil))))) (tRet (tTup (tCons (tVar 2) (tCons (tThen (tLc (iTup K (tOp (rIxT K) (tVar 0) (tC (.int 1)))) (gTup K 2 (gCons (gName 3) (gCons (gName 4) gNil))) tYes (tTup (tCons (tOp rAddS (tVar 1) (tVar 3)) (tCons (tVar 4) tNil))) [3, 4]) (kTup K)) (tCons (tOp (rIxT K) (tVar 0) (tC (.int 2))) tNil))))) tNext)
  (tSeq (tIfS (tTest (tOp rEq (tVar 2) (tC (.str "claim")))) (tRet (tTup (tCons (tVar 2) (tCons (tCall (sp__law_renamed_claim K 4) [] E0 (tCons (tOp (rIxT K) (tVar 0) (tC (.int 1))) (tCons (tVar 1) tNil))) tNil)))) tNext)
  (tSeq (tIfS (tTest (tOp rEq (tVar 2) (tC (.str "when")))) (tRet (tTup (tCons (tVar 2) (tCons (tCall (sp__law_renamed_claim K 4) [] E0 (tCons (tOp (rIxT K) (tVar 0) (tC (.int 1))) (tCons (tVar 1) tNil))) (tCons (tCall (sp__law_renamed K m) [] E0 (tCons (tOp (rIxT K) (tVar 0) (tC (.int 2))) (tCons (tVar 1) tNil))) tNil))))) tNext)
  (tSeq (tIfS (tTest (tOp rEq (tVar 2) (tC (.str "product")))) (tRet (tTup (tCons (tVar 2) (tCons (tOp rAddS (tVar 1) (tOp (rIxT K) (tVar 0) (tC (.int 1)))) (tCons (tOp rAddS (tVar 1) (tOp (rIxT K) (tVar 0) (tC (.int 2)))) (tCons (tOp rAddS (tVar 1) (tOp (rIxT K) (tVar 0) (tC (.int 3)))) tNil)))))) tNext)
  (tSeq (tIfS (tTest (tOp rEq (tVar 2) (tC (.str "pick")))) (tRet (tTup (tCons (tVar 2) (tCons (tOp rAddS (tVar 1) (tOp (rIxT K) (tVar 0) (tC (.int 1)))) (tCons (tThen (tLc (iTup K (tOp (rIxT K) (tVar 0) (tC (.int 2)))) (gName 3) tYes (tOp rAddS (tVar 1) (tVar 3)) [3]) (kTup K)) (tCons (tOp rAddS (tVar 1) (tOp (rIxT K) (tVar 0) (tC (.int 3)))) tNil)))))) tNext)
  (tSeq (tAsg (tThen (tLc (iTup K (tOp (rIxT K) (tVar 0) (tC (.int 1)))) (gName 3) tYes (tOp rAddS (tVar 1) (tVar 3)) [3]) (kTup K)) (gName 5))
  (tSeq (tIfS (tTest (tOp rEq (tVar 2) (tC (.str "top")))) (tRet (tTup (tCons (tVar 2) (tCons (tVar 5) (tCons (tOp rAddS (tVar 1) (tOp (rIxT K) (tVar 0) (tC (.int 2)))) tNil))))) tNext)
  (tSeq (tIfS (tTest (tOp rEq (tVar 2) (tC (.str "ahead")))) (tRet (tTup (tCons (tVar 2) (tCons (tVar 5) (tCons (tThen (tLc (iTup K (tOp (rIxT K) (tVar 0) (tC (.int 2)))) (gName 6) tYes (tOp rAddS (tVar 1) (tVar 6)) [6]) (kTup K)) tNil))))) tNext)
  (tRet (tOp (rCatA K) (tTup (tCons (tVar 2) (tCons (tVar 5) tNil))) (tSl (rSlA K) (tVar 0) (tPart (tC (.int 2))) tNoPart))))))))))))
def t__law_view_model (K : PySem.W.Frag) : TS := (tSeq (tAsg (tOp rCat (tLc (iTup K (tOp (rIxT K) (tVar 0) (tC (.int 0)))) (gTup K 2 (gCons (gName 4) (gCons (gName 5) gNil))) tYes (tTup (tCons (tOp rAddS (tC (.str "a.")) (tVar 4)) (tCons (tVar 5) tNil))) [4, 5]) (tLc (iTup K (tOp (rIxT K) (tVar 1) (tC (.int 0)))) (gTup K 2 (gCons (gName 4) (gCons (gName 5) gNil))) tYes (tTup (tCons (tOp rAddS (tC (.str "b.")) (tVar 4)) (tCons (tVar 5) tNil))) [4, 5])) (gName 3))
  (tSeq (tAsg (tLc (iTup K (tOp (rIxT K) (tVar 0) (tC (.int 1)))) (gTup K 2 (gCons (gName 4) (gCons (gName 7) gNil))) tYes (tTup (tCons (tOp rAddS (tC (.str "a.")) (tVar 4)) (tCons (tCall (sp__law_renamed K 2) [] E0 (tCons (tVar 7) (tCons (tC (.str "a.")) tNil))) tNil))) [4, 7]) (gName 6))
  (tSeq (tFor (iRng1 (tCons (tCB (rLen1 K) (tCons (tOp (rIxT K) (tVar 1) (tC (.int 0))) tNil)) tNil)) (gName 8)
  (tSeq (tAsg (tOp (rIxT K) (tVar 2) (tVar 8)) (gTup K 2 (gCons (gName 9) (gCons (gName 10) gNil))))
  (tSeq (tAsg (tOp (rCatA K) (tThen (tLc (iTup K (tVar 9)) (gName 12) tYes (tOp rAddS (tC (.str "a.")) (tVar 12)) [12]) (kTup K)) (tTup (tCons (tOp rAddS (tC (.str "b.")) (tOp (rIxT K) (tOp (rIxT K) (tOp (rIxT K) (tVar 1) (tC (.int 0))) (tVar 8)) (tC (.int 0)))) tNil))) (gName 11))
  (tDrop (tBM K "list" rAppend (tVar 6) (tCons (tTup (tCons (tOp rAddS (tC (.str "v.")) (tOp (rIxT K) (tOp (rIxT K) (tOp (rIxT K) (tVar 1) (tC (.int 0))) (tVar 8)) (tC (.int 0)))) (tCons (tTup (tCons (tC (.str "table")) (tCons (tVar 11) (tCons (tVar 10) tNil)))) tNil))) tNil))))))
  (tSeq (tAsg (tLc (iTup K (tOp (rIxT K) (tVar 1) (tC (.int 1)))) (gTup K 2 (gCons (gName 4) (gCons (gName 7) gNil))) tYes (tTup (tCons (tOp rAddS (tC (.str "b.")) (tVar 4)) (tCons (tCall (sp__law_renamed K 2) [] E0 (tCons (tVar 7) (tCons (tC (.str "b.")) tNil))) (tCons (tC (.int 1)) tNil)))) [4, 7]) (gName 13))
  (tRet (tTup (tCons (tThen (tVar 3) (kTup K)) (tCons (tThen (tVar 6) (kTup K)) (tCons (tThen (tVar 13) (kTup K)) tNil)))))))))
theorem len__law_renamed_claim {K : PySem.W.Frag} {m : Nat} : ∀ (vs : List V) (H : Hp) (Q : VK) (E : XK), sp__law_renamed_claim K m vs H Q E → vs.length = 2 := fun vs H Q E h => by
  obtain ⟨_, _, rfl, _⟩ := h
  rfl
theorem no__law_renamed_claim {K : PySem.W.Frag} {vs : List V} {H : Hp} {Q : VK} {E : XK} (h : sp__law_renamed_claim K 0 vs H Q E) : False := by
  obtain ⟨_, _, _, _, _, _, _, _, h, _⟩ := h
  cases h
theorem pure__law_renamed_claim {K : PySem.W.Frag} {m : Nat} (vs : List V) (H : Hp) (Q : VK) (E : XK) (h : sp__law_renamed_claim K (m + 1) vs H Q E) : t__law_renamed_claim K m { nx := fun _ H' => Q .non H', rt := Q } (start ["claim", "start", "one"] vs) H := by
  obtain ⟨v, s, rfl, nms, D, hs, hl, hv, hc, q⟩ := h
  show t__law_renamed_claim K m _ [some v, some (.str s), none] H
  unfold t__law_renamed_claim
  have hin : ∀ (w : Str) (σ : L2.St) (H' : Hp) (Q : VK), Adv [] H H' → (∀ H'', Adv [] H' H'' → Q (.bl (decide (w = "from" ∨ w = "is"))) H'') → EX (.str w) (tOp (rIxT K) (tVar 0) (tC (.int 0))) σ H → tOp (rIn K false) (tOp (rIxT K) (tVar 0) (tC (.int 0))) (tLst (tCons (tC (.str "from")) (tCons (tC (.str "is")) tNil))) σ H' Q := fun w σ H' Q a q e => by
    refine e H' _ a fun y H1 a1 hy => ?_
    rw [hy.str_inv]
    walk_at "aw"
    refine w_lstD (by simp) fun t H2 nt a2 et => ?_
    refine w_inL et rfl rfl ?_
    rw [show ([V.str "from", V.str "is"] : List V) = (["from", "is"] : List Str).map V.str from rfl, inV_str]
    have := q H2 (a1.trans a2)
    simpa using this
  cases hc with
  | @one _ x n b hx =>
    have W : ∀ σ : L2.St, σ[0]? = some (some v) → EX (.str (atW b)) (tOp (rIxT K) (tVar 0) (tC (.int 0))) σ H := fun σ h => ex_ix (i := 0) (ex_var h hv) ex_int rfl
    with_reducible refine w_seq ?_
    with_reducible refine w_ifS ?_
    with_reducible refine w_test ?_
    refine hin (atW b) _ H _ (.refl _ _) (fun H1 a1 => ?_) (W _ rfl)
    refine ⟨_, rfl, ?_⟩
    refine iteT'' (decide_eq_true (by cases b <;> simp [atW])) ?_
    with_reducible refine w_ret ?_
    refine EX.get (EX.at (ex_tup (exa_cons (W _ rfl) (exa_cons (ex_beg rfl hl (hs x hx) (ex_ix (i := 1) (ex_var rfl hv) ex_int rfl)) (exa_cons (ex_ix (i := 2) (ex_var rfl hv) ex_int rfl) exa_nil)))) a1) fun w H' a hw => ?_
    rw [renC_one] at q
    exact q w H' (a1.trans a) hw
  | @neg _ e h =>
    have W : ∀ σ : L2.St, σ[0]? = some (some v) → EX (.str "not") (tOp (rIxT K) (tVar 0) (tC (.int 0))) σ H := fun σ h => ex_ix (i := 0) (ex_var h hv) ex_int rfl
    with_reducible refine w_seq ?_
    with_reducible refine w_ifS ?_
    with_reducible refine w_test ?_
    refine hin _ _ H _ (.refl _ _) (fun H1 a1 => ?_) (W _ rfl)
    refine ⟨_, rfl, ?_⟩
    refine iteF'' (decide_eq_false (by decide)) ?_
    with_reducible refine w_next ?_
    with_reducible refine w_seq ?_
    with_reducible refine w_ifS ?_
    with_reducible refine w_test ?_
    with_reducible refine w_op ?_
    refine (W _ rfl) H1 _ a1 fun y H2 a2 hy => ?_
    rw [hy.str_inv]
    walk_at "aw"
    refine EX.get (EX.at (ex_tup (exa_cons ex_str (exa_cons (ex_call2 (D2 := renC (fun x => s ++ x) m e) (i := 1) rfl (ex_ix (i := 1) (ex_var rfl hv) ex_int rfl) fun v1 H3 Q1 a3 hv1 q1 => ⟨v1, s, rfl, nms, e, hs, hl, hv1, h, q1⟩) exa_nil))) (a1.trans a2)) fun w H' a hw => ?_
    rw [renC_neg] at q
    exact q w H' (a1.trans (a2.trans a)) hw
  | @many _ b ds hl2 h =>
    have W : ∀ σ : L2.St, σ[0]? = some (some v) → EX (.str (manyW b)) (tOp (rIxT K) (tVar 0) (tC (.int 0))) σ H := fun σ h => ex_ix (i := 0) (ex_var h hv) ex_int rfl
    with_reducible refine w_seq ?_
    with_reducible refine w_ifS ?_
    with_reducible refine w_test ?_
    refine hin _ _ H _ (.refl _ _) (fun H1 a1 => ?_) (W _ rfl)
    refine ⟨_, rfl, ?_⟩
    refine iteF'' (decide_eq_false (by cases b <;> decide)) ?_
    with_reducible refine w_next ?_
    with_reducible refine w_seq ?_
    with_reducible refine w_ifS ?_
    with_reducible refine w_test ?_
    with_reducible refine w_op ?_
    refine (W _ rfl) H1 _ a1 fun y H2 a2 hy => ?_
    rw [hy.str_inv]
    walk_at "aw"
    refine iteF'' (decide_eq_false (by cases b <;> decide)) ?_
    with_reducible refine w_next ?_
    with_reducible refine w_ret ?_
    refine EX.get (EX.at (ex_tup (exa_cons (W _ rfl) (exa_cons (ex_ofL (lx_map (renC (fun x => s ++ x) m) (ex_ix (i := 1) (ex_var rfl hv) ex_int rfl) (by omega) (fun _ => rfl) fun e he u H3 a3 hu => ex_call2 (D2 := renC (fun x => s ++ x) m e) (i := 1) rfl (ex_var rfl hu) fun v1 H4 Q1 a4 hv1 q1 => ⟨v1, s, rfl, nms, e, hs, hl, hv1, h e he, q1⟩)) exa_nil))) (a1.trans a2)) fun w H' a hw => ?_
    rw [renC_many] at q
    exact q w H' (a1.trans (a2.trans a)) hw
theorem len__law_renamed {K : PySem.W.Frag} {m : Nat} : ∀ (vs : List V) (H : Hp) (Q : VK) (E : XK), sp__law_renamed K m vs H Q E → vs.length = 2 := fun vs H Q E h => by
  obtain ⟨_, _, rfl, _⟩ := h
  rfl
theorem no__law_renamed {K : PySem.W.Frag} {vs : List V} {H : Hp} {Q : VK} {E : XK} (h : sp__law_renamed K 0 vs H Q E) : False := by
  obtain ⟨_, _, _, _, _, _, _, _, h, _⟩ := h
  cases h
theorem pure__law_renamed {K : PySem.W.Frag} {m : Nat} (vs : List V) (H : Hp) (Q : VK) (E : XK) (h : sp__law_renamed K (m + 1) vs H Q E) : t__law_renamed K m { nx := fun _ H' => Q .non H', rt := Q } (start ["saying", "start", "word", "x", "w", "names", "y"] vs) H := by
  obtain ⟨v, b, rfl, nms, s, hs, hb, hv, _, ok, q⟩ := h
  rw [Nat.add_sub_cancel] at ok
  show t__law_renamed K m _ [some v, some (.str b), none, none, none, none, none] H
  unfold t__law_renamed
  have IX : ∀ (ds : List PyData) (i : Nat) (D : PyData) (σ : L2.St) (H' : Hp), Adv [] H H' → σ[0]? = some (some v) → Is H (.tuple ds) v → ds[i]? = some D → EX D (tOp (rIxT K) (tVar 0) (tC (.int i))) σ H' := fun ds i D σ H' a h hv e => (ex_ix (i := i) (ex_var h (hv.up a.tup)) ex_int e)
  have CL : ∀ (te : TE) (D : PyData) (σ : L2.St) (H' : Hp), Adv [] H H' → σ[1]? = some (some (.str b)) → ClO nms 4 D → EX D te σ H' → EX (renC (fun x => b ++ x) 4 D) (tCall (sp__law_renamed_claim K 4) [] E0 (tCons te (tCons (tVar 1) tNil))) σ H' := fun te D σ H' a h1 hx e => ex_call2 h1 e fun v1 H3 Q1 a3 hv1 q1 => ⟨v1, b, rfl, nms, D, hs, hb, hv1, hx, q1⟩
  have fin : ∀ (te : TE) (D : PyData) (σ : L2.St) (H' : Hp), Adv [] H H' → D = (s.ren fun x => b ++ x).D → EX D te σ H' → tRet te { nx := fun _ H' => Q .non H', rt := Q } σ H' := fun te D σ H' a e h => w_ret (h.get fun w H2 a2 hw => q w H2 (a.trans a2) (e ▸ hw))
  have fst : ∀ (w : Str) (ds : List PyData) (t : TS), Is H (.tuple (.str w :: ds)) v → (∀ H', Adv [] H H' → t { nx := fun _ H' => Q .non H', rt := Q } [some v, some (.str b), some (.str w), none, none, none, none] H') → tSeq (tAsg (tOp (rIxT K) (tVar 0) (tC (.int 0))) (gName 2)) t { nx := fun _ H' => Q .non H', rt := Q } [some v, some (.str b), none, none, none, none, none] H := fun w ds t hv k => by
    with_reducible refine w_seq ?_
    with_reducible refine w_asg ?_
    refine EX.get (IX _ 0 _ _ H (.refl _ _) rfl hv rfl) fun y H1 a1 hy => ?_
    rw [hy.str_inv]
    with_reducible refine w_gname ?_
    exact k H1 a1
  cases s with
  | sums b' ts n =>
    refine fst (sumW b') _ _ hv fun H1 a1 => ?_
    with_reducible refine w_seq ?_
    refine in_twoL rfl fun H2 a2 => ?_
    refine iteT'' (decide_eq_true (by cases b' <;> simp [sumW])) ?_
    have a12 := a1.trans a2
    refine fin _ _ _ H2 a12 ?_ (ex_tup (exa_cons (ex_var rfl (.str _)) (exa_cons (ex_ofL (lx_map2 (fun e => match e with | .tuple [.str x, w] => .tuple [.str (b ++ x), w] | e => e) (IX _ 1 _ _ H2 a12 rfl hv rfl) ?_ (fun _ _ => rfl) fun e he => ?_)) (exa_cons (IX _ 2 _ _ H2 a12 rfl hv rfl) exa_nil))))
    · show _ = PyData.tuple [_, PyData.tuple ((ts.map fun t => (b ++ t.1, t.2)).map trD), _]
      rw [map_map', map_map']
      rfl
    · have := ok.1
      rw [List.length_map] at this ⊢
      omega
    · obtain ⟨t, ht, rfl⟩ := List.mem_map.mp he
      refine ⟨.str t.1, .int t.2, rfl, fun u z H3 a3 hu hz => ?_⟩
      exact ex_tup (exa_cons (ex_beg rfl hb (hs _ (ok.2 _ (List.mem_map_of_mem ht))) (ex_var rfl hu)) (exa_cons (ex_var rfl hz) exa_nil))
  | claim D =>
    refine fst "claim" _ _ hv fun H1 a1 => ?_
    with_reducible refine w_seq ?_
    refine in_twoL rfl fun H2 a2 => ?_
    refine iteF'' (decide_eq_false (by decide)) ?_
    with_reducible refine w_next ?_
    with_reducible refine w_seq ?_
    refine if_eq rfl rfl ?_
    have a12 := a1.trans a2
    exact fin _ _ _ H2 a12 rfl (ex_tup (exa_cons (ex_var rfl (.str _)) (exa_cons (CL _ _ _ _ a12 rfl ok (IX _ 1 _ _ H2 a12 rfl hv rfl)) exa_nil)))
  | when D s =>
    refine fst "when" _ _ hv fun H1 a1 => ?_
    with_reducible refine w_seq ?_
    refine in_twoL rfl fun H2 a2 => ?_
    refine iteF'' (decide_eq_false (by decide)) ?_
    with_reducible refine w_next ?_
    with_reducible refine w_seq ?_
    refine if_ne rfl (by decide) ?_
    with_reducible refine w_next ?_
    with_reducible refine w_seq ?_
    refine if_eq rfl rfl ?_
    have a12 := a1.trans a2
    obtain ⟨ok1, hm, ok2⟩ := ok
    exact fin _ _ _ H2 a12 rfl (ex_tup (exa_cons (ex_var rfl (.str _)) (exa_cons (CL _ _ _ _ a12 rfl ok1 (IX _ 1 _ _ H2 a12 rfl hv rfl)) (exa_cons (ex_call2 rfl (IX _ 2 _ _ H2 a12 rfl hv rfl) fun v1 H3 Q1 a3 hv1 q1 => ⟨v1, b, rfl, nms, s, hs, hb, hv1, hm, ok2, q1⟩) exa_nil))))
  | prod x y z =>
    refine fst "product" _ _ hv fun H1 a1 => ?_
    with_reducible refine w_seq ?_
    refine in_twoL rfl fun H2 a2 => ?_
    refine iteF'' (decide_eq_false (by decide)) ?_
    with_reducible refine w_next ?_
    iterate 2
      with_reducible refine w_seq ?_
      refine if_ne rfl (by decide) ?_
      with_reducible refine w_next ?_
    with_reducible refine w_seq ?_
    refine if_eq rfl rfl ?_
    have a12 := a1.trans a2
    exact fin _ _ _ H2 a12 rfl (ex_tup (exa_cons (ex_var rfl (.str _)) (exa_cons (ex_beg rfl hb (hs _ ok.1) (IX _ 1 _ _ H2 a12 rfl hv rfl)) (exa_cons (ex_beg rfl hb (hs _ ok.2.1) (IX _ 2 _ _ H2 a12 rfl hv rfl)) (exa_cons (ex_beg rfl hb (hs _ ok.2.2) (IX _ 3 _ _ H2 a12 rfl hv rfl)) exa_nil)))))
  | pick i xs r =>
    refine fst "pick" _ _ hv fun H1 a1 => ?_
    with_reducible refine w_seq ?_
    refine in_twoL rfl fun H2 a2 => ?_
    refine iteF'' (decide_eq_false (by decide)) ?_
    with_reducible refine w_next ?_
    iterate 3
      with_reducible refine w_seq ?_
      refine if_ne rfl (by decide) ?_
      with_reducible refine w_next ?_
    with_reducible refine w_seq ?_
    refine if_eq rfl rfl ?_
    have a12 := a1.trans a2
    exact fin _ _ _ H2 a12 rfl (ex_tup (exa_cons (ex_var rfl (.str _)) (exa_cons (ex_beg rfl hb (hs _ ok.1) (IX _ 1 _ _ H2 a12 rfl hv rfl)) (exa_cons (ex_begs (fun _ => rfl) (fun _ => rfl) (fun _ => rfl) hb hs ok.2.1 (IX _ 2 _ _ H2 a12 rfl hv rfl)) (exa_cons (ex_beg rfl hb (hs _ ok.2.2) (IX _ 3 _ _ H2 a12 rfl hv rfl)) exa_nil)))))
  | top xs r =>
    refine fst "top" _ _ hv fun H1 a1 => ?_
    with_reducible refine w_seq ?_
    refine in_twoL rfl fun H2 a2 => ?_
    refine iteF'' (decide_eq_false (by decide)) ?_
    with_reducible refine w_next ?_
    iterate 4
      with_reducible refine w_seq ?_
      refine if_ne rfl (by decide) ?_
      with_reducible refine w_next ?_
    have a12 := a1.trans a2
    with_reducible refine w_seq ?_
    with_reducible refine w_asg ?_
    refine EX.get (ex_begs (fun _ => rfl) (fun _ => rfl) (fun _ => rfl) hb hs ok.1 (IX _ 1 _ _ H2 a12 rfl hv rfl)) fun u H3 a3 hu => ?_
    with_reducible refine w_gname ?_
    with_reducible refine w_seq ?_
    refine if_eq rfl rfl ?_
    have a13 := a12.trans a3
    exact fin _ _ _ H3 a13 rfl (ex_tup (exa_cons (ex_var rfl (.str _)) (exa_cons (ex_var rfl hu) (exa_cons (ex_beg rfl hb (hs _ ok.2) (IX _ 2 _ _ H3 a13 rfl hv rfl)) exa_nil))))
  | ahead xs ys =>
    refine fst "ahead" _ _ hv fun H1 a1 => ?_
    with_reducible refine w_seq ?_
    refine in_twoL rfl fun H2 a2 => ?_
    refine iteF'' (decide_eq_false (by decide)) ?_
    with_reducible refine w_next ?_
    iterate 4
      with_reducible refine w_seq ?_
      refine if_ne rfl (by decide) ?_
      with_reducible refine w_next ?_
    have a12 := a1.trans a2
    with_reducible refine w_seq ?_
    with_reducible refine w_asg ?_
    refine EX.get (ex_begs (fun _ => rfl) (fun _ => rfl) (fun _ => rfl) hb hs ok.1 (IX _ 1 _ _ H2 a12 rfl hv rfl)) fun u H3 a3 hu => ?_
    with_reducible refine w_gname ?_
    with_reducible refine w_seq ?_
    refine if_ne rfl (by decide) ?_
    with_reducible refine w_next ?_
    with_reducible refine w_seq ?_
    refine if_eq rfl rfl ?_
    have a13 := a12.trans a3
    exact fin _ _ _ H3 a13 rfl (ex_tup (exa_cons (ex_var rfl (.str _)) (exa_cons (ex_var rfl hu) (exa_cons (ex_begs (fun _ => rfl) (fun _ => rfl) (fun _ => rfl) hb hs ok.2 (IX _ 2 _ _ H3 a13 rfl hv rfl)) exa_nil))))
  | flat k xs rest =>
    have ne : ∀ c : Str, c ∉ flW → ¬ flW.getD k "round" = c := fun c h => flW_ne h
    refine fst (flW.getD k "round") _ _ hv fun H1 a1 => ?_
    with_reducible refine w_seq ?_
    refine in_twoL rfl fun H2 a2 => ?_
    refine iteF'' (decide_eq_false (fun z => z.elim (ne _ (by decide)) (ne _ (by decide)))) ?_
    with_reducible refine w_next ?_
    iterate 4
      with_reducible refine w_seq ?_
      refine if_ne rfl (ne _ (by decide)) ?_
      with_reducible refine w_next ?_
    have a12 := a1.trans a2
    with_reducible refine w_seq ?_
    with_reducible refine w_asg ?_
    refine EX.get (ex_begs (fun _ => rfl) (fun _ => rfl) (fun _ => rfl) hb hs ok.1 (IX _ 1 _ _ H2 a12 rfl hv rfl)) fun u H3 a3 hu => ?_
    with_reducible refine w_gname ?_
    iterate 2
      with_reducible refine w_seq ?_
      refine if_ne rfl (ne _ (by decide)) ?_
      with_reducible refine w_next ?_
    have a13 := a12.trans a3
    exact fin _ _ _ H3 a13 rfl (ex_cat (ex_tup (exa_cons (ex_var rfl (.str _)) (exa_cons (ex_var rfl hu) exa_nil))) (ex_from (k := 2) (ex_var rfl (hv.up a13.tup)) ex_int) (by have := ok.2.1; simp; omega))
theorem len__law_view_model {K : PySem.W.Frag} : ∀ (vs : List V) (H : Hp) (Q : VK) (E : XK), sp__law_view_model K vs H Q E → vs.length = 3 := fun vs H Q E h => by
  obtain ⟨_, _, _, rfl, _⟩ := h
  rfl
theorem pure__law_view_model {K : PySem.W.Frag} (vs : List V) (H : Hp) (Q : VK) (E : XK) (h : sp__law_view_model K vs H Q E) : t__law_view_model K { nx := fun _ H' => Q .non H', rt := Q } (start ["one", "other", "view", "unknowns", "name", "domain", "sayings", "saying", "k", "xs", "rows", "names", "x", "soft"] vs) H := by
  obtain ⟨m1, m2, vw, rfl, d1, i1, s1, d2, i2, s2, L, h1, o1, h2, o2, hvw, hLl, hLn, q⟩ := h
  show t__law_view_model K _ [some m1, some m2, some vw, none, none, none, none, none, none, none, none, none, none, none] H
  unfold t__law_view_model
  have ld1 := o1.ld
  have ld2 := o2.ld
  have li1 := o1.li
  have li2 := o2.li
  have sh : ∀ {d : List (Str × List Int)} {i : List (Str × Sy)} {s : List (Str × Sy × Int)}, MO d i s → Shrt (d.map (·.1)) := fun o x hx => by
    obtain ⟨p, hp, rfl⟩ := List.mem_map.mp hx
    have := o.nd p hp
    omega
  have UN : ∀ (c : Str) (i : Nat) (d : List (Str × List Int)) (its : List (Str × Sy)) (s : List (Str × Sy × Int)) (m : V) (σ : L2.St), MO d its s → c.length ≤ 10 → Is H (mD d its s) m → σ[i]? = some (some m) → (∀ v w, wipe (((wipe σ [4, 5]).set 4 (some v)).set 5 (some w)) [4, 5] = wipe σ [4, 5]) → (∀ v w, (((wipe σ [4, 5]).set 4 (some v)).set 5 (some w))[4]? = some (some v) ∧ (((wipe σ [4, 5]).set 4 (some v)).set 5 (some w))[5]? = some (some w)) →
      LX (((d.map fun p => (c ++ p.1, p.2)).map uD)) (tLc (iTup K (tOp (rIxT K) (tVar i) (tC (.int 0)))) (gTup K 2 (gCons (gName 4) (gCons (gName 5) gNil))) tYes (tTup (tCons (tOp rAddS (tC (.str c)) (tVar 4)) (tCons (tVar 5) tNil))) [4, 5]) σ H := fun c i d its s m σ o hc hm hi hw hg => by
    have ld := o.ld
    have := lx_map2 (K := K) (tb := tTup (tCons (tOp rAddS (tC (.str c)) (tVar 4)) (tCons (tVar 5) tNil))) (fun e => match e with | .tuple [.str x, w] => .tuple [.str (c ++ x), w] | e => e) (ex_ix (K := K) (i := 0) (ex_var hi hm) ex_int rfl) (by rw [List.length_map]; omega) hw fun e he => by
      obtain ⟨t, ht, rfl⟩ := List.mem_map.mp he
      refine ⟨.str t.1, .tuple (t.2.map .int), rfl, fun u z H3 a3 hu hz => ?_⟩
      have := o.nd t ht
      exact ex_tup (exa_cons (ex_addS ex_str (ex_var (hg u z).1 hu) (by omega)) (exa_cons (ex_var (hg u z).2 hz) exa_nil))
    rw [map_map'] at this ⊢
    exact this
  with_reducible refine w_seq ?_
  with_reducible refine w_asg ?_
  refine LX.get (lx_cat (UN "a." 0 d1 i1 s1 m1 _ o1 (by decide) h1 rfl (fun _ _ => rfl) fun _ _ => ⟨rfl, rfl⟩) (UN "b." 1 d2 i2 s2 m2 _ o2 (by decide) h2 rfl (fun _ _ => rfl) fun _ _ => ⟨rfl, rfl⟩) (by rw [List.length_map, List.length_map, List.length_map, List.length_map]; omega)) fun lu xu H1 nlu a1 elu hxu => ?_
  with_reducible refine w_gname ?_
  with_reducible refine w_seq ?_
  with_reducible refine w_asg ?_
  have IT : ∀ (c : Str) (i : Nat) (d : List (Str × List Int)) (its : List (Str × Sy)) (s : List (Str × Sy × Int)) (m : V) (σ : L2.St) (H' : Hp), Adv [] H H' → MO d its s → c.length ≤ 10 → Is H (mD d its s) m → σ[i]? = some (some m) → EX (.tuple (its.map iD)) (tOp (rIxT K) (tVar i) (tC (.int 1))) σ H' := fun c i d its s m σ H' a o hc hm hi => ex_ix (i := 1) (ex_var hi (hm.up a.tup)) ex_int rfl
  have RN : ∀ (c : Str) (d : List (Str × List Int)) (its : List (Str × Sy)) (s : List (Str × Sy × Int)) (te : TE) (p : Str × Sy) (σ : L2.St) (H' : Hp), MO d its s → c.length ≤ 10 → p ∈ its → EX p.2.D te σ H' → EX ((p.2.ren fun x => c ++ x).D) (tCall (sp__law_renamed K 2) [] E0 (tCons te (tCons (tC (.str c)) tNil))) σ H' := fun c d its s te p σ H' o hc hp h => ex_call2c h fun v1 H3 Q1 a3 hv1 q1 => ⟨v1, c, rfl, _, p.2, sh o, hc, hv1, by decide, (o.ni p hp).2, q1⟩
  refine LX.get (lx_mapA2 (e1 := fun p : Str × Sy => .str p.1) (e2 := fun p => p.2.D) (i := 4) (j := 7) (fun p : Str × Sy => iD (begA p.1, p.2.ren begA)) (IT "a." 0 d1 i1 s1 m1 _ H1 a1 o1 (by decide) h1 rfl) (by omega) (fun _ => rfl) (fun _ _ => rfl) fun p hp u z H3 a3 hu hz => ?_) fun tl xt H2 ntl a2 etl hxt => ?_
  · have := (o1.ni p hp).1
    exact ex_tup (exa_cons (ex_addS ex_str (ex_var (i := 4) rfl hu) (by show 2 + _ ≤ _; omega)) (exa_cons (RN "a." d1 i1 s1 _ p _ H3 o1 (by decide) hp (ex_var (i := 7) rfl hz)) exa_nil))
  have a12 := a1.trans a2
  have M1 := h1.up a12.tup
  have M2 := h2.up a12.tup
  have elu2 := a2.keep _ _ (fun z => nomatch z) elu
  have hxu2 := hxu.up a2.tup
  obtain ⟨pv, ws, rfl, epv, hws⟩ := (hvw.up a12.tup).tup_inv
  obtain ⟨pm, xm, rfl, epm, hxm⟩ := id M2.tup_inv
  cases hxm with
  | cons hu2 t =>
  cases t with
  | cons hi2 t =>
  obtain ⟨pu, us, rfl, epu, hus⟩ := hu2.tup_inv
  have hul := hus.length
  have hwl := hws.length
  rw [List.length_map] at hul hwl
  have hxtl := hxt.length
  rw [List.length_map] at hxtl
  walk_at "aw"
  refine w_ixT (SqT.of epm) (at_nat (by decide) rfl) ?_
  walk_at "aw"
  refine w_lenT (SqT.of epu) ?_
  have nlt : lu ≠ tl := ne_of_none elu ntl
  refine kForR_i (n := us.length) (by omega) (fun i σ' H' => ∃ (y8 y9 y10 y11 : Option V) (ts : List V), σ' = [some m1, some (.ref pm), some (.ref pv), some (.ref lu), none, none, some (.ref tl), none, y8, y9, y10, y11, none, none] ∧ Adv [] H H' ∧ Adv [tl] H2 H' ∧ H' tl = some (.lst (xt ++ ts)) ∧ ts.length = i ∧ IsAll H' ((List.zipWith tabD d2 L).take i) ts) ⟨none, none, none, none, [], rfl, a12, .refl _ _, by rw [List.append_nil]; exact etl, rfl, .nil⟩ (fun i σ' H' hi pp => ?_) fun σ' H' pp => ?_
  · obtain ⟨y8, y9, y10, y11, ts, rfl, a0, a, et, htl, hts⟩ := pp
    obtain ⟨z, hz⟩ := get_some (xs := ws) (i := i) (by omega)
    obtain ⟨u, hu⟩ := get_some (xs := us) (i := i) (by omega)
    obtain ⟨de, hde, hdu⟩ := hus.get hu
    obtain ⟨ie, hie, hiz⟩ := hws.get hz
    rw [List.getElem?_map] at hde hie
    obtain ⟨dm, hdm, rfl⟩ := Option.map_eq_some_iff.mp hde
    obtain ⟨it, hit, rfl⟩ := Option.map_eq_some_iff.mp hie
    obtain ⟨za, zx, rfl, eza, hzx⟩ := (hiz.up a.tup).tup_inv
    have M2' := M2.up a.tup
    have NMk : ∀ (σ : L2.St) (H3 : Hp), Adv [] H' H3 → σ[1]? = some (some (.ref pm)) → σ[8]? = some (some (.int (i : Nat))) → EX (.str dm.1) (tOp (rIxT K) (tOp (rIxT K) (tOp (rIxT K) (tVar 1) (tC (.int 0))) (tVar 8)) (tC (.int 0))) σ H3 := fun σ H3 a3 h1 h8 => ex_ix (i := 0) (ex_ix (i := i) (D := uD dm) (ex_ix (i := 0) (ex_var h1 (M2'.up a3.tup)) ex_int rfl) (ex_var h8 (.int _)) (by rw [List.getElem?_map, hdm]; rfl)) ex_int rfl
    cases hzx with
    | cons hz1 t3 =>
    cases t3 with
    | cons hz2 t4 =>
    cases t4
    obtain ⟨hit3, hitn⟩ := hLn it (List.mem_of_getElem? hit)
    have hdm1 := o2.nd dm (List.mem_of_getElem? hdm)
    walk_at "aw"
    refine w_ixT (SqT.of (a.tup _ _ epv)) (at_of (j := i) rfl hz) ?_
    refine w_gtup (SqT.of eza) rfl ?_
    refine w_gcons (w_gname (w_gcons (w_gname (w_gnil ?_))))
    with_reducible refine w_seq ?_
    with_reducible refine w_asg ?_
    refine EX.get (ex_cat (ex_ofL (lx_map (fun e => .str (begA (txtD e))) (ex_var (i := 9) rfl hz1) (by rw [List.length_map, List.length_map]; omega) (fun _ => rfl) fun e he u H5 a5 hu5 => ?_)) (ex_tup (exa_cons (ex_addS (x := "b.") (y := dm.1) ex_str (NMk _ H' (.refl _ _) rfl rfl) (by show 2 + _ ≤ _; omega)) exa_nil)) (by rw [List.length_map, List.length_map, List.length_map]; simp; omega)) fun nv H5 a5 hnv => ?_
    · rw [List.map_map] at he
      obtain ⟨s, hs, rfl⟩ := List.mem_map.mp he
      have := sh o1 _ (hitn s hs)
      exact ex_addS (x := "a.") (y := s.1) ex_str (ex_var (i := 12) rfl hu5) (by show 2 + _ ≤ _; omega)
    with_reducible refine w_gname ?_
    have etH5 := a5.keep _ _ (fun z => nomatch z) et
    refine w_appX (i := 6) rfl etH5 (by rw [List.length_append]; omega) (ex_tup (exa_cons (ex_addS (x := "v.") (y := dm.1) ex_str (NMk _ H5 a5 rfl rfl) (by show 2 + _ ≤ _; omega)) (exa_cons (ex_tup (exa_cons ex_str (exa_cons (ex_var (i := 11) rfl hnv) (exa_cons (ex_var (i := 10) rfl (hz2.up a5.tup)) exa_nil)))) exa_nil))) fun v H6 a6 e6 hv6 => ?_
    have k7 : TK H6 (upd H6 tl (.lst ((xt ++ ts) ++ [v]))) := (Adv.lst e6).tup
    refine ⟨_, _, _, _, ts ++ [v], rfl, (a0.trans (a5.trans a6)).mut (a1.free (fun z => nomatch z) ntl) e6 (fun _ z => by cases z), (a.trans ((a5.trans a6).any)).trans (Adv.lst e6), by rw [upd_same, List.append_assoc], by rw [List.length_append, htl]; rfl, ?_⟩
    rw [List.take_add_one, List.getElem?_zipWith, hdm, hit]
    refine IsAll.append ((hts.up (a5.trans a6).tup).up k7) (.cons ?_ .nil)
    refine (Is.up k7 hv6) |> fun z => ?_
    rw [List.map_map, List.map_map] at z
    unfold tabD
    rw [List.map_map]
    exact z
  · obtain ⟨y8, y9, y10, y11, ts, rfl, a0, a, et, htl, hts⟩ := pp
    rw [List.take_of_length_le (by rw [List.length_zipWith]; omega)] at hts
    have elu' := a.keep _ _ (fun z => nlt (List.mem_singleton.mp z)) elu2
    with_reducible refine w_seq ?_
    with_reducible refine w_asg ?_
    refine LX.get (lx_mapA2 (e1 := fun p : Str × Sy => .str p.1) (e2 := fun p => p.2.D) (i := 4) (j := 7) (fun p : Str × Sy => sfD1 (begB p.1, p.2.ren begB)) (IT "b." 1 d2 i2 s2 (.ref pm) _ H' a0 o2 (by decide) h2 rfl) (by omega) (fun _ => rfl) (fun _ _ => rfl) fun p hp u z H3 a3 hu hz => ?_) fun ls xs H3 nls a3 els hxs => ?_
    · have := (o2.ni p hp).1
      exact ex_tup (exa_cons (ex_addS ex_str (ex_var (i := 4) rfl hu) (by show 2 + _ ≤ _; omega)) (exa_cons (RN "b." d2 i2 s2 _ p _ H3 o2 (by decide) hp (ex_var (i := 7) rfl hz)) (exa_cons ex_int exa_nil)))
    with_reducible refine w_gname ?_
    with_reducible refine w_ret ?_
    refine EX.get (ex_tup (exa_cons (lx_var (i := 3) rfl (a3.keep _ _ (fun z => nomatch z) elu') ((hxu2.up a.tup).up a3.tup)) (exa_cons (lx_var (i := 6) rfl (a3.keep _ _ (fun z => nomatch z) et) (IsAll.append ((hxt.up a.tup).up a3.tup) (hts.up a3.tup))) (exa_cons (lx_var (i := 13) rfl els hxs) exa_nil)))) fun w H4 a4 hw => ?_
    refine q w H4 (a0.trans (a3.trans a4)) ?_
    unfold vmD
    rw [map_map' (fun p : Str × Sy => (begA p.1, p.2.ren begA)) iD, map_map' (fun p : Str × Sy => (begB p.1, p.2.ren begB)) sfD1]
    exact hw
end AW
/-! sorted(d) of a dict whose keys are tuples of ints -/
namespace AW
open PySem PySem.Spec PyProof.Rows L2 RZ PySem.W
/-- what a key's object stands for -/
def RowIs (H : Hp) (p : Addr × List Int) : Prop := H p.1 = some (.tup (p.2.map V.int)) ∧ p.2 ≠ []
theorem rows_reads {h : Heap} : ∀ {us : List Value} {ns : List Int}, Vals (ns.map V.int) us → ReadsAll h us (ns.map .int) []
  | _, [], r => by
    cases r
    exact .nil
  | _, n :: ns, r => by
    cases r with
    | cons h1 h2 =>
      obtain ⟨t, rfl⟩ := h1
      exact .cons (as := []) (bs := []) (.int n t) (rows_reads h2)
def encR (p : Addr × List Int) : PyData := .tuple (p.2.map .int)
theorem row_reads {P : Program} {w : World} {H : Hp} {h : Heap} (ok : HOk P w H h) {p : Addr × List Int} (r : RowIs H p) : Reads h (.ref p.1) (encR p) [] := by
  obtain ⟨_, its, rv, o, ho, hc, n, hd⟩ := ok _ _ r.1
  exact .tuple ho hc hd (rows_reads rv)
theorem each_refs {R : Value → (Addr × List Int) → Prop} : ∀ {bs : List (Addr × List Int)}, (∀ b ∈ bs, R (.ref b.1) b) → EachIs R (bs.map fun b => Value.ref b.1) bs
  | [], _ => .nil
  | b :: bs, h => .cons (h b (List.mem_cons_self ..)) (each_refs fun x hx => h x (List.mem_cons_of_mem _ hx))
theorem refs_each : ∀ {out : List Value} {bs : List (Addr × List Int)}, EachIs (fun v b => v = Value.ref b.1) out bs → out = (bs.map (·.1)).map Value.ref
  | _, _, .nil => rfl
  | _, _, .cons h t => by rw [h, refs_each t]; rfl
theorem rowsKey : ∀ {kvs : List (List L2.Key × V)} {bs : List Addr} {H : Hp}, IsKeys H kvs bs → (∀ p ∈ kvs, ∃ ns : List Int, ns ≠ [] ∧ p.1 = ns.map Sum.inl) → ∃ ps : List (Addr × List Int), ps.map (·.1) = bs ∧ (∀ p ∈ ps, RowIs H p) ∧ kvs.map (·.1) = ps.map fun p => p.2.map Sum.inl
  | _, _, H, .nil, _ => ⟨[], rfl, fun p h => (List.not_mem_nil h).elim, rfl⟩
  | kv :: kvs, b :: bs, H, .cons h t, g => by
    obtain ⟨ps, h1, h2, h3⟩ := rowsKey t fun p hp => g p (List.mem_cons_of_mem _ hp)
    obtain ⟨ns, n0, e⟩ := g kv (List.mem_cons_self ..)
    refine ⟨(b, ns) :: ps, by rw [← h1]; rfl, fun p hp => ?_, by rw [List.map_cons, List.map_cons, h3, e]⟩
    rcases List.mem_cons.mp hp with z | z
    · rw [z]
      refine ⟨?_, n0⟩
      have h' : H b = some (.tup (kv.1.map kV)) := h
      rw [e, List.map_map] at h'
      exact h'
    · exact h2 p z
def rSortDT : List V → Hp → VK → Prop := fun xs H Q => ∃ (d : Addr) (kvs : List (List L2.Key × V)), xs = [V.ref d] ∧ Rd H d (.dT kvs) ∧ (∀ p ∈ kvs, ∃ ns : List Int, ns ≠ [] ∧ p.1 = ns.map Sum.inl) ∧ kvs.length ≤ 100000 ∧
  ∀ (p : Addr) (ps : List (Addr × List Int)), H p = none → (∀ q ∈ ps, RowIs H q) → (ps.map fun q => q.2.map Sum.inl).Perm (kvs.map (·.1)) → Q (.ref p) (upd H p (.lst (ps.map fun q => V.ref q.1)))
theorem call_sortedDT {X : Cx} (hc : X.calm = true) (hu : X.A.units + 64 < cLine) : CallR X (.builtin "sorted") rSortDT := by
  intro pins s σ H xs us Q I r h
  obtain ⟨d, kvs, rfl, hd, hkey, hlen, q⟩ := h
  obtain ⟨u, rfl, rx⟩ := r.one
  cases rx
  obtain ⟨z, hs, ks, pr, o, es, ep, ho, hx, hdt, he, hn⟩ := (show ObjOk X.prog X.w H s.heap d (.dT kvs) from hd.ok I.hok)
  have l1 : es.size = ks.length := size_of_entries he
  have l2 : kvs.length = ks.length := Paired.length pr
  have h16 : es.size ≤ sizeLine := by rw [l1, ← l2, sizeLine_eq]; omega
  obtain ⟨ps, e1, e2, e3⟩ := rowsKey (isKeys_of pr) hkey
  refine Calls.call_function_entry PyProof.Rows.kind_sorted PyProof.Rows.plain_sorted PyProof.Rows.entry_sorted (PyProof.Rows.args_sorted1 _) ?_
  unfold Builtin.«sorted»
  refine wpAny_bind (m := checkCount "sorted" 1 1 _) (wpAny_pure ?_)
  refine wpAny_bind (PySem.W.kdu_collect (A := X.A.in1) (kdl_raw hs hx hdt) (I.ok.hd hc) ho h16 fun h' tk acc' hk it => ?_)
  have ea : acc'.toList = ks.map fun x => Value.ref x.2.1 := by
    have hl : acc'.toList.length = ks.length := by rw [Array.length_toList, it.1]; exact l1
    apply List.ext_getElem?
    intro j
    rw [List.getElem?_map]
    cases hj : acc'.toList[j]? with
    | none =>
      have h1 := List.getElem?_eq_none_iff.mp hj
      rw [List.getElem?_eq_none (by omega)]
      all_goals rfl
    | some v =>
      obtain ⟨en, hen, hv⟩ := it.2 j v (by rw [← Array.getElem?_toList]; exact hj)
      have qe := entry_at he j
      rw [hen] at qe
      cases hb : ks[j]? with
      | none =>
        rw [hb] at qe
        exact nomatch (show some en = none from qe)
      | some b =>
        rw [hb] at qe
        have e2 : en = entryOfKey (tupleKind (mixKind X.prog X.w)) b := Option.some.inj qe
        rw [hv, e2]
        all_goals rfl
  have eb : acc'.toList = ps.map fun b => Value.ref b.1 := by
    rw [ea]
    have : ks.map (fun x => Value.ref x.2.1) = (ks.map fun x => x.2.1).map Value.ref := by rw [List.map_map]; rfl
    rw [this, ← e1, List.map_map]
    rfl
  have hal : acc'.toList.length = ps.length := by rw [eb, List.length_map]
  have hpl : ps.length = kvs.length := by
    have := congrArg List.length e3
    rw [List.length_map, List.length_map] at this
    omega
  have hz : ps.length ≤ sizeLine := by rw [sizeLine_eq]; omega
  have I1 : Inv X pins σ H { s with heap := h', toks := tk } := I.kept hk
  refine wpAny_bind (wpAny_newList ?_ (by rw [hal]; exact hz))
  have hoL : (h'.push (seqObj "list" acc'.toList.toArray 0)).get? h'.objs.size = some (seqObj "list" acc'.toList.toArray 0) := Heap.get?_push_size _ rfl
  show wpAny _ _ _ _ _ { s with heap := h'.push (seqObj "list" acc'.toList.toArray 0), toks := tk }
  have hrd : ∀ b ∈ ps, Reads (h'.push (seqObj "list" acc'.toList.toArray 0)) (.ref b.1) (encR b) [] := fun b hb => PyProof.Rows.Reads.keeps (fun _ _ e => Heap.get?_push_of_some _ e) (row_reads I1.hok (e2 b hb))
  have eo : EachIs (fun v (b : Addr × List Int) => v = Value.ref b.1) acc'.toList ps := by rw [eb]; exact each_refs fun _ _ => rfl
  have er : EachIs (fun v (b : Addr × List Int) => ∃ as, Reads (h'.push (seqObj "list" acc'.toList.toArray 0)) v (encR b) as ∧ h'.objs.size ∉ as) acc'.toList ps := by
    have q := each_refs (R := fun v (b : Addr × List Int) => ∃ as, Reads (h'.push (seqObj "list" acc'.toList.toArray 0)) v (encR b) as ∧ h'.objs.size ∉ as) (bs := ps) fun b hb => ⟨[], hrd b hb, List.not_mem_nil⟩
    rw [← eb] at q
    exact q
  refine wpAny_bind (wpAny_holding (list_sort_data (s := { s with heap := h'.push (seqObj "list" acc'.toList.toArray 0), toks := tk }) (enc := encR) hoL eo er (AllAlike.of fun b b' => ?_) (.inl fun d hd => ?_) hz (fun b _ => ?_) fun out hol hout => ?_))
  · show alike (.tuple (b.2.map .int)) (.tuple (b'.2.map .int)) = true
    rw [alike]
    exact alike_ints _ _
  · obtain ⟨b, hb, rfl⟩ := List.mem_map.mp hd
    cases hb2 : b.2 with
    | nil => exact absurd hb2 (e2 b hb).2
    | cons x r => exact ⟨.int x, r.map .int, by unfold encR; rw [hb2]; rfl⟩
  · show X.A.units + 1 + 1 + (PyData.tuple (b.2.map .int)).depth < cLine
    rw [PyData.depth, depth_ints]
    omega
  · have eout := refs_each hout
    have hperm := List.mergeSort_perm ps (dataLe false encR)
    generalize ps.mergeSort (dataLe false encR) = qs at eout hperm hout
    obtain ⟨e', he'⟩ := PyProof.Rows.sortedHeap_at (vs := acc'.toList) (out := out.toArray) hoL
    have hlen' : (qs.map fun q => V.ref q.1).length ≤ sizeLine := by rw [List.length_map, hperm.length_eq]; exact hz
    have rv : Vals (qs.map fun q => V.ref q.1) out := by
      rw [eout, show (qs.map fun q => V.ref q.1) = (qs.map (·.1)).map V.ref by rw [List.map_map]; rfl]
      exact vals_refs _
    refine wpAny_pure ⟨_, rfl, .ref h'.objs.size, upd H h'.objs.size (.lst (qs.map fun q => V.ref q.1)), I1.laid (t' := tk) (fun b u e => ?_) (Nat.le_refl _)
      (show ObjOk X.prog X.w _ _ _ (.lst (qs.map fun q => V.ref q.1)) from ⟨hlen', out, e', rv, he'⟩), rfl, q _ qs (I1.hok.fresh (Nat.le_refl _)) (fun p hp => e2 p (hperm.mem_iff.mp hp)) ?_⟩
    · have hb : b < h'.objs.size := Heap.lt_size e
      rw [PyProof.Rows.sortedHeap_old (Nat.ne_of_lt hb) (by rw [size_push']; exact Nat.lt_succ_of_lt hb)]
      exact Heap.get?_push_of_some _ e
    · rw [e3]
      exact hperm.map _
end AW
namespace AW
open PySem PySem.Spec PyProof.Rows L2 RZ
open StX
local macro_rules | `(tactic| walk_at "aw1") => `(tactic| first
  | (with_reducible refine w_seq ?_) | (with_reducible refine w_asg ?_) | (with_reducible refine w_gname ?_) | (with_reducible refine w_op ?_) | (with_reducible refine w_un ?_)
  | ((with_reducible refine' w_var ?h ?_); (case h => rfl)) | (with_reducible refine w_c ?_)
  | (with_reducible refine w_I0 ?_) | (with_reducible refine w_U ?_) | (with_reducible refine w_cb ?_) | (with_reducible refine w_nil ?_) | (with_reducible refine w_cons ?_) | (with_reducible refine w_call ?_)
  | (with_reducible refine w_test ?_) | (with_reducible refine w_B ?_) | (with_reducible refine w_bl ?_) | (with_reducible refine w_not ?_) | (with_reducible refine w_yes ?_) | (with_reducible refine iteT ?_) | (with_reducible refine iteF ?_) | (with_reducible refine w_and ?_) | (with_reducible refine w_or ?_)
  | (with_reducible refine w_andV ?_) | (with_reducible refine w_orV ?_) | (with_reducible refine w_notV ?_) | (with_reducible refine w_if ?_)
  | (with_reducible refine w_int1 ?_) | (with_reducible refine w_int1b ?_) | (with_reducible refine w_abs ?_) | (with_reducible refine w_max2 ?_) | (with_reducible refine w_min2 ?_)
  | ((with_reducible refine w_eq ?h ?_); (case h => rfl)) | ((with_reducible refine w_ne ?h ?_); (case h => rfl)) | (with_reducible refine w_isN ?_) | (with_reducible refine w_isB ?_) | (with_reducible refine w_chain ?_)
  | (with_reducible refine w_ret ?_) | (with_reducible refine w_drop ?_) | (with_reducible refine w_ifS ?_) | (with_reducible refine w_gsub ?_) | (with_reducible refine w_augS ?_) | (with_reducible refine w_ipI ?_) | (with_reducible refine w_next ?_)
  | (with_reducible refine w_forR ?_) | (with_reducible refine w_forR2 ?_) | (with_reducible refine w_forL ?_) | (with_reducible refine w_forT ?_) | (with_reducible refine w_lcR ?_) | (with_reducible refine w_lcL ?_) | (with_reducible refine w_lcT ?_) | (with_reducible refine w_sl ?_) | (with_reducible refine w_part ?_) | (with_reducible refine w_noPart ?_) | (with_reducible refine w_in ?_)
  | (with_reducible refine w_gcons ?_) | (with_reducible refine w_gnil ?_) | (with_reducible refine w_lc3 ?_) | (with_reducible refine w_dcZ ?_) | (with_reducible refine w_dcT ?_) | (with_reducible refine w_dg ?_) | (with_reducible refine w_callK ?_) | (with_reducible refine w_dput ?_) | (with_reducible refine w_tup1 ?_)
  | (with_reducible refine w_tup ?_) | (with_reducible refine w_lst ?_)
  | ((with_reducible refine w_I ?h ?_); (case h => first | (exact Or.inr ⟨by decide, by decide⟩) | (exact Or.inl ⟨by decide, by decide⟩) | (show (0 : Int) < _; decide) | (exact ⟨by decide, by decide, by decide⟩) | assumption)))
local macro_rules | `(tactic| walk_at "aw") => `(tactic| repeat (walk_at "aw1"))
theorem w_dnewT {σ : L2.St} {H : Hp} {Q : VK} (q : ∀ r H', H r = none → Adv [] H H' → H' r = some (.dT []) → Q (.ref r) H') : tDNewT σ H Q := w_new q
theorem kDPutT_i {d b : Addr} {kvs : List (List L2.Key × V)} {k : List L2.Key} {v : V} {H : Hp} {N : Hp → Prop} (h : H d = some (.dT kvs)) (hb : H b = some (.tup (k.map kV))) (hl : kvs.length < 100000) (q : N (upd H d (.dT (putK kvs k v)))) : kDPut (.ref d) (.ref b) v H N :=
  ⟨d, _, rfl, DPut.t h hb (Nat.lt_of_lt_of_le hl (by decide)), q⟩
theorem kDGet_t {d b : Addr} {kvs : List (List L2.Key × V)} {k : List L2.Key} {v : V} {H : Hp} {Q : VK} (h : H d = some (.dT kvs)) (hb : H b = some (.tup (k.map kV))) (e : valV kvs k = some v) (q : Q v H) : kDGet (.ref d) (.ref b) H Q := ⟨d, v, rfl, e ▸ DGet.t h hb, q⟩
/-- the keys of a dict of rows -/
def Rows (kvs : List (List L2.Key × V)) : Prop := ∀ p ∈ kvs, ∃ ns : List Int, ns ≠ [] ∧ p.1 = ns.map Sum.inl
theorem Rows.put {kvs : List (List L2.Key × V)} (h : Rows kvs) {ns : List Int} (hn : ns ≠ []) {v : V} : Rows (putK kvs (ns.map Sum.inl) v) := by
  unfold putK
  split
  · intro p hp
    obtain ⟨p0, h1, rfl⟩ := List.mem_map.mp hp
    obtain ⟨ms, h2, h3⟩ := h p0 h1
    refine ⟨ms, h2, ?_⟩
    split <;> exact h3
  · intro p hp
    rcases List.mem_append.mp hp with h1 | h1
    · exact h p h1
    · rw [List.mem_singleton.mp h1]
      exact ⟨ns, hn, rfl⟩
theorem rows_isall {H : Hp} : ∀ {ps : List (Addr × List Int)}, (∀ p ∈ ps, RowIs H p) → IsAll H ((ps.map (·.2)).map rowD) (ps.map fun q => V.ref q.1)
  | [], _ => .nil
  | p :: ps, h => .cons (.tup (h p (List.mem_cons_self ..)).1 (IsAll.ints _)) (rows_isall fun q hq => h q (List.mem_cons_of_mem _ hq))
theorem ints_of : ∀ {ys : List V}, (∀ (i : Nat) v, ys[i]? = some v → ∃ n : Int, v = .int n) → ∃ ps : List Int, ys = ps.map V.int
  | [], _ => ⟨[], rfl⟩
  | y :: ys, h => by
    obtain ⟨n, rfl⟩ := h 0 y rfl
    obtain ⟨ps, rfl⟩ := ints_of (ys := ys) fun i v e => h (i + 1) v (by simpa using e)
    exact ⟨n :: ps, rfl⟩
theorem keyInts (ns : List Int) : (ns.map Sum.inl : List L2.Key).map kV = ns.map V.int := by
  rw [List.map_map]
  rfl
/-- every stand and value leads to a stand -/
def Mvs (kvs : List (List L2.Key × V)) : Prop := ∀ p ∈ kvs, ∃ a b c : Int, p = ([Sum.inl a, Sum.inl b], .int c)
theorem Mvs.put {kvs : List (List L2.Key × V)} (h : Mvs kvs) {a b c : Int} : Mvs (putK kvs [Sum.inl a, Sum.inl b] (.int c)) := by
  unfold putK
  split
  · intro p hp
    obtain ⟨p0, h1, rfl⟩ := List.mem_map.mp hp
    obtain ⟨a', b', c', rfl⟩ := h p0 h1
    dsimp only
    split
    · exact ⟨a', b', c, rfl⟩
    · exact ⟨a', b', c', rfl⟩
  · intro p hp
    rcases List.mem_append.mp hp with h1 | h1
    · exact h p h1
    · rw [List.mem_singleton.mp h1]
      exact ⟨a, b, c, rfl⟩
theorem w_seqJ {t u : TS} {D : Ends} {σ : L2.St} {H : Hp} (P : L2.St → Hp → Prop) (h : ∀ N : L2.St → Hp → Prop, (∀ σ' H', P σ' H' → N σ' H') → t { D with nx := N } σ H) (q : ∀ σ' H', P σ' H' → u D σ' H') : tSeq t u D σ H := h (u D) q
/-- some unknowns, in a tuple or a list -/
def UnkS (st : Addr) (cs : Addr × Addr) (H : Hp) (v : V) (doms : List (Str × List Int)) : Prop := ∃ p us, v = .ref p ∧ (H p = some (.tup us) ∨ (H p = some (.lst us) ∧ Off p st cs)) ∧ Paired (fun u d => UnkP H u d) us doms
theorem UnkS.go {st : Addr} {cs : Addr × Addr} {H H' : Hp} {v : V} {doms : List (Str × List Int)} (h : UnkS st cs H v doms) (g : Go st cs H H') : UnkS st cs H' v doms := by
  obtain ⟨p, us, rfl, e, r⟩ := h
  refine ⟨p, us, rfl, ?_, L2.Paired.mapP r fun _ _ z => z.up g.tk⟩
  rcases e with e | ⟨e, o⟩
  · exact .inl (g.tk _ _ e)
  · exact .inr ⟨g.keep o e, o⟩
/-- names within nms, domains right -/
structure UOk (nms : List Str) (doms : List (Str × List Int)) : Prop where
  l1 : 1 ≤ doms.length
  l2 : doms.length ≤ 24
  nm : ∀ d ∈ doms, d.1 ∈ nms
  dm : ∀ d ∈ doms, DomOk 12 d.2
theorem UOk.sub {nms : List Str} {doms ds : List (Str × List Int)} (h : UOk nms doms) (s : ∀ d ∈ ds, d ∈ doms) (l1 : 1 ≤ ds.length) (l2 : ds.length ≤ 24) : UOk nms ds := ⟨l1, l2, fun d hd => h.nm d (s d hd), fun d hd => h.dm d (s d hd)⟩
theorem w_someU {K : PySem.W.Frag} {st : Addr} {cs : Addr × Addr} {H : Hp} {v : V} {doms : List (Str × List Int)} {a b : Nat} {Q : VK} {E : XK} (u : UnkS st cs H v doms) (ok : StOk st cs H) (hab : a ≤ b) (ha : a ≤ doms.length) (hb : b ≤ 1000) (hd : doms.length ≤ 1000)
    (q : ∀ l made ds H', Go st cs H H' → H l = none → H' l = some (.lst made) → Paired (fun u d => UnkP H' u d) made ds → (∀ d ∈ ds, d ∈ doms) → a ≤ ds.length → ds.length ≤ b → UnkS st cs H' (.ref l) ds → Q (.ref l) H') : sp__law_some K [.ref st, v, .int (a : Nat), .int (b : Nat)] H Q E := by
  obtain ⟨p, us, rfl, e, r⟩ := u
  have hl := r.length
  refine ⟨st, p, a, b, rfl, cs, us, ok, e.elim (fun e => .inr (SqT.of e)) (fun e => .inl (SqL.of e.1)), hab, by omega, hb, by omega, fun l made left H' g nl el hp h1 h2 => ?_⟩
  obtain ⟨ms, hm, hpm⟩ := paired_perm hp r
  obtain ⟨h3, _⟩ := paired_split hpm
  have hl3 := h3.length
  have h4 : Paired (fun u d => UnkP H' u d) made (ms.take made.length) := L2.Paired.mapP h3 fun _ _ z => z.up g.tk
  exact q l made (ms.take made.length) H' g nl el h4 (fun d hd => hm.subset (List.mem_of_mem_take hd)) (by omega) (by omega) ⟨l, made, rfl, .inr ⟨el, (ok.ne nl).1⟩, h4⟩
/-- [one[0] for one in some] -/
theorem w_nms {K : PySem.W.Frag} {σ : L2.St} {H : Hp} {Q : VK} {j : Nat} {p : Addr} {us : List V} {doms : List (Str × List Int)} (e : H p = some (.lst us)) (r : Paired (fun u d => UnkP H u d) us doms) (hl : doms.length ≤ 1000) (hw : ∀ v, wipe ((wipe σ [j]).set j (some v)) [j] = wipe σ [j]) (hj : ∀ v, ((wipe σ [j]).set j (some v))[j]? = some (some v))
    (q : ∀ l H', H l = none → Adv [] H H' → H' l = some (.lst ((doms.map (·.1)).map V.str)) → Q (.ref l) H') : kLcL K (gName j) tYes (tOp (rIxT K) (tVar j) (tC (.int 0))) [j] σ Q (.ref p) H := by
  have hrl := r.length
  refine ⟨p, rfl, ⟨_, SqL.of e⟩, kLc_pure (walk_list (xs := us)) (by omega) (fun H' a => SqL.of (a.keep _ _ (fun z => nomatch z) e)) (fun _ => true) (fun k => .str ((doms.map (·.1)).getD k Str.empty)) (fun k u H6 H7 Kt Kf hk a6 yy kt kf => ?_) fun nl2 H6 nnl2 a6 enl2 => ?_⟩
  · obtain ⟨rfl, hu⟩ := yy
    obtain ⟨s, hs⟩ := get_some (xs := doms) (i := k) (by omega)
    obtain ⟨pp, qq, rfl, epp, eqq⟩ := paired_at r hu hs
    rw [getD_of (show (doms.map (·.1))[k]? = .some s.1 by rw [List.getElem?_map, hs]; rfl)] at kt
    refine ⟨hw _, ?_⟩
    refine w_yes (iteT ?_)
    refine ⟨_, hj _, ?_⟩
    refine w_ixT (SqT.of (a6.tup _ _ epp)) (at_nat (by decide) rfl) ?_
    exact kt rfl _ (.refl _ _)
  · refine q nl2 H6 nnl2 a6 ?_
    rw [enl2, filter_true, hrl]
    congr 2
    conv => rhs; rw [← range_getD (doms.map (·.1)) Str.empty]
    rw [List.length_map, List.map_map]
    rfl
def sp__law_claim (_ : PySem.W.Frag) (m : Nat) : Sp := fun vs H Q _ => ∃ (st : Addr) (v : V) (n : Nat), vs = [.ref st, v, .int (n : Nat)] ∧ ∃ cs doms nms, StOk st cs H ∧ UnkS st cs H v doms ∧ UOk nms doms ∧ n < m ∧ ∀ w D H', Go st cs H H' → Is H' D w → ClO nms (n + 1) D → Q w H'
def sp__law_values (_ : PySem.W.Frag) : Sp := fun vs H Q _ => ∃ (l : Addr), vs = [.ref l] ∧ ∃ us ds nms, H l = some (.lst us) ∧ Paired (fun u d => UnkP H u d) us ds ∧ UOk nms ds ∧ ds.length ≤ 5 ∧ ∀ p (zs : List Int) H', Adv [] H H' → H p = none → H' p = some (.lst (zs.map V.int)) → 1 ≤ zs.length → zs.length ≤ 60 → Q (.ref p) H'
def sp__law_rows_of (_ : PySem.W.Frag) : Sp := fun vs H Q _ => ∃ (st l : Addr) (n : Int), vs = [.ref st, .ref l, .int n] ∧ ∃ cs us ds nms, StOk st cs H ∧ H l = some (.lst us) ∧ Off l st cs ∧ Paired (fun u d => UnkP H u d) us ds ∧ UOk nms ds ∧ 1 ≤ n ∧ n ≤ 10 ∧ ∀ w (rows : List (List Int)) H', Go st cs H H' → Is H' (.tuple (rows.map rowD)) w → rows.length ≤ 20 → (∀ r ∈ rows, r.length = ds.length) → Q w H'
theorem ClO.le {nms : List Str} {m : Nat} {d : PyData} (h : ClO nms m d) : ∀ {n : Nat}, m ≤ n → ClO nms n d := by
  induction h with
  | one b hx =>
    intro n hn
    cases n with
    | zero => omega
    | succ n => exact .one b hx
  | neg h ih =>
    intro n hn
    cases n with
    | zero => omega
    | succ n => exact .neg (ih (by omega))
  | many b ds hl h ih =>
    intro n hn
    cases n with
    | zero => omega
    | succ n => exact .many b ds hl fun d hd => ih d hd (by omega)
theorem ix_last {xs : List V} {v : V} (h : xs.getLast? = some v) : atI xs (-1) = some v := by
  have h0 : xs ≠ [] := fun z => by rw [z] at h; simp at h
  have hl := List.length_pos_iff.mpr h0
  unfold atI ixN
  rw [if_neg (by decide), if_pos (by omega), Option.bind_some, show (-1 + ((xs.length : Nat) : Int)).toNat = xs.length - 1 by omega, ← h, List.getLast?_eq_getElem?]
theorem ix_lastI {xs : List Int} (h : 1 ≤ xs.length) : atI (xs.map V.int) (-1) = some (.int (xs.getLastD 0)) := by
  have hne : xs ≠ [] := fun z => by rw [z] at h; simp at h
  refine ix_last ?_
  rw [List.getLast?_map, List.getLast?_eq_some_getLast hne, List.getLastD_eq_getLast?, List.getLast?_eq_some_getLast hne]
  rfl
theorem ix_firstI {xs : List Int} (h : 1 ≤ xs.length) : atI (xs.map V.int) 0 = some (.int (xs.getD 0 0)) := by
  match xs, h with
  | x :: xs, _ => exact at_nat (by decide) rfl
theorem keys_put {kvs : List (Key × V)} (h : ∀ p ∈ kvs, ∃ n : Int, p.1 = .inl n) {n : Int} {v : V} : ∀ p ∈ putK kvs (.inl n) v, ∃ n : Int, p.1 = .inl n := by
  unfold putK
  split
  · intro p hp
    obtain ⟨p0, h1, rfl⟩ := List.mem_map.mp hp
    obtain ⟨m, h2⟩ := h p0 h1
    split
    · exact ⟨n, by simpa using ‹_›⟩
    · exact ⟨m, h2⟩
  · intro p hp
    rcases List.mem_append.mp hp with h1 | h1
    · exact h p h1
    · rw [List.mem_singleton.mp h1]
      exact ⟨n, rfl⟩
theorem put_pos {κ : Type} [DecidableEq κ] {kvs : List (κ × V)} {k : κ} {v : V} : 0 < (putK kvs k v).length := by
  have h : valV (putK kvs k v) k = some v := by rw [valV_put, if_pos rfl]
  cases e : putK kvs k v with
  | nil =>
    rw [e] at h
    cases h
  | cons a l => simp
theorem keys_ints {kvs : List (Key × V)} (h : ∀ p ∈ kvs, ∃ n : Int, p.1 = .inl n) : ∃ ks : List Int, kvs.map (·.1) = ks.map Sum.inl := by
  induction kvs with
  | nil => exact ⟨[], rfl⟩
  | cons p kvs ih =>
    obtain ⟨ks, e⟩ := ih fun q hq => h q (List.mem_cons_of_mem _ hq)
    obtain ⟨n, e2⟩ := h p (List.mem_cons_self ..)
    exact ⟨n :: ks, by rw [List.map_cons, List.map_cons, e, e2]⟩
def t__law_claim (K : PySem.W.Frag) (m : Nat) : TS := (tSeq (tAsg (tOp (rIxA K) (tVar 1) (tCall (sp__law_draw K) [] E0 (tCons (tVar 0) (tCons (tCB (rLen1 K) (tCons (tVar 1) tNil)) tNil)))) (gTup K 2 (gCons (gName 3) (gCons (gName 4) gNil))))
  (tSeq (tAsg (tCall (sp__law_draw K) [] E0 (tCons (tVar 0) (tCons (tIf (tTest (tOp rGtI (tVar 2) (tC (.int 0)))) (tC (.int 6)) (tC (.int 2))) tNil))) (gName 5))
  (tSeq (tIfS (tTest (tOp rLtI (tVar 5) (tC (.int 2)))) (tSeq (tAsg (tOp (rIxT K) (tOp (rCatA K) (tVar 4) (tTup (tCons (tOp rSubI (tOp (rIxT K) (tVar 4) (tC (.int 0))) (tC (.int 1))) (tCons (tOp rAddI (tOp (rIxT K) (tVar 4) (tUn rNeg (tC (.int 1)))) (tC (.int 1))) tNil)))) (tCall (sp__law_draw K) [] E0 (tCons (tVar 0) (tCons (tOp rAddI (tCB (rLen1 K) (tCons (tVar 4) tNil)) (tC (.int 2))) tNil)))) (gName 6))
  (tRet (tTup (tCons (tOp (rIxL K) (tLst (tCons (tC (.str "from")) (tCons (tC (.str "is")) tNil))) (tVar 5)) (tCons (tVar 3) (tCons (tCB rMax2 (tCons (tUn rNeg (tC (.int 200))) (tCons (tCB rMin2 (tCons (tC (.int 200)) (tCons (tVar 6) tNil))) tNil))) tNil)))))) tNext)
  (tSeq (tIfS (tTest (tOp rEq (tVar 5) (tC (.int 2)))) (tRet (tTup (tCons (tC (.str "not")) (tCons (tCall (sp__law_claim K m) [] E0 (tCons (tVar 0) (tCons (tVar 1) (tCons (tOp rSubI (tVar 2) (tC (.int 1))) tNil)))) tNil)))) tNext)
  (tSeq (tAsg (tLc (iRng1 (tCons (tOp rAddI (tC (.int 1)) (tCall (sp__law_draw K) [] E0 (tCons (tVar 0) (tCons (tC (.int 2)) tNil)))) tNil)) (gName 8) tYes (tCall (sp__law_claim K m) [] E0 (tCons (tVar 0) (tCons (tVar 1) (tCons (tOp rSubI (tVar 2) (tC (.int 1))) tNil)))) [8]) (gName 7))
  (tSeq (tIfS (tTest (tOp rEq (tCall (sp__law_draw K) [] E0 (tCons (tVar 0) (tCons (tC (.int 6)) tNil))) (tC (.int 0)))) (tDrop (tBM K "list" rAppend (tVar 7) (tCons (tTup (tCons (tOp (rIxL K) (tLst (tCons (tC (.str "and")) (tCons (tC (.str "or")) tNil))) (tCall (sp__law_draw K) [] E0 (tCons (tVar 0) (tCons (tC (.int 2)) tNil)))) (tCons (tTup tNil) tNil))) tNil))) tNext)
  (tRet (tTup (tCons (tOp (rIxL K) (tLst (tCons (tC (.str "and")) (tCons (tC (.str "or")) tNil))) (tCall (sp__law_draw K) [] E0 (tCons (tVar 0) (tCons (tC (.int 2)) tNil)))) (tCons (tThen (tVar 7) (kTup K)) tNil))))))))))
def t__law_values (K : PySem.W.Frag) : TS := (tSeq (tAsg tDNewK (gName 1))
  (tSeq (tFor (iList K (tVar 0)) (gName 2)
  (tFor (iTup K (tOp (rIxT K) (tVar 2) (tC (.int 1)))) (gName 3)
  (sDPut (tVar 1) (tVar 3) (tC (.int 0)))))
  (tRet (tCB rSortDI (tCons (tVar 1) tNil)))))
def t__law_rows_of (K : PySem.W.Frag) : TS := (tSeq (tAsg tDNewT (gName 3))
  (tSeq (tFor (iRng1 (tCons (tOp rAddI (tC (.int 1)) (tCall (sp__law_draw K) [] E0 (tCons (tVar 0) (tCons (tVar 2) tNil)))) tNil)) (gName 4)
  (sDPut (tVar 3) (tThen (tLc (iList K (tVar 1)) (gName 5) tYes (tOp (rIxT K) (tOp (rIxT K) (tVar 5) (tC (.int 1))) (tCall (sp__law_draw K) [] E0 (tCons (tVar 0) (tCons (tCB (rLen1 K) (tCons (tOp (rIxT K) (tVar 5) (tC (.int 1))) tNil)) tNil)))) [5]) (kTup K)) (tC (.bl true))))
  (tSeq (tIfS (tTest (tOp rEq (tCall (sp__law_draw K) [] E0 (tCons (tVar 0) (tCons (tC (.int 5)) tNil))) (tC (.int 0)))) (sDPut (tVar 3) (tThen (tLc (iList K (tVar 1)) (gName 5) tYes (tCB rMin2 (tCons (tC (.int 200)) (tCons (tOp rAddI (tOp (rIxT K) (tOp (rIxT K) (tVar 5) (tC (.int 1))) (tUn rNeg (tC (.int 1)))) (tC (.int 1))) tNil))) [5]) (kTup K)) (tC (.bl true))) tNext)
  (tRet (tThen (tCB rSortDT (tCons (tVar 3) tNil)) (kTup K))))))
theorem len__law_claim {K : PySem.W.Frag} {m : Nat} : ∀ (vs : List V) (H : Hp) (Q : VK) (E : XK), sp__law_claim K m vs H Q E → vs.length = 3 := fun vs H Q E h => by
  obtain ⟨_, _, _, rfl, _⟩ := h
  rfl
theorem no__law_claim {K : PySem.W.Frag} {vs : List V} {H : Hp} {Q : VK} {E : XK} (h : sp__law_claim K 0 vs H Q E) : False := by
  obtain ⟨_, _, _, _, _, _, _, _, _, _, h, _⟩ := h
  exact absurd h (Nat.not_lt_zero _)
theorem pure__law_claim {K : PySem.W.Frag} {m : Nat} (vs : List V) (H : Hp) (Q : VK) (E : XK) (h : sp__law_claim K (m + 1) vs H Q E) : t__law_claim K m { nx := fun _ H' => Q .non H', rt := Q } (start ["tape", "unknowns", "deep", "name", "domain", "way", "value", "parts", "k"] vs) H := by
  obtain ⟨st, v, n, rfl, cs, doms, nms, ok, hu, uo, hn, q⟩ := h
  obtain ⟨p, us, rfl, ep, hr⟩ := id hu
  have hrl := hr.length
  have l1 := uo.l1
  have l2 := uo.l2
  show t__law_claim K m _ [some (.ref st), some (.ref p), some (.int (n : Nat)), none, none, none, none, none, none] H
  unfold t__law_claim
  walk_at "aw"
  refine ⟨.ref p, us.length, rfl, ?_, ?_⟩
  · rcases ep with e | e
    · exact .inr ⟨us, SqT.of e, rfl⟩
    · exact .inl ⟨us, SqL.of e.1, rfl⟩
  walk_at "aw"
  refine w_draw ok (by omega) (by omega) fun z H1 z0 z1 g1 => ?_
  have hz : z.toNat < us.length := by omega
  have ep1 : H1 p = some (.tup us) ∨ (H1 p = some (.lst us) ∧ Off p st cs) := by
    rcases ep with e | e
    · exact .inl (g1.tk _ _ e)
    · exact .inr ⟨g1.keep e.2 e.1, e.2⟩
  obtain ⟨d, hd⟩ := get_some (xs := doms) (i := z.toNat) (by omega)
  obtain ⟨pp, qq, he, epp, eqq⟩ := (paired_at hr (List.getElem?_eq_getElem hz) hd).up g1.tk
  have hdo := uo.dm d (List.mem_of_getElem? hd)
  have hdn := uo.nm d (List.mem_of_getElem? hd)
  have d1 := hdo.l1
  have d2 := hdo.l2
  have pick : ∀ Q : VK, Q (.ref pp) H1 → rIxA K (.ref p) (.int z) H1 Q := fun Q q => by
    have e0 : us[z.toNat]? = some (.ref pp) := by rw [List.getElem?_eq_getElem hz, he]
    rcases ep1 with e | e
    · exact .inr (w_ixT (SqT.of e) (at_nat z0 e0) q)
    · exact .inl (w_ixL (SqL.of e.1) (at_nat z0 e0) q)
  refine pick _ ?_
  refine w_gtup (SqT.of epp) rfl ?_
  refine w_gcons (w_gname (w_gcons (w_gname (w_gnil ?_))))
  have andor : ∀ (σ : L2.St) (H' : Hp) (Q : VK), Go st cs H H' → σ[0]? = some (some (.ref st)) → (∀ b H'', Go st cs H' H'' → Q (.str (manyW b)) H'') → tOp (rIxL K) (tLst (tCons (tC (.str "and")) (tCons (tC (.str "or")) tNil))) (tCall (sp__law_draw K) [] E0 (tCons (tVar 0) (tCons (tC (.int 2)) tNil))) σ H' Q := fun σ H' Q g h0 q => by
    refine w_op ?_
    refine w_lst (w_cons (w_c (w_cons (w_c (w_nil ?_)))))
    refine w_ofL (xs := [.str "and", .str "or"]) g.ok h0 rfl (by simp) (by simp) fun u hu H2 g2 => ?_
    simp only [List.mem_cons, List.not_mem_nil, or_false] at hu
    rcases hu with rfl | rfl
    · exact q true H2 g2
    · exact q false H2 g2
  with_reducible refine w_seqJ (fun σ' H' => ∃ w : Int, 0 ≤ w ∧ w < 6 ∧ (n = 0 → w < 2) ∧ σ' = [some (.ref st), some (.ref p), some (.int (n : Nat)), some (.str d.1), some (.ref qq), some (.int w), none, none, none] ∧ Go st cs H1 H') (fun N hN => ?_) fun σ' H2 pp => ?_
  · walk_at "aw"
    refine w_iteB (fun hb => ?_) fun hb => ?_
    · walk_at "aw"
      exact w_draw g1.ok (by decide) (by decide) fun w H2 w0 w1 g => hN _ _ ⟨w, w0, w1, fun z => by omega, rfl, g⟩
    · walk_at "aw"
      exact w_draw g1.ok (by decide) (by decide) fun w H2 w0 w1 g => hN _ _ ⟨w, w0, by omega, fun _ => w1, rfl, g⟩
  obtain ⟨w, w0, w1, wn, rfl, g2⟩ := pp
  have g02 := g1.trans g2
  have hu2 := hu.go g02
  have eqq2 := g2.tk _ _ eqq
  with_reducible refine w_seq ?_
  have W5 : ∀ (c : Int) (t1 t2 : TS) (E : Ends) (σ : L2.St) (H' : Hp), σ[5]? = some (some (.int w)) → (w < c → t1 E σ H') → (¬ w < c → t2 E σ H') → tIfS (tTest (tOp rLtI (tVar 5) (tC (.int c)))) t1 t2 E σ H' := fun c t1 t2 E σ H' h q1 q2 => by
    refine ⟨_, h, w, c, rfl, rfl, _, rfl, ?_⟩
    by_cases hb : w < c
    · exact iteT'' (decide_eq_true hb) (q1 hb)
    · exact iteF'' (decide_eq_false hb) (q2 hb)
  refine W5 2 _ _ _ _ _ rfl (fun h2 => ?_) fun h2 => ?_
  · walk_at "aw"
    refine w_ixT (SqT.of eqq2) (ix_firstI d1) ?_
    walk_at "aw"
    refine w_ixT (SqT.of eqq2) (ix_lastI d1) ?_
    walk_at "aw"
    refine w_tupW (by simp) fun t3 H3 a3 et3 => ?_
    refine w_catT' (a3.tup _ _ eqq2) et3 (by rw [List.length_map]; simp; omega) fun t4 H4 a4 et4 => ?_
    rw [show [V.int (d.2.getD 0 0 - 1), V.int (d.2.getLastD 0 + 1)] = [d.2.getD 0 0 - 1, d.2.getLastD 0 + 1].map V.int from rfl, ← List.map_append] at et4
    walk_at "aw"
    refine w_lenT (SqT.of ((a3.trans a4).tup _ _ eqq2)) ?_
    rw [List.length_map]
    walk_at "aw"
    have g4 := (g02.new a3).new a4
    refine w_draw g4.ok (by omega) (by omega) fun k H5 k0 k1 g5 => ?_
    have hk : k.toNat < (d.2 ++ [d.2.getD 0 0 - 1, d.2.getLastD 0 + 1]).length := by rw [List.length_append]; simp; omega
    refine w_ixT (SqT.of (g5.tk _ _ et4)) (v := .int (d.2 ++ [d.2.getD 0 0 - 1, d.2.getLastD 0 + 1])[k.toNat]) (at_nat k0 (by rw [List.getElem?_map, List.getElem?_eq_getElem hk]; rfl)) ?_
    walk_at "aw"
    refine w_lstD (by simp) fun l6 H6 nl6 a6 el6 => ?_
    walk_at "aw"
    obtain ⟨b, hb⟩ : ∃ b, atI [V.str "from", V.str "is"] w = some (.str (atW b)) := by
      have : w = 0 ∨ w = 1 := by omega
      rcases this with rfl | rfl
      · exact ⟨true, rfl⟩
      · exact ⟨false, rfl⟩
    refine w_ixL (SqL.of el6) hb ?_
    walk_at "aw"
    refine w_tupW (by simp) fun t7 H7 a7 et7 => ?_
    exact q _ _ H7 ((g4.trans g5).new (a6.trans a7)) (.tup et7 (.cons (.str _) (.cons (.str _) (.cons (.int _) .nil)))) (.one b hdn)
  have hn0 : 0 < n := by
    rcases Nat.eq_zero_or_pos n with z | z
    · exact absurd (wn z) h2
    · exact z
  obtain ⟨n', rfl⟩ : ∃ n', n = n' + 1 := ⟨n - 1, by omega⟩
  have nm : ((n' + 1 : Nat) : Int) - 1 = (n' : Nat) := by omega
  walk_at "aw"
  refine w_iteB (fun hb => ?_) fun hb => ?_
  · walk_at "aw"
    rw [nm]
    refine ⟨st, .ref p, n', rfl, cs, doms, nms, g2.ok, hu2, uo, by omega, fun v D H3 g3 hv hD => ?_⟩
    walk_at "aw"
    refine w_tupW (by simp) fun t4 H4 a4 et4 => ?_
    exact q _ _ H4 ((g02.trans g3).new a4) (.tup et4 (.cons (.str _) (.cons (hv.up a4.tup) .nil))) (.neg hD)
  walk_at "aw"
  refine w_draw g2.ok (by decide) (by decide) fun c H3 c0 c1 g3 => ?_
  walk_at "aw"
  refine ⟨1 + c, rfl, by omega, by omega, ?_⟩
  have g03 := g02.trans g3
  refine kLc_all walk_range (by omega) g3.ok (fun _ _ => trivial) (fun k u H' => ∃ D, Is H' D u ∧ ClO nms (n' + 1) D) (fun _ _ _ _ kk ⟨D, h1, h2⟩ => ⟨D, h1.up kk, h2⟩) (fun k x H4 H5 Kt hk g4 yy kt => ?_) fun nl H4 ys nnl g4 enl hyl hyr => ?_
  · obtain ⟨rfl, rfl⟩ := yy
    walk_at "aw"
    refine ⟨rfl, ?_⟩
    walk_at "aw"
    rw [nm]
    exact ⟨st, .ref p, n', rfl, cs, doms, nms, g4.ok, hu.go (g03.trans g4), uo, by omega, fun v D H3 g3 hv hD => kt _ _ g3 ⟨D, hv, hD⟩⟩
  have onl := (g3.ok.ne nnl).1
  have g04 := g03.trans g4
  have hall : AllP (ClO nms (n' + 1)) H4 ys := fun x hx => by
    obtain ⟨i, hi, rfl⟩ := List.mem_iff_getElem.mp hx
    exact hyr i _ (List.getElem?_eq_getElem hi)
  have hyl2 : ys.length ≤ 2 := by omega
  have fin : ∀ (zs : List V) (H' : Hp), Go st cs H H' → H' nl = some (.lst zs) → zs.length ≤ 3 → AllP (ClO nms (n' + 1)) H' zs → tRet (tTup (tCons (tOp (rIxL K) (tLst (tCons (tC (.str "and")) (tCons (tC (.str "or")) tNil))) (tCall (sp__law_draw K) [] E0 (tCons (tVar 0) (tCons (tC (.int 2)) tNil)))) (tCons (tThen (tVar 7) (kTup K)) tNil))) { nx := fun _ H' => Q .non H', rt := Q } [some (.ref st), some (.ref p), some (.int (n' + 1 : Nat)), some (.str d.1), some (.ref qq), some (.int w), none, some (.ref nl), none] H' := fun zs H' g e hl hz => by
    with_reducible refine w_ret ?_
    with_reducible refine w_tup ?_
    with_reducible refine w_cons ?_
    refine andor _ _ _ g rfl fun b H5 g5 => ?_
    walk_at "aw"
    refine w_tupL (SqL.of (g5.keep onl e)) fun t6 H6 nt6 a6 et6 => ?_
    walk_at "aw"
    refine w_tupW (by simp) fun t7 H7 a7 et7 => ?_
    have hz7 := (hz.up g5.tk).up (a6.trans a7).tup
    obtain ⟨ds, hdl, hds⟩ := list_choose (xs := zs) (P := fun _ u D => Is H7 D u ∧ ClO nms (n' + 1) D) fun i u hu => by
      obtain ⟨D, h1, h2⟩ := hz7 u (List.mem_of_getElem? hu)
      exact ⟨D, h1, h2⟩
    refine q _ _ H7 ((g.trans g5).new (a6.trans a7)) (.tup et7 (.cons (.str _) (.cons (.tup (a7.tup _ _ et6) (IsAll.of ds zs hdl.symm fun i D u h1 h2 => (hds i u D h2 h1).1)) .nil))) (.many b ds (by omega) fun D hD => ?_)
    obtain ⟨i, hi, rfl⟩ := List.mem_iff_getElem.mp hD
    exact (hds i (zs[i]'(by omega)) _ (List.getElem?_eq_getElem (by omega)) (List.getElem?_eq_getElem hi)).2
  walk_at "aw"
  refine w_draw g4.ok (by decide) (by decide) fun c2 H5 c20 c21 g5 => ?_
  have g05 := g04.trans g5
  have enl5 := g5.keep onl enl
  walk_at "aw"
  refine w_iteB (fun hb => ?_) fun hb => ?_
  · with_reducible refine w_drop ?_
    refine w_app rfl enl5 ?_
    with_reducible refine w_cons ?_
    with_reducible refine w_tup ?_
    with_reducible refine w_cons ?_
    refine andor _ _ _ g05 rfl fun b H6 g6 => ?_
    walk_at "aw"
    refine w_tupW (by simp) fun t7 H7 a7 et7 => ?_
    walk_at "aw"
    refine w_tupW (by simp) fun t8 H8 a8 et8 => ?_
    have e8 := (a7.trans a8).keep _ _ (fun z => nomatch z) (g6.keep onl enl5)
    walk_at "aw"
    refine w_append e8 (by omega) ?_
    walk_at "aw"
    refine fin (ys ++ [.ref t8]) _ (((g05.trans g6).new (a7.trans a8)).mutL ok (g03.free ok nnl) e8) upd_same (by rw [List.length_append]; simp; omega) fun x hx => ?_
    have k9 : TK H8 (upd H8 nl (.lst (ys ++ [V.ref t8]))) := (Adv.lst e8).tup
    rcases List.mem_append.mp hx with hx | hx
    · exact ((hall.up (g5.trans (g6.new (a7.trans a8))).tk).up k9) x hx
    · rw [List.mem_singleton.mp hx]
      exact ⟨_, .tup (k9 _ _ et8) (.cons (.str _) (.cons (.tup (k9 _ _ (a8.tup _ _ et7)) .nil) .nil)), .many b [] (by simp) fun _ h => nomatch h⟩
  · walk_at "aw"
    exact fin ys H5 g05 enl5 (by omega) (hall.up g5.tk)
theorem len__law_values {K : PySem.W.Frag} : ∀ (vs : List V) (H : Hp) (Q : VK) (E : XK), sp__law_values K vs H Q E → vs.length = 1 := fun vs H Q E h => by
  obtain ⟨_, rfl, _⟩ := h
  rfl
theorem pure__law_values {K : PySem.W.Frag} (vs : List V) (H : Hp) (Q : VK) (E : XK) (h : sp__law_values K vs H Q E) : t__law_values K { nx := fun _ H' => Q .non H', rt := Q } (start ["some", "found", "one", "value"] vs) H := by
  obtain ⟨l, rfl, us, ds, nms, el, hr, uo, h5, q⟩ := h
  have hrl := hr.length
  have l1 := uo.l1
  show t__law_values K _ [some (.ref l), none, none, none] H
  unfold t__law_values
  walk_at "aw"
  refine w_dnew fun d H1 nd a1 ed => ?_
  walk_at "aw"
  refine kForL_i (fun i σ' H' => ∃ (y2 y3 : Option V) (kvs : List (Key × V)), σ' = [some (.ref l), some (.ref d), y2, y3] ∧ Adv [] H H' ∧ H' d = some (.dK kvs) ∧ kvs.length ≤ 12 * i ∧ (0 < i → 0 < kvs.length) ∧ ∀ p ∈ kvs, ∃ n : Int, p.1 = .inl n) (SqL.of (a1.keep _ _ (fun z => nomatch z) el)) ⟨none, none, [], rfl, a1, ed, by simp, fun z => absurd z (Nat.lt_irrefl _), fun _ h => nomatch h⟩
    (fun i σ' H' _ pp => by obtain ⟨_, _, _, _, a, _⟩ := pp; exact SqL.of (a.keep _ _ (fun z => nomatch z) el)) (fun i u σ' H' hu pp => ?_) fun σ' H' pp => ?_
  · obtain ⟨y2, y3, kvs, rfl, a, ed', hk, hp, hks⟩ := pp
    have hil := (List.getElem?_eq_some_iff.mp hu).1
    obtain ⟨dm, hdm⟩ := get_some (xs := ds) (i := i) (by omega)
    obtain ⟨p, qd, rfl, ep, eq⟩ := (paired_at hr hu hdm).up a.tup
    have hdo := uo.dm dm (List.mem_of_getElem? hdm)
    have d1 := hdo.l1
    have d2 := hdo.l2
    walk_at "aw"
    refine w_ixT (SqT.of ep) (at_nat (by decide) rfl) ?_
    refine kForT_i (xs := dm.2.map V.int) (fun j σ2 H2 => ∃ (y3 : Option V) (kvs : List (Key × V)), σ2 = [some (.ref l), some (.ref d), some (.ref p), y3] ∧ Adv [] H H2 ∧ H2 d = some (.dK kvs) ∧ kvs.length ≤ 12 * i + j ∧ (0 < j → 0 < kvs.length) ∧ (∀ p ∈ kvs, ∃ n : Int, p.1 = .inl n) ∧ TK H' H2) (SqT.of eq) ⟨y3, kvs, rfl, a, ed', by omega, fun z => absurd z (Nat.lt_irrefl _), hks, TK.refl _⟩
      (fun j σ2 H2 _ pp => by obtain ⟨_, _, _, _, _, _, _, _, t⟩ := pp; exact SqT.of (t _ _ eq)) (fun j x σ2 H2 hx pp => ?_) fun σ2 H2 pp => ?_
    · obtain ⟨y3, kv2, rfl, a2, ed2, hk2, hp2, hks2, t2⟩ := pp
      rw [List.getElem?_map] at hx
      obtain ⟨n, hn, rfl⟩ := Option.map_eq_some_iff.mp hx
      have hjl := (List.getElem?_eq_some_iff.mp hn).1
      walk_at "aw"
      refine kDPut_i (k := .inl n) ed2 (by omega) ?_
      refine ⟨_, _, rfl, a2.mut nd ed2 (fun _ z => by cases z), upd_same, by have := length_putK kv2 (.inl n) (.int 0); omega, fun _ => put_pos, keys_put hks2, TK.trans t2 (Adv.dct ed2).tup⟩
    · obtain ⟨y3, kv2, rfl, a2, ed2, hk2, hp2, hks2, t2⟩ := pp
      rw [List.length_map] at hk2 hp2
      exact ⟨_, _, kv2, rfl, a2, ed2, by omega, fun _ => hp2 (by omega), hks2⟩
  · obtain ⟨y2, y3, kvs, rfl, a, ed', hk, hp, hks⟩ := pp
    obtain ⟨ks, hks⟩ := keys_ints hks
    have hkl : ks.length = kvs.length := by
      have := congrArg List.length hks
      rw [List.length_map, List.length_map] at this
      exact this.symm
    have hp := hp (by omega)
    walk_at "aw"
    refine ⟨d, kvs, ks, rfl, .inl ed', hks, by omega, fun ys p hperm hsort hpn => ?_⟩
    have hyl := hperm.length_eq
    exact q p ys _ (a.trans (Adv.new hpn)) (a.free (fun z => nomatch z) hpn) upd_same (by omega) (by omega)
theorem len__law_rows_of {K : PySem.W.Frag} : ∀ (vs : List V) (H : Hp) (Q : VK) (E : XK), sp__law_rows_of K vs H Q E → vs.length = 3 := fun vs H Q E h => by
  obtain ⟨_, _, _, rfl, _⟩ := h
  rfl
/-- the keys are rows of this length -/
def RowsN (n : Nat) (kvs : List (List L2.Key × V)) : Prop := ∀ p ∈ kvs, ∃ ns : List Int, ns.length = n ∧ p.1 = ns.map Sum.inl
theorem RowsN.put {n : Nat} {kvs : List (List L2.Key × V)} (h : RowsN n kvs) {ns : List Int} (hn : ns.length = n) {v : V} : RowsN n (putK kvs (ns.map Sum.inl) v) := by
  unfold putK
  split
  · intro p hp
    obtain ⟨p0, h1, rfl⟩ := List.mem_map.mp hp
    obtain ⟨ms, h2, h3⟩ := h p0 h1
    refine ⟨ms, h2, ?_⟩
    split <;> exact h3
  · intro p hp
    rcases List.mem_append.mp hp with h1 | h1
    · exact h p h1
    · rw [List.mem_singleton.mp h1]
      exact ⟨ns, hn, rfl⟩
theorem pure__law_rows_of {K : PySem.W.Frag} (vs : List V) (H : Hp) (Q : VK) (E : XK) (h : sp__law_rows_of K vs H Q E) : t__law_rows_of K { nx := fun _ H' => Q .non H', rt := Q } (start ["tape", "some", "most", "rows", "k", "one"] vs) H := by
  obtain ⟨st, l, n, rfl, cs, us, ds, nms, ok, el, ol, hr, uo, n1, n10, q⟩ := h
  have hrl := hr.length
  have l1 := uo.l1
  have l2 := uo.l2
  show t__law_rows_of K _ [some (.ref st), some (.ref l), some (.int n), none, none, none] H
  unfold t__law_rows_of
  walk_at "aw"
  refine w_dnewT fun d H1 nd a1 ed => ?_
  have g1 := Go.of ok a1
  have odf := (ok.ne nd).1
  walk_at "aw"
  refine w_draw g1.ok (by omega) (by omega) fun c H2 c0 c1 g2 => ?_
  have g12 := g1.trans g2
  walk_at "aw"
  obtain ⟨m, hm, hm10⟩ : ∃ m : Nat, 1 + c = (m : Int) ∧ m ≤ 10 := ⟨(1 + c).toNat, by omega, by omega⟩
  rw [hm]
  have row : ∀ (te : TE) (g : TG) (H' : Hp) (σ : L2.St) (Q : VK), True := fun _ _ _ _ _ => trivial
  refine kForR_i (n := m) (by omega) (fun i σ H' => ∃ (y4 : Option V) (kvs : List (List L2.Key × V)), σ = [some (.ref st), some (.ref l), some (.int n), some (.ref d), y4, none] ∧ Go st cs H H' ∧ H' d = some (.dT kvs) ∧ kvs.length ≤ i ∧ RowsN ds.length kvs)
    ⟨_, [], rfl, g12, g2.keep odf ed, Nat.le_refl _, fun p hp => nomatch hp⟩ (fun i σ H' hi pp => ?_) fun σ H' pp => ?_
  · obtain ⟨y4, kvs, rfl, g, ed', hl, hrw⟩ := pp
    walk_at "aw"
    refine kLcL_all (xs := us) (SqL.of (g.keep ol el)) ol (by omega) g.ok (fun _ v _ => ∃ n : Int, v = .int n) (fun _ _ _ _ _ h => h) (fun j x H4 Kt e g4 kt => ?_) fun l4 H4 ys nl g4 el4 hyl hyr => ?_
    · have hjl := (List.getElem?_eq_some_iff.mp e).1
      obtain ⟨dm, hdm⟩ := get_some (xs := ds) (i := j) (by omega)
      obtain ⟨p, qd, rfl, ep, eq⟩ := (paired_at hr e hdm).up (g.trans g4).tk
      have hdo := uo.dm dm (List.mem_of_getElem? hdm)
      have d1 := hdo.l1
      have d2 := hdo.l2
      walk_at "aw"
      refine ⟨rfl, ?_⟩
      walk_at "aw"
      refine w_ixT (SqT.of ep) (at_nat (by decide) rfl) ?_
      walk_at "aw"
      refine w_ixT (SqT.of ep) (at_nat (by decide) rfl) ?_
      walk_at "aw"
      refine w_lenT (SqT.of eq) ?_
      rw [List.length_map]
      walk_at "aw"
      refine w_draw g4.ok (by omega) (by omega) fun n5 H5 n50 n51 g5 => ?_
      have hn : n5.toNat < dm.2.length := by omega
      refine w_ixT (SqT.of (g5.tk _ _ eq)) (v := .int dm.2[n5.toNat]) (at_nat n50 (by rw [List.getElem?_map, List.getElem?_eq_getElem hn]; rfl)) ?_
      exact kt _ _ g5 ⟨_, rfl⟩
    obtain ⟨ns, rfl⟩ := ints_of hyr
    rw [List.length_map] at hyl
    walk_at "aw"
    refine w_tupL (SqL.of el4) fun t H5 nt a5 et => ?_
    have g5 := (g.trans g4).new a5
    have ed5 := a5.keep _ _ (fun z => nomatch z) (g4.keep odf ed')
    walk_at "aw"
    refine kDPutT_i (k := ns.map Sum.inl) ed5 (by rw [keyInts]; exact et) (by omega) ?_
    exact ⟨_, _, rfl, g5.mutT ok nd ed5, upd_same, Nat.le_trans (length_putK ..) (by omega), hrw.put (by omega)⟩
  · obtain ⟨y4, kvs, rfl, g, ed', hl, hrw⟩ := pp
    have fin : ∀ (H' : Hp) (kvs : List (List L2.Key × V)), Go st cs H H' → H' d = some (.dT kvs) → kvs.length ≤ 15 → RowsN ds.length kvs → tRet (tThen (tCB rSortDT (tCons (tVar 3) tNil)) (kTup K)) { nx := fun _ H' => Q .non H', rt := Q } [some (.ref st), some (.ref l), some (.int n), some (.ref d), y4, none] H' := fun H' kvs g ed' hl hrw => by
      walk_at "aw"
      refine ⟨d, kvs, rfl, .inl ed', fun p hp => ?_, by omega, fun r ps nr hps hperm => ?_⟩
      · obtain ⟨ns, h1, h2⟩ := hrw p hp
        exact ⟨ns, fun z => by rw [z] at h1; simp at h1; omega, h2⟩
      have hpl : ps.length = kvs.length := by
        have := hperm.length_eq
        rwa [List.length_map, List.length_map] at this
      walk_at "aw"
      have a4 : Adv [] H' (upd H' r (.lst (ps.map fun q => V.ref q.1))) := Adv.new nr
      refine w_tupL (SqL.of upd_same) fun u H5 nu a5 eu => ?_
      refine q _ (ps.map (·.2)) H5 ((g.new a4).new a5) (.tup eu (rows_isall fun p hp => ⟨(a4.trans a5).tup _ _ (hps p hp).1, (hps p hp).2⟩)) (by rw [List.length_map]; omega) fun rr hrr => ?_
      obtain ⟨p, hp, rfl⟩ := List.mem_map.mp hrr
      obtain ⟨kv, hkv, e⟩ := List.mem_map.mp (hperm.subset (List.mem_map_of_mem (f := fun q : Addr × List Int => q.2.map (Sum.inl : Int → L2.Key)) hp))
      obtain ⟨ns, h1, h2⟩ := hrw kv hkv
      have := congrArg List.length (e.symm.trans h2)
      rw [List.length_map, List.length_map] at this
      omega
    walk_at "aw"
    refine w_draw g.ok (by decide) (by decide) fun c2 H3 _ _ g3 => ?_
    have gg := g.trans g3
    have ed3 := g3.keep odf ed'
    walk_at "aw"
    refine w_iteB (fun hb => ?_) fun hb => ?_
    · walk_at "aw"
      refine kLcL_all (xs := us) (SqL.of (gg.keep ol el)) ol (by omega) gg.ok (fun _ v _ => ∃ n : Int, v = .int n) (fun _ _ _ _ _ h => h) (fun j x H4 Kt e g4 kt => ?_) fun l4 H4 ys nl g4 el4 hyl hyr => ?_
      · have hjl := (List.getElem?_eq_some_iff.mp e).1
        obtain ⟨dm, hdm⟩ := get_some (xs := ds) (i := j) (by omega)
        obtain ⟨p, qd, rfl, ep, eq⟩ := (paired_at hr e hdm).up (gg.trans g4).tk
        have hdo := uo.dm dm (List.mem_of_getElem? hdm)
        have d1 := hdo.l1
        walk_at "aw"
        refine ⟨rfl, ?_⟩
        walk_at "aw"
        refine w_ixT (SqT.of ep) (at_nat (by decide) rfl) ?_
        walk_at "aw"
        refine w_ixT (SqT.of eq) (ix_lastI d1) ?_
        walk_at "aw"
        exact kt _ _ (.refl g4.ok) ⟨_, rfl⟩
      obtain ⟨ns, rfl⟩ := ints_of hyr
      rw [List.length_map] at hyl
      walk_at "aw"
      refine w_tupL (SqL.of el4) fun t H5 nt a5 et => ?_
      have g5 := (gg.trans g4).new a5
      have ed5 := a5.keep _ _ (fun z => nomatch z) (g4.keep odf ed3)
      walk_at "aw"
      refine kDPutT_i (k := ns.map Sum.inl) ed5 (by rw [keyInts]; exact et) (by omega) ?_
      exact fin _ _ (g5.mutT ok nd ed5) upd_same (Nat.le_trans (length_putK ..) (by omega)) (hrw.put (by omega))
    · with_reducible refine w_next ?_
      exact fin H3 kvs gg ed3 (by omega) hrw
end AW
namespace AW
open PySem PySem.Spec PyProof.Rows L2 RZ
open StX
local macro_rules | `(tactic| walk_at "aw1") => `(tactic| first
  | (with_reducible refine w_seq ?_) | (with_reducible refine w_asg ?_) | (with_reducible refine w_gname ?_) | (with_reducible refine w_op ?_) | (with_reducible refine w_un ?_)
  | ((with_reducible refine' w_var ?h ?_); (case h => rfl)) | (with_reducible refine w_c ?_)
  | (with_reducible refine w_I0 ?_) | (with_reducible refine w_U ?_) | (with_reducible refine w_cb ?_) | (with_reducible refine w_nil ?_) | (with_reducible refine w_cons ?_) | (with_reducible refine w_call ?_)
  | (with_reducible refine w_test ?_) | (with_reducible refine w_B ?_) | (with_reducible refine w_bl ?_) | (with_reducible refine w_not ?_) | (with_reducible refine w_yes ?_) | (with_reducible refine iteT ?_) | (with_reducible refine iteF ?_) | (with_reducible refine w_and ?_) | (with_reducible refine w_or ?_)
  | (with_reducible refine w_andV ?_) | (with_reducible refine w_orV ?_) | (with_reducible refine w_notV ?_) | (with_reducible refine w_if ?_)
  | (with_reducible refine w_int1 ?_) | (with_reducible refine w_int1b ?_) | (with_reducible refine w_abs ?_) | (with_reducible refine w_max2 ?_) | (with_reducible refine w_min2 ?_)
  | ((with_reducible refine w_eq ?h ?_); (case h => rfl)) | ((with_reducible refine w_ne ?h ?_); (case h => rfl)) | (with_reducible refine w_isN ?_) | (with_reducible refine w_isB ?_) | (with_reducible refine w_chain ?_)
  | (with_reducible refine w_ret ?_) | (with_reducible refine w_drop ?_) | (with_reducible refine w_ifS ?_) | (with_reducible refine w_gsub ?_) | (with_reducible refine w_augS ?_) | (with_reducible refine w_ipI ?_) | (with_reducible refine w_next ?_)
  | (with_reducible refine w_forR ?_) | (with_reducible refine w_forR2 ?_) | (with_reducible refine w_forL ?_) | (with_reducible refine w_forT ?_) | (with_reducible refine w_lcR ?_) | (with_reducible refine w_lcL ?_) | (with_reducible refine w_lcT ?_) | (with_reducible refine w_sl ?_) | (with_reducible refine w_part ?_) | (with_reducible refine w_noPart ?_) | (with_reducible refine w_in ?_)
  | (with_reducible refine w_gcons ?_) | (with_reducible refine w_gnil ?_) | (with_reducible refine w_lc3 ?_) | (with_reducible refine w_dcZ ?_) | (with_reducible refine w_dcT ?_) | (with_reducible refine w_dg ?_) | (with_reducible refine w_callK ?_) | (with_reducible refine w_dput ?_) | (with_reducible refine w_tup1 ?_)
  | (with_reducible refine w_tup ?_) | (with_reducible refine w_lst ?_)
  | ((with_reducible refine w_I ?h ?_); (case h => first | (exact Or.inr ⟨by decide, by decide⟩) | (exact Or.inl ⟨by decide, by decide⟩) | (show (0 : Int) < _; decide) | (exact ⟨by decide, by decide, by decide⟩) | assumption)))
local macro_rules | `(tactic| walk_at "aw") => `(tactic| repeat (walk_at "aw1"))
theorem merge_P {P : V → Prop} : ∀ (more kvs : List (Key × V)), (∀ k v, valV kvs k = some v → P v) → (∀ p ∈ more, P p.2) → ∀ k v, valV (mergeK kvs more) k = some v → P v
  | [], _, h, _ => h
  | m :: more, kvs, h, hm => by
    refine merge_P more (putK kvs m.1 m.2) (fun k v e => ?_) fun p hp => hm p (List.mem_cons_of_mem _ hp)
    rw [valV_put] at e
    split at e
    · cases e
      exact hm m (List.mem_cons_self ..)
    · exact h k v e
theorem merge_in : ∀ (more kvs : List (Key × V)) (k : Key), (valV kvs k ≠ none ∨ k ∈ more.map (·.1)) → valV (mergeK kvs more) k ≠ none
  | [], _, k, h => h.elim id fun z => by simp at z
  | m :: more, kvs, k, h => by
    refine merge_in more (putK kvs m.1 m.2) k ?_
    by_cases e : k ∈ more.map (·.1)
    · exact .inr e
    · left
      rw [valV_put]
      by_cases e2 : k = m.1
      · rw [if_pos e2]
        exact fun z => nomatch z
      · rw [if_neg e2]
        rcases h with h | h
        · exact h
        · rw [List.map_cons] at h
          rcases List.mem_cons.mp h with h | h
          · exact absurd h e2
          · exact absurd h e
theorem sme_ints4 (xs : List Int) (h : xs.length ≤ 1000) {n : Nat} : SmE (n + 2) (.tuple (xs.map PyData.int)) := .tup _ (by rw [List.length_map]; exact h) fun d hd => by
  obtain ⟨x, _, rfl⟩ := List.mem_map.mp hd
  exact .int x
def sp__law_machine (_ : PySem.W.Frag) : Sp := fun vs H Q _ => ∃ (st l : Addr), vs = [.ref st, .ref l] ∧ ∃ cs us ds nms, StOk st cs H ∧ H l = some (.lst us) ∧ Off l st cs ∧ Paired (fun u d => UnkP H u d) us ds ∧ UOk nms ds ∧ ds.length ≤ 3 ∧ ∀ w s H', Go st cs H H' → Is H' (Sy.D s) w → s.ok nms 0 → Q w H'
def sp__law_sum_of (_ : PySem.W.Frag) : Sp := fun vs H Q _ => ∃ (st : Addr) (v : V), vs = [.ref st, v] ∧ ∃ cs doms nms, StOk st cs H ∧ UnkS st cs H v doms ∧ UOk nms doms ∧ ∀ w s H', Go st cs H H' → Is H' (Sy.D s) w → s.ok nms 0 → Q w H'
def sp__law_counted (_ : PySem.W.Frag) : Sp := fun vs H Q _ => ∃ (st : Addr) (v : V), vs = [.ref st, v] ∧ ∃ cs doms nms, StOk st cs H ∧ UnkS st cs H v doms ∧ UOk nms doms ∧ ∀ w s H', Go st cs H H' → Is H' (Sy.D s) w → s.ok nms 0 → Q w H'
theorem UOk.all {nms : List Str} {doms : List (Str × List Int)} (h : UOk nms doms) : AllIn nms (doms.map (·.1)) := ⟨by rw [List.length_map]; have := h.l2; omega, fun x hx => by
  obtain ⟨d, hd, rfl⟩ := List.mem_map.mp hx
  exact h.nm d hd⟩
theorem w_mul {i j : Int} {H : Hp} {Q : VK} (c : CMul i j) (q : Q (.int (i * j)) H) : rMulI (.int i) (.int j) H Q := ⟨i, j, rfl, rfl, c, q⟩
def t__law_machine (K : PySem.W.Frag) : TS := (tSeq (tAsg tDNewT (gName 2))
  (tSeq (tAsg (tOp rAddI (tC (.int 2)) (tCall (sp__law_draw K) [] E0 (tCons (tVar 0) (tCons (tC (.int 2)) tNil)))) (gName 3))
  (tSeq (tAsg (tCall (sp__law_values K) [] E0 (tCons (tVar 1) tNil)) (gName 4))
  (tSeq (tFor (iRng1 (tCons (tVar 3) tNil)) (gName 5)
  (tFor (iList K (tVar 4)) (gName 6)
  (tIfS (tTest (tOp rGtI (tCall (sp__law_draw K) [] E0 (tCons (tVar 0) (tCons (tC (.int 6)) tNil))) (tC (.int 0)))) (sDPut (tVar 2) (tTup (tCons (tVar 5) (tCons (tVar 6) tNil))) (tCall (sp__law_draw K) [] E0 (tCons (tVar 0) (tCons (tVar 3) tNil)))) tNext)))
  (tSeq (tAsg (tThen (tLc (iRng1 (tCons (tOp rAddI (tVar 3) (tC (.int 1))) tNil)) (gName 8) (tTest (tOp rEq (tCall (sp__law_draw K) [] E0 (tCons (tVar 0) (tCons (tC (.int 2)) tNil))) (tC (.int 0)))) (tVar 8) [8]) (kTup K)) (gName 7))
  (tSeq (tAsg (tThen (tLc (iList K (tCB rSortDT (tCons (tVar 2) tNil))) (gName 10) tYes (tOp (rCatA K) (tVar 10) (tTup (tCons (tDGet (tVar 2) (tVar 10)) tNil))) [10]) (kTup K)) (gName 9))
  (tRet (tTup (tCons (tC (.str "machine")) (tCons (tThen (tLc (iList K (tVar 1)) (gName 11) tYes (tOp (rIxT K) (tVar 11) (tC (.int 0))) [11]) (kTup K)) (tCons (tCall (sp__law_draw K) [] E0 (tCons (tVar 0) (tCons (tVar 3) tNil))) (tCons (tSl (rSlA K) (tVar 9) tNoPart (tPart (tC (.int 40)))) (tCons (tVar 7) tNil)))))))))))))
def t__law_sum_of (K : PySem.W.Frag) : TS := (tSeq (tAsg (tCall (sp__law_some K) [] E0 (tCons (tVar 0) (tCons (tVar 1) (tCons (tC (.int 1)) (tCons (tC (.int 4)) tNil))))) (gName 2))
  (tSeq (tAsg (tThen (tLc (iList K (tVar 2)) (gName 4) tYes (tTup (tCons (tOp (rIxT K) (tVar 4) (tC (.int 0))) (tCons (tOp (rIxL K) (tLst (tCons (tC (.int 1)) (tCons (tC (.int 1)) (tCons (tC (.int 2)) (tCons (tUn rNeg (tC (.int 1))) (tCons (tUn rNeg (tC (.int 2))) (tCons (tC (.int 3)) tNil))))))) (tCall (sp__law_draw K) [] E0 (tCons (tVar 0) (tCons (tC (.int 6)) tNil)))) tNil))) [4]) (kTup K)) (gName 3))
  (tSeq (tAsg (tCB (rDictP K) (tCons (tLc (iList K (tVar 2)) (gName 4) tYes (tTup (tCons (tOp (rIxT K) (tVar 4) (tC (.int 0))) (tCons (tOp (rIxT K) (tOp (rIxT K) (tVar 4) (tC (.int 1))) (tCall (sp__law_draw K) [] E0 (tCons (tVar 0) (tCons (tCB (rLen1 K) (tCons (tOp (rIxT K) (tVar 4) (tC (.int 1))) tNil)) tNil)))) tNil))) [4]) tNil)) (gName 5))
  (tRet (tTup (tCons (tOp (rIxL K) (tLst (tCons (tC (.str "least")) (tCons (tC (.str "least")) (tCons (tC (.str "same")) tNil)))) (tCall (sp__law_draw K) [] E0 (tCons (tVar 0) (tCons (tC (.int 3)) tNil)))) (tCons (tVar 3) (tCons (tCB (rSum K) (tCons (tLc (iTup K (tVar 3)) (gTup K 2 (gCons (gName 6) (gCons (gName 7) gNil))) tYes (tOp rMulI (tDGet (tVar 5) (tVar 6)) (tVar 7)) [6, 7]) tNil)) tNil))))))))
def t__law_counted (K : PySem.W.Frag) : TS := (tSeq (tAsg (tCall (sp__law_some K) [] E0 (tCons (tVar 0) (tCons (tVar 1) (tCons (tC (.int 1)) (tCons (tC (.int 5)) tNil))))) (gName 2))
  (tSeq (tAsg (tCall (sp__law_values K) [] E0 (tCons (tVar 2) tNil)) (gName 3))
  (tSeq (tAsg (tSl (rSlL K) (tSl (rSlL K) (tVar 3) (tPart (tCall (sp__law_draw K) [] E0 (tCons (tVar 0) (tCons (tCB (rLen1 K) (tCons (tVar 3) tNil)) tNil)))) tNoPart) tNoPart (tPart (tOp rAddI (tC (.int 1)) (tCall (sp__law_draw K) [] E0 (tCons (tVar 0) (tCons (tC (.int 2)) tNil)))))) (gName 3))
  (tSeq (tAsg (tLst tNil) (gName 4))
  (tSeq (tFor (iList K (tVar 3)) (gName 5)
  (tSeq (tAsg (tCall (sp__law_draw K) [] E0 (tCons (tVar 0) (tCons (tC (.int 2)) tNil))) (gName 6))
  (tDrop (tBM K "list" rAppend (tVar 4) (tCons (tTup (tCons (tVar 5) (tCons (tVar 6) (tCons (tOp rAddI (tVar 6) (tCall (sp__law_draw K) [] E0 (tCons (tVar 0) (tCons (tC (.int 3)) tNil)))) tNil)))) tNil)))))
  (tRet (tTup (tCons (tC (.str "counts")) (tCons (tThen (tLc (iList K (tVar 2)) (gName 7) tYes (tOp (rIxT K) (tVar 7) (tC (.int 0))) [7]) (kTup K)) (tCons (tThen (tVar 4) (kTup K)) tNil))))))))))
theorem len__law_counted {K : PySem.W.Frag} : ∀ (vs : List V) (H : Hp) (Q : VK) (E : XK), sp__law_counted K vs H Q E → vs.length = 2 := fun vs H Q E h => by
  obtain ⟨_, _, rfl, _⟩ := h
  rfl
theorem pure__law_counted {K : PySem.W.Frag} (vs : List V) (H : Hp) (Q : VK) (E : XK) (h : sp__law_counted K vs H Q E) : t__law_counted K { nx := fun _ H' => Q .non H', rt := Q } (start ["tape", "unknowns", "some", "values", "triples", "value", "low", "one"] vs) H := by
  obtain ⟨st, v, rfl, cs, doms, nms, ok, hu, uo, q⟩ := h
  have l1 := uo.l1
  have l2 := uo.l2
  show t__law_counted K _ [some (.ref st), some v, none, none, none, none, none, none] H
  unfold t__law_counted
  walk_at "aw"
  refine w_someU (a := 1) (b := 5) hu ok (by decide) l1 (by decide) (by omega) fun sl made ds H1 g1 nsl esl hmade hds h1 h5 us1 => ?_
  have osl := (ok.ne nsl).1
  have uo1 := uo.sub hds h1 (by omega)
  walk_at "aw"
  refine ⟨sl, rfl, made, ds, nms, esl, hmade, uo1, h5, fun vl zs H2 a2 nvl evl hz1 hz60 => ?_⟩
  have g2 := g1.new a2
  have esl2 := a2.keep _ _ (fun z => nomatch z) esl
  have ovl := (g1.ok.ne nvl).1
  walk_at "aw"
  refine w_lenL (SqL.of evl) ?_
  rw [List.length_map]
  walk_at "aw"
  refine w_draw g2.ok (by omega) (by omega) fun c H3 c0 c1 g3 => ?_
  walk_at "aw"
  refine w_slL (SqL.of (g3.keep ovl evl)) fun r4 H4 nr4 a4 er4 => ?_
  rw [cut_from _ c0, ← List.map_drop] at er4
  have g34 := g3.new a4
  have or4 := (g3.ok.ne nr4).1
  walk_at "aw"
  refine w_draw g34.ok (by decide) (by decide) fun c2 H5 c20 c21 g5 => ?_
  walk_at "aw"
  refine w_slL (SqL.of (g5.keep or4 er4)) fun r6 H6 nr6 a6 er6 => ?_
  rw [cut_to _ (by omega), ← List.map_take] at er6
  obtain ⟨ys, hys, hyl⟩ : ∃ ys : List Int, (zs.drop c.toNat).take (1 + c2).toNat = ys ∧ ys.length ≤ 60 := ⟨_, rfl, by rw [List.length_take, List.length_drop]; omega⟩
  rw [hys] at er6
  have g26 := (g34.trans g5).new a6
  have g6 := g2.trans g26
  have or6 := (g5.ok.ne nr6).1
  have esl6 := g26.keep osl esl2
  walk_at "aw"
  refine w_lstD (by simp) fun tl H7 ntl a7 etl => ?_
  have g7 := g6.new a7
  have otl := (g6.ok.ne ntl).1
  have er7 := a7.keep _ _ (fun z => nomatch z) er6
  have esl7 := a7.keep _ _ (fun z => nomatch z) esl6
  have nrt : r6 ≠ tl := ne_of_none er6 ntl
  have nst : sl ≠ tl := ne_of_none esl6 ntl
  walk_at "aw"
  refine kForL_i (fun i σ' H' => ∃ (y5 y6 : Option V) (ts : List V), σ' = [some (.ref st), some v, some (.ref sl), some (.ref r6), some (.ref tl), y5, y6, none] ∧ Go st cs H H' ∧ H' r6 = some (.lst (ys.map V.int)) ∧ H' sl = some (.lst made) ∧ H' tl = some (.lst ts) ∧ ts.length = i ∧ AllP (SmE 3) H' ts ∧ TK H7 H') (SqL.of er7) ⟨none, none, [], rfl, g7, er7, esl7, etl, rfl, (fun _ h => nomatch h), TK.refl _⟩
    (fun i σ' H' _ pp => by obtain ⟨_, _, _, _, _, e, _⟩ := pp; exact SqL.of e) (fun i u σ' H' hu pp => ?_) fun σ' H' pp => ?_
  · obtain ⟨y5, y6, ts, rfl, g, er, es, et, htl, hts, tk⟩ := pp
    rw [List.getElem?_map] at hu
    obtain ⟨n, hn, rfl⟩ := Option.map_eq_some_iff.mp hu
    have hil := (List.getElem?_eq_some_iff.mp hn).1
    walk_at "aw"
    refine w_draw g.ok (by decide) (by decide) fun lo H8 lo0 lo1 g8 => ?_
    have et8 := g8.keep otl et
    walk_at "aw"
    refine w_app rfl et8 ?_
    walk_at "aw"
    refine w_draw g8.ok (by decide) (by decide) fun hi H9 hi0 hi1 g9 => ?_
    walk_at "aw"
    refine w_tupW (by simp) fun t HA aA etA => ?_
    have g89 := g8.trans (g9.new aA)
    have etA2 := g89.keep otl et
    walk_at "aw"
    refine w_append etA2 (by omega) ?_
    have k9 : TK HA (upd HA tl (.lst (ts ++ [V.ref t]))) := (Adv.lst etA2).tup
    refine ⟨_, _, ts ++ [.ref t], rfl, (g.trans g89).mutL ok (g6.free ok ntl) etA2, ?_, ?_, upd_same, by rw [List.length_append, htl]; rfl, fun x hx => ?_, TK.trans (TK.trans tk g89.tk) k9⟩
    · rw [upd_ne nrt]
      exact g89.keep or6 er
    · rw [upd_ne nst]
      exact g89.keep osl es
    · rcases List.mem_append.mp hx with hx | hx
      · exact ((hts.up g89.tk).up k9) x hx
      · rw [List.mem_singleton.mp hx]
        exact ⟨_, .tup (k9 _ _ etA) (IsAll.ints [n, lo, lo + hi]), sme_ints4 [n, lo, lo + hi] (by simp)⟩
  · obtain ⟨y5, y6, ts, rfl, g, er, es, et, htl, hts, tk⟩ := pp
    rw [List.length_map] at htl
    walk_at "aw"
    have hm2 : Paired (fun u d => UnkP H' u d) made ds := L2.Paired.mapP hmade fun _ _ z => z.up (TK.trans (a2.tup) (TK.trans g26.tk (TK.trans a7.tup tk)))
    refine w_nms es hm2 (by omega) (fun _ => rfl) (fun _ => rfl) fun nl H8 nnl a8 enl => ?_
    walk_at "aw"
    refine w_tupL (SqL.of enl) fun t9 H9 nt9 a9 et9 => ?_
    walk_at "aw"
    refine w_tupL (SqL.of ((a8.trans a9).keep _ _ (fun z => nomatch z) et)) fun tA HA ntA aA etA => ?_
    walk_at "aw"
    refine w_tupW (by simp) fun tB HB aB etB => ?_
    have hz7 := hts.up (a8.trans (a9.trans (aA.trans aB))).tup
    obtain ⟨rs, hrl, hrs⟩ := list_choose (xs := ts) (P := fun _ u D => Is HB D u ∧ SmE 3 D) fun i u hu => by
      obtain ⟨D, h1, h2⟩ := hz7 u (List.mem_of_getElem? hu)
      exact ⟨D, h1, h2⟩
    refine q _ (.flat 1 (ds.map (·.1)) [.tuple rs]) HB (g.new (a8.trans (a9.trans (aA.trans aB)))) (.tup etB (.cons (.str _) (.cons (.tup ((aA.trans aB).tup _ _ et9) (IsAll.strs _)) (.cons (.tup (aB.tup _ _ etA) (IsAll.of rs ts hrl.symm fun i D u h1 h2 => (hrs i u D h2 h1).1)) .nil)))) ⟨uo1.all, by simp, fun D hD => ?_⟩
    rw [List.mem_singleton.mp hD]
    refine .tup _ (by omega) fun D hD => ?_
    obtain ⟨i, hi, rfl⟩ := List.mem_iff_getElem.mp hD
    exact (hrs i (ts[i]'(by omega)) _ (List.getElem?_eq_getElem (by omega)) (List.getElem?_eq_getElem hi)).2
theorem len__law_sum_of {K : PySem.W.Frag} : ∀ (vs : List V) (H : Hp) (Q : VK) (E : XK), sp__law_sum_of K vs H Q E → vs.length = 2 := fun vs H Q E h => by
  obtain ⟨_, _, rfl, _⟩ := h
  rfl
theorem pure__law_sum_of {K : PySem.W.Frag} (vs : List V) (H : Hp) (Q : VK) (E : XK) (h : sp__law_sum_of K vs H Q E) : t__law_sum_of K { nx := fun _ H' => Q .non H', rt := Q } (start ["tape", "unknowns", "some", "terms", "one", "at", "x", "w"] vs) H := by
  obtain ⟨st, v, rfl, cs, doms, nms, ok, hu, uo, q⟩ := h
  have l1 := uo.l1
  have l2 := uo.l2
  show t__law_sum_of K _ [some (.ref st), some v, none, none, none, none, none, none] H
  unfold t__law_sum_of
  walk_at "aw"
  refine w_someU (a := 1) (b := 4) hu ok (by decide) l1 (by decide) (by omega) fun sl made ds H1 g1 nsl esl hmade hds h1 h4 us1 => ?_
  have osl := (ok.ne nsl).1
  have uo1 := uo.sub hds h1 (by omega)
  have hml := hmade.length
  walk_at "aw"
  refine kLcL_all (xs := made) (SqL.of esl) osl (by omega) g1.ok (fun k u H' => ∃ d n, ds[k]? = some d ∧ Is H' (trD (d.1, n)) u ∧ n.natAbs ≤ 3) (fun _ _ _ _ kk ⟨d, n, h1, h2, h3⟩ => ⟨d, n, h1, h2.up kk, h3⟩) (fun j x H2 Kt e g2 kt => ?_) fun tl H2 ys ntl g2 etl hyl hyr => ?_
  · have hjl := (List.getElem?_eq_some_iff.mp e).1
    obtain ⟨dm, hdm⟩ := get_some (xs := ds) (i := j) (by omega)
    obtain ⟨p, qd, rfl, ep, eq⟩ := (paired_at hmade e hdm).up g2.tk
    walk_at "aw"
    refine ⟨rfl, ?_⟩
    walk_at "aw"
    refine w_ixT (SqT.of ep) (at_nat (by decide) rfl) ?_
    walk_at "aw"
    refine w_ofL (xs := [.int 1, .int 1, .int 2, .int (-1), .int (-2), .int 3]) g2.ok rfl rfl (by simp) (by simp) fun u hu H3 g3 => ?_
    obtain ⟨n, rfl, hn⟩ : ∃ n : Int, u = .int n ∧ n.natAbs ≤ 3 := by
      simp only [List.mem_cons, List.not_mem_nil, or_false] at hu
      rcases hu with rfl | rfl | rfl | rfl | rfl | rfl <;> exact ⟨_, rfl, by decide⟩
    walk_at "aw"
    refine w_tupW (by simp) fun t H4 a4 et => ?_
    exact kt _ _ (g3.new a4) ⟨dm, n, hdm, .tup et (.cons (.str _) (.cons (.int _) .nil)), hn⟩
  obtain ⟨ts, htl, hts⟩ := list_choose (xs := ys) (P := fun k u (t : Str × Int) => Is H2 (trD t) u ∧ (∃ d, ds[k]? = some d ∧ t.1 = d.1) ∧ t.2.natAbs ≤ 3) fun k u hu => by
    obtain ⟨d, n, h1, h2, h3⟩ := hyr k u hu
    exact ⟨(d.1, n), h2, ⟨d, h1, rfl⟩, h3⟩
  have g12 := g1.trans g2
  walk_at "aw"
  refine w_tupL (SqL.of etl) fun tt H3 ntt a3 ett => ?_
  have g3 := g2.new a3
  have hIs : Is H3 (.tuple (ts.map trD)) (.ref tt) := .tup ett (IsAll.of _ _ (by rw [List.length_map]; omega) fun i D u h1 h2 => by
    rw [List.getElem?_map] at h1
    obtain ⟨t, ht, rfl⟩ := Option.map_eq_some_iff.mp h1
    exact (hts i u t h2 ht).1.up a3.tup)
  have hall : AllIn nms (ts.map (·.1)) := ⟨by rw [List.length_map]; omega, fun x hx => by
    obtain ⟨t, ht, rfl⟩ := List.mem_map.mp hx
    obtain ⟨i, hi, rfl⟩ := List.mem_iff_getElem.mp ht
    obtain ⟨_, ⟨d, h1, h2⟩, _⟩ := hts i (ys[i]'(by omega)) _ (List.getElem?_eq_getElem (by omega)) (List.getElem?_eq_getElem hi)
    rw [h2]
    exact uo1.nm d (List.mem_of_getElem? h1)⟩
  have hin : ∀ t ∈ ts, t.1 ∈ ds.map (·.1) ∧ t.2.natAbs ≤ 3 := fun t ht => by
    obtain ⟨i, hi, rfl⟩ := List.mem_iff_getElem.mp ht
    obtain ⟨_, ⟨d, h1, h2⟩, h3⟩ := hts i (ys[i]'(by omega)) _ (List.getElem?_eq_getElem (by omega)) (List.getElem?_eq_getElem hi)
    rw [h2]
    exact ⟨List.mem_map_of_mem (List.mem_of_getElem? h1), h3⟩
  have esl3 := g3.keep osl esl
  walk_at "aw"
  refine kLcL_all (xs := made) (SqL.of esl3) osl (by omega) g3.ok (fun k u H' => ∃ d p n, ds[k]? = some d ∧ u = .ref p ∧ H' p = some (.tup [.str d.1, .int n]) ∧ n.natAbs ≤ 200) (fun _ _ _ _ kk ⟨d, p, n, h1, h2, h3, h4⟩ => ⟨d, p, n, h1, h2, kk _ _ h3, h4⟩) (fun j x H4 Kt e g4 kt => ?_) fun al H4 zs nal g4 eal hzl hzr => ?_
  · have hjl := (List.getElem?_eq_some_iff.mp e).1
    obtain ⟨dm, hdm⟩ := get_some (xs := ds) (i := j) (by omega)
    obtain ⟨p, qd, rfl, ep, eq⟩ := (paired_at hmade e hdm).up (g3.trans g4).tk
    have hdo := uo1.dm dm (List.mem_of_getElem? hdm)
    have d1 := hdo.l1
    have d2 := hdo.l2
    walk_at "aw"
    refine ⟨rfl, ?_⟩
    walk_at "aw"
    refine w_ixT (SqT.of ep) (at_nat (by decide) rfl) ?_
    walk_at "aw"
    refine w_ixT (SqT.of ep) (at_nat (by decide) rfl) ?_
    walk_at "aw"
    refine w_ixT (SqT.of ep) (at_nat (by decide) rfl) ?_
    walk_at "aw"
    refine w_lenT (SqT.of eq) ?_
    rw [List.length_map]
    walk_at "aw"
    refine w_draw g4.ok (by omega) (by omega) fun n5 H5 n50 n51 g5 => ?_
    have hn : n5.toNat < dm.2.length := by omega
    refine w_ixT (SqT.of (g5.tk _ _ eq)) (v := .int dm.2[n5.toNat]) (at_nat n50 (by rw [List.getElem?_map, List.getElem?_eq_getElem hn]; rfl)) ?_
    walk_at "aw"
    refine w_tupW (by simp) fun t H6 a6 et => ?_
    have := hdo.bd _ (List.getElem_mem hn)
    exact kt _ _ (g5.new a6) ⟨dm, t, _, hdm, rfl, et, by omega⟩
  obtain ⟨ns, hnl, hns⟩ := list_choose (xs := zs) (P := fun k u (n : Int) => ∃ d p, ds[k]? = some d ∧ u = .ref p ∧ H4 p = some (.tup [.str d.1, .int n]) ∧ n.natAbs ≤ 200) fun k u hu => by
    obtain ⟨d, p, n, h1, h2, h3, h4⟩ := hzr k u hu
    exact ⟨n, d, p, h1, h2, h3, h4⟩
  obtain ⟨kvs, hkvs, hkl⟩ : ∃ kvs : List (Key × V), kvs = (List.zip (ds.map (·.1)) ns).map (fun p => ((Sum.inr p.1 : Key), V.int p.2)) ∧ kvs.length = ds.length := ⟨_, rfl, by rw [List.length_map, List.length_zip, List.length_map]; omega⟩
  have hkat : ∀ (i : Nat) d n, ds[i]? = some d → ns[i]? = some n → kvs[i]? = some (.inr d.1, .int n) := fun i d n h1 h2 => by
    have : (List.zip (ds.map (·.1)) ns)[i]? = some (d.1, n) := List.getElem?_zip_eq_some.mpr ⟨by rw [List.getElem?_map, h1]; rfl, h2⟩
    rw [hkvs, List.getElem?_map, this]
    rfl
  obtain ⟨ps, hps⟩ := refs_of (ys := zs) fun i v e => by
    obtain ⟨_, p, _, _, h, _⟩ := hzr i v e
    exact ⟨p, h⟩
  walk_at "aw"
  refine ⟨al, ps, kvs, rfl, by rw [← hps]; exact SqL.of eal, paired_of (by have := congrArg List.length hps; rw [List.length_map] at this; omega) fun i p kv e1 e2 => ?_, fun dd hdd => ?_⟩
  · have hz : zs[i]? = some (.ref p) := by rw [hps, List.getElem?_map, e1]; rfl
    have hil := (List.getElem?_eq_some_iff.mp hz).1
    have hn : ns[i]? = some ns[i] := List.getElem?_eq_getElem (by omega)
    obtain ⟨d, p', h1, h2, h3, _⟩ := hns i _ _ hz hn
    cases h2
    rw [hkat i d _ h1 hn] at e2
    cases e2
    exact SqT.of h3
  have a5 : Adv [] H4 (upd H4 dd (.dK (mergeK [] kvs))) := Adv.new hdd
  have ed5 : (upd H4 dd (.dK (mergeK [] kvs))) dd = some (.dK (mergeK [] kvs)) := upd_same
  generalize upd H4 dd (.dK (mergeK [] kvs)) = H5 at a5 ed5
  have g5 := g4.new a5
  have odd := (g4.ok.ne hdd).1
  have getD : ∀ x ∈ ds.map (·.1), ∃ n : Int, valV (mergeK [] kvs) (.inr x) = some (.int n) ∧ n.natAbs ≤ 200 := fun x hx => by
    have h1 := merge_in kvs [] (.inr x) (.inr (by
      obtain ⟨d, hd, rfl⟩ := List.mem_map.mp hx
      obtain ⟨i, hi, rfl⟩ := List.mem_iff_getElem.mp hd
      exact List.mem_map.mpr ⟨_, List.mem_of_getElem? (hkat i _ _ (List.getElem?_eq_getElem hi) (List.getElem?_eq_getElem (by omega : i < ns.length))), rfl⟩))
    obtain ⟨v, hv⟩ := Option.ne_none_iff_exists'.mp h1
    obtain ⟨n, h2, h3⟩ := merge_P (P := fun v => ∃ n : Int, v = .int n ∧ n.natAbs ≤ 200) kvs [] (fun k v e => by simp [valV] at e) (fun p hp => by
      obtain ⟨i, hi, rfl⟩ := List.mem_iff_getElem.mp hp
      have hd : ds[i]? = some ds[i] := List.getElem?_eq_getElem (by omega)
      have hn : ns[i]? = some ns[i] := List.getElem?_eq_getElem (by omega)
      have := hkat i _ _ hd hn
      rw [List.getElem?_eq_getElem hi] at this
      rw [Option.some.inj this]
      obtain ⟨_, _, _, _, _, h4⟩ := hns i (zs[i]'(by omega)) _ (List.getElem?_eq_getElem (by omega)) hn
      exact ⟨_, rfl, h4⟩) (.inr x) v hv
    exact ⟨n, by rw [hv, h2], h3⟩
  walk_at "aw"
  refine w_ofL (xs := [.str "least", .str "least", .str "same"]) g5.ok rfl rfl (by simp) (by simp) fun u hu H6 g6 => ?_
  obtain ⟨b, rfl⟩ : ∃ b, u = .str (sumW b) := by
    simp only [List.mem_cons, List.not_mem_nil, or_false] at hu
    rcases hu with rfl | rfl | rfl
    · exact ⟨true, rfl⟩
    · exact ⟨true, rfl⟩
    · exact ⟨false, rfl⟩
  have g36 := g5.trans g6
  have hIs6 := hIs.up g36.tk
  obtain ⟨_, ws, e0, ett6, hws⟩ := id hIs6.tup_inv
  cases e0
  have hwl := hws.length
  rw [List.length_map] at hwl
  have ed6 := g6.keep odd ed5
  walk_at "aw"
  refine ⟨tt, rfl, ⟨_, SqT.of ett6⟩, kLc_rel (walk_tup (xs := ws)) (by omega) (fun H' a => SqT.of (a.tup _ _ ett6)) (fun _ v _ => ∃ n : Int, v = .int n) (fun _ _ _ _ _ h => h) (fun k u H7 H8 Kt hk a7 yy kt => ?_) fun nl H7 xs nnl a7 enl hxl hxr => ?_⟩
  · obtain ⟨rfl, hu⟩ := yy
    obtain ⟨D, hD, hDu⟩ := hws.get hu
    rw [List.getElem?_map] at hD
    obtain ⟨t, ht, rfl⟩ := Option.map_eq_some_iff.mp hD
    obtain ⟨tp, tv, rfl, etp, htv⟩ := (hDu.up a7.tup).tup_inv
    cases htv with
    | cons h1 t' =>
    cases t' with
    | cons h2 t' =>
    cases t'
    rw [h1.str_inv, h2.int_inv] at etp
    obtain ⟨htn, htw⟩ := hin t (List.mem_of_getElem? ht)
    obtain ⟨n, hn, hn2⟩ := getD t.1 htn
    refine w_gtup (SqT.of etp) rfl ?_
    refine w_gcons (w_gname (w_gcons (w_gname (w_gnil ⟨rfl, ?_⟩))))
    walk_at "aw"
    refine kDGet_i (k := .inr t.1) (a7.keep _ _ (fun z => nomatch z) ed6) hn ?_
    walk_at "aw"
    refine w_mul (.inl ⟨by omega, by omega⟩) ?_
    exact kt _ _ (.refl _ _) ⟨_, rfl⟩
  obtain ⟨ms, rfl⟩ := ints_of hxr
  walk_at "aw"
  refine ⟨nl, ms, rfl, SqL.of enl, ?_⟩
  walk_at "aw"
  refine w_tupW (by simp) fun tz H8 a8 etz => ?_
  refine q _ (.sums b ts ms.sum) H8 ((g1.trans g3).trans (g36.new (a7.trans a8))) (.tup etz (.cons (.str _) (.cons (hIs6.up (a7.trans a8).tup) (.cons (.int _) .nil)))) hall
theorem len__law_machine {K : PySem.W.Frag} : ∀ (vs : List V) (H : Hp) (Q : VK) (E : XK), sp__law_machine K vs H Q E → vs.length = 2 := fun vs H Q E h => by
  obtain ⟨_, _, rfl, _⟩ := h
  rfl
theorem Mvs.rows {kvs : List (List L2.Key × V)} (h : Mvs kvs) : ∀ p ∈ kvs, ∃ ns : List Int, ns ≠ [] ∧ p.1 = ns.map Sum.inl := fun p hp => by
  obtain ⟨a, b, c, rfl⟩ := h p hp
  exact ⟨[a, b], by simp, rfl⟩
theorem Mvs.get {kvs : List (List L2.Key × V)} (h : Mvs kvs) {k : List L2.Key} (hk : k ∈ kvs.map (·.1)) : ∃ c : Int, valV kvs k = some (.int c) := by
  induction kvs with
  | nil => simp at hk
  | cons p kvs ih =>
    obtain ⟨a, b, c, rfl⟩ := h p (List.mem_cons_self ..)
    by_cases e : [Sum.inl a, Sum.inl b] = k
    · exact ⟨c, valV_pos e⟩
    · rw [valV_neg e]
      refine ih (fun q hq => h q (List.mem_cons_of_mem _ hq)) ?_
      rw [List.map_cons] at hk
      rcases List.mem_cons.mp hk with z | z
      · exact absurd z.symm e
      · exact z
theorem pure__law_machine {K : PySem.W.Frag} (vs : List V) (H : Hp) (Q : VK) (E : XK) (h : sp__law_machine K vs H Q E) : t__law_machine K { nx := fun _ H' => Q .non H', rt := Q } (start ["tape", "some", "moves", "stands", "values", "stand", "value", "ends", "k", "rows", "key", "one"] vs) H := by
  obtain ⟨st, l, rfl, cs, us, ds, nms, ok, el, ol, hr, uo, h3, q⟩ := h
  have hrl := hr.length
  have l1 := uo.l1
  show t__law_machine K _ [some (.ref st), some (.ref l), none, none, none, none, none, none, none, none, none, none] H
  unfold t__law_machine
  walk_at "aw"
  refine w_dnewT fun d H1 nd a1 ed => ?_
  have odf := (ok.ne nd).1
  have g1 := Go.of ok a1
  walk_at "aw"
  refine w_draw g1.ok (by decide) (by decide) fun c H2 c0 c1 g2 => ?_
  have g12 := g1.trans g2
  obtain ⟨n, hn, hn2, hn4⟩ : ∃ n : Nat, 2 + c = (n : Int) ∧ 2 ≤ n ∧ n ≤ 4 := ⟨(2 + c).toNat, by omega, by omega, by omega⟩
  walk_at "aw"
  rw [hn]
  refine ⟨l, rfl, us, ds, nms, g12.keep ol el, L2.Paired.mapP hr fun _ _ z => z.up g12.tk, uo, by omega, fun vl zs H3 a3 nvl evl hz1 hz60 => ?_⟩
  have ovl := (g2.ok.ne nvl).1
  have g3 := g12.new a3
  have ed3 := a3.keep _ _ (fun z => nomatch z) (g2.keep odf ed)
  walk_at "aw"
  refine kForR_i (n := n) (by omega) (fun i σ H' => ∃ (y5 y6 : Option V) (kvs : List (List L2.Key × V)), σ = [some (.ref st), some (.ref l), some (.ref d), some (.int (n : Nat)), some (.ref vl), y5, y6, none, none, none, none, none] ∧ Go st cs H H' ∧ H' d = some (.dT kvs) ∧ H' vl = some (.lst (zs.map V.int)) ∧ kvs.length ≤ 60 * i ∧ Mvs kvs)
    ⟨none, none, [], rfl, g3, ed3, evl, by simp, fun p hp => nomatch hp⟩ (fun i σ H' hi pp => ?_) fun σ H' pp => ?_
  · obtain ⟨y5, y6, kvs, rfl, g, ed', ev', hl, hm⟩ := pp
    walk_at "aw"
    refine kForL_i (fun j σ2 H2 => ∃ (y6 : Option V) (kvs : List (List L2.Key × V)), σ2 = [some (.ref st), some (.ref l), some (.ref d), some (.int (n : Nat)), some (.ref vl), some (.int (i : Nat)), y6, none, none, none, none, none] ∧ Go st cs H H2 ∧ H2 d = some (.dT kvs) ∧ H2 vl = some (.lst (zs.map V.int)) ∧ kvs.length ≤ 60 * i + j ∧ Mvs kvs) (SqL.of ev') ⟨y6, kvs, rfl, g, ed', ev', by omega, hm⟩
      (fun j σ2 H2 _ pp => by obtain ⟨_, _, _, _, _, e, _⟩ := pp; exact SqL.of e) (fun j u σ2 H2 hu pp => ?_) fun σ2 H2 pp => ?_
    · obtain ⟨y6, kv2, rfl, g', ed2, ev2, hl2, hm2⟩ := pp
      rw [List.getElem?_map] at hu
      obtain ⟨z, hz, rfl⟩ := Option.map_eq_some_iff.mp hu
      have hjl := (List.getElem?_eq_some_iff.mp hz).1
      walk_at "aw"
      refine w_draw g'.ok (by decide) (by decide) fun c2 H4 _ _ g4 => ?_
      walk_at "aw"
      have ed4 := g4.keep odf ed2
      have ev4 := g4.keep ovl ev2
      refine w_iteB (fun hb => ?_) fun hb => ?_
      · walk_at "aw"
        refine w_draw g4.ok (by omega) (by omega) fun c3 H5 _ _ g5 => ?_
        walk_at "aw"
        refine w_tupD (by simp) fun t H6 nt a6 et => ?_
        have g46 := g4.trans (g5.new a6)
        have ed6 := a6.keep _ _ (fun z => nomatch z) (g5.keep odf ed4)
        have ev6 := a6.keep _ _ (fun z => nomatch z) (g5.keep ovl ev4)
        walk_at "aw"
        refine kDPutT_i (k := [Sum.inl (i : Int), Sum.inl z]) ed6 et (by omega) ?_
        refine ⟨_, _, rfl, (g'.trans g46).mutT ok nd ed6, upd_same, ?_, by have := length_putK kv2 [Sum.inl (i : Int), Sum.inl z] (.int c3); omega, hm2.put⟩
        rw [upd_ne (ne_of ev6 ed6 (fun z => by cases z))]
        exact ev6
      · walk_at "aw"
        exact ⟨_, kv2, rfl, g'.trans g4, ed4, ev4, by omega, hm2⟩
    · obtain ⟨y6, kv2, rfl, g', ed2, ev2, hl2, hm2⟩ := pp
      rw [List.length_map] at hl2
      exact ⟨_, _, kv2, rfl, g', ed2, ev2, by omega, hm2⟩
  obtain ⟨y5, y6, kvs, rfl, g, ed', ev', hl, hm⟩ := pp
  walk_at "aw"
  rw [show ((n : Nat) : Int) + 1 = ((n + 1 : Nat) : Int) by omega]
  refine kLcR_some (n := n + 1) (by omega) g.ok (fun _ v _ => ∃ k : Int, v = .int k) (fun _ => True) (fun _ _ _ _ _ h => h) (fun j H4 Kt Kf hj g4 kt kf => ?_) fun endl H4 ks ys nel g4 eel hky hkp hkn _ hyr => ?_
  · walk_at "aw"
    refine ⟨rfl, ?_⟩
    walk_at "aw"
    refine w_draw g4.ok (by decide) (by decide) fun c3 H5 _ _ g5 => ?_
    walk_at "aw"
    refine w_iteB (fun hb => ?_) fun hb => ?_
    · walk_at "aw"
      exact kt _ _ g5 ⟨_, rfl⟩
    · exact kf _ g5 trivial
  have hyn : ys.length ≤ 10 := by
    have nd : ks.Nodup := hkp.imp fun h => Nat.ne_of_lt h
    have h1 := nd.length_le_of_subset (fun k hk => List.mem_range.mpr (hkn k hk) : ∀ k ∈ ks, k ∈ List.range (n + 1))
    rw [List.length_range] at h1
    omega
  obtain ⟨es, rfl⟩ := ints_of fun i v e => hyr i (ks[i]'(by have := (List.getElem?_eq_some_iff.mp e).1; omega)) v (List.getElem?_eq_getElem (by have := (List.getElem?_eq_some_iff.mp e).1; omega)) e
  rw [List.length_map] at hyn
  have gg := g.trans g4
  walk_at "aw"
  refine w_tupL (SqL.of eel) fun te H5 nte a5 ete => ?_
  have ed5 := a5.keep _ _ (fun z => nomatch z) (g4.keep odf ed')
  have g5 := g4.new a5
  walk_at "aw"
  refine ⟨d, kvs, rfl, .inl ed5, hm.rows, by omega, fun r ps nr hps hperm => ?_⟩
  have hpl : ps.length = kvs.length := by
    have := hperm.length_eq
    rwa [List.length_map, List.length_map] at this
  have a6 : Adv [] H5 (upd H5 r (.lst (ps.map fun q => V.ref q.1))) := Adv.new nr
  have er6 : (upd H5 r (.lst (ps.map fun q => V.ref q.1))) r = some (.lst (ps.map fun q => V.ref q.1)) := upd_same
  generalize upd H5 r (.lst (ps.map fun q => V.ref q.1)) = H6 at a6 er6
  have ed6 := a6.keep _ _ (fun z => nomatch z) ed5
  have hin : ∀ p ∈ ps, ∃ a b : Int, p.2 = [a, b] ∧ ∃ cc : Int, valV kvs (p.2.map Sum.inl) = some (.int cc) := fun p hp => by
    have h1 := hperm.subset (List.mem_map_of_mem (f := fun q : Addr × List Int => q.2.map (Sum.inl : Int → L2.Key)) hp)
    obtain ⟨kv, hkv, e⟩ := List.mem_map.mp h1
    obtain ⟨a, b, cc, rfl⟩ := hm kv hkv
    refine ⟨a, b, ?_, hm.get h1⟩
    have e2 : ([a, b] : List Int).map (Sum.inl : Int → L2.Key) = p.2.map Sum.inl := e
    exact ((List.map_inj_right (f := fun n : Int => (Sum.inl n : L2.Key)) fun a b z => Sum.inl.inj z).mp e2).symm
  walk_at "aw"
  refine ⟨r, rfl, ⟨_, SqL.of er6⟩, kLc_rel (walk_list (xs := ps.map fun q => V.ref q.1)) (by rw [List.length_map]; omega) (fun H' a => SqL.of (a.keep _ _ (fun z => nomatch z) er6)) (fun _ u H' => ∃ row : List Int, TupAt H' u row ∧ row.length = 3) (fun _ _ _ _ kk ⟨row, h1, h2⟩ => ⟨row, h1.up kk, h2⟩) (fun k u H7 H8 Kt hk a7 yy kt => ?_) fun rl H7 xs nrl a7 erl hxl hxr => ?_⟩
  · obtain ⟨rfl, hu⟩ := yy
    rw [List.getElem?_map] at hu
    obtain ⟨p, hp, rfl⟩ := Option.map_eq_some_iff.mp hu
    obtain ⟨a, b, e2, cc, hcc⟩ := hin p (List.mem_of_getElem? hp)
    have hrow := (a6.trans a7).tup _ _ (hps p (List.mem_of_getElem? hp)).1
    walk_at "aw"
    refine ⟨rfl, ?_⟩
    walk_at "aw"
    refine kDGet_t (k := p.2.map Sum.inl) (a7.keep _ _ (fun z => nomatch z) ed6) (by rw [keyInts]; exact hrow) hcc ?_
    walk_at "aw"
    refine w_tupW (by simp) fun t1 H9 a9 et1 => ?_
    refine w_catT' (a9.tup _ _ hrow) et1 (by rw [e2]; simp) fun t2 HA aA et2 => ?_
    exact kt _ _ (a9.trans aA) ⟨p.2 ++ [cc], ⟨t2, rfl, by rw [et2, List.map_append]; rfl⟩, by rw [e2]; rfl⟩
  rw [List.length_map] at hxl
  obtain ⟨rows, hrl2, hrows⟩ := list_choose (xs := xs) (P := fun _ u (row : List Int) => TupAt H7 u row ∧ row.length = 3) fun i u hu => hxr i u hu
  have ht : TupsAt H7 xs rows := paired_ix (by omega) fun i u row h1 h2 => (hrows i u row h1 h2).1
  walk_at "aw"
  refine w_tupL (SqL.of erl) fun rt H8 nrt a8 ert => ?_
  have g8 := gg.new (a5.trans (a6.trans (a7.trans a8)))
  have g48 := g4.new (a5.trans (a6.trans (a7.trans a8)))
  have hr8 : Paired (fun u d => UnkP H8 u d) us ds := L2.Paired.mapP hr fun _ _ z => z.up g8.tk
  walk_at "aw"
  refine w_nms (g8.keep ol el) hr8 (by omega) (fun _ => rfl) (fun _ => rfl) fun nl H9 nnl a9 enl => ?_
  walk_at "aw"
  refine w_tupL (SqL.of enl) fun nt HA nnt aA ent => ?_
  have gA := g8.new (a9.trans aA)
  walk_at "aw"
  refine w_draw gA.ok (by omega) (by omega) fun sd HB _ _ gB => ?_
  walk_at "aw"
  refine w_slA (gB.tk _ _ ((a9.trans aA).tup _ _ ert)) fun st2 HC aC estC => ?_
  rw [cut_to _ (by decide)] at estC
  walk_at "aw"
  refine w_tupW (by simp) fun tz HD aD etz => ?_
  have kAD : TK H8 HD := TK.trans (a9.trans aA).tup (TK.trans gB.tk (aC.trans aD).tup)
  have ht2 : TupsAt HD (xs.take 40) (rows.take 40) := paired_ix (by rw [List.length_take, List.length_take, hrl2]) fun i u row h1 h2 => by
    rw [List.getElem?_take] at h1 h2
    split at h1
    · rw [if_pos (by assumption)] at h2
      exact (paired_at ht h1 h2).up (TK.trans a8.tup kAD)
    · cases h1
  have tis : ∀ {us : List V} {rs : List (List Int)}, TupsAt HD us rs → IsAll HD (rs.map rowP) us := fun h => by
    induction h with
    | nil => exact .nil
    | cons a t ih =>
      obtain ⟨p, rfl, e⟩ := a
      exact .cons (.tup e (IsAll.ints _)) ih
  refine q _ (.flat 4 (ds.map (·.1)) [.int sd, .tuple ((rows.take 40).map rowP), .tuple (es.map .int)]) HD (gA.trans (gB.new (aC.trans aD))) (.tup etz (.cons (.str _) (.cons (.tup ((aC.trans aD).tup _ _ (gB.tk _ _ ent)) (IsAll.strs _)) (.cons (.int _) (.cons (.tup (aD.tup _ _ estC) (tis ht2)) (.cons (.tup (kAD _ _ (((a6.trans (a7.trans a8)).tup _ _ ete))) (IsAll.ints es)) .nil)))))) ⟨uo.all, by simp, fun D hD => ?_⟩
  simp only [List.mem_cons, List.not_mem_nil, or_false] at hD
  rcases hD with rfl | rfl | rfl
  · exact .int _
  · refine .tup _ (by rw [List.length_map, List.length_take]; omega) fun D hD => ?_
    obtain ⟨rr, hrr, rfl⟩ := List.mem_map.mp hD
    obtain ⟨i, hi, e⟩ := List.mem_iff_getElem.mp (List.mem_of_mem_take hrr)
    have := (hrows i (xs[i]'(by omega)) _ (List.getElem?_eq_getElem (by omega)) (List.getElem?_eq_getElem hi)).2
    rw [e] at this
    exact sme_ints4 rr (by omega)
  · exact sme_ints4 es (by omega)
end AW
namespace AW
open PySem PySem.Spec PyProof.Rows L2 RZ
open StX
local macro_rules | `(tactic| walk_at "aw1") => `(tactic| first
  | (with_reducible refine w_seq ?_) | (with_reducible refine w_asg ?_) | (with_reducible refine w_gname ?_) | (with_reducible refine w_op ?_) | (with_reducible refine w_un ?_)
  | ((with_reducible refine' w_var ?h ?_); (case h => rfl)) | (with_reducible refine w_c ?_)
  | (with_reducible refine w_I0 ?_) | (with_reducible refine w_U ?_) | (with_reducible refine w_cb ?_) | (with_reducible refine w_nil ?_) | (with_reducible refine w_cons ?_) | (with_reducible refine w_call ?_)
  | (with_reducible refine w_test ?_) | (with_reducible refine w_B ?_) | (with_reducible refine w_bl ?_) | (with_reducible refine w_not ?_) | (with_reducible refine w_yes ?_) | (with_reducible refine iteT ?_) | (with_reducible refine iteF ?_) | (with_reducible refine w_and ?_) | (with_reducible refine w_or ?_)
  | (with_reducible refine w_andV ?_) | (with_reducible refine w_orV ?_) | (with_reducible refine w_notV ?_) | (with_reducible refine w_if ?_)
  | (with_reducible refine w_int1 ?_) | (with_reducible refine w_int1b ?_) | (with_reducible refine w_abs ?_) | (with_reducible refine w_max2 ?_) | (with_reducible refine w_min2 ?_)
  | ((with_reducible refine w_eq ?h ?_); (case h => rfl)) | ((with_reducible refine w_ne ?h ?_); (case h => rfl)) | (with_reducible refine w_isN ?_) | (with_reducible refine w_isB ?_) | (with_reducible refine w_chain ?_)
  | (with_reducible refine w_ret ?_) | (with_reducible refine w_drop ?_) | (with_reducible refine w_ifS ?_) | (with_reducible refine w_gsub ?_) | (with_reducible refine w_augS ?_) | (with_reducible refine w_ipI ?_) | (with_reducible refine w_next ?_)
  | (with_reducible refine w_forR ?_) | (with_reducible refine w_forR2 ?_) | (with_reducible refine w_forL ?_) | (with_reducible refine w_forT ?_) | (with_reducible refine w_lcR ?_) | (with_reducible refine w_lcL ?_) | (with_reducible refine w_lcT ?_) | (with_reducible refine w_sl ?_) | (with_reducible refine w_part ?_) | (with_reducible refine w_noPart ?_) | (with_reducible refine w_in ?_)
  | (with_reducible refine w_gcons ?_) | (with_reducible refine w_gnil ?_) | (with_reducible refine w_lc3 ?_) | (with_reducible refine w_dcZ ?_) | (with_reducible refine w_dcT ?_) | (with_reducible refine w_dg ?_) | (with_reducible refine w_callK ?_) | (with_reducible refine w_dput ?_) | (with_reducible refine w_tup1 ?_)
  | (with_reducible refine w_tup ?_) | (with_reducible refine w_lst ?_)
  | ((with_reducible refine w_I ?h ?_); (case h => first | (exact Or.inr ⟨by decide, by decide⟩) | (exact Or.inl ⟨by decide, by decide⟩) | (show (0 : Int) < _; decide) | (exact ⟨by decide, by decide, by decide⟩) | assumption)))
local macro_rules | `(tactic| walk_at "aw") => `(tactic| repeat (walk_at "aw1"))
def sp__law_saying (_ : PySem.W.Frag) (m : Nat) : Sp := fun vs H Q _ => ∃ (st : Addr) (v : V) (n : Nat), vs = [.ref st, v, .int (n : Nat)] ∧ ∃ cs doms nms, StOk st cs H ∧ UnkS st cs H v doms ∧ UOk nms doms ∧ n < m ∧ n ≤ 1 ∧ ∀ w s H', Go st cs H H' → Is H' (Sy.D s) w → s.ok nms n → Q w H'
theorem Sy.ok_up {nms : List Str} : ∀ {s : Sy} {m n : Nat}, s.ok nms m → m ≤ n → s.ok nms n
  | .sums .., _, _, h, _ => h
  | .claim _, _, _, h, _ => h
  | .when _ y, _, _, h, z => ⟨h.1, by have := h.2.1; omega, Sy.ok_up h.2.2 (by omega)⟩
  | .prod .., _, _, h, _ => h
  | .pick .., _, _, h, _ => h
  | .top .., _, _, h, _ => h
  | .ahead .., _, _, h, _ => h
  | .flat .., _, _, h, _ => h
section
variable {K : PySem.W.Frag} {σ : L2.St} {H : Hp} {te : TE} {Q : VK} {t1 t2 : TS} {E : Ends}
theorem ifI {i : Nat} {w c : Int} (hi : σ[i]? = some (some (.int w))) (q1 : w = c → t1 E σ H) (q2 : ¬ w = c → t2 E σ H) : tIfS (tTest (tOp rEq (tVar i) (tC (.int c)))) t1 t2 E σ H := by
  refine ⟨_, hi, rfl, _, rfl, ?_⟩
  by_cases e : w = c
  · exact iteT'' (decide_eq_true (by rw [e])) (q1 e)
  · exact iteF'' (decide_eq_false fun z => e (V.int.inj z)) (q2 e)
theorem ifII {i : Nat} {w c c' : Int} (hi : σ[i]? = some (some (.int w))) (q1 : w = c ∨ w = c' → t1 E σ H) (q2 : ¬ (w = c ∨ w = c') → t2 E σ H) : tIfS (tOr (tTest (tOp rEq (tVar i) (tC (.int c)))) (tTest (tOp rEq (tVar i) (tC (.int c'))))) t1 t2 E σ H := by
  refine ⟨_, hi, rfl, _, rfl, ?_⟩
  by_cases e : w = c
  · refine iteT'' (decide_eq_true (by rw [e])) ?_
    exact iteT'' rfl (q1 (.inl e))
  · refine iteF'' (decide_eq_false fun z => e (V.int.inj z)) ?_
    refine ⟨_, hi, rfl, _, rfl, ?_⟩
    by_cases e' : w = c'
    · exact iteT'' (decide_eq_true (by rw [e'])) (q1 (.inr e'))
    · exact iteF'' (decide_eq_false fun z => e' (V.int.inj z)) (q2 fun z => z.elim e e')
end
theorem cut_strs (xs : List Str) (lo hi : Option Int) : ∃ ys : List Str, cutV (xs.map V.str) lo hi = ys.map V.str ∧ ys.length ≤ xs.length ∧ ∀ y ∈ ys, y ∈ xs :=
  ⟨(xs.drop (HT.sIx xs.length 0 lo)).take (HT.sIx xs.length xs.length hi - HT.sIx xs.length 0 lo), by unfold cutV; rw [List.length_map, List.map_take, List.map_drop], by rw [List.length_take, List.length_drop]; omega, fun y hy => List.mem_of_mem_drop (List.mem_of_mem_take hy)⟩
theorem AllIn.sub {nms xs ys : List Str} (h : AllIn nms xs) (hl : ys.length ≤ xs.length) (s : ∀ y ∈ ys, y ∈ xs) : AllIn nms ys := ⟨Nat.le_trans hl h.1, fun y hy => h.2 y (s y hy)⟩
theorem inV_int (x : Int) (xs : List Int) : inV (.int x) (xs.map V.int) = decide (x ∈ xs) := by
  unfold inV
  rw [Bool.eq_iff_iff, List.any_map, List.any_eq_true, decide_eq_true_iff]
  constructor
  · rintro ⟨y, hy, e⟩
    have : y = x := by simpa [eqV] using e
    exact this ▸ hy
  · intro h
    exact ⟨x, h, by simp [eqV]⟩
def t__law_saying (K : PySem.W.Frag) (m : Nat) : TS := (tSeq (tAsg (tCall (sp__law_draw K) [] E0 (tCons (tVar 0) (tCons (tOp rAddI (tC (.int 13)) (tOp rMulI (tC (.int 4)) (tVar 2))) tNil))) (gName 3))
  (tSeq (tAsg (tCB (rLen1 K) (tCons (tVar 1) tNil)) (gName 4))
  (tSeq (tIfS (tOr (tTest (tOp rEq (tVar 3) (tC (.int 0)))) (tAnd (tTest (tOp (rIn K false) (tVar 3) (tLst (tCons (tC (.int 4)) (tCons (tC (.int 5)) (tCons (tC (.int 6)) (tCons (tC (.int 7)) tNil))))))) (tTest (tOp rLtI (tVar 4) (tOp (rIxL K) (tLst (tCons (tC (.int 2)) (tCons (tC (.int 2)) (tCons (tC (.int 3)) (tCons (tC (.int 3)) tNil))))) (tOp rSubI (tVar 3) (tC (.int 4)))))))) (tRet (tCall (sp__law_sum_of K) [] E0 (tCons (tVar 0) (tCons (tVar 1) tNil)))) tNext)
  (tSeq (tIfS (tTest (tOp rEq (tVar 3) (tC (.int 1)))) (tRet (tTup (tCons (tC (.str "unlike")) (tCons (tThen (tLc (iList K (tCall (sp__law_some K) [] E0 (tCons (tVar 0) (tCons (tVar 1) (tCons (tC (.int 1)) (tCons (tC (.int 5)) tNil)))))) (gName 5) tYes (tOp (rIxT K) (tVar 5) (tC (.int 0))) [5]) (kTup K)) tNil)))) tNext)
  (tSeq (tIfS (tTest (tOp rEq (tVar 3) (tC (.int 2)))) (tRet (tCall (sp__law_counted K) [] E0 (tCons (tVar 0) (tCons (tVar 1) tNil)))) tNext)
  (tSeq (tIfS (tOr (tTest (tOp rEq (tVar 3) (tC (.int 3)))) (tTest (tOp rEq (tVar 3) (tC (.int 8))))) (tSeq (tAsg (tCall (sp__law_some K) [] E0 (tCons (tVar 0) (tCons (tVar 1) (tCons (tC (.int 1)) (tCons (tC (.int 3)) tNil))))) (gName 6))
  (tSeq (tAsg (tCall (sp__law_rows_of K) [] E0 (tCons (tVar 0) (tCons (tVar 6) (tCons (tOp rAddI (tC (.int 5)) (tOp rMulI (tC (.int 3)) (tCB rInt1 (tCons (tOp rEq (tVar 3) (tC (.int 3))) tNil)))) tNil)))) (gName 7))
  (tRet (tTup (tCons (tOp (rIxL K) (tLst (tCons (tC (.str "bar")) (tCons (tC (.str "table")) tNil))) (tCB rInt1 (tCons (tOp rEq (tVar 3) (tC (.int 3))) tNil))) (tCons (tThen (tLc (iList K (tVar 6)) (gName 5) tYes (tOp (rIxT K) (tVar 5) (tC (.int 0))) [5]) (kTup K)) (tCons (tVar 7) tNil))))))) tNext)
  (tSeq (tIfS (tTest (tOp rEq (tVar 3) (tC (.int 4)))) (tSeq (tAsg (tLc (iList K (tCall (sp__law_some K) [] E0 (tCons (tVar 0) (tCons (tVar 1) (tCons (tC (.int 2)) (tCons (tC (.int 4)) tNil)))))) (gName 5) tYes (tOp (rIxT K) (tVar 5) (tC (.int 0))) [5]) (gName 8))
  (tRet (tTup (tCons (tC (.str "top")) (tCons (tThen (tSl (rSlL K) (tVar 8) (tPart (tC (.int 1))) tNoPart) (kTup K)) (tCons (tOp (rIxL K) (tVar 8) (tC (.int 0))) tNil)))))) tNext)
  (tSeq (tIfS (tTest (tOp rEq (tVar 3) (tC (.int 5)))) (tSeq (tAsg (tLc (iList K (tCall (sp__law_some K) [] E0 (tCons (tVar 0) (tCons (tVar 1) (tCons (tC (.int 2)) (tCons (tC (.int 4)) tNil)))))) (gName 5) tYes (tOp (rIxT K) (tVar 5) (tC (.int 0))) [5]) (gName 8))
  (tSeq (tAsg (tOp rDivI (tCB (rLen1 K) (tCons (tVar 8) tNil)) (tC (.int 2))) (gName 9))
  (tRet (tTup (tCons (tC (.str "ahead")) (tCons (tThen (tSl (rSlL K) (tVar 8) tNoPart (tPart (tVar 9))) (kTup K)) (tCons (tThen (tSl (rSlL K) (tVar 8) (tPart (tVar 9)) (tPart (tOp rMulI (tC (.int 2)) (tVar 9)))) (kTup K)) tNil))))))) tNext)
  (tSeq (tIfS (tTest (tOp rEq (tVar 3) (tC (.int 6)))) (tSeq (tAsg (tLc (iList K (tCall (sp__law_some K) [] E0 (tCons (tVar 0) (tCons (tVar 1) (tCons (tC (.int 3)) (tCons (tC (.int 4)) tNil)))))) (gName 5) tYes (tOp (rIxT K) (tVar 5) (tC (.int 0))) [5]) (gName 8))
  (tRet (tTup (tCons (tC (.str "pick")) (tCons (tOp (rIxL K) (tVar 8) (tC (.int 0))) (tCons (tThen (tSl (rSlL K) (tVar 8) (tPart (tC (.int 2))) tNoPart) (kTup K)) (tCons (tOp (rIxL K) (tVar 8) (tC (.int 1))) tNil))))))) tNext)
  (tSeq (tIfS (tTest (tOp rEq (tVar 3) (tC (.int 7)))) (tRet (tOp (rCatA K) (tTup (tCons (tC (.str "product")) tNil)) (tThen (tLc (iList K (tCall (sp__law_some K) [] E0 (tCons (tVar 0) (tCons (tVar 1) (tCons (tC (.int 3)) (tCons (tC (.int 3)) tNil)))))) (gName 5) tYes (tOp (rIxT K) (tVar 5) (tC (.int 0))) [5]) (kTup K)))) tNext)
  (tSeq (tIfS (tTest (tOp rEq (tVar 3) (tC (.int 9)))) (tRet (tCall (sp__law_machine K) [] E0 (tCons (tVar 0) (tCons (tCall (sp__law_some K) [] E0 (tCons (tVar 0) (tCons (tVar 1) (tCons (tC (.int 1)) (tCons (tC (.int 3)) tNil))))) tNil)))) tNext)
  (tSeq (tIfS (tTest (tOp rEq (tVar 3) (tC (.int 10)))) (tSeq (tAsg (tCall (sp__law_some K) [] E0 (tCons (tVar 0) (tCons (tVar 1) (tCons (tC (.int 1)) (tCons (tC (.int 4)) tNil))))) (gName 6))
  (tSeq (tAsg (tThen (tLc (iList K (tVar 6)) (gName 5) tYes (tOp rAddI (tC (.int 1)) (tCall (sp__law_draw K) [] E0 (tCons (tVar 0) (tCons (tC (.int 3)) tNil)))) [5]) (kTup K)) (gName 10))
  (tSeq (tAsg (tThen (tLc (iList K (tVar 6)) (gName 5) tYes (tCall (sp__law_draw K) [] E0 (tCons (tVar 0) (tCons (tC (.int 4)) tNil))) [5]) (kTup K)) (gName 11))
  (tRet (tTup (tCons (tC (.str "works")) (tCons (tThen (tLc (iList K (tVar 6)) (gName 5) tYes (tOp (rIxT K) (tVar 5) (tC (.int 0))) [5]) (kTup K)) (tCons (tVar 10) (tCons (tVar 11) (tCons (tOp rAddI (tC (.int 1)) (tCall (sp__law_draw K) [] E0 (tCons (tVar 0) (tCons (tC (.int 5)) tNil)))) tNil)))))))))) tNext)
  (tSeq (tIfS (tTest (tOp rEq (tVar 3) (tC (.int 11)))) (tRet (tTup (tCons (tC (.str "round")) (tCons (tThen (tLc (iList K (tCall (sp__law_some K) [] E0 (tCons (tVar 0) (tCons (tVar 1) (tCons (tC (.int 1)) (tCons (tC (.int 3)) tNil)))))) (gName 5) tYes (tOp (rIxT K) (tVar 5) (tC (.int 0))) [5]) (kTup K)) tNil)))) tNext)
  (tSeq (tIfS (tTest (tOp rEq (tVar 3) (tC (.int 12)))) (tRet (tTup (tCons (tC (.str "claim")) (tCons (tCall (sp__law_claim K 4) [] E0 (tCons (tVar 0) (tCons (tVar 1) (tCons (tC (.int 2)) tNil)))) tNil)))) tNext)
  (tSeq (tIfS (tAnd (tTest (tOp rGtI (tVar 3) (tC (.int 14)))) (tTest (tOp rGtI (tVar 4) (tC (.int 1))))) (tSeq (tAsg (tCall (sp__law_some K) [] E0 (tCons (tVar 0) (tCons (tVar 1) (tCons (tC (.int 2)) (tCons (tC (.int 2)) tNil))))) (gName 6))
  (tRet (tTup (tCons (tC (.str "when")) (tCons (tCall (sp__law_claim K 4) [] E0 (tCons (tVar 0) (tCons (tSl (rSlL K) (tVar 6) tNoPart (tPart (tC (.int 1)))) (tCons (tC (.int 1)) tNil)))) (tCons (tTup (tCons (tC (.str "claim")) (tCons (tCall (sp__law_claim K 4) [] E0 (tCons (tVar 0) (tCons (tSl (rSlL K) (tVar 6) (tPart (tC (.int 1))) tNoPart) (tCons (tC (.int 1)) tNil)))) tNil))) tNil)))))) tNext)
  (tRet (tTup (tCons (tC (.str "when")) (tCons (tCall (sp__law_claim K 4) [] E0 (tCons (tVar 0) (tCons (tVar 1) (tCons (tC (.int 1)) tNil)))) (tCons (tCall (sp__law_saying K m) [] E0 (tCons (tVar 0) (tCons (tVar 1) (tCons (tC (.int 0)) tNil)))) tNil))))))))))))))))))))
theorem len__law_saying {K : PySem.W.Frag} {m : Nat} : ∀ (vs : List V) (H : Hp) (Q : VK) (E : XK), sp__law_saying K m vs H Q E → vs.length = 3 := fun vs H Q E h => by
  obtain ⟨_, _, _, rfl, _⟩ := h
  rfl
theorem no__law_saying {K : PySem.W.Frag} {vs : List V} {H : Hp} {Q : VK} {E : XK} (h : sp__law_saying K 0 vs H Q E) : False := by
  obtain ⟨_, _, _, _, _, _, _, _, _, _, h, _⟩ := h
  exact absurd h (Nat.not_lt_zero _)
theorem pure__law_saying {K : PySem.W.Frag} {m : Nat} (vs : List V) (H : Hp) (Q : VK) (E : XK) (h : sp__law_saying K (m + 1) vs H Q E) : t__law_saying K m { nx := fun _ H' => Q .non H', rt := Q } (start ["tape", "unknowns", "deep", "way", "n", "one", "some", "rows", "names", "half", "lengths", "needs"] vs) H := by
  obtain ⟨st, v, n, rfl, cs, doms, nms, ok, hu, uo, hnm, hn1, q⟩ := h
  obtain ⟨p, us, rfl, ep, hr⟩ := id hu
  have hrl := hr.length
  have l1 := uo.l1
  have l2 := uo.l2
  show t__law_saying K m _ [some (.ref st), some (.ref p), some (.int (n : Nat)), none, none, none, none, none, none, none, none, none] H
  unfold t__law_saying
  walk_at "aw"
  refine w_draw ok (by omega) (by omega) fun way H1 w0 w1 g1 => ?_
  have hu1 := hu.go g1
  walk_at "aw"
  have ep1 : H1 p = some (.tup us) ∨ (H1 p = some (.lst us) ∧ Off p st cs) := by
    rcases ep with e | e
    · exact .inl (g1.tk _ _ e)
    · exact .inr ⟨g1.keep e.2 e.1, e.2⟩
  refine ⟨.ref p, us.length, rfl, ?_, ?_⟩
  · rcases ep1 with e | e
    · exact .inr ⟨us, SqT.of e, rfl⟩
    · exact .inl ⟨us, SqL.of e.1, rfl⟩
  rw [hrl]
  with_reducible refine w_gname ?_
  -- the sums, also for kinds that want more unknowns
  have mul4 : way < 13 + 4 * (n : Int) := w1
  with_reducible refine w_seqJ (fun σ' H' => σ' = [some (.ref st), some (.ref p), some (.int (n : Nat)), some (.int way), some (.int (doms.length : Nat)), none, none, none, none, none, none, none] ∧ Go st cs H1 H' ∧ (way = 4 ∨ way = 5 → 2 ≤ doms.length) ∧ (way = 6 ∨ way = 7 → 3 ≤ doms.length) ∧ way ≠ 0) (fun N hN => ?_) fun σ' H2 pp => ?_
  · have sums : ∀ H' : Hp, Go st cs H1 H' → tRet (tCall (sp__law_sum_of K) [] E0 (tCons (tVar 0) (tCons (tVar 1) tNil))) { nx := N, rt := Q } [some (.ref st), some (.ref p), some (.int (n : Nat)), some (.int way), some (.int (doms.length : Nat)), none, none, none, none, none, none, none] H' := fun H' g => by
      walk_at "aw"
      exact ⟨st, .ref p, rfl, cs, doms, nms, g.ok, hu1.go g, uo, fun w s H3 g3 hw hs => q w s H3 ((g1.trans g).trans g3) hw (Sy.ok_up hs (Nat.zero_le _))⟩
    walk_at "aw"
    refine w_iteB (fun hb => ?_) fun hb => ?_
    · exact sums H1 (.refl g1.ok)
    · have w00 : way ≠ 0 := fun z => hb (by rw [z])
      walk_at "aw"
      refine w_lstD (by simp) fun l3 H3 nl3 a3 el3 => ?_
      refine w_inL (xs := ([4, 5, 6, 7] : List Int).map V.int) el3 rfl rfl ?_
      rw [inV_int]
      refine ⟨_, rfl, ?_⟩
      have g3 := Go.of g1.ok a3
      by_cases hw : way ∈ ([4, 5, 6, 7] : List Int)
      · refine iteT'' (decide_eq_true hw) ?_
        walk_at "aw"
        refine w_lstD (by simp) fun l4 H4 nl4 a4 el4 => ?_
        walk_at "aw"
        have g4 := g3.new a4
        obtain ⟨lim, hlim, h45, h67⟩ : ∃ lim : Int, atI [V.int 2, V.int 2, V.int 3, V.int 3] (way - 4) = some (.int lim) ∧ (way = 4 ∨ way = 5 → lim = 2) ∧ (way = 6 ∨ way = 7 → lim = 3) := by
          simp only [List.mem_cons, List.not_mem_nil, or_false] at hw
          rcases hw with rfl | rfl | rfl | rfl
          · exact ⟨2, rfl, fun _ => rfl, by omega⟩
          · exact ⟨2, rfl, fun _ => rfl, by omega⟩
          · exact ⟨3, rfl, by omega, fun _ => rfl⟩
          · exact ⟨3, rfl, by omega, fun _ => rfl⟩
        refine w_ixL (SqL.of el4) hlim ?_
        walk_at "aw"
        refine w_iteB (fun hb => ?_) fun hb => ?_
        · exact sums H4 g4
        · walk_at "aw"
          exact hN _ _ ⟨rfl, g4, fun z => by have := h45 z; omega, fun z => by have := h67 z; omega, w00⟩
      · refine iteF'' (decide_eq_false hw) ?_
        refine iteF'' rfl ?_
        walk_at "aw"
        exact hN _ _ ⟨rfl, g3, fun z => (hw (by rcases z with rfl | rfl <;> decide)).elim, fun z => (hw (by rcases z with rfl | rfl <;> decide)).elim, w00⟩
  obtain ⟨rfl, g12, h45, h67, w00⟩ := pp
  have g2 := g1.trans g12
  have hu2 := hu1.go g12
  have fin : ∀ (w : V) (s : Sy) (H' : Hp), Go st cs H2 H' → Is H' s.D w → s.ok nms 0 → Q w H' := fun w s H' g h1 h2 => q w s H' (g2.trans g) h1 (Sy.ok_up h2 (Nat.zero_le _))
  have ok2 := g2.ok
  clear hu1 hu ep ep1 hr g12 g1
  with_reducible refine w_seq ?_
  refine ifI rfl (fun _ => ?_) fun nw1 => ?_
  · walk_at "aw"
    refine w_someU (a := 1) (b := 5) hu2 ok2 (by decide) l1 (by decide) (by omega) fun sl made ds H3 g3 nsl esl hmade hds h1 h5 us1 => ?_
    have uo1 := uo.sub hds h1 (by omega)
    refine w_nms esl hmade (by omega) (fun _ => rfl) (fun _ => rfl) fun nl H4 nnl a4 enl => ?_
    walk_at "aw"
    refine w_tupL (SqL.of enl) fun nt H5 nnt a5 ent => ?_
    walk_at "aw"
    refine w_tupW (by simp) fun tz H6 a6 etz => ?_
    exact fin _ (.flat 0 (ds.map (·.1)) []) H6 (g3.new (a4.trans (a5.trans a6))) (.tup etz (.cons (.str _) (.cons (.tup (a6.tup _ _ ent) (IsAll.strs _)) .nil))) ⟨uo1.all, by simp, fun _ h => nomatch h⟩
  with_reducible refine w_next ?_
  with_reducible refine w_seq ?_
  refine ifI rfl (fun _ => ?_) fun nw2 => ?_
  · walk_at "aw"
    exact ⟨st, .ref p, rfl, cs, doms, nms, ok2, hu2, uo, fun w s H3 g3 hw hs => fin w s H3 g3 hw hs⟩
  with_reducible refine w_next ?_
  with_reducible refine w_seq ?_
  refine ifII rfl (fun _ => ?_) fun nw3 => ?_
  · walk_at "aw"
    refine w_someU (a := 1) (b := 3) hu2 ok2 (by decide) l1 (by decide) (by omega) fun sl made ds H3 g3 nsl esl hmade hds h1 h5 us1 => ?_
    have uo1 := uo.sub hds h1 (by omega)
    have osl := (ok2.ne nsl).1
    walk_at "aw"
    refine ⟨st, sl, _, rfl, cs, made, ds, nms, g3.ok, esl, osl, hmade, uo1, by split <;> omega, by split <;> omega, fun rt rows H4 g4 hrt hrl2 hrn => ?_⟩
    walk_at "aw"
    refine w_lstD (by simp) fun l5 H5 nl5 a5 el5 => ?_
    walk_at "aw"
    obtain ⟨k, hk⟩ : ∃ k, atI [V.str "bar", V.str "table"] (if decide (V.int way = V.int 3) = true then 1 else 0) = some (.str (flW.getD k "round")) := by
      by_cases e : way = 3
      · exact ⟨2, by rw [if_pos (decide_eq_true (by rw [e]))]; rfl⟩
      · exact ⟨3, by rw [if_neg (by simp [e])]; rfl⟩
    refine w_ixL (SqL.of el5) hk ?_
    have g45 := g4.new a5
    walk_at "aw"
    refine w_nms (g45.keep osl esl) (L2.Paired.mapP hmade fun _ _ z => z.up g45.tk) (by omega) (fun _ => rfl) (fun _ => rfl) fun nl H6 nnl a6 enl => ?_
    walk_at "aw"
    refine w_tupL (SqL.of enl) fun nt H7 nnt a7 ent => ?_
    walk_at "aw"
    refine w_tupW (by simp) fun tz H8 a8 etz => ?_
    have a58 := a5.trans (a6.trans (a7.trans a8))
    refine fin _ (.flat k (ds.map (·.1)) [.tuple (rows.map rowD)]) H8 ((g3.trans g4).new a58) (.tup etz (.cons (.str _) (.cons (.tup (a8.tup _ _ ent) (IsAll.strs _)) (.cons (hrt.up a58.tup) .nil)))) ⟨uo1.all, by simp, fun D hD => ?_⟩
    rw [List.mem_singleton.mp hD]
    refine .tup _ (by rw [List.length_map]; omega) fun D hD => ?_
    obtain ⟨r, hr, rfl⟩ := List.mem_map.mp hD
    exact sme_ints4 r (by have := hrn r hr; omega)
  with_reducible refine w_next ?_
  with_reducible refine w_seq ?_
  refine ifI rfl (fun e => ?_) fun nw4 => ?_
  · walk_at "aw"
    refine w_someU (a := 2) (b := 4) hu2 ok2 (by decide) (h45 (.inl e)) (by decide) (by omega) fun sl made ds H3 g3 nsl esl hmade hds h1 h5 us1 => ?_
    have uo1 := uo.sub hds (by omega) (by omega)
    refine w_nms esl hmade (by omega) (fun _ => rfl) (fun _ => rfl) fun nl H4 nnl a4 enl => ?_
    walk_at "aw"
    refine w_slL (SqL.of enl) fun l5 H5 nl5 a5 el5 => ?_
    obtain ⟨ys, hys, hyl, hym⟩ := cut_strs (ds.map (·.1)) (some 1) none
    rw [hys] at el5
    walk_at "aw"
    refine w_tupL (SqL.of el5) fun t6 H6 nt6 a6 et6 => ?_
    walk_at "aw"
    have h0 : (ds.map (·.1))[0]? = some ((ds.map (·.1)).getD 0 Str.empty) := by
      rw [getD_of (List.getElem?_eq_getElem (by rw [List.length_map]; omega))]
      exact List.getElem?_eq_getElem _
    refine w_ixL (SqL.of ((a5.trans a6).keep _ _ (fun z => nomatch z) enl)) (v := .str ((ds.map (·.1)).getD 0 Str.empty)) (at_nat (by decide) (by rw [List.getElem?_map]; exact (congrArg (Option.map V.str) h0))) ?_
    walk_at "aw"
    refine w_tupW (by simp) fun tz H8 a8 etz => ?_
    exact fin _ (.top ys ((ds.map (·.1)).getD 0 Str.empty)) H8 (g3.new (a4.trans (a5.trans (a6.trans a8)))) (.tup etz (.cons (.str _) (.cons (.tup (a8.tup _ _ et6) (IsAll.strs _)) (.cons (.str _) .nil)))) ⟨uo1.all.sub hyl hym, uo1.all.2 _ (List.mem_of_getElem? h0)⟩
  with_reducible refine w_next ?_
  with_reducible refine w_seq ?_
  refine ifI rfl (fun e => ?_) fun nw5 => ?_
  · walk_at "aw"
    refine w_someU (a := 2) (b := 4) hu2 ok2 (by decide) (h45 (.inr e)) (by decide) (by omega) fun sl made ds H3 g3 nsl esl hmade hds h1 h5 us1 => ?_
    have uo1 := uo.sub hds (by omega) (by omega)
    refine w_nms esl hmade (by omega) (fun _ => rfl) (fun _ => rfl) fun nl H4 nnl a4 enl => ?_
    walk_at "aw"
    refine w_lenL (SqL.of enl) ?_
    walk_at "aw"
    have hl2 : ((ds.map (·.1)).map V.str).length ≤ 4 := by rw [List.length_map, List.length_map]; omega
    refine w_I ⟨by decide, by decide⟩ ?_
    walk_at "aw"
    refine w_slL (SqL.of enl) fun l5 H5 nl5 a5 el5 => ?_
    obtain ⟨ys, hys, hyl, hym⟩ := cut_strs (ds.map (·.1)) none (some (((ds.map (·.1)).map V.str).length / 2 : Int))
    rw [hys] at el5
    walk_at "aw"
    refine w_tupL (SqL.of el5) fun t6 H6 nt6 a6 et6 => ?_
    walk_at "aw"
    refine w_slL (SqL.of ((a5.trans a6).keep _ _ (fun z => nomatch z) enl)) fun l7 H7 nl7 a7 el7 => ?_
    obtain ⟨zs, hzs, hzl, hzm⟩ := cut_strs (ds.map (·.1)) (some (((ds.map (·.1)).map V.str).length / 2 : Int)) (some (2 * (((ds.map (·.1)).map V.str).length / 2 : Int)))
    rw [hzs] at el7
    walk_at "aw"
    refine w_tupL (SqL.of el7) fun t8 H8 nt8 a8 et8 => ?_
    walk_at "aw"
    refine w_tupW (by simp) fun tz H9 a9 etz => ?_
    exact fin _ (.ahead ys zs) H9 (g3.new (a4.trans (a5.trans (a6.trans (a7.trans (a8.trans a9)))))) (.tup etz (.cons (.str _) (.cons (.tup ((a7.trans (a8.trans a9)).tup _ _ et6) (IsAll.strs _)) (.cons (.tup (a9.tup _ _ et8) (IsAll.strs _)) .nil)))) ⟨uo1.all.sub hyl hym, uo1.all.sub hzl hzm⟩
  with_reducible refine w_next ?_
  with_reducible refine w_seq ?_
  refine ifI rfl (fun e => ?_) fun nw6 => ?_
  · walk_at "aw"
    refine w_someU (a := 3) (b := 4) hu2 ok2 (by decide) (h67 (.inl e)) (by decide) (by omega) fun sl made ds H3 g3 nsl esl hmade hds h1 h5 us1 => ?_
    have uo1 := uo.sub hds (by omega) (by omega)
    refine w_nms esl hmade (by omega) (fun _ => rfl) (fun _ => rfl) fun nl H4 nnl a4 enl => ?_
    have hx : ∀ i : Nat, i < 3 → (ds.map (·.1))[i]? = some ((ds.map (·.1)).getD i Str.empty) := fun i hi => by
      rw [getD_of (List.getElem?_eq_getElem (by rw [List.length_map]; omega))]
      exact List.getElem?_eq_getElem _
    walk_at "aw"
    refine w_ixL (SqL.of enl) (v := .str ((ds.map (·.1)).getD 0 Str.empty)) (at_nat (by decide) (by rw [List.getElem?_map]; exact (congrArg (Option.map V.str) (hx 0 (by decide))))) ?_
    walk_at "aw"
    refine w_slL (SqL.of enl) fun l5 H5 nl5 a5 el5 => ?_
    obtain ⟨ys, hys, hyl, hym⟩ := cut_strs (ds.map (·.1)) (some 2) none
    rw [hys] at el5
    walk_at "aw"
    refine w_tupL (SqL.of el5) fun t6 H6 nt6 a6 et6 => ?_
    walk_at "aw"
    refine w_ixL (SqL.of ((a5.trans a6).keep _ _ (fun z => nomatch z) enl)) (v := .str ((ds.map (·.1)).getD 1 Str.empty)) (at_nat (by decide) (by rw [List.getElem?_map]; exact (congrArg (Option.map V.str) (hx 1 (by decide))))) ?_
    walk_at "aw"
    refine w_tupW (by simp) fun tz H8 a8 etz => ?_
    exact fin _ (.pick ((ds.map (·.1)).getD 0 Str.empty) ys ((ds.map (·.1)).getD 1 Str.empty)) H8 (g3.new (a4.trans (a5.trans (a6.trans a8)))) (.tup etz (.cons (.str _) (.cons (.str _) (.cons (.tup (a8.tup _ _ et6) (IsAll.strs _)) (.cons (.str _) .nil))))) ⟨uo1.all.2 _ (List.mem_of_getElem? (hx 0 (by decide))), uo1.all.sub hyl hym, uo1.all.2 _ (List.mem_of_getElem? (hx 1 (by decide)))⟩
  with_reducible refine w_next ?_
  with_reducible refine w_seq ?_
  refine ifI rfl (fun e => ?_) fun nw7 => ?_
  · walk_at "aw"
    refine w_tupW (by simp) fun tp H3 a3 etp => ?_
    walk_at "aw"
    refine w_someU (a := 3) (b := 3) (hu2.go (Go.of ok2 a3)) (Go.of ok2 a3).ok (by decide) (h67 (.inr e)) (by decide) (by omega) fun sl made ds H4 g4 nsl esl hmade hds h1 h5 us1 => ?_
    have uo1 := uo.sub hds (by omega) (by omega)
    refine w_nms esl hmade (by omega) (fun _ => rfl) (fun _ => rfl) fun nl H5 nnl a5 enl => ?_
    walk_at "aw"
    refine w_tupL (SqL.of enl) fun t6 H6 nt6 a6 et6 => ?_
    refine w_catT' ((a5.trans a6).tup _ _ (g4.tk _ _ etp)) et6 (by rw [List.length_map, List.length_map]; simp; omega) fun t7 H7 a7 et7 => ?_
    have hal := uo1.all
    match ds, h1, h5 with
    | [x, y, z], _, _ =>
      exact fin _ (.prod x.1 y.1 z.1) H7 ((Go.of ok2 a3).trans (g4.new (a5.trans (a6.trans a7)))) (.tup et7 (.cons (.str _) (.cons (.str _) (.cons (.str _) (.cons (.str _) .nil))))) ⟨hal.2 _ (by simp), hal.2 _ (by simp), hal.2 _ (by simp)⟩
  with_reducible refine w_next ?_
  with_reducible refine w_seq ?_
  refine ifI rfl (fun e => ?_) fun nw8 => ?_
  · walk_at "aw"
    refine w_someU (a := 1) (b := 3) hu2 ok2 (by decide) l1 (by decide) (by omega) fun sl made ds H3 g3 nsl esl hmade hds h1 h5 us1 => ?_
    walk_at "aw"
    exact ⟨st, sl, rfl, cs, made, ds, nms, g3.ok, esl, (ok2.ne nsl).1, hmade, uo.sub hds h1 (by omega), h5, fun w s H4 g4 hw hs => fin w s H4 (g3.trans g4) hw hs⟩
  with_reducible refine w_next ?_
  with_reducible refine w_seq ?_
  refine ifI rfl (fun e => ?_) fun nw9 => ?_
  · walk_at "aw"
    refine w_someU (a := 1) (b := 4) hu2 ok2 (by decide) l1 (by decide) (by omega) fun sl made ds H3 g3 nsl esl hmade hds h1 h5 us1 => ?_
    have uo1 := uo.sub hds h1 (by omega)
    have osl := (ok2.ne nsl).1
    have hml := hmade.length
    walk_at "aw"
    refine kLcL_all (xs := made) (SqL.of esl) osl (by omega) g3.ok (fun _ v _ => ∃ k : Int, v = .int k) (fun _ _ _ _ _ h => h) (fun j x H4 Kt e g4 kt => ?_) fun al H4 ys nal g4 eal hyl hyr => ?_
    · walk_at "aw"
      refine ⟨rfl, ?_⟩
      walk_at "aw"
      refine w_draw g4.ok (by decide) (by decide) fun c H5 _ _ g5 => ?_
      walk_at "aw"
      exact kt _ _ g5 ⟨_, rfl⟩
    obtain ⟨as, rfl⟩ := ints_of hyr
    rw [List.length_map] at hyl
    walk_at "aw"
    refine w_tupL (SqL.of eal) fun ta H5 nta a5 eta => ?_
    have g35 := g4.new a5
    walk_at "aw"
    refine kLcL_all (xs := made) (SqL.of (g35.keep osl esl)) osl (by omega) g35.ok (fun _ v _ => ∃ k : Int, v = .int k) (fun _ _ _ _ _ h => h) (fun j x H6 Kt e g6 kt => ?_) fun bl H6 zs nbl g6 ebl hzl hzr => ?_
    · walk_at "aw"
      refine ⟨rfl, ?_⟩
      walk_at "aw"
      exact w_draw g6.ok (by decide) (by decide) fun c H7 _ _ g7 => kt _ _ g7 ⟨_, rfl⟩
    obtain ⟨bs, rfl⟩ := ints_of hzr
    rw [List.length_map] at hzl
    walk_at "aw"
    refine w_tupL (SqL.of ebl) fun tb H7 ntb a7 etb => ?_
    have g37 := g35.trans (g6.new a7)
    walk_at "aw"
    refine w_nms (g37.keep osl esl) (L2.Paired.mapP hmade fun _ _ z => z.up g37.tk) (by omega) (fun _ => rfl) (fun _ => rfl) fun nl H8 nnl a8 enl => ?_
    walk_at "aw"
    refine w_tupL (SqL.of enl) fun nt H9 nnt a9 ent => ?_
    have g39 := g37.new (a8.trans a9)
    walk_at "aw"
    refine w_draw g39.ok (by decide) (by decide) fun c HA _ _ gA => ?_
    walk_at "aw"
    refine w_tupW (by simp) fun tz HB aB etz => ?_
    have k79 : TK H7 HB := TK.trans (a8.trans a9).tup (gA.new aB).tk
    have k59 : TK H5 HB := TK.trans (g6.new a7).tk k79
    refine fin _ (.flat 5 (ds.map (·.1)) [.tuple (as.map .int), .tuple (bs.map .int), .int (1 + c)]) HB (g3.trans (g39.trans (gA.new aB))) (.tup etz (.cons (.str _) (.cons (.tup ((gA.new aB).tk _ _ ent) (IsAll.strs _)) (.cons (.tup (k59 _ _ eta) (IsAll.ints _)) (.cons (.tup (k79 _ _ etb) (IsAll.ints _)) (.cons (.int _) .nil)))))) ⟨uo1.all, by simp, fun D hD => ?_⟩
    simp only [List.mem_cons, List.not_mem_nil, or_false] at hD
    rcases hD with rfl | rfl | rfl
    · exact sme_ints4 as (by omega)
    · exact sme_ints4 bs (by omega)
    · exact .int _
  with_reducible refine w_next ?_
  with_reducible refine w_seq ?_
  refine ifI rfl (fun e => ?_) fun nw10 => ?_
  · walk_at "aw"
    refine w_someU (a := 1) (b := 3) hu2 ok2 (by decide) l1 (by decide) (by omega) fun sl made ds H3 g3 nsl esl hmade hds h1 h5 us1 => ?_
    have uo1 := uo.sub hds h1 (by omega)
    refine w_nms esl hmade (by omega) (fun _ => rfl) (fun _ => rfl) fun nl H4 nnl a4 enl => ?_
    walk_at "aw"
    refine w_tupL (SqL.of enl) fun nt H5 nnt a5 ent => ?_
    walk_at "aw"
    refine w_tupW (by simp) fun tz H6 a6 etz => ?_
    exact fin _ (.flat 6 (ds.map (·.1)) []) H6 (g3.new (a4.trans (a5.trans a6))) (.tup etz (.cons (.str _) (.cons (.tup (a6.tup _ _ ent) (IsAll.strs _)) .nil))) ⟨uo1.all, by simp, fun _ h => nomatch h⟩
  with_reducible refine w_next ?_
  with_reducible refine w_seq ?_
  refine ifI rfl (fun e => ?_) fun nw11 => ?_
  · walk_at "aw"
    refine ⟨st, .ref p, 2, rfl, cs, doms, nms, ok2, hu2, uo, by decide, fun w D H3 g3 hw hD => ?_⟩
    walk_at "aw"
    refine w_tupW (by simp) fun tz H4 a4 etz => ?_
    exact fin _ (.claim D) H4 (g3.new a4) (.tup etz (.cons (.str _) (.cons (hw.up a4.tup) .nil))) (hD.le (by decide))
  with_reducible refine w_next ?_
  have hn : n = 1 := by omega
  subst hn
  have fin1 : ∀ (w : V) (D : PyData) (s : Sy) (H' : Hp), Go st cs H2 H' → Is H' (Sy.D (.when D s)) w → ClO nms 4 D → s.ok nms 0 → Q w H' := fun w D s H' g h1 h2 h3 => q w (.when D s) H' (g2.trans g) h1 ⟨h2, by decide, h3⟩
  have last : ∀ H' : Hp, Go st cs H2 H' → tRet (tTup (tCons (tC (.str "when")) (tCons (tCall (sp__law_claim K 4) [] E0 (tCons (tVar 0) (tCons (tVar 1) (tCons (tC (.int 1)) tNil)))) (tCons (tCall (sp__law_saying K m) [] E0 (tCons (tVar 0) (tCons (tVar 1) (tCons (tC (.int 0)) tNil)))) tNil)))) { nx := fun _ H' => Q .non H', rt := Q } [some (.ref st), some (.ref p), some (.int (1 : Nat)), some (.int way), some (.int (doms.length : Nat)), none, none, none, none, none, none, none] H' := fun H' g => by
    walk_at "aw"
    refine ⟨st, .ref p, 1, rfl, cs, doms, nms, g.ok, hu2.go g, uo, by decide, fun w D H3 g3 hw hD => ?_⟩
    walk_at "aw"
    refine ⟨st, .ref p, 0, rfl, cs, doms, nms, g3.ok, hu2.go (g.trans g3), uo, by omega, by decide, fun w2 s H4 g4 hw2 hs => ?_⟩
    walk_at "aw"
    refine w_tupW (by simp) fun tz H5 a5 etz => ?_
    exact fin1 _ D s H5 (g.trans (g3.trans (g4.new a5))) (.tup etz (.cons (.str _) (.cons ((hw.up g4.tk).up a5.tup) (.cons (hw2.up a5.tup) .nil)))) (hD.le (by decide)) hs
  with_reducible refine w_seq ?_
  with_reducible refine w_ifS ?_
  walk_at "aw"
  refine w_iteB (fun hb => ?_) fun hb => ?_
  · walk_at "aw"
    refine w_iteB (fun hb2 => ?_) fun hb2 => ?_
    · walk_at "aw"
      refine w_someU (a := 2) (b := 2) hu2 ok2 (by decide) (by omega) (by decide) (by omega) fun sl made ds H3 g3 nsl esl hmade hds h1 h5 us1 => ?_
      have uo1 := uo.sub hds (by omega) (by omega)
      have osl := (ok2.ne nsl).1
      have hml := hmade.length
      have hun : ∀ (ms : List V) (es : List (Str × List Int)) (l : Addr) (H' : Hp), Paired (fun u d => UnkP H' u d) ms es → H' l = some (.lst ms) → Off l st cs → UnkS st cs H' (.ref l) es := fun ms es l H' h e o => ⟨l, ms, rfl, .inr ⟨e, o⟩, h⟩
      walk_at "aw"
      refine w_slL (SqL.of esl) fun l4 H4 nl4 a4 el4 => ?_
      rw [cut_to _ (by decide)] at el4
      have g4 := g3.new a4
      have o4 := (g3.ok.ne nl4).1
      have hm4 : Paired (fun u d => UnkP H4 u d) (made.take 1) (ds.take 1) := paired_ix (by rw [List.length_take, List.length_take, hml]) fun i u d h1 h2 => by
        rw [List.getElem?_take] at h1 h2
        split at h1
        · rw [if_pos (by assumption)] at h2
          exact (paired_at hmade h1 h2).up a4.tup
        · cases h1
      walk_at "aw"
      refine ⟨st, .ref l4, 1, rfl, cs, ds.take 1, nms, g4.ok, hun _ _ l4 H4 hm4 el4 o4, uo1.sub (fun d hd => List.mem_of_mem_take hd) (by rw [List.length_take]; omega) (by rw [List.length_take]; omega), by decide, fun w D H5 g5 hw hD => ?_⟩
      walk_at "aw"
      have g45 := (Go.of g3.ok a4).trans g5
      refine w_slL (SqL.of (g45.keep osl esl)) fun l6 H6 nl6 a6 el6 => ?_
      rw [cut_from _ (by decide)] at el6
      have g6 := g45.new a6
      have o6 := (g5.ok.ne nl6).1
      have hm6 : Paired (fun u d => UnkP H6 u d) (made.drop 1) (ds.drop 1) := paired_ix (by rw [List.length_drop, List.length_drop, hml]) fun i u d h1 h2 => by
        rw [List.getElem?_drop] at h1 h2
        exact (paired_at hmade h1 h2).up g6.tk
      walk_at "aw"
      refine ⟨st, .ref l6, 1, rfl, cs, ds.drop 1, nms, g6.ok, hun _ _ l6 H6 hm6 el6 o6, uo1.sub (fun d hd => List.mem_of_mem_drop hd) (by rw [List.length_drop]; omega) (by rw [List.length_drop]; omega), by decide, fun w2 D2 H7 g7 hw2 hD2 => ?_⟩
      walk_at "aw"
      refine w_tupW (by simp) fun t8 H8 a8 et8 => ?_
      walk_at "aw"
      refine w_tupW (by simp) fun t9 H9 a9 et9 => ?_
      have k5 := TK.trans (a6.tup) (TK.trans g7.tk (a8.trans a9).tup)
      exact fin1 _ D (.claim D2) H9 (g3.trans (g6.trans (g7.new (a8.trans a9)))) (.tup et9 (.cons (.str _) (.cons (hw.up k5) (.cons (.tup (a9.tup _ _ et8) (.cons (.str _) (.cons (hw2.up (a8.trans a9).tup) .nil))) .nil)))) (hD.le (by decide)) (hD2.le (by decide))
    · with_reducible refine w_next ?_
      exact last H2 (.refl ok2)
  · refine iteF'' rfl ?_
    with_reducible refine w_next ?_
    exact last H2 (.refl ok2)
end AW
/-! rows: mathematics; a right view -/
namespace AW
open PySem PySem.Spec PyProof.Rows L2 RZ
theorem rowI_P (r : List Int) : rowI (rowP r) = r := by
  unfold rowI rowP
  dsimp only
  rw [List.map_map]
  exact (List.map_congr_left fun x _ => rfl).trans (List.map_id r)
theorem foldR_len (cols : List (List Int)) : ∀ rows : List (List Int), (cols.foldl stepR rows).length = (cols.map (·.length)).foldl (· * ·) rows.length := by
  induction cols with
  | nil => intro rows; rfl
  | cons c cols ih =>
    intro rows
    rw [List.foldl_cons, List.map_cons, List.foldl_cons, ih, stepR_len]
theorem allR_many (cols : List (List Int)) : (allR cols).length = manyR cols := foldR_len cols [[]]
theorem foldR_in (cols : List (List Int)) : ∀ (rows pre : List (List Int)), (∀ r ∈ rows, Paired (fun x c => x ∈ c) r pre) → ∀ r ∈ cols.foldl stepR rows, Paired (fun x c => x ∈ c) r (pre ++ cols) := by
  induction cols with
  | nil =>
    intro rows pre h r hr
    rw [List.append_nil]
    exact h r hr
  | cons c cols ih =>
    intro rows pre h r hr
    rw [List.foldl_cons] at hr
    rw [show pre ++ c :: cols = (pre ++ [c]) ++ cols by simp]
    refine ih _ _ (fun r' hr' => ?_) r hr
    obtain ⟨r0, h1, h2⟩ := List.mem_flatMap.mp hr'
    obtain ⟨v, hv, rfl⟩ := List.mem_map.mp h2
    exact paired_app (h r0 h1) (.cons hv .nil)
theorem allR_in {cols : List (List Int)} {r : List Int} (h : r ∈ allR cols) : Paired (fun x c => x ∈ c) r cols := by
  have := foldR_in cols [[]] [] (fun r hr => by rw [List.mem_singleton.mp hr]; exact .nil) r h
  rwa [List.nil_append] at this
theorem lex_last (r : List Int) {a b : Int} (h : a < b) : HT.lexLt (r ++ [a]) (r ++ [b]) = true := by
  induction r with
  | nil =>
    rw [List.nil_append, List.nil_append, HT.lexLt_cons, if_neg (by omega)]
    exact decide_eq_true h
  | cons x r ih => rw [List.cons_append, List.cons_append, HT.lexLt_cons, if_pos rfl, ih]
theorem lex_front : ∀ {r1 r2 : List Int} {a b : Int}, r1.length = r2.length → HT.lexLt r1 r2 = true → HT.lexLt (r1 ++ [a]) (r2 ++ [b]) = true
  | [], [], _, _, _, h => by simp [HT.lexLt] at h
  | x :: r1, y :: r2, a, b, hl, h => by
    rw [HT.lexLt_cons] at h
    rw [List.cons_append, List.cons_append, HT.lexLt_cons]
    by_cases e : x = y
    · rw [if_pos e] at h ⊢
      exact lex_front (by simpa using hl) h
    · rw [if_neg e] at h ⊢
      exact h
  | [], _ :: _, _, _, hl, _ => by simp at hl
  | _ :: _, [], _, _, hl, _ => by simp at hl
theorem foldR_asc (cols : List (List Int)) : ∀ (rows : List (List Int)) (n : Nat), (∀ c ∈ cols, c.Pairwise (· < ·)) → (∀ r ∈ rows, r.length = n) → rows.Pairwise (fun a b => HT.lexLt a b = true) → (cols.foldl stepR rows).Pairwise (fun a b => HT.lexLt a b = true) := by
  induction cols with
  | nil => intro rows n _ _ h; exact h
  | cons c cols ih =>
    intro rows n hc hn h
    rw [List.foldl_cons]
    refine ih _ (n + 1) (fun d hd => hc d (List.mem_cons_of_mem _ hd)) (fun r hr => ?_) ?_
    · obtain ⟨r0, h1, h2⟩ := List.mem_flatMap.mp hr
      obtain ⟨v, hv, rfl⟩ := List.mem_map.mp h2
      rw [List.length_append, hn r0 h1]
      rfl
    · unfold stepR
      rw [List.pairwise_flatMap]
      refine ⟨fun r hr => ?_, ?_⟩
      · rw [List.pairwise_map]
        exact (hc c (List.mem_cons_self ..)).imp fun hab => lex_last r hab
      · refine List.Pairwise.imp_of_mem (fun {r1 r2} h1 h2 h12 => ?_) h
        intro x hx y hy
        obtain ⟨v, _, rfl⟩ := List.mem_map.mp hx
        obtain ⟨u, _, rfl⟩ := List.mem_map.mp hy
        exact lex_front ((hn r1 h1).trans (hn r2 h2).symm) h12
theorem allR_asc {cols : List (List Int)} (h : ∀ c ∈ cols, c.Pairwise (· < ·)) : (allR cols).Pairwise (fun a b => HT.lexLt a b = true) :=
  foldR_asc cols [[]] 0 h (fun r hr => by rw [List.mem_singleton.mp hr]; rfl) (List.pairwise_singleton ..)
theorem ascR_of {rs : List (List Int)} (h : rs.Pairwise (fun a b => HT.lexLt a b = true)) : ascR rs = true := by
  unfold ascR
  rw [List.all_map, List.all_eq_true]
  intro k hk
  have hk := List.mem_range.mp hk
  show HT.lexLt (rs.getD k []) (rs.getD (k + 1) []) = true
  rw [getD_of (List.getElem?_eq_getElem (show k < rs.length by omega)), getD_of (List.getElem?_eq_getElem (show k + 1 < rs.length by omega))]
  exact List.pairwise_iff_getElem.mp h k (k + 1) (by omega) (by omega) (by omega)
structure RowsOk (cols : List (List Int)) (dom : List Int) (rs : List (List Int)) : Prop where
  rows : Paired (fun r fr => ∃ v ∈ dom, r = fr ++ [v]) rs (allR cols)
  c1 : 1 ≤ cols.length
  c3 : cols.length ≤ 3
  ne : ∀ c ∈ cols, c ≠ []
  asc : ∀ c ∈ cols, c.Pairwise (· < ·)
  l : (allR cols).length ≤ 256
theorem RowsOk.len {cols : List (List Int)} {dom : List Int} {rs : List (List Int)} (h : RowsOk cols dom rs) : rs.length = manyR cols := by rw [h.rows.length, allR_many]
theorem many_pos (cols : List (List Int)) : ∀ n : Nat, 0 < n → (∀ c ∈ cols, c ≠ []) → 0 < (cols.map (·.length)).foldl (· * ·) n := by
  induction cols with
  | nil => intro n hn _; exact hn
  | cons c cols ih =>
    intro n hn h
    rw [List.map_cons, List.foldl_cons]
    exact ih _ (Nat.mul_pos hn (List.length_pos_iff.mpr (h c (List.mem_cons_self ..)))) fun d hd => h d (List.mem_cons_of_mem _ hd)
theorem RowsOk.pos {cols : List (List Int)} {dom : List Int} {rs : List (List Int)} (h : RowsOk cols dom rs) : 0 < rs.length := by
  rw [h.len]
  exact many_pos cols 1 (by decide) h.ne
theorem RowsOk.fronts {cols : List (List Int)} {dom : List Int} {rs : List (List Int)} (h : RowsOk cols dom rs) : rs.map List.dropLast = allR cols := by
  have := h.rows
  clear h
  generalize allR cols = fs at this
  induction this with
  | nil => rfl
  | cons a t ih =>
    obtain ⟨v, _, rfl⟩ := a
    rw [List.map_cons, List.dropLast_concat, ih]
theorem RowsOk.row {cols : List (List Int)} {dom : List Int} {rs : List (List Int)} (h : RowsOk cols dom rs) {r : List Int} (hr : r ∈ rs) : ∃ fr v, r = fr ++ [v] ∧ v ∈ dom ∧ fr ∈ allR cols ∧ Paired (fun x c => x ∈ c) fr cols := by
  obtain ⟨i, hi, rfl⟩ := List.mem_iff_getElem.mp hr
  have hl := h.rows.length
  have hj : (allR cols)[i]? = some (allR cols)[i] := List.getElem?_eq_getElem (by omega)
  obtain ⟨v, hv, e⟩ := paired_at h.rows (List.getElem?_eq_getElem hi) hj
  exact ⟨_, v, e, hv, List.getElem_mem _, allR_in (List.getElem_mem _)⟩
theorem rowB_true {cols : List (List Int)} {r : List Int} (h : Paired (fun x c => x ∈ c) r cols) : rowB cols (rowP r) = true := by
  unfold rowB rowP
  dsimp only
  rw [Bool.and_eq_true]
  refine ⟨decide_eq_true (by rw [List.length_map, h.length]), ?_⟩
  rw [List.all_map, List.all_eq_true]
  intro i hi
  have hi := List.mem_range.mp hi
  have hl := h.length
  show cellB ((r.map PyData.int).getD i .none) (cols.getD i []) = true
  have hr : r[i]? = some r[i] := List.getElem?_eq_getElem (by omega)
  have hc : cols[i]? = some cols[i] := List.getElem?_eq_getElem (by omega)
  rw [getD_of (show (r.map PyData.int)[i]? = some (.int r[i]) by rw [List.getElem?_map, hr]; rfl), getD_of hc]
  exact decide_eq_true (paired_at h hr hc)
theorem RowsOk.right {cols : List (List Int)} {dom : List Int} {rs : List (List Int)} (h : RowsOk cols dom rs) : rowsB cols dom (rowsD rs) = true := by
  unfold rowsB rowsD
  dsimp only
  have h1 := h.pos
  have h2 := h.l
  have h3 := h.rows.length
  have e : ((rs.map rowP).map fun r => (rowI r).dropLast) = allR cols := by
    rw [← h.fronts, List.map_map]
    exact List.map_congr_left fun r _ => by show (rowI (rowP r)).dropLast = r.dropLast; rw [rowI_P]
  rw [e, ascR_of (allR_asc h.asc), List.length_map, h.len, decide_eq_true rfl, decide_eq_true (by rw [← h.len]; omega), decide_eq_true (by rw [← h.len]; omega)]
  have : (rs.map rowP).all (rowB (cols ++ [dom])) = true := by
    rw [List.all_map, List.all_eq_true]
    intro r hr
    obtain ⟨fr, v, rfl, hv, _, hp⟩ := h.row hr
    exact rowB_true (paired_app hp (.cons hv .nil))
  rw [this]
  rfl
/-! wrong rows -/
section
variable {cols : List (List Int)} {dom : List Int} {ds : List PyData}
end
theorem sw_ints {k : Nat} (xs : List Int) : ∀ d ∈ xs.map PyData.int, Sw k d := fun d hd => by
  obtain ⟨x, hx, rfl⟩ := List.mem_map.mp hd
  exact .int x
theorem sw_strs {k : Nat} {xs : List Str} (h : ∀ x ∈ xs, okS x) : ∀ d ∈ xs.map PyData.str, Sw k d := fun d hd => by
  obtain ⟨x, hx, rfl⟩ := List.mem_map.mp hd
  exact .str (h x hx)
theorem domF_of {doms : List (Str × List Int)} (nd : (doms.map (·.1)).Nodup) {s : Str × List Int} (h : s ∈ doms) : domF doms s.1 = s.2 := by
  have h1 := domF_mem nd (List.mem_map_of_mem (f := (·.1)) h)
  obtain ⟨i, hi, e1⟩ := List.mem_iff_getElem.mp h
  obtain ⟨j, hj, e2⟩ := List.mem_iff_getElem.mp h1
  have : i = j := nodup_inj nd (x := s.1) (by rw [List.getElem?_map, List.getElem?_eq_getElem hi, e1]; rfl) (by rw [List.getElem?_map, List.getElem?_eq_getElem hj, e2]; rfl)
  subst this
  rw [e1] at e2
  exact (congrArg Prod.snd e2).symm
theorem cols_of {doms : List (Str × List Int)} (nd : (doms.map (·.1)).Nodup) {ss : List (Str × List Int)} (h : ∀ s ∈ ss, s ∈ doms) : (((ss.map (·.1)).map PyData.str).map fun x => domF doms (txtD x)) = ss.map (·.2) := by
  rw [List.map_map, List.map_map]
  exact List.map_congr_left fun s hs => domF_of nd (h s hs)
theorem allR_le {n : Nat} {ds : List (List Int)} (h : ∀ d ∈ ds, d.length ≤ n) : ∀ i, i ≤ ds.length → (allR (ds.take i)).length ≤ n ^ i
  | 0, _ => by simp [allR]
  | i + 1, hi => by
    have hd : ds[i]? = some ds[i] := List.getElem?_eq_getElem (by omega)
    rw [allR_take hd, stepR_len, Nat.pow_succ]
    exact Nat.mul_le_mul (allR_le h i (by omega)) (h _ (List.getElem_mem _))
theorem allR_64 {ds : List (List Int)} (h : ∀ d ∈ ds, d.length ≤ 4) (h3 : ds.length ≤ 3) : (allR ds).length ≤ 64 := by
  have := allR_le h ds.length (Nat.le_refl _)
  rw [List.take_of_length_le (Nat.le_refl _)] at this
  exact Nat.le_trans this (Nat.le_trans (Nat.pow_le_pow_right (by decide) h3) (by decide))
theorem ItmOk.rowsOk {doms : List (Str × List Int)} {dom : List Int} {it : Itm} {w : Nat} (h : ItmOk doms dom it) (m : MdlOk w doms) (hl : (allR (it.1.map (·.2))).length ≤ 256) : RowsOk (it.1.map (·.2)) dom it.2 where
  rows := h.rows
  c1 := by rw [List.length_map]; exact h.l1
  c3 := by rw [List.length_map]; exact h.l3
  ne := fun c hc => by
    obtain ⟨s, hs, rfl⟩ := List.mem_map.mp hc
    have := (m.dm s (h.mem s hs)).l1
    intro z
    rw [z] at this
    simp at this
  asc := fun c hc => by
    obtain ⟨s, hs, rfl⟩ := List.mem_map.mp hc
    exact (m.dm s (h.mem s hs)).asc
  l := hl
theorem ItmOk.l64 {doms : List (Str × List Int)} {dom : List Int} {it : Itm} {w : Nat} (h : ItmOk doms dom it) (m : MdlOk w doms) (hw : w ≤ 4) : (allR (it.1.map (·.2))).length ≤ 64 := allR_64 (fun c hc => by
    obtain ⟨s, hs, rfl⟩ := List.mem_map.mp hc
    exact Nat.le_trans (m.dm s (h.mem s hs)).l2 hw) (by rw [List.length_map]; exact h.l3)
theorem unk_right {nms xs : List Str} (h1 : 1 ≤ xs.length) (h3 : xs.length ≤ 3) (nd : xs.Nodup) (h : ∀ x ∈ xs, x ∈ nms) : unkB nms (.tuple (xs.map .str)) 3 = true := by
  unfold unkB
  dsimp only
  have e : (xs.map PyData.str).map txtD = xs := by
    rw [List.map_map]
    exact (List.map_congr_left fun x _ => rfl).trans (List.map_id xs)
  have a : (xs.map PyData.str).all (nameIn nms) = true := by
    rw [List.all_map, List.all_eq_true]
    intro x hx
    exact decide_eq_true (h x hx)
  rw [e, a, List.length_map, decide_eq_true (show (1 : Int) ≤ (xs.length : Nat) by omega), decide_eq_true (show ((xs.length : Nat) : Int) ≤ 3 by omega), decide_eq_true nd]
  rfl
theorem ItmOk.right {doms : List (Str × List Int)} {dom : List Int} {it : Itm} {w : Nat} (h : ItmOk doms dom it) (m : MdlOk w doms) (hl : (allR (it.1.map (·.2))).length ≤ 256) : itmB doms dom (itmD it) = true := by
  show (unkB (doms.map (·.1)) (.tuple ((it.1.map (·.1)).map .str)) 3 && rowsB (((it.1.map (·.1)).map PyData.str).map fun x => domF doms (txtD x)) dom (rowsD it.2)) = true
  rw [cols_of m.nd h.mem, (h.rowsOk m hl).right, unk_right (by rw [List.length_map]; exact h.l1) (by rw [List.length_map]; exact h.l3) h.nd fun x hx => by
    obtain ⟨s, hs, rfl⟩ := List.mem_map.mp hx
    exact List.mem_map_of_mem (h.mem s hs)]
  rfl
theorem tup_is {H : Hp} {u : V} {r : List Int} (h : TupAt H u r) : Is H (rowP r) u := by
  obtain ⟨a, rfl, e⟩ := h
  exact .tup e (IsAll.ints r)
theorem tups_is {H : Hp} {us : List V} {rs : List (List Int)} (h : TupsAt H us rs) : IsAll H (rs.map rowP) us := by
  induction h with
  | nil => exact .nil
  | cons a t ih => exact .cons (tup_is a) ih
theorem ItmAt.is {H : Hp} {u : V} {it : Itm} (h : ItmAt H u it) : Is H (itmD it) u := by
  obtain ⟨p, a, b, vs, rfl, e1, e2, e3, hr⟩ := h
  exact .tup e1 (.cons (.tup e2 (IsAll.strs _)) (.cons (.tup e3 (tups_is hr)) .nil))
theorem items_is {H : Hp} {us : List V} {L : List Itm} (h : Paired (fun u it => ItmAt H u it) us L) : IsAll H (L.map itmD) us := by
  induction h with
  | nil => exact .nil
  | cons a t ih => exact .cons a.is ih
theorem itm_sw {doms : List (Str × List Int)} {dom : List Int} {it : Itm} {w : Nat} (h : ItmOk doms dom it) (m : MdlOk w doms) (hl : it.2.length ≤ 300) : Sw 3 (itmD it) := by
  refine .tup (by simp) fun d hd => ?_
  simp only [List.mem_cons, List.not_mem_nil, or_false] at hd
  have h3 := h.l3
  rcases hd with rfl | rfl
  · refine (Sw.tup (k := 1) (by rw [List.length_map, List.length_map]; omega) (sw_strs fun x hx => ?_))
    obtain ⟨s, hs, rfl⟩ := List.mem_map.mp hx
    exact (m.nm _ (List.mem_map_of_mem (h.mem s hs))).1
  · refine .tup (by rw [List.length_map]; exact hl) fun d hd => ?_
    obtain ⟨r, hr, rfl⟩ := List.mem_map.mp hd
    obtain ⟨i, hi, rfl⟩ := List.mem_iff_getElem.mp hr
    have hlen := h.rows.length
    have hi2 : i < (allR (it.1.map (·.2))).length := by omega
    obtain ⟨v, _, e2⟩ := paired_at h.rows (List.getElem?_eq_getElem hi) (List.getElem?_eq_getElem hi2)
    have hrow := allR_row (ds := it.1.map (·.2)) (it.1.map (·.2)).length (Nat.le_refl _) _ (by rw [List.take_length]; exact List.getElem_mem hi2)
    rw [List.length_map] at hrow
    refine .tup ?_ (sw_ints _)
    rw [List.length_map, e2, List.length_append, hrow]
    simp
    omega
theorem view_sw {d1 d2 : List (Str × List Int)} {L : List Itm} {w : Nat} (m : MdlOk w d1) (h : Paired (fun it d => ItmOk d1 d.2 it) L d2) (hl : ∀ it ∈ L, it.2.length ≤ 300) (h2 : d2.length ≤ 300) : Sw 4 (.tuple (L.map itmD)) := by
  refine .tup (by rw [List.length_map, h.length]; exact h2) fun d hd => ?_
  obtain ⟨it, hit, rfl⟩ := List.mem_map.mp hd
  obtain ⟨i, hi, rfl⟩ := List.mem_iff_getElem.mp hit
  have hlen := h.length
  exact itm_sw (paired_at h (List.getElem?_eq_getElem hi) (List.getElem?_eq_getElem (show i < d2.length by omega))) m (hl _ (List.getElem_mem _))
theorem vw_none {d1 d2 : List (Str × List Int)} {is : List PyData} (hl : is.length = d2.length) (h : ∀ (i : Nat) D d, is[i]? = some D → d2[i]? = some d → itmB d1 d.2 D = true) : vwB d1 d2 (.tuple is) = none := by
  unfold vwB
  dsimp only
  rw [if_pos hl, Option.map_eq_none_iff, List.find?_eq_none]
  intro k hk
  have hk' := List.mem_range.mp hk
  have e1 : is[k]? = some is[k] := List.getElem?_eq_getElem hk'
  have e2 : d2[k]? = some d2[k] := List.getElem?_eq_getElem (by omega)
  rw [getD_of e1, getD_of e2, h k _ _ e1 e2]
  decide
theorem SmE.mono : ∀ {m n : Nat} {d : PyData}, SmE m d → m ≤ n → SmE n d
  | _, 0, _, .bl _, h => absurd h (by omega)
  | _, 0, _, .int _, h => absurd h (by omega)
  | _, 0, _, .non, h => absurd h (by omega)
  | _, 0, _, .str _, h => absurd h (by omega)
  | _, 0, _, .tup .., h => absurd h (by omega)
  | _, n + 1, _, .bl b, _ => .bl b
  | _, n + 1, _, .int i, _ => .int i
  | _, n + 1, _, .non, _ => .non
  | _, n + 1, _, .str x, _ => .str x
  | _, n + 1, _, .tup ds hl h, z => .tup ds hl fun d hd => SmE.mono (h d hd) (by omega)
theorem ClO.sme {nms : List Str} {m : Nat} {d : PyData} (h : ClO nms m d) : SmE (2 * m + 1) d := by
  induction h with
  | @one m x v b hx =>
    refine SmE.mono (m := 2) (.tup _ (by simp) fun d hd => ?_) (by omega)
    simp only [List.mem_cons, List.not_mem_nil, or_false] at hd
    rcases hd with rfl | rfl | rfl
    · exact .str _
    · exact .str _
    · exact .int _
  | @neg m d h ih =>
    refine SmE.mono (m := (2 * m + 1) + 1) (.tup _ (by simp) fun d hd => ?_) (by omega)
    simp only [List.mem_cons, List.not_mem_nil, or_false] at hd
    rcases hd with rfl | rfl
    · exact .str _
    · exact ih
  | @many m b ds hl h ih =>
    refine SmE.mono (m := ((2 * m + 1) + 1) + 1) (.tup _ (by simp) fun d hd => ?_) (by omega)
    simp only [List.mem_cons, List.not_mem_nil, or_false] at hd
    rcases hd with rfl | rfl
    · exact .str _
    · exact .tup _ (by omega) fun d hd => ih d hd
theorem ClO.ren {nms : List Str} {f : Str → Str} {m : Nat} {d : PyData} (h : ClO nms m d) : ClO (nms.map f) m (renC f m d) := by
  induction h with
  | one b hx => exact .one b (List.mem_map_of_mem hx)
  | neg h ih =>
    rw [renC_neg]
    exact .neg ih
  | many b ds hl h ih =>
    rw [renC_many]
    refine .many b _ (by rw [List.length_map]; exact hl) fun d hd => ?_
    · obtain ⟨e, he, rfl⟩ := List.mem_map.mp hd
      exact ih e he
theorem AllIn.ren {nms xs : List Str} {f : Str → Str} (h : AllIn nms xs) : AllIn (nms.map f) (xs.map f) := ⟨by rw [List.length_map]; exact h.1, fun x hx => by
  obtain ⟨y, hy, rfl⟩ := List.mem_map.mp hx
  exact List.mem_map_of_mem (h.2 y hy)⟩
theorem Sy.ok_ren {nms : List Str} {f : Str → Str} : ∀ {s : Sy} {m : Nat}, s.ok nms m → (s.ren f).ok (nms.map f) m
  | .sums b ts n, _, h => by
    have := AllIn.ren (f := f) h
    show AllIn _ ((ts.map fun t => (f t.1, t.2)).map (·.1))
    rw [List.map_map] at this ⊢
    exact this
  | .claim _, _, h => ClO.ren h
  | .when _ s, _, h => ⟨ClO.ren h.1, h.2.1, Sy.ok_ren h.2.2⟩
  | .prod .., _, h => ⟨List.mem_map_of_mem h.1, List.mem_map_of_mem h.2.1, List.mem_map_of_mem h.2.2⟩
  | .pick .., _, h => ⟨List.mem_map_of_mem h.1, h.2.1.ren, List.mem_map_of_mem h.2.2⟩
  | .top .., _, h => ⟨h.1.ren, List.mem_map_of_mem h.2⟩
  | .ahead .., _, h => ⟨h.1.ren, h.2.ren⟩
  | .flat .., _, h => ⟨h.1.ren, h.2⟩
theorem smS {n : Nat} (x : Str) : SmE (n + 1) (.str x) := .str x
theorem sm_strs {n : Nat} {xs : List Str} (h : xs.length ≤ 1000) : SmE (n + 2) (strsD xs) := .tup _ (by rw [List.length_map]; exact h) fun d hd => by
  obtain ⟨x, _, rfl⟩ := List.mem_map.mp hd
  exact .str x
theorem Sy.sme {nms : List Str} : ∀ {s : Sy} {m : Nat}, s.ok nms m → SmE (m + 10) s.D
  | .sums b ts n, m, h => show SmE (m + 10) (.tuple [.str (sumW b), .tuple (ts.map trD), .int n]) from .tup _ (by simp) fun d hd => by
    simp only [List.mem_cons, List.not_mem_nil, or_false] at hd
    have hl := h.1
    rw [List.length_map] at hl
    rcases hd with rfl | rfl | rfl
    · exact (smS (n := 0) _).mono (by omega)
    · refine SmE.mono (m := 3) (.tup _ (by rw [List.length_map]; omega) fun d hd => ?_) (by omega)
      obtain ⟨t, _, rfl⟩ := List.mem_map.mp hd
      exact .tup _ (by simp) fun d hd => by
        simp only [List.mem_cons, List.not_mem_nil, or_false] at hd
        rcases hd with rfl | rfl
        · exact .str _
        · exact .int _
    · exact (SmE.int (m := 0) _).mono (by omega)
  | .claim c, m, h => show SmE (m + 10) (.tuple [.str "claim", c]) from .tup _ (by simp) fun d hd => by
    simp only [List.mem_cons, List.not_mem_nil, or_false] at hd
    rcases hd with rfl | rfl
    · exact (smS (n := 0) _).mono (by omega)
    · exact (ClO.sme h).mono (by omega)
  | .when c s, m, h => show SmE (m + 10) (.tuple [.str "when", c, s.D]) from .tup _ (by simp) fun d hd => by
    simp only [List.mem_cons, List.not_mem_nil, or_false] at hd
    have h1 := h.2.1
    rcases hd with rfl | rfl | rfl
    · exact (smS (n := 0) _).mono (by omega)
    · exact (ClO.sme h.1).mono (by omega)
    · exact (Sy.sme h.2.2).mono (by omega)
  | .prod x y z, m, h => show SmE (m + 10) (.tuple [.str "product", .str x, .str y, .str z]) from .tup _ (by simp) fun d hd => by
    simp only [List.mem_cons, List.not_mem_nil, or_false] at hd
    rcases hd with rfl | rfl | rfl | rfl <;> exact (smS (n := 0) _).mono (by omega)
  | .pick i xs r, m, h => show SmE (m + 10) (.tuple [.str "pick", .str i, strsD xs, .str r]) from .tup _ (by simp) fun d hd => by
    simp only [List.mem_cons, List.not_mem_nil, or_false] at hd
    have := h.2.1.1
    rcases hd with rfl | rfl | rfl | rfl
    · exact (smS (n := 0) _).mono (by omega)
    · exact (smS (n := 0) _).mono (by omega)
    · exact (sm_strs (n := 0) (by omega)).mono (by omega)
    · exact (smS (n := 0) _).mono (by omega)
  | .top xs r, m, h => show SmE (m + 10) (.tuple [.str "top", strsD xs, .str r]) from .tup _ (by simp) fun d hd => by
    simp only [List.mem_cons, List.not_mem_nil, or_false] at hd
    have := h.1.1
    rcases hd with rfl | rfl | rfl
    · exact (smS (n := 0) _).mono (by omega)
    · exact (sm_strs (n := 0) (by omega)).mono (by omega)
    · exact (smS (n := 0) _).mono (by omega)
  | .ahead xs ys, m, h => show SmE (m + 10) (.tuple [.str "ahead", strsD xs, strsD ys]) from .tup _ (by simp) fun d hd => by
    simp only [List.mem_cons, List.not_mem_nil, or_false] at hd
    have h1 := h.1.1
    have h2 := h.2.1
    rcases hd with rfl | rfl | rfl
    · exact (smS (n := 0) _).mono (by omega)
    · exact (sm_strs (n := 0) (by omega)).mono (by omega)
    · exact (sm_strs (n := 0) (by omega)).mono (by omega)
  | .flat k xs rest, m, h => show SmE (m + 10) (.tuple (.str (flW.getD k "round") :: strsD xs :: rest)) from .tup _ (by have := h.2.1; simp; omega) fun d hd => by
    have h1 := h.1.1
    rcases List.mem_cons.mp hd with rfl | hd
    · exact (smS (n := 0) _).mono (by omega)
    · rcases List.mem_cons.mp hd with rfl | hd
      · exact (sm_strs (n := 0) (by omega)).mono (by omega)
      · exact (h.2.2 d hd).mono (by omega)
theorem vm_sme {d1 d2 : List (Str × List Int)} {i1 i2 : List (Str × Sy)} {s1 s2 : List (Str × Sy × Int)} {L : List Itm} (o1 : MO d1 i1 s1) (o2 : MO d2 i2 s2) (m1 : ∀ p ∈ d1, p.2.length ≤ 12) (m2 : ∀ p ∈ d2, p.2.length ≤ 12) (hL : ∀ it ∈ L, it.1.length ≤ 3 ∧ it.2.length ≤ 300 ∧ ∀ r ∈ it.2, r.length ≤ 10) : SmE 16 (vmD d1 i1 d2 i2 L) := by
  have ld1 := o1.ld
  have ld2 := o2.ld
  have li1 := o1.li
  have li2 := o2.li
  have us : ∀ (f : Str → Str) (d : List (Str × List Int)), (∀ p ∈ d, p.2.length ≤ 12) → ∀ e ∈ ((d.map fun p => (f p.1, p.2)).map uD), SmE 14 e := fun f d hd e he => by
    rw [List.map_map] at he
    obtain ⟨p, hp, rfl⟩ := List.mem_map.mp he
    refine SmE.mono (m := 3) (.tup _ (by simp) fun d hd2 => ?_) (by omega)
    simp only [List.mem_cons, List.not_mem_nil, or_false] at hd2
    rcases hd2 with rfl | rfl
    · exact .str _
    · exact sme_ints4 _ (by have := hd p hp; omega)
  refine .tup _ (by simp) fun d hd => ?_
  simp only [List.mem_cons, List.not_mem_nil, or_false] at hd
  rcases hd with rfl | rfl | rfl
  · refine .tup _ (by rw [List.length_append, List.length_map, List.length_map, List.length_map, List.length_map]; omega) fun e he => ?_
    rcases List.mem_append.mp he with he | he
    · exact us _ _ m1 e he
    · exact us _ _ m2 e he
  · refine .tup _ (by rw [List.length_append, List.length_map, List.length_map, List.length_zipWith]; omega) fun e he => ?_
    rcases List.mem_append.mp he with he | he
    · rw [List.map_map] at he
      obtain ⟨p, hp, rfl⟩ := List.mem_map.mp he
      refine .tup _ (by simp) fun d hd => ?_
      simp only [List.mem_cons, List.not_mem_nil, or_false] at hd
      rcases hd with rfl | rfl
      · exact .str _
      · exact (Sy.sme (Sy.ok_ren (f := begA) (o1.ni p hp).2)).mono (by omega)
    · obtain ⟨i, hi, rfl⟩ := List.mem_iff_getElem.mp he
      rw [List.length_zipWith] at hi
      rw [List.getElem_zipWith]
      obtain ⟨h3, h300, h10⟩ := hL (L[i]'(by omega)) (List.getElem_mem _)
      refine SmE.mono (m := 6) (.tup _ (by simp) fun d hd => ?_) (by omega)
      simp only [List.mem_cons, List.not_mem_nil, or_false] at hd
      rcases hd with rfl | rfl
      · exact .str _
      · refine .tup _ (by simp) fun d hd => ?_
        simp only [List.mem_cons, List.not_mem_nil, or_false] at hd
        rcases hd with rfl | rfl | rfl
        · exact .str _
        · refine .tup _ (by rw [List.length_append, List.length_map, List.length_map]; simp; omega) fun d hd => ?_
          rcases List.mem_append.mp hd with hd | hd
          · obtain ⟨x, _, rfl⟩ := List.mem_map.mp hd
            exact .str _
          · rw [List.mem_singleton.mp hd]
            exact .str _
        · refine .tup _ (by rw [List.length_map]; omega) fun d hd => ?_
          obtain ⟨r, hr, rfl⟩ := List.mem_map.mp hd
          exact sme_ints4 r (by have := h10 r hr; omega)
  · refine .tup _ (by rw [List.length_map, List.length_map]; omega) fun e he => ?_
    rw [List.map_map] at he
    obtain ⟨p, hp, rfl⟩ := List.mem_map.mp he
    refine .tup _ (by simp) fun d hd => ?_
    simp only [List.mem_cons, List.not_mem_nil, or_false] at hd
    rcases hd with rfl | rfl | rfl
    · exact .str _
    · exact (Sy.sme (Sy.ok_ren (f := begB) (o2.ni p hp).2)).mono (by omega)
    · exact .int _
end AW
namespace AW
open PySem PySem.Spec PyProof.Rows L2 RZ
open StX
local macro_rules | `(tactic| walk_at "aw1") => `(tactic| first
  | (with_reducible refine w_seq ?_) | (with_reducible refine w_asg ?_) | (with_reducible refine w_gname ?_) | (with_reducible refine w_op ?_) | (with_reducible refine w_un ?_)
  | ((with_reducible refine' w_var ?h ?_); (case h => rfl)) | (with_reducible refine w_c ?_)
  | (with_reducible refine w_I0 ?_) | (with_reducible refine w_U ?_) | (with_reducible refine w_cb ?_) | (with_reducible refine w_nil ?_) | (with_reducible refine w_cons ?_) | (with_reducible refine w_call ?_)
  | (with_reducible refine w_test ?_) | (with_reducible refine w_B ?_) | (with_reducible refine w_bl ?_) | (with_reducible refine w_not ?_) | (with_reducible refine w_yes ?_) | (with_reducible refine iteT ?_) | (with_reducible refine iteF ?_) | (with_reducible refine w_and ?_) | (with_reducible refine w_or ?_)
  | (with_reducible refine w_andV ?_) | (with_reducible refine w_orV ?_) | (with_reducible refine w_notV ?_) | (with_reducible refine w_if ?_)
  | (with_reducible refine w_int1 ?_) | (with_reducible refine w_int1b ?_) | (with_reducible refine w_abs ?_) | (with_reducible refine w_max2 ?_) | (with_reducible refine w_min2 ?_)
  | ((with_reducible refine w_eq ?h ?_); (case h => rfl)) | ((with_reducible refine w_ne ?h ?_); (case h => rfl)) | (with_reducible refine w_isN ?_) | (with_reducible refine w_isB ?_) | (with_reducible refine w_chain ?_)
  | (with_reducible refine w_ret ?_) | (with_reducible refine w_drop ?_) | (with_reducible refine w_ifS ?_) | (with_reducible refine w_gsub ?_) | (with_reducible refine w_augS ?_) | (with_reducible refine w_ipI ?_) | (with_reducible refine w_next ?_)
  | (with_reducible refine w_forR ?_) | (with_reducible refine w_forR2 ?_) | (with_reducible refine w_forL ?_) | (with_reducible refine w_forT ?_) | (with_reducible refine w_lcR ?_) | (with_reducible refine w_lcL ?_) | (with_reducible refine w_lcT ?_) | (with_reducible refine w_sl ?_) | (with_reducible refine w_part ?_) | (with_reducible refine w_noPart ?_) | (with_reducible refine w_in ?_)
  | (with_reducible refine w_gcons ?_) | (with_reducible refine w_gnil ?_) | (with_reducible refine w_lc3 ?_) | (with_reducible refine w_dcZ ?_) | (with_reducible refine w_dcT ?_) | (with_reducible refine w_dg ?_) | (with_reducible refine w_callK ?_) | (with_reducible refine w_dput ?_) | (with_reducible refine w_tup1 ?_)
  | (with_reducible refine w_tup ?_) | (with_reducible refine w_lst ?_)
  | ((with_reducible refine w_I ?h ?_); (case h => first | (exact Or.inr ⟨by decide, by decide⟩) | (exact Or.inl ⟨by decide, by decide⟩) | (show (0 : Int) < _; decide) | (exact ⟨by decide, by decide, by decide⟩) | assumption)))
local macro_rules | `(tactic| walk_at "aw") => `(tactic| repeat (walk_at "aw1"))
theorem DomOk.mono {v w : Nat} {fl : List Int} (h : DomOk v fl) (z : v ≤ w) : DomOk w fl := ⟨h.l1, Nat.le_trans h.l2 z, h.asc, fun x hx => by have := h.bd x hx; omega⟩
theorem MdlOk.mono {v w : Nat} {d : List (Str × List Int)} (h : MdlOk v d) (z : v ≤ w) : MdlOk w d := ⟨h.nd, h.nm, fun p hp => (h.dm p hp).mono z⟩
theorem MdlOk.uok {w : Nat} {d : List (Str × List Int)} (h : MdlOk w d) (hw : w ≤ 12) (l1 : 1 ≤ d.length) (l2 : d.length ≤ 24) : UOk (d.map (·.1)) d := ⟨l1, l2, fun p hp => List.mem_map_of_mem hp, fun p hp => (h.dm p hp).mono hw⟩
theorem unk_is {H : Hp} {us : List V} {doms : List (Str × List Int)} (h : Paired (fun u d => UnkP H u d) us doms) : IsAll H (doms.map uD) us := by
  induction h with
  | nil => exact .nil
  | cons a t ih =>
    obtain ⟨p, q, rfl, e1, e2⟩ := a
    exact .cons (.tup e1 (.cons (.str _) (.cons (.tup e2 (IsAll.ints _)) .nil))) ih
theorem is_unk {H : Hp} : ∀ {us : List V} {doms : List (Str × List Int)}, IsAll H (doms.map uD) us → Paired (fun u d => UnkP H u d) us doms
  | [], [], _ => .nil
  | u :: us, d :: doms, .cons h t => .cons h.dom (is_unk t)
theorem mdl_at {H : Hp} {m : V} {d : List (Str × List Int)} {i : List (Str × Sy)} {s : List (Str × Sy × Int)} (h : Is H (mD d i s) m) : MdlAt H m d := by
  obtain ⟨a, xs, rfl, e, hx⟩ := h.tup_inv
  cases hx with
  | cons h1 t =>
    obtain ⟨b, us, rfl, e2, hu⟩ := h1.tup_inv
    have hp := is_unk hu
    refine ⟨a, b, _, us, rfl, e, e2, hp.length, fun k u hk => ?_⟩
    obtain ⟨dm, hd⟩ := get_some (xs := d) (i := k) (by have := (List.getElem?_eq_some_iff.mp hk).1; have := hp.length; omega)
    obtain ⟨p, q, h3, h4, h5⟩ := paired_at hp hk hd
    exact ⟨p, q, dm, h3, hd, h4, h5⟩
def sp__law_drawn (_ : PySem.W.Frag) : Sp := fun vs H Q _ => ∃ (st ut : Addr), vs = [.ref st, .int 8, .ref ut] ∧ ∃ cs us doms w, StOk st cs H ∧ H ut = some (.tup us) ∧ Paired (fun u d => UnkP H u d) us doms ∧ MdlOk w doms ∧ w ≤ 12 ∧ 1 ≤ doms.length ∧ doms.length ≤ 24 ∧ ∀ m its soft H', Go st cs H H' → Is H' (mD doms its soft) m → MO doms its soft → Q m H'
def sp__law_large (_ : PySem.W.Frag) : Sp := fun vs H Q _ => ∃ (st : Addr) (c : Str), vs = [.ref st, .str c] ∧ (c = "x" ∨ c = "y") ∧ ∃ cs, StOk st cs H ∧ ∀ m doms its H', Go st cs H H' → Is H' (mD doms its []) m → MO doms its [] → MdlOk 3 doms → doms.length = 24 → Q m H'
def sp_law (K : PySem.W.Frag) : Sp := fun vs H Q _ => ∃ (a : Addr) (ns : List Int), vs = [.ref a] ∧ SqL K H a (ns.map V.int) ∧ ns.length ≤ 63 ∧ ∀ H', Q (.bl true) H'
def nmsA : List Str := ["s0", "claim", Txt.mul "s" 24, "a.b", "b.a", "v.x", "0", "s.1.2", "zz", "unlike", "end"]
theorem nmsA_ok : ∀ x ∈ nmsA, x.length ≤ 24 := by unfold nmsA; decide +kernel
def nmsB : List Str := ["soft", "kept", Txt.mul "p" 24]
theorem nmsB_ok : ∀ x ∈ nmsB, x.length ≤ 24 := by unfold nmsB; decide +kernel
theorem mul24 : MulOk "s" 24 ∧ MulOk "p" 24 := ⟨⟨by decide +kernel, by decide +kernel, by decide +kernel⟩, ⟨by decide +kernel, by decide +kernel, by decide +kernel⟩⟩
def bigN (c : Str) : List Str := (List.range 24).map fun k : Nat => Txt.mul c ((0 : Int) + (k : Nat) + 1)
theorem bigX : (bigN "x").Nodup ∧ (∀ x ∈ bigN "x", okS x ∧ x.length ≤ 24) ∧ ∀ k : Nat, k < 24 → MulOk "x" ((0 : Int) + (k : Nat) + 1) := by
  refine ⟨by unfold bigN; decide +kernel, by unfold bigN okS; decide +kernel, ?_⟩
  unfold MulOk
  decide +kernel
theorem bigY : (bigN "y").Nodup ∧ (∀ x ∈ bigN "y", okS x ∧ x.length ≤ 24) ∧ ∀ k : Nat, k < 24 → MulOk "y" ((0 : Int) + (k : Nat) + 1) := by
  refine ⟨by unfold bigN; decide +kernel, by unfold bigN okS; decide +kernel, ?_⟩
  unfold MulOk
  decide +kernel
theorem big_ok {c : Str} (h : c = "x" ∨ c = "y") : (bigN c).Nodup ∧ (∀ x ∈ bigN c, okS x ∧ x.length ≤ 24) ∧ ∀ k : Nat, k < 24 → MulOk c ((0 : Int) + (k : Nat) + 1) := by
  rcases h with rfl | rfl
  · exact bigX
  · exact bigY
theorem sk_ok : ∀ k : Nat, k < 40 → ((0 : Int) + (k : Nat)).natAbs.log2 < 1920 ∧ ("s" : Str).length + (Str.ofString (toString ((0 : Int) + (k : Nat)))).length ≤ 24 ∧ (("s" : Str) ++ (toString ((0 : Int) + (k : Nat)) : Str)).length ≤ 24 := by decide +kernel
theorem fits24 {n : Nat} (h : n ≤ 24) : n ≤ sizeLine := Nat.le_trans h (by decide)
theorem w_someN {K : PySem.W.Frag} {st p : Addr} {cs : Addr × Addr} {H : Hp} {us : List V} {doms : List (Str × List Int)} {a b : Nat} {Q : VK} {E : XK} (e : H p = some (.tup us)) (r : Paired (fun u d => UnkP H u d) us doms) (nd : (doms.map (·.1)).Nodup) (ok : StOk st cs H) (hab : a ≤ b) (ha : a ≤ doms.length) (hb : b ≤ 1000) (hd : doms.length ≤ 1000)
    (q : ∀ l made ds H', Go st cs H H' → H l = none → H' l = some (.lst made) → Paired (fun u d => UnkP H' u d) made ds → (∀ d ∈ ds, d ∈ doms) → (ds.map (·.1)).Nodup → a ≤ ds.length → ds.length ≤ b → Q (.ref l) H') : sp__law_some K [.ref st, .ref p, .int (a : Nat), .int (b : Nat)] H Q E := by
  have hl := r.length
  refine ⟨st, p, a, b, rfl, cs, us, ok, .inr (SqT.of e), hab, by omega, hb, by omega, fun l made left H' g nl el hp h1 h2 => ?_⟩
  obtain ⟨ms, hm, hpm⟩ := paired_perm hp r
  obtain ⟨h3, _⟩ := paired_split hpm
  have hl3 := h3.length
  refine q l made (ms.take made.length) H' g nl el (L2.Paired.mapP h3 fun _ _ z => z.up g.tk) (fun d hd => hm.subset (List.mem_of_mem_take hd)) ?_ (by omega) (by omega)
  have h4 : (ms.map (·.1)).Nodup := (hm.map _).nodup_iff.mpr nd
  rw [List.map_take]
  exact h4.sublist (List.take_sublist _ _)
/-- the items of a model: drawn one by one -/
theorem its_of {H : Hp} {ys : List V} {nms : List Str} (h : ∀ (k : Nat) u, ys[k]? = some u → ∃ p : Str × Sy, Is H (iD p) u ∧ p.1.length ≤ 24 ∧ p.2.ok nms 1) : ∃ its : List (Str × Sy), its.length = ys.length ∧ IsAll H (its.map iD) ys ∧ ∀ p ∈ its, p.1.length ≤ 24 ∧ p.2.ok nms 1 := by
  obtain ⟨its, hl, hp⟩ := list_choose (P := fun _ u (p : Str × Sy) => Is H (iD p) u ∧ p.1.length ≤ 24 ∧ p.2.ok nms 1) h
  refine ⟨its, hl, IsAll.of _ _ (by rw [List.length_map]; omega) fun i D u h1 h2 => ?_, fun p hpm => ?_⟩
  · rw [List.getElem?_map] at h1
    obtain ⟨p, h3, rfl⟩ := Option.map_eq_some_iff.mp h1
    exact (hp i u p h2 h3).1
  · obtain ⟨i, hi, rfl⟩ := List.mem_iff_getElem.mp hpm
    exact (hp i (ys[i]'(by omega)) _ (List.getElem?_eq_getElem (by omega)) (List.getElem?_eq_getElem hi)).2
theorem soft_of {H : Hp} {ys : List V} (h : ∀ (k : Nat) u, ys[k]? = some u → ∃ p : Str × Sy × Int, Is H (sD p) u ∧ p.1.length ≤ 24) : ∃ its : List (Str × Sy × Int), its.length = ys.length ∧ IsAll H (its.map sD) ys ∧ ∀ p ∈ its, p.1.length ≤ 24 := by
  obtain ⟨its, hl, hp⟩ := list_choose (P := fun _ u (p : Str × Sy × Int) => Is H (sD p) u ∧ p.1.length ≤ 24) h
  refine ⟨its, hl, IsAll.of _ _ (by rw [List.length_map]; omega) fun i D u h1 h2 => ?_, fun p hpm => ?_⟩
  · rw [List.getElem?_map] at h1
    obtain ⟨p, h3, rfl⟩ := Option.map_eq_some_iff.mp h1
    exact (hp i u p h2 h3).1
  · obtain ⟨i, hi, rfl⟩ := List.mem_iff_getElem.mp hpm
    exact (hp i (ys[i]'(by omega)) _ (List.getElem?_eq_getElem (by omega)) (List.getElem?_eq_getElem hi)).2
theorem w_repS {z : Str} {n : Int} {H : Hp} {Q : VK} (m : MulOk z n) (q : Q (.str (Txt.mul z n)) H) : rRepS (.str z) (.int n) H Q := ⟨z, n, rfl, rfl, m, q⟩
theorem w_callKR {sp : Sp} {E : XK} {tk : TA} {σ : L2.St} {H : Hp} {Q : VK} (h : tk σ H fun zs H2 => sp zs.reverse H2 Q E) : tCallK sp gR E tNil tk σ H Q := h
theorem w_par {i j : Nat} {ta : TA} {D : Ends} {σ : L2.St} {H : Hp} (h : ta σ H fun vs H1 => ∃ v w, vs = [v, w] ∧ D.nx ((σ.set i (some v)).set j (some w)) H1) : tPar i j ta D σ H := h
structure MM (H : Hp) (m : V) (d : List (Str × List Int)) (i : List (Str × Sy)) (s : List (Str × Sy × Int)) : Prop where
  is : Is H (mD d i s) m
  mo : MO d i s
  ok : MdlOk 4 d
  l1 : 1 ≤ d.length
theorem MM.up {H H' : Hp} {m : V} {d : List (Str × List Int)} {i : List (Str × Sy)} {s : List (Str × Sy × Int)} (h : MM H m d i s) (k : TK H H') : MM H' m d i s := ⟨h.is.up k, h.mo, h.ok, h.l1⟩
def t__law_drawn (K : PySem.W.Frag) : TS := (tSeq (tAsg (tLst (tCons (tC (.str "s0")) (tCons (tC (.str "claim")) (tCons (tOp rRepS (tC (.str "s")) (tC (.int 24))) (tCons (tC (.str "a.b")) (tCons (tC (.str "b.a")) (tCons (tC (.str "v.x")) (tCons (tC (.str "0")) (tCons (tC (.str "s.1.2")) (tCons (tC (.str "zz")) (tCons (tC (.str "unlike")) (tCons (tC (.str "end")) tNil)))))))))))) (gName 3))
  (tSeq (tAsg (tLc (iRng1 (tCons (tCall (sp__law_draw K) [] E0 (tCons (tVar 0) (tCons (tOp rAddI (tVar 1) (tC (.int 1))) tNil))) tNil)) (gName 5) tYes (tTup (tCons (tOp (rIxL K) (tVar 3) (tVar 5)) (tCons (tCall (sp__law_saying K 2) [] E0 (tCons (tVar 0) (tCons (tVar 2) (tCons (tC (.int 1)) tNil)))) tNil))) [5]) (gName 4))
  (tSeq (tAsg (tLst (tCons (tC (.str "soft")) (tCons (tC (.str "kept")) (tCons (tOp rRepS (tC (.str "p")) (tC (.int 24))) tNil)))) (gName 3))
  (tSeq (tAsg (tLc (iRng1 (tCons (tCall (sp__law_draw K) [] E0 (tCons (tVar 0) (tCons (tC (.int 3)) tNil))) tNil)) (gName 5) tYes (tTup (tCons (tOp (rIxL K) (tVar 3) (tVar 5)) (tCons (tCall (sp__law_saying K 2) [] E0 (tCons (tVar 0) (tCons (tVar 2) (tCons (tC (.int 1)) tNil)))) (tCons (tOp rAddI (tC (.int 1)) (tCall (sp__law_draw K) [] E0 (tCons (tVar 0) (tCons (tC (.int 100)) tNil)))) tNil)))) [5]) (gName 6))
  (tRet (tTup (tCons (tVar 2) (tCons (tThen (tVar 4) (kTup K)) (tCons (tThen (tVar 6) (kTup K)) tNil)))))))))
def t__law_large (K : PySem.W.Frag) : TS := (tSeq (tAsg (tLc (iRng1 (tCons (tC (.int 24)) tNil)) (gName 3) tYes (tTup (tCons (tOp rRepS (tVar 1) (tOp rAddI (tVar 3) (tC (.int 1)))) (tCons (tCall (sp__law_domain K) [] E0 (tCons (tVar 0) (tCons (tC (.int 3)) tNil))) tNil))) [3]) (gName 2))
  (tSeq (tAsg (tLc (iRng1 (tCons (tC (.int 40)) tNil)) (gName 3) tYes (tTup (tCons (tOp rAddS (tC (.str "s")) (tCB rStr1 (tCons (tVar 3) tNil))) (tCons (tCall (sp__law_saying K 2) [] E0 (tCons (tVar 0) (tCons (tVar 2) (tCons (tC (.int 1)) tNil)))) tNil))) [3]) (gName 4))
  (tRet (tTup (tCons (tThen (tVar 2) (kTup K)) (tCons (tThen (tVar 4) (kTup K)) (tCons (tTup tNil) tNil)))))))
def t_law (K : PySem.W.Frag) : TS := (tSeq (tAsg (tCall (sp__law_tape K) [] E0 (tCons (tVar 0) tNil)) (gName 1))
  (tSeq (tAsg (tCall (sp__law_draw K) [] E0 (tCons (tVar 1) (tCons (tC (.int 8)) tNil))) (gName 2))
  (tSeq (tIfS (tTest (tOp rEq (tVar 2) (tC (.int 0)))) (tPar 3 4 (tCons (tCall (sp__law_large K) [] E0 (tCons (tVar 1) (tCons (tC (.str "x")) tNil))) (tCons (tCall (sp__law_large K) [] E0 (tCons (tVar 1) (tCons (tC (.str "y")) tNil))) tNil))) (tSeq (tAsg (tCall (sp__law_drawn K) [] E0 (tCons (tVar 1) (tCons (tC (.int 8)) (tCons (tCall (sp__law_unknowns K) [] E0 (tCons (tVar 1) (tCons (tC (.int 1)) (tCons (tC (.int 5)) (tCons (tC (.int 4)) tNil))))) tNil)))) (gName 3))
  (tSeq (tAsg (tCall (sp__law_unknowns K) [] E0 (tCons (tVar 1) (tCons (tC (.int 1)) (tCons (tC (.int 5)) (tCons (tC (.int 4)) tNil))))) (gName 5))
  (tSeq (tIfS (tTest (tOp rEq (tVar 2) (tC (.int 2)))) (tAsg (tThen (tLc (iList K (tCall (sp__law_some K) [] E0 (tCons (tVar 1) (tCons (tOp (rIxT K) (tVar 3) (tC (.int 0))) (tCons (tC (.int 1)) (tCons (tC (.int 5)) tNil)))))) (gName 6) tYes (tTup (tCons (tOp (rIxT K) (tVar 6) (tC (.int 0))) (tCons (tCall (sp__law_domain K) [] E0 (tCons (tVar 1) (tCons (tC (.int 4)) tNil))) tNil))) [6]) (kTup K)) (gName 5)) tNext)
  (tAsg (tIf (tTest (tOp rEq (tVar 2) (tC (.int 1)))) (tVar 3) (tCall (sp__law_drawn K) [] E0 (tCons (tVar 1) (tCons (tC (.int 8)) (tCons (tVar 5) tNil))))) (gName 4))))))
  (tSeq (tAsg (tCall (sp__law_view K) [] E0 (tCons (tVar 1) (tCons (tVar 3) (tCons (tVar 4) tNil)))) (gName 7))
  (tSeq (tAsg (tCall (sp__law_view_model K) [] E0 (tCons (tVar 3) (tCons (tVar 4) (tCons (tVar 7) tNil)))) (gName 8))
  (tSeq (tIfS (tOr (tTest (tOp rNotN (tCall (sp_check_view K) [] E0 (tCons (tVar 3) (tCons (tVar 4) (tCons (tVar 7) tNil)))) (tC .non))) (tNot (tB (tCall (sp__law_same K 16) [] E0 (tCons (tCall (sp_view_model K) [] E0 (tCons (tVar 3) (tCons (tVar 4) (tCons (tVar 7) tNil)))) (tCons (tVar 8) tNil)))))) (tRet (tC (.bl false))) tNext)
  (tRet (tCall (sp__law_same K 16) [] E0 (tCons (tCallK (sp_view_model K) gR E0 tNil (tCons (tVar 7) (tCons (tVar 4) (tCons (tVar 3) tNil)))) (tCons (tVar 8) tNil))))))))))
theorem len__law_drawn {K : PySem.W.Frag} : ∀ (vs : List V) (H : Hp) (Q : VK) (E : XK), sp__law_drawn K vs H Q E → vs.length = 3 := fun vs H Q E h => by
  obtain ⟨_, _, rfl, _⟩ := h
  rfl
theorem pure__law_drawn {K : PySem.W.Frag} (vs : List V) (H : Hp) (Q : VK) (E : XK) (h : sp__law_drawn K vs H Q E) : t__law_drawn K { nx := fun _ H' => Q .non H', rt := Q } (start ["tape", "most", "unknowns", "names", "sayings", "k", "soft"] vs) H := by
  obtain ⟨st, ut, rfl, cs, us, doms, w, ok, eu, hus, mok, hw, l1, l24, q⟩ := h
  have uo := mok.uok hw l1 l24
  have hS : UnkS st cs H (.ref ut) doms := ⟨ut, us, rfl, .inl eu, hus⟩
  show t__law_drawn K _ [some (.ref st), some (.int 8), some (.ref ut), none, none, none, none] H
  unfold t__law_drawn
  walk_at "aw"
  refine w_repS mul24.1 ?_
  walk_at "aw"
  refine w_lstD (by simp) fun nl H1 nnl a1 enl => ?_
  have enl : H1 nl = some (.lst (nmsA.map V.str)) := enl
  have g1 := Go.of ok a1
  have onl := (ok.ne nnl).1
  walk_at "aw"
  refine w_draw g1.ok (by decide) (by decide) fun c H2 c0 c1 g2 => ?_
  obtain ⟨n, rfl⟩ : ∃ k : Nat, c = (k : Int) := ⟨c.toNat, by omega⟩
  have g12 := g1.trans g2
  have enl2 := g2.keep onl enl
  refine kLcR_all (n := n) (by omega) g2.ok (fun _ u H' => ∃ p : Str × Sy, Is H' (iD p) u ∧ p.1.length ≤ 24 ∧ p.2.ok (doms.map fun d : Str × List Int => d.1) 1) (fun _ _ _ _ kk ⟨p, h1, h2⟩ => ⟨p, h1.up kk, h2⟩) (fun j H3 Kt hj g3 kt => ?_) fun il H3 ys nil g3 eil hyl hyr => ?_
  · walk_at "aw"
    refine ⟨rfl, ?_⟩
    walk_at "aw"
    have hx : j < nmsA.length := by show j < 11; omega
    refine w_ixL (SqL.of (g3.keep onl enl2)) (v := .str nmsA[j]) (at_of (j := j) rfl (by rw [List.getElem?_map, List.getElem?_eq_getElem hx]; rfl)) ?_
    walk_at "aw"
    refine ⟨st, .ref ut, 1, rfl, cs, doms, _, g3.ok, hS.go (g12.trans g3), uo, by decide, by decide, fun w s H4 g4 hw hs => ?_⟩
    walk_at "aw"
    refine w_tupW (by simp) fun t H5 a5 et => ?_
    exact kt _ _ (g4.new a5) ⟨(nmsA[j], s), .tup et (.cons (.str _) (.cons (hw.up a5.tup) .nil)), nmsA_ok _ (List.getElem_mem _), hs⟩
  obtain ⟨its, hil, his, hio⟩ := its_of hyr
  have oil := (g2.ok.ne nil).1
  have g13 := g12.trans g3
  walk_at "aw"
  refine w_repS mul24.2 ?_
  walk_at "aw"
  refine w_lstD (by simp) fun ml H4 nml a4 eml => ?_
  have eml : H4 ml = some (.lst (nmsB.map V.str)) := eml
  have g4 := g13.new a4
  have oml := (g13.ok.ne nml).1
  walk_at "aw"
  refine w_draw g4.ok (by decide) (by decide) fun c2 H5 c20 c21 g5 => ?_
  obtain ⟨n2, rfl⟩ : ∃ k : Nat, c2 = (k : Int) := ⟨c2.toNat, by omega⟩
  have g15 := g4.trans g5
  have eml5 := g5.keep oml eml
  refine kLcR_all (n := n2) (by omega) g5.ok (fun _ u H' => ∃ p : Str × Sy × Int, Is H' (sD p) u ∧ p.1.length ≤ 24) (fun _ _ _ _ kk ⟨p, h1, h2⟩ => ⟨p, h1.up kk, h2⟩) (fun j H6 Kt hj g6 kt => ?_) fun sl H6 zs nsl g6 esl hzl hzr => ?_
  · walk_at "aw"
    refine ⟨rfl, ?_⟩
    walk_at "aw"
    have hx : j < nmsB.length := by show j < 3; omega
    refine w_ixL (SqL.of (g6.keep oml eml5)) (v := .str nmsB[j]) (at_of (j := j) rfl (by rw [List.getElem?_map, List.getElem?_eq_getElem hx]; rfl)) ?_
    walk_at "aw"
    refine ⟨st, .ref ut, 1, rfl, cs, doms, _, g6.ok, hS.go (g15.trans g6), uo, by decide, by decide, fun w s H7 g7 hw hs => ?_⟩
    walk_at "aw"
    refine w_draw g7.ok (by decide) (by decide) fun pr H8 _ _ g8 => ?_
    walk_at "aw"
    refine w_tupW (by simp) fun t H9 a9 et => ?_
    exact kt _ _ (g7.trans (g8.new a9)) ⟨(nmsB[j], s, 1 + pr), .tup et (.cons (.str _) (.cons (hw.up (g8.new a9).tk) (.cons (.int _) .nil))), nmsB_ok _ (List.getElem_mem _)⟩
  obtain ⟨soft, hsl, hss, hso⟩ := soft_of hzr
  have g46 := g5.trans g6
  have g16 := g4.trans g46
  have eil6 := g46.keep oil (a4.keep _ _ (fun z => nomatch z) eil)
  walk_at "aw"
  refine w_tupL (SqL.of eil6) fun t7 H7 nt7 a7 et7 => ?_
  walk_at "aw"
  refine w_tupL (SqL.of (a7.keep _ _ (fun z => nomatch z) esl)) fun t8 H8 nt8 a8 et8 => ?_
  walk_at "aw"
  refine w_tupW (by simp) fun t9 H9 a9 et9 => ?_
  have a79 := a7.trans (a8.trans a9)
  have g19 := g16.new a79
  refine q _ its soft H9 g19 (.tup et9 (.cons (.tup (g19.tk _ _ eu) (unk_is (L2.Paired.mapP hus fun _ _ z => z.up g19.tk))) (.cons (.tup ((a8.trans a9).tup _ _ et7) (his.up (TK.trans a4.tup (TK.trans g46.tk a79.tup)))) (.cons (.tup (a9.tup _ _ et8) (hss.up a79.tup)) .nil)))) ⟨l24, by omega, by omega, fun p hp => (mok.nm _ (List.mem_map_of_mem hp)).2, hio, hso⟩
theorem len__law_large {K : PySem.W.Frag} : ∀ (vs : List V) (H : Hp) (Q : VK) (E : XK), sp__law_large K vs H Q E → vs.length = 2 := fun vs H Q E h => by
  obtain ⟨_, _, rfl, _⟩ := h
  rfl
theorem pure__law_large {K : PySem.W.Frag} (vs : List V) (H : Hp) (Q : VK) (E : XK) (h : sp__law_large K vs H Q E) : t__law_large K { nx := fun _ H' => Q .non H', rt := Q } (start ["tape", "letter", "unknowns", "k", "sayings"] vs) H := by
  obtain ⟨st, c, rfl, hc, cs, ok, q⟩ := h
  obtain ⟨bnd, bno, bmu⟩ := big_ok hc
  show t__law_large K _ [some (.ref st), some (.str c), none, none, none] H
  unfold t__law_large
  walk_at "aw"
  refine ⟨24, rfl, by decide, by decide, ?_⟩
  show kLc (Itr 0 24) _ _ _ _ _ _ _
  refine kLc_all walk_range (by decide) ok (fun _ _ => trivial) (fun k u H' => ∃ d : Str × List Int, UnkP H' u d ∧ d.1 = Txt.mul c ((0 : Int) + (k : Nat) + 1) ∧ DomOk 3 d.2) (fun _ _ _ _ kk ⟨d, h1, h2⟩ => ⟨d, h1.up kk, h2⟩) (fun k x H3 H4 Kt hk g3 yy kt => ?_) fun ul H1 us nul g1 eul hul hur => ?_
  · obtain ⟨rfl, rfl⟩ := yy
    walk_at "aw"
    refine ⟨rfl, ?_⟩
    walk_at "aw"
    refine w_repS (bmu k hk) ?_
    walk_at "aw"
    refine ⟨st, 3, rfl, cs, g3.ok, by decide, by decide, fun t fl H5 g5 et hd => ?_⟩
    walk_at "aw"
    refine w_tupW (by simp) fun t2 H6 a6 et2 => ?_
    exact kt _ _ (g5.new a6) ⟨(_, fl), ⟨t2, t, rfl, et2, a6.tup _ _ et⟩, rfl, hd⟩
  obtain ⟨doms, hdl, hdp⟩ := list_choose (P := fun k u (d : Str × List Int) => UnkP H1 u d ∧ d.1 = Txt.mul c ((0 : Int) + (k : Nat) + 1) ∧ DomOk 3 d.2) hur
  have hdl24 : doms.length = 24 := by omega
  have hus : Paired (fun u d => UnkP H1 u d) us doms := paired_ix (by omega) fun i u d h1 h2 => (hdp i u d h1 h2).1
  have hnames : doms.map (·.1) = bigN c := by
    show doms.map (·.1) = (List.range 24).map fun k : Nat => Txt.mul c ((0 : Int) + (k : Nat) + 1)
    apply List.ext_getElem (by rw [List.length_map, hdl24, List.length_map, List.length_range])
    intro i h1 h2
    rw [List.length_map] at h1
    rw [List.getElem_map, List.getElem_map, List.getElem_range]
    exact (hdp i (us[i]'(by omega)) _ (List.getElem?_eq_getElem (by omega)) (List.getElem?_eq_getElem h1)).2.1
  have mok : MdlOk 3 doms := ⟨by rw [hnames]; exact bnd, by rw [hnames]; exact bno, fun d hd => by
    obtain ⟨i, hi, rfl⟩ := List.mem_iff_getElem.mp hd
    exact (hdp i (us[i]'(by omega)) _ (List.getElem?_eq_getElem (by omega)) (List.getElem?_eq_getElem hi)).2.2⟩
  have uo := mok.uok (by decide) (by omega) (by omega)
  have oul := (ok.ne nul).1
  have hS : UnkS st cs H1 (.ref ul) doms := ⟨ul, us, rfl, .inr ⟨eul, oul⟩, hus⟩
  walk_at "aw"
  refine ⟨40, rfl, by decide, by decide, ?_⟩
  show kLc (Itr 0 40) _ _ _ _ _ _ _
  refine kLc_all walk_range (by decide) g1.ok (fun _ _ => trivial) (fun _ u H' => ∃ p : Str × Sy, Is H' (iD p) u ∧ p.1.length ≤ 24 ∧ p.2.ok (doms.map fun d : Str × List Int => d.1) 1) (fun _ _ _ _ kk ⟨p, h1, h2⟩ => ⟨p, h1.up kk, h2⟩) (fun k x H3 H4 Kt hk g3 yy kt => ?_) fun il H2 ys nil g2 eil hyl hyr => ?_
  · obtain ⟨rfl, rfl⟩ := yy
    obtain ⟨k1, k2, k3⟩ := sk_ok k hk
    walk_at "aw"
    refine ⟨rfl, ?_⟩
    walk_at "aw"
    refine ⟨_, rfl, k1, ?_⟩
    refine ⟨_, _, rfl, rfl, fits24 k2, ?_⟩
    walk_at "aw"
    refine ⟨st, .ref ul, 1, rfl, cs, doms, _, g3.ok, hS.go g3, uo, by decide, by decide, fun w s H5 g5 hw hs => ?_⟩
    walk_at "aw"
    refine w_tupW (by simp) fun t H6 a6 et => ?_
    exact kt _ _ (g5.new a6) ⟨(_, s), .tup et (.cons (.str _) (.cons (hw.up a6.tup) .nil)), k3, hs⟩
  obtain ⟨its, hil, his, hio⟩ := its_of hyr
  walk_at "aw"
  refine w_tupL (SqL.of (g2.keep oul eul)) fun t3 H3 nt3 a3 et3 => ?_
  walk_at "aw"
  refine w_tupL (SqL.of (a3.keep _ _ (fun z => nomatch z) eil)) fun t4 H4 nt4 a4 et4 => ?_
  walk_at "aw"
  refine w_tupW (by simp) fun t5 H5 a5 et5 => ?_
  walk_at "aw"
  refine w_tupW (by simp) fun t6 H6 a6 et6 => ?_
  have a36 := a3.trans (a4.trans (a5.trans a6))
  have g26 := g2.new a36
  exact q _ doms its H6 (g1.trans g26) (.tup et6 (.cons (.tup ((a4.trans (a5.trans a6)).tup _ _ et3) (unk_is (L2.Paired.mapP hus fun _ _ z => z.up g26.tk))) (.cons (.tup ((a5.trans a6).tup _ _ et4) (his.up a36.tup)) (.cons (.tup (a6.tup _ _ et5) .nil) .nil)))) ⟨by omega, by omega, by simp, fun p hp => (mok.nm _ (List.mem_map_of_mem hp)).2, hio, fun _ h => nomatch h⟩ mok hdl24
theorem len_law {K : PySem.W.Frag} : ∀ (vs : List V) (H : Hp) (Q : VK) (E : XK), sp_law K vs H Q E → vs.length = 1 := fun vs H Q E h => by
  obtain ⟨_, _, rfl, _⟩ := h
  rfl
theorem pure_law {K : PySem.W.Frag} (vs : List V) (H : Hp) (Q : VK) (E : XK) (h : sp_law K vs H Q E) : t_law K { nx := fun _ H' => Q .non H', rt := Q } (start ["script", "tape", "way", "one", "other", "unknowns", "pair", "view", "due"] vs) H := by
  obtain ⟨a, ns, rfl, hs, hl, q⟩ := h
  show t_law K _ [some (.ref a), none, none, none, none, none, none, none, none] H
  unfold t_law
  walk_at "aw"
  refine ⟨a, ns, rfl, hs, hl, fun st cs H1 ok1 a1 nst => ?_⟩
  walk_at "aw"
  refine w_draw ok1 (by decide) (by decide) fun way H2 w0 w1 g2 => ?_
  with_reducible refine w_gname ?_
  with_reducible refine w_seqJ (fun σ' H' => ∃ (m1 m2 : V) (y5 : Option V) (d1 d2 : List (Str × List Int)) (i1 i2 : List (Str × Sy)) (s1 s2 : List (Str × Sy × Int)), σ' = [some (.ref a), some (.ref st), some (.int way), some m1, some m2, y5, none, none, none] ∧ Go st cs H2 H' ∧ MM H' m1 d1 i1 s1 ∧ MM H' m2 d2 i2 s2) (fun N hN => ?_) fun σ' H3 pp => ?_
  · refine ifI rfl (fun _ => ?_) fun _ => ?_
    · refine w_par ?_
      walk_at "aw"
      refine ⟨st, "x", rfl, .inl rfl, cs, g2.ok, fun m1 d1 i1 H3 g3 h1 o1 k1 l1 => ?_⟩
      walk_at "aw"
      refine ⟨st, "y", rfl, .inr rfl, cs, g3.ok, fun m2 d2 i2 H4 g4 h2 o2 k2 l2 => ?_⟩
      walk_at "aw"
      exact ⟨m1, m2, rfl, hN _ _ ⟨m1, m2, none, d1, d2, i1, i2, [], [], rfl, g3.trans g4, ⟨h1.up g4.tk, o1, k1.mono (by decide), by omega⟩, ⟨h2, o2, k2.mono (by decide), by omega⟩⟩⟩
    · have dr : ∀ (ut : Addr) (us : List V) (doms : List (Str × List Int)) (H' : Hp) (Q : VK), StOk st cs H' → H' ut = some (.tup us) → Paired (fun u d => UnkP H' u d) us doms → MdlOk 4 doms → 1 ≤ doms.length → doms.length ≤ 24 → (∀ m d i s H'', Go st cs H' H'' → MM H'' m d i s → Q m H'') → sp__law_drawn K [.ref st, .int 8, .ref ut] H' Q E0 := fun ut us doms H' Q ok e h mk l1 l2 q => ⟨st, ut, rfl, cs, us, doms, 4, ok, e, h, mk, by decide, l1, l2, fun m i s H'' g h1 h2 => q m doms i s H'' g ⟨h1, h2, mk, l1⟩⟩
      walk_at "aw"
      refine ⟨st, 1, 5, 4, rfl, cs, g2.ok, by decide, by decide, by decide, by decide, by decide, fun t1 us1 d1 H3 g3 et1 hus1 mok1 hl1 hl1' => ?_⟩
      walk_at "aw"
      refine dr t1 us1 d1 H3 _ g3.ok et1 hus1.p mok1 hl1 (by omega) fun m1 dd1 i1 s1 H4 g4 M1 => ?_
      walk_at "aw"
      refine ⟨st, 1, 5, 4, rfl, cs, g4.ok, by decide, by decide, by decide, by decide, by decide, fun t2 us2 d2 H5 g5 et2 hus2 mok2 hl2 hl2' => ?_⟩
      with_reducible refine w_gname ?_
      have g25 := g3.trans (g4.trans g5)
      have M1 := M1.up g5.tk
      with_reducible refine w_seqJ (fun σ' H' => ∃ (ut : Addr) (us : List V) (d : List (Str × List Int)), σ' = [some (.ref a), some (.ref st), some (.int way), some m1, none, some (.ref ut), none, none, none] ∧ Go st cs H5 H' ∧ H' ut = some (.tup us) ∧ Paired (fun u d => UnkP H' u d) us d ∧ MdlOk 4 d ∧ 1 ≤ d.length ∧ d.length ≤ 24) (fun N2 hN2 => ?_) fun σ' H6 pp => ?_
      · refine ifI rfl (fun _ => ?_) fun _ => ?_
        · obtain ⟨ma, mb, rr, mus, rfl, ea, eb, hmu⟩ := id (mdl_at M1.is)
          walk_at "aw"
          refine w_ixT (SqT.of ea) (at_nat (by decide) rfl) ?_
          walk_at "aw"
          refine w_someN (a := 1) (b := 5) eb hmu.p M1.ok.nd g5.ok (by decide) M1.l1 (by decide) (by have := M1.mo.ld; omega) fun sl made ds H6 g6 nsl esl hmade hds hnd h1 h5 => ?_
          have hml := hmade.length
          have osl := (g5.ok.ne nsl).1
          refine kLcL_all (xs := made) (SqL.of esl) osl (by omega) g6.ok (fun k u H' => ∃ (d : Str × List Int) (o : Str × List Int), UnkP H' u d ∧ ds[k]? = some o ∧ d.1 = o.1 ∧ DomOk 4 d.2) (fun _ _ _ _ kk ⟨d, o, h1, h2⟩ => ⟨d, o, h1.up kk, h2⟩) (fun j x H7 Kt e g7 kt => ?_) fun l8 H8 ys nl8 g8 el8 hyl hyr => ?_
          · have hjl := (List.getElem?_eq_some_iff.mp e).1
            obtain ⟨dm, hdm⟩ := get_some (xs := ds) (i := j) (by omega)
            obtain ⟨p, qd, rfl, ep, eq⟩ := (paired_at hmade e hdm).up g7.tk
            walk_at "aw"
            refine ⟨rfl, ?_⟩
            walk_at "aw"
            refine w_ixT (SqT.of ep) (at_nat (by decide) rfl) ?_
            walk_at "aw"
            refine ⟨st, 4, rfl, cs, g7.ok, by decide, by decide, fun t fl H9 g9 et hd => ?_⟩
            walk_at "aw"
            refine w_tupW (by simp) fun t2 HA aA et2 => ?_
            exact kt _ _ (g9.new aA) ⟨(dm.1, fl), dm, ⟨t2, t, rfl, et2, aA.tup _ _ et⟩, hdm, rfl, hd⟩
          obtain ⟨ns', hnl, hns⟩ := list_choose (P := fun k u (d : Str × List Int) => UnkP H8 u d ∧ (∃ o, ds[k]? = some o ∧ d.1 = o.1) ∧ DomOk 4 d.2) fun k u hu => by
            obtain ⟨d, o, h1, h2, h3, h4⟩ := hyr k u hu
            exact ⟨d, h1, ⟨o, h2, h3⟩, h4⟩
          have hnm : ns'.map (·.1) = ds.map (·.1) := by
            apply List.ext_getElem (by rw [List.length_map, List.length_map]; omega)
            intro i h1 h2
            rw [List.length_map] at h1 h2
            rw [List.getElem_map, List.getElem_map]
            obtain ⟨_, ⟨o, h3, h4⟩, _⟩ := hns i (ys[i]'(by omega)) _ (List.getElem?_eq_getElem (by omega)) (List.getElem?_eq_getElem h1)
            rw [List.getElem?_eq_getElem h2] at h3
            rw [h4, Option.some.inj h3]
          walk_at "aw"
          refine w_tupL (SqL.of el8) fun t9 H9 nt9 a9 et9 => ?_
          refine hN2 _ _ ⟨t9, ys, ns', rfl, g6.trans (g8.new a9), et9, paired_ix (by omega) fun i u d h1 h2 => (hns i u d h1 h2).1.up a9.tup, ⟨by rw [hnm]; exact hnd, fun x hx => ?_, fun d hd => ?_⟩, by omega, by omega⟩
          · rw [hnm] at hx
            obtain ⟨d, hd, rfl⟩ := List.mem_map.mp hx
            exact M1.ok.nm _ (List.mem_map_of_mem (hds d hd))
          · obtain ⟨i, hi, rfl⟩ := List.mem_iff_getElem.mp hd
            exact (hns i (ys[i]'(by omega)) _ (List.getElem?_eq_getElem (by omega)) (List.getElem?_eq_getElem hi)).2.2
        · exact hN2 _ _ ⟨t2, us2, d2, rfl, .refl g5.ok, et2, hus2.p, mok2, hl2, by omega⟩
      obtain ⟨ut, us, d, rfl, g6, eut, hus, mok, hl, hl'⟩ := pp
      have M1 := M1.up g6.tk
      have g26 := g25.trans g6
      walk_at "aw"
      refine w_iteB (fun hb => ?_) fun hb => ?_
      · walk_at "aw"
        exact hN _ _ ⟨m1, m1, _, _, _, _, _, _, _, rfl, g26, M1, M1⟩
      · walk_at "aw"
        refine dr ut us d H6 _ g6.ok eut hus mok hl hl' fun m2 dd2 i2 s2 H7 g7 M2 => ?_
        exact hN _ _ ⟨m1, m2, _, _, _, _, _, _, _, rfl, g26.trans g7, M1.up g7.tk, M2⟩
  obtain ⟨m1, m2, y5, d1, d2, i1, i2, s1, s2, rfl, g3, M1, M2⟩ := pp
  have ld1 := M1.mo.ld
  have ld2 := M2.mo.ld
  walk_at "aw"
  refine ⟨st, m1, m2, rfl, cs, d1, d2, 4, 4, g3.ok, mdl_at M1.is, M1.ok, by decide, M1.l1, ld1, mdl_at M2.is, M2.ok, by decide, ld2, fun vt L H4 g4 hvt hL => ?_⟩
  obtain ⟨vus, evt, hvs⟩ := hvt
  have hIs : Is H4 (.tuple (L.map itmD)) (.ref vt) := .tup evt (items_is hvs)
  have hLl := hL.length
  have hat : ∀ (i : Nat), i < L.length → ∃ it d, L[i]? = some it ∧ d2[i]? = some d ∧ ItmOk d1 d.2 it := fun i hi => by
    obtain ⟨it, e1⟩ := get_some (xs := L) (i := i) hi
    obtain ⟨d, e2⟩ := get_some (xs := d2) (i := i) (by omega)
    exact ⟨it, d, e1, e2, paired_at hL e1 e2⟩
  have hLa : ∀ it ∈ L, ∃ d, ItmOk d1 d it := fun it hit => by
    obtain ⟨i, hi, rfl⟩ := List.mem_iff_getElem.mp hit
    obtain ⟨it, d, e1, e2, o⟩ := hat i hi
    rw [List.getElem?_eq_getElem hi] at e1
    cases e1
    exact ⟨_, o⟩
  have h64 : ∀ it ∈ L, it.2.length ≤ 64 := fun it hit => by
    obtain ⟨d, o⟩ := hLa it hit
    have h1 := o.l64 M1.ok (by decide)
    have h2 := o.rows.length
    omega
  have hsw : Sw 4 (.tuple (L.map itmD)) := view_sw M1.ok hL (fun it hit => by have := h64 it hit; omega) (by omega)
  have hnone : vwB d1 d2 (.tuple (L.map itmD)) = none := vw_none (by rw [List.length_map]; omega) fun i D d h1 h2 => by
    rw [List.getElem?_map] at h1
    obtain ⟨it, e1, rfl⟩ := Option.map_eq_some_iff.mp h1
    have o := paired_at hL e1 h2
    exact o.right M1.ok (by have := o.l64 M1.ok (by decide); omega)
  have hLn : ∀ it ∈ L, it.1.length ≤ 3 ∧ ∀ s ∈ it.1, s.1 ∈ d1.map (·.1) := fun it hit => by
    obtain ⟨d, o⟩ := hLa it hit
    exact ⟨o.l3, fun s hs => List.mem_map_of_mem (o.mem s hs)⟩
  have hsm : SmE 16 (vmD d1 i1 d2 i2 L) := vm_sme M1.mo M2.mo (fun p hp => by have := (M1.ok.dm p hp).l2; omega) (fun p hp => by have := (M2.ok.dm p hp).l2; omega) fun it hit => by
    obtain ⟨d, o⟩ := hLa it hit
    refine ⟨o.l3, by have := h64 it hit; omega, fun r hr => ?_⟩
    obtain ⟨fr, v, rfl, _, _, hp⟩ := (o.rowsOk M1.ok (by have := o.l64 M1.ok (by decide); omega)).row hr
    have h3 := o.l3
    have := hp.length
    rw [List.length_map] at this
    rw [List.length_append]
    simp
    omega
  have M1 := M1.up g4.tk
  have M2 := M2.up g4.tk
  walk_at "aw"
  refine ⟨m1, m2, .ref vt, rfl, d1, i1, s1, d2, i2, s2, L, M1.is, M1.mo, M2.is, M2.mo, hIs, hLl, hLn, fun due H5 a5 hdue => ?_⟩
  walk_at "aw"
  refine ⟨m1, m2, .ref vt, rfl, d1, d2, 4, _, 4, mdl_at (M1.up a5.tup).is, M1.ok, by decide, ld1, mdl_at (M2.up a5.tup).is, ld2, hIs.up a5.tup, hsw, by decide, hnone, fun H6 a6 => ?_⟩
  walk_at "aw"
  have a56 := a5.trans a6
  refine w_notN ?_
  refine ⟨_, rfl, ?_⟩
  refine iteF'' rfl ?_
  walk_at "aw"
  refine ⟨m1, m2, .ref vt, rfl, d1, i1, s1, d2, i2, s2, L, (M1.up a56.tup).is, M1.mo, (M2.up a56.tup).is, M2.mo, hIs.up a56.tup, hLl, hLn, fun w H7 a7 hw => ?_⟩
  walk_at "aw"
  refine ⟨_, _, rfl, _, hw, hdue.up (a6.trans a7).tup, hsm, ?_⟩
  walk_at "aw"
  refine iteF'' rfl ?_
  walk_at "aw"
  refine w_callKR ?_
  walk_at "aw"
  have a57 := a56.trans a7
  refine ⟨m1, m2, .ref vt, rfl, d1, i1, s1, d2, i2, s2, L, (M1.up a57.tup).is, M1.mo, (M2.up a57.tup).is, M2.mo, hIs.up a57.tup, hLl, hLn, fun w2 H8 a8 hw2 => ?_⟩
  walk_at "aw"
  refine ⟨_, _, rfl, _, hw2, hdue.up (a6.trans (a7.trans a8)).tup, hsm, ?_⟩
  exact q _
end AW
namespace AW
open PySem PySem.Spec PyProof.Rows L2 RZ
open StX
def topS (i : Nat) : Stmt := PySem.Challenge.pw_aswritten_k53_the_very_view_model.main.body.getD i (.Pass ⟨0, 0, 0, 0⟩)
abbrev s__law_mixed : Stmt := topS 29
abbrev n__law_mixed : List Str := ["number", "turn", "first", "second"]
theorem sc__law_mixed : FnScope n__law_mixed ["number", "turn"] (defScope s__law_mixed) := ⟨rfl, rfl, rfl, by decide +kernel, rfl, by decide +kernel, by decide +kernel⟩
theorem ok__law_mixed {P : Program} {w : World} {K : PySem.W.Frag} {mg : Str → Option Value} {base : Heap} {f : Addr} {fd : FuncData} (F : Fun K "_law_mixed" "_law_mixed" s__law_mixed f fd) (gf : mg "_law_mixed" = some (.ref f))   (m_int : mg "int" = none)  : Cal P w K mg base "_law_mixed" 1 ["number", "turn"] (sp__law_mixed K) := by
  refine ⟨f, fd, F.ok sc__law_mixed len__law_mixed (fun cdv A outer s H vs Q E hr h => ⟨t__law_mixed , PSs.nox ?_, pure__law_mixed vs H Q E h⟩), F.kp, F.binds (fun _ _ _ _ _ _ us hl => match us, hl with | [_, _], _ => rfl), gf⟩
  exact (pss_cons (ps_set (i := 2) sc__law_mixed.nd rfl (by first | exact .inl rfl | exact .inr rfl) (pe_op op_mod (pe_callTy call_int1 (by rfl) m_int (by decide +kernel) (pa_cons (pe_op op_add (pe_op op_add (pe_op op_mul (pv 0) pe_int) (pe_op op_mul (pv 1) pe_int)) pe_int) pa_nil)) pe_int))
  (pss_cons (ps_set (i := 3) sc__law_mixed.nd rfl (by first | exact .inl rfl | exact .inr rfl) (pe_op op_mod (pe_callTy call_int1 (by rfl) m_int (by decide +kernel) (pa_cons (pe_op op_add (pe_op op_add (pe_op op_mul (pv 2) pe_int) (pe_op op_fdiv (pv 2) pe_int)) (pe_op op_mul (pv 1) pe_int)) pa_nil)) pe_int))
  (pss_one (ps_ret (pe_op op_mod (pe_callTy call_int1 (by rfl) m_int (by decide +kernel) (pa_cons (pe_op op_add (pe_op op_mul (pv 3) (pv 3)) (pe_op op_fdiv (pv 2) pe_int)) pa_nil)) pe_int)))))
abbrev s__law_draw : Stmt := topS 31
abbrev n__law_draw : List Str := ["tape", "many", "cell", "digit"]
theorem sc__law_draw : FnScope n__law_draw ["tape", "many"] (defScope s__law_draw) := ⟨rfl, rfl, rfl, by decide +kernel, rfl, by decide +kernel, by decide +kernel⟩
theorem ok__law_draw {P : Program} {w : World} {K : PySem.W.Frag} {mg : Str → Option Value} {base : Heap} {f : Addr} {fd : FuncData} (F : Fun K "_law_draw" "_law_draw" s__law_draw f fd) (gf : mg "_law_draw" = some (.ref f)) (C__law_mixed : Cal P w K mg base "_law_mixed" 1 ["number", "turn"] (sp__law_mixed K))  (m_int : mg "int" = none) (m_len : mg "len" = none)  : Cal P w K mg base "_law_draw" 2 ["tape", "many"] (sp__law_draw K) := by
  refine ⟨f, fd, F.ok sc__law_draw len__law_draw (fun cdv A outer s H vs Q E hr h => ⟨t__law_draw K, PSs.nox ?_, pure__law_draw vs H Q E h⟩), F.kp, F.binds (fun _ _ _ _ _ _ us hl => match us, hl with | [_, _], _ => rfl), gf⟩
  exact (pss_cons (ps_dput (hu_of hr) (pv 0) pe_str (pe_op op_add (pe_dget (hu_of hr) (pv 0) pe_str (fun _ _ => rfl)) pe_int) rfl)
  (pss_cons (ps_if (PW.pt (pw_and (pt_cmpR op_eq (pe_dget (hu_of hr) (pv 0) pe_str (fun _ _ => rfl)) pe_int (nomark _)) (pw_and1 (pt_cmpR op_lt (pe_dget (hu_of hr) (pv 0) pe_str (fun _ _ => rfl)) (pe_callB call_len1 (by rfl) m_len (by decide +kernel) (pa_cons (pe_dget (hu_of hr) (pv 0) pe_str (fun _ _ => rfl)) pa_nil)) (nomark _))))) (pss_cons (ps_set (i := 2) sc__law_draw.nd rfl (by first | exact .inl rfl | exact .inr rfl) (pe_ix ix_list (pe_dget (hu_of hr) (pv 0) pe_str (fun _ _ => rfl)) (pe_dget (hu_of hr) (pv 0) pe_str (fun _ _ => rfl)) (fun _ _ => rfl)))
  (pss_cons (ps_dput (hu_of hr) (pv 0) pe_str (pe_op op_add (pe_dget (hu_of hr) (pv 0) pe_str (fun _ _ => rfl)) pe_int) rfl)
  (pss_cons (ps_dput (hu_of hr) (pv 0) pe_str (pe_cal C__law_mixed (hr.mono (by decide)) rfl (pa_cons (pe_op op_add (pe_dget (hu_of hr) (pv 0) pe_str (fun _ _ => rfl)) (pv 2)) (pa_cons (pe_dget (hu_of hr) (pv 0) pe_str (fun _ _ => rfl)) pa_nil))) rfl)
  (pss_cons (ps_dput (hu_of hr) (pv 0) pe_str pe_int rfl)
  (pss_one (ps_if (pt_cmpR op_ge (pv 2) (pe_op op_pow pe_int pe_int) (nomark _)) (pss_cons (ps_dput (hu_of hr) (pv 0) pe_str (pv 2) rfl)
  (pss_one (ps_dput (hu_of hr) (pv 0) pe_str pe_int rfl))) pss_nil)))))) pss_nil)
  (pss_cons (ps_if (pt_cmpR op_gt (pe_dget (hu_of hr) (pv 0) pe_str (fun _ _ => rfl)) pe_int (nomark _)) (pss_one (ps_dput (hu_of hr) (pv 0) pe_str (pe_op op_sub (pe_dget (hu_of hr) (pv 0) pe_str (fun _ _ => rfl)) pe_int) rfl)) pss_nil)
  (pss_cons (ps_if (pt_cmpR op_eq (pe_dget (hu_of hr) (pv 0) pe_str (fun _ _ => rfl)) pe_int (nomark _)) (pss_one (ps_ret (pe_op op_mod (pe_callTy call_int1 (by rfl) m_int (by decide +kernel) (pa_cons (pe_cal C__law_mixed (hr.mono (by decide)) rfl (pa_cons (pe_dget (hu_of hr) (pv 0) pe_str (fun _ _ => rfl)) (pa_cons (pe_dget (hu_of hr) (pv 0) pe_str (fun _ _ => rfl)) pa_nil))) pa_nil)) (pv 1)))) pss_nil)
  (pss_cons (ps_set (i := 3) sc__law_draw.nd rfl (by first | exact .inl rfl | exact .inr rfl) (pe_op op_mod (pe_callTy call_int1 (by rfl) m_int (by decide +kernel) (pa_cons (pe_dget (hu_of hr) (pv 0) pe_str (fun _ _ => rfl)) pa_nil)) pe_int))
  (pss_cons (ps_dput (hu_of hr) (pv 0) pe_str (pe_op op_fdiv (pe_dget (hu_of hr) (pv 0) pe_str (fun _ _ => rfl)) pe_int) rfl)
  (pss_cons (ps_if (PW.pt (pw_or (pt_cmpR op_eq (pe_dget (hu_of hr) (pv 0) pe_str (fun _ _ => rfl)) pe_int (nomark _)) (pw_or1 (pt_cmpR op_eq (pe_dget (hu_of hr) (pv 0) pe_str (fun _ _ => rfl)) pe_int (nomark _))))) (pss_cons (ps_dput (hu_of hr) (pv 0) pe_str pe_int rfl)
  (pss_one (ps_dput (hu_of hr) (pv 0) pe_str pe_int rfl))) pss_nil)
  (pss_one (ps_ret (pe_op op_mod (pe_callTy call_int1 (by rfl) m_int (by decide +kernel) (pa_cons (pv 3) pa_nil)) (pv 1)))))))))))
abbrev s__law_domain : Stmt := topS 34
abbrev n__law_domain : List Str := ["tape", "most", "many", "value", "found", "k", "one"]
theorem sc__law_domain : FnScope n__law_domain ["tape", "most"] (defScope s__law_domain) := ⟨rfl, rfl, rfl, by decide +kernel, rfl, by decide +kernel, by decide +kernel⟩
theorem ok__law_domain {P : Program} {w : World} {K : PySem.W.Frag} {mg : Str → Option Value} {base : Heap} {f : Addr} {fd : FuncData} (F : Fun K "_law_domain" "_law_domain" s__law_domain f fd) (gf : mg "_law_domain" = some (.ref f)) (C__law_draw : Cal P w K mg base "_law_draw" 2 ["tape", "many"] (sp__law_draw K))  (m_min : mg "min" = none) (m_range : mg "range" = none) (m_tuple : mg "tuple" = none)  : Cal P w K mg base "_law_domain" 3 ["tape", "most"] (sp__law_domain K) := by
  refine ⟨f, fd, F.ok sc__law_domain len__law_domain (fun cdv A outer s H vs Q E hr h => ⟨t__law_domain K, PSs.nox ?_, pure__law_domain vs H Q E h⟩), F.kp, F.binds (fun _ _ _ _ _ _ us hl => match us, hl with | [_, _], _ => rfl), gf⟩
  exact (pss_cons (ps_set (i := 2) sc__law_domain.nd rfl (by first | exact .inl rfl | exact .inr rfl) (pe_callB (call_min2 rfl) (by rfl) m_min (by decide +kernel) (pa_cons (pv 1) (pa_cons (pe_op op_add pe_int (pe_cal C__law_draw (hr.mono (by decide)) rfl (pa_cons (pv 0) (pa_cons (pe_op op_add (pv 1) pe_int) pa_nil)))) pa_nil))))
  (pss_cons (ps_set (i := 3) sc__law_domain.nd rfl (by first | exact .inl rfl | exact .inr rfl) (pe_ix ix_list (pe_lst (pa_cons pe_int (pa_cons pe_int (pa_cons (pe_un un_neg pe_int) (pa_cons pe_int (pa_cons (pe_un un_neg pe_int) (pa_cons (pe_un un_neg pe_int) (pa_cons pe_int pa_nil)))))))) (pe_cal C__law_draw (hr.mono (by decide)) rfl (pa_cons (pv 0) (pa_cons pe_int pa_nil))) (fun _ _ => rfl)))
  (pss_cons (ps_set (i := 4) sc__law_domain.nd rfl (by first | exact .inl rfl | exact .inr rfl) (pe_lst (pa_cons (pv 3) pa_nil)))
  (pss_cons (ps_for PassesOwn.never rfl (pi_range1 (by rfl) m_range (pa_cons (pe_op op_sub (pv 2) pe_int) pa_nil)) (pg_name (i := 5) sc__law_domain.nd rfl (by first | exact .inl rfl | exact .inr rfl))
  (pss_one (ps_expr (pe_bm PySem.F.plainAttrs_list PySem.F.slot_list_append PySem.F.type_list_append mt_append (pv 4) (pa_cons (pe_op op_add (pe_ix ix_list (pv 4) (pe_un un_neg pe_int) (fun _ _ => rfl)) (pe_ix ix_list (pe_lst (pa_cons pe_int (pa_cons pe_int (pa_cons pe_int (pa_cons pe_int pa_nil))))) (pe_cal C__law_draw (hr.mono (by decide)) rfl (pa_cons (pv 0) (pa_cons pe_int pa_nil))) (fun _ _ => rfl))) pa_nil)))))
  (pss_one (ps_ret (pe_tupleOf (by rfl) m_tuple (pe_lc (own := [("one", 6)]) rfl sc__law_domain.nd (pi_list (pv 4)) (blkOk_by (own := [("one", 6)]) (N := n__law_domain) (sc := defScope s__law_domain) (by decide +kernel)) (fun _ _ _ _ _ => (pg_name (i := 6) sc__law_domain.nd rfl (by first | exact .inl rfl | exact .inr rfl))) (fun _ _ _ _ _ => (pts_one (pt_cmpR op_le (pv 6) pe_int (nomark _)))) (fun _ _ _ _ _ => (pv 6))))))))))
abbrev s__law_claim : Stmt := topS 36
abbrev n__law_claim : List Str := ["tape", "unknowns", "deep", "name", "domain", "way", "value", "parts", "k"]
theorem sc__law_claim : FnScope n__law_claim ["tape", "unknowns", "deep"] (defScope s__law_claim) := ⟨rfl, rfl, rfl, by decide +kernel, rfl, by decide +kernel, by decide +kernel⟩
theorem ok__law_claim_step (m : Nat) {P : Program} {w : World} {K : PySem.W.Frag} {mg : Str → Option Value} {base : Heap} {f : Addr} {fd : FuncData} (F : Fun K "_law_claim" "_law_claim" s__law_claim f fd) (gf : mg "_law_claim" = some (.ref f)) (C__law_draw : Cal P w K mg base "_law_draw" 2 ["tape", "many"] (sp__law_draw K)) (m_len : mg "len" = none) (m_max : mg "max" = none) (m_min : mg "min" = none) (m_range : mg "range" = none) (m_tuple : mg "tuple" = none)  (C__law_claim : Cal P w K mg base "_law_claim" (3 + m) ["tape", "unknowns", "deep"] (sp__law_claim K m)) : Cal P w K mg base "_law_claim" (3 + m + 1) ["tape", "unknowns", "deep"] (sp__law_claim K (m + 1)) := by
  refine ⟨f, fd, F.ok (k := 3 + m) sc__law_claim len__law_claim (fun cdv A outer s H vs Q E hr h => ⟨t__law_claim K m, PSs.nox ?_, pure__law_claim vs H Q E h⟩), F.kp, F.binds (fun _ _ _ _ _ _ us hl => match us, hl with | [_, _, _], _ => rfl), gf⟩
  exact (pss_cons (ps_asg (pe_ix ix_any (pv 1) (pe_cal C__law_draw (hr.mono (by omega)) rfl (pa_cons (pv 0) (pa_cons (pe_callB call_len1 (by rfl) m_len (by decide +kernel) (pa_cons (pv 1) pa_nil)) pa_nil))) (fun _ _ => rfl)) (pg_tup rfl (pgs_cons (pg_name (i := 3) sc__law_claim.nd rfl (by first | exact .inl rfl | exact .inr rfl)) (pgs_cons (pg_name (i := 4) sc__law_claim.nd rfl (by first | exact .inl rfl | exact .inr rfl)) pgs_nil))))
  (pss_cons (ps_set (i := 5) sc__law_claim.nd rfl (by first | exact .inl rfl | exact .inr rfl) (pe_cal C__law_draw (hr.mono (by omega)) rfl (pa_cons (pv 0) (pa_cons (pe_ifExp (pt_cmpR op_gt (pv 2) pe_int (nomark _)) pe_int pe_int) pa_nil))))
  (pss_cons (ps_if (pt_cmpR op_lt (pv 5) pe_int (nomark _)) (pss_cons (ps_set (i := 6) sc__law_claim.nd rfl (by first | exact .inl rfl | exact .inr rfl) (pe_ix ix_tup (pe_op op_catA (pv 4) (pe_tup (pa_cons (pe_op op_sub (pe_ix ix_tup (pv 4) pe_int (fun _ _ => rfl)) pe_int) (pa_cons (pe_op op_add (pe_ix ix_tup (pv 4) (pe_un un_neg pe_int) (fun _ _ => rfl)) pe_int) pa_nil)))) (pe_cal C__law_draw (hr.mono (by omega)) rfl (pa_cons (pv 0) (pa_cons (pe_op op_add (pe_callB call_len1 (by rfl) m_len (by decide +kernel) (pa_cons (pv 4) pa_nil)) pe_int) pa_nil))) (fun _ _ => rfl)))
  (pss_one (ps_ret (pe_tup (pa_cons (pe_ix ix_list (pe_lst (pa_cons pe_str (pa_cons pe_str pa_nil))) (pv 5) (fun _ _ => rfl)) (pa_cons (pv 3) (pa_cons (pe_callB (call_max2 rfl) (by rfl) m_max (by decide +kernel) (pa_cons (pe_un un_neg pe_int) (pa_cons (pe_callB (call_min2 rfl) (by rfl) m_min (by decide +kernel) (pa_cons pe_int (pa_cons (pv 6) pa_nil))) pa_nil))) pa_nil))))))) pss_nil)
  (pss_cons (ps_if (pt_cmpR op_eq (pv 5) pe_int (nomark _)) (pss_one (ps_ret (pe_tup (pa_cons pe_str (pa_cons (pe_cal C__law_claim (hr.mono (by omega)) rfl (pa_cons (pv 0) (pa_cons (pv 1) (pa_cons (pe_op op_sub (pv 2) pe_int) pa_nil)))) pa_nil))))) pss_nil)
  (pss_cons (ps_setLc (i := 7) (own := [("k", 8)]) rfl sc__law_claim.nd rfl rfl (sw_true rfl rfl rfl (by decide +kernel)) (pi_range1 (by rfl) m_range (pa_cons (pe_op op_add pe_int (pe_cal C__law_draw (hr.mono (by omega)) rfl (pa_cons (pv 0) (pa_cons pe_int pa_nil)))) pa_nil)) (blkOk_by (own := [("k", 8)]) (N := n__law_claim) (sc := defScope s__law_claim) (by decide +kernel)) (fun _ _ _ _ _ => (pg_name (i := 8) sc__law_claim.nd rfl (by first | exact .inl rfl | exact .inr rfl))) (fun _ _ _ _ _ => pts_nil) (fun _ _ _ _ _ => (pe_cal C__law_claim (hr.mono (by omega)) rfl (pa_cons (pv 0) (pa_cons (pv 1) (pa_cons (pe_op op_sub (pv 2) pe_int) pa_nil))))))
  (pss_cons (ps_if (pt_cmpR op_eq (pe_cal C__law_draw (hr.mono (by omega)) rfl (pa_cons (pv 0) (pa_cons pe_int pa_nil))) pe_int (nomark _)) (pss_one (ps_expr (pe_bm PySem.F.plainAttrs_list PySem.F.slot_list_append PySem.F.type_list_append mt_append (pv 7) (pa_cons (pe_tup (pa_cons (pe_ix ix_list (pe_lst (pa_cons pe_str (pa_cons pe_str pa_nil))) (pe_cal C__law_draw (hr.mono (by omega)) rfl (pa_cons (pv 0) (pa_cons pe_int pa_nil))) (fun _ _ => rfl)) (pa_cons (pe_tup pa_nil) pa_nil))) pa_nil)))) pss_nil)
  (pss_one (ps_ret (pe_tup (pa_cons (pe_ix ix_list (pe_lst (pa_cons pe_str (pa_cons pe_str pa_nil))) (pe_cal C__law_draw (hr.mono (by omega)) rfl (pa_cons (pv 0) (pa_cons pe_int pa_nil))) (fun _ _ => rfl)) (pa_cons (pe_tupleOf (by rfl) m_tuple (pv 7)) pa_nil)))))))))))
theorem ok__law_claim_all {P : Program} {w : World} {K : PySem.W.Frag} {mg : Str → Option Value} {base : Heap} {f : Addr} {fd : FuncData} (F : Fun K "_law_claim" "_law_claim" s__law_claim f fd) (gf : mg "_law_claim" = some (.ref f)) (C__law_draw : Cal P w K mg base "_law_draw" 2 ["tape", "many"] (sp__law_draw K)) (m_len : mg "len" = none) (m_max : mg "max" = none) (m_min : mg "min" = none) (m_range : mg "range" = none) (m_tuple : mg "tuple" = none)  : ∀ m, Cal P w K mg base "_law_claim" (3 + m) ["tape", "unknowns", "deep"] (sp__law_claim K m)
  | 0 => ⟨f, fd, F.ok (k := 2) sc__law_claim len__law_claim (fun cdv A outer s H vs Q E hr h => (no__law_claim h).elim), F.kp, F.binds (fun _ _ _ _ _ _ us hl => match us, hl with | [_, _, _], _ => rfl), gf⟩
  | m + 1 => ok__law_claim_step m F gf C__law_draw m_len m_max m_min m_range m_tuple (ok__law_claim_all F gf C__law_draw m_len m_max m_min m_range m_tuple m)
theorem ok__law_claim {P : Program} {w : World} {K : PySem.W.Frag} {mg : Str → Option Value} {base : Heap} {f : Addr} {fd : FuncData} (F : Fun K "_law_claim" "_law_claim" s__law_claim f fd) (gf : mg "_law_claim" = some (.ref f)) (C__law_draw : Cal P w K mg base "_law_draw" 2 ["tape", "many"] (sp__law_draw K)) (m_len : mg "len" = none) (m_max : mg "max" = none) (m_min : mg "min" = none) (m_range : mg "range" = none) (m_tuple : mg "tuple" = none)  : Cal P w K mg base "_law_claim" 7 ["tape", "unknowns", "deep"] (sp__law_claim K 4) := ok__law_claim_all F gf C__law_draw m_len m_max m_min m_range m_tuple 4
abbrev s__law_some : Stmt := topS 37
abbrev n__law_some : List Str := ["tape", "unknowns", "least", "most", "left", "many", "k"]
theorem sc__law_some : FnScope n__law_some ["tape", "unknowns", "least", "most"] (defScope s__law_some) := ⟨rfl, rfl, rfl, by decide +kernel, rfl, by decide +kernel, by decide +kernel⟩
theorem ok__law_some {P : Program} {w : World} {K : PySem.W.Frag} {mg : Str → Option Value} {base : Heap} {f : Addr} {fd : FuncData} (F : Fun K "_law_some" "_law_some" s__law_some f fd) (gf : mg "_law_some" = some (.ref f)) (C__law_draw : Cal P w K mg base "_law_draw" 2 ["tape", "many"] (sp__law_draw K))  (m_len : mg "len" = none) (m_list : mg "list" = none) (m_max : mg "max" = none) (m_min : mg "min" = none) (m_range : mg "range" = none)  : Cal P w K mg base "_law_some" 3 ["tape", "unknowns", "least", "most"] (sp__law_some K) := by
  refine ⟨f, fd, F.ok sc__law_some len__law_some (fun cdv A outer s H vs Q E hr h => ⟨t__law_some K, PSs.nox ?_, pure__law_some vs H Q E h⟩), F.kp, F.binds (fun _ _ _ _ _ _ us hl => match us, hl with | [_, _, _, _], _ => rfl), gf⟩
  exact (pss_cons (ps_set (i := 4) sc__law_some.nd rfl (by first | exact .inl rfl | exact .inr rfl) (pe_callTy (call_listOfA rfl) (by rfl) m_list (by decide +kernel) (pa_cons (pv 1) pa_nil)))
  (pss_cons (ps_set (i := 5) sc__law_some.nd rfl (by first | exact .inl rfl | exact .inr rfl) (pe_op op_add (pv 2) (pe_cal C__law_draw (hr.mono (by decide)) rfl (pa_cons (pv 0) (pa_cons (pe_callB (call_max2 rfl) (by rfl) m_max (by decide +kernel) (pa_cons pe_int (pa_cons (pe_op op_add (pe_op op_sub (pe_callB (call_min2 rfl) (by rfl) m_min (by decide +kernel) (pa_cons (pv 3) (pa_cons (pe_callB call_len1 (by rfl) m_len (by decide +kernel) (pa_cons (pv 4) pa_nil)) pa_nil))) (pv 2)) pe_int) pa_nil))) pa_nil)))))
  (pss_one (ps_ret (pe_lc (own := [("k", 6)]) rfl sc__law_some.nd (pi_range1 (by rfl) m_range (pa_cons (pv 5) pa_nil)) (blkOk_by (own := [("k", 6)]) (N := n__law_some) (sc := defScope s__law_some) (by decide +kernel)) (fun _ _ _ _ _ => (pg_name (i := 6) sc__law_some.nd rfl (by first | exact .inl rfl | exact .inr rfl))) (fun _ _ _ _ _ => pts_nil) (fun _ _ _ _ _ => (pe_bm PySem.F.plainAttrs_list PySem.F.slot_list_pop PySem.F.type_list_pop mt_popAt (pv 4) (pa_cons (pe_cal C__law_draw (hr.mono (by decide)) rfl (pa_cons (pv 0) (pa_cons (pe_callB call_len1 (by rfl) m_len (by decide +kernel) (pa_cons (pv 4) pa_nil)) pa_nil))) pa_nil))))))))
abbrev s__law_values : Stmt := topS 39
abbrev n__law_values : List Str := ["some", "found", "one", "value"]
theorem sc__law_values : FnScope n__law_values ["some"] (defScope s__law_values) := ⟨rfl, rfl, rfl, by decide +kernel, rfl, by decide +kernel, by decide +kernel⟩
theorem ok__law_values {P : Program} {w : World} {K : PySem.W.Frag} {mg : Str → Option Value} {base : Heap} {f : Addr} {fd : FuncData} (F : Fun K "_law_values" "_law_values" s__law_values f fd) (gf : mg "_law_values" = some (.ref f))   (m_sorted : mg "sorted" = none)  : Cal P w K mg base "_law_values" 1 ["some"] (sp__law_values K) := by
  refine ⟨f, fd, F.ok sc__law_values len__law_values (fun cdv A outer s H vs Q E hr h => ⟨t__law_values K, PSs.nox ?_, pure__law_values vs H Q E h⟩), F.kp, F.binds (fun _ _ _ _ _ _ us hl => match us, hl with | [_], _ => rfl), gf⟩
  exact (pss_cons (ps_set (i := 1) sc__law_values.nd rfl (by first | exact .inl rfl | exact .inr rfl) pe_dnewK)
  (pss_cons (ps_for PassesOwn.never rfl (pi_list (pv 0)) (pg_name (i := 2) sc__law_values.nd rfl (by first | exact .inl rfl | exact .inr rfl))
  (pss_one (ps_for PassesOwn.never rfl (pi_tup (pe_ix ix_tup (pv 2) pe_int (fun _ _ => rfl))) (pg_name (i := 3) sc__law_values.nd rfl (by first | exact .inl rfl | exact .inr rfl))
  (pss_one (ps_dput (hu_of hr) (pv 1) (pv 3) pe_int rfl)))))
  (pss_one (ps_ret (pe_callB (call_sortedDI rfl) (by rfl) m_sorted (by decide +kernel) (pa_cons (pv 1) pa_nil))))))
abbrev s__law_counted : Stmt := topS 42
abbrev n__law_counted : List Str := ["tape", "unknowns", "some", "values", "triples", "value", "low", "one"]
theorem sc__law_counted : FnScope n__law_counted ["tape", "unknowns"] (defScope s__law_counted) := ⟨rfl, rfl, rfl, by decide +kernel, rfl, by decide +kernel, by decide +kernel⟩
theorem ok__law_counted {P : Program} {w : World} {K : PySem.W.Frag} {mg : Str → Option Value} {base : Heap} {f : Addr} {fd : FuncData} (F : Fun K "_law_counted" "_law_counted" s__law_counted f fd) (gf : mg "_law_counted" = some (.ref f)) (C__law_draw : Cal P w K mg base "_law_draw" 2 ["tape", "many"] (sp__law_draw K)) (C__law_some : Cal P w K mg base "_law_some" 3 ["tape", "unknowns", "least", "most"] (sp__law_some K)) (C__law_values : Cal P w K mg base "_law_values" 1 ["some"] (sp__law_values K))  (m_len : mg "len" = none) (m_tuple : mg "tuple" = none)  : Cal P w K mg base "_law_counted" 4 ["tape", "unknowns"] (sp__law_counted K) := by
  refine ⟨f, fd, F.ok sc__law_counted len__law_counted (fun cdv A outer s H vs Q E hr h => ⟨t__law_counted K, PSs.nox ?_, pure__law_counted vs H Q E h⟩), F.kp, F.binds (fun _ _ _ _ _ _ us hl => match us, hl with | [_, _], _ => rfl), gf⟩
  exact (pss_cons (ps_set (i := 2) sc__law_counted.nd rfl (by first | exact .inl rfl | exact .inr rfl) (pe_cal C__law_some (hr.mono (by decide)) rfl (pa_cons (pv 0) (pa_cons (pv 1) (pa_cons pe_int (pa_cons pe_int pa_nil))))))
  (pss_cons (ps_set (i := 3) sc__law_counted.nd rfl (by first | exact .inl rfl | exact .inr rfl) (pe_cal C__law_values (hr.mono (by decide)) rfl (pa_cons (pv 2) pa_nil)))
  (pss_cons (ps_set (i := 3) sc__law_counted.nd rfl (by first | exact .inl rfl | exact .inr rfl) (pe_slice sl_list (pe_slice sl_list (pv 3) (po_some (pe_cal C__law_draw (hr.mono (by decide)) rfl (pa_cons (pv 0) (pa_cons (pe_callB call_len1 (by rfl) m_len (by decide +kernel) (pa_cons (pv 3) pa_nil)) pa_nil)))) po_none) po_none (po_some (pe_op op_add pe_int (pe_cal C__law_draw (hr.mono (by decide)) rfl (pa_cons (pv 0) (pa_cons pe_int pa_nil)))))))
  (pss_cons (ps_set (i := 4) sc__law_counted.nd rfl (by first | exact .inl rfl | exact .inr rfl) (pe_lst pa_nil))
  (pss_cons (ps_for PassesOwn.never rfl (pi_list (pv 3)) (pg_name (i := 5) sc__law_counted.nd rfl (by first | exact .inl rfl | exact .inr rfl))
  (pss_cons (ps_set (i := 6) sc__law_counted.nd rfl (by first | exact .inl rfl | exact .inr rfl) (pe_cal C__law_draw (hr.mono (by decide)) rfl (pa_cons (pv 0) (pa_cons pe_int pa_nil))))
  (pss_one (ps_expr (pe_bm PySem.F.plainAttrs_list PySem.F.slot_list_append PySem.F.type_list_append mt_append (pv 4) (pa_cons (pe_tup (pa_cons (pv 5) (pa_cons (pv 6) (pa_cons (pe_op op_add (pv 6) (pe_cal C__law_draw (hr.mono (by decide)) rfl (pa_cons (pv 0) (pa_cons pe_int pa_nil)))) pa_nil)))) pa_nil))))))
  (pss_one (ps_ret (pe_tup (pa_cons pe_str (pa_cons (pe_tupleOf (by rfl) m_tuple (pe_lc (own := [("one", 7)]) rfl sc__law_counted.nd (pi_list (pv 2)) (blkOk_by (own := [("one", 7)]) (N := n__law_counted) (sc := defScope s__law_counted) (by decide +kernel)) (fun _ _ _ _ _ => (pg_name (i := 7) sc__law_counted.nd rfl (by first | exact .inl rfl | exact .inr rfl))) (fun _ _ _ _ _ => pts_nil) (fun _ _ _ _ _ => (pe_ix ix_tup (pv 7) pe_int (fun _ _ => rfl))))) (pa_cons (pe_tupleOf (by rfl) m_tuple (pv 4)) pa_nil)))))))))))
abbrev s__law_machine : Stmt := topS 40
abbrev n__law_machine : List Str := ["tape", "some", "moves", "stands", "values", "stand", "value", "ends", "k", "rows", "key", "one"]
theorem sc__law_machine : FnScope n__law_machine ["tape", "some"] (defScope s__law_machine) := ⟨rfl, rfl, rfl, by decide +kernel, rfl, by decide +kernel, by decide +kernel⟩
theorem ok__law_machine {P : Program} {w : World} {K : PySem.W.Frag} {mg : Str → Option Value} {base : Heap} {f : Addr} {fd : FuncData} (F : Fun K "_law_machine" "_law_machine" s__law_machine f fd) (gf : mg "_law_machine" = some (.ref f)) (C__law_draw : Cal P w K mg base "_law_draw" 2 ["tape", "many"] (sp__law_draw K)) (C__law_values : Cal P w K mg base "_law_values" 1 ["some"] (sp__law_values K))  (m_range : mg "range" = none) (m_sorted : mg "sorted" = none) (m_tuple : mg "tuple" = none)  : Cal P w K mg base "_law_machine" 3 ["tape", "some"] (sp__law_machine K) := by
  refine ⟨f, fd, F.ok sc__law_machine len__law_machine (fun cdv A outer s H vs Q E hr h => ⟨t__law_machine K, PSs.nox ?_, pure__law_machine vs H Q E h⟩), F.kp, F.binds (fun _ _ _ _ _ _ us hl => match us, hl with | [_, _], _ => rfl), gf⟩
  exact (pss_cons (ps_set (i := 2) sc__law_machine.nd rfl (by first | exact .inl rfl | exact .inr rfl) pe_dnewT)
  (pss_cons (ps_set (i := 3) sc__law_machine.nd rfl (by first | exact .inl rfl | exact .inr rfl) (pe_op op_add pe_int (pe_cal C__law_draw (hr.mono (by decide)) rfl (pa_cons (pv 0) (pa_cons pe_int pa_nil)))))
  (pss_cons (ps_set (i := 4) sc__law_machine.nd rfl (by first | exact .inl rfl | exact .inr rfl) (pe_cal C__law_values (hr.mono (by decide)) rfl (pa_cons (pv 1) pa_nil)))
  (pss_cons (ps_for PassesOwn.never rfl (pi_range1 (by rfl) m_range (pa_cons (pv 3) pa_nil)) (pg_name (i := 5) sc__law_machine.nd rfl (by first | exact .inl rfl | exact .inr rfl))
  (pss_one (ps_for PassesOwn.never rfl (pi_list (pv 4)) (pg_name (i := 6) sc__law_machine.nd rfl (by first | exact .inl rfl | exact .inr rfl))
  (pss_one (ps_if (pt_cmpR op_gt (pe_cal C__law_draw (hr.mono (by decide)) rfl (pa_cons (pv 0) (pa_cons pe_int pa_nil))) pe_int (nomark _)) (pss_one (ps_dput (hu_of hr) (pv 2) (pe_tup (pa_cons (pv 5) (pa_cons (pv 6) pa_nil))) (pe_cal C__law_draw (hr.mono (by decide)) rfl (pa_cons (pv 0) (pa_cons (pv 3) pa_nil))) rfl)) pss_nil)))))
  (pss_cons (ps_set (i := 7) sc__law_machine.nd rfl (by first | exact .inl rfl | exact .inr rfl) (pe_tupleOf (by rfl) m_tuple (pe_lc (own := [("k", 8)]) rfl sc__law_machine.nd (pi_range1 (by rfl) m_range (pa_cons (pe_op op_add (pv 3) pe_int) pa_nil)) (blkOk_by (own := [("k", 8)]) (N := n__law_machine) (sc := defScope s__law_machine) (by decide +kernel)) (fun _ _ _ _ _ => (pg_name (i := 8) sc__law_machine.nd rfl (by first | exact .inl rfl | exact .inr rfl))) (fun _ _ _ _ _ => (pts_one (pt_cmpR op_eq (pe_cal C__law_draw (hr.mono (by decide)) rfl (pa_cons (pv 0) (pa_cons pe_int pa_nil))) pe_int (nomark _)))) (fun _ _ _ _ _ => (pv 8)))))
  (pss_cons (ps_set (i := 9) sc__law_machine.nd rfl (by first | exact .inl rfl | exact .inr rfl) (pe_tupleOf (by rfl) m_tuple (pe_lc (own := [("key", 10)]) rfl sc__law_machine.nd (pi_list (pe_callB (call_sortedDT rfl (units64 hr)) (by rfl) m_sorted (by decide +kernel) (pa_cons (pv 2) pa_nil))) (blkOk_by (own := [("key", 10)]) (N := n__law_machine) (sc := defScope s__law_machine) (by decide +kernel)) (fun _ _ _ _ _ => (pg_name (i := 10) sc__law_machine.nd rfl (by first | exact .inl rfl | exact .inr rfl))) (fun _ _ _ _ _ => pts_nil) (fun _ _ _ _ _ => (pe_op op_catA (pv 10) (pe_tup (pa_cons (pe_dget (hu_of hr) (pv 2) (pv 10) (fun _ _ => rfl)) pa_nil)))))))
  (pss_one (ps_ret (pe_tup (pa_cons pe_str (pa_cons (pe_tupleOf (by rfl) m_tuple (pe_lc (own := [("one", 11)]) rfl sc__law_machine.nd (pi_list (pv 1)) (blkOk_by (own := [("one", 11)]) (N := n__law_machine) (sc := defScope s__law_machine) (by decide +kernel)) (fun _ _ _ _ _ => (pg_name (i := 11) sc__law_machine.nd rfl (by first | exact .inl rfl | exact .inr rfl))) (fun _ _ _ _ _ => pts_nil) (fun _ _ _ _ _ => (pe_ix ix_tup (pv 11) pe_int (fun _ _ => rfl))))) (pa_cons (pe_cal C__law_draw (hr.mono (by decide)) rfl (pa_cons (pv 0) (pa_cons (pv 3) pa_nil))) (pa_cons (pe_slice sl_tupA (pv 9) po_none (po_some pe_int)) (pa_cons (pv 7) pa_nil))))))))))))))
abbrev s__law_rows_of : Stmt := topS 38
abbrev n__law_rows_of : List Str := ["tape", "some", "most", "rows", "k", "one"]
theorem sc__law_rows_of : FnScope n__law_rows_of ["tape", "some", "most"] (defScope s__law_rows_of) := ⟨rfl, rfl, rfl, by decide +kernel, rfl, by decide +kernel, by decide +kernel⟩
theorem ok__law_rows_of {P : Program} {w : World} {K : PySem.W.Frag} {mg : Str → Option Value} {base : Heap} {f : Addr} {fd : FuncData} (F : Fun K "_law_rows_of" "_law_rows_of" s__law_rows_of f fd) (gf : mg "_law_rows_of" = some (.ref f)) (C__law_draw : Cal P w K mg base "_law_draw" 2 ["tape", "many"] (sp__law_draw K))  (m_len : mg "len" = none) (m_min : mg "min" = none) (m_range : mg "range" = none) (m_sorted : mg "sorted" = none) (m_tuple : mg "tuple" = none)  : Cal P w K mg base "_law_rows_of" 3 ["tape", "some", "most"] (sp__law_rows_of K) := by
  refine ⟨f, fd, F.ok sc__law_rows_of len__law_rows_of (fun cdv A outer s H vs Q E hr h => ⟨t__law_rows_of K, PSs.nox ?_, pure__law_rows_of vs H Q E h⟩), F.kp, F.binds (fun _ _ _ _ _ _ us hl => match us, hl with | [_, _, _], _ => rfl), gf⟩
  exact (pss_cons (ps_set (i := 3) sc__law_rows_of.nd rfl (by first | exact .inl rfl | exact .inr rfl) pe_dnewT)
  (pss_cons (ps_for PassesOwn.never rfl (pi_range1 (by rfl) m_range (pa_cons (pe_op op_add pe_int (pe_cal C__law_draw (hr.mono (by decide)) rfl (pa_cons (pv 0) (pa_cons (pv 2) pa_nil)))) pa_nil)) (pg_name (i := 4) sc__law_rows_of.nd rfl (by first | exact .inl rfl | exact .inr rfl))
  (pss_one (ps_dput (hu_of hr) (pv 3) (pe_tupleOf (by rfl) m_tuple (pe_lc (own := [("one", 5)]) rfl sc__law_rows_of.nd (pi_list (pv 1)) (blkOk_by (own := [("one", 5)]) (N := n__law_rows_of) (sc := defScope s__law_rows_of) (by decide +kernel)) (fun _ _ _ _ _ => (pg_name (i := 5) sc__law_rows_of.nd rfl (by first | exact .inl rfl | exact .inr rfl))) (fun _ _ _ _ _ => pts_nil) (fun _ _ _ _ _ => (pe_ix ix_tup (pe_ix ix_tup (pv 5) pe_int (fun _ _ => rfl)) (pe_cal C__law_draw (hr.mono (by decide)) rfl (pa_cons (pv 0) (pa_cons (pe_callB call_len1 (by rfl) m_len (by decide +kernel) (pa_cons (pe_ix ix_tup (pv 5) pe_int (fun _ _ => rfl)) pa_nil)) pa_nil))) (fun _ _ => rfl))))) pe_bl rfl)))
  (pss_cons (ps_if (pt_cmpR op_eq (pe_cal C__law_draw (hr.mono (by decide)) rfl (pa_cons (pv 0) (pa_cons pe_int pa_nil))) pe_int (nomark _)) (pss_one (ps_dput (hu_of hr) (pv 3) (pe_tupleOf (by rfl) m_tuple (pe_lc (own := [("one", 5)]) rfl sc__law_rows_of.nd (pi_list (pv 1)) (blkOk_by (own := [("one", 5)]) (N := n__law_rows_of) (sc := defScope s__law_rows_of) (by decide +kernel)) (fun _ _ _ _ _ => (pg_name (i := 5) sc__law_rows_of.nd rfl (by first | exact .inl rfl | exact .inr rfl))) (fun _ _ _ _ _ => pts_nil) (fun _ _ _ _ _ => (pe_callB (call_min2 rfl) (by rfl) m_min (by decide +kernel) (pa_cons pe_int (pa_cons (pe_op op_add (pe_ix ix_tup (pe_ix ix_tup (pv 5) pe_int (fun _ _ => rfl)) (pe_un un_neg pe_int) (fun _ _ => rfl)) pe_int) pa_nil)))))) pe_bl rfl)) pss_nil)
  (pss_one (ps_ret (pe_tupleOf (by rfl) m_tuple (pe_callB (call_sortedDT rfl (units64 hr)) (by rfl) m_sorted (by decide +kernel) (pa_cons (pv 3) pa_nil))))))))
abbrev s__law_sum_of : Stmt := topS 41
abbrev n__law_sum_of : List Str := ["tape", "unknowns", "some", "terms", "one", "at", "x", "w"]
theorem sc__law_sum_of : FnScope n__law_sum_of ["tape", "unknowns"] (defScope s__law_sum_of) := ⟨rfl, rfl, rfl, by decide +kernel, rfl, by decide +kernel, by decide +kernel⟩
theorem ok__law_sum_of {P : Program} {w : World} {K : PySem.W.Frag} {mg : Str → Option Value} {base : Heap} {f : Addr} {fd : FuncData} (F : Fun K "_law_sum_of" "_law_sum_of" s__law_sum_of f fd) (gf : mg "_law_sum_of" = some (.ref f)) (C__law_draw : Cal P w K mg base "_law_draw" 2 ["tape", "many"] (sp__law_draw K)) (C__law_some : Cal P w K mg base "_law_some" 3 ["tape", "unknowns", "least", "most"] (sp__law_some K))  (m_dict : mg "dict" = none) (m_len : mg "len" = none) (m_sum : mg "sum" = none) (m_tuple : mg "tuple" = none)  : Cal P w K mg base "_law_sum_of" 4 ["tape", "unknowns"] (sp__law_sum_of K) := by
  refine ⟨f, fd, F.ok sc__law_sum_of len__law_sum_of (fun cdv A outer s H vs Q E hr h => ⟨t__law_sum_of K, PSs.nox ?_, pure__law_sum_of vs H Q E h⟩), F.kp, F.binds (fun _ _ _ _ _ _ us hl => match us, hl with | [_, _], _ => rfl), gf⟩
  exact (pss_cons (ps_set (i := 2) sc__law_sum_of.nd rfl (by first | exact .inl rfl | exact .inr rfl) (pe_cal C__law_some (hr.mono (by decide)) rfl (pa_cons (pv 0) (pa_cons (pv 1) (pa_cons pe_int (pa_cons pe_int pa_nil))))))
  (pss_cons (ps_set (i := 3) sc__law_sum_of.nd rfl (by first | exact .inl rfl | exact .inr rfl) (pe_tupleOf (by rfl) m_tuple (pe_lc (own := [("one", 4)]) rfl sc__law_sum_of.nd (pi_list (pv 2)) (blkOk_by (own := [("one", 4)]) (N := n__law_sum_of) (sc := defScope s__law_sum_of) (by decide +kernel)) (fun _ _ _ _ _ => (pg_name (i := 4) sc__law_sum_of.nd rfl (by first | exact .inl rfl | exact .inr rfl))) (fun _ _ _ _ _ => pts_nil) (fun _ _ _ _ _ => (pe_tup (pa_cons (pe_ix ix_tup (pv 4) pe_int (fun _ _ => rfl)) (pa_cons (pe_ix ix_list (pe_lst (pa_cons pe_int (pa_cons pe_int (pa_cons pe_int (pa_cons (pe_un un_neg pe_int) (pa_cons (pe_un un_neg pe_int) (pa_cons pe_int pa_nil))))))) (pe_cal C__law_draw (hr.mono (by decide)) rfl (pa_cons (pv 0) (pa_cons pe_int pa_nil))) (fun _ _ => rfl)) pa_nil)))))))
  (pss_cons (ps_set (i := 5) sc__law_sum_of.nd rfl (by first | exact .inl rfl | exact .inr rfl) (pe_callTy (call_dictP1 rfl) (by rfl) m_dict (by decide +kernel) (pa_cons (pe_lc (own := [("one", 4)]) rfl sc__law_sum_of.nd (pi_list (pv 2)) (blkOk_by (own := [("one", 4)]) (N := n__law_sum_of) (sc := defScope s__law_sum_of) (by decide +kernel)) (fun _ _ _ _ _ => (pg_name (i := 4) sc__law_sum_of.nd rfl (by first | exact .inl rfl | exact .inr rfl))) (fun _ _ _ _ _ => pts_nil) (fun _ _ _ _ _ => (pe_tup (pa_cons (pe_ix ix_tup (pv 4) pe_int (fun _ _ => rfl)) (pa_cons (pe_ix ix_tup (pe_ix ix_tup (pv 4) pe_int (fun _ _ => rfl)) (pe_cal C__law_draw (hr.mono (by decide)) rfl (pa_cons (pv 0) (pa_cons (pe_callB call_len1 (by rfl) m_len (by decide +kernel) (pa_cons (pe_ix ix_tup (pv 4) pe_int (fun _ _ => rfl)) pa_nil)) pa_nil))) (fun _ _ => rfl)) pa_nil))))) pa_nil)))
  (pss_one (ps_ret (pe_tup (pa_cons (pe_ix ix_list (pe_lst (pa_cons pe_str (pa_cons pe_str (pa_cons pe_str pa_nil)))) (pe_cal C__law_draw (hr.mono (by decide)) rfl (pa_cons (pv 0) (pa_cons pe_int pa_nil))) (fun _ _ => rfl)) (pa_cons (pv 3) (pa_cons (pe_callB (cr_sum rfl) (by rfl) m_sum (by decide +kernel) (pa_cons (pe_lc (own := [("x", 6), ("w", 7)]) rfl sc__law_sum_of.nd (pi_tup (pv 3)) (blkOk_by (own := [("x", 6), ("w", 7)]) (N := n__law_sum_of) (sc := defScope s__law_sum_of) (by decide +kernel)) (fun _ _ _ _ _ => (pg_tup rfl (pgs_cons (pg_name (i := 6) sc__law_sum_of.nd rfl (by first | exact .inl rfl | exact .inr rfl)) (pgs_cons (pg_name (i := 7) sc__law_sum_of.nd rfl (by first | exact .inl rfl | exact .inr rfl)) pgs_nil)))) (fun _ _ _ _ _ => pts_nil) (fun _ _ _ _ _ => (pe_op op_mul (pe_dget (hu_of hr) (pv 5) (pv 6) (fun _ _ => rfl)) (pv 7)))) pa_nil)) pa_nil)))))))))
abbrev s__law_saying : Stmt := topS 43
abbrev n__law_saying : List Str := ["tape", "unknowns", "deep", "way", "n", "one", "some", "rows", "names", "half", "lengths", "needs"]
theorem sc__law_saying : FnScope n__law_saying ["tape", "unknowns", "deep"] (defScope s__law_saying) := ⟨rfl, rfl, rfl, by decide +kernel, rfl, by decide +kernel, by decide +kernel⟩
theorem ok__law_saying_step (m : Nat) {P : Program} {w : World} {K : PySem.W.Frag} {mg : Str → Option Value} {base : Heap} {f : Addr} {fd : FuncData} (F : Fun K "_law_saying" "_law_saying" s__law_saying f fd) (gf : mg "_law_saying" = some (.ref f)) (C__law_claim : Cal P w K mg base "_law_claim" 7 ["tape", "unknowns", "deep"] (sp__law_claim K 4)) (C__law_counted : Cal P w K mg base "_law_counted" 4 ["tape", "unknowns"] (sp__law_counted K)) (C__law_draw : Cal P w K mg base "_law_draw" 2 ["tape", "many"] (sp__law_draw K)) (C__law_machine : Cal P w K mg base "_law_machine" 3 ["tape", "some"] (sp__law_machine K)) (C__law_rows_of : Cal P w K mg base "_law_rows_of" 3 ["tape", "some", "most"] (sp__law_rows_of K)) (C__law_some : Cal P w K mg base "_law_some" 3 ["tape", "unknowns", "least", "most"] (sp__law_some K)) (C__law_sum_of : Cal P w K mg base "_law_sum_of" 4 ["tape", "unknowns"] (sp__law_sum_of K)) (m_int : mg "int" = none) (m_len : mg "len" = none) (m_tuple : mg "tuple" = none)  (C__law_saying : Cal P w K mg base "_law_saying" (8 + m) ["tape", "unknowns", "deep"] (sp__law_saying K m)) : Cal P w K mg base "_law_saying" (8 + m + 1) ["tape", "unknowns", "deep"] (sp__law_saying K (m + 1)) := by
  refine ⟨f, fd, F.ok (k := 8 + m) sc__law_saying len__law_saying (fun cdv A outer s H vs Q E hr h => ⟨t__law_saying K m, PSs.nox ?_, pure__law_saying vs H Q E h⟩), F.kp, F.binds (fun _ _ _ _ _ _ us hl => match us, hl with | [_, _, _], _ => rfl), gf⟩
  exact (pss_cons (ps_set (i := 3) sc__law_saying.nd rfl (by first | exact .inl rfl | exact .inr rfl) (pe_cal C__law_draw (hr.mono (by omega)) rfl (pa_cons (pv 0) (pa_cons (pe_op op_add pe_int (pe_op op_mul pe_int (pv 2))) pa_nil))))
  (pss_cons (ps_set (i := 4) sc__law_saying.nd rfl (by first | exact .inl rfl | exact .inr rfl) (pe_callB call_len1 (by rfl) m_len (by decide +kernel) (pa_cons (pv 1) pa_nil)))
  (pss_cons (ps_if (PW.pt (pw_or (pt_cmpR op_eq (pv 3) pe_int (nomark _)) (pw_or1 (PW.pt (pw_and (pt_cmpR op_in_seq (pv 3) (pe_lst (pa_cons pe_int (pa_cons pe_int (pa_cons pe_int (pa_cons pe_int pa_nil))))) (by rfl)) (pw_and1 (pt_cmpR op_lt (pv 4) (pe_ix ix_list (pe_lst (pa_cons pe_int (pa_cons pe_int (pa_cons pe_int (pa_cons pe_int pa_nil))))) (pe_op op_sub (pv 3) pe_int) (fun _ _ => rfl)) (nomark _)))))))) (pss_one (ps_ret (pe_cal C__law_sum_of (hr.mono (by omega)) rfl (pa_cons (pv 0) (pa_cons (pv 1) pa_nil))))) pss_nil)
  (pss_cons (ps_if (pt_cmpR op_eq (pv 3) pe_int (nomark _)) (pss_one (ps_ret (pe_tup (pa_cons pe_str (pa_cons (pe_tupleOf (by rfl) m_tuple (pe_lc (own := [("one", 5)]) rfl sc__law_saying.nd (pi_list (pe_cal C__law_some (hr.mono (by omega)) rfl (pa_cons (pv 0) (pa_cons (pv 1) (pa_cons pe_int (pa_cons pe_int pa_nil)))))) (blkOk_by (own := [("one", 5)]) (N := n__law_saying) (sc := defScope s__law_saying) (by decide +kernel)) (fun _ _ _ _ _ => (pg_name (i := 5) sc__law_saying.nd rfl (by first | exact .inl rfl | exact .inr rfl))) (fun _ _ _ _ _ => pts_nil) (fun _ _ _ _ _ => (pe_ix ix_tup (pv 5) pe_int (fun _ _ => rfl))))) pa_nil))))) pss_nil)
  (pss_cons (ps_if (pt_cmpR op_eq (pv 3) pe_int (nomark _)) (pss_one (ps_ret (pe_cal C__law_counted (hr.mono (by omega)) rfl (pa_cons (pv 0) (pa_cons (pv 1) pa_nil))))) pss_nil)
  (pss_cons (ps_if (PW.pt (pw_or (pt_cmpR op_eq (pv 3) pe_int (nomark _)) (pw_or1 (pt_cmpR op_eq (pv 3) pe_int (nomark _))))) (pss_cons (ps_set (i := 6) sc__law_saying.nd rfl (by first | exact .inl rfl | exact .inr rfl) (pe_cal C__law_some (hr.mono (by omega)) rfl (pa_cons (pv 0) (pa_cons (pv 1) (pa_cons pe_int (pa_cons pe_int pa_nil))))))
  (pss_cons (ps_set (i := 7) sc__law_saying.nd rfl (by first | exact .inl rfl | exact .inr rfl) (pe_cal C__law_rows_of (hr.mono (by omega)) rfl (pa_cons (pv 0) (pa_cons (pv 6) (pa_cons (pe_op op_add pe_int (pe_op op_mul pe_int (pe_callTy call_int1 (by rfl) m_int (by decide +kernel) (pa_cons (pe_cmpR op_eq (pv 3) pe_int (nomark _)) pa_nil)))) pa_nil)))))
  (pss_one (ps_ret (pe_tup (pa_cons (pe_ix ix_list (pe_lst (pa_cons pe_str (pa_cons pe_str pa_nil))) (pe_callTy call_int1 (by rfl) m_int (by decide +kernel) (pa_cons (pe_cmpR op_eq (pv 3) pe_int (nomark _)) pa_nil)) (fun _ _ => rfl)) (pa_cons (pe_tupleOf (by rfl) m_tuple (pe_lc (own := [("one", 5)]) rfl sc__law_saying.nd (pi_list (pv 6)) (blkOk_by (own := [("one", 5)]) (N := n__law_saying) (sc := defScope s__law_saying) (by decide +kernel)) (fun _ _ _ _ _ => (pg_name (i := 5) sc__law_saying.nd rfl (by first | exact .inl rfl | exact .inr rfl))) (fun _ _ _ _ _ => pts_nil) (fun _ _ _ _ _ => (pe_ix ix_tup (pv 5) pe_int (fun _ _ => rfl))))) (pa_cons (pv 7) pa_nil)))))))) pss_nil)
  (pss_cons (ps_if (pt_cmpR op_eq (pv 3) pe_int (nomark _)) (pss_cons (ps_setLc (i := 8) (own := [("one", 5)]) rfl sc__law_saying.nd rfl rfl (sw_true rfl rfl rfl (by decide +kernel)) (pi_list (pe_cal C__law_some (hr.mono (by omega)) rfl (pa_cons (pv 0) (pa_cons (pv 1) (pa_cons pe_int (pa_cons pe_int pa_nil)))))) (blkOk_by (own := [("one", 5)]) (N := n__law_saying) (sc := defScope s__law_saying) (by decide +kernel)) (fun _ _ _ _ _ => (pg_name (i := 5) sc__law_saying.nd rfl (by first | exact .inl rfl | exact .inr rfl))) (fun _ _ _ _ _ => pts_nil) (fun _ _ _ _ _ => (pe_ix ix_tup (pv 5) pe_int (fun _ _ => rfl))))
  (pss_one (ps_ret (pe_tup (pa_cons pe_str (pa_cons (pe_tupleOf (by rfl) m_tuple (pe_slice sl_list (pv 8) (po_some pe_int) po_none)) (pa_cons (pe_ix ix_list (pv 8) pe_int (fun _ _ => rfl)) pa_nil))))))) pss_nil)
  (pss_cons (ps_if (pt_cmpR op_eq (pv 3) pe_int (nomark _)) (pss_cons (ps_setLc (i := 8) (own := [("one", 5)]) rfl sc__law_saying.nd rfl rfl (sw_true rfl rfl rfl (by decide +kernel)) (pi_list (pe_cal C__law_some (hr.mono (by omega)) rfl (pa_cons (pv 0) (pa_cons (pv 1) (pa_cons pe_int (pa_cons pe_int pa_nil)))))) (blkOk_by (own := [("one", 5)]) (N := n__law_saying) (sc := defScope s__law_saying) (by decide +kernel)) (fun _ _ _ _ _ => (pg_name (i := 5) sc__law_saying.nd rfl (by first | exact .inl rfl | exact .inr rfl))) (fun _ _ _ _ _ => pts_nil) (fun _ _ _ _ _ => (pe_ix ix_tup (pv 5) pe_int (fun _ _ => rfl))))
  (pss_cons (ps_set (i := 9) sc__law_saying.nd rfl (by first | exact .inl rfl | exact .inr rfl) (pe_op op_fdiv (pe_callB call_len1 (by rfl) m_len (by decide +kernel) (pa_cons (pv 8) pa_nil)) pe_int))
  (pss_one (ps_ret (pe_tup (pa_cons pe_str (pa_cons (pe_tupleOf (by rfl) m_tuple (pe_slice sl_list (pv 8) po_none (po_some (pv 9)))) (pa_cons (pe_tupleOf (by rfl) m_tuple (pe_slice sl_list (pv 8) (po_some (pv 9)) (po_some (pe_op op_mul pe_int (pv 9))))) pa_nil)))))))) pss_nil)
  (pss_cons (ps_if (pt_cmpR op_eq (pv 3) pe_int (nomark _)) (pss_cons (ps_setLc (i := 8) (own := [("one", 5)]) rfl sc__law_saying.nd rfl rfl (sw_true rfl rfl rfl (by decide +kernel)) (pi_list (pe_cal C__law_some (hr.mono (by omega)) rfl (pa_cons (pv 0) (pa_cons (pv 1) (pa_cons pe_int (pa_cons pe_int pa_nil)))))) (blkOk_by (own := [("one", 5)]) (N := n__law_saying) (sc := defScope s__law_saying) (by decide +kernel)) (fun _ _ _ _ _ => (pg_name (i := 5) sc__law_saying.nd rfl (by first | exact .inl rfl | exact .inr rfl))) (fun _ _ _ _ _ => pts_nil) (fun _ _ _ _ _ => (pe_ix ix_tup (pv 5) pe_int (fun _ _ => rfl))))
  (pss_one (ps_ret (pe_tup (pa_cons pe_str (pa_cons (pe_ix ix_list (pv 8) pe_int (fun _ _ => rfl)) (pa_cons (pe_tupleOf (by rfl) m_tuple (pe_slice sl_list (pv 8) (po_some pe_int) po_none)) (pa_cons (pe_ix ix_list (pv 8) pe_int (fun _ _ => rfl)) pa_nil)))))))) pss_nil)
  (pss_cons (ps_if (pt_cmpR op_eq (pv 3) pe_int (nomark _)) (pss_one (ps_ret (pe_op op_catA (pe_tup (pa_cons pe_str pa_nil)) (pe_tupleOf (by rfl) m_tuple (pe_lc (own := [("one", 5)]) rfl sc__law_saying.nd (pi_list (pe_cal C__law_some (hr.mono (by omega)) rfl (pa_cons (pv 0) (pa_cons (pv 1) (pa_cons pe_int (pa_cons pe_int pa_nil)))))) (blkOk_by (own := [("one", 5)]) (N := n__law_saying) (sc := defScope s__law_saying) (by decide +kernel)) (fun _ _ _ _ _ => (pg_name (i := 5) sc__law_saying.nd rfl (by first | exact .inl rfl | exact .inr rfl))) (fun _ _ _ _ _ => pts_nil) (fun _ _ _ _ _ => (pe_ix ix_tup (pv 5) pe_int (fun _ _ => rfl)))))))) pss_nil)
  (pss_cons (ps_if (pt_cmpR op_eq (pv 3) pe_int (nomark _)) (pss_one (ps_ret (pe_cal C__law_machine (hr.mono (by omega)) rfl (pa_cons (pv 0) (pa_cons (pe_cal C__law_some (hr.mono (by omega)) rfl (pa_cons (pv 0) (pa_cons (pv 1) (pa_cons pe_int (pa_cons pe_int pa_nil))))) pa_nil))))) pss_nil)
  (pss_cons (ps_if (pt_cmpR op_eq (pv 3) pe_int (nomark _)) (pss_cons (ps_set (i := 6) sc__law_saying.nd rfl (by first | exact .inl rfl | exact .inr rfl) (pe_cal C__law_some (hr.mono (by omega)) rfl (pa_cons (pv 0) (pa_cons (pv 1) (pa_cons pe_int (pa_cons pe_int pa_nil))))))
  (pss_cons (ps_set (i := 10) sc__law_saying.nd rfl (by first | exact .inl rfl | exact .inr rfl) (pe_tupleOf (by rfl) m_tuple (pe_lc (own := [("one", 5)]) rfl sc__law_saying.nd (pi_list (pv 6)) (blkOk_by (own := [("one", 5)]) (N := n__law_saying) (sc := defScope s__law_saying) (by decide +kernel)) (fun _ _ _ _ _ => (pg_name (i := 5) sc__law_saying.nd rfl (by first | exact .inl rfl | exact .inr rfl))) (fun _ _ _ _ _ => pts_nil) (fun _ _ _ _ _ => (pe_op op_add pe_int (pe_cal C__law_draw (hr.mono (by omega)) rfl (pa_cons (pv 0) (pa_cons pe_int pa_nil))))))))
  (pss_cons (ps_set (i := 11) sc__law_saying.nd rfl (by first | exact .inl rfl | exact .inr rfl) (pe_tupleOf (by rfl) m_tuple (pe_lc (own := [("one", 5)]) rfl sc__law_saying.nd (pi_list (pv 6)) (blkOk_by (own := [("one", 5)]) (N := n__law_saying) (sc := defScope s__law_saying) (by decide +kernel)) (fun _ _ _ _ _ => (pg_name (i := 5) sc__law_saying.nd rfl (by first | exact .inl rfl | exact .inr rfl))) (fun _ _ _ _ _ => pts_nil) (fun _ _ _ _ _ => (pe_cal C__law_draw (hr.mono (by omega)) rfl (pa_cons (pv 0) (pa_cons pe_int pa_nil)))))))
  (pss_one (ps_ret (pe_tup (pa_cons pe_str (pa_cons (pe_tupleOf (by rfl) m_tuple (pe_lc (own := [("one", 5)]) rfl sc__law_saying.nd (pi_list (pv 6)) (blkOk_by (own := [("one", 5)]) (N := n__law_saying) (sc := defScope s__law_saying) (by decide +kernel)) (fun _ _ _ _ _ => (pg_name (i := 5) sc__law_saying.nd rfl (by first | exact .inl rfl | exact .inr rfl))) (fun _ _ _ _ _ => pts_nil) (fun _ _ _ _ _ => (pe_ix ix_tup (pv 5) pe_int (fun _ _ => rfl))))) (pa_cons (pv 10) (pa_cons (pv 11) (pa_cons (pe_op op_add pe_int (pe_cal C__law_draw (hr.mono (by omega)) rfl (pa_cons (pv 0) (pa_cons pe_int pa_nil)))) pa_nil))))))))))) pss_nil)
  (pss_cons (ps_if (pt_cmpR op_eq (pv 3) pe_int (nomark _)) (pss_one (ps_ret (pe_tup (pa_cons pe_str (pa_cons (pe_tupleOf (by rfl) m_tuple (pe_lc (own := [("one", 5)]) rfl sc__law_saying.nd (pi_list (pe_cal C__law_some (hr.mono (by omega)) rfl (pa_cons (pv 0) (pa_cons (pv 1) (pa_cons pe_int (pa_cons pe_int pa_nil)))))) (blkOk_by (own := [("one", 5)]) (N := n__law_saying) (sc := defScope s__law_saying) (by decide +kernel)) (fun _ _ _ _ _ => (pg_name (i := 5) sc__law_saying.nd rfl (by first | exact .inl rfl | exact .inr rfl))) (fun _ _ _ _ _ => pts_nil) (fun _ _ _ _ _ => (pe_ix ix_tup (pv 5) pe_int (fun _ _ => rfl))))) pa_nil))))) pss_nil)
  (pss_cons (ps_if (pt_cmpR op_eq (pv 3) pe_int (nomark _)) (pss_one (ps_ret (pe_tup (pa_cons pe_str (pa_cons (pe_cal C__law_claim (hr.mono (by omega)) rfl (pa_cons (pv 0) (pa_cons (pv 1) (pa_cons pe_int pa_nil)))) pa_nil))))) pss_nil)
  (pss_cons (ps_if (PW.pt (pw_and (pt_cmpR op_gt (pv 3) pe_int (nomark _)) (pw_and1 (pt_cmpR op_gt (pv 4) pe_int (nomark _))))) (pss_cons (ps_set (i := 6) sc__law_saying.nd rfl (by first | exact .inl rfl | exact .inr rfl) (pe_cal C__law_some (hr.mono (by omega)) rfl (pa_cons (pv 0) (pa_cons (pv 1) (pa_cons pe_int (pa_cons pe_int pa_nil))))))
  (pss_one (ps_ret (pe_tup (pa_cons pe_str (pa_cons (pe_cal C__law_claim (hr.mono (by omega)) rfl (pa_cons (pv 0) (pa_cons (pe_slice sl_list (pv 6) po_none (po_some pe_int)) (pa_cons pe_int pa_nil)))) (pa_cons (pe_tup (pa_cons pe_str (pa_cons (pe_cal C__law_claim (hr.mono (by omega)) rfl (pa_cons (pv 0) (pa_cons (pe_slice sl_list (pv 6) (po_some pe_int) po_none) (pa_cons pe_int pa_nil)))) pa_nil))) pa_nil))))))) pss_nil)
  (pss_one (ps_ret (pe_tup (pa_cons pe_str (pa_cons (pe_cal C__law_claim (hr.mono (by omega)) rfl (pa_cons (pv 0) (pa_cons (pv 1) (pa_cons pe_int pa_nil)))) (pa_cons (pe_cal C__law_saying (hr.mono (by omega)) rfl (pa_cons (pv 0) (pa_cons (pv 1) (pa_cons pe_int pa_nil)))) pa_nil)))))))))))))))))))))
theorem ok__law_saying_all {P : Program} {w : World} {K : PySem.W.Frag} {mg : Str → Option Value} {base : Heap} {f : Addr} {fd : FuncData} (F : Fun K "_law_saying" "_law_saying" s__law_saying f fd) (gf : mg "_law_saying" = some (.ref f)) (C__law_claim : Cal P w K mg base "_law_claim" 7 ["tape", "unknowns", "deep"] (sp__law_claim K 4)) (C__law_counted : Cal P w K mg base "_law_counted" 4 ["tape", "unknowns"] (sp__law_counted K)) (C__law_draw : Cal P w K mg base "_law_draw" 2 ["tape", "many"] (sp__law_draw K)) (C__law_machine : Cal P w K mg base "_law_machine" 3 ["tape", "some"] (sp__law_machine K)) (C__law_rows_of : Cal P w K mg base "_law_rows_of" 3 ["tape", "some", "most"] (sp__law_rows_of K)) (C__law_some : Cal P w K mg base "_law_some" 3 ["tape", "unknowns", "least", "most"] (sp__law_some K)) (C__law_sum_of : Cal P w K mg base "_law_sum_of" 4 ["tape", "unknowns"] (sp__law_sum_of K)) (m_int : mg "int" = none) (m_len : mg "len" = none) (m_tuple : mg "tuple" = none)  : ∀ m, Cal P w K mg base "_law_saying" (8 + m) ["tape", "unknowns", "deep"] (sp__law_saying K m)
  | 0 => ⟨f, fd, F.ok (k := 7) sc__law_saying len__law_saying (fun cdv A outer s H vs Q E hr h => (no__law_saying h).elim), F.kp, F.binds (fun _ _ _ _ _ _ us hl => match us, hl with | [_, _, _], _ => rfl), gf⟩
  | m + 1 => ok__law_saying_step m F gf C__law_claim C__law_counted C__law_draw C__law_machine C__law_rows_of C__law_some C__law_sum_of m_int m_len m_tuple (ok__law_saying_all F gf C__law_claim C__law_counted C__law_draw C__law_machine C__law_rows_of C__law_some C__law_sum_of m_int m_len m_tuple m)
theorem ok__law_saying {P : Program} {w : World} {K : PySem.W.Frag} {mg : Str → Option Value} {base : Heap} {f : Addr} {fd : FuncData} (F : Fun K "_law_saying" "_law_saying" s__law_saying f fd) (gf : mg "_law_saying" = some (.ref f)) (C__law_claim : Cal P w K mg base "_law_claim" 7 ["tape", "unknowns", "deep"] (sp__law_claim K 4)) (C__law_counted : Cal P w K mg base "_law_counted" 4 ["tape", "unknowns"] (sp__law_counted K)) (C__law_draw : Cal P w K mg base "_law_draw" 2 ["tape", "many"] (sp__law_draw K)) (C__law_machine : Cal P w K mg base "_law_machine" 3 ["tape", "some"] (sp__law_machine K)) (C__law_rows_of : Cal P w K mg base "_law_rows_of" 3 ["tape", "some", "most"] (sp__law_rows_of K)) (C__law_some : Cal P w K mg base "_law_some" 3 ["tape", "unknowns", "least", "most"] (sp__law_some K)) (C__law_sum_of : Cal P w K mg base "_law_sum_of" 4 ["tape", "unknowns"] (sp__law_sum_of K)) (m_int : mg "int" = none) (m_len : mg "len" = none) (m_tuple : mg "tuple" = none)  : Cal P w K mg base "_law_saying" 10 ["tape", "unknowns", "deep"] (sp__law_saying K 2) := ok__law_saying_all F gf C__law_claim C__law_counted C__law_draw C__law_machine C__law_rows_of C__law_some C__law_sum_of m_int m_len m_tuple 2
abbrev s__law_drawn : Stmt := topS 50
abbrev n__law_drawn : List Str := ["tape", "most", "unknowns", "names", "sayings", "k", "soft"]
theorem sc__law_drawn : FnScope n__law_drawn ["tape", "most", "unknowns"] (defScope s__law_drawn) := ⟨rfl, rfl, rfl, by decide +kernel, rfl, by decide +kernel, by decide +kernel⟩
theorem ok__law_drawn {P : Program} {w : World} {K : PySem.W.Frag} {mg : Str → Option Value} {base : Heap} {f : Addr} {fd : FuncData} (F : Fun K "_law_drawn" "_law_drawn" s__law_drawn f fd) (gf : mg "_law_drawn" = some (.ref f)) (C__law_draw : Cal P w K mg base "_law_draw" 2 ["tape", "many"] (sp__law_draw K)) (C__law_saying : Cal P w K mg base "_law_saying" 10 ["tape", "unknowns", "deep"] (sp__law_saying K 2))  (m_range : mg "range" = none) (m_tuple : mg "tuple" = none)  : Cal P w K mg base "_law_drawn" 11 ["tape", "most", "unknowns"] (sp__law_drawn K) := by
  refine ⟨f, fd, F.ok sc__law_drawn len__law_drawn (fun cdv A outer s H vs Q E hr h => ⟨t__law_drawn K, PSs.nox ?_, pure__law_drawn vs H Q E h⟩), F.kp, F.binds (fun _ _ _ _ _ _ us hl => match us, hl with | [_, _, _], _ => rfl), gf⟩
  exact (pss_cons (ps_set (i := 3) sc__law_drawn.nd rfl (by first | exact .inl rfl | exact .inr rfl) (pe_lst (pa_cons pe_str (pa_cons pe_str (pa_cons (pe_op op_repS pe_str pe_int) (pa_cons pe_str (pa_cons pe_str (pa_cons pe_str (pa_cons pe_str (pa_cons pe_str (pa_cons pe_str (pa_cons pe_str (pa_cons pe_str pa_nil)))))))))))))
  (pss_cons (ps_setLc (i := 4) (own := [("k", 5)]) rfl sc__law_drawn.nd rfl rfl (sw_true rfl rfl rfl (by decide +kernel)) (pi_range1 (by rfl) m_range (pa_cons (pe_cal C__law_draw (hr.mono (by decide)) rfl (pa_cons (pv 0) (pa_cons (pe_op op_add (pv 1) pe_int) pa_nil))) pa_nil)) (blkOk_by (own := [("k", 5)]) (N := n__law_drawn) (sc := defScope s__law_drawn) (by decide +kernel)) (fun _ _ _ _ _ => (pg_name (i := 5) sc__law_drawn.nd rfl (by first | exact .inl rfl | exact .inr rfl))) (fun _ _ _ _ _ => pts_nil) (fun _ _ _ _ _ => (pe_tup (pa_cons (pe_ix ix_list (pv 3) (pv 5) (fun _ _ => rfl)) (pa_cons (pe_cal C__law_saying (hr.mono (by decide)) rfl (pa_cons (pv 0) (pa_cons (pv 2) (pa_cons pe_int pa_nil)))) pa_nil)))))
  (pss_cons (ps_set (i := 3) sc__law_drawn.nd rfl (by first | exact .inl rfl | exact .inr rfl) (pe_lst (pa_cons pe_str (pa_cons pe_str (pa_cons (pe_op op_repS pe_str pe_int) pa_nil)))))
  (pss_cons (ps_setLc (i := 6) (own := [("k", 5)]) rfl sc__law_drawn.nd rfl rfl (sw_true rfl rfl rfl (by decide +kernel)) (pi_range1 (by rfl) m_range (pa_cons (pe_cal C__law_draw (hr.mono (by decide)) rfl (pa_cons (pv 0) (pa_cons pe_int pa_nil))) pa_nil)) (blkOk_by (own := [("k", 5)]) (N := n__law_drawn) (sc := defScope s__law_drawn) (by decide +kernel)) (fun _ _ _ _ _ => (pg_name (i := 5) sc__law_drawn.nd rfl (by first | exact .inl rfl | exact .inr rfl))) (fun _ _ _ _ _ => pts_nil) (fun _ _ _ _ _ => (pe_tup (pa_cons (pe_ix ix_list (pv 3) (pv 5) (fun _ _ => rfl)) (pa_cons (pe_cal C__law_saying (hr.mono (by decide)) rfl (pa_cons (pv 0) (pa_cons (pv 2) (pa_cons pe_int pa_nil)))) (pa_cons (pe_op op_add pe_int (pe_cal C__law_draw (hr.mono (by decide)) rfl (pa_cons (pv 0) (pa_cons pe_int pa_nil)))) pa_nil))))))
  (pss_one (ps_ret (pe_tup (pa_cons (pv 2) (pa_cons (pe_tupleOf (by rfl) m_tuple (pv 4)) (pa_cons (pe_tupleOf (by rfl) m_tuple (pv 6)) pa_nil))))))))))
abbrev s__law_large : Stmt := topS 51
abbrev n__law_large : List Str := ["tape", "letter", "unknowns", "k", "sayings"]
theorem sc__law_large : FnScope n__law_large ["tape", "letter"] (defScope s__law_large) := ⟨rfl, rfl, rfl, by decide +kernel, rfl, by decide +kernel, by decide +kernel⟩
theorem ok__law_large {P : Program} {w : World} {K : PySem.W.Frag} {mg : Str → Option Value} {base : Heap} {f : Addr} {fd : FuncData} (F : Fun K "_law_large" "_law_large" s__law_large f fd) (gf : mg "_law_large" = some (.ref f)) (C__law_domain : Cal P w K mg base "_law_domain" 3 ["tape", "most"] (sp__law_domain K)) (C__law_saying : Cal P w K mg base "_law_saying" 10 ["tape", "unknowns", "deep"] (sp__law_saying K 2))  (m_range : mg "range" = none) (m_str : mg "str" = none) (m_tuple : mg "tuple" = none)  : Cal P w K mg base "_law_large" 11 ["tape", "letter"] (sp__law_large K) := by
  refine ⟨f, fd, F.ok sc__law_large len__law_large (fun cdv A outer s H vs Q E hr h => ⟨t__law_large K, PSs.nox ?_, pure__law_large vs H Q E h⟩), F.kp, F.binds (fun _ _ _ _ _ _ us hl => match us, hl with | [_, _], _ => rfl), gf⟩
  exact (pss_cons (ps_set (i := 2) sc__law_large.nd rfl (by first | exact .inl rfl | exact .inr rfl) (pe_lc (own := [("k", 3)]) rfl sc__law_large.nd (pi_range1 (by rfl) m_range (pa_cons pe_int pa_nil)) (blkOk_by (own := [("k", 3)]) (N := n__law_large) (sc := defScope s__law_large) (by decide +kernel)) (fun _ _ _ _ _ => (pg_name (i := 3) sc__law_large.nd rfl (by first | exact .inl rfl | exact .inr rfl))) (fun _ _ _ _ _ => pts_nil) (fun _ _ _ _ _ => (pe_tup (pa_cons (pe_op op_repS (pv 1) (pe_op op_add (pv 3) pe_int)) (pa_cons (pe_cal C__law_domain (hr.mono (by decide)) rfl (pa_cons (pv 0) (pa_cons pe_int pa_nil))) pa_nil))))))
  (pss_cons (ps_setLc (i := 4) (own := [("k", 3)]) rfl sc__law_large.nd rfl rfl (sw_true rfl rfl rfl (by decide +kernel)) (pi_range1 (by rfl) m_range (pa_cons pe_int pa_nil)) (blkOk_by (own := [("k", 3)]) (N := n__law_large) (sc := defScope s__law_large) (by decide +kernel)) (fun _ _ _ _ _ => (pg_name (i := 3) sc__law_large.nd rfl (by first | exact .inl rfl | exact .inr rfl))) (fun _ _ _ _ _ => pts_nil) (fun _ _ _ _ _ => (pe_tup (pa_cons (pe_op op_addS pe_str (pe_callTy call_str_int (by rfl) m_str (by decide +kernel) (pa_cons (pv 3) pa_nil))) (pa_cons (pe_cal C__law_saying (hr.mono (by decide)) rfl (pa_cons (pv 0) (pa_cons (pv 2) (pa_cons pe_int pa_nil)))) pa_nil)))))
  (pss_one (ps_ret (pe_tup (pa_cons (pe_tupleOf (by rfl) m_tuple (pv 2)) (pa_cons (pe_tupleOf (by rfl) m_tuple (pv 4)) (pa_cons (pe_tup pa_nil) pa_nil))))))))
abbrev s__law_same : Stmt := topS 32
abbrev n__law_same : List Str := ["actual", "due", "k"]
theorem sc__law_same : FnScope n__law_same ["actual", "due"] (defScope s__law_same) := ⟨rfl, rfl, rfl, by decide +kernel, rfl, by decide +kernel, by decide +kernel⟩
theorem ok__law_same_step (m : Nat) {P : Program} {w : World} {K : PySem.W.Frag} {mg : Str → Option Value} {base : Heap} {f : Addr} {fd : FuncData} (F : Fun K "_law_same" "_law_same" s__law_same f fd) (gf : mg "_law_same" = some (.ref f))  (m_bool : mg "bool" = none) (m_int : mg "int" = none) (m_isinstance : mg "isinstance" = none) (m_len : mg "len" = none) (m_range : mg "range" = none) (m_str : mg "str" = none) (m_tuple : mg "tuple" = none)  (C__law_same : Cal P w K mg base "_law_same" (1 + m) ["actual", "due"] (sp__law_same K m)) : Cal P w K mg base "_law_same" (1 + m + 1) ["actual", "due"] (sp__law_same K (m + 1)) := by
  refine ⟨f, fd, F.ok (k := 1 + m) sc__law_same len__law_same (fun cdv A outer s H vs Q E hr h => ⟨t__law_same K m, PSs.nox ?_, pure__law_same vs H Q E h⟩), F.kp, F.binds (fun _ _ _ _ _ _ us hl => match us, hl with | [_, _], _ => rfl), gf⟩
  exact (pss_cons (ps_if (pt_val (pe_callB call_isi (by rfl) m_isinstance (by decide +kernel) (pa_cons (pv 1) (pa_cons (pe_bltn (by rfl) m_tuple (by decide +kernel) rfl) pa_nil)))) (pss_cons (ps_if (PW.pt (pw_or (pt_not (pt_val (pe_callB call_isi (by rfl) m_isinstance (by decide +kernel) (pa_cons (pv 0) (pa_cons (pe_bltn (by rfl) m_tuple (by decide +kernel) rfl) pa_nil))))) (pw_or1 (pt_cmpR op_ne (pe_callB call_len1 (by rfl) m_len (by decide +kernel) (pa_cons (pv 0) pa_nil)) (pe_callB call_len1 (by rfl) m_len (by decide +kernel) (pa_cons (pv 1) pa_nil)) (nomark _))))) (pss_one (ps_ret pe_bl)) pss_nil)
  (pss_cons (ps_for PassesOwn.never rfl (pi_range1 (by rfl) m_range (pa_cons (pe_callB call_len1 (by rfl) m_len (by decide +kernel) (pa_cons (pv 1) pa_nil)) pa_nil)) (pg_name (i := 2) sc__law_same.nd rfl (by first | exact .inl rfl | exact .inr rfl))
  (pss_one (ps_if (pt_not (pt_val (pe_cal C__law_same (hr.mono (by omega)) rfl (pa_cons (pe_ix ix_any (pv 0) (pv 2) (fun _ _ => rfl)) (pa_cons (pe_ix ix_any (pv 1) (pv 2) (fun _ _ => rfl)) pa_nil))))) (pss_one (ps_ret pe_bl)) pss_nil)))
  (pss_one (ps_ret pe_bl)))) pss_nil)
  (pss_cons (ps_if (pt_cmpR op_isN1 (pv 1) pe_non (nomark _)) (pss_one (ps_ret (pe_cmpR op_isN1 (pv 0) pe_non (nomark _)))) pss_nil)
  (pss_cons (ps_if (pt_val (pe_callB call_isi (by rfl) m_isinstance (by decide +kernel) (pa_cons (pv 1) (pa_cons (pe_bltn (by rfl) m_str (by decide +kernel) rfl) pa_nil)))) (pss_one (ps_ret (pe_and (pe_callB call_isi (by rfl) m_isinstance (by decide +kernel) (pa_cons (pv 0) (pa_cons (pe_bltn (by rfl) m_str (by decide +kernel) rfl) pa_nil))) (pe_one (pe_cmpR op_eq (pv 0) (pv 1) (nomark _)))))) pss_nil)
  (pss_cons (ps_if (pt_val (pe_callB call_isi (by rfl) m_isinstance (by decide +kernel) (pa_cons (pv 1) (pa_cons (pe_bltn (by rfl) m_bool (by decide +kernel) rfl) pa_nil)))) (pss_one (ps_ret (pe_and (pe_callB call_isi (by rfl) m_isinstance (by decide +kernel) (pa_cons (pv 0) (pa_cons (pe_bltn (by rfl) m_bool (by decide +kernel) rfl) pa_nil))) (pe_one (pe_cmpR op_eq (pv 0) (pv 1) (nomark _)))))) pss_nil)
  (pss_one (ps_ret (pe_and (pe_callB call_isi (by rfl) m_isinstance (by decide +kernel) (pa_cons (pv 0) (pa_cons (pe_bltn (by rfl) m_int (by decide +kernel) rfl) pa_nil))) (pe_and (pe_not (pe_callB call_isi (by rfl) m_isinstance (by decide +kernel) (pa_cons (pv 0) (pa_cons (pe_bltn (by rfl) m_bool (by decide +kernel) rfl) pa_nil)))) (pe_one (pe_cmpR op_eq (pv 0) (pv 1) (nomark _)))))))))))
theorem ok__law_same_all {P : Program} {w : World} {K : PySem.W.Frag} {mg : Str → Option Value} {base : Heap} {f : Addr} {fd : FuncData} (F : Fun K "_law_same" "_law_same" s__law_same f fd) (gf : mg "_law_same" = some (.ref f))  (m_bool : mg "bool" = none) (m_int : mg "int" = none) (m_isinstance : mg "isinstance" = none) (m_len : mg "len" = none) (m_range : mg "range" = none) (m_str : mg "str" = none) (m_tuple : mg "tuple" = none)  : ∀ m, Cal P w K mg base "_law_same" (1 + m) ["actual", "due"] (sp__law_same K m)
  | 0 => ⟨f, fd, F.ok (k := 0) sc__law_same len__law_same (fun cdv A outer s H vs Q E hr h => (no__law_same h).elim), F.kp, F.binds (fun _ _ _ _ _ _ us hl => match us, hl with | [_, _], _ => rfl), gf⟩
  | m + 1 => ok__law_same_step m F gf m_bool m_int m_isinstance m_len m_range m_str m_tuple (ok__law_same_all F gf m_bool m_int m_isinstance m_len m_range m_str m_tuple m)
theorem ok__law_same {P : Program} {w : World} {K : PySem.W.Frag} {mg : Str → Option Value} {base : Heap} {f : Addr} {fd : FuncData} (F : Fun K "_law_same" "_law_same" s__law_same f fd) (gf : mg "_law_same" = some (.ref f))  (m_bool : mg "bool" = none) (m_int : mg "int" = none) (m_isinstance : mg "isinstance" = none) (m_len : mg "len" = none) (m_range : mg "range" = none) (m_str : mg "str" = none) (m_tuple : mg "tuple" = none)  : Cal P w K mg base "_law_same" 17 ["actual", "due"] (sp__law_same K 16) := ok__law_same_all F gf m_bool m_int m_isinstance m_len m_range m_str m_tuple 16
abbrev s__law_tape : Stmt := topS 30
abbrev n__law_tape : List Str := ["script"]
theorem sc__law_tape : FnScope n__law_tape ["script"] (defScope s__law_tape) := ⟨rfl, rfl, rfl, by decide +kernel, rfl, by decide +kernel, by decide +kernel⟩
theorem ok__law_tape {P : Program} {w : World} {K : PySem.W.Frag} {mg : Str → Option Value} {base : Heap} {f : Addr} {fd : FuncData} (F : Fun K "_law_tape" "_law_tape" s__law_tape f fd) (gf : mg "_law_tape" = some (.ref f))   (m_list : mg "list" = none)  : Cal P w K mg base "_law_tape" 1 ["script"] (sp__law_tape K) := by
  refine ⟨f, fd, F.ok sc__law_tape len__law_tape (fun cdv A outer s H vs Q E hr h => ⟨t__law_tape K, PSs.nox ?_, pure__law_tape vs H Q E h⟩), F.kp, F.binds (fun _ _ _ _ _ _ us hl => match us, hl with | [_], _ => rfl), gf⟩
  exact (pss_one (ps_ret (pe_disp (pps_cons pe_str (pe_callTy call_listOf (by rfl) m_list (by decide +kernel) (pa_cons (pv 0) pa_nil)) (pps_cons pe_str pe_int (pps_cons pe_str pe_int (pps_cons pe_str pe_int (pps_cons pe_str pe_int (pps_cons pe_str pe_int pps_nil)))))) (by rfl) (by rfl) (fun z => by cases z) (by decide))))
abbrev s__law_names : Stmt := topS 33
abbrev n__law_names : List Str := ["tape", "many", "left", "k"]
theorem sc__law_names : FnScope n__law_names ["tape", "many"] (defScope s__law_names) := ⟨rfl, rfl, rfl, by decide +kernel, rfl, by decide +kernel, by decide +kernel⟩
theorem ok__law_names {P : Program} {w : World} {K : PySem.W.Frag} {mg : Str → Option Value} {base : Heap} {f : Addr} {fd : FuncData} (F : Fun K "_law_names" "_law_names" s__law_names f fd) (gf : mg "_law_names" = some (.ref f)) (C__law_draw : Cal P w K mg base "_law_draw" 2 ["tape", "many"] (sp__law_draw K))  (m_len : mg "len" = none) (m_range : mg "range" = none)  : Cal P w K mg base "_law_names" 3 ["tape", "many"] (sp__law_names K) := by
  refine ⟨f, fd, F.ok sc__law_names len__law_names (fun cdv A outer s H vs Q E hr h => ⟨t__law_names K, PSs.nox ?_, pure__law_names vs H Q E h⟩), F.kp, F.binds (fun _ _ _ _ _ _ us hl => match us, hl with | [_, _], _ => rfl), gf⟩
  exact (pss_cons (ps_set (i := 2) sc__law_names.nd rfl (by first | exact .inl rfl | exact .inr rfl) (pe_lst (pa_cons pe_str (pa_cons pe_str (pa_cons pe_str (pa_cons pe_str (pa_cons pe_str (pa_cons pe_str (pa_cons pe_str (pa_cons pe_str (pa_cons pe_str (pa_cons pe_str (pa_cons pe_str (pa_cons pe_str (pa_cons pe_str pa_nil)))))))))))))))
  (pss_cons (ps_set (i := 2) sc__law_names.nd rfl (by first | exact .inl rfl | exact .inr rfl) (pe_op op_cat (pv 2) (pe_lst (pa_cons pe_str (pa_cons pe_str (pa_cons pe_str (pa_cons pe_str (pa_cons pe_str (pa_cons pe_str (pa_cons pe_str pa_nil))))))))))
  (pss_one (ps_ret (pe_lc (own := [("k", 3)]) rfl sc__law_names.nd (pi_range1 (by rfl) m_range (pa_cons (pv 1) pa_nil)) (blkOk_by (own := [("k", 3)]) (N := n__law_names) (sc := defScope s__law_names) (by decide +kernel)) (fun _ _ _ _ _ => (pg_name (i := 3) sc__law_names.nd rfl (by first | exact .inl rfl | exact .inr rfl))) (fun _ _ _ _ _ => pts_nil) (fun _ _ _ _ _ => (pe_bm PySem.F.plainAttrs_list PySem.F.slot_list_pop PySem.F.type_list_pop mt_popAt (pv 2) (pa_cons (pe_cal C__law_draw (hr.mono (by decide)) rfl (pa_cons (pv 0) (pa_cons (pe_callB call_len1 (by rfl) m_len (by decide +kernel) (pa_cons (pv 2) pa_nil)) pa_nil))) pa_nil))))))))
abbrev s__law_unknowns : Stmt := topS 35
abbrev n__law_unknowns : List Str := ["tape", "least", "most", "wide", "names", "found", "many", "k", "domain"]
theorem sc__law_unknowns : FnScope n__law_unknowns ["tape", "least", "most", "wide"] (defScope s__law_unknowns) := ⟨rfl, rfl, rfl, by decide +kernel, rfl, by decide +kernel, by decide +kernel⟩
theorem ok__law_unknowns {P : Program} {w : World} {K : PySem.W.Frag} {mg : Str → Option Value} {base : Heap} {f : Addr} {fd : FuncData} (F : Fun K "_law_unknowns" "_law_unknowns" s__law_unknowns f fd) (gf : mg "_law_unknowns" = some (.ref f)) (C__law_domain : Cal P w K mg base "_law_domain" 3 ["tape", "most"] (sp__law_domain K)) (C__law_draw : Cal P w K mg base "_law_draw" 2 ["tape", "many"] (sp__law_draw K)) (C__law_names : Cal P w K mg base "_law_names" 3 ["tape", "many"] (sp__law_names K))  (m_len : mg "len" = none) (m_max : mg "max" = none) (m_range : mg "range" = none) (m_tuple : mg "tuple" = none)  : Cal P w K mg base "_law_unknowns" 4 ["tape", "least", "most", "wide"] (sp__law_unknowns K) := by
  refine ⟨f, fd, F.ok sc__law_unknowns len__law_unknowns (fun cdv A outer s H vs Q E hr h => ⟨t__law_unknowns K, PSs.nox ?_, pure__law_unknowns vs H Q E h⟩), F.kp, F.binds (fun _ _ _ _ _ _ us hl => match us, hl with | [_, _, _, _], _ => rfl), gf⟩
  exact (pss_cons (ps_set (i := 4) sc__law_unknowns.nd rfl (by first | exact .inl rfl | exact .inr rfl) (pe_cal C__law_names (hr.mono (by decide)) rfl (pa_cons (pv 0) (pa_cons pe_int pa_nil))))
  (pss_cons (ps_set (i := 5) sc__law_unknowns.nd rfl (by first | exact .inl rfl | exact .inr rfl) (pe_lst pa_nil))
  (pss_cons (ps_set (i := 6) sc__law_unknowns.nd rfl (by first | exact .inl rfl | exact .inr rfl) pe_int)
  (pss_cons (ps_for PassesOwn.never rfl (pi_range1 (by rfl) m_range (pa_cons (pe_op op_add (pv 1) (pe_cal C__law_draw (hr.mono (by decide)) rfl (pa_cons (pv 0) (pa_cons (pe_op op_add (pe_op op_sub (pv 2) (pv 1)) pe_int) pa_nil)))) pa_nil)) (pg_name (i := 7) sc__law_unknowns.nd rfl (by first | exact .inl rfl | exact .inr rfl))
  (pss_cons (ps_set (i := 8) sc__law_unknowns.nd rfl (by first | exact .inl rfl | exact .inr rfl) (pe_cal C__law_domain (hr.mono (by decide)) rfl (pa_cons (pv 0) (pa_cons (pv 3) pa_nil))))
  (pss_cons (ps_set (i := 8) sc__law_unknowns.nd rfl (by first | exact .inl rfl | exact .inr rfl) (pe_slice sl_tupA (pv 8) po_none (po_some (pe_callB (call_max2 rfl) (by rfl) m_max (by decide +kernel) (pa_cons pe_int (pa_cons (pe_op op_fdiv pe_int (pv 6)) pa_nil))))))
  (pss_cons (ps_set (i := 6) sc__law_unknowns.nd rfl (by first | exact .inl rfl | exact .inr rfl) (pe_op op_mul (pv 6) (pe_callB call_len1 (by rfl) m_len (by decide +kernel) (pa_cons (pv 8) pa_nil))))
  (pss_one (ps_expr (pe_bm PySem.F.plainAttrs_list PySem.F.slot_list_append PySem.F.type_list_append mt_append (pv 5) (pa_cons (pe_tup (pa_cons (pe_ix ix_list (pv 4) (pv 7) (fun _ _ => rfl)) (pa_cons (pv 8) pa_nil))) pa_nil))))))))
  (pss_one (ps_ret (pe_tupleOf (by rfl) m_tuple (pv 5))))))))
abbrev s__law_all : Stmt := topS 44
abbrev n__law_all : List Str := ["domains", "rows", "domain", "longer", "row", "value"]
theorem sc__law_all : FnScope n__law_all ["domains"] (defScope s__law_all) := ⟨rfl, rfl, rfl, by decide +kernel, rfl, by decide +kernel, by decide +kernel⟩
theorem ok__law_all {P : Program} {w : World} {K : PySem.W.Frag} {mg : Str → Option Value} {base : Heap} {f : Addr} {fd : FuncData} (F : Fun K "_law_all" "_law_all" s__law_all f fd) (gf : mg "_law_all" = some (.ref f))     : Cal P w K mg base "_law_all" 1 ["domains"] (sp__law_all K) := by
  refine ⟨f, fd, F.ok sc__law_all len__law_all (fun cdv A outer s H vs Q E hr h => ⟨t__law_all K, PSs.nox ?_, pure__law_all vs H Q E h⟩), F.kp, F.binds (fun _ _ _ _ _ _ us hl => match us, hl with | [_], _ => rfl), gf⟩
  exact (pss_cons (ps_set (i := 1) sc__law_all.nd rfl (by first | exact .inl rfl | exact .inr rfl) (pe_lst (pa_cons (pe_tup pa_nil) pa_nil)))
  (pss_cons (ps_for PassesOwn.never rfl (pi_list (pv 0)) (pg_name (i := 2) sc__law_all.nd rfl (by first | exact .inl rfl | exact .inr rfl))
  (pss_cons (ps_set (i := 3) sc__law_all.nd rfl (by first | exact .inl rfl | exact .inr rfl) (pe_lst pa_nil))
  (pss_cons (ps_for PassesOwn.never rfl (pi_list (pv 1)) (pg_name (i := 4) sc__law_all.nd rfl (by first | exact .inl rfl | exact .inr rfl))
  (pss_one (ps_set (i := 3) sc__law_all.nd rfl (by first | exact .inl rfl | exact .inr rfl) (pe_op op_cat (pv 3) (pe_lc (own := [("value", 5)]) rfl sc__law_all.nd (pi_tup (pv 2)) (blkOk_by (own := [("value", 5)]) (N := n__law_all) (sc := defScope s__law_all) (by decide +kernel)) (fun _ _ _ _ _ => (pg_name (i := 5) sc__law_all.nd rfl (by first | exact .inl rfl | exact .inr rfl))) (fun _ _ _ _ _ => pts_nil) (fun _ _ _ _ _ => (pe_op op_catA (pv 4) (pe_tup (pa_cons (pv 5) pa_nil)))))))))
  (pss_one (ps_set (i := 1) sc__law_all.nd rfl (by first | exact .inl rfl | exact .inr rfl) (pv 3))))))
  (pss_one (ps_ret (pv 1)))))
abbrev s__law_view : Stmt := topS 46
abbrev n__law_view : List Str := ["tape", "one", "other", "view", "name", "domain", "some", "rows", "row", "pair"]
theorem sc__law_view : FnScope n__law_view ["tape", "one", "other"] (defScope s__law_view) := ⟨rfl, rfl, rfl, by decide +kernel, rfl, by decide +kernel, by decide +kernel⟩
theorem ok__law_view {P : Program} {w : World} {K : PySem.W.Frag} {mg : Str → Option Value} {base : Heap} {f : Addr} {fd : FuncData} (F : Fun K "_law_view" "_law_view" s__law_view f fd) (gf : mg "_law_view" = some (.ref f)) (C__law_all : Cal P w K mg base "_law_all" 1 ["domains"] (sp__law_all K)) (C__law_draw : Cal P w K mg base "_law_draw" 2 ["tape", "many"] (sp__law_draw K)) (C__law_some : Cal P w K mg base "_law_some" 3 ["tape", "unknowns", "least", "most"] (sp__law_some K))  (m_len : mg "len" = none) (m_tuple : mg "tuple" = none)  : Cal P w K mg base "_law_view" 4 ["tape", "one", "other"] (sp__law_view K) := by
  refine ⟨f, fd, F.ok sc__law_view len__law_view (fun cdv A outer s H vs Q E hr h => ⟨t__law_view K, PSs.nox ?_, pure__law_view vs H Q E h⟩), F.kp, F.binds (fun _ _ _ _ _ _ us hl => match us, hl with | [_, _, _], _ => rfl), gf⟩
  exact (pss_cons (ps_set (i := 3) sc__law_view.nd rfl (by first | exact .inl rfl | exact .inr rfl) (pe_lst pa_nil))
  (pss_cons (ps_for PassesOwn.never rfl (pi_tup (pe_ix ix_tup (pv 2) pe_int (fun _ _ => rfl))) (pg_tup rfl (pgs_cons (pg_name (i := 4) sc__law_view.nd rfl (by first | exact .inl rfl | exact .inr rfl)) (pgs_cons (pg_name (i := 5) sc__law_view.nd rfl (by first | exact .inl rfl | exact .inr rfl)) pgs_nil)))
  (pss_cons (ps_set (i := 6) sc__law_view.nd rfl (by first | exact .inl rfl | exact .inr rfl) (pe_cal C__law_some (hr.mono (by decide)) rfl (pa_cons (pv 0) (pa_cons (pe_ix ix_tup (pv 1) pe_int (fun _ _ => rfl)) (pa_cons pe_int (pa_cons pe_int pa_nil))))))
  (pss_cons (ps_setLc (i := 7) (own := [("row", 8)]) rfl sc__law_view.nd rfl rfl (sw_true rfl rfl rfl (by decide +kernel)) (pi_list (pe_cal C__law_all (hr.mono (by decide)) rfl (pa_cons (pe_lc (own := [("pair", 9)]) rfl sc__law_view.nd (pi_list (pv 6)) (blkOk_by (own := [("pair", 9)]) (N := n__law_view) (sc := defScope s__law_view) (by decide +kernel)) (fun _ _ _ _ _ => (pg_name (i := 9) sc__law_view.nd rfl (by first | exact .inl rfl | exact .inr rfl))) (fun _ _ _ _ _ => pts_nil) (fun _ _ _ _ _ => (pe_ix ix_tup (pv 9) pe_int (fun _ _ => rfl)))) pa_nil))) (blkOk_by (own := [("row", 8)]) (N := n__law_view) (sc := defScope s__law_view) (by decide +kernel)) (fun _ _ _ _ _ => (pg_name (i := 8) sc__law_view.nd rfl (by first | exact .inl rfl | exact .inr rfl))) (fun _ _ _ _ _ => pts_nil) (fun _ _ _ _ _ => (pe_op op_catA (pv 8) (pe_tup (pa_cons (pe_ix ix_tup (pv 5) (pe_cal C__law_draw (hr.mono (by decide)) rfl (pa_cons (pv 0) (pa_cons (pe_callB call_len1 (by rfl) m_len (by decide +kernel) (pa_cons (pv 5) pa_nil)) pa_nil))) (fun _ _ => rfl)) pa_nil)))))
  (pss_one (ps_expr (pe_bm PySem.F.plainAttrs_list PySem.F.slot_list_append PySem.F.type_list_append mt_append (pv 3) (pa_cons (pe_tup (pa_cons (pe_tupleOf (by rfl) m_tuple (pe_lc (own := [("pair", 9)]) rfl sc__law_view.nd (pi_list (pv 6)) (blkOk_by (own := [("pair", 9)]) (N := n__law_view) (sc := defScope s__law_view) (by decide +kernel)) (fun _ _ _ _ _ => (pg_name (i := 9) sc__law_view.nd rfl (by first | exact .inl rfl | exact .inr rfl))) (fun _ _ _ _ _ => pts_nil) (fun _ _ _ _ _ => (pe_ix ix_tup (pv 9) pe_int (fun _ _ => rfl))))) (pa_cons (pe_tupleOf (by rfl) m_tuple (pv 7)) pa_nil))) pa_nil)))))))
  (pss_one (ps_ret (pe_tupleOf (by rfl) m_tuple (pv 3))))))
abbrev s__law_renamed_claim : Stmt := topS 47
abbrev n__law_renamed_claim : List Str := ["claim", "start", "one"]
theorem sc__law_renamed_claim : FnScope n__law_renamed_claim ["claim", "start"] (defScope s__law_renamed_claim) := ⟨rfl, rfl, rfl, by decide +kernel, rfl, by decide +kernel, by decide +kernel⟩
theorem ok__law_renamed_claim_step (m : Nat) {P : Program} {w : World} {K : PySem.W.Frag} {mg : Str → Option Value} {base : Heap} {f : Addr} {fd : FuncData} (F : Fun K "_law_renamed_claim" "_law_renamed_claim" s__law_renamed_claim f fd) (gf : mg "_law_renamed_claim" = some (.ref f))  (m_tuple : mg "tuple" = none)  (C__law_renamed_claim : Cal P w K mg base "_law_renamed_claim" (1 + m) ["claim", "start"] (sp__law_renamed_claim K m)) : Cal P w K mg base "_law_renamed_claim" (1 + m + 1) ["claim", "start"] (sp__law_renamed_claim K (m + 1)) := by
  refine ⟨f, fd, F.ok (k := 1 + m) sc__law_renamed_claim len__law_renamed_claim (fun cdv A outer s H vs Q E hr h => ⟨t__law_renamed_claim K m, PSs.nox ?_, pure__law_renamed_claim vs H Q E h⟩), F.kp, F.binds (fun _ _ _ _ _ _ us hl => match us, hl with | [_, _], _ => rfl), gf⟩
  exact (pss_cons (ps_if (pt_cmpR op_in_seq (pe_ix ix_tup (pv 0) pe_int (fun _ _ => rfl)) (pe_lst (pa_cons pe_str (pa_cons pe_str pa_nil))) (by rfl)) (pss_one (ps_ret (pe_tup (pa_cons (pe_ix ix_tup (pv 0) pe_int (fun _ _ => rfl)) (pa_cons (pe_op op_addS (pv 1) (pe_ix ix_tup (pv 0) pe_int (fun _ _ => rfl))) (pa_cons (pe_ix ix_tup (pv 0) pe_int (fun _ _ => rfl)) pa_nil)))))) pss_nil)
  (pss_cons (ps_if (pt_cmpR op_eq (pe_ix ix_tup (pv 0) pe_int (fun _ _ => rfl)) pe_str (nomark _)) (pss_one (ps_ret (pe_tup (pa_cons pe_str (pa_cons (pe_cal C__law_renamed_claim (hr.mono (by omega)) rfl (pa_cons (pe_ix ix_tup (pv 0) pe_int (fun _ _ => rfl)) (pa_cons (pv 1) pa_nil))) pa_nil))))) pss_nil)
  (pss_one (ps_ret (pe_tup (pa_cons (pe_ix ix_tup (pv 0) pe_int (fun _ _ => rfl)) (pa_cons (pe_tupleOf (by rfl) m_tuple (pe_lc (own := [("one", 2)]) rfl sc__law_renamed_claim.nd (pi_tup (pe_ix ix_tup (pv 0) pe_int (fun _ _ => rfl))) (blkOk_by (own := [("one", 2)]) (N := n__law_renamed_claim) (sc := defScope s__law_renamed_claim) (by decide +kernel)) (fun _ _ _ _ _ => (pg_name (i := 2) sc__law_renamed_claim.nd rfl (by first | exact .inl rfl | exact .inr rfl))) (fun _ _ _ _ _ => pts_nil) (fun _ _ _ _ _ => (pe_cal C__law_renamed_claim (hr.mono (by omega)) rfl (pa_cons (pv 2) (pa_cons (pv 1) pa_nil)))))) pa_nil)))))))
theorem ok__law_renamed_claim_all {P : Program} {w : World} {K : PySem.W.Frag} {mg : Str → Option Value} {base : Heap} {f : Addr} {fd : FuncData} (F : Fun K "_law_renamed_claim" "_law_renamed_claim" s__law_renamed_claim f fd) (gf : mg "_law_renamed_claim" = some (.ref f))  (m_tuple : mg "tuple" = none)  : ∀ m, Cal P w K mg base "_law_renamed_claim" (1 + m) ["claim", "start"] (sp__law_renamed_claim K m)
  | 0 => ⟨f, fd, F.ok (k := 0) sc__law_renamed_claim len__law_renamed_claim (fun cdv A outer s H vs Q E hr h => (no__law_renamed_claim h).elim), F.kp, F.binds (fun _ _ _ _ _ _ us hl => match us, hl with | [_, _], _ => rfl), gf⟩
  | m + 1 => ok__law_renamed_claim_step m F gf m_tuple (ok__law_renamed_claim_all F gf m_tuple m)
theorem ok__law_renamed_claim {P : Program} {w : World} {K : PySem.W.Frag} {mg : Str → Option Value} {base : Heap} {f : Addr} {fd : FuncData} (F : Fun K "_law_renamed_claim" "_law_renamed_claim" s__law_renamed_claim f fd) (gf : mg "_law_renamed_claim" = some (.ref f))  (m_tuple : mg "tuple" = none)  : Cal P w K mg base "_law_renamed_claim" 5 ["claim", "start"] (sp__law_renamed_claim K 4) := ok__law_renamed_claim_all F gf m_tuple 4
abbrev s__law_renamed : Stmt := topS 48
abbrev n__law_renamed : List Str := ["saying", "start", "word", "x", "w", "names", "y"]
theorem sc__law_renamed : FnScope n__law_renamed ["saying", "start"] (defScope s__law_renamed) := ⟨rfl, rfl, rfl, by decide +kernel, rfl, by decide +kernel, by decide +kernel⟩
theorem ok__law_renamed_step (m : Nat) {P : Program} {w : World} {K : PySem.W.Frag} {mg : Str → Option Value} {base : Heap} {f : Addr} {fd : FuncData} (F : Fun K "_law_renamed" "_law_renamed" s__law_renamed f fd) (gf : mg "_law_renamed" = some (.ref f)) (C__law_renamed_claim : Cal P w K mg base "_law_renamed_claim" 5 ["claim", "start"] (sp__law_renamed_claim K 4)) (m_tuple : mg "tuple" = none)  (C__law_renamed : Cal P w K mg base "_law_renamed" (6 + m) ["saying", "start"] (sp__law_renamed K m)) : Cal P w K mg base "_law_renamed" (6 + m + 1) ["saying", "start"] (sp__law_renamed K (m + 1)) := by
  refine ⟨f, fd, F.ok (k := 6 + m) sc__law_renamed len__law_renamed (fun cdv A outer s H vs Q E hr h => ⟨t__law_renamed K m, PSs.nox ?_, pure__law_renamed vs H Q E h⟩), F.kp, F.binds (fun _ _ _ _ _ _ us hl => match us, hl with | [_, _], _ => rfl), gf⟩
  exact (pss_cons (ps_set (i := 2) sc__law_renamed.nd rfl (by first | exact .inl rfl | exact .inr rfl) (pe_ix ix_tup (pv 0) pe_int (fun _ _ => rfl)))
  (pss_cons (ps_if (pt_cmpR op_in_seq (pv 2) (pe_lst (pa_cons pe_str (pa_cons pe_str pa_nil))) (by rfl)) (pss_one (ps_ret (pe_tup (pa_cons (pv 2) (pa_cons (pe_tupleOf (by rfl) m_tuple (pe_lc (own := [("x", 3), ("w", 4)]) rfl sc__law_renamed.nd (pi_tup (pe_ix ix_tup (pv 0) pe_int (fun _ _ => rfl))) (blkOk_by (own := [("x", 3), ("w", 4)]) (N := n__law_renamed) (sc := defScope s__law_renamed) (by decide +kernel)) (fun _ _ _ _ _ => (pg_tup rfl (pgs_cons (pg_name (i := 3) sc__law_renamed.nd rfl (by first | exact .inl rfl | exact .inr rfl)) (pgs_cons (pg_name (i := 4) sc__law_renamed.nd rfl (by first | exact .inl rfl | exact .inr rfl)) pgs_nil)))) (fun _ _ _ _ _ => pts_nil) (fun _ _ _ _ _ => (pe_tup (pa_cons (pe_op op_addS (pv 1) (pv 3)) (pa_cons (pv 4) pa_nil)))))) (pa_cons (pe_ix ix_tup (pv 0) pe_int (fun _ _ => rfl)) pa_nil)))))) pss_nil)
  (pss_cons (ps_if (pt_cmpR op_eq (pv 2) pe_str (nomark _)) (pss_one (ps_ret (pe_tup (pa_cons (pv 2) (pa_cons (pe_cal C__law_renamed_claim (hr.mono (by omega)) rfl (pa_cons (pe_ix ix_tup (pv 0) pe_int (fun _ _ => rfl)) (pa_cons (pv 1) pa_nil))) pa_nil))))) pss_nil)
  (pss_cons (ps_if (pt_cmpR op_eq (pv 2) pe_str (nomark _)) (pss_one (ps_ret (pe_tup (pa_cons (pv 2) (pa_cons (pe_cal C__law_renamed_claim (hr.mono (by omega)) rfl (pa_cons (pe_ix ix_tup (pv 0) pe_int (fun _ _ => rfl)) (pa_cons (pv 1) pa_nil))) (pa_cons (pe_cal C__law_renamed (hr.mono (by omega)) rfl (pa_cons (pe_ix ix_tup (pv 0) pe_int (fun _ _ => rfl)) (pa_cons (pv 1) pa_nil))) pa_nil)))))) pss_nil)
  (pss_cons (ps_if (pt_cmpR op_eq (pv 2) pe_str (nomark _)) (pss_one (ps_ret (pe_tup (pa_cons (pv 2) (pa_cons (pe_op op_addS (pv 1) (pe_ix ix_tup (pv 0) pe_int (fun _ _ => rfl))) (pa_cons (pe_op op_addS (pv 1) (pe_ix ix_tup (pv 0) pe_int (fun _ _ => rfl))) (pa_cons (pe_op op_addS (pv 1) (pe_ix ix_tup (pv 0) pe_int (fun _ _ => rfl))) pa_nil))))))) pss_nil)
  (pss_cons (ps_if (pt_cmpR op_eq (pv 2) pe_str (nomark _)) (pss_one (ps_ret (pe_tup (pa_cons (pv 2) (pa_cons (pe_op op_addS (pv 1) (pe_ix ix_tup (pv 0) pe_int (fun _ _ => rfl))) (pa_cons (pe_tupleOf (by rfl) m_tuple (pe_lc (own := [("x", 3)]) rfl sc__law_renamed.nd (pi_tup (pe_ix ix_tup (pv 0) pe_int (fun _ _ => rfl))) (blkOk_by (own := [("x", 3)]) (N := n__law_renamed) (sc := defScope s__law_renamed) (by decide +kernel)) (fun _ _ _ _ _ => (pg_name (i := 3) sc__law_renamed.nd rfl (by first | exact .inl rfl | exact .inr rfl))) (fun _ _ _ _ _ => pts_nil) (fun _ _ _ _ _ => (pe_op op_addS (pv 1) (pv 3))))) (pa_cons (pe_op op_addS (pv 1) (pe_ix ix_tup (pv 0) pe_int (fun _ _ => rfl))) pa_nil))))))) pss_nil)
  (pss_cons (ps_set (i := 5) sc__law_renamed.nd rfl (by first | exact .inl rfl | exact .inr rfl) (pe_tupleOf (by rfl) m_tuple (pe_lc (own := [("x", 3)]) rfl sc__law_renamed.nd (pi_tup (pe_ix ix_tup (pv 0) pe_int (fun _ _ => rfl))) (blkOk_by (own := [("x", 3)]) (N := n__law_renamed) (sc := defScope s__law_renamed) (by decide +kernel)) (fun _ _ _ _ _ => (pg_name (i := 3) sc__law_renamed.nd rfl (by first | exact .inl rfl | exact .inr rfl))) (fun _ _ _ _ _ => pts_nil) (fun _ _ _ _ _ => (pe_op op_addS (pv 1) (pv 3))))))
  (pss_cons (ps_if (pt_cmpR op_eq (pv 2) pe_str (nomark _)) (pss_one (ps_ret (pe_tup (pa_cons (pv 2) (pa_cons (pv 5) (pa_cons (pe_op op_addS (pv 1) (pe_ix ix_tup (pv 0) pe_int (fun _ _ => rfl))) pa_nil)))))) pss_nil)
  (pss_cons (ps_if (pt_cmpR op_eq (pv 2) pe_str (nomark _)) (pss_one (ps_ret (pe_tup (pa_cons (pv 2) (pa_cons (pv 5) (pa_cons (pe_tupleOf (by rfl) m_tuple (pe_lc (own := [("y", 6)]) rfl sc__law_renamed.nd (pi_tup (pe_ix ix_tup (pv 0) pe_int (fun _ _ => rfl))) (blkOk_by (own := [("y", 6)]) (N := n__law_renamed) (sc := defScope s__law_renamed) (by decide +kernel)) (fun _ _ _ _ _ => (pg_name (i := 6) sc__law_renamed.nd rfl (by first | exact .inl rfl | exact .inr rfl))) (fun _ _ _ _ _ => pts_nil) (fun _ _ _ _ _ => (pe_op op_addS (pv 1) (pv 6))))) pa_nil)))))) pss_nil)
  (pss_one (ps_ret (pe_op op_catA (pe_tup (pa_cons (pv 2) (pa_cons (pv 5) pa_nil))) (pe_slice sl_tupA (pv 0) (po_some pe_int) po_none)))))))))))))
theorem ok__law_renamed_all {P : Program} {w : World} {K : PySem.W.Frag} {mg : Str → Option Value} {base : Heap} {f : Addr} {fd : FuncData} (F : Fun K "_law_renamed" "_law_renamed" s__law_renamed f fd) (gf : mg "_law_renamed" = some (.ref f)) (C__law_renamed_claim : Cal P w K mg base "_law_renamed_claim" 5 ["claim", "start"] (sp__law_renamed_claim K 4)) (m_tuple : mg "tuple" = none)  : ∀ m, Cal P w K mg base "_law_renamed" (6 + m) ["saying", "start"] (sp__law_renamed K m)
  | 0 => ⟨f, fd, F.ok (k := 5) sc__law_renamed len__law_renamed (fun cdv A outer s H vs Q E hr h => (no__law_renamed h).elim), F.kp, F.binds (fun _ _ _ _ _ _ us hl => match us, hl with | [_, _], _ => rfl), gf⟩
  | m + 1 => ok__law_renamed_step m F gf C__law_renamed_claim m_tuple (ok__law_renamed_all F gf C__law_renamed_claim m_tuple m)
theorem ok__law_renamed {P : Program} {w : World} {K : PySem.W.Frag} {mg : Str → Option Value} {base : Heap} {f : Addr} {fd : FuncData} (F : Fun K "_law_renamed" "_law_renamed" s__law_renamed f fd) (gf : mg "_law_renamed" = some (.ref f)) (C__law_renamed_claim : Cal P w K mg base "_law_renamed_claim" 5 ["claim", "start"] (sp__law_renamed_claim K 4)) (m_tuple : mg "tuple" = none)  : Cal P w K mg base "_law_renamed" 8 ["saying", "start"] (sp__law_renamed K 2) := ok__law_renamed_all F gf C__law_renamed_claim m_tuple 2
abbrev s__law_view_model : Stmt := topS 49
abbrev n__law_view_model : List Str := ["one", "other", "view", "unknowns", "name", "domain", "sayings", "saying", "k", "xs", "rows", "names", "x", "soft"]
theorem sc__law_view_model : FnScope n__law_view_model ["one", "other", "view"] (defScope s__law_view_model) := ⟨rfl, rfl, rfl, by decide +kernel, rfl, by decide +kernel, by decide +kernel⟩
theorem ok__law_view_model {P : Program} {w : World} {K : PySem.W.Frag} {mg : Str → Option Value} {base : Heap} {f : Addr} {fd : FuncData} (F : Fun K "_law_view_model" "_law_view_model" s__law_view_model f fd) (gf : mg "_law_view_model" = some (.ref f)) (C__law_renamed : Cal P w K mg base "_law_renamed" 8 ["saying", "start"] (sp__law_renamed K 2))  (m_len : mg "len" = none) (m_range : mg "range" = none) (m_tuple : mg "tuple" = none)  : Cal P w K mg base "_law_view_model" 9 ["one", "other", "view"] (sp__law_view_model K) := by
  refine ⟨f, fd, F.ok sc__law_view_model len__law_view_model (fun cdv A outer s H vs Q E hr h => ⟨t__law_view_model K, PSs.nox ?_, pure__law_view_model vs H Q E h⟩), F.kp, F.binds (fun _ _ _ _ _ _ us hl => match us, hl with | [_, _, _], _ => rfl), gf⟩
  exact (pss_cons (ps_set (i := 3) sc__law_view_model.nd rfl (by first | exact .inl rfl | exact .inr rfl) (pe_op op_cat (pe_lc (own := [("name", 4), ("domain", 5)]) rfl sc__law_view_model.nd (pi_tup (pe_ix ix_tup (pv 0) pe_int (fun _ _ => rfl))) (blkOk_by (own := [("name", 4), ("domain", 5)]) (N := n__law_view_model) (sc := defScope s__law_view_model) (by decide +kernel)) (fun _ _ _ _ _ => (pg_tup rfl (pgs_cons (pg_name (i := 4) sc__law_view_model.nd rfl (by first | exact .inl rfl | exact .inr rfl)) (pgs_cons (pg_name (i := 5) sc__law_view_model.nd rfl (by first | exact .inl rfl | exact .inr rfl)) pgs_nil)))) (fun _ _ _ _ _ => pts_nil) (fun _ _ _ _ _ => (pe_tup (pa_cons (pe_op op_addS pe_str (pv 4)) (pa_cons (pv 5) pa_nil))))) (pe_lc (own := [("name", 4), ("domain", 5)]) rfl sc__law_view_model.nd (pi_tup (pe_ix ix_tup (pv 1) pe_int (fun _ _ => rfl))) (blkOk_by (own := [("name", 4), ("domain", 5)]) (N := n__law_view_model) (sc := defScope s__law_view_model) (by decide +kernel)) (fun _ _ _ _ _ => (pg_tup rfl (pgs_cons (pg_name (i := 4) sc__law_view_model.nd rfl (by first | exact .inl rfl | exact .inr rfl)) (pgs_cons (pg_name (i := 5) sc__law_view_model.nd rfl (by first | exact .inl rfl | exact .inr rfl)) pgs_nil)))) (fun _ _ _ _ _ => pts_nil) (fun _ _ _ _ _ => (pe_tup (pa_cons (pe_op op_addS pe_str (pv 4)) (pa_cons (pv 5) pa_nil)))))))
  (pss_cons (ps_setLc (i := 6) (own := [("name", 4), ("saying", 7)]) rfl sc__law_view_model.nd rfl rfl (sw_true rfl rfl rfl (by decide +kernel)) (pi_tup (pe_ix ix_tup (pv 0) pe_int (fun _ _ => rfl))) (blkOk_by (own := [("name", 4), ("saying", 7)]) (N := n__law_view_model) (sc := defScope s__law_view_model) (by decide +kernel)) (fun _ _ _ _ _ => (pg_tup rfl (pgs_cons (pg_name (i := 4) sc__law_view_model.nd rfl (by first | exact .inl rfl | exact .inr rfl)) (pgs_cons (pg_name (i := 7) sc__law_view_model.nd rfl (by first | exact .inl rfl | exact .inr rfl)) pgs_nil)))) (fun _ _ _ _ _ => pts_nil) (fun _ _ _ _ _ => (pe_tup (pa_cons (pe_op op_addS pe_str (pv 4)) (pa_cons (pe_cal C__law_renamed (hr.mono (by decide)) rfl (pa_cons (pv 7) (pa_cons pe_str pa_nil))) pa_nil)))))
  (pss_cons (ps_for PassesOwn.never rfl (pi_range1 (by rfl) m_range (pa_cons (pe_callB call_len1 (by rfl) m_len (by decide +kernel) (pa_cons (pe_ix ix_tup (pv 1) pe_int (fun _ _ => rfl)) pa_nil)) pa_nil)) (pg_name (i := 8) sc__law_view_model.nd rfl (by first | exact .inl rfl | exact .inr rfl))
  (pss_cons (ps_asg (pe_ix ix_tup (pv 2) (pv 8) (fun _ _ => rfl)) (pg_tup rfl (pgs_cons (pg_name (i := 9) sc__law_view_model.nd rfl (by first | exact .inl rfl | exact .inr rfl)) (pgs_cons (pg_name (i := 10) sc__law_view_model.nd rfl (by first | exact .inl rfl | exact .inr rfl)) pgs_nil))))
  (pss_cons (ps_set (i := 11) sc__law_view_model.nd rfl (by first | exact .inl rfl | exact .inr rfl) (pe_op op_catA (pe_tupleOf (by rfl) m_tuple (pe_lc (own := [("x", 12)]) rfl sc__law_view_model.nd (pi_tup (pv 9)) (blkOk_by (own := [("x", 12)]) (N := n__law_view_model) (sc := defScope s__law_view_model) (by decide +kernel)) (fun _ _ _ _ _ => (pg_name (i := 12) sc__law_view_model.nd rfl (by first | exact .inl rfl | exact .inr rfl))) (fun _ _ _ _ _ => pts_nil) (fun _ _ _ _ _ => (pe_op op_addS pe_str (pv 12))))) (pe_tup (pa_cons (pe_op op_addS pe_str (pe_ix ix_tup (pe_ix ix_tup (pe_ix ix_tup (pv 1) pe_int (fun _ _ => rfl)) (pv 8) (fun _ _ => rfl)) pe_int (fun _ _ => rfl))) pa_nil))))
  (pss_one (ps_expr (pe_bm PySem.F.plainAttrs_list PySem.F.slot_list_append PySem.F.type_list_append mt_append (pv 6) (pa_cons (pe_tup (pa_cons (pe_op op_addS pe_str (pe_ix ix_tup (pe_ix ix_tup (pe_ix ix_tup (pv 1) pe_int (fun _ _ => rfl)) (pv 8) (fun _ _ => rfl)) pe_int (fun _ _ => rfl))) (pa_cons (pe_tup (pa_cons pe_str (pa_cons (pv 11) (pa_cons (pv 10) pa_nil)))) pa_nil))) pa_nil)))))))
  (pss_cons (ps_setLc (i := 13) (own := [("name", 4), ("saying", 7)]) rfl sc__law_view_model.nd rfl rfl (sw_true rfl rfl rfl (by decide +kernel)) (pi_tup (pe_ix ix_tup (pv 1) pe_int (fun _ _ => rfl))) (blkOk_by (own := [("name", 4), ("saying", 7)]) (N := n__law_view_model) (sc := defScope s__law_view_model) (by decide +kernel)) (fun _ _ _ _ _ => (pg_tup rfl (pgs_cons (pg_name (i := 4) sc__law_view_model.nd rfl (by first | exact .inl rfl | exact .inr rfl)) (pgs_cons (pg_name (i := 7) sc__law_view_model.nd rfl (by first | exact .inl rfl | exact .inr rfl)) pgs_nil)))) (fun _ _ _ _ _ => pts_nil) (fun _ _ _ _ _ => (pe_tup (pa_cons (pe_op op_addS pe_str (pv 4)) (pa_cons (pe_cal C__law_renamed (hr.mono (by decide)) rfl (pa_cons (pv 7) (pa_cons pe_str pa_nil))) (pa_cons pe_int pa_nil))))))
  (pss_one (ps_ret (pe_tup (pa_cons (pe_tupleOf (by rfl) m_tuple (pv 3)) (pa_cons (pe_tupleOf (by rfl) m_tuple (pv 6)) (pa_cons (pe_tupleOf (by rfl) m_tuple (pv 13)) pa_nil))))))))))
abbrev s_is_tuple : Stmt := topS 1
abbrev n_is_tuple : List Str := ["value", "fewest", "most"]
theorem sc_is_tuple : FnScope n_is_tuple ["value", "fewest", "most"] (defScope s_is_tuple) := ⟨rfl, rfl, rfl, by decide +kernel, rfl, by decide +kernel, by decide +kernel⟩
theorem ok_is_tuple {P : Program} {w : World} {K : PySem.W.Frag} {mg : Str → Option Value} {base : Heap} {f : Addr} {fd : FuncData} (F : Fun K "is_tuple" "is_tuple" s_is_tuple f fd) (gf : mg "is_tuple" = some (.ref f))   (m_len : mg "len" = none) (m_tuple : mg "tuple" = none) (m_type : mg "type" = none)  : Cal P w K mg base "is_tuple" 1 ["value", "fewest", "most"] (sp_is_tuple K) := by
  refine ⟨f, fd, F.ok sc_is_tuple len_is_tuple (fun cdv A outer s H vs Q E hr h => ⟨t_is_tuple K, PSs.nox ?_, pure_is_tuple vs H Q E h⟩), F.kp, F.binds (fun _ _ _ _ _ _ us hl => match us, hl with | [_, _, _], _ => rfl), gf⟩
  exact (pss_one (ps_ret (pe_and (pe_cmpR op_isTyB1 (pe_callTy L2.call_type1 (by rfl) m_type (by decide +kernel) (pa_cons (pv 0) pa_nil)) (pe_bltn (by rfl) m_tuple (by decide +kernel) rfl) (nomark _)) (pe_one (pe_chain op_le op_le (pv 1) (pe_callB call_len1 (by rfl) m_len (by decide +kernel) (pa_cons (pv 0) pa_nil)) (pv 2))))))
abbrev s__is_row : Stmt := topS 22
abbrev n__is_row : List Str := ["columns", "value", "v", "column"]
theorem sc__is_row : FnScope n__is_row ["columns", "value"] (defScope s__is_row) := ⟨rfl, rfl, rfl, by decide +kernel, rfl, by decide +kernel, by decide +kernel⟩
theorem ok__is_row {P : Program} {w : World} {K : PySem.W.Frag} {mg : Str → Option Value} {base : Heap} {f : Addr} {fd : FuncData} (F : Fun K "_is_row" "_is_row" s__is_row f fd) (gf : mg "_is_row" = some (.ref f)) (C_is_tuple : Cal P w K mg base "is_tuple" 1 ["value", "fewest", "most"] (sp_is_tuple K))  (m_all : mg "all" = none) (m_int : mg "int" = none) (m_len : mg "len" = none) (m_type : mg "type" = none) (m_zip : mg "zip" = none)  : Cal P w K mg base "_is_row" 2 ["columns", "value"] (sp__is_row K) := by
  refine ⟨f, fd, F.ok sc__is_row len__is_row (fun cdv A outer s H vs Q E hr h => ⟨t__is_row K, PSs.nox ?_, pure__is_row vs H Q E h⟩), F.kp, F.binds (fun _ _ _ _ _ _ us hl => match us, hl with | [_, _], _ => rfl), gf⟩
  exact (pss_cons (ps_if (pt_not (pt_val (pe_cal C_is_tuple (hr.mono (by decide)) rfl (pa_cons (pv 1) (pa_cons (pe_callB call_len1 (by rfl) m_len (by decide +kernel) (pa_cons (pv 0) pa_nil)) (pa_cons (pe_callB call_len1 (by rfl) m_len (by decide +kernel) (pa_cons (pv 0) pa_nil)) pa_nil)))))) (pss_one (ps_ret pe_bl)) pss_nil)
  (pss_one (ps_ret (pe_callB (cr_all rfl) (by rfl) m_all (by decide +kernel) (pa_cons (pe_lc (own := [("v", 2), ("column", 3)]) rfl sc__is_row.nd (pi_zipM (by rfl) m_zip (pa_cons (pv 1) (pa_cons (pv 0) pa_nil))) (blkOk_by (own := [("v", 2), ("column", 3)]) (N := n__is_row) (sc := defScope s__is_row) (by decide +kernel)) (fun _ _ _ _ _ => (pg_tup rfl (pgs_cons (pg_name (i := 2) sc__is_row.nd rfl (by first | exact .inl rfl | exact .inr rfl)) (pgs_cons (pg_name (i := 3) sc__is_row.nd rfl (by first | exact .inl rfl | exact .inr rfl)) pgs_nil)))) (fun _ _ _ _ _ => pts_nil) (fun _ _ _ _ _ => (pe_and (pe_cmpR op_isTyB1 (pe_callTy L2.call_type1 (by rfl) m_type (by decide +kernel) (pa_cons (pv 2) pa_nil)) (pe_bltn (by rfl) m_int (by decide +kernel) rfl) (nomark _)) (pe_one (pe_cmpR (op_inT (units65 hr)) (pv 2) (pv 3) (by rfl)))))) pa_nil)))))
abbrev s__many_tuples : Stmt := topS 23
abbrev n__many_tuples : List Str := ["columns", "many", "column"]
theorem sc__many_tuples : FnScope n__many_tuples ["columns"] (defScope s__many_tuples) := ⟨rfl, rfl, rfl, by decide +kernel, rfl, by decide +kernel, by decide +kernel⟩
theorem ok__many_tuples {P : Program} {w : World} {K : PySem.W.Frag} {mg : Str → Option Value} {base : Heap} {f : Addr} {fd : FuncData} (F : Fun K "_many_tuples" "_many_tuples" s__many_tuples f fd) (gf : mg "_many_tuples" = some (.ref f))   (m_len : mg "len" = none)  : Cal P w K mg base "_many_tuples" 1 ["columns"] (sp__many_tuples K) := by
  refine ⟨f, fd, F.ok sc__many_tuples len__many_tuples (fun cdv A outer s H vs Q E hr h => ⟨t__many_tuples K, PSs.nox ?_, pure__many_tuples vs H Q E h⟩), F.kp, F.binds (fun _ _ _ _ _ _ us hl => match us, hl with | [_], _ => rfl), gf⟩
  exact (pss_cons (ps_set (i := 1) sc__many_tuples.nd rfl (by first | exact .inl rfl | exact .inr rfl) pe_int)
  (pss_cons (ps_for PassesOwn.never rfl (pi_list (pv 0)) (pg_name (i := 2) sc__many_tuples.nd rfl (by first | exact .inl rfl | exact .inr rfl))
  (pss_one (ps_set (i := 1) sc__many_tuples.nd rfl (by first | exact .inl rfl | exact .inr rfl) (pe_op op_mul (pv 1) (pe_callB call_len1 (by rfl) m_len (by decide +kernel) (pa_cons (pv 2) pa_nil))))))
  (pss_one (ps_ret (pv 1)))))
abbrev s_is_unknown : Stmt := topS 3
abbrev n_is_unknown : List Str := ["domains", "value"]
theorem sc_is_unknown : FnScope n_is_unknown ["domains", "value"] (defScope s_is_unknown) := ⟨rfl, rfl, rfl, by decide +kernel, rfl, by decide +kernel, by decide +kernel⟩
theorem ok_is_unknown {P : Program} {w : World} {K : PySem.W.Frag} {mg : Str → Option Value} {base : Heap} {f : Addr} {fd : FuncData} (F : Fun K "is_unknown" "is_unknown" s_is_unknown f fd) (gf : mg "is_unknown" = some (.ref f))   (m_str : mg "str" = none) (m_type : mg "type" = none)  : Cal P w K mg base "is_unknown" 1 ["domains", "value"] (sp_is_unknown K) := by
  refine ⟨f, fd, F.ok sc_is_unknown len_is_unknown (fun cdv A outer s H vs Q E hr h => ⟨t_is_unknown K, PSs.nox ?_, pure_is_unknown vs H Q E h⟩), F.kp, F.binds (fun _ _ _ _ _ _ us hl => match us, hl with | [_, _], _ => rfl), gf⟩
  exact (pss_one (ps_ret (pe_and (pe_cmpR op_isTyB1 (pe_callTy L2.call_type1 (by rfl) m_type (by decide +kernel) (pa_cons (pv 1) pa_nil)) (pe_bltn (by rfl) m_str (by decide +kernel) rfl) (nomark _)) (pe_one (pe_cmp (pc_din (hu_of hr) (pv 1) (pv 0)))))))
abbrev s_are_unknowns : Stmt := topS 4
abbrev n_are_unknowns : List Str := ["domains", "value", "most", "x"]
theorem sc_are_unknowns : FnScope n_are_unknowns ["domains", "value", "most"] (defScope s_are_unknowns) := ⟨rfl, rfl, rfl, by decide +kernel, rfl, by decide +kernel, by decide +kernel⟩
theorem ok_are_unknowns {P : Program} {w : World} {K : PySem.W.Frag} {mg : Str → Option Value} {base : Heap} {f : Addr} {fd : FuncData} (F : Fun K "are_unknowns" "are_unknowns" s_are_unknowns f fd) (gf : mg "are_unknowns" = some (.ref f)) (C_is_tuple : Cal P w K mg base "is_tuple" 1 ["value", "fewest", "most"] (sp_is_tuple K)) (C_is_unknown : Cal P w K mg base "is_unknown" 1 ["domains", "value"] (sp_is_unknown K))  (m_all : mg "all" = none) (m_len : mg "len" = none) (m_set : mg "set" = none)  : Cal P w K mg base "are_unknowns" 2 ["domains", "value", "most"] (sp_are_unknowns K) := by
  refine ⟨f, fd, F.ok sc_are_unknowns len_are_unknowns (fun cdv A outer s H vs Q E hr h => ⟨t_are_unknowns K, PSs.nox ?_, pure_are_unknowns vs H Q E h⟩), F.kp, F.binds (fun _ _ _ _ _ _ us hl => match us, hl with | [_, _, _], _ => rfl), gf⟩
  exact (pss_cons (ps_if (PW.pt (pw_or (pt_not (pt_val (pe_cal C_is_tuple (hr.mono (by decide)) rfl (pa_cons (pv 1) (pa_cons pe_int (pa_cons (pv 2) pa_nil)))))) (pw_or1 (pt_not (pt_val (pe_callB (cr_all rfl) (by rfl) m_all (by decide +kernel) (pa_cons (pe_lc (own := [("x", 3)]) rfl sc_are_unknowns.nd (pi_tup (pv 1)) (blkOk_by (own := [("x", 3)]) (N := n_are_unknowns) (sc := defScope s_are_unknowns) (by decide +kernel)) (fun _ _ _ _ _ => (pg_name (i := 3) sc_are_unknowns.nd rfl (by first | exact .inl rfl | exact .inr rfl))) (fun _ _ _ _ _ => pts_nil) (fun _ _ _ _ _ => (pe_cal C_is_unknown (hr.mono (by decide)) rfl (pa_cons (pv 0) (pa_cons (pv 3) pa_nil))))) pa_nil))))))) (pss_one (ps_ret pe_bl)) pss_nil)
  (pss_one (ps_ret (pe_cmpR op_eq (pe_lenSetS rfl (by rfl) m_len (by rfl) m_set (pv 1)) (pe_callB call_len1 (by rfl) m_len (by decide +kernel) (pa_cons (pv 1) pa_nil)) (nomark _)))))
abbrev s_ascends : Stmt := topS 2
abbrev n_ascends : List Str := ["items", "k"]
theorem sc_ascends : FnScope n_ascends ["items"] (defScope s_ascends) := ⟨rfl, rfl, rfl, by decide +kernel, rfl, by decide +kernel, by decide +kernel⟩
theorem ok_ascends {P : Program} {w : World} {K : PySem.W.Frag} {mg : Str → Option Value} {base : Heap} {f : Addr} {fd : FuncData} (F : Fun K "ascends" "ascends" s_ascends f fd) (gf : mg "ascends" = some (.ref f))   (m_all : mg "all" = none) (m_len : mg "len" = none) (m_range : mg "range" = none)  : Cal P w K mg base "ascends" 1 ["items"] (sp_ascends K) := by
  refine ⟨f, fd, F.ok sc_ascends len_ascends (fun cdv A outer s H vs Q E hr h => ⟨t_ascends K, PSs.nox ?_, pure_ascends vs H Q E h⟩), F.kp, F.binds (fun _ _ _ _ _ _ us hl => match us, hl with | [_], _ => rfl), gf⟩
  exact (pss_one (ps_ret (pe_callB (cr_all rfl) (by rfl) m_all (by decide +kernel) (pa_cons (pe_lc (own := [("k", 1)]) rfl sc_ascends.nd (pi_range1 (by rfl) m_range (pa_cons (pe_op op_sub (pe_callB call_len1 (by rfl) m_len (by decide +kernel) (pa_cons (pv 0) pa_nil)) pe_int) pa_nil)) (blkOk_by (own := [("k", 1)]) (N := n_ascends) (sc := defScope s_ascends) (by decide +kernel)) (fun _ _ _ _ _ => (pg_name (i := 1) sc_ascends.nd rfl (by first | exact .inl rfl | exact .inr rfl))) (fun _ _ _ _ _ => pts_nil) (fun _ _ _ _ _ => (pe_cmpR (op_ltT (Nat.lt_of_succ_lt (hu_of hr))) (pe_ix ix_any (pv 0) (pv 1) (fun _ _ => rfl)) (pe_ix ix_any (pv 0) (pe_op op_add (pv 1) pe_int) (fun _ _ => rfl)) (nomark _)))) pa_nil))))
abbrev s__is_item : Stmt := topS 21
abbrev n__is_item : List Str := ["domains", "domain", "value", "xs", "rows", "columns", "x", "row", "fronts"]
theorem sc__is_item : FnScope n__is_item ["domains", "domain", "value"] (defScope s__is_item) := ⟨rfl, rfl, rfl, by decide +kernel, rfl, by decide +kernel, by decide +kernel⟩
theorem ok__is_item {P : Program} {w : World} {K : PySem.W.Frag} {mg : Str → Option Value} {base : Heap} {f : Addr} {fd : FuncData} (F : Fun K "_is_item" "_is_item" s__is_item f fd) (gf : mg "_is_item" = some (.ref f)) (C__is_row : Cal P w K mg base "_is_row" 2 ["columns", "value"] (sp__is_row K)) (C__many_tuples : Cal P w K mg base "_many_tuples" 1 ["columns"] (sp__many_tuples K)) (C_are_unknowns : Cal P w K mg base "are_unknowns" 2 ["domains", "value", "most"] (sp_are_unknowns K)) (C_ascends : Cal P w K mg base "ascends" 1 ["items"] (sp_ascends K)) (C_is_tuple : Cal P w K mg base "is_tuple" 1 ["value", "fewest", "most"] (sp_is_tuple K))  (m_all : mg "all" = none) (m_len : mg "len" = none) {u_MOST_SEEN : Value} (g_MOST_SEEN : mg "MOST_SEEN" = some u_MOST_SEEN) (r_MOST_SEEN : RelV v_MOST_SEEN u_MOST_SEEN) {u_MOST_VIEW_ROWS : Value} (g_MOST_VIEW_ROWS : mg "MOST_VIEW_ROWS" = some u_MOST_VIEW_ROWS) (r_MOST_VIEW_ROWS : RelV v_MOST_VIEW_ROWS u_MOST_VIEW_ROWS) : Cal P w K mg base "_is_item" 3 ["domains", "domain", "value"] (sp__is_item K) := by
  refine ⟨f, fd, F.ok sc__is_item len__is_item (fun cdv A outer s H vs Q E hr h => ⟨t__is_item K, PSs.nox ?_, pure__is_item vs H Q E h⟩), F.kp, F.binds (fun _ _ _ _ _ _ us hl => match us, hl with | [_, _, _], _ => rfl), gf⟩
  exact (pss_cons (ps_if (PW.pt (pw_or (pt_not (pt_val (pe_cal C_is_tuple (hr.mono (by decide)) rfl (pa_cons (pv 2) (pa_cons pe_int (pa_cons pe_int pa_nil)))))) (pw_or1 (pt_not (pt_val (pe_cal C_are_unknowns (hr.mono (by decide)) rfl (pa_cons (pv 0) (pa_cons (pe_ix ix_tup (pv 2) pe_int (fun _ _ => rfl)) (pa_cons (pe_glob rfl g_MOST_SEEN r_MOST_SEEN) pa_nil))))))))) (pss_one (ps_ret pe_bl)) pss_nil)
  (pss_cons (ps_asg (pv 2) (pg_tup rfl (pgs_cons (pg_name (i := 3) sc__is_item.nd rfl (by first | exact .inl rfl | exact .inr rfl)) (pgs_cons (pg_name (i := 4) sc__is_item.nd rfl (by first | exact .inl rfl | exact .inr rfl)) pgs_nil))))
  (pss_cons (ps_set (i := 5) sc__is_item.nd rfl (by first | exact .inl rfl | exact .inr rfl) (pe_op op_cat (pe_lc (own := [("x", 6)]) rfl sc__is_item.nd (pi_tup (pv 3)) (blkOk_by (own := [("x", 6)]) (N := n__is_item) (sc := defScope s__is_item) (by decide +kernel)) (fun _ _ _ _ _ => (pg_name (i := 6) sc__is_item.nd rfl (by first | exact .inl rfl | exact .inr rfl))) (fun _ _ _ _ _ => pts_nil) (fun _ _ _ _ _ => (pe_dget (hu_of hr) (pv 0) (pv 6) (fun _ _ => rfl)))) (pe_lst (pa_cons (pv 1) pa_nil))))
  (pss_cons (ps_if (PW.pt (pw_or (pt_not (pt_val (pe_cal C_is_tuple (hr.mono (by decide)) rfl (pa_cons (pv 4) (pa_cons pe_int (pa_cons (pe_glob rfl g_MOST_VIEW_ROWS r_MOST_VIEW_ROWS) pa_nil)))))) (pw_or1 (pt_not (pt_val (pe_callB (cr_all rfl) (by rfl) m_all (by decide +kernel) (pa_cons (pe_lc (own := [("row", 7)]) rfl sc__is_item.nd (pi_tup (pv 4)) (blkOk_by (own := [("row", 7)]) (N := n__is_item) (sc := defScope s__is_item) (by decide +kernel)) (fun _ _ _ _ _ => (pg_name (i := 7) sc__is_item.nd rfl (by first | exact .inl rfl | exact .inr rfl))) (fun _ _ _ _ _ => pts_nil) (fun _ _ _ _ _ => (pe_cal C__is_row (hr.mono (by decide)) rfl (pa_cons (pv 5) (pa_cons (pv 7) pa_nil))))) pa_nil))))))) (pss_one (ps_ret pe_bl)) pss_nil)
  (pss_cons (ps_setLc (i := 8) (own := [("row", 7)]) rfl sc__is_item.nd rfl rfl (sw_true rfl rfl rfl (by decide +kernel)) (pi_tup (pv 4)) (blkOk_by (own := [("row", 7)]) (N := n__is_item) (sc := defScope s__is_item) (by decide +kernel)) (fun _ _ _ _ _ => (pg_name (i := 7) sc__is_item.nd rfl (by first | exact .inl rfl | exact .inr rfl))) (fun _ _ _ _ _ => pts_nil) (fun _ _ _ _ _ => (pe_slice sl_tupA (pv 7) po_none (po_some (pe_un un_neg pe_int)))))
  (pss_one (ps_ret (pe_and (pe_cal C_ascends (hr.mono (by decide)) rfl (pa_cons (pv 8) pa_nil)) (pe_one (pe_cmpR op_eq (pe_callB call_len1 (by rfl) m_len (by decide +kernel) (pa_cons (pv 8) pa_nil)) (pe_cal C__many_tuples (hr.mono (by decide)) rfl (pa_cons (pe_slice sl_list (pv 5) po_none (po_some (pe_un un_neg pe_int))) pa_nil)) (nomark _)))))))))))
abbrev s_domains_of : Stmt := topS 9
abbrev n_domains_of : List Str := ["model", "name", "domain"]
theorem sc_domains_of : FnScope n_domains_of ["model"] (defScope s_domains_of) := ⟨rfl, rfl, rfl, by decide +kernel, rfl, by decide +kernel, by decide +kernel⟩
theorem ok_domains_of {P : Program} {w : World} {K : PySem.W.Frag} {mg : Str → Option Value} {base : Heap} {f : Addr} {fd : FuncData} (F : Fun K "domains_of" "domains_of" s_domains_of f fd) (gf : mg "domains_of" = some (.ref f))     : Cal P w K mg base "domains_of" 1 ["model"] (sp_domains_of K) := by
  refine ⟨f, fd, F.ok sc_domains_of len_domains_of (fun cdv A outer s H vs Q E hr h => ⟨t_domains_of K, PSs.nox ?_, pure_domains_of vs H Q E h⟩), F.kp, F.binds (fun _ _ _ _ _ _ us hl => match us, hl with | [_], _ => rfl), gf⟩
  exact (pss_one (ps_ret (pe_dc (own := [("name", 1), ("domain", 2)]) rfl sc_domains_of.nd (pi_tup (pe_ix ix_tup (pv 0) pe_int (fun _ _ => rfl))) (blkOk_by (own := [("name", 1), ("domain", 2)]) (N := n_domains_of) (sc := defScope s_domains_of) (by decide +kernel)) (fun _ _ _ _ _ => (pg_tup rfl (pgs_cons (pg_name (i := 1) sc_domains_of.nd rfl (by first | exact .inl rfl | exact .inr rfl)) (pgs_cons (pg_name (i := 2) sc_domains_of.nd rfl (by first | exact .inl rfl | exact .inr rfl)) pgs_nil)))) (fun _ _ _ _ _ => pts_nil) (fun _ _ _ _ _ => (pv 1)) (fun _ _ _ _ _ => (pv 2)))))
abbrev s_check_items : Stmt := topS 20
abbrev n_check_items : List Str := ["one", "other", "value", "many", "domains", "number", "item"]
theorem sc_check_items : FnScope n_check_items ["one", "other", "value"] (defScope s_check_items) := ⟨rfl, rfl, rfl, by decide +kernel, rfl, by decide +kernel, by decide +kernel⟩
theorem ok_check_items {P : Program} {w : World} {K : PySem.W.Frag} {mg : Str → Option Value} {base : Heap} {f : Addr} {fd : FuncData} (F : Fun K "check_items" "check_items" s_check_items f fd) (gf : mg "check_items" = some (.ref f)) (C__is_item : Cal P w K mg base "_is_item" 3 ["domains", "domain", "value"] (sp__is_item K)) (C_domains_of : Cal P w K mg base "domains_of" 1 ["model"] (sp_domains_of K)) (C_is_tuple : Cal P w K mg base "is_tuple" 1 ["value", "fewest", "most"] (sp_is_tuple K))  (m_enumerate : mg "enumerate" = none) (m_len : mg "len" = none)  : Cal P w K mg base "check_items" 4 ["one", "other", "value"] (sp_check_items K) := by
  refine ⟨f, fd, F.ok sc_check_items len_check_items (fun cdv A outer s H vs Q E hr h => ⟨t_check_items K, PSs.nox ?_, pure_check_items vs H Q E h⟩), F.kp, F.binds (fun _ _ _ _ _ _ us hl => match us, hl with | [_, _, _], _ => rfl), gf⟩
  exact (pss_cons (ps_set (i := 3) sc_check_items.nd rfl (by first | exact .inl rfl | exact .inr rfl) (pe_callB call_len1 (by rfl) m_len (by decide +kernel) (pa_cons (pe_ix ix_tup (pv 1) pe_int (fun _ _ => rfl)) pa_nil)))
  (pss_cons (ps_if (pt_not (pt_val (pe_cal C_is_tuple (hr.mono (by decide)) rfl (pa_cons (pv 2) (pa_cons (pv 3) (pa_cons (pv 3) pa_nil)))))) pss_never pss_nil)
  (pss_cons (ps_set (i := 4) sc_check_items.nd rfl (by first | exact .inl rfl | exact .inr rfl) (pe_cal C_domains_of (hr.mono (by decide)) rfl (pa_cons (pv 0) pa_nil)))
  (pss_one (ps_for PassesOwn.never rfl (pi_enumT (by rfl) m_enumerate (pa_cons (pv 2) pa_nil)) (pg_tup rfl (pgs_cons (pg_name (i := 5) sc_check_items.nd rfl (by first | exact .inl rfl | exact .inr rfl)) (pgs_cons (pg_name (i := 6) sc_check_items.nd rfl (by first | exact .inl rfl | exact .inr rfl)) pgs_nil)))
  (pss_one (ps_if (pt_not (pt_val (pe_cal C__is_item (hr.mono (by decide)) rfl (pa_cons (pv 4) (pa_cons (pe_ix ix_tup (pe_ix ix_tup (pe_ix ix_tup (pv 1) pe_int (fun _ _ => rfl)) (pv 5) (fun _ _ => rfl)) pe_int (fun _ _ => rfl)) (pa_cons (pv 6) pa_nil)))))) pss_never pss_nil)))))))
abbrev s_check_view : Stmt := topS 26
abbrev n_check_view : List Str := ["one", "other", "value"]
theorem sc_check_view : FnScope n_check_view ["one", "other", "value"] (defScope s_check_view) := ⟨rfl, rfl, rfl, by decide +kernel, rfl, by decide +kernel, by decide +kernel⟩
theorem ok_check_view {P : Program} {w : World} {K : PySem.W.Frag} {mg : Str → Option Value} {base : Heap} {f : Addr} {fd : FuncData} (F : Fun K "check_view" "check_view" s_check_view f fd) (gf : mg "check_view" = some (.ref f)) (C_check_items : Cal P w K mg base "check_items" 4 ["one", "other", "value"] (sp_check_items K))    : Cal P w K mg base "check_view" 5 ["one", "other", "value"] (sp_check_view K) := by
  refine ⟨f, fd, F.ok sc_check_view len_check_view (fun cdv A outer s H vs Q E hr h => ⟨t_check_view K, PSs.nox ?_, pure_check_view vs H Q E h⟩), F.kp, F.binds (fun _ _ _ _ _ _ us hl => match us, hl with | [_, _, _], _ => rfl), gf⟩
  exact (pss_one (ps_expr (pe_cal C_check_items (hr.mono (by decide)) rfl (pa_cons (pv 0) (pa_cons (pv 1) (pa_cons (pv 2) pa_nil))))))
abbrev s_renamed_claim : Stmt := topS 11
abbrev n_renamed_claim : List Str := ["claim", "new", "part"]
theorem sc_renamed_claim : FnScope n_renamed_claim ["claim", "new"] (defScope s_renamed_claim) := ⟨rfl, rfl, rfl, by decide +kernel, rfl, by decide +kernel, by decide +kernel⟩
theorem ok_renamed_claim_step (m : Nat) {P : Program} {w : World} {K : PySem.W.Frag} {mg : Str → Option Value} {base : Heap} {f : Addr} {fd : FuncData} (F : Fun K "renamed_claim" "renamed_claim" s_renamed_claim f fd) (gf : mg "renamed_claim" = some (.ref f))  (m_tuple : mg "tuple" = none)  (C_renamed_claim : Cal P w K mg base "renamed_claim" (1 + m) ["claim", "new"] (sp_renamed_claim K m)) : Cal P w K mg base "renamed_claim" (1 + m + 1) ["claim", "new"] (sp_renamed_claim K (m + 1)) := by
  refine ⟨f, fd, F.ok (k := 1 + m) sc_renamed_claim len_renamed_claim (fun cdv A outer s H vs Q E hr h => ⟨t_renamed_claim K m, PSs.nox ?_, pure_renamed_claim vs H Q E h⟩), F.kp, F.binds (fun _ _ _ _ _ _ us hl => match us, hl with | [_, _], _ => rfl), gf⟩
  exact (pss_cons (ps_if (pt_cmpR op_in_seq (pe_ix ix_tup (pv 0) pe_int (fun _ _ => rfl)) (pe_tup (pa_cons pe_str (pa_cons pe_str pa_nil))) (by rfl)) (pss_one (ps_ret (pe_tup (pa_cons (pe_ix ix_tup (pv 0) pe_int (fun _ _ => rfl)) (pa_cons (pe_dget2 (hu_of hr) (pv 1) (pe_ix ix_tup (pv 0) pe_int (fun _ _ => rfl)) (pe_ix ix_tup (pv 0) pe_int (fun _ _ => rfl)) ⟨rfl, rfl, rfl, rfl⟩) (pa_cons (pe_ix ix_tup (pv 0) pe_int (fun _ _ => rfl)) pa_nil)))))) pss_nil)
  (pss_cons (ps_if (pt_cmpR op_eq (pe_ix ix_tup (pv 0) pe_int (fun _ _ => rfl)) pe_str (nomark _)) (pss_one (ps_ret (pe_tup (pa_cons pe_str (pa_cons (pe_cal C_renamed_claim (hr.mono (by omega)) rfl (pa_cons (pe_ix ix_tup (pv 0) pe_int (fun _ _ => rfl)) (pa_cons (pv 1) pa_nil))) pa_nil))))) pss_nil)
  (pss_one (ps_ret (pe_tup (pa_cons (pe_ix ix_tup (pv 0) pe_int (fun _ _ => rfl)) (pa_cons (pe_tupleOf (by rfl) m_tuple (pe_lc (own := [("part", 2)]) rfl sc_renamed_claim.nd (pi_tup (pe_ix ix_tup (pv 0) pe_int (fun _ _ => rfl))) (blkOk_by (own := [("part", 2)]) (N := n_renamed_claim) (sc := defScope s_renamed_claim) (by decide +kernel)) (fun _ _ _ _ _ => (pg_name (i := 2) sc_renamed_claim.nd rfl (by first | exact .inl rfl | exact .inr rfl))) (fun _ _ _ _ _ => pts_nil) (fun _ _ _ _ _ => (pe_cal C_renamed_claim (hr.mono (by omega)) rfl (pa_cons (pv 2) (pa_cons (pv 1) pa_nil)))))) pa_nil)))))))
theorem ok_renamed_claim_all {P : Program} {w : World} {K : PySem.W.Frag} {mg : Str → Option Value} {base : Heap} {f : Addr} {fd : FuncData} (F : Fun K "renamed_claim" "renamed_claim" s_renamed_claim f fd) (gf : mg "renamed_claim" = some (.ref f))  (m_tuple : mg "tuple" = none)  : ∀ m, Cal P w K mg base "renamed_claim" (1 + m) ["claim", "new"] (sp_renamed_claim K m)
  | 0 => ⟨f, fd, F.ok (k := 0) sc_renamed_claim len_renamed_claim (fun cdv A outer s H vs Q E hr h => (no_renamed_claim h).elim), F.kp, F.binds (fun _ _ _ _ _ _ us hl => match us, hl with | [_, _], _ => rfl), gf⟩
  | m + 1 => ok_renamed_claim_step m F gf m_tuple (ok_renamed_claim_all F gf m_tuple m)
theorem ok_renamed_claim {P : Program} {w : World} {K : PySem.W.Frag} {mg : Str → Option Value} {base : Heap} {f : Addr} {fd : FuncData} (F : Fun K "renamed_claim" "renamed_claim" s_renamed_claim f fd) (gf : mg "renamed_claim" = some (.ref f))  (m_tuple : mg "tuple" = none)  : Cal P w K mg base "renamed_claim" 5 ["claim", "new"] (sp_renamed_claim K 4) := ok_renamed_claim_all F gf m_tuple 4
abbrev s_renamed_names : Stmt := topS 13
abbrev n_renamed_names : List Str := ["names", "new", "x"]
theorem sc_renamed_names : FnScope n_renamed_names ["names", "new"] (defScope s_renamed_names) := ⟨rfl, rfl, rfl, by decide +kernel, rfl, by decide +kernel, by decide +kernel⟩
theorem ok_renamed_names {P : Program} {w : World} {K : PySem.W.Frag} {mg : Str → Option Value} {base : Heap} {f : Addr} {fd : FuncData} (F : Fun K "renamed_names" "renamed_names" s_renamed_names f fd) (gf : mg "renamed_names" = some (.ref f))   (m_tuple : mg "tuple" = none)  : Cal P w K mg base "renamed_names" 1 ["names", "new"] (sp_renamed_names K) := by
  refine ⟨f, fd, F.ok sc_renamed_names len_renamed_names (fun cdv A outer s H vs Q E hr h => ⟨t_renamed_names K, PSs.nox ?_, pure_renamed_names vs H Q E h⟩), F.kp, F.binds (fun _ _ _ _ _ _ us hl => match us, hl with | [_, _], _ => rfl), gf⟩
  exact (pss_one (ps_ret (pe_tupleOf (by rfl) m_tuple (pe_lc (own := [("x", 2)]) rfl sc_renamed_names.nd (pi_tup (pv 0)) (blkOk_by (own := [("x", 2)]) (N := n_renamed_names) (sc := defScope s_renamed_names) (by decide +kernel)) (fun _ _ _ _ _ => (pg_name (i := 2) sc_renamed_names.nd rfl (by first | exact .inl rfl | exact .inr rfl))) (fun _ _ _ _ _ => pts_nil) (fun _ _ _ _ _ => (pe_dget2 (hu_of hr) (pv 1) (pv 2) (pv 2) ⟨rfl, rfl, rfl, rfl⟩))))))
abbrev s_renamed_saying : Stmt := topS 12
abbrev n_renamed_saying : List Str := ["saying", "new", "word", "x", "w"]
theorem sc_renamed_saying : FnScope n_renamed_saying ["saying", "new"] (defScope s_renamed_saying) := ⟨rfl, rfl, rfl, by decide +kernel, rfl, by decide +kernel, by decide +kernel⟩
theorem ok_renamed_saying_step (m : Nat) {P : Program} {w : World} {K : PySem.W.Frag} {mg : Str → Option Value} {base : Heap} {f : Addr} {fd : FuncData} (F : Fun K "renamed_saying" "renamed_saying" s_renamed_saying f fd) (gf : mg "renamed_saying" = some (.ref f)) (C_renamed_claim : Cal P w K mg base "renamed_claim" 5 ["claim", "new"] (sp_renamed_claim K 4)) (C_renamed_names : Cal P w K mg base "renamed_names" 1 ["names", "new"] (sp_renamed_names K)) (m_tuple : mg "tuple" = none)  (C_renamed_saying : Cal P w K mg base "renamed_saying" (6 + m) ["saying", "new"] (sp_renamed_saying K m)) : Cal P w K mg base "renamed_saying" (6 + m + 1) ["saying", "new"] (sp_renamed_saying K (m + 1)) := by
  refine ⟨f, fd, F.ok (k := 6 + m) sc_renamed_saying len_renamed_saying (fun cdv A outer s H vs Q E hr h => ⟨t_renamed_saying K m, PSs.nox ?_, pure_renamed_saying vs H Q E h⟩), F.kp, F.binds (fun _ _ _ _ _ _ us hl => match us, hl with | [_, _], _ => rfl), gf⟩
  exact (pss_cons (ps_set (i := 2) sc_renamed_saying.nd rfl (by first | exact .inl rfl | exact .inr rfl) (pe_ix ix_tup (pv 0) pe_int (fun _ _ => rfl)))
  (pss_cons (ps_if (pt_cmpR op_in_seq (pv 2) (pe_tup (pa_cons pe_str (pa_cons pe_str pa_nil))) (by rfl)) (pss_one (ps_ret (pe_tup (pa_cons (pv 2) (pa_cons (pe_tupleOf (by rfl) m_tuple (pe_lc (own := [("x", 3), ("w", 4)]) rfl sc_renamed_saying.nd (pi_tup (pe_ix ix_tup (pv 0) pe_int (fun _ _ => rfl))) (blkOk_by (own := [("x", 3), ("w", 4)]) (N := n_renamed_saying) (sc := defScope s_renamed_saying) (by decide +kernel)) (fun _ _ _ _ _ => (pg_tup rfl (pgs_cons (pg_name (i := 3) sc_renamed_saying.nd rfl (by first | exact .inl rfl | exact .inr rfl)) (pgs_cons (pg_name (i := 4) sc_renamed_saying.nd rfl (by first | exact .inl rfl | exact .inr rfl)) pgs_nil)))) (fun _ _ _ _ _ => pts_nil) (fun _ _ _ _ _ => (pe_tup (pa_cons (pe_dget2 (hu_of hr) (pv 1) (pv 3) (pv 3) ⟨rfl, rfl, rfl, rfl⟩) (pa_cons (pv 4) pa_nil)))))) (pa_cons (pe_ix ix_tup (pv 0) pe_int (fun _ _ => rfl)) pa_nil)))))) pss_nil)
  (pss_cons (ps_if (pt_cmpR op_eq (pv 2) pe_str (nomark _)) (pss_one (ps_ret (pe_tup (pa_cons (pv 2) (pa_cons (pe_cal C_renamed_claim (hr.mono (by omega)) rfl (pa_cons (pe_ix ix_tup (pv 0) pe_int (fun _ _ => rfl)) (pa_cons (pv 1) pa_nil))) pa_nil))))) pss_nil)
  (pss_cons (ps_if (pt_cmpR op_eq (pv 2) pe_str (nomark _)) (pss_one (ps_ret (pe_tup (pa_cons (pv 2) (pa_cons (pe_cal C_renamed_claim (hr.mono (by omega)) rfl (pa_cons (pe_ix ix_tup (pv 0) pe_int (fun _ _ => rfl)) (pa_cons (pv 1) pa_nil))) (pa_cons (pe_cal C_renamed_saying (hr.mono (by omega)) rfl (pa_cons (pe_ix ix_tup (pv 0) pe_int (fun _ _ => rfl)) (pa_cons (pv 1) pa_nil))) pa_nil)))))) pss_nil)
  (pss_cons (ps_if (pt_cmpR op_eq (pv 2) pe_str (nomark _)) (pss_one (ps_ret (pe_tup (pa_cons (pv 2) (pa_cons (pe_dget2 (hu_of hr) (pv 1) (pe_ix ix_tup (pv 0) pe_int (fun _ _ => rfl)) (pe_ix ix_tup (pv 0) pe_int (fun _ _ => rfl)) ⟨rfl, rfl, rfl, rfl⟩) (pa_cons (pe_cal C_renamed_names (hr.mono (by omega)) rfl (pa_cons (pe_ix ix_tup (pv 0) pe_int (fun _ _ => rfl)) (pa_cons (pv 1) pa_nil))) (pa_cons (pe_dget2 (hu_of hr) (pv 1) (pe_ix ix_tup (pv 0) pe_int (fun _ _ => rfl)) (pe_ix ix_tup (pv 0) pe_int (fun _ _ => rfl)) ⟨rfl, rfl, rfl, rfl⟩) pa_nil))))))) pss_nil)
  (pss_cons (ps_if (pt_cmpR op_eq (pv 2) pe_str (nomark _)) (pss_one (ps_ret (pe_tup (pa_cons (pv 2) (pa_cons (pe_cal C_renamed_names (hr.mono (by omega)) rfl (pa_cons (pe_ix ix_tup (pv 0) pe_int (fun _ _ => rfl)) (pa_cons (pv 1) pa_nil))) (pa_cons (pe_dget2 (hu_of hr) (pv 1) (pe_ix ix_tup (pv 0) pe_int (fun _ _ => rfl)) (pe_ix ix_tup (pv 0) pe_int (fun _ _ => rfl)) ⟨rfl, rfl, rfl, rfl⟩) pa_nil)))))) pss_nil)
  (pss_cons (ps_if (pt_cmpR op_eq (pv 2) pe_str (nomark _)) (pss_one (ps_ret (pe_op op_catA (pe_tup (pa_cons (pv 2) pa_nil)) (pe_cal C_renamed_names (hr.mono (by omega)) rfl (pa_cons (pe_slice sl_tupA (pv 0) (po_some pe_int) po_none) (pa_cons (pv 1) pa_nil)))))) pss_nil)
  (pss_cons (ps_if (pt_cmpR op_eq (pv 2) pe_str (nomark _)) (pss_one (ps_ret (pe_tup (pa_cons (pv 2) (pa_cons (pe_cal C_renamed_names (hr.mono (by omega)) rfl (pa_cons (pe_ix ix_tup (pv 0) pe_int (fun _ _ => rfl)) (pa_cons (pv 1) pa_nil))) (pa_cons (pe_cal C_renamed_names (hr.mono (by omega)) rfl (pa_cons (pe_ix ix_tup (pv 0) pe_int (fun _ _ => rfl)) (pa_cons (pv 1) pa_nil))) pa_nil)))))) pss_nil)
  (pss_one (ps_ret (pe_op op_catA (pe_tup (pa_cons (pv 2) (pa_cons (pe_cal C_renamed_names (hr.mono (by omega)) rfl (pa_cons (pe_ix ix_tup (pv 0) pe_int (fun _ _ => rfl)) (pa_cons (pv 1) pa_nil))) pa_nil))) (pe_slice sl_tupA (pv 0) (po_some pe_int) po_none))))))))))))
theorem ok_renamed_saying_all {P : Program} {w : World} {K : PySem.W.Frag} {mg : Str → Option Value} {base : Heap} {f : Addr} {fd : FuncData} (F : Fun K "renamed_saying" "renamed_saying" s_renamed_saying f fd) (gf : mg "renamed_saying" = some (.ref f)) (C_renamed_claim : Cal P w K mg base "renamed_claim" 5 ["claim", "new"] (sp_renamed_claim K 4)) (C_renamed_names : Cal P w K mg base "renamed_names" 1 ["names", "new"] (sp_renamed_names K)) (m_tuple : mg "tuple" = none)  : ∀ m, Cal P w K mg base "renamed_saying" (6 + m) ["saying", "new"] (sp_renamed_saying K m)
  | 0 => ⟨f, fd, F.ok (k := 5) sc_renamed_saying len_renamed_saying (fun cdv A outer s H vs Q E hr h => (no_renamed_saying h).elim), F.kp, F.binds (fun _ _ _ _ _ _ us hl => match us, hl with | [_, _], _ => rfl), gf⟩
  | m + 1 => ok_renamed_saying_step m F gf C_renamed_claim C_renamed_names m_tuple (ok_renamed_saying_all F gf C_renamed_claim C_renamed_names m_tuple m)
theorem ok_renamed_saying {P : Program} {w : World} {K : PySem.W.Frag} {mg : Str → Option Value} {base : Heap} {f : Addr} {fd : FuncData} (F : Fun K "renamed_saying" "renamed_saying" s_renamed_saying f fd) (gf : mg "renamed_saying" = some (.ref f)) (C_renamed_claim : Cal P w K mg base "renamed_claim" 5 ["claim", "new"] (sp_renamed_claim K 4)) (C_renamed_names : Cal P w K mg base "renamed_names" 1 ["names", "new"] (sp_renamed_names K)) (m_tuple : mg "tuple" = none)  : Cal P w K mg base "renamed_saying" 8 ["saying", "new"] (sp_renamed_saying K 2) := ok_renamed_saying_all F gf C_renamed_claim C_renamed_names m_tuple 2
abbrev s_renamed_items : Stmt := topS 14
abbrev n_renamed_items : List Str := ["items", "new", "item"]
theorem sc_renamed_items : FnScope n_renamed_items ["items", "new"] (defScope s_renamed_items) := ⟨rfl, rfl, rfl, by decide +kernel, rfl, by decide +kernel, by decide +kernel⟩
theorem ok_renamed_items {P : Program} {w : World} {K : PySem.W.Frag} {mg : Str → Option Value} {base : Heap} {f : Addr} {fd : FuncData} (F : Fun K "renamed_items" "renamed_items" s_renamed_items f fd) (gf : mg "renamed_items" = some (.ref f)) (C_renamed_saying : Cal P w K mg base "renamed_saying" 8 ["saying", "new"] (sp_renamed_saying K 2))  (m_tuple : mg "tuple" = none)  : Cal P w K mg base "renamed_items" 9 ["items", "new"] (sp_renamed_items K) := by
  refine ⟨f, fd, F.ok sc_renamed_items len_renamed_items (fun cdv A outer s H vs Q E hr h => ⟨t_renamed_items K, PSs.nox ?_, pure_renamed_items vs H Q E h⟩), F.kp, F.binds (fun _ _ _ _ _ _ us hl => match us, hl with | [_, _], _ => rfl), gf⟩
  exact (pss_one (ps_ret (pe_tupleOf (by rfl) m_tuple (pe_lc (own := [("item", 2)]) rfl sc_renamed_items.nd (pi_tup (pv 0)) (blkOk_by (own := [("item", 2)]) (N := n_renamed_items) (sc := defScope s_renamed_items) (by decide +kernel)) (fun _ _ _ _ _ => (pg_name (i := 2) sc_renamed_items.nd rfl (by first | exact .inl rfl | exact .inr rfl))) (fun _ _ _ _ _ => pts_nil) (fun _ _ _ _ _ => (pe_op op_catA (pe_tup (pa_cons (pe_dget2 (hu_of hr) (pv 1) (pe_ix ix_tup (pv 2) pe_int (fun _ _ => rfl)) (pe_ix ix_tup (pv 2) pe_int (fun _ _ => rfl)) ⟨rfl, rfl, rfl, rfl⟩) (pa_cons (pe_cal C_renamed_saying (hr.mono (by decide)) rfl (pa_cons (pe_ix ix_tup (pv 2) pe_int (fun _ _ => rfl)) (pa_cons (pv 1) pa_nil))) pa_nil))) (pe_slice sl_tupA (pv 2) (po_some pe_int) po_none)))))))
abbrev s_renamed_unknowns : Stmt := topS 15
abbrev n_renamed_unknowns : List Str := ["unknowns", "new", "x", "domain"]
theorem sc_renamed_unknowns : FnScope n_renamed_unknowns ["unknowns", "new"] (defScope s_renamed_unknowns) := ⟨rfl, rfl, rfl, by decide +kernel, rfl, by decide +kernel, by decide +kernel⟩
theorem ok_renamed_unknowns {P : Program} {w : World} {K : PySem.W.Frag} {mg : Str → Option Value} {base : Heap} {f : Addr} {fd : FuncData} (F : Fun K "renamed_unknowns" "renamed_unknowns" s_renamed_unknowns f fd) (gf : mg "renamed_unknowns" = some (.ref f))   (m_tuple : mg "tuple" = none)  : Cal P w K mg base "renamed_unknowns" 1 ["unknowns", "new"] (sp_renamed_unknowns K) := by
  refine ⟨f, fd, F.ok sc_renamed_unknowns len_renamed_unknowns (fun cdv A outer s H vs Q E hr h => ⟨t_renamed_unknowns K, PSs.nox ?_, pure_renamed_unknowns vs H Q E h⟩), F.kp, F.binds (fun _ _ _ _ _ _ us hl => match us, hl with | [_, _], _ => rfl), gf⟩
  exact (pss_one (ps_ret (pe_tupleOf (by rfl) m_tuple (pe_lc (own := [("x", 2), ("domain", 3)]) rfl sc_renamed_unknowns.nd (pi_tup (pv 0)) (blkOk_by (own := [("x", 2), ("domain", 3)]) (N := n_renamed_unknowns) (sc := defScope s_renamed_unknowns) (by decide +kernel)) (fun _ _ _ _ _ => (pg_tup rfl (pgs_cons (pg_name (i := 2) sc_renamed_unknowns.nd rfl (by first | exact .inl rfl | exact .inr rfl)) (pgs_cons (pg_name (i := 3) sc_renamed_unknowns.nd rfl (by first | exact .inl rfl | exact .inr rfl)) pgs_nil)))) (fun _ _ _ _ _ => pts_nil) (fun _ _ _ _ _ => (pe_tup (pa_cons (pe_dget2 (hu_of hr) (pv 1) (pv 2) (pv 2) ⟨rfl, rfl, rfl, rfl⟩) (pa_cons (pv 3) pa_nil))))))))
abbrev s_with_beginning : Stmt := topS 16
abbrev n_with_beginning : List Str := ["model", "beginning", "items", "item"]
theorem sc_with_beginning : FnScope n_with_beginning ["model", "beginning"] (defScope s_with_beginning) := ⟨rfl, rfl, rfl, by decide +kernel, rfl, by decide +kernel, by decide +kernel⟩
theorem ok_with_beginning {P : Program} {w : World} {K : PySem.W.Frag} {mg : Str → Option Value} {base : Heap} {f : Addr} {fd : FuncData} (F : Fun K "with_beginning" "with_beginning" s_with_beginning f fd) (gf : mg "with_beginning" = some (.ref f))     : Cal P w K mg base "with_beginning" 1 ["model", "beginning"] (sp_with_beginning K) := by
  refine ⟨f, fd, F.ok sc_with_beginning len_with_beginning (fun cdv A outer s H vs Q E hr h => ⟨t_with_beginning K, PSs.nox ?_, pure_with_beginning vs H Q E h⟩), F.kp, F.binds (fun _ _ _ _ _ _ us hl => match us, hl with | [_, _], _ => rfl), gf⟩
  exact (pss_one (ps_ret (pe_dc2 (own := [("items", 2), ("item", 3)]) (vs1 := [3]) rfl sc_with_beginning.nd (pi_tup (pv 0)) (blkOk_by (own := [("items", 2), ("item", 3)]) (N := n_with_beginning) (sc := defScope s_with_beginning) (by decide +kernel)) (by decide) (fun _ _ _ _ _ => (pg_name (i := 2) sc_with_beginning.nd rfl (by first | exact .inl rfl | exact .inr rfl))) (fun _ _ _ _ _ => pts_nil) (fun _ _ _ _ _ => (pi_tup (pv 2))) (fun _ _ _ _ _ => (pg_name (i := 3) sc_with_beginning.nd rfl (by first | exact .inl rfl | exact .inr rfl))) (fun _ _ _ _ _ => pts_nil) (fun _ _ _ _ _ => (pe_ix ix_tup (pv 3) pe_int (fun _ _ => rfl))) (fun _ _ _ _ _ => (pe_op op_addS (pv 1) (pe_ix ix_tup (pv 3) pe_int (fun _ _ => rfl)))))))
abbrev s_joined_model : Stmt := topS 24
abbrev n_joined_model : List Str := ["one", "other", "view", "new_one", "new_other", "tables", "y", "domain", "xs", "rows", "names", "x", "unknowns", "soft", "item"]
theorem sc_joined_model : FnScope n_joined_model ["one", "other", "view"] (defScope s_joined_model) := ⟨rfl, rfl, rfl, by decide +kernel, rfl, by decide +kernel, by decide +kernel⟩
theorem ok_joined_model {P : Program} {w : World} {K : PySem.W.Frag} {mg : Str → Option Value} {base : Heap} {f : Addr} {fd : FuncData} (F : Fun K "joined_model" "joined_model" s_joined_model f fd) (gf : mg "joined_model" = some (.ref f)) (C_renamed_items : Cal P w K mg base "renamed_items" 9 ["items", "new"] (sp_renamed_items K)) (C_renamed_unknowns : Cal P w K mg base "renamed_unknowns" 1 ["unknowns", "new"] (sp_renamed_unknowns K)) (C_with_beginning : Cal P w K mg base "with_beginning" 1 ["model", "beginning"] (sp_with_beginning K))  (m_tuple : mg "tuple" = none) (m_zip : mg "zip" = none)  : Cal P w K mg base "joined_model" 10 ["one", "other", "view"] (sp_joined_model K) := by
  refine ⟨f, fd, F.ok sc_joined_model len_joined_model (fun cdv A outer s H vs Q E hr h => ⟨t_joined_model K, PSs.nox ?_, pure_joined_model vs H Q E h⟩), F.kp, F.binds (fun _ _ _ _ _ _ us hl => match us, hl with | [_, _, _], _ => rfl), gf⟩
  exact (pss_cons (ps_asg (pe_tup (pa_cons (pe_cal C_with_beginning (hr.mono (by decide)) rfl (pa_cons (pv 0) (pa_cons pe_str pa_nil))) (pa_cons (pe_cal C_with_beginning (hr.mono (by decide)) rfl (pa_cons (pv 1) (pa_cons pe_str pa_nil))) pa_nil))) (pg_tup rfl (pgs_cons (pg_name (i := 3) sc_joined_model.nd rfl (by first | exact .inl rfl | exact .inr rfl)) (pgs_cons (pg_name (i := 4) sc_joined_model.nd rfl (by first | exact .inl rfl | exact .inr rfl)) pgs_nil))))
  (pss_cons (ps_set (i := 5) sc_joined_model.nd rfl (by first | exact .inl rfl | exact .inr rfl) (pe_lst pa_nil))
  (pss_cons (ps_for PassesOwn.never rfl (pi_zipA (by rfl) m_zip (pa_cons (pe_ix ix_tup (pv 1) pe_int (fun _ _ => rfl)) (pa_cons (pv 2) pa_nil))) (pg_tup rfl (pgs_cons (pg_tup rfl (pgs_cons (pg_name (i := 6) sc_joined_model.nd rfl (by first | exact .inl rfl | exact .inr rfl)) (pgs_cons (pg_name (i := 7) sc_joined_model.nd rfl (by first | exact .inl rfl | exact .inr rfl)) pgs_nil))) (pgs_cons (pg_tup rfl (pgs_cons (pg_name (i := 8) sc_joined_model.nd rfl (by first | exact .inl rfl | exact .inr rfl)) (pgs_cons (pg_name (i := 9) sc_joined_model.nd rfl (by first | exact .inl rfl | exact .inr rfl)) pgs_nil))) pgs_nil)))
  (pss_cons (ps_set (i := 10) sc_joined_model.nd rfl (by first | exact .inl rfl | exact .inr rfl) (pe_op op_catA (pe_tupleOf (by rfl) m_tuple (pe_lc (own := [("x", 11)]) rfl sc_joined_model.nd (pi_tup (pv 8)) (blkOk_by (own := [("x", 11)]) (N := n_joined_model) (sc := defScope s_joined_model) (by decide +kernel)) (fun _ _ _ _ _ => (pg_name (i := 11) sc_joined_model.nd rfl (by first | exact .inl rfl | exact .inr rfl))) (fun _ _ _ _ _ => pts_nil) (fun _ _ _ _ _ => (pe_dget (hu_of hr) (pv 3) (pv 11) (fun _ _ => rfl))))) (pe_tup (pa_cons (pe_dget (hu_of hr) (pv 4) (pv 6) (fun _ _ => rfl)) pa_nil))))
  (pss_one (ps_expr (pe_bm PySem.F.plainAttrs_list PySem.F.slot_list_append PySem.F.type_list_append mt_append (pv 5) (pa_cons (pe_tup (pa_cons (pe_op op_addS pe_str (pv 6)) (pa_cons (pe_tup (pa_cons pe_str (pa_cons (pv 10) (pa_cons (pv 9) pa_nil)))) pa_nil))) pa_nil))))))
  (pss_cons (ps_set (i := 12) sc_joined_model.nd rfl (by first | exact .inl rfl | exact .inr rfl) (pe_op op_catA (pe_cal C_renamed_unknowns (hr.mono (by decide)) rfl (pa_cons (pe_ix ix_tup (pv 0) pe_int (fun _ _ => rfl)) (pa_cons (pv 3) pa_nil))) (pe_cal C_renamed_unknowns (hr.mono (by decide)) rfl (pa_cons (pe_ix ix_tup (pv 1) pe_int (fun _ _ => rfl)) (pa_cons (pv 4) pa_nil)))))
  (pss_cons (ps_set (i := 13) sc_joined_model.nd rfl (by first | exact .inl rfl | exact .inr rfl) (pe_tupleOf (by rfl) m_tuple (pe_lc (own := [("item", 14)]) rfl sc_joined_model.nd (pi_tup (pe_cal C_renamed_items (hr.mono (by decide)) rfl (pa_cons (pe_ix ix_tup (pv 1) pe_int (fun _ _ => rfl)) (pa_cons (pv 4) pa_nil)))) (blkOk_by (own := [("item", 14)]) (N := n_joined_model) (sc := defScope s_joined_model) (by decide +kernel)) (fun _ _ _ _ _ => (pg_name (i := 14) sc_joined_model.nd rfl (by first | exact .inl rfl | exact .inr rfl))) (fun _ _ _ _ _ => pts_nil) (fun _ _ _ _ _ => (pe_op op_catA (pv 14) (pe_tup (pa_cons pe_int pa_nil)))))))
  (pss_one (ps_ret (pe_tup (pa_cons (pv 12) (pa_cons (pe_op op_catA (pe_cal C_renamed_items (hr.mono (by decide)) rfl (pa_cons (pe_ix ix_tup (pv 0) pe_int (fun _ _ => rfl)) (pa_cons (pv 3) pa_nil))) (pe_tupleOf (by rfl) m_tuple (pv 5))) (pa_cons (pv 13) pa_nil)))))))))))
abbrev s_view_model : Stmt := topS 27
abbrev n_view_model : List Str := ["one", "other", "view"]
theorem sc_view_model : FnScope n_view_model ["one", "other", "view"] (defScope s_view_model) := ⟨rfl, rfl, rfl, by decide +kernel, rfl, by decide +kernel, by decide +kernel⟩
theorem ok_view_model {P : Program} {w : World} {K : PySem.W.Frag} {mg : Str → Option Value} {base : Heap} {f : Addr} {fd : FuncData} (F : Fun K "view_model" "view_model" s_view_model f fd) (gf : mg "view_model" = some (.ref f)) (C_joined_model : Cal P w K mg base "joined_model" 10 ["one", "other", "view"] (sp_joined_model K))    : Cal P w K mg base "view_model" 11 ["one", "other", "view"] (sp_view_model K) := by
  refine ⟨f, fd, F.ok sc_view_model len_view_model (fun cdv A outer s H vs Q E hr h => ⟨t_view_model K, PSs.nox ?_, pure_view_model vs H Q E h⟩), F.kp, F.binds (fun _ _ _ _ _ _ us hl => match us, hl with | [_, _, _], _ => rfl), gf⟩
  exact (pss_one (ps_ret (pe_cal C_joined_model (hr.mono (by decide)) rfl (pa_cons (pv 0) (pa_cons (pv 1) (pa_cons (pv 2) pa_nil))))))
theorem okN_view_model {P : Program} {w : World} {K : PySem.W.Frag} {mg : Str → Option Value} {base : Heap} {f : Addr} {fd : FuncData} (F : Fun K "view_model" "view_model" s_view_model f fd) (gf : mg "view_model" = some (.ref f)) (C_joined_model : Cal P w K mg base "joined_model" 10 ["one", "other", "view"] (sp_joined_model K))    : FnOk P w K mg base CX0 11 f fd ["one", "other", "view"] (sp_view_model K) := by
  refine F.ok sc_view_model len_view_model (fun cdv A outer s H vs Q E hr h => ⟨t_view_model K, PSs.nox ?_, pure_view_model vs H Q E h⟩)
  exact (pss_one (ps_ret (pe_cal C_joined_model (hr.mono (by decide)) rfl (pa_cons (pv 0) (pa_cons (pv 1) (pa_cons (pv 2) pa_nil))))))
abbrev s_law : Stmt := topS 52
abbrev n_law : List Str := ["script", "tape", "way", "one", "other", "unknowns", "pair", "view", "due"]
theorem sc_law : FnScope n_law ["script"] (defScope s_law) := ⟨rfl, rfl, rfl, by decide +kernel, rfl, by decide +kernel, by decide +kernel⟩
theorem ok_law {P : Program} {w : World} {K : PySem.W.Frag} {mg : Str → Option Value} {base : Heap} {f : Addr} {fd : FuncData} (F : Fun K "law" "law" s_law f fd) (gf : mg "law" = some (.ref f)) (C__law_domain : Cal P w K mg base "_law_domain" 3 ["tape", "most"] (sp__law_domain K)) (C__law_draw : Cal P w K mg base "_law_draw" 2 ["tape", "many"] (sp__law_draw K)) (C__law_drawn : Cal P w K mg base "_law_drawn" 11 ["tape", "most", "unknowns"] (sp__law_drawn K)) (C__law_large : Cal P w K mg base "_law_large" 11 ["tape", "letter"] (sp__law_large K)) (C__law_same : Cal P w K mg base "_law_same" 17 ["actual", "due"] (sp__law_same K 16)) (C__law_some : Cal P w K mg base "_law_some" 3 ["tape", "unknowns", "least", "most"] (sp__law_some K)) (C__law_tape : Cal P w K mg base "_law_tape" 1 ["script"] (sp__law_tape K)) (C__law_unknowns : Cal P w K mg base "_law_unknowns" 4 ["tape", "least", "most", "wide"] (sp__law_unknowns K)) (C__law_view : Cal P w K mg base "_law_view" 4 ["tape", "one", "other"] (sp__law_view K)) (C__law_view_model : Cal P w K mg base "_law_view_model" 9 ["one", "other", "view"] (sp__law_view_model K)) (C_check_view : Cal P w K mg base "check_view" 5 ["one", "other", "value"] (sp_check_view K)) (C_view_model : Cal P w K mg base "view_model" 11 ["one", "other", "view"] (sp_view_model K)) (CK_view_model : CalK P w K mg base "view_model" 11 ["one", "other", "view"] ["view", "other", "one"] gR (sp_view_model K)) (m_tuple : mg "tuple" = none)  : FnOk P w K mg base CX0 18 f fd ["script"] (sp_law K) := by
  refine F.ok sc_law len_law (fun cdv A outer s H vs Q E hr h => ⟨t_law K, PSs.nox ?_, pure_law vs H Q E h⟩)
  exact (pss_cons (ps_set (i := 1) sc_law.nd rfl (by first | exact .inl rfl | exact .inr rfl) (pe_cal C__law_tape (hr.mono (by decide)) rfl (pa_cons (pv 0) pa_nil)))
  (pss_cons (ps_set (i := 2) sc_law.nd rfl (by first | exact .inl rfl | exact .inr rfl) (pe_cal C__law_draw (hr.mono (by decide)) rfl (pa_cons (pv 1) (pa_cons pe_int pa_nil))))
  (pss_cons (ps_if (pt_cmpR op_eq (pv 2) pe_int (nomark _)) (pss_one (ps_par (i := 3) (j := 4) (by rfl) sc_law.nd rfl rfl (by decide) rfl rfl (pa_cons (pe_cal C__law_large (hr.mono (by decide)) rfl (pa_cons (pv 1) (pa_cons pe_str pa_nil))) (pa_cons (pe_cal C__law_large (hr.mono (by decide)) rfl (pa_cons (pv 1) (pa_cons pe_str pa_nil))) pa_nil)) (by rfl))) (pss_cons (ps_set (i := 3) sc_law.nd rfl (by first | exact .inl rfl | exact .inr rfl) (pe_cal C__law_drawn (hr.mono (by decide)) rfl (pa_cons (pv 1) (pa_cons pe_int (pa_cons (pe_cal C__law_unknowns (hr.mono (by decide)) rfl (pa_cons (pv 1) (pa_cons pe_int (pa_cons pe_int (pa_cons pe_int pa_nil))))) pa_nil)))))
  (pss_cons (ps_set (i := 5) sc_law.nd rfl (by first | exact .inl rfl | exact .inr rfl) (pe_cal C__law_unknowns (hr.mono (by decide)) rfl (pa_cons (pv 1) (pa_cons pe_int (pa_cons pe_int (pa_cons pe_int pa_nil))))))
  (pss_cons (ps_if (pt_cmpR op_eq (pv 2) pe_int (nomark _)) (pss_one (ps_set (i := 5) sc_law.nd rfl (by first | exact .inl rfl | exact .inr rfl) (pe_tupleOf (by rfl) m_tuple (pe_lc (own := [("pair", 6)]) rfl sc_law.nd (pi_list (pe_cal C__law_some (hr.mono (by decide)) rfl (pa_cons (pv 1) (pa_cons (pe_ix ix_tup (pv 3) pe_int (fun _ _ => rfl)) (pa_cons pe_int (pa_cons pe_int pa_nil)))))) (blkOk_by (own := [("pair", 6)]) (N := n_law) (sc := defScope s_law) (by decide +kernel)) (fun _ _ _ _ _ => (pg_name (i := 6) sc_law.nd rfl (by first | exact .inl rfl | exact .inr rfl))) (fun _ _ _ _ _ => pts_nil) (fun _ _ _ _ _ => (pe_tup (pa_cons (pe_ix ix_tup (pv 6) pe_int (fun _ _ => rfl)) (pa_cons (pe_cal C__law_domain (hr.mono (by decide)) rfl (pa_cons (pv 1) (pa_cons pe_int pa_nil))) pa_nil)))))))) pss_nil)
  (pss_one (ps_set (i := 4) sc_law.nd rfl (by first | exact .inl rfl | exact .inr rfl) (pe_ifExp (pt_cmpR op_eq (pv 2) pe_int (nomark _)) (pv 3) (pe_cal C__law_drawn (hr.mono (by decide)) rfl (pa_cons (pv 1) (pa_cons pe_int (pa_cons (pv 5) pa_nil)))))))))))
  (pss_cons (ps_set (i := 7) sc_law.nd rfl (by first | exact .inl rfl | exact .inr rfl) (pe_cal C__law_view (hr.mono (by decide)) rfl (pa_cons (pv 1) (pa_cons (pv 3) (pa_cons (pv 4) pa_nil)))))
  (pss_cons (ps_set (i := 8) sc_law.nd rfl (by first | exact .inl rfl | exact .inr rfl) (pe_cal C__law_view_model (hr.mono (by decide)) rfl (pa_cons (pv 3) (pa_cons (pv 4) (pa_cons (pv 7) pa_nil)))))
  (pss_cons (ps_if (PW.pt (pw_or (pt_cmpR op_notN1 (pe_cal C_check_view (hr.mono (by decide)) rfl (pa_cons (pv 3) (pa_cons (pv 4) (pa_cons (pv 7) pa_nil)))) pe_non (nomark _)) (pw_or1 (pt_not (pt_val (pe_cal C__law_same (hr.mono (by decide)) rfl (pa_cons (pe_cal C_view_model (hr.mono (by decide)) rfl (pa_cons (pv 3) (pa_cons (pv 4) (pa_cons (pv 7) pa_nil)))) (pa_cons (pv 8) pa_nil)))))))) (pss_one (ps_ret pe_bl)) pss_nil)
  (pss_one (ps_ret (pe_cal C__law_same (hr.mono (by decide)) rfl (pa_cons (pe_calK CK_view_model (hr.mono (by decide)) rfl (pk_cons (pv 7) (pk_cons (pv 4) (pk_cons (pv 3) pk_nil)))) (pa_cons (pv 8) pa_nil)))))))))))
theorem FunD.plain {K : PySem.W.Frag} {x qual : Str} {st : Stmt} {f : Addr} {fd : FuncData} (F : FunD K x qual (defArgs st) (defBody st) (defScope st) [] [] f fd) : Fun K x qual st f fd := by
  obtain ⟨⟨oc, od, dV, kV, doc, pm, an, cdv, ct, osl, rfl, lk, hcd, hD, _⟩, kp⟩ := F
  rcases hD with ⟨_, rfl⟩ | ⟨e, _⟩
  · exact ⟨⟨oc, od, kV, doc, pm, an, cdv, ct, osl, rfl, lk, hcd⟩, kp⟩
  · exact absurd rfl e
theorem vals_rev {vs : List V} {us : List Value} (r : Vals vs us) : Vals vs.reverse us.reverse := by
  induction r with
  | nil => exact .nil
  | cons a t ih =>
    rw [List.reverse_cons, List.reverse_cons]
    exact ih.append (.cons a .nil)
theorem Fun.kbR {K : PySem.W.Frag} {x qual : Str} {st : Stmt} {f : Addr} {fd : FuncData} {ps ks : List Str} (F : Fun K x qual st f fd) (h0 : 0 < ps.length)
    (h : ∀ (kV doc pm : Value) (an : Option Addr) (cdv ct : Value) (us : List Value), us.length = ps.length → bindArgs (PySem.W.fnOf x qual (defArgs st) (defBody st) (defScope st) .none kV doc pm an cdv ct) ⟨[], ks.zip us⟩ = pure (ps.zip us.reverse)) : KBinds K fd ps ks gR gR := by
  obtain ⟨oc, od, kV, doc, pm, an, cdv, ct, osl, rfl, lk, hcd⟩ := F.ex
  refine ⟨fun s us ws _ hl => ?_, fun {vs us zs ws} r rz => ?_⟩
  · cases us with
    | nil => exact .of_eq (h kV doc pm an cdv ct ws (by have : ws.reverse.length = ps.length := hl; rw [List.length_reverse] at this; exact this))
    | cons a r =>
      have : (0 : Nat) = ps.length := hl
      omega
  · cases r with
    | nil =>
      show Vals zs.reverse ws.reverse
      exact vals_rev rz
    | cons _ _ => exact .nil

end AW
namespace AW
open PySem PySem.Spec PyProof.Rows L2 RZ
open StX
theorem facts7 {P : Program} {w : World} {K : PySem.W.Frag} {h : Heap} {mg : Str → Option Value} {fa : Addr} (X : K.In h) (G : h.Ns mainGlobals mg) (hfa : mg "law" = some (.ref fa))
    {f0 : Addr} {od0 an0 : Option Addr} {sl0 : Array (Option Value)} {oc0 kV0 dc0 pm0 cd0 ct0 : Value} (a0 : PySem.W.nsIn K mainGlobals "_law_mixed" = some (some (.ref f0))) (l0 : K.lookup f0 = some ⟨oc0, od0, .func (PySem.W.fnOf "_law_mixed" "_law_mixed" (defArgs (topS 29)) (defBody (topS 29)) (defScope (topS 29)) .none kV0 dc0 pm0 an0 cd0 ct0), sl0⟩) (c0 : PySem.W.codeIn K cd0 "_law_mixed" = true) (k0 : PySem.W.keepIn K (.ref f0) = true)
    {f1 : Addr} {od1 an1 : Option Addr} {sl1 : Array (Option Value)} {oc1 kV1 dc1 pm1 cd1 ct1 : Value} (a1 : PySem.W.nsIn K mainGlobals "_law_draw" = some (some (.ref f1))) (l1 : K.lookup f1 = some ⟨oc1, od1, .func (PySem.W.fnOf "_law_draw" "_law_draw" (defArgs (topS 31)) (defBody (topS 31)) (defScope (topS 31)) .none kV1 dc1 pm1 an1 cd1 ct1), sl1⟩) (c1 : PySem.W.codeIn K cd1 "_law_draw" = true) (k1 : PySem.W.keepIn K (.ref f1) = true)
    {f2 : Addr} {od2 an2 : Option Addr} {sl2 : Array (Option Value)} {oc2 kV2 dc2 pm2 cd2 ct2 : Value} (a2 : PySem.W.nsIn K mainGlobals "_law_domain" = some (some (.ref f2))) (l2 : K.lookup f2 = some ⟨oc2, od2, .func (PySem.W.fnOf "_law_domain" "_law_domain" (defArgs (topS 34)) (defBody (topS 34)) (defScope (topS 34)) .none kV2 dc2 pm2 an2 cd2 ct2), sl2⟩) (c2 : PySem.W.codeIn K cd2 "_law_domain" = true) (k2 : PySem.W.keepIn K (.ref f2) = true)
    {f3 : Addr} {od3 an3 : Option Addr} {sl3 : Array (Option Value)} {oc3 kV3 dc3 pm3 cd3 ct3 : Value} (a3 : PySem.W.nsIn K mainGlobals "_law_claim" = some (some (.ref f3))) (l3 : K.lookup f3 = some ⟨oc3, od3, .func (PySem.W.fnOf "_law_claim" "_law_claim" (defArgs (topS 36)) (defBody (topS 36)) (defScope (topS 36)) .none kV3 dc3 pm3 an3 cd3 ct3), sl3⟩) (c3 : PySem.W.codeIn K cd3 "_law_claim" = true) (k3 : PySem.W.keepIn K (.ref f3) = true)
    {f4 : Addr} {od4 an4 : Option Addr} {sl4 : Array (Option Value)} {oc4 kV4 dc4 pm4 cd4 ct4 : Value} (a4 : PySem.W.nsIn K mainGlobals "_law_some" = some (some (.ref f4))) (l4 : K.lookup f4 = some ⟨oc4, od4, .func (PySem.W.fnOf "_law_some" "_law_some" (defArgs (topS 37)) (defBody (topS 37)) (defScope (topS 37)) .none kV4 dc4 pm4 an4 cd4 ct4), sl4⟩) (c4 : PySem.W.codeIn K cd4 "_law_some" = true) (k4 : PySem.W.keepIn K (.ref f4) = true)
    {f5 : Addr} {od5 an5 : Option Addr} {sl5 : Array (Option Value)} {oc5 kV5 dc5 pm5 cd5 ct5 : Value} (a5 : PySem.W.nsIn K mainGlobals "_law_values" = some (some (.ref f5))) (l5 : K.lookup f5 = some ⟨oc5, od5, .func (PySem.W.fnOf "_law_values" "_law_values" (defArgs (topS 39)) (defBody (topS 39)) (defScope (topS 39)) .none kV5 dc5 pm5 an5 cd5 ct5), sl5⟩) (c5 : PySem.W.codeIn K cd5 "_law_values" = true) (k5 : PySem.W.keepIn K (.ref f5) = true)
    {f6 : Addr} {od6 an6 : Option Addr} {sl6 : Array (Option Value)} {oc6 kV6 dc6 pm6 cd6 ct6 : Value} (a6 : PySem.W.nsIn K mainGlobals "_law_counted" = some (some (.ref f6))) (l6 : K.lookup f6 = some ⟨oc6, od6, .func (PySem.W.fnOf "_law_counted" "_law_counted" (defArgs (topS 42)) (defBody (topS 42)) (defScope (topS 42)) .none kV6 dc6 pm6 an6 cd6 ct6), sl6⟩) (c6 : PySem.W.codeIn K cd6 "_law_counted" = true) (k6 : PySem.W.keepIn K (.ref f6) = true)
    {f7 : Addr} {od7 an7 : Option Addr} {sl7 : Array (Option Value)} {oc7 kV7 dc7 pm7 cd7 ct7 : Value} (a7 : PySem.W.nsIn K mainGlobals "_law_machine" = some (some (.ref f7))) (l7 : K.lookup f7 = some ⟨oc7, od7, .func (PySem.W.fnOf "_law_machine" "_law_machine" (defArgs (topS 40)) (defBody (topS 40)) (defScope (topS 40)) .none kV7 dc7 pm7 an7 cd7 ct7), sl7⟩) (c7 : PySem.W.codeIn K cd7 "_law_machine" = true) (k7 : PySem.W.keepIn K (.ref f7) = true)
    {f8 : Addr} {od8 an8 : Option Addr} {sl8 : Array (Option Value)} {oc8 kV8 dc8 pm8 cd8 ct8 : Value} (a8 : PySem.W.nsIn K mainGlobals "_law_rows_of" = some (some (.ref f8))) (l8 : K.lookup f8 = some ⟨oc8, od8, .func (PySem.W.fnOf "_law_rows_of" "_law_rows_of" (defArgs (topS 38)) (defBody (topS 38)) (defScope (topS 38)) .none kV8 dc8 pm8 an8 cd8 ct8), sl8⟩) (c8 : PySem.W.codeIn K cd8 "_law_rows_of" = true) (k8 : PySem.W.keepIn K (.ref f8) = true)
    {f9 : Addr} {od9 an9 : Option Addr} {sl9 : Array (Option Value)} {oc9 kV9 dc9 pm9 cd9 ct9 : Value} (a9 : PySem.W.nsIn K mainGlobals "_law_sum_of" = some (some (.ref f9))) (l9 : K.lookup f9 = some ⟨oc9, od9, .func (PySem.W.fnOf "_law_sum_of" "_law_sum_of" (defArgs (topS 41)) (defBody (topS 41)) (defScope (topS 41)) .none kV9 dc9 pm9 an9 cd9 ct9), sl9⟩) (c9 : PySem.W.codeIn K cd9 "_law_sum_of" = true) (k9 : PySem.W.keepIn K (.ref f9) = true)
    {f10 : Addr} {od10 an10 : Option Addr} {sl10 : Array (Option Value)} {oc10 kV10 dc10 pm10 cd10 ct10 : Value} (a10 : PySem.W.nsIn K mainGlobals "_law_saying" = some (some (.ref f10))) (l10 : K.lookup f10 = some ⟨oc10, od10, .func (PySem.W.fnOf "_law_saying" "_law_saying" (defArgs (topS 43)) (defBody (topS 43)) (defScope (topS 43)) .none kV10 dc10 pm10 an10 cd10 ct10), sl10⟩) (c10 : PySem.W.codeIn K cd10 "_law_saying" = true) (k10 : PySem.W.keepIn K (.ref f10) = true)
    {f11 : Addr} {od11 an11 : Option Addr} {sl11 : Array (Option Value)} {oc11 kV11 dc11 pm11 cd11 ct11 : Value} (a11 : PySem.W.nsIn K mainGlobals "_law_drawn" = some (some (.ref f11))) (l11 : K.lookup f11 = some ⟨oc11, od11, .func (PySem.W.fnOf "_law_drawn" "_law_drawn" (defArgs (topS 50)) (defBody (topS 50)) (defScope (topS 50)) .none kV11 dc11 pm11 an11 cd11 ct11), sl11⟩) (c11 : PySem.W.codeIn K cd11 "_law_drawn" = true) (k11 : PySem.W.keepIn K (.ref f11) = true)
    {f12 : Addr} {od12 an12 : Option Addr} {sl12 : Array (Option Value)} {oc12 kV12 dc12 pm12 cd12 ct12 : Value} (a12 : PySem.W.nsIn K mainGlobals "_law_large" = some (some (.ref f12))) (l12 : K.lookup f12 = some ⟨oc12, od12, .func (PySem.W.fnOf "_law_large" "_law_large" (defArgs (topS 51)) (defBody (topS 51)) (defScope (topS 51)) .none kV12 dc12 pm12 an12 cd12 ct12), sl12⟩) (c12 : PySem.W.codeIn K cd12 "_law_large" = true) (k12 : PySem.W.keepIn K (.ref f12) = true)
    {f13 : Addr} {od13 an13 : Option Addr} {sl13 : Array (Option Value)} {oc13 kV13 dc13 pm13 cd13 ct13 : Value} (a13 : PySem.W.nsIn K mainGlobals "_law_same" = some (some (.ref f13))) (l13 : K.lookup f13 = some ⟨oc13, od13, .func (PySem.W.fnOf "_law_same" "_law_same" (defArgs (topS 32)) (defBody (topS 32)) (defScope (topS 32)) .none kV13 dc13 pm13 an13 cd13 ct13), sl13⟩) (c13 : PySem.W.codeIn K cd13 "_law_same" = true) (k13 : PySem.W.keepIn K (.ref f13) = true)
    {f14 : Addr} {od14 an14 : Option Addr} {sl14 : Array (Option Value)} {oc14 kV14 dc14 pm14 cd14 ct14 : Value} (a14 : PySem.W.nsIn K mainGlobals "_law_tape" = some (some (.ref f14))) (l14 : K.lookup f14 = some ⟨oc14, od14, .func (PySem.W.fnOf "_law_tape" "_law_tape" (defArgs (topS 30)) (defBody (topS 30)) (defScope (topS 30)) .none kV14 dc14 pm14 an14 cd14 ct14), sl14⟩) (c14 : PySem.W.codeIn K cd14 "_law_tape" = true) (k14 : PySem.W.keepIn K (.ref f14) = true)
    {f15 : Addr} {od15 an15 : Option Addr} {sl15 : Array (Option Value)} {oc15 kV15 dc15 pm15 cd15 ct15 : Value} (a15 : PySem.W.nsIn K mainGlobals "_law_names" = some (some (.ref f15))) (l15 : K.lookup f15 = some ⟨oc15, od15, .func (PySem.W.fnOf "_law_names" "_law_names" (defArgs (topS 33)) (defBody (topS 33)) (defScope (topS 33)) .none kV15 dc15 pm15 an15 cd15 ct15), sl15⟩) (c15 : PySem.W.codeIn K cd15 "_law_names" = true) (k15 : PySem.W.keepIn K (.ref f15) = true)
    {f16 : Addr} {od16 an16 : Option Addr} {sl16 : Array (Option Value)} {oc16 kV16 dc16 pm16 cd16 ct16 : Value} (a16 : PySem.W.nsIn K mainGlobals "_law_unknowns" = some (some (.ref f16))) (l16 : K.lookup f16 = some ⟨oc16, od16, .func (PySem.W.fnOf "_law_unknowns" "_law_unknowns" (defArgs (topS 35)) (defBody (topS 35)) (defScope (topS 35)) .none kV16 dc16 pm16 an16 cd16 ct16), sl16⟩) (c16 : PySem.W.codeIn K cd16 "_law_unknowns" = true) (k16 : PySem.W.keepIn K (.ref f16) = true)
    {f17 : Addr} {od17 an17 : Option Addr} {sl17 : Array (Option Value)} {oc17 kV17 dc17 pm17 cd17 ct17 : Value} (a17 : PySem.W.nsIn K mainGlobals "_law_all" = some (some (.ref f17))) (l17 : K.lookup f17 = some ⟨oc17, od17, .func (PySem.W.fnOf "_law_all" "_law_all" (defArgs (topS 44)) (defBody (topS 44)) (defScope (topS 44)) .none kV17 dc17 pm17 an17 cd17 ct17), sl17⟩) (c17 : PySem.W.codeIn K cd17 "_law_all" = true) (k17 : PySem.W.keepIn K (.ref f17) = true)
    {f18 : Addr} {od18 an18 : Option Addr} {sl18 : Array (Option Value)} {oc18 kV18 dc18 pm18 cd18 ct18 : Value} (a18 : PySem.W.nsIn K mainGlobals "_law_view" = some (some (.ref f18))) (l18 : K.lookup f18 = some ⟨oc18, od18, .func (PySem.W.fnOf "_law_view" "_law_view" (defArgs (topS 46)) (defBody (topS 46)) (defScope (topS 46)) .none kV18 dc18 pm18 an18 cd18 ct18), sl18⟩) (c18 : PySem.W.codeIn K cd18 "_law_view" = true) (k18 : PySem.W.keepIn K (.ref f18) = true)
    {f19 : Addr} {od19 an19 : Option Addr} {sl19 : Array (Option Value)} {oc19 kV19 dc19 pm19 cd19 ct19 : Value} (a19 : PySem.W.nsIn K mainGlobals "_law_renamed_claim" = some (some (.ref f19))) (l19 : K.lookup f19 = some ⟨oc19, od19, .func (PySem.W.fnOf "_law_renamed_claim" "_law_renamed_claim" (defArgs (topS 47)) (defBody (topS 47)) (defScope (topS 47)) .none kV19 dc19 pm19 an19 cd19 ct19), sl19⟩) (c19 : PySem.W.codeIn K cd19 "_law_renamed_claim" = true) (k19 : PySem.W.keepIn K (.ref f19) = true)
    {f20 : Addr} {od20 an20 : Option Addr} {sl20 : Array (Option Value)} {oc20 kV20 dc20 pm20 cd20 ct20 : Value} (a20 : PySem.W.nsIn K mainGlobals "_law_renamed" = some (some (.ref f20))) (l20 : K.lookup f20 = some ⟨oc20, od20, .func (PySem.W.fnOf "_law_renamed" "_law_renamed" (defArgs (topS 48)) (defBody (topS 48)) (defScope (topS 48)) .none kV20 dc20 pm20 an20 cd20 ct20), sl20⟩) (c20 : PySem.W.codeIn K cd20 "_law_renamed" = true) (k20 : PySem.W.keepIn K (.ref f20) = true)
    {f21 : Addr} {od21 an21 : Option Addr} {sl21 : Array (Option Value)} {oc21 kV21 dc21 pm21 cd21 ct21 : Value} (a21 : PySem.W.nsIn K mainGlobals "_law_view_model" = some (some (.ref f21))) (l21 : K.lookup f21 = some ⟨oc21, od21, .func (PySem.W.fnOf "_law_view_model" "_law_view_model" (defArgs (topS 49)) (defBody (topS 49)) (defScope (topS 49)) .none kV21 dc21 pm21 an21 cd21 ct21), sl21⟩) (c21 : PySem.W.codeIn K cd21 "_law_view_model" = true) (k21 : PySem.W.keepIn K (.ref f21) = true)
    {f22 : Addr} {od22 an22 : Option Addr} {sl22 : Array (Option Value)} {oc22 kV22 dc22 pm22 cd22 ct22 : Value} (a22 : PySem.W.nsIn K mainGlobals "is_tuple" = some (some (.ref f22))) (l22 : K.lookup f22 = some ⟨oc22, od22, .func (PySem.W.fnOf "is_tuple" "is_tuple" (defArgs (topS 1)) (defBody (topS 1)) (defScope (topS 1)) .none kV22 dc22 pm22 an22 cd22 ct22), sl22⟩) (c22 : PySem.W.codeIn K cd22 "is_tuple" = true) (k22 : PySem.W.keepIn K (.ref f22) = true)
    {f23 : Addr} {od23 an23 : Option Addr} {sl23 : Array (Option Value)} {oc23 kV23 dc23 pm23 cd23 ct23 : Value} (a23 : PySem.W.nsIn K mainGlobals "_is_row" = some (some (.ref f23))) (l23 : K.lookup f23 = some ⟨oc23, od23, .func (PySem.W.fnOf "_is_row" "_is_row" (defArgs (topS 22)) (defBody (topS 22)) (defScope (topS 22)) .none kV23 dc23 pm23 an23 cd23 ct23), sl23⟩) (c23 : PySem.W.codeIn K cd23 "_is_row" = true) (k23 : PySem.W.keepIn K (.ref f23) = true)
    {f24 : Addr} {od24 an24 : Option Addr} {sl24 : Array (Option Value)} {oc24 kV24 dc24 pm24 cd24 ct24 : Value} (a24 : PySem.W.nsIn K mainGlobals "_many_tuples" = some (some (.ref f24))) (l24 : K.lookup f24 = some ⟨oc24, od24, .func (PySem.W.fnOf "_many_tuples" "_many_tuples" (defArgs (topS 23)) (defBody (topS 23)) (defScope (topS 23)) .none kV24 dc24 pm24 an24 cd24 ct24), sl24⟩) (c24 : PySem.W.codeIn K cd24 "_many_tuples" = true) (k24 : PySem.W.keepIn K (.ref f24) = true)
    {f25 : Addr} {od25 an25 : Option Addr} {sl25 : Array (Option Value)} {oc25 kV25 dc25 pm25 cd25 ct25 : Value} (a25 : PySem.W.nsIn K mainGlobals "is_unknown" = some (some (.ref f25))) (l25 : K.lookup f25 = some ⟨oc25, od25, .func (PySem.W.fnOf "is_unknown" "is_unknown" (defArgs (topS 3)) (defBody (topS 3)) (defScope (topS 3)) .none kV25 dc25 pm25 an25 cd25 ct25), sl25⟩) (c25 : PySem.W.codeIn K cd25 "is_unknown" = true) (k25 : PySem.W.keepIn K (.ref f25) = true)
    {f26 : Addr} {od26 an26 : Option Addr} {sl26 : Array (Option Value)} {oc26 kV26 dc26 pm26 cd26 ct26 : Value} (a26 : PySem.W.nsIn K mainGlobals "are_unknowns" = some (some (.ref f26))) (l26 : K.lookup f26 = some ⟨oc26, od26, .func (PySem.W.fnOf "are_unknowns" "are_unknowns" (defArgs (topS 4)) (defBody (topS 4)) (defScope (topS 4)) .none kV26 dc26 pm26 an26 cd26 ct26), sl26⟩) (c26 : PySem.W.codeIn K cd26 "are_unknowns" = true) (k26 : PySem.W.keepIn K (.ref f26) = true)
    {f27 : Addr} {od27 an27 : Option Addr} {sl27 : Array (Option Value)} {oc27 kV27 dc27 pm27 cd27 ct27 : Value} (a27 : PySem.W.nsIn K mainGlobals "ascends" = some (some (.ref f27))) (l27 : K.lookup f27 = some ⟨oc27, od27, .func (PySem.W.fnOf "ascends" "ascends" (defArgs (topS 2)) (defBody (topS 2)) (defScope (topS 2)) .none kV27 dc27 pm27 an27 cd27 ct27), sl27⟩) (c27 : PySem.W.codeIn K cd27 "ascends" = true) (k27 : PySem.W.keepIn K (.ref f27) = true)
    {f28 : Addr} {od28 an28 : Option Addr} {sl28 : Array (Option Value)} {oc28 kV28 dc28 pm28 cd28 ct28 : Value} (a28 : PySem.W.nsIn K mainGlobals "_is_item" = some (some (.ref f28))) (l28 : K.lookup f28 = some ⟨oc28, od28, .func (PySem.W.fnOf "_is_item" "_is_item" (defArgs (topS 21)) (defBody (topS 21)) (defScope (topS 21)) .none kV28 dc28 pm28 an28 cd28 ct28), sl28⟩) (c28 : PySem.W.codeIn K cd28 "_is_item" = true) (k28 : PySem.W.keepIn K (.ref f28) = true)
    {f29 : Addr} {od29 an29 : Option Addr} {sl29 : Array (Option Value)} {oc29 kV29 dc29 pm29 cd29 ct29 : Value} (a29 : PySem.W.nsIn K mainGlobals "domains_of" = some (some (.ref f29))) (l29 : K.lookup f29 = some ⟨oc29, od29, .func (PySem.W.fnOf "domains_of" "domains_of" (defArgs (topS 9)) (defBody (topS 9)) (defScope (topS 9)) .none kV29 dc29 pm29 an29 cd29 ct29), sl29⟩) (c29 : PySem.W.codeIn K cd29 "domains_of" = true) (k29 : PySem.W.keepIn K (.ref f29) = true)
    {f30 : Addr} {od30 an30 : Option Addr} {sl30 : Array (Option Value)} {oc30 kV30 dc30 pm30 cd30 ct30 : Value} (a30 : PySem.W.nsIn K mainGlobals "check_items" = some (some (.ref f30))) (l30 : K.lookup f30 = some ⟨oc30, od30, .func (PySem.W.fnOf "check_items" "check_items" (defArgs (topS 20)) (defBody (topS 20)) (defScope (topS 20)) .none kV30 dc30 pm30 an30 cd30 ct30), sl30⟩) (c30 : PySem.W.codeIn K cd30 "check_items" = true) (k30 : PySem.W.keepIn K (.ref f30) = true)
    {f31 : Addr} {od31 an31 : Option Addr} {sl31 : Array (Option Value)} {oc31 kV31 dc31 pm31 cd31 ct31 : Value} (a31 : PySem.W.nsIn K mainGlobals "check_view" = some (some (.ref f31))) (l31 : K.lookup f31 = some ⟨oc31, od31, .func (PySem.W.fnOf "check_view" "check_view" (defArgs (topS 26)) (defBody (topS 26)) (defScope (topS 26)) .none kV31 dc31 pm31 an31 cd31 ct31), sl31⟩) (c31 : PySem.W.codeIn K cd31 "check_view" = true) (k31 : PySem.W.keepIn K (.ref f31) = true)
    {f32 : Addr} {od32 an32 : Option Addr} {sl32 : Array (Option Value)} {oc32 kV32 dc32 pm32 cd32 ct32 : Value} (a32 : PySem.W.nsIn K mainGlobals "renamed_claim" = some (some (.ref f32))) (l32 : K.lookup f32 = some ⟨oc32, od32, .func (PySem.W.fnOf "renamed_claim" "renamed_claim" (defArgs (topS 11)) (defBody (topS 11)) (defScope (topS 11)) .none kV32 dc32 pm32 an32 cd32 ct32), sl32⟩) (c32 : PySem.W.codeIn K cd32 "renamed_claim" = true) (k32 : PySem.W.keepIn K (.ref f32) = true)
    {f33 : Addr} {od33 an33 : Option Addr} {sl33 : Array (Option Value)} {oc33 kV33 dc33 pm33 cd33 ct33 : Value} (a33 : PySem.W.nsIn K mainGlobals "renamed_names" = some (some (.ref f33))) (l33 : K.lookup f33 = some ⟨oc33, od33, .func (PySem.W.fnOf "renamed_names" "renamed_names" (defArgs (topS 13)) (defBody (topS 13)) (defScope (topS 13)) .none kV33 dc33 pm33 an33 cd33 ct33), sl33⟩) (c33 : PySem.W.codeIn K cd33 "renamed_names" = true) (k33 : PySem.W.keepIn K (.ref f33) = true)
    {f34 : Addr} {od34 an34 : Option Addr} {sl34 : Array (Option Value)} {oc34 kV34 dc34 pm34 cd34 ct34 : Value} (a34 : PySem.W.nsIn K mainGlobals "renamed_saying" = some (some (.ref f34))) (l34 : K.lookup f34 = some ⟨oc34, od34, .func (PySem.W.fnOf "renamed_saying" "renamed_saying" (defArgs (topS 12)) (defBody (topS 12)) (defScope (topS 12)) .none kV34 dc34 pm34 an34 cd34 ct34), sl34⟩) (c34 : PySem.W.codeIn K cd34 "renamed_saying" = true) (k34 : PySem.W.keepIn K (.ref f34) = true)
    {f35 : Addr} {od35 an35 : Option Addr} {sl35 : Array (Option Value)} {oc35 kV35 dc35 pm35 cd35 ct35 : Value} (a35 : PySem.W.nsIn K mainGlobals "renamed_items" = some (some (.ref f35))) (l35 : K.lookup f35 = some ⟨oc35, od35, .func (PySem.W.fnOf "renamed_items" "renamed_items" (defArgs (topS 14)) (defBody (topS 14)) (defScope (topS 14)) .none kV35 dc35 pm35 an35 cd35 ct35), sl35⟩) (c35 : PySem.W.codeIn K cd35 "renamed_items" = true) (k35 : PySem.W.keepIn K (.ref f35) = true)
    {f36 : Addr} {od36 an36 : Option Addr} {sl36 : Array (Option Value)} {oc36 kV36 dc36 pm36 cd36 ct36 : Value} (a36 : PySem.W.nsIn K mainGlobals "renamed_unknowns" = some (some (.ref f36))) (l36 : K.lookup f36 = some ⟨oc36, od36, .func (PySem.W.fnOf "renamed_unknowns" "renamed_unknowns" (defArgs (topS 15)) (defBody (topS 15)) (defScope (topS 15)) .none kV36 dc36 pm36 an36 cd36 ct36), sl36⟩) (c36 : PySem.W.codeIn K cd36 "renamed_unknowns" = true) (k36 : PySem.W.keepIn K (.ref f36) = true)
    {f37 : Addr} {od37 an37 : Option Addr} {sl37 : Array (Option Value)} {oc37 kV37 dc37 pm37 cd37 ct37 : Value} (a37 : PySem.W.nsIn K mainGlobals "with_beginning" = some (some (.ref f37))) (l37 : K.lookup f37 = some ⟨oc37, od37, .func (PySem.W.fnOf "with_beginning" "with_beginning" (defArgs (topS 16)) (defBody (topS 16)) (defScope (topS 16)) .none kV37 dc37 pm37 an37 cd37 ct37), sl37⟩) (c37 : PySem.W.codeIn K cd37 "with_beginning" = true) (k37 : PySem.W.keepIn K (.ref f37) = true)
    {f38 : Addr} {od38 an38 : Option Addr} {sl38 : Array (Option Value)} {oc38 kV38 dc38 pm38 cd38 ct38 : Value} (a38 : PySem.W.nsIn K mainGlobals "joined_model" = some (some (.ref f38))) (l38 : K.lookup f38 = some ⟨oc38, od38, .func (PySem.W.fnOf "joined_model" "joined_model" (defArgs (topS 24)) (defBody (topS 24)) (defScope (topS 24)) .none kV38 dc38 pm38 an38 cd38 ct38), sl38⟩) (c38 : PySem.W.codeIn K cd38 "joined_model" = true) (k38 : PySem.W.keepIn K (.ref f38) = true)
    {f39 : Addr} {od39 an39 : Option Addr} {sl39 : Array (Option Value)} {oc39 kV39 dc39 pm39 cd39 ct39 : Value} (a39 : PySem.W.nsIn K mainGlobals "view_model" = some (some (.ref f39))) (l39 : K.lookup f39 = some ⟨oc39, od39, .func (PySem.W.fnOf "view_model" "view_model" (defArgs (topS 27)) (defBody (topS 27)) (defScope (topS 27)) .none kV39 dc39 pm39 an39 cd39 ct39), sl39⟩) (c39 : PySem.W.codeIn K cd39 "view_model" = true) (k39 : PySem.W.keepIn K (.ref f39) = true)
    {f40 : Addr} {od40 an40 : Option Addr} {sl40 : Array (Option Value)} {oc40 kV40 dc40 pm40 cd40 ct40 : Value} (a40 : PySem.W.nsIn K mainGlobals "law" = some (some (.ref f40))) (l40 : K.lookup f40 = some ⟨oc40, od40, .func (PySem.W.fnOf "law" "law" (defArgs (topS 52)) (defBody (topS 52)) (defScope (topS 52)) .none kV40 dc40 pm40 an40 cd40 ct40), sl40⟩) (c40 : PySem.W.codeIn K cd40 "law" = true) (k40 : PySem.W.keepIn K (.ref f40) = true)
    (z_all : PySem.W.nsIn K mainGlobals "all" = some none)
    (z_bool : PySem.W.nsIn K mainGlobals "bool" = some none)
    (z_dict : PySem.W.nsIn K mainGlobals "dict" = some none)
    (z_enumerate : PySem.W.nsIn K mainGlobals "enumerate" = some none)
    (z_int : PySem.W.nsIn K mainGlobals "int" = some none)
    (z_isinstance : PySem.W.nsIn K mainGlobals "isinstance" = some none)
    (z_len : PySem.W.nsIn K mainGlobals "len" = some none)
    (z_list : PySem.W.nsIn K mainGlobals "list" = some none)
    (z_max : PySem.W.nsIn K mainGlobals "max" = some none)
    (z_min : PySem.W.nsIn K mainGlobals "min" = some none)
    (z_range : PySem.W.nsIn K mainGlobals "range" = some none)
    (z_set : PySem.W.nsIn K mainGlobals "set" = some none)
    (z_sorted : PySem.W.nsIn K mainGlobals "sorted" = some none)
    (z_str : PySem.W.nsIn K mainGlobals "str" = some none)
    (z_sum : PySem.W.nsIn K mainGlobals "sum" = some none)
    (z_tuple : PySem.W.nsIn K mainGlobals "tuple" = some none)
    (z_type : PySem.W.nsIn K mainGlobals "type" = some none)
    (z_zip : PySem.W.nsIn K mainGlobals "zip" = some none)
    {tk_MOST_SEEN : Tok} (a_MOST_SEEN : PySem.W.nsIn K mainGlobals "MOST_SEEN" = some (some (.int 3 tk_MOST_SEEN)))
    {tk_MOST_VIEW_ROWS : Tok} (a_MOST_VIEW_ROWS : PySem.W.nsIn K mainGlobals "MOST_VIEW_ROWS" = some (some (.int 256 tk_MOST_VIEW_ROWS))) :
    ∃ fd : FuncData, (∀ (s : Shared) (v : Value), BindsTo s fd ⟨[v], []⟩ [("script", v)]) ∧ ∀ base : Heap, K.In base → base.Ns mainGlobals mg → FnOk P w K mg base CX0 18 fa fd ["script"] (sp_law K) := by
  have F__law_mixed := fun_mk (st := topS 29) l0 c0 k0
  have G__law_mixed := PySem.W.mg_of X G a0
  have F__law_draw := fun_mk (st := topS 31) l1 c1 k1
  have G__law_draw := PySem.W.mg_of X G a1
  have F__law_domain := fun_mk (st := topS 34) l2 c2 k2
  have G__law_domain := PySem.W.mg_of X G a2
  have F__law_claim := fun_mk (st := topS 36) l3 c3 k3
  have G__law_claim := PySem.W.mg_of X G a3
  have F__law_some := fun_mk (st := topS 37) l4 c4 k4
  have G__law_some := PySem.W.mg_of X G a4
  have F__law_values := fun_mk (st := topS 39) l5 c5 k5
  have G__law_values := PySem.W.mg_of X G a5
  have F__law_counted := fun_mk (st := topS 42) l6 c6 k6
  have G__law_counted := PySem.W.mg_of X G a6
  have F__law_machine := fun_mk (st := topS 40) l7 c7 k7
  have G__law_machine := PySem.W.mg_of X G a7
  have F__law_rows_of := fun_mk (st := topS 38) l8 c8 k8
  have G__law_rows_of := PySem.W.mg_of X G a8
  have F__law_sum_of := fun_mk (st := topS 41) l9 c9 k9
  have G__law_sum_of := PySem.W.mg_of X G a9
  have F__law_saying := fun_mk (st := topS 43) l10 c10 k10
  have G__law_saying := PySem.W.mg_of X G a10
  have F__law_drawn := fun_mk (st := topS 50) l11 c11 k11
  have G__law_drawn := PySem.W.mg_of X G a11
  have F__law_large := fun_mk (st := topS 51) l12 c12 k12
  have G__law_large := PySem.W.mg_of X G a12
  have F__law_same := fun_mk (st := topS 32) l13 c13 k13
  have G__law_same := PySem.W.mg_of X G a13
  have F__law_tape := fun_mk (st := topS 30) l14 c14 k14
  have G__law_tape := PySem.W.mg_of X G a14
  have F__law_names := fun_mk (st := topS 33) l15 c15 k15
  have G__law_names := PySem.W.mg_of X G a15
  have F__law_unknowns := fun_mk (st := topS 35) l16 c16 k16
  have G__law_unknowns := PySem.W.mg_of X G a16
  have F__law_all := fun_mk (st := topS 44) l17 c17 k17
  have G__law_all := PySem.W.mg_of X G a17
  have F__law_view := fun_mk (st := topS 46) l18 c18 k18
  have G__law_view := PySem.W.mg_of X G a18
  have F__law_renamed_claim := fun_mk (st := topS 47) l19 c19 k19
  have G__law_renamed_claim := PySem.W.mg_of X G a19
  have F__law_renamed := fun_mk (st := topS 48) l20 c20 k20
  have G__law_renamed := PySem.W.mg_of X G a20
  have F__law_view_model := fun_mk (st := topS 49) l21 c21 k21
  have G__law_view_model := PySem.W.mg_of X G a21
  have F_is_tuple := fun_mk (st := topS 1) l22 c22 k22
  have G_is_tuple := PySem.W.mg_of X G a22
  have F__is_row := fun_mk (st := topS 22) l23 c23 k23
  have G__is_row := PySem.W.mg_of X G a23
  have F__many_tuples := fun_mk (st := topS 23) l24 c24 k24
  have G__many_tuples := PySem.W.mg_of X G a24
  have F_is_unknown := fun_mk (st := topS 3) l25 c25 k25
  have G_is_unknown := PySem.W.mg_of X G a25
  have F_are_unknowns := fun_mk (st := topS 4) l26 c26 k26
  have G_are_unknowns := PySem.W.mg_of X G a26
  have F_ascends := fun_mk (st := topS 2) l27 c27 k27
  have G_ascends := PySem.W.mg_of X G a27
  have F__is_item := fun_mk (st := topS 21) l28 c28 k28
  have G__is_item := PySem.W.mg_of X G a28
  have F_domains_of := fun_mk (st := topS 9) l29 c29 k29
  have G_domains_of := PySem.W.mg_of X G a29
  have F_check_items := fun_mk (st := topS 20) l30 c30 k30
  have G_check_items := PySem.W.mg_of X G a30
  have F_check_view := fun_mk (st := topS 26) l31 c31 k31
  have G_check_view := PySem.W.mg_of X G a31
  have F_renamed_claim := fun_mk (st := topS 11) l32 c32 k32
  have G_renamed_claim := PySem.W.mg_of X G a32
  have F_renamed_names := fun_mk (st := topS 13) l33 c33 k33
  have G_renamed_names := PySem.W.mg_of X G a33
  have F_renamed_saying := fun_mk (st := topS 12) l34 c34 k34
  have G_renamed_saying := PySem.W.mg_of X G a34
  have F_renamed_items := fun_mk (st := topS 14) l35 c35 k35
  have G_renamed_items := PySem.W.mg_of X G a35
  have F_renamed_unknowns := fun_mk (st := topS 15) l36 c36 k36
  have G_renamed_unknowns := PySem.W.mg_of X G a36
  have F_with_beginning := fun_mk (st := topS 16) l37 c37 k37
  have G_with_beginning := PySem.W.mg_of X G a37
  have F_joined_model := fun_mk (st := topS 24) l38 c38 k38
  have G_joined_model := PySem.W.mg_of X G a38
  have F_view_model := fun_mk (st := topS 27) l39 c39 k39
  have G_view_model := PySem.W.mg_of X G a39
  have F_law := fun_mk (st := topS 52) l40 c40 k40
  have G_law := PySem.W.mg_of X G a40
  have m_all := PySem.W.mg_none_of X G z_all
  have m_bool := PySem.W.mg_none_of X G z_bool
  have m_dict := PySem.W.mg_none_of X G z_dict
  have m_enumerate := PySem.W.mg_none_of X G z_enumerate
  have m_int := PySem.W.mg_none_of X G z_int
  have m_isinstance := PySem.W.mg_none_of X G z_isinstance
  have m_len := PySem.W.mg_none_of X G z_len
  have m_list := PySem.W.mg_none_of X G z_list
  have m_max := PySem.W.mg_none_of X G z_max
  have m_min := PySem.W.mg_none_of X G z_min
  have m_range := PySem.W.mg_none_of X G z_range
  have m_set := PySem.W.mg_none_of X G z_set
  have m_sorted := PySem.W.mg_none_of X G z_sorted
  have m_str := PySem.W.mg_none_of X G z_str
  have m_sum := PySem.W.mg_none_of X G z_sum
  have m_tuple := PySem.W.mg_none_of X G z_tuple
  have m_type := PySem.W.mg_none_of X G z_type
  have m_zip := PySem.W.mg_none_of X G z_zip
  have G_MOST_SEEN := PySem.W.mg_of X G a_MOST_SEEN
  have G_MOST_VIEW_ROWS := PySem.W.mg_of X G a_MOST_VIEW_ROWS
  have e := hfa.symm.trans G_law
  cases e
  refine ⟨PySem.W.fnOf "law" "law" (defArgs (topS 52)) (defBody (topS 52)) (defScope (topS 52)) .none kV40 dc40 pm40 an40 cd40 ct40, fun s v => .of_eq rfl, fun base _ _ => ?_⟩
  have C__law_mixed := ok__law_mixed (P := P) (w := w) (base := base) F__law_mixed G__law_mixed  m_int 
  have C__law_draw := ok__law_draw (P := P) (w := w) (base := base) F__law_draw G__law_draw C__law_mixed m_int m_len 
  have C__law_domain := ok__law_domain (P := P) (w := w) (base := base) F__law_domain G__law_domain C__law_draw m_min m_range m_tuple 
  have C__law_claim := ok__law_claim (P := P) (w := w) (base := base) F__law_claim G__law_claim C__law_draw m_len m_max m_min m_range m_tuple 
  have C__law_some := ok__law_some (P := P) (w := w) (base := base) F__law_some G__law_some C__law_draw m_len m_list m_max m_min m_range 
  have C__law_values := ok__law_values (P := P) (w := w) (base := base) F__law_values G__law_values  m_sorted 
  have C__law_counted := ok__law_counted (P := P) (w := w) (base := base) F__law_counted G__law_counted C__law_draw C__law_some C__law_values m_len m_tuple 
  have C__law_machine := ok__law_machine (P := P) (w := w) (base := base) F__law_machine G__law_machine C__law_draw C__law_values m_range m_sorted m_tuple 
  have C__law_rows_of := ok__law_rows_of (P := P) (w := w) (base := base) F__law_rows_of G__law_rows_of C__law_draw m_len m_min m_range m_sorted m_tuple 
  have C__law_sum_of := ok__law_sum_of (P := P) (w := w) (base := base) F__law_sum_of G__law_sum_of C__law_draw C__law_some m_dict m_len m_sum m_tuple 
  have C__law_saying := ok__law_saying (P := P) (w := w) (base := base) F__law_saying G__law_saying C__law_claim C__law_counted C__law_draw C__law_machine C__law_rows_of C__law_some C__law_sum_of m_int m_len m_tuple 
  have C__law_drawn := ok__law_drawn (P := P) (w := w) (base := base) F__law_drawn G__law_drawn C__law_draw C__law_saying m_range m_tuple 
  have C__law_large := ok__law_large (P := P) (w := w) (base := base) F__law_large G__law_large C__law_domain C__law_saying m_range m_str m_tuple 
  have C__law_same := ok__law_same (P := P) (w := w) (base := base) F__law_same G__law_same  m_bool m_int m_isinstance m_len m_range m_str m_tuple 
  have C__law_tape := ok__law_tape (P := P) (w := w) (base := base) F__law_tape G__law_tape  m_list 
  have C__law_names := ok__law_names (P := P) (w := w) (base := base) F__law_names G__law_names C__law_draw m_len m_range 
  have C__law_unknowns := ok__law_unknowns (P := P) (w := w) (base := base) F__law_unknowns G__law_unknowns C__law_domain C__law_draw C__law_names m_len m_max m_range m_tuple 
  have C__law_all := ok__law_all (P := P) (w := w) (base := base) F__law_all G__law_all   
  have C__law_view := ok__law_view (P := P) (w := w) (base := base) F__law_view G__law_view C__law_all C__law_draw C__law_some m_len m_tuple 
  have C__law_renamed_claim := ok__law_renamed_claim (P := P) (w := w) (base := base) F__law_renamed_claim G__law_renamed_claim  m_tuple 
  have C__law_renamed := ok__law_renamed (P := P) (w := w) (base := base) F__law_renamed G__law_renamed C__law_renamed_claim m_tuple 
  have C__law_view_model := ok__law_view_model (P := P) (w := w) (base := base) F__law_view_model G__law_view_model C__law_renamed m_len m_range m_tuple 
  have C_is_tuple := ok_is_tuple (P := P) (w := w) (base := base) F_is_tuple G_is_tuple  m_len m_tuple m_type 
  have C__is_row := ok__is_row (P := P) (w := w) (base := base) F__is_row G__is_row C_is_tuple m_all m_int m_len m_type m_zip 
  have C__many_tuples := ok__many_tuples (P := P) (w := w) (base := base) F__many_tuples G__many_tuples  m_len 
  have C_is_unknown := ok_is_unknown (P := P) (w := w) (base := base) F_is_unknown G_is_unknown  m_str m_type 
  have C_are_unknowns := ok_are_unknowns (P := P) (w := w) (base := base) F_are_unknowns G_are_unknowns C_is_tuple C_is_unknown m_all m_len m_set 
  have C_ascends := ok_ascends (P := P) (w := w) (base := base) F_ascends G_ascends  m_all m_len m_range 
  have C__is_item := ok__is_item (P := P) (w := w) (base := base) F__is_item G__is_item C__is_row C__many_tuples C_are_unknowns C_ascends C_is_tuple m_all m_len G_MOST_SEEN ⟨_, rfl⟩ G_MOST_VIEW_ROWS ⟨_, rfl⟩
  have C_domains_of := ok_domains_of (P := P) (w := w) (base := base) F_domains_of G_domains_of   
  have C_check_items := ok_check_items (P := P) (w := w) (base := base) F_check_items G_check_items C__is_item C_domains_of C_is_tuple m_enumerate m_len 
  have C_check_view := ok_check_view (P := P) (w := w) (base := base) F_check_view G_check_view C_check_items  
  have C_renamed_claim := ok_renamed_claim (P := P) (w := w) (base := base) F_renamed_claim G_renamed_claim  m_tuple 
  have C_renamed_names := ok_renamed_names (P := P) (w := w) (base := base) F_renamed_names G_renamed_names  m_tuple 
  have C_renamed_saying := ok_renamed_saying (P := P) (w := w) (base := base) F_renamed_saying G_renamed_saying C_renamed_claim C_renamed_names m_tuple 
  have C_renamed_items := ok_renamed_items (P := P) (w := w) (base := base) F_renamed_items G_renamed_items C_renamed_saying m_tuple 
  have C_renamed_unknowns := ok_renamed_unknowns (P := P) (w := w) (base := base) F_renamed_unknowns G_renamed_unknowns  m_tuple 
  have C_with_beginning := ok_with_beginning (P := P) (w := w) (base := base) F_with_beginning G_with_beginning   
  have C_joined_model := ok_joined_model (P := P) (w := w) (base := base) F_joined_model G_joined_model C_renamed_items C_renamed_unknowns C_with_beginning m_tuple m_zip 
  have N_view_model := okN_view_model (P := P) (w := w) (base := base) F_view_model G_view_model C_joined_model  
  have C_view_model := ok_view_model (P := P) (w := w) (base := base) F_view_model G_view_model C_joined_model  
  have CK_view_model : CalK P w K mg base "view_model" 11 ["one", "other", "view"] ["view", "other", "one"] gR (sp_view_model K) := ⟨_, _, gR, N_view_model, F_view_model.kp, AW.Fun.kbR F_view_model (by decide) (fun _ _ _ _ _ _ us hl => match us, hl with | [_, _, _], _ => rfl), G_view_model⟩
  exact ok_law F_law G_law C__law_domain C__law_draw C__law_drawn C__law_large C__law_same C__law_some C__law_tape C__law_unknowns C__law_view C__law_view_model C_check_view C_view_model CK_view_model m_tuple
end AW
open PySem PySem.W PyProof.Rows
set_option maxHeartbeats 0 in
theorem PySem.Challenge.cw_aswritten_k53_the_very_view_model_holds : PySem.Challenge.rw_aswritten_k53_the_very_view_model.Holds := by
  w_on; o_law; k_head; (case hw => w_witness2)
  k_fill
  refine L2.walk_of (l := PySem.Challenge.rw_aswritten_k53_the_very_view_model) (n := 63) (k := 18) (x := "script") (CX := fun _ => L2.CX0) (sp := fun w => AW.sp_law _) rfl (by decide) rfl ⟨rfl, by decide, by decide⟩ (fun w h Y => PySem.W.kIn_of Y) ?F (fun _ _ a ns hl _ hS => ⟨a, ns, rfl, hS, hl, fun _ => rfl⟩) (fun _ _ _ _ _ h => h)
  case F =>
    intro w mg fa h KX G hmg
    refine' AW.facts7 KX G hmg ?a0 ?l0 ?c0 ?k0 ?a1 ?l1 ?c1 ?k1 ?a2 ?l2 ?c2 ?k2 ?a3 ?l3 ?c3 ?k3 ?a4 ?l4 ?c4 ?k4 ?a5 ?l5 ?c5 ?k5 ?a6 ?l6 ?c6 ?k6 ?a7 ?l7 ?c7 ?k7 ?a8 ?l8 ?c8 ?k8 ?a9 ?l9 ?c9 ?k9 ?a10 ?l10 ?c10 ?k10 ?a11 ?l11 ?c11 ?k11 ?a12 ?l12 ?c12 ?k12 ?a13 ?l13 ?c13 ?k13 ?a14 ?l14 ?c14 ?k14 ?a15 ?l15 ?c15 ?k15 ?a16 ?l16 ?c16 ?k16 ?a17 ?l17 ?c17 ?k17 ?a18 ?l18 ?c18 ?k18 ?a19 ?l19 ?c19 ?k19 ?a20 ?l20 ?c20 ?k20 ?a21 ?l21 ?c21 ?k21 ?a22 ?l22 ?c22 ?k22 ?a23 ?l23 ?c23 ?k23 ?a24 ?l24 ?c24 ?k24 ?a25 ?l25 ?c25 ?k25 ?a26 ?l26 ?c26 ?k26 ?a27 ?l27 ?c27 ?k27 ?a28 ?l28 ?c28 ?k28 ?a29 ?l29 ?c29 ?k29 ?a30 ?l30 ?c30 ?k30 ?a31 ?l31 ?c31 ?k31 ?a32 ?l32 ?c32 ?k32 ?a33 ?l33 ?c33 ?k33 ?a34 ?l34 ?c34 ?k34 ?a35 ?l35 ?c35 ?k35 ?a36 ?l36 ?c36 ?k36 ?a37 ?l37 ?c37 ?k37 ?a38 ?l38 ?c38 ?k38 ?a39 ?l39 ?c39 ?k39 ?a40 ?l40 ?c40 ?k40 ?z_all ?z_bool ?z_dict ?z_enumerate ?z_int ?z_isinstance ?z_len ?z_list ?z_max ?z_min ?z_range ?z_set ?z_sorted ?z_str ?z_sum ?z_tuple ?z_type ?z_zip ?a_MOST_SEEN ?a_MOST_VIEW_ROWS
    (case a0 => k_is); (case l0 => k_is); (case c0 => k_is); (case k0 => k_is); (case a1 => k_is); (case l1 => k_is); (case c1 => k_is); (case k1 => k_is); (case a2 => k_is); (case l2 => k_is); (case c2 => k_is); (case k2 => k_is); (case a3 => k_is); (case l3 => k_is); (case c3 => k_is); (case k3 => k_is); (case a4 => k_is); (case l4 => k_is); (case c4 => k_is); (case k4 => k_is); (case a5 => k_is); (case l5 => k_is); (case c5 => k_is); (case k5 => k_is); (case a6 => k_is); (case l6 => k_is); (case c6 => k_is); (case k6 => k_is); (case a7 => k_is); (case l7 => k_is); (case c7 => k_is); (case k7 => k_is); (case a8 => k_is); (case l8 => k_is); (case c8 => k_is); (case k8 => k_is); (case a9 => k_is); (case l9 => k_is); (case c9 => k_is); (case k9 => k_is); (case a10 => k_is); (case l10 => k_is); (case c10 => k_is); (case k10 => k_is); (case a11 => k_is); (case l11 => k_is); (case c11 => k_is); (case k11 => k_is); (case a12 => k_is); (case l12 => k_is); (case c12 => k_is); (case k12 => k_is); (case a13 => k_is); (case l13 => k_is); (case c13 => k_is); (case k13 => k_is); (case a14 => k_is); (case l14 => k_is); (case c14 => k_is); (case k14 => k_is); (case a15 => k_is); (case l15 => k_is); (case c15 => k_is); (case k15 => k_is); (case a16 => k_is); (case l16 => k_is); (case c16 => k_is); (case k16 => k_is); (case a17 => k_is); (case l17 => k_is); (case c17 => k_is); (case k17 => k_is); (case a18 => k_is); (case l18 => k_is); (case c18 => k_is); (case k18 => k_is); (case a19 => k_is); (case l19 => k_is); (case c19 => k_is); (case k19 => k_is); (case a20 => k_is); (case l20 => k_is); (case c20 => k_is); (case k20 => k_is); (case a21 => k_is); (case l21 => k_is); (case c21 => k_is); (case k21 => k_is); (case a22 => k_is); (case l22 => k_is); (case c22 => k_is); (case k22 => k_is); (case a23 => k_is); (case l23 => k_is); (case c23 => k_is); (case k23 => k_is); (case a24 => k_is); (case l24 => k_is); (case c24 => k_is); (case k24 => k_is); (case a25 => k_is); (case l25 => k_is); (case c25 => k_is); (case k25 => k_is); (case a26 => k_is); (case l26 => k_is); (case c26 => k_is); (case k26 => k_is); (case a27 => k_is); (case l27 => k_is); (case c27 => k_is); (case k27 => k_is); (case a28 => k_is); (case l28 => k_is); (case c28 => k_is); (case k28 => k_is); (case a29 => k_is); (case l29 => k_is); (case c29 => k_is); (case k29 => k_is); (case a30 => k_is); (case l30 => k_is); (case c30 => k_is); (case k30 => k_is); (case a31 => k_is); (case l31 => k_is); (case c31 => k_is); (case k31 => k_is); (case a32 => k_is); (case l32 => k_is); (case c32 => k_is); (case k32 => k_is); (case a33 => k_is); (case l33 => k_is); (case c33 => k_is); (case k33 => k_is); (case a34 => k_is); (case l34 => k_is); (case c34 => k_is); (case k34 => k_is); (case a35 => k_is); (case l35 => k_is); (case c35 => k_is); (case k35 => k_is); (case a36 => k_is); (case l36 => k_is); (case c36 => k_is); (case k36 => k_is); (case a37 => k_is); (case l37 => k_is); (case c37 => k_is); (case k37 => k_is); (case a38 => k_is); (case l38 => k_is); (case c38 => k_is); (case k38 => k_is); (case a39 => k_is); (case l39 => k_is); (case c39 => k_is); (case k39 => k_is); (case a40 => k_is); (case l40 => k_is); (case c40 => k_is); (case k40 => k_is); (case z_all => k_is); (case z_bool => k_is); (case z_dict => k_is); (case z_enumerate => k_is); (case z_int => k_is); (case z_isinstance => k_is); (case z_len => k_is); (case z_list => k_is); (case z_max => k_is); (case z_min => k_is); (case z_range => k_is); (case z_set => k_is); (case z_sorted => k_is); (case z_str => k_is); (case z_sum => k_is); (case z_tuple => k_is); (case z_type => k_is); (case z_zip => k_is); (case a_MOST_SEEN => k_is); (case a_MOST_VIEW_ROWS => k_is)

