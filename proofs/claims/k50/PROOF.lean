import PyProof.Rows.All
import Wide.All
import OpenK.AllK
import Wide.FinOn
import HandS.ForMost
import HandS.DictComp
import HandS.Zip
import HandS.TupAny
import HandS.Style
import HandS.Deep
import HandS.CallLocal
import HandS.More
import HandS.Conv
import HandS.SortInts
import HandS.Walk
import KE.GoesMore
import HandS.Strs
import HandS.SetFor
import PyProof.Rows.SetFrom
import HandS.ExcInit
import HandS.ExcOwn
import HandS.IsInst
import KE.KExcIs
import KE.KIsAll
import HandS.TupMul
import KE.KRevSl
import PyProof.EnumMake
import PyProof.EnumFor
import KE.KEqDeep
import HandS.Star
import HandS.WordsDict
import HandS.Steps
import PyProof.Rows.StrMeet
import PyProof.TypeEq
import KE.KDictPairs
import HandS.SetBool
import HandS.WordsExc
import HandS.ExcField
import KE.SortData
import KE.DataMinMax
import KE.KTupSum
import HandS.Defaults
import HandS.FStr
import HandS.Ends
import PySem.Challenge.RW_aswritten_k50_views_checked_and_seen
set_option Elab.async false
set_option linter.all false
set_option maxRecDepth 100000
set_option maxHeartbeats 4000000
/-! own words over the hand layer: names of readings, calls by a bundle, the lists' in-place store, text times number, keywords alone. -/
namespace AW
open PySem PySem.Spec PyProof.Rows L2

abbrev rAddI : R2 := rI0 fun i j => .int (i + j)
abbrev rSubI : R2 := rI0 fun i j => .int (i - j)
abbrev rMulI : R2 := rI CMul fun i j => .int (i * j)
abbrev rDivI : R2 := rI CDiv fun i j => .int (i / j)
abbrev rModI : R2 := rI (fun _ j => 0 < j) fun i j => .int (i % j)
abbrev rPowI : R2 := rI CPow fun i j => .int (i ^ j.toNat)
abbrev rLtI : R2 := rI0 fun i j => .bl (decide (i < j))
abbrev rLeI : R2 := rI0 fun i j => .bl (decide (i ≤ j))
abbrev rGtI : R2 := rI0 fun i j => .bl (decide (j < i))
abbrev rGeI : R2 := rI0 fun i j => .bl (decide (j ≤ i))
abbrev rNeg : V → Hp → VK → Prop := rU fun i => .int (-i)
def rAddS : R2 := fun x y H Q => ∃ i j, x = .str i ∧ y = .str j ∧ i.length + j.length ≤ sizeLine ∧ Q (.str (i ++ j)) H
theorem op_addS {X : Cx} : OpR X (binaryOp .Add) rAddS := op_add_str
def rRepS : R2 := fun x y H Q => ∃ z n, x = .str z ∧ y = .int n ∧ MulOk z n ∧ Q (.str (Txt.mul z n)) H
theorem op_repS {X : Cx} : OpR X (binaryOp .Mult) rRepS := by
  intro pins s σ H x y v u Q I rx ry h
  obtain ⟨z, n, rfl, rfl, ok, q⟩ := h
  obtain ⟨t, rfl⟩ := rx
  obtain ⟨t', rfl⟩ := ry
  exact SB.mul ok fun t2 k => ⟨.str _, H, I.tok _, ⟨_, rfl⟩, q⟩
def rLen1 (K : PySem.W.Frag) : List V → Hp → VK → Prop := fun xs H Q => ∃ x n, xs = [x] ∧ LenV K x H n ∧ Q (.int n) H
theorem call_len1 {X : Cx} : CallR X (.builtin "len") (rLen1 X.K) := call_len
def rAbs : List V → Hp → VK → Prop := fun xs H Q => ∃ i, xs = [.int i] ∧ Q (.int (if i < 0 then -i else i)) H
def rInt1 : List V → Hp → VK → Prop := fun xs H Q => (∃ i, xs = [.int i] ∧ Q (.int i) H) ∨ ∃ k, xs = [.bl k] ∧ Q (.int (if k then 1 else 0)) H
def rStr1 : List V → Hp → VK → Prop := fun xs H Q => ∃ i, xs = [.int i] ∧ i.natAbs.log2 < 1920 ∧ Q (.str (toString i)) H
def rMax2 : List V → Hp → VK → Prop := fun xs H Q => ∃ i j, xs = [.int i, .int j] ∧ Q (.int (if j > i then j else i)) H
def rMin2 : List V → Hp → VK → Prop := fun xs H Q => ∃ i j, xs = [.int i, .int j] ∧ Q (.int (if j < i then j else i)) H
def rListOf (K : PySem.W.Frag) : List V → Hp → VK → Prop := fun xs H Q => ∃ p ys, xs = [.ref p] ∧ (SqL K H p ys ∨ SqT K H p ys) ∧ ∀ l, H l = none → Q (.ref l) (upd H l (.lst ys))
theorem call_listOf {X : Cx} : CallR X (.type "list") (rListOf X.K) := call_list_of
def rIxA (K : PySem.W.Frag) : R2 := fun x y H Q => rIxL K x y H Q ∨ rIxT K x y H Q
theorem ix_any {X : Cx} : IxR X (rIxA X.K) := ix_list.or ix_tup
def rIsN : R2 := fun x y H Q => y = .non ∧ Q (.bl (decide (x = .non))) H
theorem op_isN1 {X : Cx} : OpR X (compareOp .Is) rIsN := op_isN
theorem units64 {A : Around} {k : Nat} (hr : Room k A) : A.units + 64 < cLine := hr.units
theorem units65 {A : Around} {k : Nat} (hr : Room k A) : A.units + 65 < cLine := by have := hr.un; omega
section
variable {X : Cx}
/-! ### a def by name, with all that a call asks of it -/
structure Cal (P : Program) (w : World) (K : PySem.W.Frag) (mg : Str → Option Value) (base : Heap) (x : Str) (k : Nat) (ps : List Str) (sp : Sp) : Prop where
  ex : ∃ (f : Addr) (fd : FuncData), FnOk P w K mg base CX0 k f fd ps sp ∧ PySem.W.keepIn K (.ref f) = true ∧ Binds K fd ps [] ∧ mg x = some (.ref f)
theorem pe_cal {x : Str} {k : Nat} {ps : List Str} {sp : Sp} {e : Expr} {es : List Expr} {t : TA} {p pos : Pos} (C : Cal X.prog X.w X.K X.mg X.base x k ps sp) (hr : Room k X.A) (hg : Gl X x) (ha : PA X (e :: es) t)
    (hdb : (x == ("__debug__" : Str)) = false := by decide) (he : starEach (e :: es) X.env = (false, eval e X.env) :: starEach es X.env := by rfl) (hpl : (backTo pos (starEach es X.env)).any (·.1) = false := by rfl) :
    PE X (.Call (.Name x p) (e :: es) [] pos) (tCall sp [] E0 t) := by
  refine ⟨fun pins s σ H Q I h => ?_⟩
  obtain ⟨f, fd, F, hk, hb, hm⟩ := C.ex
  exact (pe_call F hr hg hm hk hb .nil pass0 ha hdb he hpl).run pins s σ H Q I h
/-- how keywords alone bind -/
structure CalK (P : Program) (w : World) (K : PySem.W.Frag) (mg : Str → Option Value) (base : Heap) (x : Str) (k : Nat) (ps ks : List Str) (gV : List V → List V → List V) (sp : Sp) : Prop where
  ex : ∃ (f : Addr) (fd : FuncData) (g : List Value → List Value → List Value), FnOk P w K mg base CX0 k f fd ps sp ∧ PySem.W.keepIn K (.ref f) = true ∧ KBinds K fd ps ks g gV ∧ mg x = some (.ref f)
theorem pe_calK {x : Str} {k : Nat} {ps ks : List Str} {gV : List V → List V → List V} {sp : Sp} {kws : List Keyword} {tk : TA} {p pos : Pos} (C : CalK X.prog X.w X.K X.mg X.base x k ps ks gV sp) (hr : Room k X.A) (hg : Gl X x) (hkw : PK X kws tk)
    (hall : (backToKw pos (keywordEach kws X.env)).all (·.1.isSome) = true := by rfl) (hks : (backToKw pos (keywordEach kws X.env)).filterMap (·.1) = ks := by rfl)
    (hdb : (x == ("__debug__" : Str)) = false := by decide)
    (hpl : ((backTo pos (starEach [] X.env)).any (·.1) || (backToKw pos (keywordEach kws X.env)).any (·.1.isNone)) = false := by rfl) :
    PE X (.Call (.Name x p) [] kws pos) (tCallK sp gV E0 tNil tk) := by
  refine ⟨fun pins s σ H Q I h => ?_⟩
  obtain ⟨f, fd, g, F, hk, hb, hm⟩ := C.ex
  refine wpAny_Call_Name_kw (ld_glob I hg hm ?_ hdb)
  refine PySem.W.callWith_KW0 (h₀ := X.base) I.ok.mod.kin hk hall (thn (hkw.run pos pins s σ H _ I h) fun ws s2 ⟨zs, H2, I2, rz, q2⟩ => ⟨I2.kIn, ?_⟩) hpl
  rw [hks]
  exact run_fnk (us := []) F hr hb pass0 I2 .nil rz q2
end
end AW
/-! heaps that go on, the law's state, readings of one def at a time -/
namespace AW
open PySem PySem.Spec PyProof.Rows L2

/-- what goes on: all but the objects of S; tuples and locked things always -/
structure Adv (S : List Addr) (H H' : Hp) : Prop where
  keep : ∀ a o, a ∉ S → H a = some o → H' a = some o
  tup : ∀ a xs, H a = some (.tup xs) → H' a = some (.tup xs)
theorem Adv.refl (S : List Addr) (H : Hp) : Adv S H H := ⟨fun _ _ _ h => h, fun _ _ h => h⟩
theorem Adv.trans {S : List Addr} {H H1 H2 : Hp} (a : Adv S H H1) (b : Adv S H1 H2) : Adv S H H2 := ⟨fun c o n h => b.keep c o n (a.keep c o n h), fun c xs h => b.tup c xs (a.tup c xs h)⟩
theorem Adv.mono {S S' : List Addr} {H H' : Hp} (a : Adv S H H') (h : ∀ b ∈ S, b ∈ S') : Adv S' H H' := ⟨fun c o n q => a.keep c o (fun m => n (h c m)) q, a.tup⟩
theorem Adv.any {S : List Addr} {H H' : Hp} (a : Adv [] H H') : Adv S H H' := a.mono fun _ h => nomatch h
theorem Adv.new {H : Hp} {p : Addr} {o : HO} (h : H p = none) : Adv [] H (upd H p o) :=
  ⟨fun a u _ e => by rw [upd_ne (ne_of_none e h)]; exact e, fun a xs e => by rw [upd_ne (ne_of_none e h)]; exact e⟩
/-- an object that is no tuple is changed -/
theorem Adv.set {H : Hp} {f : Addr} {o u : HO} (e : H f = some u) (nt : ∀ xs, u ≠ .tup xs) : Adv [f] H (upd H f o) :=
  ⟨fun a v n q => by rw [upd_ne (fun z => n (by rw [z]; exact List.mem_singleton.mpr rfl))]; exact q, fun a xs q => by rw [upd_ne (ne_of q e (nt xs).symm)]; exact q⟩
theorem Adv.lst {H : Hp} {f : Addr} {o : HO} {ys : List V} (e : H f = some (.lst ys)) : Adv [f] H (upd H f o) := Adv.set e (fun _ z => by cases z)
/-- what H does not know yet need not be named -/
theorem Adv.drop {S : List Addr} {f : Addr} {H H' : Hp} (a : Adv (f :: S) H H') (h : H f = none) : Adv S H H' :=
  ⟨fun b o n e => a.keep b o (fun m => by
    rcases List.mem_cons.mp m with z | z
    · rw [z] at e; rw [h] at e; cases e
    · exact n z) e, a.tup⟩
/-- f is new, the rest goes on, f is changed -/
theorem Adv.mut {S : List Addr} {f : Addr} {H H' : Hp} {o u : HO} (a : Adv S H H') (h : H f = none) (e : H' f = some u) (nt : ∀ xs, u ≠ .tup xs) : Adv S H (upd H' f o) :=
  ⟨fun b v n q => by rw [upd_ne (ne_of_none q h)]; exact a.keep b v n q, fun b xs q => by rw [upd_ne (ne_of_none q h)]; exact a.tup b xs q⟩
theorem Adv.free {S : List Addr} {H H' : Hp} {p : Addr} (a : Adv S H H') (hS : p ∉ S) (h : H' p = none) : H p = none := by
  cases q : H p with
  | none => rfl
  | some o =>
    rw [a.keep p o hS q] at h
    cases h
section
variable {K : PySem.W.Frag} {S : List Addr} {H H' : Hp} {a : Addr} {xs : List V}
theorem Adv.sqt (e : Adv S H H') (hf : ∀ o u, H a = some (.frz o u) → a ∉ S) (h : SqT K H a xs) : SqT K H' a xs := by
  rcases h with (h | ⟨o, h⟩) | h
  · exact .inl (.inl (e.tup _ _ h))
  · exact .inl (.inr ⟨o, e.keep _ _ (hf _ _ h) h⟩)
  · exact .inr h
theorem Adv.sql (e : Adv S H H') (hn : a ∉ S) (h : SqL K H a xs) : SqL K H' a xs := by
  rcases h with (h | ⟨o, h⟩) | h
  · exact .inl (.inl (e.keep _ _ hn h))
  · exact .inl (.inr ⟨o, e.keep _ _ hn h⟩)
  · exact .inr h
end
theorem w_new {H : Hp} {o : HO} {Q : V → Hp → Prop} (h : ∀ p H', H p = none → Adv [] H H' → H' p = some o → Q (.ref p) H') : ∀ p, H p = none → Q (.ref p) (upd H p o) := fun p hp => h p _ hp (Adv.new hp) upd_same

/-! ### the law's tape at st: a dict, its cells at cs.1 -/
def tapeK (c : Addr) (i g l s t : Int) : List (L2.Key × V) := [(.inr "cells", .ref c), (.inr "at", .int i), (.inr "great", .int g), (.inr "left", .int l), (.inr "seed", .int s), (.inr "turn", .int t)]
def StOk (st : Addr) (cs : Addr × Addr) (H : Hp) : Prop := ∃ (i g l s t : Int) (ns : List Int),
  H st = some (.dK (tapeK cs.1 i g l s t)) ∧ H cs.1 = some (.lst (ns.map V.int)) ∧ ns.length ≤ 63 ∧ cs.1 ≠ st ∧ cs.2 = cs.1 ∧ 0 ≤ i
def Off (p st : Addr) (cs : Addr × Addr) : Prop := p ≠ st ∧ p ≠ cs.1
theorem Off.not {p st : Addr} {cs : Addr × Addr} (h : Off p st cs) : p ∉ [st, cs.1] := fun z => by
  rcases List.mem_cons.mp z with e | e
  · exact h.1 e
  · exact h.2 (List.mem_singleton.mp e)
/-- a new object is none of them -/
theorem StOk.ne {st : Addr} {cs : Addr × Addr} {p : Addr} {H : Hp} (h : StOk st cs H) (hp : H p = none) : Off p st cs ∧ p ≠ cs.2 := by
  obtain ⟨_, _, _, _, _, _, h1, h2, _, _, h3, _⟩ := h
  exact ⟨⟨(ne_of_none h1 hp).symm, (ne_of_none h2 hp).symm⟩, by rw [h3]; exact (ne_of_none h2 hp).symm⟩
theorem StOk.keep {st : Addr} {cs : Addr × Addr} {H H' : Hp} {S : List Addr} (h : StOk st cs H) (e : Adv S H H') (h1 : st ∉ S) (h2 : cs.1 ∉ S) (h3 : cs.2 ∉ S) : StOk st cs H' := by
  obtain ⟨i, r, m, l, t, ns, a, b, d⟩ := h
  exact ⟨i, r, m, l, t, ns, e.keep _ _ h1 a, e.keep _ _ h2 b, d⟩
/-- the run goes on: the bag alone is changed -/
structure Go (st : Addr) (cs : Addr × Addr) (H H' : Hp) : Prop where
  adv : Adv [st, cs.1] H H'
  ok : StOk st cs H'
section
variable {st : Addr} {cs : Addr × Addr}
theorem Go.refl {H : Hp} (h : StOk st cs H) : Go st cs H H := ⟨.refl _ _, h⟩
theorem Go.trans {H H1 H2 : Hp} (a : Go st cs H H1) (b : Go st cs H1 H2) : Go st cs H H2 := ⟨a.adv.trans b.adv, b.ok⟩
theorem Go.of {H H' : Hp} (h : StOk st cs H) (e : Adv [] H H') : Go st cs H H' := ⟨e.any, h.keep e (fun z => nomatch z) (fun z => nomatch z) fun z => nomatch z⟩
theorem Go.new {H H' : Hp} (a : Go st cs H H') {H2 : Hp} (e : Adv [] H' H2) : Go st cs H H2 := a.trans (.of a.ok e)
theorem Go.mut {f : Addr} {H H' : Hp} {o u : HO} (a : Go st cs H H') (h : H f = none) (e : H' f = some u) (nt : ∀ xs, u ≠ .tup xs) (n1 : Off f st cs) (n2 : f ≠ cs.2) : Go st cs H (upd H' f o) :=
  ⟨a.adv.mut h e nt, a.ok.keep (Adv.set e nt) (fun z => n1.1 (List.mem_singleton.mp z).symm) (fun z => n1.2 (List.mem_singleton.mp z).symm) fun z => n2 (List.mem_singleton.mp z).symm⟩
theorem Go.mutL {f : Addr} {H H' : Hp} {o : HO} {xs : List V} (a : Go st cs H H') (hs : StOk st cs H) (h : H f = none) (e : H' f = some (.lst xs)) : Go st cs H (upd H' f o) :=
  a.mut h e (fun _ z => by cases z) (hs.ne h).1 (hs.ne h).2
theorem Go.keep {a : Addr} {H H' : Hp} {o : HO} (g : Go st cs H H') (n : Off a st cs) (h : H a = some o) : H' a = some o := g.adv.keep a o n.not h
theorem Go.sql {a : Addr} {K : PySem.W.Frag} {H H' : Hp} {xs : List V} (g : Go st cs H H') (n : Off a st cs) (h : SqL K H a xs) : SqL K H' a xs := g.adv.sql n.not h
theorem Go.free {p : Addr} {H H' : Hp} (g : Go st cs H H') (hs : StOk st cs H) (h : H' p = none) : H p = none := g.adv.free (g.ok.ne h).1.not h
end
end AW
/-! one step of a reading at a time -/
namespace AW
open PySem PySem.Spec PyProof.Rows L2
section
variable {σ : L2.St} {H : Hp} {Q : VK} {ta tb te : TE} {t u : TT} {D : Ends} {t1 t2 : TS} {K : PySem.W.Frag}
theorem w_var {i : Nat} {v : V} (h : σ[i]? = some (some v)) (q : Q v H) : tVar i σ H Q := ⟨v, h, q⟩
theorem w_c {v : V} (q : Q v H) : tC v σ H Q := q
theorem w_op {r : R2} (h : ta σ H fun x H1 => tb σ H1 fun y H2 => r x y H2 Q) : tOp r ta tb σ H Q := h
theorem w_un {r : V → Hp → VK → Prop} (h : ta σ H fun x H1 => r x H1 Q) : tUn r ta σ H Q := h
theorem w_I0 {g : Int → Int → V} {i j : Int} (q : Q (g i j) H) : rI0 g (.int i) (.int j) H Q := ⟨i, j, rfl, rfl, q⟩
theorem w_I {C : Int → Int → Prop} {g : Int → Int → V} {i j : Int} (c : C i j) (q : Q (g i j) H) : rI C g (.int i) (.int j) H Q := ⟨i, j, rfl, rfl, c, q⟩
theorem w_U {g : Int → V} {i : Int} (q : Q (g i) H) : rU g (.int i) H Q := ⟨i, rfl, q⟩
theorem w_cb {r : List V → Hp → VK → Prop} {a : TA} (h : a σ H fun vs H1 => r vs H1 Q) : tCB r a σ H Q := h
theorem w_nil {Q : List V → Hp → Prop} (q : Q [] H) : tNil σ H Q := q
theorem w_cons {Q : List V → Hp → Prop} {a : TA} (h : ta σ H fun x H1 => a σ H1 fun xs H2 => Q (x :: xs) H2) : tCons ta a σ H Q := h
theorem w_call {sp : Sp} {E : XK} {a : TA} (h : a σ H fun vs H1 => sp vs H1 Q E) : tCall sp [] E a σ H Q := by
  show a σ H fun vs H1 => sp (vs ++ []) H1 Q E
  have e : (fun (vs : List V) (H1 : Hp) => sp (vs ++ []) H1 Q E) = fun vs H1 => sp vs H1 Q E := by
    funext vs H1
    rw [List.append_nil]
  rw [e]
  exact h
theorem w_test {Q : Bool → Hp → Prop} (h : te σ H fun x H1 => ∃ k, x = .bl k ∧ Q k H1) : tTest te σ H Q := h
theorem w_B {Q : Bool → Hp → Prop} (h : te σ H fun x H1 => ∃ k, x = .bl k ∧ Q k H1) : tB te σ H Q := h
theorem w_bl {k : Bool} {P : Bool → Prop} (q : P k) : ∃ k', V.bl k = .bl k' ∧ P k' := ⟨k, rfl, q⟩
theorem w_yes {Q : Bool → Hp → Prop} (q : Q true H) : tYes σ H Q := q
theorem w_not {Q : Bool → Hp → Prop} (h : t σ H fun c H1 => Q (!c) H1) : tNot t σ H Q := h
theorem w_and {Q : Bool → Hp → Prop} (h : t σ H fun c H1 => if c = true then u σ H1 Q else Q false H1) : tAnd t u σ H Q := h
theorem w_or {Q : Bool → Hp → Prop} (h : t σ H fun c H1 => if c = true then Q true H1 else u σ H1 Q) : tOr t u σ H Q := h
theorem w_andV (h : ta σ H fun x H1 => ∃ c, x = .bl c ∧ if c = true then tb σ H1 Q else Q (.bl false) H1) : tAndV ta tb σ H Q := h
theorem w_orV (h : ta σ H fun x H1 => ∃ c, x = .bl c ∧ if c = true then Q (.bl true) H1 else tb σ H1 Q) : tOrV ta tb σ H Q := h
theorem w_notV (h : ta σ H fun x H1 => ∃ c, x = .bl c ∧ Q (.bl (!c)) H1) : tNotV ta σ H Q := h
theorem w_if (h : t σ H fun c H1 => if c = true then ta σ H1 Q else tb σ H1 Q) : tIf t ta tb σ H Q := h
def kTupD (xs : List V) (H : Hp) (Q : VK) : Prop := xs.length ≤ sizeLine ∧ ∀ p, H p = none → Q (.ref p) (upd H p (.tup xs))
theorem w_tup {a : TA} (h : a σ H fun xs H1 => kTupD xs H1 Q) : tTup a σ H Q := h
def kLstD (xs : List V) (H : Hp) (Q : VK) : Prop := xs.length ≤ sizeLine ∧ ∀ p, H p = none → Q (.ref p) (upd H p (.lst xs))
theorem w_lst {a : TA} (h : a σ H fun xs H1 => kLstD xs H1 Q) : tLst a σ H Q := h
theorem w_int1 {i : Int} (q : Q (.int i) H) : rInt1 [.int i] H Q := .inl ⟨i, rfl, q⟩
theorem w_int1b {k : Bool} (q : Q (.int (if k then 1 else 0)) H) : rInt1 [.bl k] H Q := .inr ⟨k, rfl, q⟩
theorem w_abs {i : Int} (q : Q (.int (if i < 0 then -i else i)) H) : rAbs [.int i] H Q := ⟨i, rfl, q⟩
theorem w_max2 {i j : Int} (q : Q (.int (if j > i then j else i)) H) : rMax2 [.int i, .int j] H Q := ⟨i, j, rfl, q⟩
theorem w_min2 {i j : Int} (q : Q (.int (if j < i then j else i)) H) : rMin2 [.int i, .int j] H Q := ⟨i, j, rfl, q⟩
theorem w_eq {x y : V} (h : scal x y = true) (q : Q (.bl (decide (x = y))) H) : rEq x y H Q := ⟨h, q⟩
theorem w_ne {x y : V} (h : scal x y = true) (q : Q (.bl (!decide (x = y))) H) : rNe x y H Q := ⟨h, q⟩
theorem w_isN {x : V} (q : Q (.bl (decide (x = .non))) H) : rIsN x .non H Q := ⟨rfl, q⟩
theorem w_isB {a b : Bool} (q : Q (.bl (decide (a = b))) H) : rIsB (.bl a) (.bl b) H Q := ⟨a, b, rfl, rfl, q⟩
theorem w_chain {r r' : R2} {tc : TE} (h : ta σ H fun x H1 => tb σ H1 fun y H2 => r x y H2 fun z H3 => ∃ k, z = .bl k ∧ (if k = true then tc σ H3 fun w' H4 => r' y w' H4 Q else Q (.bl false) H3)) : tChain r r' ta tb tc σ H Q := h
/-- a list's item at a place -/
theorem w_ixL {p : Addr} {xs : List V} {i : Int} {v : V} (h : SqL K H p xs) (e : atI xs i = some v) (q : Q v H) : rIxL K (.ref p) (.int i) H Q := ⟨p, xs, i, v, rfl, rfl, h, e, q⟩
theorem w_ixT {p : Addr} {xs : List V} {i : Int} {v : V} (h : SqT K H p xs) (e : atI xs i = some v) (q : Q v H) : rIxT K (.ref p) (.int i) H Q := ⟨p, xs, i, v, rfl, rfl, h, e, q⟩
theorem w_lenL {p : Addr} {xs : List V} (h : SqL K H p xs) (q : Q (.int (xs.length : Nat)) H) : rLen1 K [.ref p] H Q := ⟨.ref p, xs.length, rfl, .inl ⟨xs, h, rfl⟩, q⟩
theorem w_lenT {p : Addr} {xs : List V} (h : SqT K H p xs) (q : Q (.int (xs.length : Nat)) H) : rLen1 K [.ref p] H Q := ⟨.ref p, xs.length, rfl, .inr ⟨xs, h, rfl⟩, q⟩
/-! statements -/
theorem w_seq (h : t1 { D with nx := t2 D } σ H) : tSeq t1 t2 D σ H := h
theorem w_next (q : D.nx σ H) : tNext D σ H := q
theorem w_ret (h : te σ H D.rt) : tRet te D σ H := h
theorem w_drop (h : te σ H fun _ H1 => D.nx σ H1) : tDrop te D σ H := h
theorem w_asg {g : TG} (h : te σ H fun x H1 => g x σ H1 D.nx) : tAsg te g D σ H := h
theorem w_gname {i : Nat} {v : V} {Q : L2.St → Hp → Prop} (q : Q (σ.set i (some v)) H) : gName i v σ H Q := q
theorem w_ifS (h : t σ H fun b H1 => if b = true then t1 D σ H1 else t2 D σ H1) : tIfS t t1 t2 D σ H := h
theorem w_gsub {s : TSet} {v : V} {Q : L2.St → Hp → Prop} (h : ta σ H fun o H1 => tb σ H1 fun i H2 => s o i v H2 fun H3 => Q σ H3) : gSub ta tb s v σ H Q := h
theorem w_augS {to ti : TE} {tget : V → V → Hp → VK → Prop} {tip : TIp} {tset : TSet} (h : to σ H fun o H1 => ti σ H1 fun i H2 => tget o i H2 fun x H3 => te σ H3 fun y H4 => tip x y H4 fun z H5 => tset o i z H5 fun H6 => D.nx σ H6) : tAugS to ti te tget tip tset D σ H := h
theorem w_ipI {f : Int → Int → Int} {i j : Int} (q : Q (.int (f i j)) H) : ipI f (.int i) (.int j) H Q := ⟨i, j, rfl, rfl, q⟩
theorem w_ite {c A B : Prop} [Decidable c] (h1 : c → A) (h2 : ¬c → B) : if c then A else B := ite2 h1 h2
theorem w_iteB {c : Prop} [Decidable c] {A B : Prop} (h1 : c → A) (h2 : ¬c → B) : if (decide c) = true then A else B := ite2 (fun h => h1 (of_decide_eq_true h)) fun h => h2 fun z => h (decide_eq_true z)
/-! slices, lists joined, append -/
theorem w_sl {r : V → Option Int → Option Int → Hp → VK → Prop} {tl th : TO} (h : te σ H fun x H1 => tl σ H1 fun l H2 => th σ H2 fun u H3 => r x l u H3 Q) : tSl r te tl th σ H Q := h
theorem w_part {Q : Option Int → Hp → Prop} (h : te σ H fun x H1 => ∃ i, x = .int i ∧ Q (some i) H1) : tPart te σ H Q := h
theorem w_noPart {Q : Option Int → Hp → Prop} (q : Q none H) : tNoPart σ H Q := q
theorem w_in {i : Int} {P : Int → Prop} (q : P i) : ∃ k, V.int i = .int k ∧ P k := ⟨i, rfl, q⟩
theorem w_slL {p : Addr} {xs : List V} {lo hi : Option Int} (h : SqL K H p xs) (q : ∀ r H', H r = none → Adv [] H H' → H' r = some (.lst (cutV xs lo hi)) → Q (.ref r) H') : rSlL K (.ref p) lo hi H Q := ⟨p, xs, rfl, h, w_new q⟩
theorem w_listOf {p : Addr} {xs : List V} (h : SqL K H p xs ∨ SqT K H p xs) (q : ∀ r H', H r = none → Adv [] H H' → H' r = some (.lst xs) → Q (.ref r) H') : rListOf K [.ref p] H Q := ⟨p, xs, rfl, h, w_new q⟩
theorem w_app {i : Nat} {l : Addr} {xs0 : List V} {a : TA} (hσ : σ[i]? = some (some (.ref l))) (h0 : H l = some (.lst xs0)) (h : a σ H fun vs H2 => rAppend (.ref l) vs H2 Q) : tBM K "list" rAppend (tVar i) a σ H Q :=
  ⟨.ref l, hσ, .inl ⟨rfl, xs0, SqL.of h0⟩, h⟩
theorem w_append {l : Addr} {xs : List V} {y : V} (h : H l = some (.lst xs)) (hz : xs.length < 100000) (q : Q .non (upd H l (.lst (xs ++ [y])))) : rAppend (.ref l) [y] H Q :=
  ⟨l, xs, y, rfl, rfl, h, Nat.lt_of_lt_of_le hz (by decide), q⟩
theorem w_lstD {xs : List V} (hz : xs.length ≤ 100000) (q : ∀ r H', H r = none → Adv [] H H' → H' r = some (.lst xs) → Q (.ref r) H') : kLstD xs H Q := ⟨Nat.le_trans hz (by decide), w_new q⟩
theorem w_tupD {xs : List V} (hz : xs.length ≤ 100000) (q : ∀ r H', H r = none → Adv [] H H' → H' r = some (.tup xs) → Q (.ref r) H') : kTupD xs H Q := ⟨Nat.le_trans hz (by decide), w_new q⟩
/-! loops -/
def kFor (J : It) (g : TG) (tb : TS) (D : Ends) (σ : L2.St) (H1 : Hp) : Prop := ∃ W : Nat → Nat → L2.St → Hp → Prop, (∃ m, W 0 m σ H1) ∧ ∀ i m σ H, W i m σ H →
  (J.stop i H ∧ D.nx σ H) ∨ (J.go i H ∧ ∃ N : L2.St → Hp → Prop, (∀ σ' H', N σ' H' → ∃ m', m' < m ∧ W (i + 1) m' σ' H') ∧ ∀ v H', J.yld i H v H' → g v σ H' fun σ2 H2 => tb { D with nx := N, ct := N, bk := D.nx } σ2 H2)
def kForR (g : TG) (tb : TS) (D : Ends) (σ : L2.St) (vs : List V) (H1 : Hp) : Prop := ∃ j : Int, vs = [.int j] ∧ -(2 ^ 62) ≤ j ∧ j < 2 ^ 62 ∧ kFor (Itr 0 j.toNat) g tb D σ H1
theorem w_forR {a : TA} {g : TG} {tb : TS} (h : a σ H (kForR g tb D σ)) : tFor (iRng1 a) g tb D σ H := h
theorem kForR_i {n : Nat} {j : Nat} {tb : TS} (hn : n ≤ 1000000) (Pv : Nat → L2.St → Hp → Prop) (h0 : Pv 0 σ H) (hs : ∀ i σ' H', i < n → Pv i σ' H' → tb { D with nx := Pv (i + 1), ct := Pv (i + 1), bk := D.nx } (σ'.set j (some (.int (i : Nat)))) H')
    (hd : ∀ σ' H', Pv n σ' H' → D.nx σ' H') : kForR (gName j) tb D σ [.int (n : Nat)] H := by
  refine ⟨n, rfl, by omega, by omega, ?_⟩
  have e : ((n : Nat) : Int).toNat = n := by omega
  rw [e]
  refine for_range (lo := 0) (n := n) Pv h0 (fun i σ' H' hi p => ?_) hd
  show tb { D with nx := Pv (i + 1), ct := Pv (i + 1), bk := D.nx } (σ'.set j (some (.int ((0 : Int) + (i : Nat))))) H'
  rw [Int.zero_add]
  exact hs i σ' H' hi p
def kForR2 (g : TG) (tb : TS) (D : Ends) (σ : L2.St) (vs : List V) (H1 : Hp) : Prop := ∃ i j : Int, vs = [.int i, .int j] ∧ (-(2 ^ 62) ≤ i ∧ i < 2 ^ 62 ∧ -(2 ^ 62) ≤ j ∧ j < 2 ^ 62) ∧ kFor (Itr i (j - i).toNat) g tb D σ H1
theorem w_forR2 {a : TA} {g : TG} {tb : TS} (h : a σ H (kForR2 g tb D σ)) : tFor (iRng2 a) g tb D σ H := h
def kForL (K : PySem.W.Frag) (g : TG) (tb : TS) (D : Ends) (σ : L2.St) (x : V) (H1 : Hp) : Prop := ∃ a, x = .ref a ∧ (∃ xs, SqL K H1 a xs) ∧ kFor (Itl K a) g tb D σ H1
theorem w_forL {tl : TE} {g : TG} {tb : TS} (h : tl σ H (kForL K g tb D σ)) : tFor (iList K tl) g tb D σ H := h
theorem kForL_i {p : Addr} {xs : List V} {g : TG} {tb : TS} (Pv : Nat → L2.St → Hp → Prop) (hp : SqL K H p xs) (h0 : Pv 0 σ H) (hl : ∀ i σ' H', i ≤ xs.length → Pv i σ' H' → SqL K H' p xs)
    (hs : ∀ i v σ' H', xs[i]? = some v → Pv i σ' H' → g v σ' H' fun σ2 H2 => tb { D with nx := Pv (i + 1), ct := Pv (i + 1), bk := D.nx } σ2 H2) (hd : ∀ σ' H', Pv xs.length σ' H' → D.nx σ' H') : kForL K g tb D σ (.ref p) H :=
  ⟨p, rfl, ⟨xs, hp⟩, for_list Pv h0 hl hs hd⟩
def kForT (K : PySem.W.Frag) (g : TG) (tb : TS) (D : Ends) (σ : L2.St) (x : V) (H1 : Hp) : Prop := ∃ a, x = .ref a ∧ (∃ xs, SqT K H1 a xs) ∧ kFor (Itt K a) g tb D σ H1
theorem w_forT {tl : TE} {g : TG} {tb : TS} (h : tl σ H (kForT K g tb D σ)) : tFor (iTup K tl) g tb D σ H := h
theorem kForT_i {p : Addr} {xs : List V} {g : TG} {tb : TS} (Pv : Nat → L2.St → Hp → Prop) (hp : SqT K H p xs) (h0 : Pv 0 σ H) (hl : ∀ i σ' H', i ≤ xs.length → Pv i σ' H' → SqT K H' p xs)
    (hs : ∀ i v σ' H', xs[i]? = some v → Pv i σ' H' → g v σ' H' fun σ2 H2 => tb { D with nx := Pv (i + 1), ct := Pv (i + 1), bk := D.nx } σ2 H2) (hd : ∀ σ' H', Pv xs.length σ' H' → D.nx σ' H') : kForT K g tb D σ (.ref p) H :=
  ⟨p, rfl, ⟨xs, hp⟩, for_tup Pv h0 hl hs hd⟩
/-! comprehensions -/
def kLc (J : It) (g : TG) (tt : TT) (te : TE) (vs : List Nat) (σ : L2.St) (Q : VK) (H1 : Hp) : Prop := ∀ D, H1 D = none → ∃ W : Nat → Nat → Hp → Prop, (∃ m, W 0 m (upd H1 D (.lst []))) ∧ ∀ i m H, W i m H →
  (J.stop i H ∧ Q (.ref D) H) ∨ (J.go i H ∧ ∃ Nx : Hp → Prop, (∀ H', Nx H' → ∃ m', m' < m ∧ W (i + 1) m' H') ∧ ∀ x H', J.yld i H x H' → g x (wipe σ vs) H' fun σ2 H2 => wipe σ2 vs = wipe σ vs ∧ tt σ2 H2 fun b H3 =>
    if b = true then te σ2 H3 fun y H4 => ∃ acc, H4 D = some (.lst acc) ∧ acc.length < sizeLine ∧ Nx (upd H4 D (.lst (acc ++ [y]))) else Nx H3)
def kLcR (g : TG) (tt : TT) (te : TE) (vs : List Nat) (σ : L2.St) (Q : VK) (ws : List V) (H1 : Hp) : Prop := ∃ j : Int, ws = [.int j] ∧ -(2 ^ 62) ≤ j ∧ j < 2 ^ 62 ∧ kLc (Itr 0 j.toNat) g tt te vs σ Q H1
def kLcL (K : PySem.W.Frag) (g : TG) (tt : TT) (te : TE) (vs : List Nat) (σ : L2.St) (Q : VK) (x : V) (H1 : Hp) : Prop := ∃ a, x = .ref a ∧ (∃ xs, SqL K H1 a xs) ∧ kLc (Itl K a) g tt te vs σ Q H1
def kLcT (K : PySem.W.Frag) (g : TG) (tt : TT) (te : TE) (vs : List Nat) (σ : L2.St) (Q : VK) (x : V) (H1 : Hp) : Prop := ∃ a, x = .ref a ∧ (∃ xs, SqT K H1 a xs) ∧ kLc (Itt K a) g tt te vs σ Q H1
theorem w_lcR {a : TA} {g : TG} {vs : List Nat} (h : a σ H (kLcR g t te vs σ Q)) : tLc (iRng1 a) g t te vs σ H Q := h
theorem w_lcL {tl : TE} {g : TG} {vs : List Nat} (h : tl σ H (kLcL K g t te vs σ Q)) : tLc (iList K tl) g t te vs σ H Q := h
theorem w_lcT {tl : TE} {g : TG} {vs : List Nat} (h : tl σ H (kLcT K g t te vs σ Q)) : tLc (iTup K tl) g t te vs σ H Q := h
/-- a list is made, turn by turn, while the run goes on: R tells of each item that is given, at the places that are taken -/
structure Mk (st : Addr) (cs : Addr × Addr) (H0 : Hp) (R : Nat → V → Hp → Prop) (l : Addr) (i : Nat) (H : Hp) : Prop where
  go : Go st cs H0 H
  new : H0 l = none
  ok0 : StOk st cs H0
  at_ : ∃ (ks : List Nat) (ys : List V), H l = some (.lst ys) ∧ ks.length = ys.length ∧ ks.Pairwise (· < ·) ∧ (∀ k ∈ ks, k < i) ∧ ∀ (m : Nat) k v, ks[m]? = some k → ys[m]? = some v → R k v H
end
end AW
/-! data that stand in tuples; lists made by comprehensions while the run goes on -/
namespace AW
open PySem PySem.Spec PyProof.Rows L2

/-- tuples are kept -/
def TK (H H' : Hp) : Prop := ∀ a xs, H a = some (.tup xs) → H' a = some (.tup xs)
theorem TK.refl (H : Hp) : TK H H := fun _ _ h => h
theorem TK.trans {H H1 H2 : Hp} (a : TK H H1) (b : TK H1 H2) : TK H H2 := fun c xs h => b c xs (a c xs h)
theorem Go.tk {st : Addr} {cs : Addr × Addr} {H H' : Hp} (g : Go st cs H H') : TK H H' := g.adv.tup
mutual
/-- the value stands for the datum: scalars, and tuples of such -/
inductive Is (H : Hp) : PyData → V → Prop where
  | non : Is H .none .non
  | bl (b : Bool) : Is H (.bool b) (.bl b)
  | int (i : Int) : Is H (.int i) (.int i)
  | str (x : Str) : Is H (.str x) (.str x)
  | tup {a : Addr} {xs : List V} {ds : List PyData} : H a = some (.tup xs) → IsAll H ds xs → Is H (.tuple ds) (.ref a)
inductive IsAll (H : Hp) : List PyData → List V → Prop where
  | nil : IsAll H [] []
  | cons {d : PyData} {ds : List PyData} {v : V} {vs : List V} : Is H d v → IsAll H ds vs → IsAll H (d :: ds) (v :: vs)
end
mutual
theorem Is.up {H H' : Hp} (k : TK H H') : ∀ {d : PyData} {v : V}, Is H d v → Is H' d v
  | _, _, .non => .non
  | _, _, .bl b => .bl b
  | _, _, .int i => .int i
  | _, _, .str x => .str x
  | _, _, .tup e h => .tup (k _ _ e) (IsAll.up k h)
theorem IsAll.up {H H' : Hp} (k : TK H H') : ∀ {ds : List PyData} {vs : List V}, IsAll H ds vs → IsAll H' ds vs
  | _, _, .nil => .nil
  | _, _, .cons h t => .cons (Is.up k h) (IsAll.up k t)
end
mutual
theorem Is.dp {K : PySem.W.Frag} {H : Hp} : ∀ {d : PyData} {v : V}, Is H d v → Dp K H v d
  | _, _, .non => .non
  | _, _, .bl b => .bl b
  | _, _, .int i => .int i
  | _, _, .str x => .str x
  | _, _, .tup e h => .tup (SqT.of e) (IsAll.dp h)
theorem IsAll.dp {K : PySem.W.Frag} {H : Hp} : ∀ {ds : List PyData} {vs : List V}, IsAll H ds vs → DpAll K H vs ds
  | _, _, .nil => .nil
  | _, _, .cons h t => .cons (Is.dp h) (IsAll.dp t)
end
theorem IsAll.length {H : Hp} : ∀ {ds : List PyData} {vs : List V}, IsAll H ds vs → vs.length = ds.length
  | _, _, .nil => rfl
  | _, _, .cons _ t => congrArg (· + 1) t.length
theorem IsAll.get {H : Hp} : ∀ {ds : List PyData} {vs : List V} {i : Nat} {v : V}, IsAll H ds vs → vs[i]? = some v → ∃ d, ds[i]? = some d ∧ Is H d v
  | _, _, _, _, .nil, e => by simp at e
  | _, _, 0, _, .cons h _, e => by
    simp at e
    subst e
    exact ⟨_, rfl, h⟩
  | _, _, i + 1, v, .cons _ t, e => by
    obtain ⟨d, h1, h2⟩ := IsAll.get (i := i) (v := v) t (by simpa using e)
    exact ⟨d, by simpa using h1, h2⟩
theorem IsAll.get' {H : Hp} : ∀ {ds : List PyData} {vs : List V} {i : Nat} {d : PyData}, IsAll H ds vs → ds[i]? = some d → ∃ v, vs[i]? = some v ∧ Is H d v
  | _, _, _, _, .nil, e => by simp at e
  | _, _, 0, _, .cons h _, e => by
    simp at e
    subst e
    exact ⟨_, rfl, h⟩
  | _, _, i + 1, d, .cons _ t, e => by
    obtain ⟨v, h1, h2⟩ := IsAll.get' (i := i) (d := d) t (by simpa using e)
    exact ⟨v, by simpa using h1, h2⟩
theorem IsAll.of {H : Hp} : ∀ (ds : List PyData) (vs : List V), vs.length = ds.length → (∀ (i : Nat) d v, ds[i]? = some d → vs[i]? = some v → Is H d v) → IsAll H ds vs
  | [], [], _, _ => .nil
  | d :: ds, v :: vs, hl, h => .cons (h 0 d v rfl rfl) (IsAll.of ds vs (Nat.succ.inj hl) fun i d' v' h1 h2 => h (i + 1) d' v' (by simpa using h1) (by simpa using h2))
  | [], _ :: _, hl, _ => by simp at hl
  | _ :: _, [], hl, _ => by simp at hl
theorem IsAll.append {H : Hp} : ∀ {ds es : List PyData} {vs ws : List V}, IsAll H ds vs → IsAll H es ws → IsAll H (ds ++ es) (vs ++ ws)
  | _, _, _, _, .nil, h => h
  | _, _, _, _, .cons a t, h => .cons a (IsAll.append t h)
theorem IsAll.ints {H : Hp} : ∀ (ns : List Int), IsAll H (ns.map .int) (ns.map V.int)
  | [] => .nil
  | n :: ns => .cons (.int n) (IsAll.ints ns)
theorem IsAll.strs {H : Hp} : ∀ (ns : List Str), IsAll H (ns.map .str) (ns.map V.str)
  | [] => .nil
  | n :: ns => .cons (.str n) (IsAll.strs ns)
theorem IsAll.ints_inv {H : Hp} : ∀ {ns : List Int} {vs : List V}, IsAll H (ns.map .int) vs → vs = ns.map V.int
  | [], _, .nil => rfl
  | n :: ns, _, .cons h t => by
    cases h
    rw [IsAll.ints_inv t]
    rfl
theorem Is.int_inv {H : Hp} {n : Int} {v : V} (h : Is H (.int n) v) : v = .int n := by
  cases h
  rfl
theorem Is.str_inv {H : Hp} {n : Str} {v : V} (h : Is H (.str n) v) : v = .str n := by
  cases h
  rfl
theorem Is.tup_inv {H : Hp} {ds : List PyData} {v : V} (h : Is H (.tuple ds) v) : ∃ a xs, v = .ref a ∧ H a = some (.tup xs) ∧ IsAll H ds xs := by
  cases h with
  | tup e t => exact ⟨_, _, rfl, e, t⟩
section
variable {K : PySem.W.Frag} {st : Addr} {cs : Addr × Addr} {J : It} {n : Nat} {G : Hp → Prop} {Y : Nat → Hp → V → Hp → Prop} {g : TG} {tt : TT} {te : TE} {vs : List Nat} {σ : L2.St} {Q : VK} {H1 : Hp}
/-- a comprehension without a test -/
theorem kLc_all (wk : Walk J n G Y) (hn : n ≤ 100000) (ok : StOk st cs H1) (hG : ∀ H', Go st cs H1 H' → G H') (R : Nat → V → Hp → Prop) (mono : ∀ i v H H', TK H H' → R i v H → R i v H')
    (step : ∀ i x H H' (Kt : V → Hp → Prop), i < n → Go st cs H1 H → Y i H x H' → (∀ y H4, Go st cs H H4 → R i y H4 → Kt y H4) → g x (wipe σ vs) H' fun σ2 H2 => wipe σ2 vs = wipe σ vs ∧ te σ2 H2 Kt)
    (k : ∀ p H' ys, H1 p = none → Go st cs H1 H' → H' p = some (.lst ys) → ys.length = n → (∀ (i : Nat) v, ys[i]? = some v → R i v H') → Q (.ref p) H') : kLc J g tYes te vs σ Q H1 := by
  intro D hD
  have nD := ok.ne hD
  refine lc_it wk (fun i H => Go st cs H1 H ∧ ∃ ys, H D = some (.lst ys) ∧ ys.length = i ∧ ∀ (m : Nat) v, ys[m]? = some v → R m v H) ⟨.of ok (Adv.new hD), [], upd_same, rfl, fun m v e => by simp at e⟩ (fun i H _ p => hG H p.1)
    (fun i x H H' hi p y => ?_) fun H p => ?_
  · obtain ⟨g1, ys, e1, hl, hr⟩ := p
    refine step i x H H' _ hi g1 y fun v H4 g4 r4 => ?_
    have e4 : H4 D = some (.lst ys) := g4.keep nD.1 e1
    have t5 : TK H4 (upd H4 D (.lst (ys ++ [v]))) := (Adv.lst e4).tup
    refine ⟨ys, e4, Nat.lt_of_lt_of_le (show ys.length < 100001 by omega) (by decide), (g1.trans g4).mutL ok hD e4, ys ++ [v], upd_same, by rw [List.length_append, hl]; rfl, fun m w e => ?_⟩
    by_cases hm : m < ys.length
    · rw [List.getElem?_append_left hm] at e
      exact mono _ _ _ _ (g4.tk.trans t5) (hr m w e)
    · have hm2 : m = ys.length := by
        have := (List.getElem?_eq_some_iff.mp e).1
        rw [List.length_append] at this
        simp at this
        omega
      subst hm2
      rw [List.getElem?_append_right (Nat.le_refl _), Nat.sub_self] at e
      simp at e
      subst e
      rw [hl]
      exact mono _ _ _ _ t5 r4
  · obtain ⟨g1, ys, e1, hl, hr⟩ := p
    exact k D H ys hD g1 e1 hl hr
end
theorem at_nat {xs : List V} {n : Int} {v : V} (h0 : 0 ≤ n) (h : xs[n.toNat]? = some v) : atI xs n = some v := at_of (j := n.toNat) (by omega) h
theorem get_some {α : Type} {xs : List α} {i : Nat} (h : i < xs.length) : ∃ v, xs[i]? = some v := ⟨xs[i], List.getElem?_eq_getElem h⟩
theorem cut_to (xs : List V) {n : Int} (h0 : 0 ≤ n) : cutV xs none (some n) = xs.take n.toNat := by
  obtain ⟨m, rfl⟩ : ∃ m : Nat, n = m := ⟨n.toNat, by omega⟩
  unfold cutV
  rw [HT.sIx_none, HT.sIx_nat]
  simp only [List.drop_zero, Nat.sub_zero, Int.toNat_natCast]
  by_cases h : m ≤ xs.length
  · rw [Nat.min_eq_left h]
  · rw [Nat.min_eq_right (by omega), List.take_of_length_le (Nat.le_refl _), List.take_of_length_le (by omega)]
theorem SqL.upd {K : PySem.W.Frag} {H : Hp} {a : Addr} {xs : List V} : SqL K (upd H a (.lst xs)) a xs := SqL.of upd_same
theorem getD_of {α : Type} {xs : List α} {i : Nat} {d v : α} (h : xs[i]? = some v) : xs.getD i d = v := by rw [List.getD_eq_getElem?_getD, h]; rfl
end AW
/-! zip of three tuples of one length; zip of two tuples as a walk; dicts made by comprehensions -/
namespace AW
open PySem PySem.Spec PyProof.Rows L2 RZ

/-- three tuples beside one another, of one length -/
def Itz3 (K : PySem.W.Frag) (a b c : Addr) : It where
  go i H := ∃ xs ys zs : List V, SqT K H a xs ∧ SqT K H b ys ∧ SqT K H c zs ∧ i < xs.length ∧ i < ys.length ∧ i < zs.length
  yld i H v H' := ∃ (T : Addr) (x y u : V), v = .ref T ∧ H T = none ∧ H' = upd H T (.tup [x, y, u]) ∧ (∀ xs, SqT K H a xs → xs[i]? = some x) ∧ (∀ ys, SqT K H b ys → ys[i]? = some y) ∧ ∀ zs, SqT K H c zs → zs[i]? = some u
  stop i H := ∃ xs ys zs : List V, SqT K H a xs ∧ SqT K H b ys ∧ SqT K H c zs ∧ i = xs.length ∧ i = ys.length ∧ i = zs.length

/-- what stands within zip(a, b, c) -/
def iZip3 (K : PySem.W.Frag) (ta : TA) : TI := fun σ H R => ta σ H fun vs H1 => ∃ (a b c : Addr) (xs ys zs : List V), vs = [.ref a, .ref b, .ref c] ∧ SqT K H1 a xs ∧ SqT K H1 b ys ∧ SqT K H1 c zs ∧ R (Itz3 K a b c) H1
theorem no2 {x y z : Nat} (h1 : x ≠ y) (h2 : x ≠ z) : x ∉ [y, z] := fun h => by
  rcases List.mem_cons.mp h with e | e
  · exact h1 e
  · exact h2 (List.mem_singleton.mp e)
section
variable {K : PySem.W.Frag} {a b c : Addr} {xs ys zs : List V}
theorem walk_zipT (h1 : ys.length = xs.length) : Walk (ItzT K a b) xs.length (fun H => H a = some (.tup xs) ∧ H b = some (.tup ys)) (YPair (fun i => xs[i]?) (fun i => ys[i]?)) :=
  ⟨fun i H hi q => ⟨xs, ys, xs[i], ys[i], SqT.of q.1, SqT.of q.2, List.getElem?_eq_getElem hi, List.getElem?_eq_getElem (by omega)⟩, fun H q => ⟨xs, ys, SqT.of q.1, SqT.of q.2, .inl (Nat.le_refl _)⟩,
    fun i H v H' _ q ⟨T, x, y, e1, e2, e3, e4, e5⟩ => ⟨T, x, y, e1, e2, e3, e4 _ (SqT.of q.1), e5 _ (SqT.of q.2)⟩⟩
end

/-! ### comprehensions that leave the state alone: a pure one; a dict -/
section
variable {J : It} {n : Nat} {G : Hp → Prop} {Y : Nat → Hp → V → Hp → Prop} {g : TG} {tt : TT} {te tk tv : TE} {vs : List Nat} {σ : L2.St} {Q : VK} {H1 : Hp} {K : PySem.W.Frag} {ta : TA}
/-- a comprehension with a test, nothing changed but new objects; B tells the test's word at each turn, v the item's value -/
theorem kLc_pure (wk : Walk J n G Y) (hn : n ≤ 100000) (hG : ∀ H', Adv [] H1 H' → G H') (B : Nat → Bool) (v : Nat → V)
    (step : ∀ i x H H' (Kt : V → Hp → Prop) (Kf : Hp → Prop), i < n → Adv [] H1 H → Y i H x H' → (B i = true → ∀ H4, Adv [] H H4 → Kt (v i) H4) → (B i = false → ∀ H3, Adv [] H H3 → Kf H3) →
      g x (wipe σ vs) H' fun σ2 H2 => wipe σ2 vs = wipe σ vs ∧ tt σ2 H2 fun b H3 => if b = true then te σ2 H3 Kt else Kf H3)
    (k : ∀ p H', H1 p = none → Adv [] H1 H' → H' p = some (.lst (((List.range n).filter B).map v)) → Q (.ref p) H') : kLc J g tt te vs σ Q H1 := by
  intro D hD
  refine lc_it wk (fun i H => i ≤ n ∧ Adv [] H1 H ∧ H D = some (.lst (((List.range i).filter B).map v))) ⟨Nat.zero_le _, Adv.new hD, upd_same⟩ (fun i H _ p => hG H p.2.1) (fun i x H H' hi p y => ?_) fun H p => k D H hD p.2.1 p.2.2
  obtain ⟨_, g1, e1⟩ := p
  have hlen : (((List.range i).filter B).map v).length ≤ 100000 := by
    rw [List.length_map]
    refine Nat.le_trans (List.length_filter_le ..) ?_
    rw [List.length_range]
    omega
  refine step i x H H' _ _ hi g1 y (fun hb H4 g4 => ?_) fun hb H3 g3 => ?_
  · have e4 := g4.keep _ _ (fun z => nomatch z) e1
    refine ⟨_, e4, Nat.lt_of_lt_of_le (Nat.lt_succ_of_le hlen) (by decide), hi, (g1.trans g4).mut hD e4 (fun _ z => by cases z), ?_⟩
    rw [upd_same, List.range_succ, List.filter_append, List.map_append]
    simp [hb]
  · refine ⟨hi, g1.trans g3, ?_⟩
    rw [g3.keep _ _ (fun z => nomatch z) e1, List.range_succ, List.filter_append, List.map_append]
    simp [hb]
/-- over three tuples of one length -/
def kLc3 (K : PySem.W.Frag) (g : TG) (tt : TT) (te : TE) (vs : List Nat) (σ : L2.St) (Q : VK) (ws : List V) (H1 : Hp) : Prop := ∃ (a b c : Addr) (xs ys zs : List V), ws = [.ref a, .ref b, .ref c] ∧ SqT K H1 a xs ∧ SqT K H1 b ys ∧ SqT K H1 c zs ∧ kLc (Itz3 K a b c) g tt te vs σ Q H1
theorem w_lc3 (h : ta σ H1 (kLc3 K g tt te vs σ Q)) : tLc (iZip3 K ta) g tt te vs σ H1 Q := h
/-- a dict is made, turn by turn -/
def kDc (J : It) (g : TG) (tt : TT) (tk tv : TE) (vs : List Nat) (σ : L2.St) (Q : VK) (H1 : Hp) : Prop := ∀ D, H1 D = none → ∃ W : Nat → Nat → Hp → Prop, (∃ m, W 0 m (upd H1 D (.dK []))) ∧ ∀ i m H, W i m H →
  (J.stop i H ∧ Q (.ref D) H) ∨ (J.go i H ∧ ∃ Nx : Hp → Prop, (∀ H', Nx H' → ∃ m', m' < m ∧ W (i + 1) m' H') ∧ ∀ x H', J.yld i H x H' → g x (wipe σ vs) H' fun σ2 H2 => wipe σ2 vs = wipe σ vs ∧ tt σ2 H2 fun b H3 =>
    if b = true then tk σ2 H3 fun y H4 => tv σ2 H4 fun z H5 => ∃ kvs k, y = kV k ∧ H5 D = some (.dK kvs) ∧ kvs.length < sizeLine ∧ Nx (upd H5 D (.dK (putK kvs k z))) else Nx H3)
/-- all turns give: the dict holds the last of each key -/
def dictOf (key : Nat → Key) (val : Nat → V) : Nat → List (Key × V)
  | 0 => []
  | i + 1 => putK (dictOf key val i) (key i) (val i)
theorem dictOf_len (key : Nat → Key) (val : Nat → V) : ∀ n, (dictOf key val n).length ≤ n
  | 0 => Nat.le_refl _
  | i + 1 => Nat.le_trans (length_putK ..) (Nat.succ_le_succ (dictOf_len key val i))
theorem kDc_pure (wk : Walk J n G Y) (hn : n ≤ 100000) (hG : ∀ H', Adv [] H1 H' → G H') (key : Nat → Key) (val : Nat → V)
    (step : ∀ i x H H' (Kt : V → V → Hp → Prop), i < n → Adv [] H1 H → Y i H x H' → (∀ H4, Adv [] H H4 → Kt (kV (key i)) (val i) H4) → g x (wipe σ vs) H' fun σ2 H2 => wipe σ2 vs = wipe σ vs ∧ tk σ2 H2 fun y H4 => tv σ2 H4 (Kt y))
    (k : ∀ p H', H1 p = none → Adv [] H1 H' → H' p = some (.dK (dictOf key val n)) → Q (.ref p) H') : kDc J g tYes tk tv vs σ Q H1 := by
  intro D hD
  refine ⟨fun i m H => m = n - i ∧ i ≤ n ∧ Adv [] H1 H ∧ H D = some (.dK (dictOf key val i)), ⟨n, by simp, Nat.zero_le _, Adv.new hD, upd_same⟩, ?_⟩
  rintro i m H ⟨rfl, hi, g1, e1⟩
  have q := hG H g1
  by_cases hlt : i < n
  · refine .inr ⟨wk.goes i H hlt q, fun H' => i + 1 ≤ n ∧ Adv [] H1 H' ∧ H' D = some (.dK (dictOf key val (i + 1))), fun H' p' => ⟨n - (i + 1), by omega, rfl, p'⟩, fun x H' y => ?_⟩
    refine step i x H H' (fun y z H5 => ∃ kvs k, y = kV k ∧ H5 D = some (.dK kvs) ∧ kvs.length < sizeLine ∧ (fun H' => i + 1 ≤ n ∧ Adv [] H1 H' ∧ H' D = some (.dK (dictOf key val (i + 1)))) (upd H5 D (.dK (putK kvs k z)))) hlt g1 (wk.yields i H x H' hlt q y) fun H4 g4 => ?_
    have e4 := g4.keep _ _ (fun z => nomatch z) e1
    exact ⟨_, key i, rfl, e4, Nat.lt_of_le_of_lt (dictOf_len key val i) (Nat.lt_of_lt_of_le (show i < 100001 by omega) (by decide)), hlt, (g1.trans g4).mut hD e4 (fun _ z => by cases z), upd_same⟩
  · have e : i = n := by omega
    subst e
    exact .inl ⟨wk.stops H q, k D H hD g1 e1⟩
/-- a dict over zip(a, b) of tuples; over a tuple -/
def kDcZ (K : PySem.W.Frag) (g : TG) (tt : TT) (tk tv : TE) (vs : List Nat) (σ : L2.St) (Q : VK) (ws : List V) (H1 : Hp) : Prop := ∃ a b xs ys, ws = [.ref a, .ref b] ∧ ((SqL K H1 a xs ∧ SqL K H1 b ys ∧ kDc (Itz K a b) g tt tk tv vs σ Q H1) ∨ (SqT K H1 a xs ∧ SqT K H1 b ys ∧ kDc (ItzT K a b) g tt tk tv vs σ Q H1))
theorem w_dcZ (h : ta σ H1 (kDcZ K g tt tk tv vs σ Q)) : tDc (iZipA K ta) g tt tk tv vs σ H1 Q := h
def kDcT (K : PySem.W.Frag) (g : TG) (tt : TT) (tk tv : TE) (vs : List Nat) (σ : L2.St) (Q : VK) (x : V) (H1 : Hp) : Prop := ∃ a, x = .ref a ∧ (∃ xs, SqT K H1 a xs) ∧ kDc (Itt K a) g tt tk tv vs σ Q H1
theorem w_dcT {tl : TE} (h : tl σ H1 (kDcT K g tt tk tv vs σ Q)) : tDc (iTup K tl) g tt tk tv vs σ H1 Q := h
/-! pairs and triples taken apart -/
theorem w_gtup {n : Nat} {t : TGs} {a : Addr} {xs : List V} {σ : L2.St} {H : Hp} {Q : L2.St → Hp → Prop} (h : SqT K H a xs) (hl : xs.length = n) (q : t xs σ H Q) : gTup K n t (.ref a) σ H Q := ⟨a, xs, rfl, h, hl, q⟩
theorem w_gcons {t : TG} {u : TGs} {v : V} {r : List V} {σ : L2.St} {H : Hp} {Q : L2.St → Hp → Prop} (q : t v σ H fun σ' H' => u r σ' H' Q) : gCons t u (v :: r) σ H Q := ⟨v, r, rfl, q⟩
theorem w_gnil {σ : L2.St} {H : Hp} {Q : L2.St → Hp → Prop} (q : Q σ H) : gNil [] σ H Q := ⟨rfl, q⟩
end
end AW
/-! tuple(d): a dict's keys -/
namespace AW
open PySem PySem.Spec PyProof.Rows L2
section
variable {prog : Program} {w : World} {A : Around} {E : Value → Shared → Prop} {s : Shared} {T : String} {r d : Addr} {n : Nat} {P : Nat → Value → Prop} {OK : Heap → Prop}
end
end AW
/-! sorted(t), t a tuple of texts -/
namespace AW
open PySem PySem.Spec PyProof.Rows L2
end AW
/-! list(x), x a text -/
namespace AW
open PySem PySem.Spec PyProof.Rows L2
section
variable {prog : Program} {w : World} {A : Around} {E : Value → Shared → Prop} {s : Shared}
end
end AW
namespace PySem
namespace STT
open PyProof.Rows
/-! set(t) of a tuple of texts: how many it has -/
section
variable {P : Program} {w : World} {A : Around} {E : Value → Shared → Prop} {s : Shared}
/-- what is told of a set while the first i texts have been put in -/
def Told (P : Program) (w : World) (S : Addr) (xs : List Str) (i : Nat) (h : Heap) : Prop :=
  ∃ c, h.SetOf (strKind P w) S (fun k => decide (k ∈ xs.take i)) c ∧ c ≤ i ∧ (c = i ↔ (xs.take i).Nodup)
theorem Told.at {S : Addr} {xs : List Str} {i : Nat} {h h' : Heap} (x : Told P w S xs i h) (k : ∀ o, h.get? S = some o → h'.get? S = some o) : Told P w S xs i h' := by
  obtain ⟨c, ⟨o, es, ep, tb, ho, r⟩, y⟩ := x
  exact ⟨c, ⟨o, es, ep, tb, k o ho, r⟩, y⟩
theorem put_texts {I : Addr} {fp wr : List Addr} {G : Array GenState → Array GenState → Prop} {Pv : Nat → Value → Prop} {St : Nat → Shared → Prop} {R : Result → Shared → Prop} (xs : List Str)
    (W : WalksS P w A.in1 I fp wr G xs.length Pv St) (S : Addr) (hSf : S ∉ fp) (hb : xs.length + 1 < scanBound) (hval : ∀ i v, Pv i v → ∃ z t, xs[i]? = some z ∧ v = .str z t) :
    ∀ (k i : Nat) (s : Shared), i + k = xs.length → St i s → Told P w S xs i s.heap →
      (∀ s', Moved (S :: wr) G s s' → Told P w S xs xs.length s'.heap → R (.ok (.ret .none)) s') →
      codeAny (model P w) A (.builtin "set.update.loop" ⟨[.ref S, .ref I], []⟩) R s
  | 0, i, s, e, st, hS, hR => by
    obtain rfl : i = xs.length := by omega
    refine codeAny_builtin F.entry_set_update_loop ?_
    rw [Around.under_plainId F.plain_set_update_loop _]
    refine wpAny_bind (W.done s _ _ st fun s' hm => ?_)
    exact wpAny_pure (hR s' (hm.mono fun b hb => List.mem_cons_of_mem _ hb) (hS.at fun o e => hm.heap S o (fun h => hSf (W.sub _ h)) e))
  | k + 1, i, s, e, st, hS, hR => by
    refine codeAny_builtin F.entry_set_update_loop ?_
    rw [Around.under_plainId F.plain_set_update_loop _]
    refine wpAny_bind (W.item i s _ _ (by omega) st fun v s1 hP st1 hm => ?_)
    obtain ⟨z, t, hz, rfl⟩ := hval i v hP
    obtain ⟨c, hS1, hc, hn⟩ := hS.at (h' := s1.heap) fun o e => hm.heap S o (fun h => hSf (W.sub _ h)) e
    refine wpAny_bind (wpAny_holding ?_)
    unfold setAdd
    refine wpAny_holding (wpAny_bind ((strKind P w).pyHash (k := z) (strKind_is _ _ _ _) ?_))
    refine wpAny_setAddHashed_of (knd := strKind P w) (s := { s1 with toks := s1.toks + 1 }) (strKind_is _ _ _ _) rfl hS1 (by omega) fun h' hsb hS2 => ?_
    have T2 : Told P w S xs (i + 1) h' := by
      refine ⟨_, SetOf_congr hS2 (fun j => ?_) rfl, ?_, ?_⟩
      · rw [List.take_add_one, hz]
        simp [List.mem_append]
      · split <;> omega
      · rw [List.take_add_one, hz]
        have nd : (xs.take i ++ (some z).toList).Nodup ↔ (xs.take i).Nodup ∧ z ∉ xs.take i := by
          rw [List.nodup_append]
          constructor
          · rintro ⟨h1, _, h3⟩
            exact ⟨h1, fun hm => h3 z hm z (by simp) rfl⟩
          · rintro ⟨h1, h2⟩
            refine ⟨h1, by simp, fun a ha b hb e => h2 ?_⟩
            have hb' : b = z := by simpa using hb
            rw [← hb', ← e]
            exact ha
        rw [nd, ← hn]
        by_cases hm : z ∈ xs.take i
        · simp only [hm, decide_true, if_true, not_true, and_false, iff_false]
          omega
        · simp only [hm, decide_false, not_false_iff, and_true]
          simp
    have same : ∀ b, b ≠ S → ∀ o, s1.heap.get? b = some o → h'.get? b = some o := fun b hb o e => by rw [hsb.2 b hb]; exact e
    refine wpAny_pure ⟨plainId_quiet F.plain_set_update_loop _, put_texts xs W S hSf hb hval k (i + 1) _ (by omega) (W.frame _ s1 _ _ st1 (Nat.le_succ _) fun b hb o e => same b (fun h => hSf (by rw [← h]; exact hb)) o e) T2 fun s'' m2 hS'' => ?_⟩
    exact hR s'' (Moved.trans W.gtrans ((hm.mono fun b hb => List.mem_cons_of_mem _ hb).then_heap (Nat.le_succ _) fun b o hb e => same b (fun h => hb (by rw [h]; exact List.mem_cons_self)) o e) m2) hS''
/-- set(t) -/
theorem call_set_texts {l : Addr} {items : Array Value} {xs : List Str} {Q : Value → Shared → Prop} (hh : A.handled = none) (hl : s.heap.IsTuple l items) (hi : StrsAre items.toList xs) (hb : xs.length + 1 < scanBound)
    (h : ∀ (h' : Heap) (tk : Nat), Told P w s.heap.objs.size xs xs.length h' → (∀ b o, s.heap.get? b = some o → h'.get? b = some o) → Q (.ref s.heap.objs.size) { s with heap := h', toks := tk }) :
    wpAny (model P w) A (call (.type "set") [.ref l]) Q E s := by
  have hsz : items.size = xs.length := by rw [← StrsAre.len_eq hi, Array.length_toList]
  have C := PySem.F.called_set
  obtain ⟨c0, tl0, hmro⟩ := C.mro
  have f1 := C.made
  have f2 := C.sub
  have f3 := C.notType
  have f4 := C.canCreate
  have f5 := PySem.F.typeCall_set_1 (.ref l)
  refine wpAny_call (codeAny_of_tree ?_)
  refine wpAny_pure ⟨Code.quiet_builtin _ (by decide +kernel), codeAny_builtin PySem.F.entry_type_call ?_⟩
  rw [Around.under_plain (weight_type_call_type "set" [.ref l] []) rfl]
  repeat (any_goals (first | assumption | wp_step))
  refine codeAny_mono (code_set_new_1 (.ref l) (E := E) (Q₁ := fun u s₁ => u = .ref s.heap.objs.size ∧ ∃ led : Bool, s₁ = { s with heap := s.heap.push { cls := .type "set", dict := none, data := .set #[] 0 (.fresh 0 0 led) } }) fun led => ⟨rfl, led, rfl⟩) fun r s₁ hr => ?_
  match r, hr with
  | .error e, hr => exact hr
  | .ok .next, hr => exact hr.elim
  | .ok .brk, hr => exact hr.elim
  | .ok .cont, hr => exact hr.elim
  | .ok (.ret u), hr =>
    obtain ⟨rfl, led, rfl⟩ := hr
    have hS : (s.heap.push { cls := .type "set", dict := none, data := .set #[] 0 (.fresh 0 0 led) }).get? s.heap.objs.size = some { cls := .type "set", dict := none, data := .set #[] 0 (.fresh 0 0 led) } := Heap.get?_push_size _ rfl
    have hT : Shared.TypeIs { s with heap := s.heap.push { cls := .type "set", dict := none, data := .set #[] 0 (.fresh 0 0 led) } } (.ref s.heap.objs.size) "set" := ⟨_, hS, rfl⟩
    have f6 := C.init.lookup
    have f7 := C.init.bind (.ref s.heap.objs.size)
    repeat (any_goals (first | assumption | wp_step))
    refine codeAny_mono (codeAny_call_builtin (R := wants (fun u s₂ => u = .none ∧ ∃ h' tk, s₂ = { s with heap := h', toks := tk } ∧ Told P w s.heap.objs.size xs xs.length h' ∧ ∀ b o, s.heap.get? b = some o → h'.get? b = some o) E)
      C.init.plain PySem.F.entry_set_init (check_set_init_1 hT ?_)) fun r₂ s₂ hr₂ => ?_
    · have hl1 : (s.heap.push { cls := .type "set", dict := none, data := .set #[] 0 (.fresh 0 0 led) }).IsTuple l items := hl.push _
      have hlS : l < s.heap.objs.size := by
        obtain ⟨ol, hol, _⟩ := hl
        exact Heap.lt_size hol
      obtain ⟨⟨kc, kd, kx, ks⟩, hol, hcl, nl, hdl⟩ := hl1
      simp only at hcl hdl
      subst hcl; subst hdl
      have hl1 : (s.heap.push { cls := .type "set", dict := none, data := .set #[] 0 (.fresh 0 0 led) }).IsTuple l items := ⟨_, hol, rfl, nl, rfl⟩
      have g1 := PySem.F.sub_tuple_set
      have g2 := PySem.F.sub_tuple_frozenset
      have g3 : (Value.type "tuple" == Value.type "dict") = false := by decide
      unfold Builtin.«set.__init__» noKeywords Builtin.Frozenset.updateFrom
      generalize hPI : pyIter = PI
      wp_walk
      subst hPI
      refine wpAny_pyIter_tuple hl1 ?_
      refine wpAny_bind (wpAny_runValue ?_)
      have zs : (s.heap.push { cls := .type "set", dict := none, data := .set #[] 0 (.fresh 0 0 led) }).objs.size = s.heap.objs.size + 1 := Heap.size_push ..
      have hval : ∀ (i : Nat) (v : Value), items[i]? = some v → ∃ z t, xs[i]? = some z ∧ v = .str z t := fun i v hv => by
        obtain ⟨t, e⟩ := SS.strs_at hi i v (by rw [Array.getElem?_toList]; exact hv)
        have hlt : i < xs.length := by rw [← hsz]; exact (Array.getElem?_eq_some_iff.mp hv).1
        exact ⟨xs[i], t, List.getElem?_eq_getElem hlt, by rw [e, List.getD_eq_getElem?_getD, List.getElem?_eq_getElem hlt]; rfl⟩
      have hne : l ≠ (s.heap.push { cls := .type "set", dict := none, data := .set #[] 0 (.fresh 0 0 led) }).objs.size := by
        rw [zs]
        exact Nat.ne_of_lt (Nat.lt_succ_of_lt hlS)
      refine put_texts xs (hsz ▸ (Walks.tuple (by simp [hh]) _ l hne items).toS) s.heap.objs.size (by simp only [zs, List.mem_cons, List.not_mem_nil, or_false, not_or]; exact ⟨Nat.ne_of_lt (Nat.lt_succ_self _), Nat.ne_of_gt hlS⟩) hb hval xs.length 0 _ (by omega) ⟨⟨_, Heap.get?_push_size _ rfl, rfl, rfl⟩, hl1.push _⟩ ?_ ?_
      · exact ⟨0, SetOf_congr ((setObjOf_fresh (knd := strKind P w) led).setOf (Heap.get?_push_of_some _ hS) (by unfold scanBound; omega)) (fun _ => rfl) rfl, Nat.le_refl _, by simp⟩
      · intro s' hm hS'
        obtain ⟨h', g', d', tk', os'⟩ := s'
        obtain rfl : g' = s.gens := hm.gens
        obtain rfl : d' = s.drawn := hm.drawn
        obtain rfl : os' = s.os := hm.os
        refine wpAny_pure (wpAny_pure ⟨rfl, h', tk', rfl, hS', fun b o e => ?_⟩)
        have hlb := Heap.lt_size e
        exact hm.heap b o (by simp only [zs, List.mem_cons, List.not_mem_nil, or_false, not_or]; exact ⟨Nat.ne_of_lt hlb, Nat.ne_of_lt (Nat.lt_succ_of_lt hlb)⟩) (Heap.get?_push_of_some _ (Heap.get?_push_of_some _ e))
    · match r₂, hr₂ with
      | .error e, hr₂ => exact hr₂
      | .ok .next, hr₂ => exact hr₂.elim
      | .ok .brk, hr₂ => exact hr₂.elim
      | .ok .cont, hr₂ => exact hr₂.elim
      | .ok (.ret u), hr₂ =>
        obtain ⟨rfl, h', tk, rfl, hS', hk'⟩ := hr₂
        repeat (any_goals (first | assumption | wp_step))
        exact h _ _ hS' hk'
end
end STT
end PySem
namespace L2
open PySem PySem.Spec PyProof.Rows
section
variable {X : Cx}
/-- len(set(t)), t a tuple of texts: as many as t has just where no text stands twice -/
def tLenSetS (K : PySem.W.Frag) (ta : TE) : TE := fun σ H Q => ta σ H fun x H1 => ∃ (l : Addr) (xs : List Str), x = .ref l ∧ SqT K H1 l (xs.map V.str) ∧ xs.length ≤ 1000 ∧ ∀ c : Nat, (c = xs.length ↔ xs.Nodup) → Q (.int (c : Nat)) H1
theorem pe_lenSetS {a : Expr} {ta : TE} {p p2 q pos : Pos} (hc : X.calm = true) (hg : Gl X "len") (hm : X.mg "len" = none) (hg2 : Gl X "set") (hm2 : X.mg "set" = none) (ha : PE X a ta)
    (na : starEach [a] X.env = (false, eval a X.env) :: starEach [] X.env := by rfl) : PE X (.Call (.Name "len" p) [.Call (.Name "set" p2) [a] [] q] [] pos) (tLenSetS X.K ta) := by
  refine ⟨fun pins s σ H Q I h => ?_⟩
  refine Call_ (ld_blt I hg hm boot_len ?_)
  refine PyProof.Rows.callWith_builtin1 (PyProof.Rows.args_cons ?_ rfl) rfl rfl
  refine Call_ (ld_blt I hg2 hm2 boot_set ?_)
  refine PyProof.Rows.callWith_type1 (PyProof.Rows.args_cons (thn (ha.run pins s σ H _ I h) fun v s1 ⟨x, H1, I1, r1, q1⟩ => PyProof.Rows.args_nil ?_) na) na rfl
  obtain ⟨l, xs, rfl, hq, hl, q1⟩ := q1
  cases r1
  obtain ⟨its, r, pl, hz⟩ := I1.tuple hq
  refine STT.call_set_texts (I1.ok.hd hc) pl (by simpa using strsAre_of r) (by unfold scanBound; omega) fun h' tk hS hk => ?_
  refine PyProof.Rows.args_nil ?_
  obtain ⟨c, hS, hc1, hn⟩ := hS
  obtain ⟨o, es, ep, t, ho, hex, hd, _, _, _, hf, he⟩ := hS
  have I2 : Inv X pins σ H1 { s1 with heap := h', toks := tk } := I1.kept hk
  rw [List.take_length] at hn
  refine call_len_set ho hex hd hf (by rw [he] <;> omega) ⟨.int (c : Nat), H1, I2.tok _, ⟨_, by rw [he]⟩, q1 c hn⟩
end
end L2
namespace L2
open PySem PySem.Spec PyProof.Rows
/-! exceptions of classes over a class of the program over ValueError -/
/-- the class at W that has no __init__ of its own, above it ValueError -/
structure WiC (K : PySem.W.Frag) (W : Addr) : Prop where
  reads : PySem.W.readsIn K W (.type "type") = true
  ga : PySem.W.specialIn K (.ref W) "__getattribute__" = some (some (.builtin "type.__getattribute__"))
  fi : PySem.W.findCls K (.ref W) (.type "type") "__init__" = some (.val (.builtin "ValueError.__init__"))
section
variable {X : Cx} {o e : Expr} {es : List Expr} {to te : TE} {ta : TA} {f : Str} {p p' p1 p2 pos : Pos}
/-- W.__init__(self, ..), W a class of the program with ValueError's __init__ -/
theorem pe_weinit {W : Addr} {x : Str} {pl : Sem Bool} (hg : Gl X x) (hm : X.mg x = some (.ref W)) (T : WiC X.K W) (ha : PA X (e :: es) ta) (hdb : (x == ("__debug__" : Str)) = false := by decide)
    (hc : eval (.Call (.Attribute (.Name x p1) "__init__" p2) (e :: es) [] pos) X.env = (do
      let ov ← eval (.Name x p1) X.env
      standAt p2.atName
      let (f, first) ← holding [ov] (getMethod ov "__init__" pl)
      callWith pos f first (backTo pos (starEach (e :: es) X.env)) (backToKw pos (keywordEach [] X.env))) := by rfl)
    (he : starEach (e :: es) X.env = (false, eval e X.env) :: starEach es X.env := by rfl) (hpl : (backTo pos (starEach es X.env)).any (·.1) = false := by rfl) :
    PE X (.Call (.Attribute (.Name x p1) "__init__" p2) (e :: es) [] pos) (tVeI X.K ta) := by
  refine ⟨fun pins s σ H Q I h => ?_⟩
  refine PySem.W.methodCall_KW (ld_glob I hg hm ?_ hdb) hc
  refine PySem.W.method_cls I.kIn T.ga (PySem.W.cls_value I.kIn T.reads T.fi (by decide +kernel) ?_)
  show wpAny _ _ (callWith pos (Value.builtin "ValueError.__init__") [] (backTo pos (starEach (e :: es) X.env)) []) _ _ _
  refine PyProof.Rows.callWith_method1 (thn (ha.run pos pins _ σ H _ (I.tok _) h) fun us s1 ⟨vs, H1, I1, r1, a, C, ws, ev, hl, T, ea, q⟩ => ?_) he hpl
  subst ev
  cases r1 with
  | @cons _ u0 _ ur ra rw' =>
    obtain rfl : u0 = Value.ref a := ra
    have hlen : ur.length ≤ sizeLine := by
      rw [← Paired.length rw', sizeLine_eq]
      omega
    exact oinit_ok T I1 ea hlen fun s' J => ⟨.non, H1, J, rfl, q⟩
end
/-! isinstance(e, T) of a caught exception without fields -/
structure ExI (K : PySem.W.Frag) (C : Addr) : Prop where
  cl : (PySem.W.clsIn K C).isSome = true
  ga : PySem.W.findIn K (.ref C) "__getattribute__" = some (some (.builtin "BaseException.__getattribute__"))
  gt : ∃ gt, PySem.W.findIn K (.ref C) "__getattr__" = some gt
  sub : PySem.W.subIn K (.ref C) (.type "BaseException") = some true
  cf : PySem.W.findIn K (.ref C) "__class__" = some (some (.builtin "object.__class__"))
  sp : PySem.W.specialIn K (.builtin "object.__class__") "__get__" = some (some (.builtin "getset_descriptor.__get__"))
  tk : PySem.W.takesIn K (.builtin "object.__class__") = some true
  ob : PySem.W.mroIn K C (.type "object") = some true
end L2
namespace AW
open PySem PySem.Spec PyProof.Rows L2
/-! tuple * number, many times; text < text -/
def rRepW (K : PySem.W.Frag) : R2 := fun x y H Q => ∃ l k xs, x = .ref l ∧ y = .int k ∧ SqT K H l xs ∧ xs ≠ [] ∧ 2 ≤ k ∧ k ≤ 10000 ∧ xs.length ≤ 100 ∧ ∀ p, H p = none → Q (.ref p) (upd H p (.tup (List.replicate k.toNat xs).flatten))
theorem op_repW {X : Cx} : OpR X (binaryOp .Mult) (rRepW X.K) := by
  intro pins s σ H x y v u Q I rx ry h
  obtain ⟨l, k, xs, rfl, rfl, hT, hne, h1, h2, hz, q⟩ := h
  cases rx
  obtain ⟨t, rfl⟩ := ry
  obtain ⟨its, r, ⟨⟨cls, dd, data, sl⟩, ho, hc, n, hd⟩, hs⟩ := I.tuple hT
  simp only at hc hd
  subst hc hd
  have hle : its.length = xs.length := r.length.symm
  have hi : its.toArray.isEmpty = false := by
    match its, hle with
    | [], e => exact absurd (List.eq_nil_of_length_eq_zero e.symm) hne
    | _ :: _, _ => rfl
  have mul : ∀ m : Nat, m ≤ 100 → ((m : Nat) : Int) * k ≤ 1000000 := fun m hm => by
    have := Int.mul_le_mul_of_nonneg_right (show ((m : Nat) : Int) ≤ 100 by omega) (show 0 ≤ k by omega)
    omega
  have muln : k.toNat * xs.length ≤ 1000000 := by
    have := Nat.mul_le_mul (show k.toNat ≤ 10000 by omega) hz
    omega
  have hm : ((its.toArray.size : Nat) : Int) * k ≤ 1000000 := mul _ (by rw [List.size_toArray]; omega)
  have flen : (List.replicate k.toNat its).flatten.length ≤ sizeLine := by
    rw [PyProof.Rows.lm_len_rep_flat, hle, sizeLine_eq]
    omega
  refine wpAny_binaryOp_repeat_ref (T := "tuple") (U := "int") (by decide) ⟨_, ho, rfl⟩ (fun s' => typeIs_int s' k t) noFill_tuple_mul F.fills_int_mul F.slot_int_rmul repeat_tuple F.slot_int_index.lookup
    (call_meets F.slot_int_rmul (typeIs_int s k t) F.entry_int_rmul (F.args_int_rmul_2 _ _) (int_rmul_tuple k t l its.toArray n dd sl)
      ⟨ho, rfl, ⟨_, ho, rfl⟩, call_meets F.slot_tuple_mul ⟨_, ho, rfl⟩ F.entry_tuple_mul (F.args_tuple_mul_2 _ _) (tuple_mulW l its.toArray n dd sl k t
        (by rw [decide_eq_false (by omega), decide_eq_false (by omega)] <;> rfl) (by rw [hi, Bool.false_or]; exact beq_eq_false_iff_ne.mpr (by omega)) (by rw [hi, Bool.or_false]; exact decide_eq_false (by omega)) (by omega)
        (by unfold Builtin.Tuple.tupleTooMany; rw [sizeLine_eq]; exact decide_eq_false (by omega)) (by rw [size_rep, List.size_toArray]; exact flen)) ⟨ho, ?_⟩⟩)
  rw [size_rep]
  refine ⟨.ref s.heap.objs.size, _, I.laid (t' := s.toks) (o := .tup (List.replicate k.toNat xs).flatten) (fun b ob q => Heap.get?_push_of_some _ q) (Nat.le_refl _) ?_, rfl, q _ (I.hok.fresh (Nat.le_refl _))⟩
  exact ⟨by rw [PyProof.Rows.lm_len_rep_flat, sizeLine_eq]; omega, _, r.rep k.toNat, IsTup.new _ _⟩
end AW
/-! t[::-1] of a tuple; slices and sums of tuples and texts alike -/
namespace AW
open PySem PySem.Spec PyProof.Rows L2 HT
section
variable {prog : Program} {w : World} {A : Around} {E : Value → Shared → Prop} {s : Shared}
theorem rv_adjust (n : Nat) : Builtin.Slice.sliceAdjust none none (-1) (n : Int) = ((n : Int) - 1, -1) := by
  unfold Builtin.Slice.sliceAdjust
  simp
theorem rv_places (n : Nat) : Builtin.Slice.slicePlaces ((n : Int) - 1) (-1) (-1) = n := by
  unfold Builtin.Slice.slicePlaces
  rw [if_neg (by decide)]
  split
  · rw [show (- -1 : Int) = 1 by decide, Int.ediv_one]
    omega
  · omega
theorem rv_applied {sl : Addr} {vl vu vs : Value} {n : Nat} {Q : Int × Int × Nat → Shared → Prop} (hs : s.heap.IsSliceOf sl vl vu vs) (pl : IsPart vl none) (pu : IsPart vu none) (ps : IsPart vs (some (-1)))
    (h : Q ((n : Int) - 1, -1, n) s) : wpAny (model prog w) A (Builtin.Slice.sliceApplied (.ref sl) (pure (n : Int))) Q E s := by
  obtain ⟨os, hos, hcs, hds⟩ := id hs
  unfold Builtin.Slice.sliceApplied Builtin.Slice.sliceFields
  refine wpAny_bind (wpAny_bind (wpAny_field hos hds (x := vl) rfl (wpAny_bind (wpAny_field hos hds (x := vu) rfl (wpAny_bind (wpAny_field hos hds (x := vs) rfl (wpAny_pure ?_)))))))
  refine wpAny_bind (slicePart_ ps ?_)
  show wpAny _ _ (if ((-1 : Int) == 0) = true then _ else _) _ _ s
  rw [if_neg (by decide)]
  refine wpAny_bind (slicePart_ pl (wpAny_bind (slicePart_ pu (wpAny_bind (wpAny_pure ?_)))))
  show wpAny _ _ (match Builtin.Slice.sliceAdjust none none (-1) (n : Int) with | (lo, hi) => pure (lo, (-1 : Int), Builtin.Slice.slicePlaces lo hi (-1))) _ _ s
  rw [rv_adjust n]
  show wpAny _ _ (pure ((n : Int) - 1, (-1 : Int), Builtin.Slice.slicePlaces ((n : Int) - 1) (-1) (-1))) _ _ s
  rw [rv_places]
  exact wpAny_pure h
theorem rv_pick (xs : Array Value) : ((List.range xs.size).filterMap fun (k : Nat) => xs[(((xs.size : Nat) : Int) - 1 + (k : Int) * (-1)).toNat]?) = xs.toList.reverse := by
  have e : ((List.range xs.size).filterMap fun (k : Nat) => xs[(((xs.size : Nat) : Int) - 1 + (k : Int) * (-1)).toNat]?) = ((List.range xs.size).map fun k => xs.size - 1 - k).filterMap (xs[·]?) := by
    rw [List.filterMap_map]
    refine congrArg (fun f => List.filterMap f (List.range xs.size)) (funext fun k => ?_)
    show xs[_]? = xs[xs.size - 1 - k]?
    rw [show (((xs.size : Nat) : Int) - 1 + (k : Int) * (-1)).toNat = xs.size - 1 - k by omega]
  rw [e, PySem.W.krv_range, List.filterMap_reverse, PySem.W.krv_all]
theorem getItem_tuple_rev {t sl : Addr} {items : Array Value} {vl vu vs : Value} {Q : Value → Shared → Prop} (ht : IsTup s.heap t items) (hs : s.heap.IsSliceOf sl vl vu vs) (pl : IsPart vl none) (pu : IsPart vu none) (ps : IsPart vs (some (-1)))
    (h : Q (.ref s.heap.objs.size) { s with heap := s.heap.push { cls := .type "tuple", data := .seq items.toList.reverse.toArray } })
    (hsz : items.size ≤ sizeLine) : wpAny (model prog w) A (getItem (.ref t) (.ref sl)) Q E s := by
  have htake : sizeOk (.seq items.toList.reverse.toArray) := by
    show items.toList.reverse.toArray.size ≤ sizeLine
    rw [List.size_toArray, List.length_reverse, Array.length_toList]
    exact hsz
  obtain ⟨os, hos, hcs, hds⟩ := id hs
  have hTs : s.TypeIs (.ref sl) "slice" := ⟨os, hos, hcs⟩
  unfold getItem
  try with_reducible refine wpAny_holding ?_
  first | refine wpAny_bind (wpAny_pure ?_) | skip
  refine wpAny_bind (wpAny_sequenceKey ht.typeIs (by decide) ?_)
  refine wpAny_bind (wpAny_callSpecial?_slot (name := Str.ofString "__getitem__") ht.typeIs PyProof.Rows.slot_tuple_getitem
    (wpAny_call_entry PyProof.Rows.slot_tuple_getitem ht.typeIs entry_tuple_getitem ?_ (args_tuple_getitem _ _)))
  show wpAny _ _ (Builtin.Tuple.tupleItemsOf (.ref t) >>= _) _ _ s
  refine wpAny_bind (tupleItemsOf_ ht ?_)
  refine wpAny_bind (wpAny_typeOf hTs ?_)
  rw [if_pos (by decide)]
  refine wpAny_bind (rv_applied hs pl pu ps ?_)
  have hno : ¬ ((((items.size : Nat) : Int) - 1 == 0 && (-1 : Int) == 1 && items.size == items.size) = true) := by
    intro q
    rw [Bool.and_eq_true, Bool.and_eq_true] at q
    exact absurd q.1.2 (by decide)
  show wpAny _ _ (if (((items.size : Nat) : Int) - 1 == 0 && (-1 : Int) == 1 && items.size == items.size) = true then _ else _) _ _ s
  rw [if_neg hno, rv_pick]
  first
    | exact wpAny_bind (m := Builtin.Tuple.tupleExact _) (wpAny_newObj_type (wpAny_pure ⟨_, rfl, wpAny_pure h⟩) htake)
    | exact wpAny_bind (m := Builtin.Tuple.tupleExact _) (wpAny_newObj_type (wpAny_bind (wpAny_pure (wpAny_pure ⟨_, rfl, wpAny_pure h⟩))) htake)
    | exact wpAny_bind (wpAny_bind (m := Builtin.Tuple.tupleExact _) (wpAny_newObj_type (wpAny_pure (wpAny_pure ⟨_, rfl, wpAny_pure h⟩)) htake))
    | exact wpAny_bind (wpAny_bind (m := Builtin.Tuple.tupleExact _) (wpAny_newObj_type (wpAny_pure ⟨_, rfl, wpAny_pure h⟩) htake))
end
section
variable {X : Cx}
def tRevT (K : PySem.W.Frag) (te : TE) : TE := fun σ H Q => te σ H fun x H1 => ∃ a xs, x = .ref a ∧ SqT K H1 a xs ∧ ∀ p, H1 p = none → Q (.ref p) (upd H1 p (.tup xs.reverse))
theorem pe_revT {e : Expr} {te : TE} {k : Nat} {p1 p2 p3 pos : Pos} (he : PE X e te) : PE X (.Subscript e (.Slice none none (some (.UnaryOp .USub (.Constant (.int 1) k p1) p2)) p3) pos) (tRevT X.K te) := by
  refine ⟨fun pins s σ H Q I h => ?_⟩
  refine Subscript_ (thn (he.run pins s σ H _ I h) fun v s1 ⟨x, H1, I1, r1, q1⟩ => ?_)
  obtain ⟨a, xs, ex, hx, q⟩ := q1
  subst ex
  cases r1
  have hst : PO X (some (.UnaryOp .USub (.Constant (.int 1) k p1) p2)) (tPart (tUn (rU fun i => .int (-i)) (tC (.int 1)))) := po_some (pe_un un_neg pe_int)
  refine wpAny_Slice (thn (po_none.run pins s1 σ H1 (fun o H2 => o = none ∧ H2 = H1) I1 ⟨rfl, rfl⟩) fun vl s2 ⟨l, H2, I2, pl, el, e2⟩ => ?_)
  subst el e2
  refine thn (po_none.run pins s2 σ H2 (fun o H3 => o = none ∧ H3 = H2) I2 ⟨rfl, rfl⟩) fun vu s3 ⟨u, H3, I3, pu, eu, e3⟩ => ?_
  subst eu e3
  refine thn (hst.run pins s3 σ H3 (fun o H4 => o = some (-1) ∧ H4 = H3) I3 ⟨1, rfl, -1, rfl, rfl, rfl⟩) fun vs s4 ⟨o, H4, I4, ps, eo, e4⟩ => ?_
  subst eo e4
  have I5 : Inv X pins σ H4 { s4 with heap := s4.heap.push { cls := .type "slice", data := .fields #[vl, vu, vs] } } := I4.kept (t' := s4.toks) fun b ob q => Heap.get?_push_of_some _ q
  obtain ⟨its, r, ht, hz⟩ := I5.tuple hx
  have hlen := r.length
  show wpAny (model X.prog X.w) X.A (subscriptTail e (.Slice none none (some (.UnaryOp .USub (.Constant (.int 1) k p1) p2)) p3) (.ref a) (.ref s4.heap.objs.size)) (EP X pins σ Q) X.xe { s4 with heap := s4.heap.push { cls := .type "slice", data := .fields #[vl, vu, vs] } }
  refine tail_any (ops := [.ref a, .ref s4.heap.objs.size]) ht.typeIs (PyProof.Rows.slot_tuple_getitem.lookup) ?_ (by with_unfolding_all rfl)
  refine getItem_tuple_rev ht (Heap.IsSliceOf.new _ vl vu vs) pl pu ps ?_ (by rw [List.size_toArray]; omega)
  refine ⟨.ref _, _, I5.laid (t' := s4.toks) (o := .tup xs.reverse) (fun b ob q => Heap.get?_push_of_some _ q) (Nat.le_refl _) ?_, rfl, q _ (I5.hok.fresh (Nat.le_refl _))⟩
  exact ⟨by rw [List.length_reverse]; exact hz, _, r.reverse, IsTup.new _ _⟩
end
end AW
/-! zip of a tuple and a list of one length -/
namespace AW
open PySem PySem.Spec PyProof.Rows L2 RZ
/-- a tuple beside a list, of one length -/
def Itzm (K : PySem.W.Frag) (a b : Addr) : It where
  go i H := ∃ xs ys : List V, SqT K H a xs ∧ SqL K H b ys ∧ i < xs.length ∧ i < ys.length
  yld i H v H' := ∃ (T : Addr) (x y : V), v = .ref T ∧ H T = none ∧ H' = upd H T (.tup [x, y]) ∧ (∀ xs, SqT K H a xs → xs[i]? = some x) ∧ ∀ ys, SqL K H b ys → ys[i]? = some y
  stop i H := ∃ xs ys : List V, SqT K H a xs ∧ SqL K H b ys ∧ i = xs.length ∧ i = ys.length
theorem five {z TI TO i1 i2 d : Addr} (h : d ∈ [z, TI, TO, i1, i2]) : d = z ∨ d = TI ∨ d = TO ∨ d = i1 ∨ d = i2 := by simpa using h
theorem turn_zipM {P : Program} {w : World} {K : PySem.W.Frag} {elts : List Expr} {kk : Nat} {tpos : Pos} {a b z TI TO i1 i2 : Addr} (D : ZipSep2 z TI TO i1 i2 [i1, a] [i2, b]) :
    Turn P w K (.Tuple elts kk tpos) (Itzm K a b) [z, TI, TO, i1, i2] z (fun i h => IsZip h z TI TO .none ∧ IsTupOf2 h TI (.ref i1) (.ref i2) ∧ (∃ x y, IsTupOf2 h TO x y) ∧ h.IsTupleIter i1 a i ∧ h.IsListIter i2 b i) := by
  have dT : ∀ {h : Heap} {p q : Addr} {its : Array Value} {j : Nat}, h.IsTuple p its → h.IsTupleIter q p j → p ≠ q := fun {h p q its j} hp hq e => by
    obtain ⟨o, ho, hcl, _⟩ := hp
    obtain ⟨o2, ho2, hcl2, _⟩ := hq
    rw [e, ho2] at ho
    cases ho
    rw [hcl2] at hcl
    exact absurd (Value.type.inj hcl) (by decide)
  have dL : ∀ {h : Heap} {p q : Addr} {its : Array Value} {j : Nat}, h.IsList p its → h.IsListIter q p j → p ≠ q := fun {h p q its j} hp hq e => by
    obtain ⟨o, ho, hcl, _⟩ := hp
    obtain ⟨o2, ho2, hcl2, _⟩ := hq
    rw [e, ho2] at ho
    cases ho
    rw [hcl2] at hcl
    exact absurd (Value.type.inj hcl) (by decide)
  refine ⟨by simp, ?obj, ?keep, ?item, ?done, ?self⟩
  case obj =>
    rintro i h ⟨s1, s2, ⟨x, y, s3⟩, ⟨p1, q1, _, r1⟩, ⟨p2, q2, _, r2⟩⟩ d hd
    rcases five hd with rfl | rfl | rfl | rfl | rfl
    · exact ⟨_, s1, fun v e => nomatch e⟩
    · exact ⟨_, s2, fun v e => nomatch e⟩
    · exact ⟨_, s3, fun v e => nomatch e⟩
    · exact ⟨p1, q1, fun v e => by rw [r1] at e; cases e⟩
    · exact ⟨p2, q2, fun v e => by rw [r2] at e; cases e⟩
  case keep =>
    rintro i h h' ⟨s1, s2, ⟨x, y, s3⟩, t1, t2⟩ k
    exact ⟨k _ (by simp) _ s1, k _ (by simp) _ s2, ⟨x, y, k _ (by simp) _ s3⟩, t1.at fun o e => k _ (by simp) o e, t2.at fun o e => k _ (by simp) o e⟩
  case self =>
    exact fun A i s Q E st h => wpAny_pyIter_zip st.1 h
  case item =>
    intro X hP hw hK hc i pins s σ H E I hf st hg
    subst hP hw hK
    obtain ⟨s1, s2, ⟨x0, y0, s3⟩, t1, t2⟩ := st
    obtain ⟨xs, ys, qa, qb, la, lb⟩ := hg
    obtain ⟨ia, ra, pa, _⟩ := I.tuple qa
    obtain ⟨ib, rb, pb0, _⟩ := I.list qb
    have pb := pb0.isList
    have hh : X.A.in1.handled = none := I.ok.hd hc
    have zl : z < s.heap.objs.size := Heap.lt_size s1
    refine wpAny_pyNext_zipD2_item (i := i) D (Draws.tuple hh i1 a (dT pa t1) ia.toArray) (Draws.list hh i2 b (dL pb t2) ib.toArray) s1 s2 s3 ⟨t1, pa⟩ ⟨t2, pb⟩
      (by rw [List.size_toArray, ← ra.length]; exact la) (by rw [List.size_toArray, ← rb.length]; exact lb) fun x1 x2 h' tk g1 g2 z' TO' v1 v2 hT hsz hk => ?_
    obtain ⟨y1, hy1⟩ := get_some (xs := xs) la
    obtain ⟨y2, hy2⟩ := get_some (xs := ys) lb
    have rel : ∀ {l : List V} {us : List Value} {y : V} {x : Value}, Vals l us → l[i]? = some y → us.toArray[i]? = some x → RelV y x := fun r e e2 => by
      obtain ⟨u, eu, ru⟩ := r.get e
      have e3 : some u = some _ := eu.symm.trans (by simpa using e2)
      cases e3
      exact ru
    refine ⟨_, rfl, wpAny_letOwnedTupleGo_zip (s := { s with heap := h', toks := tk }) z' fun h'' z'' sb => ?_⟩
    have hT2 : h''.get? s.heap.objs.size = some { cls := .type "tuple", data := .seq #[x1, x2] } := (sb.2 _ (Nat.ne_of_gt zl)).trans hT
    have new : ObjOk X.prog X.w (upd H s.heap.objs.size (.tup [y1, y2])) h'' s.heap.objs.size (.tup [y1, y2]) :=
      ⟨by show 2 ≤ sizeLine; decide, [x1, x2], .cons (rel ra hy1 g1) (.cons (rel rb hy2 g2) .nil), ⟨_, hT2, rfl, _, rfl⟩⟩
    have I1 : Inv X pins σ (upd H s.heap.objs.size (.tup [y1, y2])) { s with heap := h'', toks := tk } :=
      I.turnedNew (ch := [z, TI, TO, i1, i2]) (fun d o hd q => (sb.2 d (fun e => hd (by simp [e]))).trans (hk d o (fun e => hd (by simp [e])) (fun e => hd (by simp [e])) (fun e => hd (by simp [e])) (fun e => hd (by simp [e])) q)) hf (Nat.le_refl _) new
    have uniqT : ∀ l, SqT X.K H a l → l[i]? = some y1 := fun l hl => by rw [I.tuple_inj hl qa]; exact hy1
    have uniqL : ∀ l, SqL X.K H b l → l[i]? = some y2 := fun l hl => by rw [I.list_inj hl qb]; exact hy2
    refine ⟨.ref s.heap.objs.size, _, I1, rfl, ⟨_, y1, y2, rfl, I.hok.fresh (Nat.le_refl _), rfl, uniqT, uniqL⟩, ⟨z'', ?_, ⟨x1, x2, ?_⟩, ?_, ?_⟩, fun d hd => ?_⟩
    · exact (sb.2 _ D.TIz).trans (hk _ _ D.TIz D.TITO D.TIi1 D.TIi2 s2)
    · exact (sb.2 _ D.TOz).trans TO'
    · exact v1.1.at fun o e => (sb.2 _ (fun q => D.zi1 q.symm)).trans e
    · exact v2.1.at fun o e => (sb.2 _ (fun q => D.zi2 q.symm)).trans e
    · have hlt : d < s.heap.objs.size := by
        rcases five hd with rfl | rfl | rfl | rfl | rfl
        · exact zl
        · exact Heap.lt_size s2
        · exact Heap.lt_size s3
        · obtain ⟨_, e, _⟩ := t1; exact Heap.lt_size e
        · obtain ⟨_, e, _⟩ := t2; exact Heap.lt_size e
      rw [upd_ne (Nat.ne_of_lt hlt)]
      exact (hf d hd).1
  case done =>
    intro X hP hw hK hc i pins s σ H E I hf st hg
    subst hP hw hK
    obtain ⟨s1, s2, ⟨x0, y0, s3⟩, t1, t2⟩ := st
    obtain ⟨xs, ys, qa, qb, la, lb⟩ := hg
    obtain ⟨ia, ra, pa, _⟩ := I.tuple qa
    obtain ⟨ib, rb, pb0, _⟩ := I.list qb
    have pb := pb0.isList
    have hh : X.A.in1.handled = none := I.ok.hd hc
    have sa : i = ia.toArray.size := by rw [List.size_toArray, ← ra.length]; exact la
    have sb : i = ib.toArray.size := by rw [List.size_toArray, ← rb.length]; exact lb
    exact wpAny_pyNext_zipD2_end (i := i) D (Draws.tuple hh i1 a (dT pa t1) ia.toArray) (Draws.list hh i2 b (dL pb t2) ib.toArray) s1 s2 s3 ⟨t1, pa⟩ ⟨t2, pb⟩
      (Nat.le_of_eq sa) (Nat.le_of_eq sb) (.inl sa) fun h' tk hk => ⟨rfl, I.turnedL (ch := [z, TI, TO, i1, i2]) (fun d o hd q => hk d o (fun e => hd (by simp [e])) (fun e => hd (by simp [e])) (fun e => hd (by simp [e])) (fun e => hd (by simp [e])) q) hf⟩
/-- what stands within zip(t, l) -/
def iZipM (K : PySem.W.Frag) (ta : TA) : TI := fun σ H R => ta σ H fun vs H1 => ∃ (a b : Addr) (xs ys : List V), vs = [.ref a, .ref b] ∧ SqT K H1 a xs ∧ SqL K H1 b ys ∧ R (Itzm K a b) H1
theorem sep_newM (n a b : Nat) (la : a < n) (lb : b < n) : ZipSep2 (n + 4) (n + 2) (n + 3) n (n + 1) [n, a] [n + 1, b] :=
  ⟨(show (n + 2 : Nat) ≠ n + 4 by omega), (show (n + 3 : Nat) ≠ n + 4 by omega), (show (n + 2 : Nat) ≠ n + 3 by omega), (show (n + 2 : Nat) ≠ n by omega), (List.mem_cons_self ..),
    (no2 (show (n + 4 : Nat) ≠ n by omega) (show (n + 4 : Nat) ≠ a by omega)), (no2 (show (n + 3 : Nat) ≠ n by omega) (show (n + 3 : Nat) ≠ a by omega)), (show (n + 2 : Nat) ≠ n + 1 by omega), (List.mem_cons_self ..),
    (no2 (show (n + 4 : Nat) ≠ n + 1 by omega) (show (n + 4 : Nat) ≠ b by omega)), (no2 (show (n + 3 : Nat) ≠ n + 1 by omega) (show (n + 3 : Nat) ≠ b by omega)),
    (no2 (show (n : Nat) ≠ n + 1 by omega) (show (n : Nat) ≠ b by omega)), (no2 (show (n + 1 : Nat) ≠ n by omega) (show (n + 1 : Nat) ≠ a by omega))⟩
theorem pi_zipM {X : Cx} {e e2 : Expr} {ta : TA} {p pos tpos : Pos} {elts : List Expr} {kk : Nat} (hg : Gl X "zip") (hm : X.mg "zip" = none) (ha : PA X [e, e2] ta)
    (hs : starEach [e, e2] X.env = (false, eval e X.env) :: starEach [e2] X.env := by rfl) (hpl : (backTo pos (starEach [e2] X.env)).any (·.1) = false := by rfl) :
    PI X (.Tuple elts kk tpos) (.Call (.Name "zip" p) [e, e2] [] pos) (iZipM X.K ta) := by
  refine ⟨fun pins s σ H R I h => ?_⟩
  refine Call_ (ld_blt I hg hm PyProof.Rows.boot_zip (PyProof.Rows.callWith_type1 (thn (ha.run pos pins s σ H _ I h) fun us s1 ⟨vs, H1, I1, r1, q1⟩ => ?_) hs hpl))
  obtain ⟨a, b, xs, ys, rfl, qa, qb, q⟩ := q1
  obtain ⟨ua, ub, rfl, r1', r2'⟩ := vals2 r1
  cases r1'
  cases r2'
  obtain ⟨ia, ra, pa, _⟩ := I1.tuple qa
  obtain ⟨ib, rb, pb0, _⟩ := I1.list qb
  have pb := pb0.isList
  have la : a < s1.heap.objs.size := by obtain ⟨_, e, _⟩ := pa; exact Heap.lt_size e
  have lb : b < s1.heap.objs.size := by obtain ⟨_, e, _⟩ := pb; exact Heap.lt_size e
  refine zip_begins2 (begins_tuple a ia.toArray) (begins_list b ib.toArray) pa pb fun h' hz hTI hTO g1 g2 _ hk => wpAny_pyIter_zip hz ?_
  have I2 : Inv X pins σ H1 { s1 with heap := h' } := I1.kept (t' := s1.toks) hk
  refine ⟨s1.heap.objs.size + 4, [s1.heap.objs.size + 4, s1.heap.objs.size + 2, s1.heap.objs.size + 3, s1.heap.objs.size, s1.heap.objs.size + 1], _, _, H1, rfl, I2, turn_zipM (sep_newM s1.heap.objs.size a b la lb), ⟨hz, hTI, ⟨_, _, hTO⟩, ⟨_, g1, rfl, rfl⟩, ⟨_, g2, rfl, rfl⟩⟩, fun d hd => ?_, q⟩
  have hle : s1.heap.objs.size ≤ d := by
    rcases five hd with e | e | e | e | e <;> rw [e] <;> first | exact Nat.le_add_right _ _ | exact Nat.le_refl _
  exact I1.fpOk hle (I1.hok.fresh hle)
theorem walk_zipM {K : PySem.W.Frag} {a b : Addr} {xs ys : List V} (h1 : ys.length = xs.length) : Walk (Itzm K a b) xs.length (fun H => SqT K H a xs ∧ SqL K H b ys) (YPair (fun i => xs[i]?) (fun i => ys[i]?)) :=
  ⟨fun i H hi ⟨q1, q2⟩ => ⟨xs, ys, q1, q2, hi, by omega⟩, fun H ⟨q1, q2⟩ => ⟨xs, ys, q1, q2, rfl, h1.symm⟩,
    fun i H v H' _ ⟨q1, q2⟩ ⟨T, x, y, e1, e2, e3, e4, e5⟩ => ⟨T, x, y, e1, e2, e3, e4 _ q1, e5 _ q2⟩⟩
end AW
/-! enumerate(t) of a tuple -/
namespace AW
open PySem PySem.Spec PyProof.Rows L2 RZ
open AutoSeq1 (wpAny_loadPart')
/-- the two new cells -/
abbrev etH1 (h : Heap) (t : Addr) : Heap := h.push { cls := .type "tuple_iterator", data := .fields #[.ref t, .int 0 0] }
abbrev etH2 (h : Heap) (t : Addr) : Heap := (etH1 h t).push { cls := .type "enumerate", data := .fields #[.none, .bool false, .ref h.objs.size, rawInt 0, .none, .none] }
theorem meets_enumT (t : Addr) (ts : Array Value) :
    Meets (Builtin.«enumerate.__new__» ⟨[.type "enumerate", .ref t], []⟩) (fun _ R s => s.heap.IsTuple t ts ∧ R (.ok (.ret (.ref (etH1 s.heap t).objs.size))) { s with heap := etH2 s.heap t }) :=
  .of_wp fun prog w A R s hh => by
    obtain ⟨hp, gg, dr, tok, os⟩ := s
    obtain ⟨ht, q⟩ := hh
    have sub := sub_enumerate
    have isT : Heap.IsTuple (Shared.heap ⟨hp, gg, dr, tok, os⟩) t ts := ht
    obtain ⟨ob, hob, hcl, nn, hdt⟩ := id ht
    wp_walk using wpAny_loadPart' hob
    refine wpAny_stack_any fun sk => wpAny_pure ?_
    split
    · rename_i c _ _ _ _ _
      cases (c == Value.type "enumerate") <;>
      · wp_walk using wpAny_loadPart' hob, wpAny_pyIter_tuple isT
        exact ⟨_, rfl, q⟩
    · wp_walk using wpAny_loadPart' hob, wpAny_pyIter_tuple isT
      exact ⟨_, rfl, q⟩
section
variable {prog : Program} {w : World} {A : Around} {E : Value → Shared → Prop} {s : Shared}
theorem call_enumT {t : Addr} {ts : Array Value} {Q : Value → Shared → Prop} (ht : s.heap.IsTuple t ts)
    (k : ∀ G, IsEnum G (s.heap.objs.size + 1) s.heap.objs.size 0 .none → G.IsTupleIter s.heap.objs.size t 0 → (∀ b o, s.heap.get? b = some o → G.get? b = some o) → Q (.ref (s.heap.objs.size + 1)) { s with heap := G }) :
    wpAny (model prog w) A (call (.type "enumerate") [.ref t]) Q E s := by
  refine callType_new F.called_enumerate (by decide) (F.typeCall_enumerate_1 _) (F.newCall_enumerate_1 _) (fun obj => F.args_object_init_2 obj _) F.entry_enumerate_new (meets_enumT t ts) ⟨ht, ?_⟩
  have n1 : (etH1 s.heap t).objs.size = s.heap.objs.size + 1 := Heap.size_push ..
  have g2 : (etH2 s.heap t).get? (etH1 s.heap t).objs.size = some _ := Heap.get?_push_size _ rfl
  have g1 : (etH2 s.heap t).get? s.heap.objs.size = some _ := Heap.get?_push_of_some _ (Heap.get?_push_size _ rfl)
  rw [n1] at g2
  show _ ∧ _
  rw [n1]
  exact ⟨⟨_, g2, rfl⟩, k _ g2 ⟨_, g1, rfl, rfl⟩ fun b o e => Heap.get?_push_of_some _ (Heap.get?_push_of_some _ e)⟩
end
/-- a tuple's items, each in a new pair behind its number -/
def IteT (K : PySem.W.Frag) (a : Addr) : It where
  go i H := ∃ xs : List V, SqT K H a xs ∧ i < xs.length
  yld i H v H' := ∃ (T : Addr) (x : V), v = .ref T ∧ H T = none ∧ H' = upd H T (.tup [.int (i : Nat), x]) ∧ ∀ xs, SqT K H a xs → xs[i]? = some x
  stop i H := ∃ xs : List V, SqT K H a xs ∧ i = xs.length
theorem turn_enumT {P : Program} {w : World} {K : PySem.W.Frag} {elts : List Expr} {kk : Nat} {tpos : Pos} {a e it : Addr} (hne : e ≠ it) (hea : a ≠ e) :
    Turn P w K (.Tuple elts kk tpos) (IteT K a) [e, it] e (fun i h => (∃ old, IsEnum h e it ((i : Nat) : Int) old) ∧ h.IsTupleIter it a i) := by
  have dT : ∀ {h : Heap} {p q : Addr} {its : Array Value} {j : Nat}, h.IsTuple p its → h.IsTupleIter q p j → p ≠ q := fun {h p q its j} hp hq e => by
    obtain ⟨o, ho, hcl, _⟩ := hp
    obtain ⟨o2, ho2, hcl2, _⟩ := hq
    rw [e, ho2] at ho
    cases ho
    rw [hcl2] at hcl
    exact absurd (Value.type.inj hcl) (by decide)
  have two : ∀ {d : Addr}, d ∈ [e, it] → d = e ∨ d = it := fun h => by simpa using h
  refine ⟨by simp, ?obj, ?keep, ?item, ?done, ?self⟩
  case obj =>
    rintro i h ⟨⟨old, s1⟩, p1, q1, _, r1⟩ d hd
    rcases two hd with rfl | rfl
    · exact ⟨_, s1, fun v e => nomatch e⟩
    · exact ⟨p1, q1, fun v e => by rw [r1] at e; cases e⟩
  case keep =>
    rintro i h h' ⟨⟨old, s1⟩, t1⟩ k
    exact ⟨⟨old, k _ (by simp) _ s1⟩, t1.at fun o e => k _ (by simp) o e⟩
  case self =>
    exact fun A i s Q E st h => wpAny_pyIter_enum st.1.choose_spec h
  case item =>
    intro X hP hw hK hc i pins s σ H E I hf st hg
    subst hP hw hK
    obtain ⟨⟨old, s1⟩, t1⟩ := st
    obtain ⟨xs, qa, la⟩ := hg
    obtain ⟨ia, ra, pa, _⟩ := I.tuple qa
    have hh : X.A.in1.handled = none := I.ok.hd hc
    have el : e < s.heap.objs.size := Heap.lt_size s1
    have il : it < s.heap.objs.size := by obtain ⟨_, q, _⟩ := t1; exact Heap.lt_size q
    refine wpAny_pyNext_enum_itemD (i := i) (Draws.tuple hh it a (dT pa t1) ia.toArray) s1 ⟨t1, pa⟩ (by rw [List.size_toArray, ← ra.length]; exact la) hne (fun z => by
      rcases List.mem_cons.mp z with z | z
      · exact hne z
      · exact hea (List.mem_singleton.mp z).symm) fun x1 h' tk g1 ho v1 hT hsz hk => ?_
    obtain ⟨y1, hy1⟩ := get_some (xs := xs) la
    obtain ⟨u, eu, ru⟩ := ra.get hy1
    have e3 : some u = some x1 := eu.symm.trans (by simpa using g1)
    obtain rfl : u = x1 := Option.some.inj e3
    refine ⟨_, rfl, wpAny_letOwnedTupleGo_enum (s := { s with heap := h', toks := tk + 1 }) ho fun h'' he' sb => ?_⟩
    have hT2 : h''.get? s.heap.objs.size = some { cls := .type "tuple", data := .seq #[.int i tk, u] } := (sb.2 _ (Nat.ne_of_gt el)).trans hT
    have mk : ObjOk X.prog X.w (upd H s.heap.objs.size (.tup [.int (i : Nat), y1])) h'' s.heap.objs.size (.tup [.int (i : Nat), y1]) :=
      ⟨by show 2 ≤ sizeLine; decide, [.int i tk, u], .cons ⟨_, rfl⟩ (.cons ru .nil), ⟨_, hT2, rfl, _, rfl⟩⟩
    have I1 : Inv X pins σ (upd H s.heap.objs.size (.tup [.int (i : Nat), y1])) { s with heap := h'', toks := tk + 1 } :=
      I.turnedNew (ch := [e, it]) (fun d o hd q => (sb.2 d (fun z => hd (by simp [z]))).trans (hk d o (fun z => hd (by simp [z])) (fun z => hd (by simp [z])) q)) hf (Nat.le_refl _) mk
    have uniq : ∀ l, SqT X.K H a l → l[i]? = some y1 := fun l hl => by rw [I.tuple_inj hl qa]; exact hy1
    refine ⟨.ref s.heap.objs.size, _, I1, rfl, ⟨_, y1, rfl, I.hok.fresh (Nat.le_refl _), rfl, uniq⟩, ⟨⟨u, ?_⟩, v1.1.at fun o q => (sb.2 it hne.symm).trans q⟩, fun d hd => ?_⟩
    · rw [show ((i + 1 : Nat) : Int) = (i : Int) + 1 by omega]
      exact he'
    · have hlt : d < s.heap.objs.size := by
        rcases two hd with rfl | rfl
        · exact el
        · exact il
      rw [upd_ne (Nat.ne_of_lt hlt)]
      exact (hf d hd).1
  case done =>
    intro X hP hw hK hc i pins s σ H E I hf st hg
    subst hP hw hK
    obtain ⟨⟨old, s1⟩, t1⟩ := st
    obtain ⟨xs, qa, la⟩ := hg
    obtain ⟨ia, ra, pa, _⟩ := I.tuple qa
    have hh : X.A.in1.handled = none := I.ok.hd hc
    have sa : i = ia.toArray.size := by rw [List.size_toArray, ← ra.length]; exact la
    obtain ⟨f0, f1, f2, f3, f4, f5⟩ := hf it (by simp)
    rw [sa] at t1 s1
    exact wpAny_pyNext_enum_endD (Draws.tuple hh it a (dT pa t1) ia.toArray) s1 ⟨t1, pa⟩ fun h' eb => ⟨rfl, I.turned (t' := s.toks) (fun b o hb q => eb b o hb q) f0 f1 f3 f4 f5⟩
/-- what stands within enumerate(t) -/
def iEnumT (K : PySem.W.Frag) (ta : TA) : TI := fun σ H R => ta σ H fun vs H1 => ∃ (a : Addr) (xs : List V), vs = [.ref a] ∧ SqT K H1 a xs ∧ R (IteT K a) H1
theorem pi_enumT {X : Cx} {e : Expr} {ta : TA} {p pos tpos : Pos} {elts : List Expr} {kk : Nat} (hg : Gl X "enumerate") (hm : X.mg "enumerate" = none) (ha : PA X [e] ta) (hs : starEach [e] X.env = [(false, eval e X.env)] := by rfl) :
    PI X (.Tuple elts kk tpos) (.Call (.Name "enumerate" p) [e] [] pos) (iEnumT X.K ta) := by
  refine ⟨fun pins s σ H R I h => ?_⟩
  refine Call_ (ld_blt I hg hm boot_enumerate (PyProof.Rows.callWith_type1 (thn (ha.run pos pins s σ H _ I h) fun us s1 ⟨vs, H1, I1, r1, q1⟩ => ?_) hs rfl))
  obtain ⟨a, xs, rfl, qa, q⟩ := q1
  obtain rfl := Vals.ref1 r1
  obtain ⟨ia, ra, pa, _⟩ := I1.tuple qa
  have la : a < s1.heap.objs.size := by obtain ⟨_, e, _⟩ := pa; exact Heap.lt_size e
  refine call_enumT pa fun G hE hI hk => wpAny_pyIter_enum hE ?_
  have I2 : Inv X pins σ H1 { s1 with heap := G } := I1.kept (t' := s1.toks) hk
  have n1 : s1.heap.objs.size + 1 ≠ s1.heap.objs.size := Nat.succ_ne_self _
  have n2 : a ≠ s1.heap.objs.size + 1 := Nat.ne_of_lt (Nat.lt_succ_of_lt la)
  refine ⟨s1.heap.objs.size + 1, [s1.heap.objs.size + 1, s1.heap.objs.size], _, _, H1, rfl, I2, turn_enumT n1 n2, ⟨⟨.none, hE⟩, hI⟩, fun d hd => ?_, q⟩
  have hle : s1.heap.objs.size ≤ d := by
    rcases List.mem_cons.mp hd with z | z
    · rw [z]; exact Nat.le_succ _
    · rw [List.mem_singleton.mp z]; exact Nat.le_refl _
  exact I1.fpOk hle (I1.hok.fresh hle)
theorem walk_enumT {K : PySem.W.Frag} {a : Addr} {xs : List V} : Walk (IteT K a) xs.length (fun H => SqT K H a xs) (YPair (fun i => some (.int (i : Nat))) (fun i => xs[i]?)) :=
  ⟨fun i H hi q => ⟨xs, q, hi⟩, fun H q => ⟨xs, q, rfl⟩, fun i H v H' _ q ⟨T, x, e1, e2, e3, e4⟩ => ⟨T, .int (i : Nat), x, e1, e2, e3, rfl, e4 _ q⟩⟩
end AW
/-! a loop over what may be a list or a tuple -/
namespace AW
open PySem PySem.Spec PyProof.Rows L2 RZ
def iLT (K : PySem.W.Frag) (tl : TE) : TI := fun σ H R => tl σ H fun x H1 => ∃ a, x = .ref a ∧ (((∃ xs, SqL K H1 a xs) ∧ R (Itl K a) H1) ∨ ((∃ xs, SqT K H1 a xs) ∧ R (Itt K a) H1))
theorem pi_LT {X : Cx} {tg l : Expr} {tl : TE} (he : PE X l tl) : PI X tg l (iLT X.K tl) := by
  constructor
  intro pins s σ H R I h
  refine thn (he.run pins s σ H _ I h) ?_
  rintro v s1 ⟨x, H1, I1, rv, a, rfl, body⟩
  cases rv
  have fresh : ∀ d ∈ [s1.heap.objs.size], FpOk X pins H1 d := fun d hd => by
    rw [List.mem_singleton.mp hd]
    exact I1.fpOk (Nat.le_refl _) (I1.hok.fresh (Nat.le_refl _))
  have I2 : ∀ o : Obj, Inv X pins σ H1 { s1 with heap := s1.heap.push o, toks := s1.toks } := fun o => I1.kept fun b u e => Heap.get?_push_of_some _ e
  rcases body with ⟨⟨xs, hq⟩, q⟩ | ⟨⟨xs, hq⟩, q⟩
  · obtain ⟨its, _, pl, _⟩ := I1.list hq
    exact wpAny_pyIter_list pl.isList ⟨s1.heap.objs.size, [s1.heap.objs.size], _, _, H1, rfl, I2 _, turn_list a _, ⟨_, Heap.get?_push_size _ rfl, rfl, rfl⟩, fresh, q⟩
  · obtain ⟨its, _, pt, _⟩ := I1.tuple hq
    have it : s1.heap.IsTuple a its.toArray := pt
    exact wpAny_pyIter_tuple it ⟨s1.heap.objs.size, [s1.heap.objs.size], _, _, H1, rfl, I2 _, turn_tuple a _, ⟨_, Heap.get?_push_size _ rfl, rfl, rfl⟩, fresh, q⟩
def kForJ' (J : It) (g : TG) (tb : TS) (D : Ends) (σ : L2.St) (H : Hp) : Prop := ∃ W : Nat → Nat → L2.St → Hp → Prop, (∃ m, W 0 m σ H) ∧ ∀ i m σ H, W i m σ H →
  (J.stop i H ∧ D.nx σ H) ∨ (J.go i H ∧ ∃ N : L2.St → Hp → Prop, (∀ σ' H', N σ' H' → ∃ m', m' < m ∧ W (i + 1) m' σ' H') ∧ ∀ x H', J.yld i H x H' → g x σ H' fun σ2 H2 => tb { D with nx := N, ct := N, bk := D.nx } σ2 H2)
def kForLT (K : PySem.W.Frag) (g : TG) (tb : TS) (D : Ends) (σ : L2.St) (x : V) (H : Hp) : Prop := ∃ a, x = .ref a ∧ (((∃ xs, SqL K H a xs) ∧ kForJ' (Itl K a) g tb D σ H) ∨ ((∃ xs, SqT K H a xs) ∧ kForJ' (Itt K a) g tb D σ H))
theorem w_forLT {K : PySem.W.Frag} {tl : TE} {g : TG} {tb : TS} {D : Ends} {σ : L2.St} {H : Hp} (h : tl σ H fun x H1 => kForLT K g tb D σ x H1) : tFor (iLT K tl) g tb D σ H := h
theorem kForLT_i {K : PySem.W.Frag} {a : Addr} {xs : List V} {g : TG} {tb : TS} {D : Ends} {σ : L2.St} {H : Hp} {H0 : Hp} (Pv : Nat → L2.St → Hp → Prop) (hx : SqL K H0 a xs ∨ SqT K H0 a xs) (h0 : Pv 0 σ H) (hl : SqL K H0 a xs → ∀ i σ' H', i ≤ xs.length → Pv i σ' H' → SqL K H' a xs) (ht : SqT K H0 a xs → ∀ i σ' H', i ≤ xs.length → Pv i σ' H' → SqT K H' a xs)
    (hs : ∀ i v σ' H', xs[i]? = some v → Pv i σ' H' → g v σ' H' fun σ2 H2 => tb { D with nx := Pv (i + 1), ct := Pv (i + 1), bk := D.nx } σ2 H2) (hd : ∀ σ' H', Pv xs.length σ' H' → D.nx σ' H') : kForLT K g tb D σ (.ref a) H := by
  refine ⟨a, rfl, ?_⟩
  rcases hx with hx | hx
  · refine .inl ⟨⟨xs, hl hx 0 σ H (Nat.zero_le _) h0⟩, for_it (walk_list (xs := xs)) Pv h0 (hl hx) (fun i x σ' H' H'' hi pp yy => ?_) hd⟩
    obtain ⟨rfl, hv⟩ := yy
    exact hs i x σ' _ hv pp
  · refine .inr ⟨⟨xs, ht hx 0 σ H (Nat.zero_le _) h0⟩, for_it (walk_tup (xs := xs)) Pv h0 (ht hx) (fun i x σ' H' H'' hi pp yy => ?_) hd⟩
    obtain ⟨rfl, hv⟩ := yy
    exact hs i x σ' _ hv pp
end AW
/-! dicts asked, tuple(..), slices of tuples; what the law speaks of: sayings, worlds, models -/
namespace AW
open PySem PySem.Spec PyProof.Rows L2 RZ
section
variable {σ : L2.St} {H : Hp} {Q : VK} {ta tb te td ty : TE} {K : PySem.W.Frag}
/-- keywords alone, in the parameters' order -/
def gK {α : Type} : List α → List α → List α
  | [], zs => zs
  | _ :: _, _ => []
theorem w_callK {sp : Sp} {E : XK} {tk : TA} (h : tk σ H fun zs H2 => sp zs H2 Q E) : tCallK sp gK E tNil tk σ H Q := h
def kDGet (x y : V) (H : Hp) (Q : VK) : Prop := ∃ a v, x = .ref a ∧ DGet H a y (some v) ∧ Q v H
theorem w_dg (h : td σ H fun x H1 => ty σ H1 fun y H2 => kDGet x y H2 Q) : tDGet td ty σ H Q := h
theorem kDGet_i {d : Addr} {kvs : List (Key × V)} {k : Key} {v : V} (h : H d = some (.dK kvs)) (e : valV kvs k = some v) (q : Q v H) : kDGet (.ref d) (kV k) H Q := ⟨d, v, rfl, e ▸ DGet.k h, q⟩
def kDPut (x y v : V) (H : Hp) (N : Hp → Prop) : Prop := ∃ a H4, x = .ref a ∧ DPut H a y v H4 ∧ N H4
theorem w_dput {D : Ends} {tv : TE} (h : tv σ H fun v H1 => td σ H1 fun x H2 => ty σ H2 fun y H3 => kDPut x y v H3 (D.nx σ)) : sDPut td ty tv D σ H := h
theorem kDPut_i {d : Addr} {kvs : List (Key × V)} {k : Key} {v : V} {N : Hp → Prop} (h : H d = some (.dK kvs)) (hl : kvs.length < 100000) (q : N (upd H d (.dK (putK kvs k v)))) : kDPut (.ref d) (kV k) v H N :=
  ⟨d, _, rfl, DPut.k h (Nat.lt_of_lt_of_le hl (by decide)), q⟩
/-- tuple(x) -/
theorem w_tup1 (h : ta σ H fun x H1 => kTup K x H1 Q) : tThen ta (kTup K) σ H Q := h
theorem w_tupL {p : Addr} {xs : List V} (h : SqL K H p xs) (q : ∀ r H', H r = none → Adv [] H H' → H' r = some (.tup xs) → Q (.ref r) H') : kTup K (.ref p) H Q := .inl ⟨p, xs, rfl, h, w_new q⟩
/-- tuples joined, none of them empty -/
theorem w_catT {a b : Addr} {xs ys : List V} (h1 : H a = some (.tup xs)) (h2 : H b = some (.tup ys)) (hz : xs.length + ys.length ≤ 100000) (q0 : xs = [] → Q (.ref b) H) (q1 : xs ≠ [] → ys = [] → Q (.ref a) H)
    (q : ∀ r H', H r = none → Adv [] H H' → H' r = some (.tup (xs ++ ys)) → Q (.ref r) H') : rCatA K (.ref a) (.ref b) H Q :=
  ⟨a, b, xs, ys, rfl, rfl, SqT.of h1, SqT.of h2, Nat.le_trans hz (by decide), q0, q1, fun _ _ => w_new q⟩
/-- joined, whatever they are: a tuple that holds both -/
theorem w_catT' {a b : Addr} {xs ys : List V} (h1 : H a = some (.tup xs)) (h2 : H b = some (.tup ys)) (hz : xs.length + ys.length ≤ 100000) (q : ∀ r H', Adv [] H H' → H' r = some (.tup (xs ++ ys)) → Q (.ref r) H') : rCatA K (.ref a) (.ref b) H Q :=
  w_catT h1 h2 hz (fun e => q _ _ (.refl _ _) (by rw [e]; exact h2)) (fun _ e => q _ _ (.refl _ _) (by rw [e, List.append_nil]; exact h1)) fun r H' _ a e => q r H' a e
end
/-- the dict at d tells the value of each of these names -/
def WD (H : Hp) (d : Addr) (names : List Str) (w : Str → Int) : Prop := ∃ kvs, H d = some (.dK kvs) ∧ ∀ x ∈ names, valV kvs (Sum.inr x) = some (.int (w x))
theorem WD.up {H H' : Hp} {d : Addr} {names : List Str} {w : Str → Int} (h : WD H d names w) (e : Adv [] H H') : WD H' d names w := by
  obtain ⟨kvs, h1, h2⟩ := h
  exact ⟨kvs, e.keep _ _ (fun z => nomatch z) h1, h2⟩
theorem WD.go {st : Addr} {cs : Addr × Addr} {H H' : Hp} {d : Addr} {names : List Str} {w : Str → Int} (h : WD H d names w) (hs : Off d st cs) (e : Go st cs H H') : WD H' d names w := by
  obtain ⟨kvs, h1, h2⟩ := h
  exact ⟨kvs, e.keep hs h1, h2⟩
theorem WD.get {H : Hp} {Q : VK} {d : Addr} {names : List Str} {w : Str → Int} {x : Str} (h : WD H d names w) (hx : x ∈ names) (q : Q (.int (w x)) H) : kDGet (.ref d) (.str x) H Q := by
  obtain ⟨kvs, h1, h2⟩ := h
  exact kDGet_i (k := Sum.inr x) h1 (h2 x hx) q

/-! ### sayings -/
def okS (x : Str) : Prop := x.cps.all (· < 0x110000) = true
abbrev Wd := Str → Int
def atW (b : Bool) : Str := if b = true then "from" else "is"
def manyW (b : Bool) : Str := if b = true then "and" else "or"
/-- a claim, as data: of so many levels, what it tells of a world, and its names as they stand -/
inductive ClD : Nat → PyData → (Wd → Bool) → List Str → Prop
  | one {m : Nat} {x : Str} {v : Int} (b : Bool) : ClD (m + 1) (.tuple [.str (atW b), .str x, .int v]) (fun w => if b = true then decide (v ≤ w x) else decide (w x = v)) [x]
  | neg {m : Nat} {d : PyData} {f : Wd → Bool} {ns : List Str} (h : ClD m d f ns) : ClD (m + 1) (.tuple [.str "not", d]) (fun w => !f w) ns
  | many {m : Nat} (b : Bool) (ds : List PyData) (fs : List (Wd → Bool)) (nss : List (List Str)) (hl : ds.length = fs.length) (hl2 : ds.length = nss.length) (h1 : ds.length ≤ 100)
      (h : ∀ (i : Nat) d f ns, ds[i]? = some d → fs[i]? = some f → nss[i]? = some ns → ClD m d f ns) :
      ClD (m + 1) (.tuple [.str (manyW b), .tuple ds]) (fun w => if b = true then fs.all (· w) else fs.any (· w)) nss.flatten
inductive Say where
  | sums (least : Bool) (ts : List (Str × Int)) (n : Int)
  | unlike (xs : List Str)
  | counts (xs : List Str) (ts : List (Int × Int × Int))
  | tab (b : Bool) (xs : List Str) (rows : List (List Int))
  | pick (i : Str) (xs : List Str) (r : Str)
  | top (xs : List Str) (r : Str)
  | prod (x y z : Str)
  | ahead (xs ys : List Str)
  | mach (xs : List Str) (s : Int) (mv : List (Int × Int × Int)) (en : List Int)
  | works (xs : List Str) (ls ns : List Int) (room : Int)
  | round (xs : List Str)
  | claim (d : PyData) (f : Wd → Bool) (ns : List Str)
  | when (d : PyData) (f : Wd → Bool) (ns : List Str) (s : Say)
/-- the names of a saying as they stand -/
def Say.names : Say → List Str
  | .sums _ ts _ => ts.map (·.1)
  | .unlike xs => xs
  | .counts xs _ => xs
  | .tab _ xs _ => xs
  | .pick i xs r => i :: (xs ++ [r])
  | .top xs r => xs ++ [r]
  | .prod x y z => [x, y, z]
  | .ahead xs ys => xs ++ ys
  | .mach xs _ _ _ => xs
  | .works xs _ _ _ => xs
  | .round xs => xs
  | .claim _ _ ns => ns
  | .when _ _ ns s => ns ++ s.names
def wt (n : Int) : Prop := -(2 ^ 64) < n ∧ n < 2 ^ 64
def Say.isWhen : Say → Bool
  | .when .. => true
  | _ => false
def Say.ok : Say → Prop
  | .sums _ ts _ => ts.length ≤ 100 ∧ ∀ t ∈ ts, wt t.2
  | .unlike xs => xs.length ≤ 100
  | .counts xs ts => xs.length ≤ 100 ∧ ts.length ≤ 100
  | .tab _ xs rows => xs.length ≤ 100 ∧ rows.length ≤ 1000
  | .pick _ xs _ => xs.length ≤ 100
  | .top xs _ => 0 < xs.length ∧ xs.length ≤ 100 ∧ ∀ x ∈ xs, okS x
  | .prod _ _ _ => True
  | .ahead xs ys => xs.length = ys.length ∧ xs.length ≤ 100
  | .mach xs _ mv en => xs.length ≤ 100 ∧ mv.length ≤ 1000 ∧ (mv.map fun m => (m.1, m.2.1)).Nodup ∧ en.length ≤ 100
  | .works xs ls ns room => ls.length = xs.length ∧ ns.length = xs.length ∧ 0 ≤ room ∧ xs.length ≤ 100
  | .round xs => 0 < xs.length ∧ xs.length ≤ 100
  | .claim d f ns => ClD 8 d f ns ∧ ns.length ≤ 1000
  | .when d f ns s => ClD 8 d f ns ∧ ns.length ≤ 1000 ∧ s.isWhen = false ∧ s.ok
/-- outside of claims no name comes twice -/
def Say.nd : Say → Prop
  | .claim _ _ _ => True
  | .when _ _ _ s => s.nd
  | s => s.names.Nodup
/-! ### x in t, t a tuple of data -/
def rInT (K : PySem.W.Frag) : R2 := fun x y H Q => ∃ d ds, Dp K H x d ∧ Dp K H y (.tuple ds) ∧ SeqAt.shaped d = true ∧ SeqAt.shaped (.tuple ds) = true ∧ Q (.bl (ds.any fun z => PyData.eqv z d)) H
theorem op_inT {X : Cx} (hu : X.A.units + 65 < cLine) : OpR X (compareOp .In) (rInT X.K) := by
  intro pins s σ H x y v u Q I rx ry h
  obtain ⟨d, ds, hd, he, sd, se, q⟩ := h
  obtain ⟨as, r1⟩ := Dp.reads I d x v hd rx
  obtain ⟨bs, r2⟩ := Dp.reads I (.tuple ds) y u he ry
  exact SeqAt.in_tuple_reads r2 r1 (SeqAt.canLay_of_shaped se) (SeqAt.canLay_of_shaped sd) (room_in_shaped sd hu) ⟨.bl _, H, I, rfl, q⟩
end AW
/-! a dict comprehension that is given to a name -/
namespace AW
open PySem PySem.Spec PyProof.Rows L2 RZ
section
variable {X : Cx}
theorem sw_trueD {kx vx : Expr} {gs : List Comprehension} {scope : Scope} {pos py : Pos} {y : Str} {l : Nat} {env : Env} (hk : env.scope.kind = .function) (hy : env.scope.names.lookup y = some .local) (hl : (py.line == pos.line) = true)
    (ha : (scope.names.any fun (n, k) => n == y && (k == .local || k == .cell)) = false) : swapsWith (.DictComp kx vx gs scope pos) (some (.Name y py)) l env = pure true := by
  have e1 : env.kindOf y = some .local := hy
  have e2 : env.blockKind = .function := by
    unfold Env.blockKind
    rw [hk]
    rfl
  unfold swapsWith
  simp only [e2, e1, ha, Expr.pos, hl]
  rfl
end
/-! ### models -/
theorem nodup_inj {α : Type} {l : List α} (h : l.Nodup) {i j : Nat} {x : α} (a : l[i]? = some x) (b : l[j]? = some x) : i = j := L2.nd_ix h a b
end AW
/-! steps that were not there: isinstance, pop, tuple(d), sorted, a comprehension with two fors -/
namespace AW
open PySem PySem.Spec PyProof.Rows L2 RZ StX
def rDictP (K : PySem.W.Frag) : List V → Hp → VK → Prop := fun xs H Q => ∃ (a : Addr) (ps : List Addr) (kvs : List (Key × V)), xs = [.ref a] ∧ SqL K H a (ps.map V.ref) ∧ Paired (fun p kv => SqT K H p [kV kv.1, kv.2]) ps kvs ∧ ∀ p, H p = none → Q (.ref p) (upd H p (.dK (mergeK [] kvs)))
theorem call_dictP1 {X : Cx} (hc : X.calm = true) : CallR X (.type "dict") (rDictP X.K) := call_dictP hc
section
variable {σ : L2.St} {H : Hp} {Q : VK} {ta tb te td ty : TE} {K : PySem.W.Frag}
theorem w_isi {x : V} {a b : String} {r : Bool} (ty : TyX K H x (.type a)) (e : kitB a b = some r) (q : Q (.bl r) H) : rIsi K [x, .ty b] H Q := ⟨x, .ty b, _, _, r, rfl, .ty b, ty, kit_ty e, q⟩
theorem w_popAt {i : Nat} {l : Addr} {xs : List V} {a : TA} (hσ : σ[i]? = some (some (.ref l))) (h0 : H l = some (.lst xs)) (h : a σ H fun vs H2 => rPopAt (.ref l) vs H2 Q) : tBM K "list" rPopAt (tVar i) a σ H Q :=
  ⟨.ref l, hσ, .inl ⟨rfl, xs, SqL.of h0⟩, h⟩
end
end AW
/-! keys of dicts, sorted texts -/
namespace AW
open PySem PySem.Spec PyProof.Rows L2 RZ
theorem filter_true {α : Type} (l : List α) : l.filter (fun _ => true) = l := List.filter_eq_self.mpr fun _ _ => rfl
section
variable {σ : L2.St} {H1 : Hp} {Q : VK} {K : PySem.W.Frag} {g : TG} {tt : TT} {tk tv : TE} {vs : List Nat}
end
end AW
/-! type(x) in (T, U) -/
namespace AW
open PySem PySem.Spec PyProof.Rows L2 RZ
end AW
namespace AW
open PySem PySem.Spec PyProof.Rows L2 RZ
open StX
local macro_rules | `(tactic| walk_at "aw1") => `(tactic| first
  | (with_reducible refine w_seq ?_) | (with_reducible refine w_asg ?_) | (with_reducible refine w_gname ?_) | (with_reducible refine w_op ?_) | (with_reducible refine w_un ?_)
  | ((with_reducible refine' w_var ?h ?_); (case h => rfl)) | (with_reducible refine w_c ?_)
  | (with_reducible refine w_I0 ?_) | (with_reducible refine w_U ?_) | (with_reducible refine w_cb ?_) | (with_reducible refine w_nil ?_) | (with_reducible refine w_cons ?_) | (with_reducible refine w_call ?_)
  | (with_reducible refine w_test ?_) | (with_reducible refine w_B ?_) | (with_reducible refine w_bl ?_) | (with_reducible refine w_not ?_) | (with_reducible refine w_yes ?_) | (with_reducible refine iteT ?_) | (with_reducible refine iteF ?_) | (with_reducible refine w_and ?_) | (with_reducible refine w_or ?_)
  | (with_reducible refine w_andV ?_) | (with_reducible refine w_orV ?_) | (with_reducible refine w_notV ?_) | (with_reducible refine w_if ?_)
  | (with_reducible refine w_int1 ?_) | (with_reducible refine w_int1b ?_) | (with_reducible refine w_abs ?_) | (with_reducible refine w_max2 ?_) | (with_reducible refine w_min2 ?_)
  | ((with_reducible refine w_eq ?h ?_); (case h => rfl)) | ((with_reducible refine w_ne ?h ?_); (case h => rfl)) | (with_reducible refine w_isN ?_) | (with_reducible refine w_isB ?_) | (with_reducible refine w_chain ?_)
  | (with_reducible refine w_ret ?_) | (with_reducible refine w_drop ?_) | (with_reducible refine w_ifS ?_) | (with_reducible refine w_gsub ?_) | (with_reducible refine w_augS ?_) | (with_reducible refine w_ipI ?_) | (with_reducible refine w_next ?_)
  | (with_reducible refine w_forR ?_) | (with_reducible refine w_forR2 ?_) | (with_reducible refine w_forL ?_) | (with_reducible refine w_forT ?_) | (with_reducible refine w_lcR ?_) | (with_reducible refine w_lcL ?_) | (with_reducible refine w_lcT ?_) | (with_reducible refine w_sl ?_) | (with_reducible refine w_part ?_) | (with_reducible refine w_noPart ?_) | (with_reducible refine w_in ?_)
  | (with_reducible refine w_gcons ?_) | (with_reducible refine w_gnil ?_) | (with_reducible refine w_lc3 ?_) | (with_reducible refine w_dcZ ?_) | (with_reducible refine w_dcT ?_) | (with_reducible refine w_dg ?_) | (with_reducible refine w_callK ?_) | (with_reducible refine w_dput ?_) | (with_reducible refine w_tup1 ?_)
  | (with_reducible refine w_tup ?_) | (with_reducible refine w_lst ?_)
  | ((with_reducible refine w_I ?h ?_); (case h => first | (exact Or.inr ⟨by decide, by decide⟩) | (exact Or.inl ⟨by decide, by decide⟩) | (show (0 : Int) < _; decide) | (exact ⟨by decide, by decide, by decide⟩) | assumption)))
local macro_rules | `(tactic| walk_at "aw") => `(tactic| repeat (walk_at "aw1"))
def tyD : PyData → String
  | .none => "NoneType"
  | .bool _ => "bool"
  | .int _ => "int"
  | .str _ => "str"
  | _ => "tuple"
theorem is_ty {K : PySem.W.Frag} {H : Hp} {D : PyData} {v : V} (h : Is H D v) : TyB K H v (tyD D) := by
  cases h with
  | non => exact .non
  | bl b => exact .bl b
  | int i => exact .int i
  | str x => exact .str x
  | tup e _ => exact .tup (SqT.of e)
def rIsTyB : R2 := fun x y H Q => ∃ a b, x = .ty a ∧ y = .ty b ∧ Q (.bl (decide (a = b))) H
theorem op_isTyB1 {X : Cx} : OpR X (compareOp .Is) rIsTyB := op_isTyB
theorem w_typ {K : PySem.W.Frag} {H : Hp} {D : PyData} {v : V} {Q : VK} (h : Is H D v) (q : Q (.ty (tyD D)) H) : rTyp K [v] H Q := ⟨v, _, rfl, is_ty h, q⟩
theorem w_isTy {a b : String} {H : Hp} {Q : VK} (q : Q (.bl (decide (a = b))) H) : rIsTyB (.ty a) (.ty b) H Q := ⟨a, b, rfl, rfl, q⟩
def lenIn (D : PyData) (f m : Int) : Bool := match D with
  | .tuple ds => decide (f ≤ (ds.length : Nat)) && decide (((ds.length : Nat) : Int) ≤ m)
  | _ => false
def sp_is_tuple (_ : PySem.W.Frag) : Sp := fun vs H Q _ => ∃ (v : V) (f m : Int), vs = [v, .int f, .int m] ∧ ∃ D, Is H D v ∧ Q (.bl (lenIn D f m)) H
def t_is_tuple (K : PySem.W.Frag) : TS := (tRet (tAndV (tOp rIsTyB (tCB (rTyp K) (tCons (tVar 0) tNil)) (tC (.ty "tuple"))) (tChain rLeI rLeI (tVar 1) (tCB (rLen1 K) (tCons (tVar 0) tNil)) (tVar 2))))
theorem len_is_tuple {K : PySem.W.Frag} : ∀ (vs : List V) (H : Hp) (Q : VK) (E : XK), sp_is_tuple K vs H Q E → vs.length = 3 := fun vs H Q E h => by
  obtain ⟨_, _, _, rfl, _⟩ := h
  rfl
theorem pure_is_tuple {K : PySem.W.Frag} (vs : List V) (H : Hp) (Q : VK) (E : XK) (h : sp_is_tuple K vs H Q E) : t_is_tuple K { nx := fun _ H' => Q .non H', rt := Q } (start ["value", "fewest", "most"] vs) H := by
  obtain ⟨v, f, m, rfl, D, hD, q⟩ := h
  show t_is_tuple K _ [some v, some (.int f), some (.int m)] H
  unfold t_is_tuple
  walk_at "aw"
  refine w_typ hD ?_
  walk_at "aw"
  refine w_isTy ?_
  walk_at "aw"
  cases hD with
  | tup e t =>
    refine w_iteB (fun _ => ?_) fun h => absurd rfl h
    have hl := t.length
    walk_at "aw"
    refine w_lenT (SqT.of e) ?_
    rw [hl]
    walk_at "aw"
    replace q : Q (.bl (decide (f ≤ (_ : Nat)) && decide (((_ : Nat) : Int) ≤ m))) H := q
    refine w_iteB (fun h1 => ?_) fun h1 => ?_
    · walk_at "aw"
      rw [decide_eq_true h1, Bool.true_and] at q
      exact q
    · rw [decide_eq_false h1, Bool.false_and] at q
      exact q
  | non => exact w_iteB (fun h => absurd h (by simp [tyD])) fun _ => q
  | bl b => exact w_iteB (fun h => absurd h (by simp [tyD])) fun _ => q
  | int i => exact w_iteB (fun h => absurd h (by simp [tyD])) fun _ => q
  | str x => exact w_iteB (fun h => absurd h (by simp [tyD])) fun _ => q
def isiD (D : PyData) (T : String) : Bool := decide (tyD D = T) || (decide (tyD D = "bool") && decide (T = "int"))
theorem w_isiD {K : PySem.W.Frag} {H : Hp} {D : PyData} {v : V} {T : String} {Q : VK} (h : Is H D v) (hT : T ∈ ["tuple", "str", "int", "bool"]) (q : Q (.bl (isiD D T)) H) : rIsi K [v, .ty T] H Q := by
  have key : ∃ t, TyX K H v (.type t) ∧ t = tyD D ∧ t ∈ ["NoneType", "bool", "int", "str", "tuple"] := by
    cases h with
    | non => exact ⟨_, .base .non, rfl, by simp⟩
    | bl b => exact ⟨_, .base (.bl b), rfl, by simp⟩
    | int i => exact ⟨_, .base (.int i), rfl, by simp⟩
    | str x => exact ⟨_, .base (.str x), rfl, by simp⟩
    | tup e _ => exact ⟨_, .base (.tup e), rfl, by simp⟩
  obtain ⟨t, ht, e, hm⟩ := key
  refine w_isi ht (r := isiD D T) ?_ q
  unfold isiD
  rw [← e]
  clear e ht q
  simp only [List.mem_cons, List.not_mem_nil, or_false] at hm hT
  rcases hm with rfl | rfl | rfl | rfl | rfl <;> rcases hT with rfl | rfl | rfl | rfl <;> decide +kernel
end AW
namespace AW
open PySem PySem.Spec PyProof.Rows L2 RZ
open StX
local macro_rules | `(tactic| walk_at "aw1") => `(tactic| first
  | (with_reducible refine w_seq ?_) | (with_reducible refine w_asg ?_) | (with_reducible refine w_gname ?_) | (with_reducible refine w_op ?_) | (with_reducible refine w_un ?_)
  | ((with_reducible refine' w_var ?h ?_); (case h => rfl)) | (with_reducible refine w_c ?_)
  | (with_reducible refine w_I0 ?_) | (with_reducible refine w_U ?_) | (with_reducible refine w_cb ?_) | (with_reducible refine w_nil ?_) | (with_reducible refine w_cons ?_) | (with_reducible refine w_call ?_)
  | (with_reducible refine w_test ?_) | (with_reducible refine w_B ?_) | (with_reducible refine w_bl ?_) | (with_reducible refine w_not ?_) | (with_reducible refine w_yes ?_) | (with_reducible refine iteT ?_) | (with_reducible refine iteF ?_) | (with_reducible refine w_and ?_) | (with_reducible refine w_or ?_)
  | (with_reducible refine w_andV ?_) | (with_reducible refine w_orV ?_) | (with_reducible refine w_notV ?_) | (with_reducible refine w_if ?_)
  | (with_reducible refine w_int1 ?_) | (with_reducible refine w_int1b ?_) | (with_reducible refine w_abs ?_) | (with_reducible refine w_max2 ?_) | (with_reducible refine w_min2 ?_)
  | ((with_reducible refine w_eq ?h ?_); (case h => rfl)) | ((with_reducible refine w_ne ?h ?_); (case h => rfl)) | (with_reducible refine w_isN ?_) | (with_reducible refine w_isB ?_) | (with_reducible refine w_chain ?_)
  | (with_reducible refine w_ret ?_) | (with_reducible refine w_drop ?_) | (with_reducible refine w_ifS ?_) | (with_reducible refine w_gsub ?_) | (with_reducible refine w_augS ?_) | (with_reducible refine w_ipI ?_) | (with_reducible refine w_next ?_)
  | (with_reducible refine w_forR ?_) | (with_reducible refine w_forR2 ?_) | (with_reducible refine w_forL ?_) | (with_reducible refine w_forT ?_) | (with_reducible refine w_lcR ?_) | (with_reducible refine w_lcL ?_) | (with_reducible refine w_lcT ?_) | (with_reducible refine w_sl ?_) | (with_reducible refine w_part ?_) | (with_reducible refine w_noPart ?_) | (with_reducible refine w_in ?_)
  | (with_reducible refine w_gcons ?_) | (with_reducible refine w_gnil ?_) | (with_reducible refine w_lc3 ?_) | (with_reducible refine w_dcZ ?_) | (with_reducible refine w_dcT ?_) | (with_reducible refine w_dg ?_) | (with_reducible refine w_callK ?_) | (with_reducible refine w_dput ?_) | (with_reducible refine w_tup1 ?_)
  | (with_reducible refine w_tup ?_) | (with_reducible refine w_lst ?_)
  | ((with_reducible refine w_I ?h ?_); (case h => first | (exact Or.inr ⟨by decide, by decide⟩) | (exact Or.inl ⟨by decide, by decide⟩) | (show (0 : Int) < _; decide) | (exact ⟨by decide, by decide, by decide⟩) | assumption)))
local macro_rules | `(tactic| walk_at "aw") => `(tactic| repeat (walk_at "aw1"))
def sp__law_mixed (_ : PySem.W.Frag) : Sp := fun vs H Q _ => ∃ a b : Int, vs = [.int a, .int b] ∧ ∀ n : Int, 0 ≤ n → n < 999983 → Q (.int n) H
def sp__law_tape (K : PySem.W.Frag) : Sp := fun vs H Q _ => ∃ (a : Addr) (ns : List Int), vs = [.ref a] ∧ SqL K H a (ns.map V.int) ∧ ns.length ≤ 63 ∧ ∀ st cs H', StOk st cs H' → Adv [] H H' → H st = none → Q (.ref st) H'
def sp__law_draw (_ : PySem.W.Frag) : Sp := fun vs H Q _ => ∃ (st : Addr) (lim : Int), vs = [.ref st, .int lim] ∧ ∃ cs, StOk st cs H ∧ 0 < lim ∧ lim < 1073741824 ∧ ∀ n H', 0 ≤ n → n < lim → Go st cs H H' → Q (.int n) H'
/-- the tape at st: cells at c -/
structure PAt (st c : Addr) (ns : List Int) (H : Hp) (i g l s t : Int) : Prop where
  e : H st = some (.dK (tapeK c i g l s t))
  ec : H c = some (.lst (ns.map V.int))
  hl : ns.length ≤ 63
  ne : c ≠ st
theorem PAt.ok {st c : Addr} {ns : List Int} {H : Hp} {i g l s t : Int} (p : PAt st c ns H i g l s t) (hi : 0 ≤ i) : StOk st (c, c) H := ⟨i, g, l, s, t, ns, p.e, p.ec, p.hl, p.ne, rfl, hi⟩
theorem PAt.set {st c : Addr} {ns : List Int} {H : Hp} {i g l s t : Int} (p : PAt st c ns H i g l s t) (i' g' l' s' t' : Int) : PAt st c ns (upd H st (.dK (tapeK c i' g' l' s' t'))) i' g' l' s' t' ∧ Adv [st, c] H (upd H st (.dK (tapeK c i' g' l' s' t'))) :=
  ⟨⟨upd_same, by rw [upd_ne p.ne]; exact p.ec, p.hl, p.ne⟩, (Adv.set p.e (fun _ z => by cases z)).mono (fun b hb => by rw [List.mem_singleton.mp hb]; exact List.mem_cons_self ..)⟩
section
variable {st c : Addr} {ns : List Int} {H : Hp} {i g l s t : Int} {Q : VK} {N : Hp → Prop}
theorem PAt.get {k : L2.Key} {v : V} (p : PAt st c ns H i g l s t) (e : valV (tapeK c i g l s t) k = some v) (q : Q v H) : kDGet (.ref st) (kV k) H Q := kDGet_i p.e e q
theorem tp_cells : valV (tapeK c i g l s t) (.inr "cells") = some (.ref c) := rfl
theorem tp_at : valV (tapeK c i g l s t) (.inr "at") = some (.int i) := rfl
theorem tp_great : valV (tapeK c i g l s t) (.inr "great") = some (.int g) := rfl
theorem tp_left : valV (tapeK c i g l s t) (.inr "left") = some (.int l) := rfl
theorem tp_seed : valV (tapeK c i g l s t) (.inr "seed") = some (.int s) := rfl
theorem tp_turn : valV (tapeK c i g l s t) (.inr "turn") = some (.int t) := rfl
theorem tq_at {z : Int} : putK (tapeK c i g l s t) (.inr "at") (.int z) = tapeK c z g l s t := rfl
theorem tq_great {z : Int} : putK (tapeK c i g l s t) (.inr "great") (.int z) = tapeK c i z l s t := rfl
theorem tq_left {z : Int} : putK (tapeK c i g l s t) (.inr "left") (.int z) = tapeK c i g z s t := rfl
theorem tq_seed {z : Int} : putK (tapeK c i g l s t) (.inr "seed") (.int z) = tapeK c i g l z t := rfl
theorem tq_turn {z : Int} : putK (tapeK c i g l s t) (.inr "turn") (.int z) = tapeK c i g l s z := rfl
theorem PAt.put {k : L2.Key} {v : V} {i' g' l' s' t' : Int} (p : PAt st c ns H i g l s t) (e : putK (tapeK c i g l s t) k v = tapeK c i' g' l' s' t') (q : ∀ H', PAt st c ns H' i' g' l' s' t' → Adv [st, c] H H' → N H') : kDPut (.ref st) (kV k) v H N := by
  refine kDPut_i p.e (by show 6 < 100000; decide) ?_
  rw [e]
  exact q _ (p.set i' g' l' s' t').1 (p.set i' g' l' s' t').2
end
def t__law_mixed  : TS := (tSeq (tAsg (tOp rModI (tCB rInt1 (tCons (tOp rAddI (tOp rAddI (tOp rMulI (tVar 0) (tC (.int 48271))) (tOp rMulI (tVar 1) (tC (.int 69621)))) (tC (.int 11))) tNil)) (tC (.int 2147483647))) (gName 2))
  (tSeq (tAsg (tOp rModI (tCB rInt1 (tCons (tOp rAddI (tOp rAddI (tOp rMulI (tVar 2) (tC (.int 16807))) (tOp rDivI (tVar 2) (tC (.int 127773)))) (tOp rMulI (tVar 1) (tC (.int 271)))) tNil)) (tC (.int 1000003))) (gName 3))
  (tRet (tOp rModI (tCB rInt1 (tCons (tOp rAddI (tOp rMulI (tVar 3) (tVar 3)) (tOp rDivI (tVar 2) (tC (.int 1009)))) tNil)) (tC (.int 999983))))))
def t__law_tape (K : PySem.W.Frag) : TS := (tRet (tDisp (((tC (.str "cells")), (tCB (rListOf K) (tCons (tVar 0) tNil))) :: (((tC (.str "at")), (tC (.int 0))) :: (((tC (.str "great")), (tC (.int 0))) :: (((tC (.str "left")), (tC (.int 0))) :: (((tC (.str "seed")), (tC (.int 7))) :: (((tC (.str "turn")), (tC (.int 0))) :: []))))))))
def t__law_draw (K : PySem.W.Frag) : TS := (tSeq (sDPut (tVar 0) (tC (.str "turn")) (tOp rAddI (tDGet (tVar 0) (tC (.str "turn"))) (tC (.int 1))))
  (tSeq (tIfS (tAnd (tTest (tOp rEq (tDGet (tVar 0) (tC (.str "left"))) (tC (.int 0)))) (tTest (tOp rLtI (tDGet (tVar 0) (tC (.str "at"))) (tCB (rLen1 K) (tCons (tDGet (tVar 0) (tC (.str "cells"))) tNil))))) (tSeq (tAsg (tOp (rIxL K) (tDGet (tVar 0) (tC (.str "cells"))) (tDGet (tVar 0) (tC (.str "at")))) (gName 2))
  (tSeq (sDPut (tVar 0) (tC (.str "at")) (tOp rAddI (tDGet (tVar 0) (tC (.str "at"))) (tC (.int 1))))
  (tSeq (sDPut (tVar 0) (tC (.str "seed")) (tCall (sp__law_mixed K) [] E0 (tCons (tOp rAddI (tDGet (tVar 0) (tC (.str "seed"))) (tVar 2)) (tCons (tDGet (tVar 0) (tC (.str "at"))) tNil))))
  (tSeq (sDPut (tVar 0) (tC (.str "left")) (tC (.int 4)))
  (tIfS (tTest (tOp rGeI (tVar 2) (tOp rPowI (tC (.int 10)) (tC (.int 18))))) (tSeq (sDPut (tVar 0) (tC (.str "great")) (tVar 2))
  (sDPut (tVar 0) (tC (.str "left")) (tC (.int 60)))) tNext))))) tNext)
  (tSeq (tIfS (tTest (tOp rGtI (tDGet (tVar 0) (tC (.str "left"))) (tC (.int 0)))) (sDPut (tVar 0) (tC (.str "left")) (tOp rSubI (tDGet (tVar 0) (tC (.str "left"))) (tC (.int 1)))) tNext)
  (tSeq (tIfS (tTest (tOp rEq (tDGet (tVar 0) (tC (.str "great"))) (tC (.int 0)))) (tRet (tOp rModI (tCB rInt1 (tCons (tCall (sp__law_mixed K) [] E0 (tCons (tDGet (tVar 0) (tC (.str "seed"))) (tCons (tDGet (tVar 0) (tC (.str "turn"))) tNil))) tNil)) (tVar 1))) tNext)
  (tSeq (tAsg (tOp rModI (tCB rInt1 (tCons (tDGet (tVar 0) (tC (.str "great"))) tNil)) (tC (.int 1009))) (gName 3))
  (tSeq (sDPut (tVar 0) (tC (.str "great")) (tOp rDivI (tDGet (tVar 0) (tC (.str "great"))) (tC (.int 1009))))
  (tSeq (tIfS (tOr (tTest (tOp rEq (tDGet (tVar 0) (tC (.str "great"))) (tC (.int 0)))) (tTest (tOp rEq (tDGet (tVar 0) (tC (.str "left"))) (tC (.int 0))))) (tSeq (sDPut (tVar 0) (tC (.str "great")) (tC (.int 0)))
  (sDPut (tVar 0) (tC (.str "left")) (tC (.int 0)))) tNext)
  (tRet (tOp rModI (tCB rInt1 (tCons (tVar 3) tNil)) (tVar 1))))))))))
theorem len__law_mixed {K : PySem.W.Frag} : ∀ (vs : List V) (H : Hp) (Q : VK) (E : XK), sp__law_mixed K vs H Q E → vs.length = 2 := fun vs H Q E h => by
  obtain ⟨_, _, rfl, _⟩ := h
  rfl
theorem pure__law_mixed {K : PySem.W.Frag} (vs : List V) (H : Hp) (Q : VK) (E : XK) (h : sp__law_mixed K vs H Q E) : t__law_mixed { nx := fun _ H' => Q .non H', rt := Q } (start ["number", "turn", "first", "second"] vs) H := by
  obtain ⟨a, b, rfl, q⟩ := h
  show t__law_mixed _ [some (.int a), some (.int b), none, none] H
  unfold t__law_mixed
  walk_at "aw"
  generalize h1 : (a * 48271 + b * 69621 + 11) % 2147483647 = one
  have o0 : 0 ≤ one ∧ one < 2147483647 := by rw [← h1]; omega
  refine w_I ⟨by decide, by decide⟩ ?_
  walk_at "aw"
  generalize h2 : (one * 16807 + one / 127773 + b * 271) % 1000003 = two
  have o2 : 0 ≤ two ∧ two < 1000003 := by rw [← h2]; omega
  walk_at "aw"
  refine w_I (.inl ⟨by omega, by omega⟩) ?_
  walk_at "aw"
  refine w_I ⟨by decide, by decide⟩ ?_
  walk_at "aw"
  exact q _ (Int.emod_nonneg _ (by decide)) (Int.emod_lt_of_pos _ (by decide))
theorem len__law_tape {K : PySem.W.Frag} : ∀ (vs : List V) (H : Hp) (Q : VK) (E : XK), sp__law_tape K vs H Q E → vs.length = 1 := fun vs H Q E h => by
  obtain ⟨_, _, rfl, _⟩ := h
  rfl
theorem pure__law_tape {K : PySem.W.Frag} (vs : List V) (H : Hp) (Q : VK) (E : XK) (h : sp__law_tape K vs H Q E) : t__law_tape K { nx := fun _ H' => Q .non H', rt := Q } (start ["script"] vs) H := by
  obtain ⟨a, ns, rfl, hs, hl, q⟩ := h
  show t__law_tape K _ [some (.ref a)] H
  unfold t__law_tape
  walk_at "aw"
  intro st nst
  have a0 : Adv [] H (upd H st (.dK [])) := Adv.new nst
  refine w_c ?_
  refine w_cb ?_
  refine w_cons ?_
  refine w_var (v := .ref a) rfl ?_
  refine w_nil ?_
  refine w_listOf (.inl (a0.sql (fun z => nomatch z) hs)) fun c H1 nc a1 ec => ?_
  have e1 := a1.keep st _ (fun z => nomatch z) (upd_same (H := H) (o := .dK []))
  have ne : c ≠ st := fun z => by rw [z, upd_same] at nc; exact nomatch nc
  iterate 10 (refine w_c ?_)
  refine ⟨e1, tapeK c 0 0 0 7 0, rfl, by show 6 ≤ 15; decide, ?_⟩
  rw [show mergeK [] (tapeK c 0 0 0 7 0) = tapeK c 0 0 0 7 0 from rfl]
  refine q st (c, c) _ ⟨0, 0, 0, 7, 0, ns, upd_same, by rw [upd_ne ne]; exact ec, hl, ne, rfl, by decide⟩ ?_ nst
  exact (a0.trans a1).mut nst e1 (fun _ z => by cases z)
theorem len__law_draw {K : PySem.W.Frag} : ∀ (vs : List V) (H : Hp) (Q : VK) (E : XK), sp__law_draw K vs H Q E → vs.length = 2 := fun vs H Q E h => by
  obtain ⟨_, _, rfl, _⟩ := h
  rfl
theorem pure__law_draw {K : PySem.W.Frag} (vs : List V) (H : Hp) (Q : VK) (E : XK) (h : sp__law_draw K vs H Q E) : t__law_draw K { nx := fun _ H' => Q .non H', rt := Q } (start ["tape", "many", "cell", "digit"] vs) H := by
  obtain ⟨st, lim, rfl, ⟨c, c2⟩, ⟨i, g, l, s, t, ns, e, ec, hl, ne, e2, hi⟩, h0, h1, q⟩ := h
  dsimp only at e ec ne e2
  have e3 := e2.symm
  subst e3
  have P : PAt st c ns H i g l s t := ⟨e, ec, hl, ne⟩
  show t__law_draw K _ [some (.ref st), some (.int lim), none, none] H
  unfold t__law_draw
  have fin : ∀ (H' : Hp) (i g l s t n : Int), PAt st c ns H' i g l s t → Adv [st, c] H H' → 0 ≤ i → Q (.int (n % lim)) H' := fun H' i g l s t n p a hi => q _ _ (Int.emod_nonneg _ (by omega)) (Int.emod_lt_of_pos _ h0) ⟨a, p.ok hi⟩
  have tail2 : ∀ (H' : Hp) (y2 y3 : Option V) (i g l s t : Int), PAt st c ns H' i g l s t → Adv [st, c] H H' → 0 ≤ i → (tSeq (tIfS (tTest (tOp rEq (tDGet (tVar 0) (tC (.str "great"))) (tC (.int 0)))) (tRet (tOp rModI (tCB rInt1 (tCons (tCall (sp__law_mixed K) [] E0 (tCons (tDGet (tVar 0) (tC (.str "seed"))) (tCons (tDGet (tVar 0) (tC (.str "turn"))) tNil))) tNil)) (tVar 1))) tNext)
  (tSeq (tAsg (tOp rModI (tCB rInt1 (tCons (tDGet (tVar 0) (tC (.str "great"))) tNil)) (tC (.int 1009))) (gName 3))
  (tSeq (sDPut (tVar 0) (tC (.str "great")) (tOp rDivI (tDGet (tVar 0) (tC (.str "great"))) (tC (.int 1009))))
  (tSeq (tIfS (tOr (tTest (tOp rEq (tDGet (tVar 0) (tC (.str "great"))) (tC (.int 0)))) (tTest (tOp rEq (tDGet (tVar 0) (tC (.str "left"))) (tC (.int 0))))) (tSeq (sDPut (tVar 0) (tC (.str "great")) (tC (.int 0)))
  (sDPut (tVar 0) (tC (.str "left")) (tC (.int 0)))) tNext)
  (tRet (tOp rModI (tCB rInt1 (tCons (tVar 3) tNil)) (tVar 1))))))) { nx := fun _ H' => Q .non H', rt := Q } [some (.ref st), some (.int lim), y2, y3] H' := fun H' y2 y3 i g l s t p a hi => by
    walk_at "aw"
    refine p.get tp_great ?_
    walk_at "aw"
    refine w_iteB (fun _ => ?_) fun _ => ?_
    · walk_at "aw"
      refine p.get tp_seed ?_
      walk_at "aw"
      refine p.get tp_turn ?_
      walk_at "aw"
      refine ⟨_, _, rfl, fun n n0 n1 => ?_⟩
      walk_at "aw"
      exact fin _ i g l s t _ p a hi
    walk_at "aw"
    refine p.get tp_great ?_
    walk_at "aw"
    refine p.get tp_great ?_
    walk_at "aw"
    refine w_I ⟨by decide, by decide⟩ ?_
    walk_at "aw"
    refine p.put tq_great fun H2 p2 a2 => ?_
    walk_at "aw"
    refine p2.get tp_great ?_
    walk_at "aw"
    refine w_iteB (fun _ => ?_) fun _ => ?_
    · walk_at "aw"
      refine p2.put tq_great fun H3 p3 a3 => ?_
      walk_at "aw"
      refine p3.put tq_left fun H4 p4 a4 => ?_
      walk_at "aw"
      exact fin _ _ _ _ _ _ _ p4 (a.trans (a2.trans (a3.trans a4))) hi
    · walk_at "aw"
      refine p2.get tp_left ?_
      walk_at "aw"
      refine w_iteB (fun _ => ?_) fun _ => ?_
      · walk_at "aw"
        refine p2.put tq_great fun H3 p3 a3 => ?_
        walk_at "aw"
        refine p3.put tq_left fun H4 p4 a4 => ?_
        walk_at "aw"
        exact fin _ _ _ _ _ _ _ p4 (a.trans (a2.trans (a3.trans a4))) hi
      · walk_at "aw"
        exact fin _ _ _ _ _ _ _ p2 (a.trans a2) hi
  have tail1 : ∀ (H' : Hp) (y2 y3 : Option V) (i g l s t : Int), PAt st c ns H' i g l s t → Adv [st, c] H H' → 0 ≤ i → (tSeq (tIfS (tTest (tOp rGtI (tDGet (tVar 0) (tC (.str "left"))) (tC (.int 0)))) (sDPut (tVar 0) (tC (.str "left")) (tOp rSubI (tDGet (tVar 0) (tC (.str "left"))) (tC (.int 1)))) tNext)
  (tSeq (tIfS (tTest (tOp rEq (tDGet (tVar 0) (tC (.str "great"))) (tC (.int 0)))) (tRet (tOp rModI (tCB rInt1 (tCons (tCall (sp__law_mixed K) [] E0 (tCons (tDGet (tVar 0) (tC (.str "seed"))) (tCons (tDGet (tVar 0) (tC (.str "turn"))) tNil))) tNil)) (tVar 1))) tNext)
  (tSeq (tAsg (tOp rModI (tCB rInt1 (tCons (tDGet (tVar 0) (tC (.str "great"))) tNil)) (tC (.int 1009))) (gName 3))
  (tSeq (sDPut (tVar 0) (tC (.str "great")) (tOp rDivI (tDGet (tVar 0) (tC (.str "great"))) (tC (.int 1009))))
  (tSeq (tIfS (tOr (tTest (tOp rEq (tDGet (tVar 0) (tC (.str "great"))) (tC (.int 0)))) (tTest (tOp rEq (tDGet (tVar 0) (tC (.str "left"))) (tC (.int 0))))) (tSeq (sDPut (tVar 0) (tC (.str "great")) (tC (.int 0)))
  (sDPut (tVar 0) (tC (.str "left")) (tC (.int 0)))) tNext)
  (tRet (tOp rModI (tCB rInt1 (tCons (tVar 3) tNil)) (tVar 1)))))))) { nx := fun _ H' => Q .non H', rt := Q } [some (.ref st), some (.int lim), y2, y3] H' := fun H' y2 y3 i g l s t p a hi => by
    walk_at "aw"
    refine p.get tp_left ?_
    walk_at "aw"
    refine w_iteB (fun _ => ?_) fun _ => ?_
    · walk_at "aw"
      refine p.get tp_left ?_
      walk_at "aw"
      refine p.put tq_left fun H2 p2 a2 => ?_
      exact tail2 _ _ _ _ _ _ _ _ p2 (a.trans a2) hi
    · with_reducible refine w_next ?_
      exact tail2 _ _ _ _ _ _ _ _ p a hi
  walk_at "aw"
  refine P.get tp_turn ?_
  walk_at "aw"
  refine P.put tq_turn fun H2 p2 a2 => ?_
  with_reducible refine w_seq ?_
  walk_at "aw"
  refine p2.get tp_left ?_
  walk_at "aw"
  refine w_iteB (fun _ => ?_) fun _ => ?_
  case refine_2 =>
    with_reducible refine iteF ?_
    with_reducible refine w_next ?_
    exact tail1 _ _ _ _ _ _ _ _ p2 a2 hi
  walk_at "aw"
  refine p2.get tp_at ?_
  walk_at "aw"
  refine p2.get tp_cells ?_
  walk_at "aw"
  refine w_lenL (SqL.of p2.ec) ?_
  rw [List.length_map]
  walk_at "aw"
  refine w_iteB (fun hin => ?_) fun _ => ?_
  case refine_2 =>
    with_reducible refine w_next ?_
    exact tail1 _ _ _ _ _ _ _ _ p2 a2 hi
  walk_at "aw"
  refine p2.get tp_cells ?_
  walk_at "aw"
  refine p2.get tp_at ?_
  have hit : i.toNat < ns.length := by omega
  refine w_ixL (SqL.of p2.ec) (v := .int ns[i.toNat]) (at_of (j := i.toNat) (by omega) (by rw [List.getElem?_map, List.getElem?_eq_getElem hit]; rfl)) ?_
  walk_at "aw"
  refine p2.get tp_at ?_
  walk_at "aw"
  refine p2.put tq_at fun H3 p3 a3 => ?_
  walk_at "aw"
  refine p3.get tp_seed ?_
  walk_at "aw"
  refine p3.get tp_at ?_
  walk_at "aw"
  refine ⟨_, _, rfl, fun n n0 n1 => ?_⟩
  walk_at "aw"
  refine p3.put tq_seed fun H4 p4 a4 => ?_
  walk_at "aw"
  refine p4.put tq_left fun H5 p5 a5 => ?_
  have a25 := a2.trans (a3.trans (a4.trans a5))
  walk_at "aw"
  refine w_iteB (fun hc => ?_) fun _ => ?_
  · walk_at "aw"
    refine p5.put tq_great fun H6 p6 a6 => ?_
    walk_at "aw"
    refine p6.put tq_left fun H7 p7 a7 => ?_
    exact tail1 _ _ _ _ _ _ _ _ p7 (a25.trans (a6.trans a7)) (by omega)
  · with_reducible refine w_next ?_
    exact tail1 _ _ _ _ _ _ _ _ p5 a25 (by omega)
end AW
namespace AW
open PySem PySem.Spec PyProof.Rows L2 RZ
open StX
local macro_rules | `(tactic| walk_at "aw1") => `(tactic| first
  | (with_reducible refine w_seq ?_) | (with_reducible refine w_asg ?_) | (with_reducible refine w_gname ?_) | (with_reducible refine w_op ?_) | (with_reducible refine w_un ?_)
  | ((with_reducible refine' w_var ?h ?_); (case h => rfl)) | (with_reducible refine w_c ?_)
  | (with_reducible refine w_I0 ?_) | (with_reducible refine w_U ?_) | (with_reducible refine w_cb ?_) | (with_reducible refine w_nil ?_) | (with_reducible refine w_cons ?_) | (with_reducible refine w_call ?_)
  | (with_reducible refine w_test ?_) | (with_reducible refine w_B ?_) | (with_reducible refine w_bl ?_) | (with_reducible refine w_not ?_) | (with_reducible refine w_yes ?_) | (with_reducible refine iteT ?_) | (with_reducible refine iteF ?_) | (with_reducible refine w_and ?_) | (with_reducible refine w_or ?_)
  | (with_reducible refine w_andV ?_) | (with_reducible refine w_orV ?_) | (with_reducible refine w_notV ?_) | (with_reducible refine w_if ?_)
  | (with_reducible refine w_int1 ?_) | (with_reducible refine w_int1b ?_) | (with_reducible refine w_abs ?_) | (with_reducible refine w_max2 ?_) | (with_reducible refine w_min2 ?_)
  | ((with_reducible refine w_eq ?h ?_); (case h => rfl)) | ((with_reducible refine w_ne ?h ?_); (case h => rfl)) | (with_reducible refine w_isN ?_) | (with_reducible refine w_isB ?_) | (with_reducible refine w_chain ?_)
  | (with_reducible refine w_ret ?_) | (with_reducible refine w_drop ?_) | (with_reducible refine w_ifS ?_) | (with_reducible refine w_gsub ?_) | (with_reducible refine w_augS ?_) | (with_reducible refine w_ipI ?_) | (with_reducible refine w_next ?_)
  | (with_reducible refine w_forR ?_) | (with_reducible refine w_forR2 ?_) | (with_reducible refine w_forL ?_) | (with_reducible refine w_forT ?_) | (with_reducible refine w_lcR ?_) | (with_reducible refine w_lcL ?_) | (with_reducible refine w_lcT ?_) | (with_reducible refine w_sl ?_) | (with_reducible refine w_part ?_) | (with_reducible refine w_noPart ?_) | (with_reducible refine w_in ?_)
  | (with_reducible refine w_gcons ?_) | (with_reducible refine w_gnil ?_) | (with_reducible refine w_lc3 ?_) | (with_reducible refine w_dcZ ?_) | (with_reducible refine w_dcT ?_) | (with_reducible refine w_dg ?_) | (with_reducible refine w_callK ?_) | (with_reducible refine w_dput ?_) | (with_reducible refine w_tup1 ?_)
  | (with_reducible refine w_tup ?_) | (with_reducible refine w_lst ?_)
  | ((with_reducible refine w_I ?h ?_); (case h => first | (exact Or.inr ⟨by decide, by decide⟩) | (exact Or.inl ⟨by decide, by decide⟩) | (show (0 : Int) < _; decide) | (exact ⟨by decide, by decide, by decide⟩) | assumption)))
local macro_rules | `(tactic| walk_at "aw") => `(tactic| repeat (walk_at "aw1"))
def allN : List Str := ["a", "b", "x", "y", "z", "n1", "u.0", "q.q.q", "7", "0a", ".", "v..", "wwwwwwwwwwwwwwwwwwwwwwww", "abcdefghijkl.nopqrstuvwx", "s", "t", "web", "r.1", "m.2.3", "k9"]
theorem allN_ok : allN.Nodup ∧ ∀ x ∈ allN, x.cps.all (· < 0x110000) = true ∧ x.length ≤ 24 ∧ 0 < x.length := by unfold allN; decide +kernel
def allM : List Str := allN ++ (["x0", "x1", "x2"] : List Str)
theorem allM_ok : ∀ x ∈ allM, x.cps.all (· < 0x110000) = true := by unfold allM allN; decide +kernel
def sp__law_names (_ : PySem.W.Frag) : Sp := fun vs H Q _ => ∃ (st : Addr) (n : Nat), vs = [.ref st, .int (n : Nat)] ∧ ∃ cs, StOk st cs H ∧ n ≤ 20 ∧ ∀ l (names : List Str) H', Go st cs H H' → H l = none → H' l = some (.lst (names.map V.str)) → names.length = n → names.Nodup → (∀ x ∈ names, x ∈ allN) → Q (.ref l) H'
def sp__law_some (K : PySem.W.Frag) : Sp := fun vs H Q _ => ∃ (st p : Addr) (a b : Nat), vs = [.ref st, .ref p, .int (a : Nat), .int (b : Nat)] ∧ ∃ cs xs, StOk st cs H ∧ SqT K H p xs ∧ a ≤ b ∧ a ≤ xs.length ∧ b ≤ 1000 ∧ xs.length ≤ 1000 ∧ ∀ l made left H', Go st cs H H' → H l = none → H' l = some (.lst made) → (made ++ left).Perm xs → a ≤ made.length → made.length ≤ b → Q (.ref l) H'
structure DomOk (w : Nat) (fl : List Int) : Prop where
  l1 : 1 ≤ fl.length
  l2 : fl.length ≤ w
  asc : fl.Pairwise (· < ·)
  bd : ∀ x ∈ fl, -200 ≤ x ∧ x ≤ 200 ∧ x ≤ 188 + 2 * (w : Int)
def sp__law_domain (_ : PySem.W.Frag) : Sp := fun vs H Q _ => ∃ (st : Addr) (n : Nat), vs = [.ref st, .int (n : Nat)] ∧ ∃ cs, StOk st cs H ∧ 1 ≤ n ∧ n ≤ 12 ∧ ∀ t (fl : List Int) H', Go st cs H H' → H' t = some (.tup (fl.map V.int)) → DomOk n fl → Q (.ref t) H'
/-- pairs of a name and its domain -/
def UnkAt (H : Hp) (us : List V) (doms : List (Str × List Int)) : Prop := us.length = doms.length ∧ ∀ (i : Nat) u, us[i]? = some u → ∃ p q d, u = .ref p ∧ doms[i]? = some d ∧ H p = some (.tup [.str d.1, .ref q]) ∧ H q = some (.tup (d.2.map V.int))
theorem UnkAt.up {H H' : Hp} {us : List V} {doms : List (Str × List Int)} (h : UnkAt H us doms) (k : TK H H') : UnkAt H' us doms := ⟨h.1, fun i u e => by
  obtain ⟨p, q, d, h1, h2, h3, h4⟩ := h.2 i u e
  exact ⟨p, q, d, h1, h2, k _ _ h3, k _ _ h4⟩⟩
structure MdlOk (w : Nat) (doms : List (Str × List Int)) : Prop where
  nd : (doms.map (·.1)).Nodup
  nm : ∀ x ∈ doms.map (·.1), x ∈ allM
  dm : ∀ d ∈ doms, DomOk w d.2
def sp__law_unknowns (_ : PySem.W.Frag) : Sp := fun vs H Q _ => ∃ (st : Addr) (a b w : Nat), vs = [.ref st, .int (a : Nat), .int (b : Nat), .int (w : Nat)] ∧ ∃ cs, StOk st cs H ∧ 1 ≤ a ∧ a ≤ b ∧ b ≤ 12 ∧ 1 ≤ w ∧ w ≤ 12 ∧ ∀ t us doms H', Go st cs H H' → H' t = some (.tup us) → UnkAt H' us doms → MdlOk w doms → a ≤ doms.length → doms.length ≤ b → Q (.ref t) H'
theorem perm_map_inv {α β : Type} {f : α → β} {l m : List β} (h : l.Perm m) : ∀ {xs : List α}, m = xs.map f → ∃ ys : List α, ys.Perm xs ∧ l = ys.map f := by
  induction h with
  | nil => intro xs e; exact ⟨[], by rw [List.map_eq_nil_iff.mp e.symm], rfl⟩
  | cons x h ih =>
    intro xs e
    cases xs with
    | nil => cases e
    | cons a xs =>
      rw [List.map_cons, List.cons.injEq] at e
      obtain ⟨ys, h1, h2⟩ := ih e.2
      exact ⟨a :: ys, h1.cons _, by rw [List.map_cons, h2, e.1]⟩
  | swap x y l =>
    intro xs e
    match xs, e with
    | [], e => cases e
    | [a], e => cases e
    | a :: b :: xs, e =>
      rw [List.map_cons, List.map_cons, List.cons.injEq, List.cons.injEq] at e
      exact ⟨b :: a :: xs, .swap .., by rw [List.map_cons, List.map_cons, e.1, e.2.1, e.2.2]⟩
  | trans h1 h2 ih1 ih2 =>
    intro xs e
    obtain ⟨ys, a1, b1⟩ := ih2 e
    obtain ⟨zs, a2, b2⟩ := ih1 b1
    exact ⟨zs, a2.trans a1, b2⟩
theorem perm_erase {α : Type} {xs : List α} {i : Nat} {v : α} (h : xs[i]? = some v) : ([v] ++ xs.eraseIdx i).Perm xs := by
  induction xs generalizing i with
  | nil => simp at h
  | cons a xs ih =>
    cases i with
    | zero => cases h; exact .refl _
    | succ i =>
      rw [List.eraseIdx_cons_succ]
      exact (List.Perm.swap ..).trans ((ih (by simpa using h)).cons a)
theorem w_draw {K : PySem.W.Frag} {st : Addr} {cs : Addr × Addr} {lim : Int} {H : Hp} {Q : VK} {E : XK} (ok : StOk st cs H) (h1 : 0 < lim) (h2 : lim < 1073741824) (q : ∀ n H', 0 ≤ n → n < lim → Go st cs H H' → Q (.int n) H') : sp__law_draw K [.ref st, .int lim] H Q E := ⟨st, lim, rfl, cs, ok, h1, h2, q⟩
theorem ixN_at' {n j : Nat} (h : j < n) : ixN n ((j : Nat) : Int) = some j := by
  unfold ixN
  rw [if_pos (by omega), if_pos (by omega)]
  rfl
theorem w_catB {a b : Addr} {xs ys : List V} {H : Hp} {Q : VK} (h1 : H a = some (.lst xs)) (h2 : H b = some (.lst ys)) (hz : xs.length + ys.length ≤ 16777216) (q : ∀ r H', H r = none → Adv [] H H' → H' r = some (.lst (xs ++ ys)) → Q (.ref r) H') : rCat (.ref a) (.ref b) H Q :=
  ⟨a, b, xs, ys, rfl, rfl, h1, h2, by rw [sizeLine_eq]; omega, w_new q⟩
/-- one of a list of values, the list made for it -/
theorem w_ofL {K : PySem.W.Frag} {st : Addr} {cs : Addr × Addr} {xs : List V} {σ : L2.St} {H : Hp} {Q : VK} {m : Int} (ok : StOk st cs H) (hσ : σ[0]? = some (some (.ref st))) (hm : m = (xs.length : Nat)) (h0 : 0 < xs.length) (h1 : xs.length < 1000) (q : ∀ v ∈ xs, ∀ H', Go st cs H H' → Q v H') :
    kLstD xs H fun x H1 => tCall (sp__law_draw K) [] E0 (tCons (tVar 0) (tCons (tC (.int m)) tNil)) σ H1 fun y H2 => rIxL K x y H2 Q := by
  refine w_lstD (by omega) fun l H1 nl a1 el => ?_
  have g1 := Go.of ok a1
  refine ⟨_, hσ, ?_⟩
  show sp__law_draw K [.ref st, .int m] H1 (fun y H2 => rIxL K (.ref l) y H2 Q) E0
  refine w_draw (lim := m) g1.ok (by omega) (by omega) fun n H2 n0 n1 g2 => ?_
  exact w_ixL (SqL.of (g2.keep (ok.ne nl).1 el)) (v := xs[n.toNat]'(by omega)) (at_nat n0 (List.getElem?_eq_getElem (by omega))) (q _ (List.getElem_mem _) _ (g1.trans g2))
theorem filt_get (P : Int → Bool) (xs : List Int) : ((List.range xs.length).filter fun i => P (xs.getD i 0)).map (fun i => V.int (xs.getD i 0)) = (xs.filter P).map V.int := by
  conv => rhs; rw [← range_getD xs 0]
  rw [List.filter_map, List.map_map]
  rfl
theorem w_slTo {K : PySem.W.Frag} {p : Addr} {xs : List V} {n : Int} {H : Hp} {Q : VK} (h : H p = some (.tup xs)) (h0 : 0 ≤ n) (q : ∀ t H', Adv [] H H' → H' t = some (.tup (xs.take n.toNat)) → Q (.ref t) H') : rSlA K (.ref p) none (some n) H Q := by
  refine ⟨p, xs, rfl, SqT.of h, fun z => q p H (.refl _ _) ?_, fun _ => w_new fun r H' _ a e => q r H' a (by rw [← cut_to xs h0]; exact e)⟩
  rw [h, ← cut_to xs h0]
  unfold cutV
  rw [z.1, z.2]
  simp
def t__law_names (K : PySem.W.Frag) : TS := (tSeq (tAsg (tLst (tCons (tC (.str "a")) (tCons (tC (.str "b")) (tCons (tC (.str "x")) (tCons (tC (.str "y")) (tCons (tC (.str "z")) (tCons (tC (.str "n1")) (tCons (tC (.str "u.0")) (tCons (tC (.str "q.q.q")) (tCons (tC (.str "7")) (tCons (tC (.str "0a")) (tCons (tC (.str ".")) (tCons (tC (.str "v..")) (tCons (tC (.str "wwwwwwwwwwwwwwwwwwwwwwww")) tNil)))))))))))))) (gName 2))
  (tSeq (tAsg (tOp rCat (tVar 2) (tLst (tCons (tC (.str "abcdefghijkl.nopqrstuvwx")) (tCons (tC (.str "s")) (tCons (tC (.str "t")) (tCons (tC (.str "web")) (tCons (tC (.str "r.1")) (tCons (tC (.str "m.2.3")) (tCons (tC (.str "k9")) tNil))))))))) (gName 2))
  (tRet (tLc (iRng1 (tCons (tVar 1) tNil)) (gName 3) tYes (tBM K "list" rPopAt (tVar 2) (tCons (tCall (sp__law_draw K) [] E0 (tCons (tVar 0) (tCons (tCB (rLen1 K) (tCons (tVar 2) tNil)) tNil))) tNil)) [3]))))
def t__law_some (K : PySem.W.Frag) : TS := (tSeq (tAsg (tCB (rListOf K) (tCons (tVar 1) tNil)) (gName 4))
  (tSeq (tAsg (tOp rAddI (tVar 2) (tCall (sp__law_draw K) [] E0 (tCons (tVar 0) (tCons (tCB rMax2 (tCons (tC (.int 1)) (tCons (tOp rAddI (tOp rSubI (tCB rMin2 (tCons (tVar 3) (tCons (tCB (rLen1 K) (tCons (tVar 4) tNil)) tNil))) (tVar 2)) (tC (.int 1))) tNil))) tNil)))) (gName 5))
  (tRet (tLc (iRng1 (tCons (tVar 5) tNil)) (gName 6) tYes (tBM K "list" rPopAt (tVar 4) (tCons (tCall (sp__law_draw K) [] E0 (tCons (tVar 0) (tCons (tCB (rLen1 K) (tCons (tVar 4) tNil)) tNil))) tNil)) [6]))))
def t__law_domain (K : PySem.W.Frag) : TS := (tSeq (tAsg (tCB rMin2 (tCons (tVar 1) (tCons (tOp rAddI (tC (.int 1)) (tCall (sp__law_draw K) [] E0 (tCons (tVar 0) (tCons (tOp rAddI (tVar 1) (tC (.int 1))) tNil)))) tNil))) (gName 2))
  (tSeq (tAsg (tOp (rIxL K) (tLst (tCons (tC (.int 0)) (tCons (tC (.int 0)) (tCons (tUn rNeg (tC (.int 1))) (tCons (tC (.int 1)) (tCons (tUn rNeg (tC (.int 2))) (tCons (tUn rNeg (tC (.int 200))) (tCons (tC (.int 190)) tNil)))))))) (tCall (sp__law_draw K) [] E0 (tCons (tVar 0) (tCons (tC (.int 7)) tNil)))) (gName 3))
  (tSeq (tAsg (tLst (tCons (tVar 3) tNil)) (gName 4))
  (tSeq (tFor (iRng1 (tCons (tOp rSubI (tVar 2) (tC (.int 1))) tNil)) (gName 5)
  (tDrop (tBM K "list" rAppend (tVar 4) (tCons (tOp rAddI (tOp (rIxL K) (tVar 4) (tUn rNeg (tC (.int 1)))) (tOp (rIxL K) (tLst (tCons (tC (.int 1)) (tCons (tC (.int 1)) (tCons (tC (.int 1)) (tCons (tC (.int 2)) tNil))))) (tCall (sp__law_draw K) [] E0 (tCons (tVar 0) (tCons (tC (.int 4)) tNil))))) tNil))))
  (tRet (tThen (tLc (iList K (tVar 4)) (gName 6) (tTest (tOp rLeI (tVar 6) (tC (.int 200)))) (tVar 6) [6]) (kTup K)))))))
def t__law_unknowns (K : PySem.W.Frag) : TS := (tSeq (tAsg (tCall (sp__law_names K) [] E0 (tCons (tVar 0) (tCons (tC (.int 12)) tNil))) (gName 4))
  (tSeq (tAsg (tLst tNil) (gName 5))
  (tSeq (tAsg (tC (.int 1)) (gName 6))
  (tSeq (tFor (iRng1 (tCons (tOp rAddI (tVar 1) (tCall (sp__law_draw K) [] E0 (tCons (tVar 0) (tCons (tOp rAddI (tOp rSubI (tVar 2) (tVar 1)) (tC (.int 1))) tNil)))) tNil)) (gName 7)
  (tSeq (tAsg (tCall (sp__law_domain K) [] E0 (tCons (tVar 0) (tCons (tVar 3) tNil))) (gName 8))
  (tSeq (tAsg (tSl (rSlA K) (tVar 8) tNoPart (tPart (tCB rMax2 (tCons (tC (.int 1)) (tCons (tOp rDivI (tC (.int 100)) (tVar 6)) tNil))))) (gName 8))
  (tSeq (tAsg (tOp rMulI (tVar 6) (tCB (rLen1 K) (tCons (tVar 8) tNil))) (gName 6))
  (tDrop (tBM K "list" rAppend (tVar 5) (tCons (tTup (tCons (tOp (rIxL K) (tVar 4) (tVar 7)) (tCons (tVar 8) tNil))) tNil)))))))
  (tRet (tThen (tVar 5) (kTup K)))))))
theorem len__law_names {K : PySem.W.Frag} : ∀ (vs : List V) (H : Hp) (Q : VK) (E : XK), sp__law_names K vs H Q E → vs.length = 2 := fun vs H Q E h => by
  obtain ⟨_, _, rfl, _⟩ := h
  rfl
theorem pure__law_names {K : PySem.W.Frag} (vs : List V) (H : Hp) (Q : VK) (E : XK) (h : sp__law_names K vs H Q E) : t__law_names K { nx := fun _ H' => Q .non H', rt := Q } (start ["tape", "many", "left", "k"] vs) H := by
  obtain ⟨st, n, rfl, cs, ok, hn, q⟩ := h
  show t__law_names K _ [some (.ref st), some (.int (n : Nat)), none, none] H
  unfold t__law_names
  walk_at "aw"
  refine w_lstD (by simp) fun l1 H1 nl1 a1 el1 => ?_
  walk_at "aw"
  refine w_lstD (by simp) fun l2 H2 nl2 a2 el2 => ?_
  refine w_catB (a2.keep _ _ (fun z => nomatch z) el1) el2 (by simp) fun l H3 nl3 a3 el => ?_
  have a13 := a1.trans (a2.trans a3)
  have nl : H l = none := a1.free (fun z => nomatch z) (a2.free (fun z => nomatch z) nl3)
  have el : H3 l = some (.lst (allN.map V.str)) := el
  have hal : (allN.map V.str).length = 20 := rfl
  walk_at "aw"
  refine ⟨(n : Nat), rfl, by omega, by omega, ?_⟩
  rw [show ((n : Nat) : Int).toNat = n by omega]
  intro D hD
  have nD0 : H D = none := (Go.of ok a13).free ok hD
  have nDst : Off D st cs := (ok.ne nD0).1
  have nlst : Off l st cs := (ok.ne nl).1
  have hlD : l ≠ D := ne_of_none el hD
  refine lc_it walk_range (fun i H' => i ≤ n ∧ Go st cs H H' ∧ ∃ made left, H' D = some (.lst made) ∧ H' l = some (.lst left) ∧ made.length = i ∧ (made ++ left).Perm (allN.map V.str)) ⟨Nat.zero_le _, (Go.of ok a13).new (Adv.new hD), [], (allN.map V.str), upd_same, by rw [upd_ne hlD]; exact el, rfl, .refl _⟩ (fun i H' _ _ => trivial) (fun i x H' H'' hi pp y => ?_) fun H' pp => ?_
  · obtain ⟨hi', g, made, left, e1, e2, hm, hperm⟩ := pp
    obtain ⟨rfl, rfl⟩ := y
    have hll : left.length = ((allN.map V.str)).length - i := by
      have := hperm.length_eq
      rw [List.length_append] at this
      omega
    walk_at "aw"
    refine ⟨rfl, ?_⟩
    walk_at "aw"
    refine w_popAt rfl e2 ?_
    walk_at "aw"
    refine w_lenL (SqL.of e2) ?_
    walk_at "aw"
    refine w_draw g.ok (by omega) (by omega) fun n H3 n0 n1 g3 => ?_
    walk_at "aw"
    obtain ⟨v, hv⟩ := get_some (xs := left) (i := n.toNat) (by omega)
    have e13 := g3.keep nDst e1
    have e23 := g3.keep nlst e2
    have hsx : seqIndex? n left.length = some n.toNat := (ixN_seq (by
      have := ixN_at' (n := left.length) (j := n.toNat) (by omega)
      rw [show ((n.toNat : Nat) : Int) = n by omega] at this
      exact this)).1
    refine ⟨l, left, n, n.toNat, v, rfl, rfl, e23, by omega, by omega, hsx, hv, ?_⟩
    have e14 : (upd H3 l (.lst (left.eraseIdx n.toNat))) D = some (.lst made) := by rw [upd_ne hlD.symm]; exact e13
    have g4 := (g.trans g3).mutL (o := .lst (left.eraseIdx n.toNat)) ok nl e23
    refine ⟨made, e14, Nat.lt_of_lt_of_le (show made.length < 100001 by omega) (by decide), by omega, g4.mutL ok nD0 e14, made ++ [v], left.eraseIdx n.toNat, upd_same, by rw [upd_ne hlD, upd_same], by rw [List.length_append, hm]; rfl, ?_⟩
    refine List.Perm.trans ?_ hperm
    rw [List.append_assoc]
    exact List.Perm.append_left made (perm_erase hv)
  · obtain ⟨_, g, made, left, e1, e2, hm, hperm⟩ := pp

    obtain ⟨ys, hys, e3⟩ := perm_map_inv hperm rfl
    have hml : made = (ys.take made.length).map V.str := by
      have := congrArg (List.take made.length) e3
      rwa [List.take_left, ← List.map_take] at this
    have hsub : ∀ x ∈ ys.take made.length, x ∈ allN := fun x hx => hys.subset (List.mem_of_mem_take hx)
    rw [hml] at e1
    refine q D (ys.take made.length) H' g nD0 e1 ?_ ((hys.nodup_iff.mpr allN_ok.1).sublist (List.take_sublist _ _)) hsub
    rw [← hm, ← List.length_map (f := V.str), ← hml]
theorem len__law_some {K : PySem.W.Frag} : ∀ (vs : List V) (H : Hp) (Q : VK) (E : XK), sp__law_some K vs H Q E → vs.length = 4 := fun vs H Q E h => by
  obtain ⟨_, _, _, _, rfl, _⟩ := h
  rfl
theorem pure__law_some {K : PySem.W.Frag} (vs : List V) (H : Hp) (Q : VK) (E : XK) (h : sp__law_some K vs H Q E) : t__law_some K { nx := fun _ H' => Q .non H', rt := Q } (start ["tape", "unknowns", "least", "most", "left", "many", "k"] vs) H := by
  obtain ⟨st, p, a, b, rfl, cs, xs, ok, hp, hab, hax, hb, hx, q⟩ := h
  show t__law_some K _ [some (.ref st), some (.ref p), some (.int (a : Nat)), some (.int (b : Nat)), none, none, none] H
  unfold t__law_some
  walk_at "aw"
  refine w_listOf (.inr hp) fun l H1 nl a1 el1 => ?_
  have g1 := Go.of ok a1
  walk_at "aw"
  refine w_lenL (SqL.of el1) ?_
  walk_at "aw"
  refine w_draw g1.ok (by omega) (by omega) fun z H2 z0 z1 g2 => ?_
  have g12 := g1.trans g2
  have el := g2.keep (ok.ne nl).1 el1
  obtain ⟨m, hm, hma, hmb, hmx⟩ : ∃ m : Nat, (a : Int) + z = (m : Int) ∧ a ≤ m ∧ m ≤ b ∧ m ≤ xs.length := ⟨a + z.toNat, by omega, by omega, by omega, by omega⟩
  walk_at "aw"
  rw [hm]
  refine ⟨(m : Nat), rfl, by omega, by omega, ?_⟩
  rw [show ((m : Nat) : Int).toNat = m by omega]
  intro D hD
  have nD0 : H D = none := (g12).free ok hD
  have nDst : Off D st cs := (ok.ne nD0).1
  have nlst : Off l st cs := (ok.ne nl).1
  have hlD : l ≠ D := ne_of_none el hD
  refine lc_it walk_range (fun i H' => i ≤ m ∧ Go st cs H H' ∧ ∃ made left, H' D = some (.lst made) ∧ H' l = some (.lst left) ∧ made.length = i ∧ (made ++ left).Perm xs) ⟨Nat.zero_le _, (g12).new (Adv.new hD), [], xs, upd_same, by rw [upd_ne hlD]; exact el, rfl, .refl _⟩ (fun i H' _ _ => trivial) (fun i x H' H'' hi pp y => ?_) fun H' pp => ?_
  · obtain ⟨hi', g, made, left, e1, e2, hm, hperm⟩ := pp
    obtain ⟨rfl, rfl⟩ := y
    have hll : left.length = (xs).length - i := by
      have := hperm.length_eq
      rw [List.length_append] at this
      omega
    walk_at "aw"
    refine ⟨rfl, ?_⟩
    walk_at "aw"
    refine w_popAt rfl e2 ?_
    walk_at "aw"
    refine w_lenL (SqL.of e2) ?_
    walk_at "aw"
    refine w_draw g.ok (by omega) (by omega) fun n H3 n0 n1 g3 => ?_
    walk_at "aw"
    obtain ⟨v, hv⟩ := get_some (xs := left) (i := n.toNat) (by omega)
    have e13 := g3.keep nDst e1
    have e23 := g3.keep nlst e2
    have hsx : seqIndex? n left.length = some n.toNat := (ixN_seq (by
      have := ixN_at' (n := left.length) (j := n.toNat) (by omega)
      rw [show ((n.toNat : Nat) : Int) = n by omega] at this
      exact this)).1
    refine ⟨l, left, n, n.toNat, v, rfl, rfl, e23, by omega, by omega, hsx, hv, ?_⟩
    have e14 : (upd H3 l (.lst (left.eraseIdx n.toNat))) D = some (.lst made) := by rw [upd_ne hlD.symm]; exact e13
    have g4 := (g.trans g3).mutL (o := .lst (left.eraseIdx n.toNat)) ok nl e23
    refine ⟨made, e14, Nat.lt_of_lt_of_le (show made.length < 100001 by omega) (by decide), by omega, g4.mutL ok nD0 e14, made ++ [v], left.eraseIdx n.toNat, upd_same, by rw [upd_ne hlD, upd_same], by rw [List.length_append, hm]; rfl, ?_⟩
    refine List.Perm.trans ?_ hperm
    rw [List.append_assoc]
    exact List.Perm.append_left made (perm_erase hv)
  · obtain ⟨_, g, made, left, e1, e2, hm, hperm⟩ := pp

    exact q D made left H' g nD0 e1 hperm (by omega) (by omega)
theorem len__law_domain {K : PySem.W.Frag} : ∀ (vs : List V) (H : Hp) (Q : VK) (E : XK), sp__law_domain K vs H Q E → vs.length = 2 := fun vs H Q E h => by
  obtain ⟨_, _, rfl, _⟩ := h
  rfl
theorem pure__law_domain {K : PySem.W.Frag} (vs : List V) (H : Hp) (Q : VK) (E : XK) (h : sp__law_domain K vs H Q E) : t__law_domain K { nx := fun _ H' => Q .non H', rt := Q } (start ["tape", "most", "many", "value", "found", "k", "one"] vs) H := by
  obtain ⟨st, n, rfl, cs, ok, hn1, hn2, q⟩ := h
  show t__law_domain K _ [some (.ref st), some (.int (n : Nat)), none, none, none, none, none] H
  unfold t__law_domain
  walk_at "aw"
  refine w_draw ok (by omega) (by omega) fun z H1 z0 z1 g1 => ?_
  walk_at "aw"
  generalize hmm : (if 1 + z < (n : Int) then 1 + z else (n : Int)) = mz
  obtain ⟨m, rfl, hm1, hm2⟩ : ∃ m : Nat, mz = (m : Int) ∧ 1 ≤ m ∧ m ≤ n := by
    refine ⟨mz.toNat, ?_, ?_, ?_⟩ <;> · rw [← hmm]; split <;> omega
  clear hmm
  refine w_ofL (xs := [.int 0, .int 0, .int (-1), .int 1, .int (-2), .int (-200), .int 190]) g1.ok rfl rfl (by simp) (by simp) fun v hv H2 g2 => ?_
  obtain ⟨f, rfl, hf⟩ : ∃ f : Int, v = .int f ∧ -200 ≤ f ∧ f ≤ 190 := by
    simp only [List.mem_cons, List.not_mem_nil, or_false] at hv
    rcases hv with rfl | rfl | rfl | rfl | rfl | rfl | rfl <;> exact ⟨_, rfl, by decide, by decide⟩
  have g12 := g1.trans g2
  walk_at "aw"
  refine w_lstD (by simp) fun l H3 nl a3 el => ?_
  have nl0 := g12.free ok nl
  have nlst := (ok.ne nl0).1
  walk_at "aw"
  rw [show ((m : Nat) : Int) - 1 = ((m - 1 : Nat) : Int) by omega]
  refine kForR_i (n := m - 1) (by omega) (fun i σ' H' => ∃ (y5 : Option V) (fl : List Int), σ' = [some (.ref st), some (.int (n : Nat)), some (.int (m : Nat)), some (.int f), some (.ref l), y5, none] ∧ Go st cs H H' ∧ H' l = some (.lst (fl.map V.int)) ∧ fl.length = i + 1 ∧ fl[0]? = some f ∧ fl.Pairwise (· < ·) ∧ ∀ x ∈ fl, f ≤ x ∧ x ≤ f + 2 * (i : Int))
    ⟨_, [f], rfl, g12.new a3, el, rfl, rfl, List.pairwise_singleton _ _, fun x hx => by rw [List.mem_singleton.mp hx]; omega⟩ (fun i σ' H' hi pp => ?_) fun σ' H' pp => ?_
  · obtain ⟨y5, fl, rfl, g, el, hfl, hfz, hp, hb⟩ := pp
    walk_at "aw"
    refine w_app rfl el ?_
    walk_at "aw"
    have hlast : (fl.map V.int)[i]? = some (.int (fl.getD i 0)) := by
      rw [List.getElem?_map, List.getElem?_eq_getElem (show i < fl.length by omega), getD_of (List.getElem?_eq_getElem (show i < fl.length by omega))]
      rfl
    refine w_ixL (SqL.of el) (v := .int (fl.getD i 0)) ?_ ?_
    · unfold atI ixN
      rw [if_neg (by decide), if_pos (by rw [List.length_map]; omega), List.length_map, Option.bind_some, show (-1 + ((fl.length : Nat) : Int)).toNat = i by omega]
      exact hlast
    walk_at "aw"
    refine w_ofL (xs := [.int 1, .int 1, .int 1, .int 2]) g.ok rfl rfl (by simp) (by simp) fun s hs H3 g3 => ?_
    obtain ⟨s, rfl, hs2⟩ : ∃ t : Int, s = .int t ∧ 1 ≤ t ∧ t ≤ 2 := by
      simp only [List.mem_cons, List.not_mem_nil, or_false] at hs
      rcases hs with rfl | rfl | rfl | rfl <;> exact ⟨_, rfl, by decide, by decide⟩
    have el3 := g3.keep nlst el
    walk_at "aw"
    refine w_append el3 (by rw [List.length_map]; omega) ?_
    walk_at "aw"
    have hx : fl.getD i 0 ∈ fl := by
      rw [getD_of (List.getElem?_eq_getElem (show i < fl.length by omega))]
      exact List.getElem_mem _
    refine ⟨_, fl ++ [fl.getD i 0 + s], rfl, (g.trans g3).mutL ok nl0 el3, by rw [upd_same, List.map_append]; rfl, by rw [List.length_append, hfl]; rfl, by rw [List.getElem?_append_left (by omega)]; exact hfz, ?_, fun x hx' => ?_⟩
    · rw [List.pairwise_append]
      refine ⟨hp, List.pairwise_singleton _ _, fun a ha b hb' => ?_⟩
      rw [List.mem_singleton.mp hb']
      obtain ⟨j, hj, rfl⟩ := List.mem_iff_getElem.mp ha
      rw [getD_of (List.getElem?_eq_getElem (show i < fl.length by omega))]
      by_cases z : j = i
      · subst z
        omega
      · have := List.pairwise_iff_getElem.mp hp j i hj (by omega) (by omega)
        omega
    · rcases List.mem_append.mp hx' with h | h
      · have := hb x h
        omega
      · have := hb _ hx
        rw [List.mem_singleton.mp h]
        omega
  · obtain ⟨y5, fl, rfl, g, el, hfl, hfz, hp, hb⟩ := pp
    walk_at "aw"
    refine ⟨l, rfl, ⟨_, SqL.of el⟩, kLc_pure (walk_list (xs := fl.map V.int)) (by rw [List.length_map]; omega) (fun H' a => SqL.of (a.keep _ _ (fun z => nomatch z) el)) (fun i => decide (fl.getD i 0 ≤ 200)) (fun i => .int (fl.getD i 0)) (fun i v H2 H3 Kt Kf hi a2 yy kt kf => ?_) fun l2 H2 nl2 a2 el2 => ?_⟩
    · obtain ⟨rfl, hv⟩ := yy
      have hi' : i < fl.length := by rw [List.length_map] at hi; exact hi
      rw [List.getElem?_map, List.getElem?_eq_getElem hi'] at hv
      cases hv
      rw [getD_of (List.getElem?_eq_getElem hi')] at kt kf
      walk_at "aw"
      refine ⟨rfl, ?_⟩
      walk_at "aw"
      refine w_iteB (fun h => ?_) fun h => ?_
      · walk_at "aw"
        exact kt (decide_eq_true h) _ (.refl _ _)
      · exact kf (decide_eq_false h) _ (.refl _ _)
    · rw [List.length_map, filt_get fun x => decide (x ≤ 200)] at el2
      walk_at "aw"
      refine w_tupL (SqL.of el2) fun t H3 nt a3 et => ?_
      refine q t _ H3 (g.new (a2.trans a3)) et ⟨?_, ?_, hp.filter _, fun x hx => ?_⟩
      · have : f ∈ fl.filter fun x => decide (x ≤ 200) := List.mem_filter.mpr ⟨List.mem_of_getElem? hfz, decide_eq_true (by omega)⟩
        exact List.length_pos_of_mem this
      · have := List.length_filter_le (fun x => decide (x ≤ 200)) fl
        omega
      · obtain ⟨h1, h2⟩ := List.mem_filter.mp hx
        have := hb x h1
        have := of_decide_eq_true h2
        omega
theorem len__law_unknowns {K : PySem.W.Frag} : ∀ (vs : List V) (H : Hp) (Q : VK) (E : XK), sp__law_unknowns K vs H Q E → vs.length = 4 := fun vs H Q E h => by
  obtain ⟨_, _, _, _, rfl, _⟩ := h
  rfl
theorem DomOk.take {w : Nat} {fl : List Int} (h : DomOk w fl) {m : Nat} (hm : 1 ≤ m) : DomOk w (fl.take m) := by
  obtain ⟨h1, h2, h3, h4⟩ := h
  exact ⟨by rw [List.length_take]; omega, by rw [List.length_take]; omega, h3.sublist (List.take_sublist _ _), fun x hx => h4 x (List.mem_of_mem_take hx)⟩
theorem pure__law_unknowns {K : PySem.W.Frag} (vs : List V) (H : Hp) (Q : VK) (E : XK) (h : sp__law_unknowns K vs H Q E) : t__law_unknowns K { nx := fun _ H' => Q .non H', rt := Q } (start ["tape", "least", "most", "wide", "names", "found", "many", "k", "domain"] vs) H := by
  obtain ⟨st, a, b, w, rfl, cs, ok, ha, hab, hb, hw1, hw2, q⟩ := h
  show t__law_unknowns K _ [some (.ref st), some (.int (a : Nat)), some (.int (b : Nat)), some (.int (w : Nat)), none, none, none, none, none] H
  unfold t__law_unknowns
  walk_at "aw"
  refine ⟨st, 12, rfl, cs, ok, by decide, fun nl names H1 g1 nnl enl hnl hnd hnm => ?_⟩
  have onl := (ok.ne nnl).1
  walk_at "aw"
  refine w_lstD (by simp) fun l H2 nl2 a2 el => ?_
  have nl0 := g1.free ok nl2
  have nlst := (ok.ne nl0).1
  have g12 := g1.new a2
  have enl2 := a2.keep _ _ (fun z => nomatch z) enl
  walk_at "aw"
  refine w_draw g12.ok (by omega) (by omega) fun z H3 z0 z1 g3 => ?_
  obtain ⟨m, hm, hma, hmb⟩ : ∃ m : Nat, (a : Int) + z = (m : Int) ∧ a ≤ m ∧ m ≤ b := ⟨a + z.toNat, by omega, by omega, by omega⟩
  walk_at "aw"
  rw [hm]
  have enl3 := g3.keep onl enl2
  refine kForR_i (n := m) (by omega) (fun i σ' H' => ∃ (y7 y8 : Option V) (us : List V) (doms : List (Str × List Int)) (mm : Int), σ' = [some (.ref st), some (.int (a : Nat)), some (.int (b : Nat)), some (.int (w : Nat)), some (.ref nl), some (.ref l), some (.int mm), y7, y8] ∧ Go st cs H H' ∧ H' nl = some (.lst (names.map V.str)) ∧ H' l = some (.lst us) ∧ UnkAt H' us doms ∧ doms.map (·.1) = names.take i ∧ (1 ≤ mm ∧ mm ≤ 100) ∧ ∀ d ∈ doms, DomOk w d.2)
    ⟨_, _, [], [], 1, rfl, g12.trans g3, enl3, g3.keep nlst el, ⟨rfl, fun i u e => by simp at e⟩, rfl, ⟨by decide, by decide⟩, fun _ h => nomatch h⟩ (fun i σ' H' hi pp => ?_) fun σ' H' pp => ?_
  · obtain ⟨y7, y8, us, doms, mm, rfl, g, enl', el', hus, hdn, ⟨hmm, hm100⟩, hdm⟩ := pp
    walk_at "aw"
    refine ⟨st, w, rfl, cs, g.ok, hw1, hw2, fun dt fl H4 g4 edt hdt => ?_⟩
    walk_at "aw"
    refine w_I (by unfold CDiv; omega) ?_
    walk_at "aw"
    generalize hk : (if 100 / mm > 1 then 100 / mm else 1) = kk
    have hk1 : 1 ≤ kk := by rw [← hk]; split <;> omega
    have hk2 : mm * kk ≤ 100 := by
      have h1 : 1 ≤ 100 / mm := Int.le_ediv_of_mul_le (by omega) (by omega)
      have h2 : kk = 100 / mm := by rw [← hk]; split <;> omega
      rw [h2]
      exact Int.mul_ediv_self_le (by omega)
    refine w_slTo edt (by omega) fun dt2 H5 a5 edt2 => ?_
    rw [← List.map_take] at edt2
    have hdt2 := hdt.take (m := kk.toNat) (by omega)
    walk_at "aw"
    refine w_lenT (SqT.of edt2) ?_
    rw [List.length_map]
    walk_at "aw"
    refine w_I (.inl ⟨by omega, by omega⟩) ?_
    walk_at "aw"
    have g5 := g4.new a5
    have enl5 := g5.keep onl enl'
    have el5 := g5.keep nlst el'
    obtain ⟨x, hx⟩ := get_some (xs := names) (i := i) (by omega)
    refine w_app rfl el5 ?_
    walk_at "aw"
    refine w_ixL (SqL.of enl5) (v := .str x) (at_of (j := i) rfl (by rw [List.getElem?_map, hx]; rfl)) ?_
    walk_at "aw"
    refine w_tupD (by show 2 ≤ 100000; decide) fun pr H6 npr a6 epr => ?_
    walk_at "aw"
    have el6 := a6.keep _ _ (fun z => nomatch z) el5
    have hdl : doms.length = i := by
      have := congrArg List.length hdn
      rw [List.length_map, List.length_take] at this
      omega
    have hul := hus.1
    refine w_append el6 (by omega) ?_
    walk_at "aw"
    have kk2 : TK H6 (upd H6 l (.lst (us ++ [.ref pr]))) := (Adv.lst el6).tup
    have hnl : nl ≠ l := ne_of_none enl nl2
    have hpos := hdt2.l1
    refine ⟨_, _, us ++ [.ref pr], doms ++ [(x, fl.take kk.toNat)], _, rfl, ((g.trans g5).new a6).mutL ok nl0 el6, by rw [upd_ne hnl]; exact a6.keep _ _ (fun z => nomatch z) enl5, upd_same, ⟨by rw [List.length_append, List.length_append, hul]; rfl, fun j u hj => ?_⟩, by rw [List.map_append, hdn, List.take_add_one, hx]; rfl, ?_, fun d hd => ?_⟩
    · by_cases hjl : j < us.length
      · rw [List.getElem?_append_left hjl] at hj
        obtain ⟨p', q', d', e1, e2, e3, e4⟩ := (hus.up (TK.trans g5.tk (TK.trans a6.tup kk2))).2 j u hj
        exact ⟨p', q', d', e1, by rw [List.getElem?_append_left (by rw [← hul]; exact hjl)]; exact e2, e3, e4⟩
      · have hj2 := (List.getElem?_eq_some_iff.mp hj).1
        rw [List.length_append] at hj2
        simp at hj2
        have hj3 : j = us.length := by omega
        subst hj3
        rw [List.getElem?_append_right (Nat.le_refl _), Nat.sub_self] at hj
        simp at hj
        subst hj
        exact ⟨pr, dt2, (x, fl.take kk.toNat), rfl, by rw [hul, List.getElem?_append_right (Nat.le_refl _), Nat.sub_self]; rfl, kk2 _ _ epr, kk2 _ _ (a6.tup _ _ edt2)⟩
    · have h1 : (1 : Int) ≤ ((fl.take kk.toNat).length : Nat) := by omega
      have h3 := Int.mul_le_mul hmm h1 (by decide) (by omega)
      have h4 : ((fl.take kk.toNat).length : Int) ≤ kk := by rw [List.length_take]; omega
      have h5 := Int.mul_le_mul_of_nonneg_left h4 (show 0 ≤ mm by omega)
      exact ⟨by omega, by omega⟩
    · rcases List.mem_append.mp hd with h | h
      · exact hdm d h
      · rw [List.mem_singleton.mp h]
        exact hdt2
  · obtain ⟨y7, y8, us, doms, mm, rfl, g, enl', el', hus, hdn, hmm, hdm⟩ := pp
    walk_at "aw"
    refine w_tupL (SqL.of el') fun t H4 nt a4 et => ?_
    have hdl : doms.length = m := by
      have := congrArg List.length hdn
      rw [List.length_map, List.length_take] at this
      omega
    exact q t us doms H4 (g.new a4) et (hus.up a4.tup) ⟨by rw [hdn]; exact hnd.sublist (List.take_sublist _ _), fun x hx => List.mem_append_left _ (hnm x (by rw [hdn] at hx; exact List.mem_of_mem_take hx)), hdm⟩ (by omega) (by omega)
end AW
namespace AW
open PySem PySem.Spec PyProof.Rows L2 RZ
open StX
local macro_rules | `(tactic| walk_at "aw1") => `(tactic| first
  | (with_reducible refine w_seq ?_) | (with_reducible refine w_asg ?_) | (with_reducible refine w_gname ?_) | (with_reducible refine w_op ?_) | (with_reducible refine w_un ?_)
  | ((with_reducible refine' w_var ?h ?_); (case h => rfl)) | (with_reducible refine w_c ?_)
  | (with_reducible refine w_I0 ?_) | (with_reducible refine w_U ?_) | (with_reducible refine w_cb ?_) | (with_reducible refine w_nil ?_) | (with_reducible refine w_cons ?_) | (with_reducible refine w_call ?_)
  | (with_reducible refine w_test ?_) | (with_reducible refine w_B ?_) | (with_reducible refine w_bl ?_) | (with_reducible refine w_not ?_) | (with_reducible refine w_yes ?_) | (with_reducible refine iteT ?_) | (with_reducible refine iteF ?_) | (with_reducible refine w_and ?_) | (with_reducible refine w_or ?_)
  | (with_reducible refine w_andV ?_) | (with_reducible refine w_orV ?_) | (with_reducible refine w_notV ?_) | (with_reducible refine w_if ?_)
  | (with_reducible refine w_int1 ?_) | (with_reducible refine w_int1b ?_) | (with_reducible refine w_abs ?_) | (with_reducible refine w_max2 ?_) | (with_reducible refine w_min2 ?_)
  | ((with_reducible refine w_eq ?h ?_); (case h => rfl)) | ((with_reducible refine w_ne ?h ?_); (case h => rfl)) | (with_reducible refine w_isN ?_) | (with_reducible refine w_isB ?_) | (with_reducible refine w_chain ?_)
  | (with_reducible refine w_ret ?_) | (with_reducible refine w_drop ?_) | (with_reducible refine w_ifS ?_) | (with_reducible refine w_gsub ?_) | (with_reducible refine w_augS ?_) | (with_reducible refine w_ipI ?_) | (with_reducible refine w_next ?_)
  | (with_reducible refine w_forR ?_) | (with_reducible refine w_forR2 ?_) | (with_reducible refine w_forL ?_) | (with_reducible refine w_forT ?_) | (with_reducible refine w_lcR ?_) | (with_reducible refine w_lcL ?_) | (with_reducible refine w_lcT ?_) | (with_reducible refine w_sl ?_) | (with_reducible refine w_part ?_) | (with_reducible refine w_noPart ?_) | (with_reducible refine w_in ?_)
  | (with_reducible refine w_gcons ?_) | (with_reducible refine w_gnil ?_) | (with_reducible refine w_lc3 ?_) | (with_reducible refine w_dcZ ?_) | (with_reducible refine w_dcT ?_) | (with_reducible refine w_dg ?_) | (with_reducible refine w_callK ?_) | (with_reducible refine w_dput ?_) | (with_reducible refine w_tup1 ?_)
  | (with_reducible refine w_tup ?_) | (with_reducible refine w_lst ?_)
  | ((with_reducible refine w_I ?h ?_); (case h => first | (exact Or.inr ⟨by decide, by decide⟩) | (exact Or.inl ⟨by decide, by decide⟩) | (show (0 : Int) < _; decide) | (exact ⟨by decide, by decide, by decide⟩) | assumption)))
local macro_rules | `(tactic| walk_at "aw") => `(tactic| repeat (walk_at "aw1"))
def stepR (rows : List (List Int)) (d : List Int) : List (List Int) := rows.flatMap fun r => d.map fun v => r ++ [v]
/-- all rows, the first column slowest -/
def allR (ds : List (List Int)) : List (List Int) := ds.foldl stepR [[]]
def TupAt (H : Hp) (u : V) (r : List Int) : Prop := ∃ a, u = .ref a ∧ H a = some (.tup (r.map V.int))
theorem TupAt.up {H H' : Hp} {u : V} {r : List Int} (h : TupAt H u r) (k : TK H H') : TupAt H' u r := by
  obtain ⟨a, h1, h2⟩ := h
  exact ⟨a, h1, k _ _ h2⟩
def TupsAt (H : Hp) (us : List V) (rs : List (List Int)) : Prop := Paired (fun u r => TupAt H u r) us rs
theorem TupsAt.up {H H' : Hp} {us : List V} {rs : List (List Int)} (h : TupsAt H us rs) (k : TK H H') : TupsAt H' us rs := L2.Paired.mapP h fun _ _ z => z.up k
theorem paired_app {α β : Type} {R : α → β → Prop} : ∀ {xs : List α} {ys : List β} {xs' : List α} {ys' : List β}, Paired R xs ys → Paired R xs' ys' → Paired R (xs ++ xs') (ys ++ ys')
  | _, _, _, _, .nil, h => h
  | _, _, _, _, .cons a t, h => .cons a (paired_app t h)
theorem paired_at {α β : Type} {F : α → β → Prop} : ∀ {xs : List α} {ys : List β}, Paired F xs ys → ∀ {i : Nat} {x : α} {y : β}, xs[i]? = some x → ys[i]? = some y → F x y
  | _, _, .nil, _, _, _, h, _ => by simp at h
  | _, _, .cons a t, 0, _, _, h, h2 => by cases h; cases h2; exact a
  | _, _, .cons a t, i + 1, _, _, h, h2 => paired_at t (by simpa using h) (by simpa using h2)
theorem paired_ix {α β : Type} {R : α → β → Prop} : ∀ {xs : List α} {ys : List β}, xs.length = ys.length → (∀ (i : Nat) x y, xs[i]? = some x → ys[i]? = some y → R x y) → Paired R xs ys
  | [], [], _, _ => .nil
  | [], y :: ys, h, _ => by simp at h
  | x :: xs, [], h, _ => by simp at h
  | x :: xs, y :: ys, h, g => .cons (g 0 x y rfl rfl) (paired_ix (by simpa using h) fun i a b e f => g (i + 1) a b (by simpa using e) (by simpa using f))
theorem allR_take {ds : List (List Int)} {i : Nat} {d : List Int} (h : ds[i]? = some d) : allR (ds.take (i + 1)) = stepR (allR (ds.take i)) d := by
  unfold allR
  rw [List.take_add_one, h, List.foldl_append]
  rfl
theorem stepR_len {rows : List (List Int)} {d : List Int} : (stepR rows d).length = rows.length * d.length := by
  unfold stepR
  induction rows with
  | nil => simp
  | cons r rows ih => rw [List.flatMap_cons, List.length_append, ih, List.length_map, List.length_cons, Nat.add_mul, Nat.one_mul, Nat.add_comm]
theorem allR_len {ds : List (List Int)} (h : ∀ d ∈ ds, d.length ≤ 12) : ∀ i, i ≤ ds.length → (allR (ds.take i)).length ≤ 12 ^ i
  | 0, _ => by simp [allR]
  | i + 1, hi => by
    have hd : ds[i]? = some ds[i] := List.getElem?_eq_getElem (by omega)
    rw [allR_take hd, stepR_len, Nat.pow_succ]
    exact Nat.mul_le_mul (allR_len h i (by omega)) (h _ (List.getElem_mem _))
def sp__law_all (_ : PySem.W.Frag) : Sp := fun vs H Q _ => ∃ (p : Addr), vs = [.ref p] ∧ ∃ us ds, H p = some (.lst us) ∧ TupsAt H us ds ∧ ds.length ≤ 3 ∧ (∀ d ∈ ds, d.length ≤ 12) ∧ ∀ l ws H', Adv [] H H' → H l = none → H' l = some (.lst ws) → TupsAt H' ws (allR ds) → Q (.ref l) H'
theorem take_flatMap {α β : Type} (f : α → List β) {xs : List α} {i : Nat} {x : α} (h : xs[i]? = some x) : (xs.take (i + 1)).flatMap f = (xs.take i).flatMap f ++ f x := by
  rw [List.take_add_one, h, List.flatMap_append]
  simp
theorem kLc_rel {J : It} {n : Nat} {G : Hp → Prop} {Y : Nat → Hp → V → Hp → Prop} {g : TG} {te : TE} {vs : List Nat} {σ : L2.St} {Q : VK} {H1 : Hp} (wk : Walk J n G Y) (hn : n ≤ 100000) (hG : ∀ H', Adv [] H1 H' → G H') (R : Nat → V → Hp → Prop) (mono : ∀ i v H H', TK H H' → R i v H → R i v H')
    (step : ∀ i x H H' (Kt : V → Hp → Prop), i < n → Adv [] H1 H → Y i H x H' → (∀ y H4, Adv [] H H4 → R i y H4 → Kt y H4) → g x (wipe σ vs) H' fun σ2 H2 => wipe σ2 vs = wipe σ vs ∧ te σ2 H2 Kt)
    (k : ∀ p H' ys, H1 p = none → Adv [] H1 H' → H' p = some (.lst ys) → ys.length = n → (∀ (i : Nat) v, ys[i]? = some v → R i v H') → Q (.ref p) H') : kLc J g tYes te vs σ Q H1 := by
  intro D hD
  refine lc_it wk (fun i H => Adv [] H1 H ∧ ∃ ys, H D = some (.lst ys) ∧ ys.length = i ∧ ∀ (m : Nat) v, ys[m]? = some v → R m v H) ⟨Adv.new hD, [], upd_same, rfl, fun m v e => by simp at e⟩ (fun i H _ p => hG H p.1)
    (fun i x H H' hi p y => ?_) fun H p => ?_
  · obtain ⟨g1, ys, e1, hl, hr⟩ := p
    refine step i x H H' _ hi g1 y fun v H4 g4 r4 => ?_
    have e4 : H4 D = some (.lst ys) := g4.keep _ _ (fun z => nomatch z) e1
    have t5 : TK H4 (upd H4 D (.lst (ys ++ [v]))) := (Adv.lst e4).tup
    refine ⟨ys, e4, Nat.lt_of_lt_of_le (show ys.length < 100001 by omega) (by decide), (g1.trans g4).mut hD e4 (fun _ z => by cases z), ys ++ [v], upd_same, by rw [List.length_append, hl]; rfl, fun m w e => ?_⟩
    by_cases hm : m < ys.length
    · rw [List.getElem?_append_left hm] at e
      exact mono _ _ _ _ (TK.trans g4.tup t5) (hr m w e)
    · have hm2 : m = ys.length := by
        have := (List.getElem?_eq_some_iff.mp e).1
        rw [List.length_append] at this
        simp at this
        omega
      subst hm2
      rw [List.getElem?_append_right (Nat.le_refl _), Nat.sub_self] at e
      simp at e
      subst e
      rw [hl]
      exact mono _ _ _ _ t5 r4
  · obtain ⟨g1, ys, e1, hl, hr⟩ := p
    exact k D H ys hD g1 e1 hl hr
/-- dict([(a, b) for ..]) of numbers, drawn from anything that is walked -/
theorem allR_row {ds : List (List Int)} : ∀ i, i ≤ ds.length → ∀ r ∈ allR (ds.take i), r.length = i
  | 0, _, r, h => by simp [allR] at h; rw [h]; rfl
  | i + 1, hi, r, h => by
    have hd : ds[i]? = some ds[i] := List.getElem?_eq_getElem (by omega)
    rw [allR_take hd] at h
    obtain ⟨r0, h1, h2⟩ := List.mem_flatMap.mp h
    obtain ⟨v, _, rfl⟩ := List.mem_map.mp h2
    rw [List.length_append, allR_row i (by omega) r0 h1]
    rfl
def t__law_all (K : PySem.W.Frag) : TS := (tSeq (tAsg (tLst (tCons (tTup tNil) tNil)) (gName 1))
  (tSeq (tFor (iList K (tVar 0)) (gName 2)
  (tSeq (tAsg (tLst tNil) (gName 3))
  (tSeq (tFor (iList K (tVar 1)) (gName 4)
  (tAsg (tOp rCat (tVar 3) (tLc (iTup K (tVar 2)) (gName 5) tYes (tOp (rCatA K) (tVar 4) (tTup (tCons (tVar 5) tNil))) [5])) (gName 3)))
  (tAsg (tVar 3) (gName 1)))))
  (tRet (tVar 1))))
theorem len__law_all {K : PySem.W.Frag} : ∀ (vs : List V) (H : Hp) (Q : VK) (E : XK), sp__law_all K vs H Q E → vs.length = 1 := fun vs H Q E h => by
  obtain ⟨_, rfl, _⟩ := h
  rfl
theorem pure__law_all {K : PySem.W.Frag} (vs : List V) (H : Hp) (Q : VK) (E : XK) (h : sp__law_all K vs H Q E) : t__law_all K { nx := fun _ H' => Q .non H', rt := Q } (start ["domains", "rows", "domain", "longer", "row", "value"] vs) H := by
  obtain ⟨p, rfl, us, ds, ep, hus, h3, h12, q⟩ := h
  have hul := hus.length
  have hlen := allR_len h12
  have hpow : ∀ i, i ≤ 3 → (12 : Nat) ^ i ≤ 1728 := fun i hi => by
    have : i = 0 ∨ i = 1 ∨ i = 2 ∨ i = 3 := by omega
    rcases this with rfl | rfl | rfl | rfl <;> decide
  show t__law_all K _ [some (.ref p), none, none, none, none, none] H
  unfold t__law_all
  walk_at "aw"
  refine w_tupD (by show 0 ≤ 100000; decide) fun t0 H1 nt0 a1 et0 => ?_
  walk_at "aw"
  refine w_lstD (by simp) fun l0 H2 nl0 a2 el0 => ?_
  walk_at "aw"
  refine kForL_i (fun i σ' H' => ∃ (y2 y3 y4 : Option V) (l : Addr) (ws : List V), σ' = [some (.ref p), some (.ref l), y2, y3, y4, none] ∧ Adv [] H H' ∧ (H l = none ∧ H' l = some (.lst ws)) ∧ TupsAt H' ws (allR (ds.take i))) (SqL.of ((a1.trans a2).keep _ _ (fun z => nomatch z) ep))
    ⟨_, _, _, l0, _, rfl, a1.trans a2, ⟨a1.free (fun z => nomatch z) nl0, el0⟩, .cons ⟨t0, rfl, a2.tup _ _ et0⟩ .nil⟩ (fun i σ' H' _ pp => by obtain ⟨_, _, _, _, _, _, a, _⟩ := pp; exact SqL.of (a.keep _ _ (fun z => nomatch z) ep)) (fun i u σ' H' hu pp => ?_) fun σ' H' pp => ?_
  · obtain ⟨y2, y3, y4, l, ws, rfl, a, ⟨nl, el⟩, hws⟩ := pp
    have hil := (List.getElem?_eq_some_iff.mp hu).1
    obtain ⟨d, hd⟩ := get_some (xs := ds) (i := i) (by omega)
    obtain ⟨da, rfl, eda⟩ := paired_at hus hu hd
    have hdl := h12 _ (List.mem_of_getElem? hd)
    have hwl := hws.length
    have hb := hlen i (by omega)
    have hb2 := hpow i (by omega)
    walk_at "aw"
    refine w_lstD (by simp) fun m0 H3 nm0 a3 em0 => ?_
    walk_at "aw"
    have a03 := a.trans a3
    refine kForL_i (fun j σ' H' => ∃ (y4 : Option V) (m : Addr) (vs : List V), σ' = [some (.ref p), some (.ref l), some (.ref da), some (.ref m), y4, none] ∧ Adv [] H3 H' ∧ (H m = none ∧ H' m = some (.lst vs)) ∧ TupsAt H' vs (((allR (ds.take i)).take j).flatMap fun r => d.map fun v => r ++ [v])) (SqL.of (a3.keep _ _ (fun z => nomatch z) el))
      ⟨_, m0, _, rfl, .refl _ _, ⟨a.free (fun z => nomatch z) nm0, em0⟩, .nil⟩ (fun j σ' H' _ pp => by obtain ⟨_, _, _, _, a4, _⟩ := pp; exact SqL.of ((a3.trans a4).keep _ _ (fun z => nomatch z) el)) (fun j v σ' H' hv pp => ?_) fun σ' H' pp => ?_
    · obtain ⟨y4, m, vs, rfl, a4, ⟨nm', em⟩, hvs⟩ := pp
      have hjl := (List.getElem?_eq_some_iff.mp hv).1
      obtain ⟨r, hr⟩ := get_some (xs := allR (ds.take i)) (i := j) (by omega)
      obtain ⟨ra, rfl, era⟩ := paired_at hws hv hr
      have eda4 := (a03.trans a4).tup _ _ eda
      have era4 := (a3.trans a4).tup _ _ era
      walk_at "aw"
      refine ⟨da, rfl, ⟨_, SqT.of eda4⟩, kLc_rel (walk_tup (xs := d.map V.int)) (by rw [List.length_map]; omega) (fun H5 a5 => SqT.of (a5.tup _ _ eda4)) (fun k u H5 => ∃ x, d[k]? = some x ∧ TupAt H5 u (r ++ [x])) (fun k u H5 H6 kk hh => by
        obtain ⟨x, h1, h2⟩ := hh
        exact ⟨x, h1, h2.up kk⟩) (fun k u H5 H6 Kt hk a5 yy kt => ?_) fun nl H5 ys nnl a5 enl hyl hyr => ?_⟩
      · obtain ⟨rfl, hu⟩ := yy
        rw [List.getElem?_map] at hu
        obtain ⟨x, hx, rfl⟩ := Option.map_eq_some_iff.mp hu
        walk_at "aw"
        refine ⟨rfl, ?_⟩
        walk_at "aw"
        refine w_tupD (by show 1 ≤ 100000; decide) fun t1 H7 nt1 a7 et1 => ?_
        refine w_catT' ((a5.trans a7).tup _ _ era4) et1 ?_ fun t2 H8 a8 et2 => ?_
        · rw [List.length_map, allR_row i (by omega) r (List.mem_of_getElem? hr)]
          show i + 1 ≤ 100000
          omega
        · exact kt _ _ (a7.trans a8) ⟨x, hx, t2, rfl, by rw [et2, List.map_append]; rfl⟩
      · walk_at "aw"
        refine w_catB (a5.keep _ _ (fun z => nomatch z) em) enl ?_ fun nm H6 nnm a6 enm => ?_
        · have h1 := hvs.length
          have h2 := stepR_len (rows := (allR (ds.take i)).take j) (d := d)
          have h3 : (((allR (ds.take i)).take j).flatMap fun r => d.map fun v => r ++ [v]).length = _ := h2
          rw [h3] at h1
          have h4 : ((allR (ds.take i)).take j).length ≤ 1728 := by rw [List.length_take]; omega
          have h5 := Nat.mul_le_mul h4 hdl
          rw [List.length_map] at hyl
          omega
        walk_at "aw"
        refine ⟨_, nm, vs ++ ys, rfl, a4.trans (a5.trans a6), ⟨((a.trans a3).trans (a4.trans a5)).free (fun z => nomatch z) nnm, enm⟩, ?_⟩
        rw [take_flatMap _ hr]
        refine paired_app (TupsAt.up hvs (a5.trans a6).tup) (paired_ix (by rw [hyl, List.length_map, List.length_map]) fun k u x hu hx => ?_)
        obtain ⟨y, h1, h2⟩ := hyr k u hu
        rw [List.getElem?_map, h1] at hx
        cases hx
        exact h2.up a6.tup
    · obtain ⟨y4, m, vs, rfl, a4, ⟨nm', em⟩, hvs⟩ := pp
      walk_at "aw"
      rw [hwl, List.take_length] at hvs
      refine ⟨_, _, _, m, vs, rfl, a03.trans a4, ⟨nm', em⟩, ?_⟩
      rw [allR_take hd]
      exact hvs
  · obtain ⟨y2, y3, y4, l, ws, rfl, a, ⟨nl, el⟩, hws⟩ := pp
    rw [hul, List.take_length] at hws
    walk_at "aw"
    exact q l ws H' a nl el hws
end AW
/-! tuple(l), the new object known (so that it has no dict of its own); dict(t) of such a tuple of pairs -/
namespace AW
open PySem PySem.Spec PyProof.Rows L2 RZ
section
variable {X : Cx} {a : Expr} {ta : TE}
end
end AW
namespace AW
open PySem PySem.Spec PyProof.Rows L2 RZ
open StX
local macro_rules | `(tactic| walk_at "aw1") => `(tactic| first
  | (with_reducible refine w_seq ?_) | (with_reducible refine w_asg ?_) | (with_reducible refine w_gname ?_) | (with_reducible refine w_op ?_) | (with_reducible refine w_un ?_)
  | ((with_reducible refine' w_var ?h ?_); (case h => rfl)) | (with_reducible refine w_c ?_)
  | (with_reducible refine w_I0 ?_) | (with_reducible refine w_U ?_) | (with_reducible refine w_cb ?_) | (with_reducible refine w_nil ?_) | (with_reducible refine w_cons ?_) | (with_reducible refine w_call ?_)
  | (with_reducible refine w_test ?_) | (with_reducible refine w_B ?_) | (with_reducible refine w_bl ?_) | (with_reducible refine w_not ?_) | (with_reducible refine w_yes ?_) | (with_reducible refine iteT ?_) | (with_reducible refine iteF ?_) | (with_reducible refine w_and ?_) | (with_reducible refine w_or ?_)
  | (with_reducible refine w_andV ?_) | (with_reducible refine w_orV ?_) | (with_reducible refine w_notV ?_) | (with_reducible refine w_if ?_)
  | (with_reducible refine w_int1 ?_) | (with_reducible refine w_int1b ?_) | (with_reducible refine w_abs ?_) | (with_reducible refine w_max2 ?_) | (with_reducible refine w_min2 ?_)
  | ((with_reducible refine w_eq ?h ?_); (case h => rfl)) | ((with_reducible refine w_ne ?h ?_); (case h => rfl)) | (with_reducible refine w_isN ?_) | (with_reducible refine w_isB ?_) | (with_reducible refine w_chain ?_)
  | (with_reducible refine w_ret ?_) | (with_reducible refine w_drop ?_) | (with_reducible refine w_ifS ?_) | (with_reducible refine w_gsub ?_) | (with_reducible refine w_augS ?_) | (with_reducible refine w_ipI ?_) | (with_reducible refine w_next ?_)
  | (with_reducible refine w_forR ?_) | (with_reducible refine w_forR2 ?_) | (with_reducible refine w_forL ?_) | (with_reducible refine w_forT ?_) | (with_reducible refine w_lcR ?_) | (with_reducible refine w_lcL ?_) | (with_reducible refine w_lcT ?_) | (with_reducible refine w_sl ?_) | (with_reducible refine w_part ?_) | (with_reducible refine w_noPart ?_) | (with_reducible refine w_in ?_)
  | (with_reducible refine w_gcons ?_) | (with_reducible refine w_gnil ?_) | (with_reducible refine w_lc3 ?_) | (with_reducible refine w_dcZ ?_) | (with_reducible refine w_dcT ?_) | (with_reducible refine w_dg ?_) | (with_reducible refine w_callK ?_) | (with_reducible refine w_dput ?_) | (with_reducible refine w_tup1 ?_)
  | (with_reducible refine w_tup ?_) | (with_reducible refine w_lst ?_)
  | ((with_reducible refine w_I ?h ?_); (case h => first | (exact Or.inr ⟨by decide, by decide⟩) | (exact Or.inl ⟨by decide, by decide⟩) | (show (0 : Int) < _; decide) | (exact ⟨by decide, by decide, by decide⟩) | assumption)))
local macro_rules | `(tactic| walk_at "aw") => `(tactic| repeat (walk_at "aw1"))
theorem refs_of : ∀ {ys : List V}, (∀ (i : Nat) v, ys[i]? = some v → ∃ n : Addr, v = .ref n) → ∃ ps : List Addr, ys = ps.map V.ref
  | [], _ => ⟨[], rfl⟩
  | y :: ys, h => by
    obtain ⟨n, rfl⟩ := h 0 y rfl
    obtain ⟨ps, rfl⟩ := refs_of (ys := ys) fun i v e => h (i + 1) v (by simpa using e)
    exact ⟨n :: ps, rfl⟩
theorem paired_of {α β : Type} {F : α → β → Prop} : ∀ {xs : List α} {ys : List β}, xs.length = ys.length → (∀ (i : Nat) x y, xs[i]? = some x → ys[i]? = some y → F x y) → Paired F xs ys
  | [], [], _, _ => .nil
  | [], _ :: _, h, _ => by simp at h
  | _ :: _, [], h, _ => by simp at h
  | x :: xs, y :: ys, h, f => .cons (f 0 x y rfl rfl) (paired_of (by simpa using h) fun i a b ha hb => f (i + 1) a b (by simpa using ha) (by simpa using hb))
theorem nodup_map_inj {α β : Type} {f : α → β} (hf : ∀ a b, f a = f b → a = b) {xs : List α} (h : xs.Nodup) : (xs.map f).Nodup := List.Pairwise.map f (fun a b z e => z (hf a b e)) h
theorem merge_nd : ∀ (more kvs : List (Key × V)), ((kvs ++ more).map (·.1)).Nodup → mergeK kvs more = kvs ++ more
  | [], kvs, _ => by rw [List.append_nil]; rfl
  | m :: more, kvs, h => by
    have e : valV kvs m.1 = none := by
      unfold valV
      rw [List.find?_eq_none.mpr fun x hx => ?_]
      · rfl
      · rw [List.map_append, List.nodup_append] at h
        intro z
        have z2 : x.1 = m.1 := by simpa using z
        exact h.2.2 x.1 (List.mem_map_of_mem hx) m.1 (List.mem_map_of_mem (List.mem_cons_self ..)) z2
    show mergeK (putK kvs m.1 m.2) more = _
    rw [putK_new _ e, merge_nd more (kvs ++ [(m.1, m.2)]) (by rw [List.append_assoc]; exact h), List.append_assoc]
    rfl
theorem w_dictPl {K : PySem.W.Frag} {H : Hp} {Q : VK} {l : Addr} {us : List V} {kvs : List (Key × V)} (h : H l = some (.lst us)) (hl : us.length = kvs.length) (hr : ∀ (i : Nat) u, us[i]? = some u → ∃ p kv, u = .ref p ∧ kvs[i]? = some kv ∧ H p = some (.tup [kV kv.1, kv.2])) (nd : (kvs.map (·.1)).Nodup)
    (q : ∀ d H', H d = none → Adv [] H H' → H' d = some (.dK kvs) → Q (.ref d) H') : rDictP K [.ref l] H Q := by
  obtain ⟨ps, rfl⟩ := refs_of fun i v e => by
    obtain ⟨p, _, h1, _⟩ := hr i v e
    exact ⟨p, h1⟩
  refine ⟨l, ps, kvs, rfl, SqL.of h, paired_of (by rw [← hl, List.length_map]) fun i p kv e1 e2 => ?_, fun d hd => ?_⟩
  · obtain ⟨p', kv', h1, h2, h3⟩ := hr i (.ref p) (by rw [List.getElem?_map, e1]; rfl)
    cases h1
    rw [e2] at h2
    cases h2
    exact SqT.of h3
  · rw [merge_nd kvs [] nd]
    exact q d _ hd (Adv.new hd) upd_same
theorem paired_perm {α β : Type} {R : α → β → Prop} {xs ys : List α} (h : ys.Perm xs) : ∀ {ms : List β}, Paired R xs ms → ∃ ms', ms'.Perm ms ∧ Paired R ys ms' := by
  induction h with
  | nil => intro ms p; cases p; exact ⟨[], .nil, .nil⟩
  | cons x h ih =>
    intro ms p
    cases p with
    | cons a t =>
      obtain ⟨ms', h1, h2⟩ := ih t
      exact ⟨_ :: ms', h1.cons _, .cons a h2⟩
  | swap x y l =>
    intro ms p
    cases p with
    | cons a t =>
      cases t with
      | cons b t => exact ⟨_, .swap .., .cons b (.cons a t)⟩
  | trans h1 h2 ih1 ih2 =>
    intro ms p
    obtain ⟨m1, a1, b1⟩ := ih2 p
    obtain ⟨m2, a2, b2⟩ := ih1 b1
    exact ⟨m2, a2.trans a1, b2⟩
theorem fil_of {xs : List Str} (nd : xs.Nodup) {zs : List Int} (hl : zs.length = xs.length) : ∃ φ : Str → Int, xs.map φ = zs := by
  refine ⟨fun x => zs.getD (xs.idxOf x) 0, ?_⟩
  apply List.ext_getElem (by rw [List.length_map, hl])
  intro i h1 h2
  rw [List.length_map] at h1
  rw [List.getElem_map, show xs.idxOf xs[i] = i from nd.idxOf_getElem i h1, getD_of (List.getElem?_eq_getElem h2)]
def UnkP (H : Hp) (u : V) (d : Str × List Int) : Prop := ∃ p q, u = .ref p ∧ H p = some (.tup [.str d.1, .ref q]) ∧ H q = some (.tup (d.2.map V.int))
theorem UnkP.up {H H' : Hp} {u : V} {d : Str × List Int} (h : UnkP H u d) (k : TK H H') : UnkP H' u d := by
  obtain ⟨p, q, h1, h2, h3⟩ := h
  exact ⟨p, q, h1, k _ _ h2, k _ _ h3⟩
theorem UnkAt.p {H : Hp} {us : List V} {doms : List (Str × List Int)} (h : UnkAt H us doms) : Paired (fun u d => UnkP H u d) us doms := paired_ix h.1 fun i u d hu hd => by
  obtain ⟨p, q, d', h1, h2, h3, h4⟩ := h.2 i u hu
  rw [hd] at h2
  cases h2
  exact ⟨p, q, h1, h3, h4⟩
/-- a model's unknowns -/
def MdlAt (H : Hp) (m : V) (doms : List (Str × List Int)) : Prop := ∃ (a b : Addr) (r us : List V), m = .ref a ∧ H a = some (.tup (.ref b :: r)) ∧ H b = some (.tup us) ∧ UnkAt H us doms
theorem MdlAt.up {H H' : Hp} {m : V} {doms : List (Str × List Int)} (h : MdlAt H m doms) (k : TK H H') : MdlAt H' m doms := by
  obtain ⟨a, b, r, us, h1, h2, h3, h4⟩ := h
  exact ⟨a, b, r, us, h1, k _ _ h2, k _ _ h3, h4.up k⟩
def FilAt (H : Hp) (f : Addr) (doms : List (Str × List Int)) (φ : Str → Int) : Prop := H f = some (.tup ((doms.map (·.1)).map fun x => .int (φ x)))
def sp__law_at (_ : PySem.W.Frag) : Sp := fun vs H Q _ => ∃ (m : V) (f : Addr), vs = [m, .ref f] ∧ ∃ doms φ, MdlAt H m doms ∧ (doms.map (·.1)).Nodup ∧ doms.length ≤ 24 ∧ FilAt H f doms φ ∧ ∀ d H', Adv [] H H' → WD H' d (doms.map (·.1)) φ → Q (.ref d) H'
theorem nK_get {φ : Str → Int} : ∀ {xs : List Str} {x : Str}, x ∈ xs → valV (xs.map fun x => ((Sum.inr x : L2.Key), V.int (φ x))) (.inr x) = some (.int (φ x))
  | [], _, h => by simp at h
  | a :: xs, x, h => by
    rw [List.map_cons]
    by_cases e : a = x
    · subst e
      exact valV_pos rfl
    · rw [valV_neg fun z => e (Sum.inr.inj z)]
      rcases List.mem_cons.mp h with h | h
      · exact absurd h.symm e
      · exact nK_get h
/-- one item of a view -/
abbrev Itm := List (Str × List Int) × List (List Int)
def ItmAt (H : Hp) (u : V) (it : Itm) : Prop := ∃ p a b vs, u = .ref p ∧ H p = some (.tup [.ref a, .ref b]) ∧ H a = some (.tup ((it.1.map (·.1)).map V.str)) ∧ H b = some (.tup vs) ∧ TupsAt H vs it.2
theorem ItmAt.up {H H' : Hp} {u : V} {it : Itm} (h : ItmAt H u it) (k : TK H H') : ItmAt H' u it := by
  obtain ⟨p, a, b, vs, h1, h2, h3, h4, h5⟩ := h
  exact ⟨p, a, b, vs, h1, k _ _ h2, k _ _ h3, k _ _ h4, h5.up k⟩
def ViewAt (H : Hp) (t : Addr) (L : List Itm) : Prop := ∃ us, H t = some (.tup us) ∧ Paired (fun u it => ItmAt H u it) us L
/-- a right item: some unknowns of one model, and all their rows, each with a value of the domain behind -/
structure ItmOk (doms : List (Str × List Int)) (dom : List Int) (it : Itm) : Prop where
  l1 : 1 ≤ it.1.length
  l3 : it.1.length ≤ 3
  nd : (it.1.map (·.1)).Nodup
  mem : ∀ s ∈ it.1, s ∈ doms
  rows : Paired (fun r fr => ∃ v ∈ dom, r = fr ++ [v]) it.2 (allR (it.1.map (·.2)))
def sp__law_view (_ : PySem.W.Frag) : Sp := fun vs H Q _ => ∃ (st : Addr) (m1 m2 : V), vs = [.ref st, m1, m2] ∧ ∃ cs d1 d2 w1 w2, StOk st cs H ∧ MdlAt H m1 d1 ∧ MdlOk w1 d1 ∧ w1 ≤ 12 ∧ 1 ≤ d1.length ∧ d1.length ≤ 24 ∧ MdlAt H m2 d2 ∧ MdlOk w2 d2 ∧ w2 ≤ 12 ∧ d2.length ≤ 24 ∧ ∀ t L H', Go st cs H H' → ViewAt H' t L → Paired (fun it d => ItmOk d1 d.2 it) L d2 → Q (.ref t) H'
theorem list_choose {α β : Type} : ∀ {xs : List α} {P : Nat → α → β → Prop}, (∀ (i : Nat) x, xs[i]? = some x → ∃ b, P i x b) → ∃ bs : List β, bs.length = xs.length ∧ ∀ (i : Nat) x b, xs[i]? = some x → bs[i]? = some b → P i x b
  | [], _, _ => ⟨[], rfl, fun i x b h => by simp at h⟩
  | x :: xs, P, h => by
    obtain ⟨b, hb⟩ := h 0 x rfl
    obtain ⟨bs, h1, h2⟩ := list_choose (xs := xs) (P := fun i => P (i + 1)) fun i y e => h (i + 1) y (by simpa using e)
    refine ⟨b :: bs, by simp [h1], fun i y c e f => ?_⟩
    cases i with
    | zero => cases e; cases f; exact hb
    | succ i => exact h2 i y c (by simpa using e) (by simpa using f)
def t__law_at (K : PySem.W.Frag) : TS := (tRet (tCB (rDictP K) (tCons (tLc (iRng1 (tCons (tCB (rLen1 K) (tCons (tVar 1) tNil)) tNil)) (gName 2) tYes (tTup (tCons (tOp (rIxT K) (tOp (rIxT K) (tOp (rIxT K) (tVar 0) (tC (.int 0))) (tVar 2)) (tC (.int 0))) (tCons (tOp (rIxT K) (tVar 1) (tVar 2)) tNil))) [2]) tNil)))
def t__law_view (K : PySem.W.Frag) : TS := (tSeq (tAsg (tLst tNil) (gName 3))
  (tSeq (tFor (iTup K (tOp (rIxT K) (tVar 2) (tC (.int 0)))) (gTup K 2 (gCons (gName 4) (gCons (gName 5) gNil)))
  (tSeq (tAsg (tCall (sp__law_some K) [] E0 (tCons (tVar 0) (tCons (tOp (rIxT K) (tVar 1) (tC (.int 0))) (tCons (tC (.int 1)) (tCons (tC (.int 3)) tNil))))) (gName 6))
  (tSeq (tAsg (tLc (iList K (tCall (sp__law_all K) [] E0 (tCons (tLc (iList K (tVar 6)) (gName 9) tYes (tOp (rIxT K) (tVar 9) (tC (.int 1))) [9]) tNil))) (gName 8) tYes (tOp (rCatA K) (tVar 8) (tTup (tCons (tOp (rIxT K) (tVar 5) (tCall (sp__law_draw K) [] E0 (tCons (tVar 0) (tCons (tCB (rLen1 K) (tCons (tVar 5) tNil)) tNil)))) tNil))) [8]) (gName 7))
  (tDrop (tBM K "list" rAppend (tVar 3) (tCons (tTup (tCons (tThen (tLc (iList K (tVar 6)) (gName 9) tYes (tOp (rIxT K) (tVar 9) (tC (.int 0))) [9]) (kTup K)) (tCons (tThen (tVar 7) (kTup K)) tNil))) tNil))))))
  (tRet (tThen (tVar 3) (kTup K)))))
theorem len__law_at {K : PySem.W.Frag} : ∀ (vs : List V) (H : Hp) (Q : VK) (E : XK), sp__law_at K vs H Q E → vs.length = 2 := fun vs H Q E h => by
  obtain ⟨_, _, rfl, _⟩ := h
  rfl
theorem pure__law_at {K : PySem.W.Frag} (vs : List V) (H : Hp) (Q : VK) (E : XK) (h : sp__law_at K vs H Q E) : t__law_at K { nx := fun _ H' => Q .non H', rt := Q } (start ["model", "filling", "k"] vs) H := by
  obtain ⟨m, f, rfl, doms, φ, hm, hnd, h24, hf, q⟩ := h
  obtain ⟨ma, mb, rr, us, rfl, e1, e2, hus⟩ := id hm
  have hul := hus.1
  show t__law_at K _ [some (.ref ma), some (.ref f), none] H
  unfold t__law_at
  walk_at "aw"
  refine w_lenT (SqT.of hf) ?_
  rw [List.length_map, List.length_map]
  refine ⟨(doms.length : Nat), rfl, by omega, by omega, ?_⟩
  rw [show ((doms.length : Nat) : Int).toNat = doms.length by omega]
  refine kLc_rel walk_range (by omega) (fun _ _ => trivial) (fun i v H2 => ∃ p x, v = .ref p ∧ (doms.map (·.1))[i]? = some x ∧ H2 p = some (.tup [.str x, .int (φ x)])) (fun i v H2 H3 kk hh => by
    obtain ⟨p, x, h1, h2, h3⟩ := hh
    exact ⟨p, x, h1, h2, kk _ _ h3⟩) (fun i v H2 H3 Kt hi a2 yy kt => ?_) fun l H2 ys nl a2 el hyl hyr => ?_
  · obtain ⟨rfl, rfl⟩ := yy
    obtain ⟨u, hu⟩ := get_some (xs := us) (i := i) (by omega)
    obtain ⟨p, qd, d, rfl, hd, ep, eqd⟩ := hus.2 i u hu
    have hx : (doms.map (·.1))[i]? = some d.1 := by rw [List.getElem?_map, hd]; rfl
    walk_at "aw"
    refine ⟨rfl, ?_⟩
    walk_at "aw"
    refine w_ixT (SqT.of (a2.tup _ _ e1)) (at_nat (by decide) rfl) ?_
    walk_at "aw"
    refine w_ixT (SqT.of (a2.tup _ _ e2)) (at_of (j := i) (by omega) hu) ?_
    walk_at "aw"
    refine w_ixT (SqT.of (a2.tup _ _ ep)) (at_nat (by decide) rfl) ?_
    walk_at "aw"
    refine w_ixT (SqT.of (a2.tup _ _ hf)) (v := .int (φ d.1)) (at_of (j := i) (by omega) (by rw [List.getElem?_map, hx]; rfl)) ?_
    walk_at "aw"
    refine w_tupD (by show 2 ≤ 100000; decide) fun t H4 nt a4 et => ?_
    exact kt _ _ a4 ⟨t, d.1, rfl, hx, et⟩
  · walk_at "aw"
    refine w_dictPl (kvs := (doms.map (·.1)).map fun x => ((Sum.inr x : L2.Key), V.int (φ x))) el (by rw [hyl, List.length_map, List.length_map]) (fun i u hu => ?_) ?_ fun d H3 nd3 a3 ed => ?_
    · obtain ⟨p, x, h1, h2, h3⟩ := hyr i u hu
      exact ⟨p, (Sum.inr x, .int (φ x)), h1, by rw [List.getElem?_map, h2]; rfl, h3⟩
    · rw [List.map_map]
      exact nodup_map_inj (f := fun x : Str => (Sum.inr x : L2.Key)) (fun a b z => Sum.inr.inj z) hnd
    · exact q d H3 (a2.trans a3) ⟨_, ed, fun x hx => nK_get hx⟩
theorem paired_split {α β : Type} {R : α → β → Prop} : ∀ {xs xs' : List α} {ys : List β}, Paired R (xs ++ xs') ys → Paired R xs (ys.take xs.length) ∧ Paired R xs' (ys.drop xs.length)
  | [], _, _, h => ⟨.nil, h⟩
  | x :: xs, xs', _, .cons a t => by
    obtain ⟨h1, h2⟩ := paired_split t
    exact ⟨.cons a h1, h2⟩
theorem len__law_view {K : PySem.W.Frag} : ∀ (vs : List V) (H : Hp) (Q : VK) (E : XK), sp__law_view K vs H Q E → vs.length = 3 := fun vs H Q E h => by
  obtain ⟨_, _, _, rfl, _⟩ := h
  rfl
theorem pure__law_view {K : PySem.W.Frag} (vs : List V) (H : Hp) (Q : VK) (E : XK) (h : sp__law_view K vs H Q E) : t__law_view K { nx := fun _ H' => Q .non H', rt := Q } (start ["tape", "one", "other", "view", "name", "domain", "some", "rows", "row", "pair"] vs) H := by
  obtain ⟨st, m1, m2, rfl, cs, d1, d2, w1, w2, ok, hm1, mok1, hw1, hl1, hl1', hm2, mok2, hw2, hl2, q⟩ := h
  obtain ⟨a1, b1, r1, us1, rfl, ea1, eb1, hus1⟩ := id hm1
  obtain ⟨a2, b2, r2, us2, rfl, ea2, eb2, hus2⟩ := id hm2
  have hul1 := hus1.1
  have hul2 := hus2.1
  show t__law_view K _ [some (.ref st), some (.ref a1), some (.ref a2), none, none, none, none, none, none, none] H
  unfold t__law_view
  walk_at "aw"
  refine w_lstD (by simp) fun vl H1 nvl av evl => ?_
  have g1 := Go.of ok av
  have ovl := (ok.ne nvl).1
  walk_at "aw"
  refine w_ixT (SqT.of (av.tup _ _ ea2)) (at_nat (by decide) rfl) ?_
  refine kForT_i (fun i σ' H' => ∃ (y4 y5 y6 y7 : Option V) (vs : List V) (L : List Itm), σ' = [some (.ref st), some (.ref a1), some (.ref a2), some (.ref vl), y4, y5, y6, y7, none, none] ∧ Go st cs H H' ∧ H' vl = some (.lst vs) ∧ Paired (fun u it => ItmAt H' u it) vs L ∧ Paired (fun it d => ItmOk d1 d.2 it) L (d2.take i)) (SqT.of (av.tup _ _ eb2))
    ⟨_, _, _, _, [], [], rfl, g1, evl, .nil, .nil⟩ (fun i σ' H' _ pp => by obtain ⟨_, _, _, _, _, _, _, g, _⟩ := pp; exact SqT.of (g.tk _ _ eb2)) (fun i u σ' H' hu pp => ?_) fun σ' H' pp => ?_
  · obtain ⟨y4, y5, y6, y7, vs, L, rfl, g, evl', hvs, hL⟩ := pp
    obtain ⟨p, qd, d, rfl, hd, ep, eqd⟩ := hus2.2 i u hu
    have hil := (List.getElem?_eq_some_iff.mp hd).1
    have hdm := mok2.dm d (List.mem_of_getElem? hd)
    refine w_gtup (SqT.of (g.tk _ _ ep)) rfl ?_
    walk_at "aw"
    refine w_ixT (SqT.of (g.tk _ _ ea1)) (at_nat (by decide) rfl) ?_
    walk_at "aw"
    refine ⟨st, b1, 1, 3, rfl, cs, us1, g.ok, SqT.of (g.tk _ _ eb1), by decide, by omega, by decide, by omega, fun sl made left H2 g2 nsl esl hperm hmade1 hmade3 => ?_⟩
    have osl := (g.ok.ne nsl).1
    obtain ⟨ms', hms, hpm⟩ := paired_perm hperm (hus1.p)
    obtain ⟨hsome0, _⟩ := paired_split hpm
    have hsl := hsome0.length
    have hmem : ∀ s ∈ ms'.take made.length, s ∈ d1 := fun s hs => hms.subset (List.mem_of_mem_take hs)
    have hndm : ((ms'.take made.length).map (·.1)).Nodup := by
      have h1 : (ms'.map (·.1)).Nodup := (hms.map _).nodup_iff.mpr mok1.nd
      rw [List.map_take]
      exact h1.sublist (List.take_sublist _ _)
    generalize ms'.take made.length = some at hsome0 hsl hmem hndm
    have g02 := g.trans g2
    have hsome : Paired (fun u d => UnkP H2 u d) made some := L2.Paired.mapP hsome0 fun _ _ z => z.up g02.tk
    walk_at "aw"
    refine ⟨sl, rfl, ⟨_, SqL.of esl⟩, kLc_rel (walk_list (xs := made)) (by omega) (fun H' a => SqL.of (a.keep _ _ (fun z => nomatch z) esl)) (fun k u H3 => ∃ s, some[k]? = .some s ∧ TupAt H3 u s.2) (fun k u H3 H4 kk hh => by
      obtain ⟨s, h1, h2⟩ := hh
      exact ⟨s, h1, h2.up kk⟩) (fun k u H3 H4 Kt hk a3 yy kt => ?_) fun dl H3 ys ndl a3 edl hyl hyr => ?_⟩
    · obtain ⟨rfl, hu⟩ := yy
      obtain ⟨s, hs⟩ := get_some (xs := some) (i := k) (by omega)
      obtain ⟨pp, qq, rfl, epp, eqq⟩ := paired_at hsome hu hs
      walk_at "aw"
      refine ⟨rfl, ?_⟩
      walk_at "aw"
      refine w_ixT (SqT.of (a3.tup _ _ epp)) (at_nat (by decide) rfl) ?_
      exact kt _ _ (.refl _ _) ⟨s, hs, qq, rfl, a3.tup _ _ eqq⟩
    walk_at "aw"
    have hds : TupsAt H3 ys (some.map (·.2)) := paired_ix (by rw [hyl, List.length_map, hsl]) fun k u r hu hr => by
      obtain ⟨s, h1, h2⟩ := hyr k u hu
      rw [List.getElem?_map, h1] at hr
      cases hr
      exact h2
    refine ⟨dl, rfl, ys, some.map (·.2), edl, hds, by rw [List.length_map]; omega, fun d hd => ?_, fun rl ws H4 a4 nrl erl hrows => ?_⟩
    · obtain ⟨s, hs, rfl⟩ := List.mem_map.mp hd
      have := (mok1.dm s (hmem s hs)).l2
      omega
    have a34 := a3.trans a4
    have g24 := g2.new a34
    have nrl2 := a3.free (fun z => nomatch z) nrl
    have orl : Off rl st cs := (g2.ok.ne nrl2).1
    have hwl := hrows.length
    have hbl : (allR (some.map (·.2))).length ≤ 1728 := by
      have h1 := allR_len (ds := some.map (·.2)) (fun d hd => by
        obtain ⟨s, hs, rfl⟩ := List.mem_map.mp hd
        have := (mok1.dm s (hmem s hs)).l2
        omega) (some.map (·.2)).length (Nat.le_refl _)
      rw [List.take_length, List.length_map] at h1
      have : some.length = 0 ∨ some.length = 1 ∨ some.length = 2 ∨ some.length = 3 := by omega
      rcases this with z | z | z | z <;> · rw [z] at h1; omega
    have hrl : ∀ r ∈ allR (some.map (·.2)), r.length ≤ 3 := fun r hr => by
      have := allR_row (ds := some.map (·.2)) (some.map (·.2)).length (Nat.le_refl _) r (by rw [List.take_length]; exact hr)
      rw [List.length_map] at this
      omega
    have l1 := hdm.l1
    have l2 := hdm.l2
    refine ⟨rl, rfl, ⟨_, SqL.of erl⟩, kLc_all (walk_list (xs := ws)) (by omega) g24.ok (fun H' a => SqL.of (a.keep orl erl)) (fun k u H5 => ∃ r, (allR (some.map (·.2)))[k]? = .some r ∧ ∃ v ∈ d.2, TupAt H5 u (r ++ [v])) (fun k u H5 H6 kk hh => by
      obtain ⟨r, h1, v, h2, h3⟩ := hh
      exact ⟨r, h1, v, h2, h3.up kk⟩) (fun k u H5 H6 Kt hk g5 yy kt => ?_) fun rowl H5 zs nrowl g5 erowl hzl hzr => ?_⟩
    · obtain ⟨rfl, hu⟩ := yy
      obtain ⟨r, hr⟩ := get_some (xs := allR (some.map (·.2))) (i := k) (by omega)
      obtain ⟨ra, rfl, era⟩ := paired_at hrows hu hr
      have hrlen := hrl r (List.mem_of_getElem? hr)
      have eqd5 := ((g.trans g24).trans g5).tk _ _ eqd
      walk_at "aw"
      refine ⟨rfl, ?_⟩
      walk_at "aw"
      refine w_lenT (SqT.of eqd5) ?_
      rw [List.length_map]
      walk_at "aw"
      refine w_draw g5.ok (by omega) (by omega) fun n H7 n0 n1 g7 => ?_
      have hn : n.toNat < d.2.length := by omega
      refine w_ixT (SqT.of (g7.tk _ _ eqd5)) (v := .int d.2[n.toNat]) (at_nat n0 (by rw [List.getElem?_map, List.getElem?_eq_getElem hn]; rfl)) ?_
      walk_at "aw"
      refine w_tupD (by show 1 ≤ 100000; decide) fun t1 H8 nt1 a8 et1 => ?_
      refine w_catT' ((g5.trans g7).tk _ _ era |> a8.tup _ _) et1 (by rw [List.length_map]; show r.length + 1 ≤ 100000; omega) fun t2 H9 a9 et2 => ?_
      exact kt _ _ (g7.new (a8.trans a9)) ⟨r, hr, d.2[n.toNat], List.getElem_mem _, t2, rfl, by rw [et2, List.map_append]; rfl⟩
    walk_at "aw"
    obtain ⟨rows, hrowl, hrowP⟩ := list_choose (P := fun k u (row : List Int) => TupAt H5 u row ∧ ∃ r, (allR (some.map (·.2)))[k]? = .some r ∧ ∃ v ∈ d.2, row = r ++ [v]) fun k u hu => by
      obtain ⟨r, h1, v, h2, h3⟩ := hzr k u hu
      exact ⟨r ++ [v], h3, r, h1, v, h2, rfl⟩
    have hallr : rows.length = (allR (some.map (·.2))).length := by omega
    have g25 := g24.trans g5
    have g05 := g.trans g25
    have orowl : Off rowl st cs := (g24.ok.ne nrowl).1
    have evl5 := g25.keep ovl evl'
    have esl5 := ((Go.of g2.ok a34).trans g5).keep osl esl
    have hsome5 : Paired (fun u d => UnkP H5 u d) made some := L2.Paired.mapP hsome fun _ _ z => z.up ((Go.of g2.ok a34).trans g5).tk
    refine w_app rfl evl5 ?_
    walk_at "aw"
    refine ⟨sl, rfl, ⟨_, SqL.of esl5⟩, kLc_pure (walk_list (xs := made)) (by omega) (fun H' a => SqL.of (a.keep _ _ (fun z => nomatch z) esl5)) (fun _ => true) (fun k => .str ((some.map (·.1)).getD k Str.empty)) (fun k u H6 H7 Kt Kf hk a6 yy kt kf => ?_) fun nl2 H6 nnl2 a6 enl2 => ?_⟩
    · obtain ⟨rfl, hu⟩ := yy
      obtain ⟨s, hs⟩ := get_some (xs := some) (i := k) (by omega)
      obtain ⟨pp, qq, rfl, epp, eqq⟩ := paired_at hsome5 hu hs
      rw [getD_of (show (some.map (·.1))[k]? = .some s.1 by rw [List.getElem?_map, hs]; rfl)] at kt
      walk_at "aw"
      refine ⟨rfl, ?_⟩
      walk_at "aw"
      refine w_ixT (SqT.of (a6.tup _ _ epp)) (at_nat (by decide) rfl) ?_
      exact kt rfl _ (.refl _ _)
    have enl2' : H6 nl2 = .some (.lst ((some.map (·.1)).map V.str)) := by
      rw [enl2, filter_true, hsl]
      congr 2
      conv => rhs; rw [← range_getD (some.map (·.1)) Str.empty]
      rw [List.length_map, List.map_map]
      rfl
    walk_at "aw"
    refine w_tupL (SqL.of enl2') fun nt H7 nnt a7 ent => ?_
    walk_at "aw"
    refine w_tupL (SqL.of ((a6.trans a7).keep _ _ (fun z => nomatch z) erowl)) fun rt H8 nrt a8 ert => ?_
    walk_at "aw"
    refine w_tupD (by show 2 ≤ 100000; decide) fun it H9 nit a9 eit => ?_
    have a69 := a6.trans (a7.trans (a8.trans a9))
    have evl9 := a69.keep _ _ (fun z => nomatch z) evl5
    have hLl : L.length = i := by rw [hL.length, List.length_take]; omega
    have hvl := hvs.length
    walk_at "aw"
    refine w_append evl9 (by omega) ?_
    walk_at "aw"
    have kk : TK H9 (upd H9 vl (.lst (vs ++ [.ref it]))) := (Adv.lst evl9).tup
    have g09 := g05.new a69
    refine ⟨_, _, _, _, vs ++ [.ref it], L ++ [(some, rows)], rfl, g09.mutL ok nvl evl9, upd_same, ?_, ?_⟩
    · refine paired_app (L2.Paired.mapP hvs fun _ _ z => (z.up (g25.new a69).tk).up kk) (.cons ⟨it, nt, rt, zs, rfl, kk _ _ eit, kk _ _ ((a8.trans a9).tup _ _ ent), kk _ _ (a9.tup _ _ ert), ?_⟩ .nil)
      refine paired_ix (show zs.length = rows.length by omega) fun k u r hu hr => ?_
      exact ((hrowP k u r hu hr).1.up a69.tup).up kk
    · rw [List.take_add_one, hd]
      refine paired_app hL (.cons ⟨show 1 ≤ some.length by omega, show some.length ≤ 3 by omega, hndm, hmem, ?_⟩ .nil)
      refine paired_ix (show rows.length = (allR (some.map (·.2))).length by omega) fun k r fr hr hfr => ?_
      obtain ⟨u, hu⟩ := get_some (xs := zs) (i := k) (by have : k < rows.length := (List.getElem?_eq_some_iff.mp hr).1; omega)
      obtain ⟨_, r0, h1, v, h2, h3⟩ := hrowP k u r hu hr
      rw [hfr] at h1
      cases h1
      exact ⟨v, h2, h3⟩
  · obtain ⟨y4, y5, y6, y7, vs, L, rfl, g, evl', hvs, hL⟩ := pp
    rw [hul2, List.take_length] at hL
    walk_at "aw"
    refine w_tupL (SqL.of evl') fun t H4 nt a4 et => ?_
    exact q t L H4 (g.new a4) ⟨vs, et, L2.Paired.mapP hvs fun _ _ z => z.up a4.tup⟩ hL
end AW
/-! expressions that make data of a bounded depth -/
namespace AW
open PySem PySem.Spec PyProof.Rows L2 RZ
theorem w_slA {K : PySem.W.Frag} {p : Addr} {xs : List V} {lo hi : Option Int} {H : Hp} {Q : VK} (h : H p = some (.tup xs)) (q : ∀ t H', Adv [] H H' → H' t = some (.tup (cutV xs lo hi)) → Q (.ref t) H') : rSlA K (.ref p) lo hi H Q := by
  refine ⟨p, xs, rfl, SqT.of h, fun z => q p H (.refl _ _) ?_, fun _ => w_new fun r H' _ a e => q r H' a e⟩
  rw [h]
  unfold cutV
  rw [z.1, z.2]
  simp
def Nc (d : Nat) (D : PyData) : Prop := D.canLay0 = true ∧ D.depth ≤ d
/-- data of at most d levels, its tuples of at most 300 items -/
inductive Sw : Nat → PyData → Prop where
  | int {k : Nat} (n : Int) : Sw k (.int n)
  | bl {k : Nat} (b : Bool) : Sw k (.bool b)
  | non {k : Nat} : Sw k .none
  | str {k : Nat} {x : Str} (h : okS x) : Sw k (.str x)
  | tup {k : Nat} {ds : List PyData} (l : ds.length ≤ 300) (h : ∀ d ∈ ds, Sw k d) : Sw (k + 1) (.tuple ds)
theorem Sw.mono : ∀ {k : Nat} {D : PyData}, Sw k D → ∀ {e : Nat}, k ≤ e → Sw e D
  | _, _, .int n, _, _ => .int n
  | _, _, .bl b, _, _ => .bl b
  | _, _, .non, _, _ => .non
  | _, _, .str h, _, _ => .str h
  | _, _, .tup l h, 0, z => absurd z (by omega)
  | _, _, .tup l h, e + 1, z => .tup l fun d hd => (h d hd).mono (by omega)
def Dat (d : Nat) (H : Hp) (v : V) : Prop := ∃ D, Is H D v ∧ Sw d D
theorem Dat.up {d : Nat} {H H' : Hp} {v : V} (h : Dat d H v) (k : TK H H') : Dat d H' v := by
  obtain ⟨D, h, n⟩ := h
  exact ⟨D, h.up k, n⟩
theorem Dat.mono {d e : Nat} {H : Hp} {v : V} (h : Dat d H v) (z : d ≤ e) : Dat e H v := by
  obtain ⟨D, h, n⟩ := h
  exact ⟨D, h, n.mono z⟩
theorem Nc.int {d : Nat} (n : Int) : Nc d (.int n) := ⟨rfl, by simp [PyData.depth]⟩
theorem Nc.bl {d : Nat} (b : Bool) : Nc d (.bool b) := ⟨rfl, by simp [PyData.depth]⟩
theorem Nc.non {d : Nat} : Nc d .none := ⟨rfl, by simp [PyData.depth]⟩
theorem Nc.str {d : Nat} {x : Str} (h : okS x) : Nc d (.str x) := ⟨h, by simp [PyData.depth]⟩
theorem nc_all {d : Nat} : ∀ {ds : List PyData}, (∀ x ∈ ds, Nc d x) → PyData.canLayAll0 ds = true ∧ PyData.depthAll ds ≤ d
  | [], _ => ⟨rfl, by simp [PyData.depthAll]⟩
  | x :: ds, h => by
    obtain ⟨h1, h2⟩ := h x (List.mem_cons_self ..)
    obtain ⟨h3, h4⟩ := nc_all (ds := ds) fun y hy => h y (List.mem_cons_of_mem _ hy)
    refine ⟨by simp only [PyData.canLayAll0, h1, h3, Bool.and_self], ?_⟩
    simp only [PyData.depthAll]
    omega
theorem Nc.tup {d : Nat} {ds : List PyData} (h : ∀ x ∈ ds, Nc d x) : Nc (d + 1) (.tuple ds) := by
  obtain ⟨h1, h2⟩ := nc_all h
  exact ⟨h1, by simp only [PyData.depth]; omega⟩
theorem Nc.shaped {d : Nat} {D : PyData} (h : Nc d D) (z : d ≤ 64) : SeqAt.shaped D = true := by
  show (D.canLay0 && decide (D.depth ≤ 64)) = true
  rw [h.1, Bool.true_and]
  exact decide_eq_true (Nat.le_trans h.2 z)
theorem Sw.nc : ∀ {k : Nat} {D : PyData}, Sw k D → Nc k D
  | _, _, .int n => .int n
  | _, _, .bl b => .bl b
  | _, _, .non => .non
  | _, _, .str h => .str h
  | _, _, .tup _ h => .tup fun d hd => (h d hd).nc
def AllDat (d : Nat) (H : Hp) (xs : List V) : Prop := ∀ x ∈ xs, Dat d H x
theorem AllDat.up {d : Nat} {H H' : Hp} {xs : List V} (h : AllDat d H xs) (k : TK H H') : AllDat d H' xs := fun x hx => (h x hx).up k
theorem AllDat.mono {d e : Nat} {H : Hp} {xs : List V} (h : AllDat d H xs) (z : d ≤ e) : AllDat e H xs := fun x hx => (h x hx).mono z
theorem AllDat.is {d : Nat} {H : Hp} : ∀ {xs : List V}, AllDat d H xs → ∃ ds, IsAll H ds xs ∧ ∀ x ∈ ds, Sw d x
  | [], _ => ⟨[], .nil, fun _ h => nomatch h⟩
  | x :: xs, h => by
    obtain ⟨D, hd, hn⟩ := h x (List.mem_cons_self ..)
    obtain ⟨ds, hs, hm⟩ := AllDat.is (xs := xs) fun y hy => h y (List.mem_cons_of_mem _ hy)
    exact ⟨D :: ds, .cons hd hs, fun y hy => by
      rcases List.mem_cons.mp hy with rfl | hy
      · exact hn
      · exact hm y hy⟩
theorem Dat.tup {d : Nat} {H : Hp} {a : Addr} {xs : List V} (e : H a = some (.tup xs)) (h : AllDat d H xs) (hl : xs.length ≤ 300) : Dat (d + 1) H (.ref a) := by
  obtain ⟨ds, hs, hn⟩ := h.is
  exact ⟨.tuple ds, .tup e hs, .tup (by rw [← hs.length]; exact hl) hn⟩
section
variable {K : PySem.W.Frag} {σ : L2.St} {H : Hp} {te tf : TE} {ta : TA} {n m d e : Nat}
/-- a whole number comes out -/
def IE (te : TE) (σ : L2.St) (H : Hp) : Prop := ∀ (H' : Hp) (Q : VK), Adv [] H H' → (∀ (k : Int) H'', Adv [] H' H'' → Q (.int k) H'') → te σ H' Q
/-- a datum of at most d levels comes out -/
def DE (d : Nat) (te : TE) (σ : L2.St) (H : Hp) : Prop := ∀ (H' : Hp) (Q : VK), Adv [] H H' → (∀ v H'', Adv [] H' H'' → Dat d H'' v → Q v H'') → te σ H' Q
/-- a tuple of at most n data comes out -/
def TT' (d n : Nat) (te : TE) (σ : L2.St) (H : Hp) : Prop := ∀ (H' : Hp) (Q : VK), Adv [] H H' → (∀ a xs H'', Adv [] H' H'' → H'' a = some (.tup xs) → AllDat d H'' xs → xs.length ≤ n → Q (.ref a) H'') → te σ H' Q
theorem IE.de (h : IE te σ H) : DE d te σ H := fun H' Q a q => h H' Q a fun k H'' a' => q _ H'' a' ⟨_, .int k, .int k⟩
theorem TT'.de (h : TT' d n te σ H) (hn : n ≤ 300) : DE (d + 1) te σ H := fun H' Q a q => h H' Q a fun p xs H'' a' e dd hl => q _ H'' a' (.tup e dd (Nat.le_trans hl hn))
theorem DE.mono (h : DE d te σ H) (z : d ≤ e) : DE e te σ H := fun H' Q a q => h H' Q a fun v H'' a' dd => q v H'' a' (dd.mono z)
theorem TT'.mono (h : TT' d n te σ H) (z : d ≤ e) : TT' e n te σ H := fun H' Q a q => h H' Q a fun p xs H'' a' ee dd l => q p xs H'' a' ee (dd.mono z) l
end
end AW
namespace AW
open PySem PySem.Spec PyProof.Rows L2 RZ
open StX
local macro_rules | `(tactic| walk_at "aw1") => `(tactic| first
  | (with_reducible refine w_seq ?_) | (with_reducible refine w_asg ?_) | (with_reducible refine w_gname ?_) | (with_reducible refine w_op ?_) | (with_reducible refine w_un ?_)
  | ((with_reducible refine' w_var ?h ?_); (case h => rfl)) | (with_reducible refine w_c ?_)
  | (with_reducible refine w_I0 ?_) | (with_reducible refine w_U ?_) | (with_reducible refine w_cb ?_) | (with_reducible refine w_nil ?_) | (with_reducible refine w_cons ?_) | (with_reducible refine w_call ?_)
  | (with_reducible refine w_test ?_) | (with_reducible refine w_B ?_) | (with_reducible refine w_bl ?_) | (with_reducible refine w_not ?_) | (with_reducible refine w_yes ?_) | (with_reducible refine iteT ?_) | (with_reducible refine iteF ?_) | (with_reducible refine w_and ?_) | (with_reducible refine w_or ?_)
  | (with_reducible refine w_andV ?_) | (with_reducible refine w_orV ?_) | (with_reducible refine w_notV ?_) | (with_reducible refine w_if ?_)
  | (with_reducible refine w_int1 ?_) | (with_reducible refine w_int1b ?_) | (with_reducible refine w_abs ?_) | (with_reducible refine w_max2 ?_) | (with_reducible refine w_min2 ?_)
  | ((with_reducible refine w_eq ?h ?_); (case h => rfl)) | ((with_reducible refine w_ne ?h ?_); (case h => rfl)) | (with_reducible refine w_isN ?_) | (with_reducible refine w_isB ?_) | (with_reducible refine w_chain ?_)
  | (with_reducible refine w_ret ?_) | (with_reducible refine w_drop ?_) | (with_reducible refine w_ifS ?_) | (with_reducible refine w_gsub ?_) | (with_reducible refine w_augS ?_) | (with_reducible refine w_ipI ?_) | (with_reducible refine w_next ?_)
  | (with_reducible refine w_forR ?_) | (with_reducible refine w_forR2 ?_) | (with_reducible refine w_forL ?_) | (with_reducible refine w_forT ?_) | (with_reducible refine w_lcR ?_) | (with_reducible refine w_lcL ?_) | (with_reducible refine w_lcT ?_) | (with_reducible refine w_sl ?_) | (with_reducible refine w_part ?_) | (with_reducible refine w_noPart ?_) | (with_reducible refine w_in ?_)
  | (with_reducible refine w_gcons ?_) | (with_reducible refine w_gnil ?_) | (with_reducible refine w_lc3 ?_) | (with_reducible refine w_dcZ ?_) | (with_reducible refine w_dcT ?_) | (with_reducible refine w_dg ?_) | (with_reducible refine w_callK ?_) | (with_reducible refine w_dput ?_) | (with_reducible refine w_tup1 ?_)
  | (with_reducible refine w_tup ?_) | (with_reducible refine w_lst ?_)
  | ((with_reducible refine w_I ?h ?_); (case h => first | (exact Or.inr ⟨by decide, by decide⟩) | (exact Or.inl ⟨by decide, by decide⟩) | (show (0 : Int) < _; decide) | (exact ⟨by decide, by decide, by decide⟩) | assumption)))
local macro_rules | `(tactic| walk_at "aw") => `(tactic| repeat (walk_at "aw1"))
def nameIn (names : List Str) (D : PyData) : Bool := match D with
  | .str x => decide (x ∈ names)
  | _ => false
def txtD (D : PyData) : Str := match D with
  | .str x => x
  | _ => Str.empty
def domF (doms : List (Str × List Int)) (x : Str) : List Int := ((doms.find? fun d => decide (d.1 = x)).map (·.2)).getD []
def DomAt (H : Hp) (d : Str × List Int) (kv : Key × V) : Prop := kv.1 = .inr d.1 ∧ ∃ q, kv.2 = .ref q ∧ H q = some (.tup (d.2.map V.int))
theorem dom_up {H H' : Hp} {doms : List (Str × List Int)} {kvs : List (Key × V)} (h : Paired (DomAt H) doms kvs) (k : TK H H') : Paired (DomAt H') doms kvs := L2.Paired.mapP h fun _ _ ⟨h1, q, h2, h3⟩ => ⟨h1, q, h2, k _ _ h3⟩
theorem dom_get {H : Hp} : ∀ {doms : List (Str × List Int)} {kvs : List (Key × V)}, Paired (DomAt H) doms kvs → (doms.map (·.1)).Nodup → ∀ d ∈ doms, ∃ q, valV kvs (.inr d.1) = some (.ref q) ∧ H q = some (.tup (d.2.map V.int))
  | _, _, .nil, _, g, h => by simp at h
  | d0 :: G, kv :: kvs, .cons a t, nd, d, h => by
    rw [List.map_cons, List.nodup_cons] at nd
    rcases List.mem_cons.mp h with h | h
    · subst h
      obtain ⟨h1, r, h2, h3⟩ := a
      exact ⟨r, by rw [valV_pos h1, h2], h3⟩
    · obtain ⟨r, h2, h3⟩ := dom_get t nd.2 d h
      refine ⟨r, ?_, h3⟩
      rw [valV_neg fun z => nd.1 (by
        have := a.1.symm.trans z
        rw [Sum.inr.inj this]
        exact List.mem_map_of_mem h)]
      exact h2
/-- the dict at d tells the domains -/
def DomD (H : Hp) (d : Addr) (doms : List (Str × List Int)) : Prop := ∃ kd, H d = some (.dK kd) ∧ Paired (DomAt H) doms kd
theorem DomD.up {H H' : Hp} {d : Addr} {doms : List (Str × List Int)} (h : DomD H d doms) (a : Adv [] H H') : DomD H' d doms := by
  obtain ⟨kd, h1, h2⟩ := h
  exact ⟨kd, a.keep _ _ (fun z => nomatch z) h1, dom_up h2 a.tup⟩
theorem domF_mem {doms : List (Str × List Int)} (nd : (doms.map (·.1)).Nodup) {x : Str} (hx : x ∈ doms.map (·.1)) : (x, domF doms x) ∈ doms := by
  induction doms with
  | nil => simp at hx
  | cons d doms ih =>
    rw [List.map_cons, List.nodup_cons] at nd
    unfold domF
    by_cases e : d.1 = x
    · rw [List.find?_cons_of_pos (by rw [e]; exact decide_eq_true rfl), ← e]
      exact List.mem_cons_self ..
    · rw [List.find?_cons_of_neg (by rw [decide_eq_true_iff]; exact e)]
      rcases List.mem_cons.mp hx with h | h
      · exact absurd h.symm e
      · exact List.mem_cons_of_mem _ (ih nd.2 h)
theorem dom_is {H : Hp} : ∀ {doms : List (Str × List Int)} {kd : List (Key × V)}, Paired (DomAt H) doms kd → ∀ x : Str, (valV kd (Sum.inr x)).isSome = decide (x ∈ doms.map (·.1))
  | _, _, .nil, x => by simp [valV]
  | d :: doms, kv :: kd, .cons a t, x => by
    rw [List.map_cons]
    obtain ⟨k0, v0⟩ := kv
    have ha : k0 = .inr d.1 := a.1
    subst ha
    by_cases e : d.1 = x
    · rw [valV_pos (by rw [e])]
      simp [e]
    · rw [valV_neg fun z => e (Sum.inr.inj z), dom_is t x]
      rw [Bool.eq_iff_iff, decide_eq_true_iff, decide_eq_true_iff, List.mem_cons]
      constructor
      · exact .inr
      · rintro (z | z)
        · exact absurd z.symm e
        · exact z
theorem DomD.get {H : Hp} {d : Addr} {doms : List (Str × List Int)} (h : DomD H d doms) (nd : (doms.map (·.1)).Nodup) {x : Str} (hx : x ∈ doms.map (·.1)) : ∃ kd q, H d = some (.dK kd) ∧ valV kd (.inr x) = some (.ref q) ∧ H q = some (.tup ((domF doms x).map V.int)) := by
  obtain ⟨kd, h1, h2⟩ := h
  obtain ⟨q, h3, h4⟩ := dom_get h2 nd _ (domF_mem nd hx)
  exact ⟨kd, q, h1, h3, h4⟩
theorem DomD.has {H : Hp} {d : Addr} {doms : List (Str × List Int)} (h : DomD H d doms) (x : Str) : ∃ kd, H d = some (.dK kd) ∧ (valV kd (Sum.inr x)).isSome = decide (x ∈ doms.map (·.1)) := by
  obtain ⟨kd, h1, h2⟩ := h
  exact ⟨kd, h1, dom_is h2 x⟩
theorem iteT'' {c : Bool} {A B : Prop} (h : c = true) (a : A) : if c = true then A else B := by rw [if_pos h]; exact a
theorem iteF'' {c : Bool} {A B : Prop} (h : c = false) (a : B) : if c = true then A else B := by rw [if_neg (by rw [h]; decide)]; exact a
abbrev v_MOST_SEEN : V := .int 3
abbrev v_MOST_VIEW_ROWS : V := .int 256
def unkB (names : List Str) (D : PyData) (m : Int) : Bool := match D with
  | .tuple ds => decide (1 ≤ (ds.length : Int)) && decide ((ds.length : Int) ≤ m) && ds.all (nameIn names) && decide (ds.map txtD).Nodup
  | _ => false
def cellB (D : PyData) (col : List Int) : Bool := match D with
  | .int n => decide (n ∈ col)
  | _ => false
def rowB (cols : List (List Int)) (D : PyData) : Bool := match D with
  | .tuple ds => decide (ds.length = cols.length) && ((List.range cols.length).map fun i => cellB (ds.getD i .none) (cols.getD i [])).all id
  | _ => false
def rowI (D : PyData) : List Int := match D with
  | .tuple ds => ds.map fun d => match d with | .int n => n | _ => 0
  | _ => []
def ascR (rs : List (List Int)) : Bool := ((List.range (rs.length - 1)).map fun k => HT.lexLt (rs.getD k []) (rs.getD (k + 1) [])).all id
def manyR (cols : List (List Int)) : Nat := (cols.map (·.length)).foldl (· * ·) 1
def rowsB (cols : List (List Int)) (dom : List Int) (R : PyData) : Bool := match R with
  | .tuple rs => decide (1 ≤ (rs.length : Int)) && decide ((rs.length : Int) ≤ 256) && rs.all (rowB (cols ++ [dom])) && (ascR (rs.map fun r => (rowI r).dropLast) && decide (rs.length = manyR cols))
  | _ => false
def itmB (doms : List (Str × List Int)) (dom : List Int) (D : PyData) : Bool := match D with
  | .tuple [X, R] => unkB (doms.map (·.1)) X 3 && rowsB ((match X with | .tuple xs => xs | _ => []).map fun x => domF doms (txtD x)) dom R
  | _ => false
def sp_is_unknown (_ : PySem.W.Frag) : Sp := fun vs H Q _ => ∃ (d : Addr) (v : V), vs = [.ref d, v] ∧ ∃ doms D, DomD H d doms ∧ Is H D v ∧ Q (.bl (nameIn (doms.map (·.1)) D)) H
def sp_are_unknowns (_ : PySem.W.Frag) : Sp := fun vs H Q _ => ∃ (d : Addr) (v : V) (m : Int), vs = [.ref d, v, .int m] ∧ ∃ doms D, DomD H d doms ∧ Is H D v ∧ m ≤ 100 ∧ ∀ H', Adv [] H H' → Q (.bl (unkB (doms.map (·.1)) D m)) H'
def sp_ascends (_ : PySem.W.Frag) : Sp := fun vs H Q _ => ∃ (l : Addr), vs = [.ref l] ∧ ∃ us rs, H l = some (.lst us) ∧ TupsAt H us rs ∧ rs.length ≤ 1000 ∧ ∀ H', Adv [] H H' → Q (.bl (ascR rs)) H'
def sp__is_row (_ : PySem.W.Frag) : Sp := fun vs H Q _ => ∃ (l : Addr) (v : V), vs = [.ref l, v] ∧ ∃ us cols D, H l = some (.lst us) ∧ TupsAt H us cols ∧ cols.length ≤ 100 ∧ Is H D v ∧ ∀ H', Adv [] H H' → Q (.bl (rowB cols D)) H'
def sp__many_tuples (_ : PySem.W.Frag) : Sp := fun vs H Q _ => ∃ (l : Addr), vs = [.ref l] ∧ ∃ us cols, H l = some (.lst us) ∧ TupsAt H us cols ∧ cols.length ≤ 3 ∧ (∀ c ∈ cols, c.length ≤ 12) ∧ Q (.int (manyR cols : Nat)) H
def sp__is_item (_ : PySem.W.Frag) : Sp := fun vs H Q _ => ∃ (d q : Addr) (v : V), vs = [.ref d, .ref q, v] ∧ ∃ doms w dom D n, DomD H d doms ∧ MdlOk w doms ∧ w ≤ 12 ∧ H q = some (.tup (dom.map V.int)) ∧ Is H D v ∧ Sw n D ∧ n ≤ 60 ∧ ∀ H', Adv [] H H' → Q (.bl (itmB doms dom D)) H'
theorem w_lcM {K : PySem.W.Frag} {ta : TA} {g : TG} {tt : TT} {te : TE} {vs : List Nat} {σ : L2.St} {H : Hp} {Q : VK} (h : ta σ H fun ws H1 => ∃ (a b : Addr) (xs ys : List V), ws = [.ref a, .ref b] ∧ SqT K H1 a xs ∧ SqL K H1 b ys ∧ kLc (Itzm K a b) g tt te vs σ Q H1) : tLc (iZipM K ta) g tt te vs σ H Q := h
theorem nc_ints (ns : List Int) : Nc 1 (.tuple (ns.map .int)) := .tup fun x hx => by
  obtain ⟨n, _, rfl⟩ := List.mem_map.mp hx
  exact .int n
theorem any_int (n : Int) (col : List Int) : ((col.map PyData.int).any fun z => PyData.eqv z (.int n)) = decide (n ∈ col) := by
  rw [Bool.eq_iff_iff, List.any_eq_true, decide_eq_true_iff]
  constructor
  · rintro ⟨z, h1, h2⟩
    obtain ⟨m, hm, rfl⟩ := List.mem_map.mp h1
    have : m = n := by simpa [PyData.eqv] using h2
    exact this ▸ hm
  · intro h
    exact ⟨.int n, List.mem_map_of_mem h, by simp [PyData.eqv]⟩
theorem w_inI {K : PySem.W.Frag} {n : Int} {p : Addr} {col : List Int} {H : Hp} {Q : VK} (e : H p = some (.tup (col.map V.int))) (q : Q (.bl (decide (n ∈ col))) H) : rInT K (.int n) (.ref p) H Q := by
  refine ⟨.int n, col.map .int, .int n, .tup (SqT.of e) (IsAll.ints col).dp, (Nc.int (d := 0) n).shaped (by decide), (nc_ints col).shaped (by decide), ?_⟩
  rw [any_int]
  exact q
def t_is_unknown (K : PySem.W.Frag) : TS := (tRet (tAndV (tOp rIsTyB (tCB (rTyp K) (tCons (tVar 1) tNil)) (tC (.ty "str"))) (tDIn (tVar 1) (tVar 0))))
def t_are_unknowns (K : PySem.W.Frag) : TS := (tSeq (tIfS (tOr (tNot (tB (tCall (sp_is_tuple K) [] E0 (tCons (tVar 1) (tCons (tC (.int 1)) (tCons (tVar 2) tNil)))))) (tNot (tB (tCB (rAll K) (tCons (tLc (iTup K (tVar 1)) (gName 3) tYes (tCall (sp_is_unknown K) [] E0 (tCons (tVar 0) (tCons (tVar 3) tNil))) [3]) tNil))))) (tRet (tC (.bl false))) tNext)
  (tRet (tOp rEq (tLenSetS K (tVar 1)) (tCB (rLen1 K) (tCons (tVar 1) tNil)))))
def t_ascends (K : PySem.W.Frag) : TS := (tRet (tCB (rAll K) (tCons (tLc (iRng1 (tCons (tOp rSubI (tCB (rLen1 K) (tCons (tVar 0) tNil)) (tC (.int 1))) tNil)) (gName 1) tYes (tOp (rLtT K) (tOp (rIxA K) (tVar 0) (tVar 1)) (tOp (rIxA K) (tVar 0) (tOp rAddI (tVar 1) (tC (.int 1))))) [1]) tNil)))
def t__is_row (K : PySem.W.Frag) : TS := (tSeq (tIfS (tNot (tB (tCall (sp_is_tuple K) [] E0 (tCons (tVar 1) (tCons (tCB (rLen1 K) (tCons (tVar 0) tNil)) (tCons (tCB (rLen1 K) (tCons (tVar 0) tNil)) tNil)))))) (tRet (tC (.bl false))) tNext)
  (tRet (tCB (rAll K) (tCons (tLc (iZipM K (tCons (tVar 1) (tCons (tVar 0) tNil))) (gTup K 2 (gCons (gName 2) (gCons (gName 3) gNil))) tYes (tAndV (tOp rIsTyB (tCB (rTyp K) (tCons (tVar 2) tNil)) (tC (.ty "int"))) (tOp (rInT K) (tVar 2) (tVar 3))) [2, 3]) tNil))))
def t__many_tuples (K : PySem.W.Frag) : TS := (tSeq (tAsg (tC (.int 1)) (gName 1))
  (tSeq (tFor (iList K (tVar 0)) (gName 2)
  (tAsg (tOp rMulI (tVar 1) (tCB (rLen1 K) (tCons (tVar 2) tNil))) (gName 1)))
  (tRet (tVar 1))))
theorem bls_map {n : Nat} (f : Nat → Bool) : ((List.range n).filter fun _ => true).map (fun i => V.bl (f i)) = ((List.range n).map f).map V.bl := by
  rw [filter_true, List.map_map]
  rfl
theorem all_range {α : Type} (xs : List α) (f : α → Bool) (d : α) : ((List.range xs.length).map fun i => f (xs.getD i d)).all id = xs.all f := by
  rw [List.all_map, Bool.eq_iff_iff, List.all_eq_true, List.all_eq_true]
  constructor
  · intro h x hx
    obtain ⟨i, hi, rfl⟩ := List.mem_iff_getElem.mp hx
    have := h i (List.mem_range.mpr hi)
    show f xs[i] = true
    rw [← getD_of (d := d) (List.getElem?_eq_getElem hi)]
    exact this
  · intro h i hi
    have hi := List.mem_range.mp hi
    show f (xs.getD i d) = true
    rw [getD_of (List.getElem?_eq_getElem hi)]
    exact h _ (List.getElem_mem hi)
theorem kLcR_sub {g : TG} {tt : TT} {te : TE} {vs : List Nat} {σ : L2.St} {Q : VK} {H1 : Hp} {n : Nat} {z : Int} (hz0 : z.toNat = n ∧ -1000 ≤ z ∧ z ≤ 100000) (hn : n ≤ 100000) (B : Nat → Bool) (v : Nat → V)
    (step : ∀ i H (Kt : V → Hp → Prop) (Kf : Hp → Prop), i < n → Adv [] H1 H → (B i = true → ∀ H4, Adv [] H H4 → Kt (v i) H4) → (B i = false → ∀ H3, Adv [] H H3 → Kf H3) →
      g (.int (i : Nat)) (wipe σ vs) H fun σ2 H2 => wipe σ2 vs = wipe σ vs ∧ tt σ2 H2 fun b H3 => if b = true then te σ2 H3 Kt else Kf H3)
    (k : ∀ p H', H1 p = none → Adv [] H1 H' → H' p = some (.lst (((List.range n).filter B).map v)) → Q (.ref p) H') : kLcR g tt te vs σ Q [.int z] H1 := by
  obtain ⟨hz, _, _⟩ := hz0
  refine ⟨z, rfl, by omega, by omega, ?_⟩
  rw [hz]
  refine kLc_pure walk_range hn (fun _ _ => trivial) B v (fun i x H H' Kt Kf hi g1 y kt kf => ?_) k
  obtain ⟨rfl, rfl⟩ := y
  show g (.int ((0 : Int) + (i : Nat))) _ _ _
  rw [Int.zero_add]
  exact step i H' Kt Kf hi g1 kt kf
theorem len_is_unknown {K : PySem.W.Frag} : ∀ (vs : List V) (H : Hp) (Q : VK) (E : XK), sp_is_unknown K vs H Q E → vs.length = 2 := fun vs H Q E h => by
  obtain ⟨_, _, rfl, _⟩ := h
  rfl
def kDIn (x y : V) (H : Hp) (Q : VK) : Prop := ∃ a o, x = .ref a ∧ DGet H a y o ∧ Q (.bl o.isSome) H
theorem w_din {ty td : TE} {σ : L2.St} {H : Hp} {Q : VK} (h : ty σ H fun y H1 => td σ H1 fun x H2 => kDIn x y H2 Q) : tDIn ty td σ H Q := h
theorem pure_is_unknown {K : PySem.W.Frag} (vs : List V) (H : Hp) (Q : VK) (E : XK) (h : sp_is_unknown K vs H Q E) : t_is_unknown K { nx := fun _ H' => Q .non H', rt := Q } (start ["domains", "value"] vs) H := by
  obtain ⟨d, v, rfl, doms, D, hd, hD, q⟩ := h
  show t_is_unknown K _ [some (.ref d), some v] H
  unfold t_is_unknown
  walk_at "aw"
  refine w_typ hD ?_
  walk_at "aw"
  refine w_isTy ?_
  walk_at "aw"
  cases hD with
  | str x =>
    refine w_iteB (fun _ => ?_) fun h => absurd rfl h
    obtain ⟨kvs, ed, hk⟩ := hd.has x
    walk_at "aw"
    refine w_din ?_
    walk_at "aw"
    refine ⟨d, _, rfl, DGet.k (k := Sum.inr x) ed, ?_⟩
    rw [hk]
    exact q
  | tup e t => exact w_iteB (fun h => absurd h (by simp [tyD])) fun _ => q
  | non => exact w_iteB (fun h => absurd h (by simp [tyD])) fun _ => q
  | bl b => exact w_iteB (fun h => absurd h (by simp [tyD])) fun _ => q
  | int x => exact w_iteB (fun h => absurd h (by simp [tyD])) fun _ => q
theorem len_are_unknowns {K : PySem.W.Frag} : ∀ (vs : List V) (H : Hp) (Q : VK) (E : XK), sp_are_unknowns K vs H Q E → vs.length = 3 := fun vs H Q E h => by
  obtain ⟨_, _, _, rfl, _⟩ := h
  rfl
theorem lenIn_tup {ds : List PyData} {f m : Int} : lenIn (.tuple ds) f m = (decide (f ≤ (ds.length : Int)) && decide ((ds.length : Int) ≤ m)) := rfl
theorem names_txt {H : Hp} {names : List Str} : ∀ {ds : List PyData} {vs : List V}, IsAll H ds vs → ds.all (nameIn names) = true → vs = (ds.map txtD).map V.str
  | [], _, .nil, _ => rfl
  | d :: ds, _, .cons h1 h2, f => by
    rw [List.all_cons, Bool.and_eq_true] at f
    have e := names_txt h2 f.2
    cases h1 with
    | str x => rw [e]; rfl
    | tup _ _ => exact absurd f.1 (by simp [nameIn])
    | int _ => exact absurd f.1 (by simp [nameIn])
    | bl _ => exact absurd f.1 (by simp [nameIn])
    | non => exact absurd f.1 (by simp [nameIn])
theorem unkB_no {names : List Str} {D : PyData} {m : Int} (h : lenIn D 1 m = false) : unkB names D m = false := by
  unfold unkB
  split
  · rw [lenIn_tup] at h
    rw [h, Bool.false_and, Bool.false_and]
  · rfl
theorem unk_tup {D : PyData} {f m : Int} (h : lenIn D f m = true) : ∃ ds, D = .tuple ds := by
  unfold lenIn at h
  split at h
  · exact ⟨_, rfl⟩
  · exact absurd h (by decide)
theorem pure_are_unknowns {K : PySem.W.Frag} (vs : List V) (H : Hp) (Q : VK) (E : XK) (h : sp_are_unknowns K vs H Q E) : t_are_unknowns K { nx := fun _ H' => Q .non H', rt := Q } (start ["domains", "value", "most", "x"] vs) H := by
  obtain ⟨d, v, m, rfl, doms, D, hd, hD, hm, q⟩ := h
  show t_are_unknowns K _ [some (.ref d), some v, some (.int m), none] H
  unfold t_are_unknowns
  walk_at "aw"
  refine ⟨v, 1, m, rfl, _, hD, ?_⟩
  walk_at "aw"
  by_cases hl : lenIn D 1 m = true
  case neg =>
    rw [Bool.not_eq_true] at hl
    refine iteT'' (by rw [hl]; rfl) ?_
    walk_at "aw"
    have q1 := q H (.refl _ _)
    rw [unkB_no hl] at q1
    exact q1
  obtain ⟨ds, rfl⟩ := unk_tup hl
  obtain ⟨t, xs, rfl, et, hxs⟩ := hD.tup_inv
  have hxl := hxs.length
  have q0 := fun H' a' => q H' a'
  unfold unkB at q0
  simp only [] at q0
  rw [← lenIn_tup (f := 1), hl, Bool.true_and] at q0
  refine iteF'' (by rw [hl]; rfl) ?_
  rw [lenIn_tup, Bool.and_eq_true, decide_eq_true_iff, decide_eq_true_iff] at hl
  walk_at "aw"
  refine ⟨t, rfl, ⟨_, SqT.of et⟩, kLc_pure (walk_tup (xs := xs)) (by omega) (fun H' g => SqT.of (g.tup _ _ et)) (fun _ => true) (fun i => .bl (nameIn (doms.map (·.1)) (ds.getD i .none))) (fun i x H2 H3 Kt Kf hi g2 y kt kf => ?_) fun l H1 nl g1 el => ?_⟩
  · obtain ⟨rfl, y1⟩ := y
    obtain ⟨dt, z1, hdt⟩ := hxs.get y1
    rw [getD_of z1] at kt
    walk_at "aw"
    refine ⟨rfl, ?_⟩
    walk_at "aw"
    exact ⟨d, x, rfl, doms, dt, hd.up g2, hdt.up g2.tup, kt rfl _ (.refl _ _)⟩
  rw [bls_map fun i => nameIn (doms.map (·.1)) (ds.getD i .none), hxl] at el
  walk_at "aw"
  refine ⟨l, _, rfl, SqL.of el, ?_⟩
  rw [all_range]
  have q1 := q0 H1 g1
  walk_at "aw"
  by_cases ha : ds.all (nameIn (doms.map (·.1))) = true
  · refine iteF'' (by rw [ha]; rfl) ?_
    rw [ha, Bool.true_and] at q1
    walk_at "aw"
    have e1 := g1.tup _ _ et
    rw [names_txt hxs ha] at e1
    refine ⟨.ref t, rfl, t, ds.map txtD, rfl, SqT.of e1, by rw [List.length_map]; omega, fun c hc => ?_⟩
    walk_at "aw"
    refine w_lenT (SqT.of e1) ?_
    walk_at "aw"
    have e2 : decide (V.int (c : Nat) = V.int (((ds.map txtD).map V.str).length : Nat)) = decide (ds.map txtD).Nodup := by
      rw [List.length_map, Bool.eq_iff_iff, decide_eq_true_iff, decide_eq_true_iff, ← hc]
      constructor
      · intro h
        have := V.int.inj h
        omega
      · intro h
        rw [h]
    rw [e2]
    exact q1
  · rw [Bool.not_eq_true] at ha
    refine iteT'' (by rw [ha]; rfl) ?_
    rw [ha, Bool.false_and] at q1
    walk_at "aw"
    exact q1
theorem len_ascends {K : PySem.W.Frag} : ∀ (vs : List V) (H : Hp) (Q : VK) (E : XK), sp_ascends K vs H Q E → vs.length = 1 := fun vs H Q E h => by
  obtain ⟨_, rfl, _⟩ := h
  rfl
theorem pure_ascends {K : PySem.W.Frag} (vs : List V) (H : Hp) (Q : VK) (E : XK) (h : sp_ascends K vs H Q E) : t_ascends K { nx := fun _ H' => Q .non H', rt := Q } (start ["items", "k"] vs) H := by
  obtain ⟨l, rfl, us, rs, e, hus, hl, q⟩ := h
  have hul := hus.length
  show t_ascends K _ [some (.ref l), none] H
  unfold t_ascends
  walk_at "aw"
  refine w_lenL (SqL.of e) ?_
  walk_at "aw"
  refine kLcR_sub (n := rs.length - 1) (z := ((us.length : Nat) : Int) - 1) (by omega) (by omega) (fun _ => true) (fun i => .bl (HT.lexLt (rs.getD i []) (rs.getD (i + 1) []))) (fun i H3 Kt Kf hi g2 kt kf => ?_) fun l2 H1 nl g1 el => ?_
  · have e3 := g2.keep _ _ (fun z => nomatch z) e
    obtain ⟨r1, hr1⟩ := get_some (xs := rs) (i := i) (by omega)
    obtain ⟨u1, hu1⟩ := get_some (xs := us) (i := i) (by omega)
    obtain ⟨p1, rfl, ep1⟩ := paired_at hus hu1 hr1
    obtain ⟨r2, hr2⟩ := get_some (xs := rs) (i := i + 1) (by omega)
    obtain ⟨u2, hu2⟩ := get_some (xs := us) (i := i + 1) (by omega)
    obtain ⟨p2, rfl, ep2⟩ := paired_at hus hu2 hr2
    rw [getD_of hr1, getD_of hr2] at kt
    walk_at "aw"
    refine ⟨rfl, ?_⟩
    walk_at "aw"
    refine .inl (w_ixL (SqL.of e3) (at_of (j := i) (by omega) hu1) ?_)
    walk_at "aw"
    refine .inl (w_ixL (SqL.of e3) (at_of (j := i + 1) (by omega) hu2) ?_)
    exact ⟨p1, p2, r1, r2, rfl, rfl, SqT.of (g2.tup _ _ ep1), SqT.of (g2.tup _ _ ep2), kt rfl _ (.refl _ _)⟩
  · rw [bls_map fun i => HT.lexLt (rs.getD i []) (rs.getD (i + 1) [])] at el
    walk_at "aw"
    exact ⟨l2, _, rfl, SqL.of el, q H1 g1⟩
theorem len__many_tuples {K : PySem.W.Frag} : ∀ (vs : List V) (H : Hp) (Q : VK) (E : XK), sp__many_tuples K vs H Q E → vs.length = 1 := fun vs H Q E h => by
  obtain ⟨_, rfl, _⟩ := h
  rfl
theorem manyR_take {cols : List (List Int)} {i : Nat} {c : List Int} (h : cols[i]? = some c) : manyR (cols.take (i + 1)) = manyR (cols.take i) * c.length := by
  unfold manyR
  rw [List.take_add_one, h, List.map_append, List.foldl_append]
  rfl
theorem pure__many_tuples {K : PySem.W.Frag} (vs : List V) (H : Hp) (Q : VK) (E : XK) (h : sp__many_tuples K vs H Q E) : t__many_tuples K { nx := fun _ H' => Q .non H', rt := Q } (start ["columns", "many", "column"] vs) H := by
  obtain ⟨l, rfl, us, cols, e, hus, h3, h12, q⟩ := h
  have hul := hus.length
  show t__many_tuples K _ [some (.ref l), none, none] H
  unfold t__many_tuples
  walk_at "aw"
  refine kForL_i (fun i σ' H' => ∃ (y2 : Option V), σ' = [some (.ref l), some (.int (manyR (cols.take i) : Nat)), y2] ∧ H' = H) (SqL.of e) ⟨_, rfl, rfl⟩ (fun i σ' H' _ pp => by obtain ⟨_, _, rfl⟩ := pp; exact SqL.of e) (fun i u σ' H' hu pp => ?_) fun σ' H' pp => ?_
  · obtain ⟨y2, rfl, rfl⟩ := pp
    have hil := (List.getElem?_eq_some_iff.mp hu).1
    obtain ⟨c, hc⟩ := get_some (xs := cols) (i := i) (by omega)
    obtain ⟨p, rfl, ep⟩ := paired_at hus hu hc
    have hcl := h12 _ (List.mem_of_getElem? hc)
    walk_at "aw"
    refine w_lenT (SqT.of ep) ?_
    rw [List.length_map]
    walk_at "aw"
    refine w_I (.inr ⟨by omega, by omega⟩) ?_
    walk_at "aw"
    refine ⟨some (.ref p), ?_, rfl⟩
    rw [manyR_take hc, Int.natCast_mul]
    rfl
  · obtain ⟨y2, rfl, rfl⟩ := pp
    rw [hul, List.take_length]
    walk_at "aw"
    exact q
theorem row_no {cols : List (List Int)} {D : PyData} (h : lenIn D (cols.length : Nat) (cols.length : Nat) = false) : rowB cols D = false := by
  unfold rowB
  split
  · rename_i ds
    have hl : ds.length ≠ cols.length := fun z => by simp [lenIn, z] at h
    rw [decide_eq_false hl, Bool.false_and]
  · rfl
theorem lenIn_eq {D : PyData} {n : Nat} (h : lenIn D (n : Nat) (n : Nat) = true) : ∃ ds, D = .tuple ds ∧ ds.length = n := by
  obtain ⟨ds, rfl⟩ := unk_tup h
  rw [lenIn_tup, Bool.and_eq_true, decide_eq_true_iff, decide_eq_true_iff] at h
  exact ⟨ds, rfl, by omega⟩
theorem len__is_row {K : PySem.W.Frag} : ∀ (vs : List V) (H : Hp) (Q : VK) (E : XK), sp__is_row K vs H Q E → vs.length = 2 := fun vs H Q E h => by
  obtain ⟨_, _, rfl, _⟩ := h
  rfl
theorem pure__is_row {K : PySem.W.Frag} (vs : List V) (H : Hp) (Q : VK) (E : XK) (h : sp__is_row K vs H Q E) : t__is_row K { nx := fun _ H' => Q .non H', rt := Q } (start ["columns", "value", "v", "column"] vs) H := by
  obtain ⟨l, v, rfl, us, cols, D, e, hus, hc, hD, q⟩ := h
  have hul := hus.length
  show t__is_row K _ [some (.ref l), some v, none, none] H
  unfold t__is_row
  walk_at "aw"
  refine w_lenL (SqL.of e) ?_
  walk_at "aw"
  refine w_lenL (SqL.of e) ?_
  rw [hul]
  walk_at "aw"
  refine ⟨v, _, _, rfl, D, hD, ?_⟩
  walk_at "aw"
  cases hl : lenIn D (cols.length : Nat) (cols.length : Nat) with
  | false =>
    refine iteT'' rfl ?_
    walk_at "aw"
    have q1 := q H (.refl _ _)
    rw [row_no hl] at q1
    exact q1
  | true =>
  refine iteF'' rfl ?_
  walk_at "aw"
  obtain ⟨ds, rfl, hds⟩ := lenIn_eq hl
  obtain ⟨t, xs, rfl, et, hxs⟩ := hD.tup_inv
  have hxl := hxs.length
  refine w_lcM ?_
  walk_at "aw"
  refine ⟨t, l, xs, us, rfl, SqT.of et, SqL.of e, kLc_pure (walk_zipM (xs := xs) (ys := us) (by omega)) (by omega) (fun H' g => ⟨SqT.of (g.tup _ _ et), SqL.of (g.keep _ _ (fun z => nomatch z) e)⟩) (fun _ => true) (fun i => .bl (cellB (ds.getD i .none) (cols.getD i []))) (fun i x H2 H3 Kt Kf hi g2 y kt kf => ?_) fun l2 H1 nl g1 el => ?_⟩
  · obtain ⟨T, u, z, rfl, nT, rfl, hu, hz⟩ := y
    dsimp only at hu hz
    obtain ⟨dt, hdt, hud⟩ := hxs.get hu
    obtain ⟨col, hcol⟩ := get_some (xs := cols) (i := i) (by omega)
    obtain ⟨pc, rfl, epc⟩ := paired_at hus hz hcol
    rw [getD_of hdt, getD_of hcol] at kt
    have aT : Adv [] H2 (upd H2 T (.tup [u, .ref pc])) := Adv.new nT
    refine w_gtup (SqT.of upd_same) rfl ?_
    walk_at "aw"
    refine ⟨rfl, ?_⟩
    walk_at "aw"
    refine w_typ (hud.up (g2.trans aT).tup) ?_
    walk_at "aw"
    refine w_isTy ?_
    walk_at "aw"
    cases hud with
    | int n =>
      refine iteT'' rfl ?_
      walk_at "aw"
      refine w_inI ((g2.trans aT).tup _ _ epc) ?_
      exact kt rfl _ aT
    | tup e1 t1 =>
      refine iteF'' (by simp [tyD]) ?_
      have := kt rfl _ aT
      simpa [tyD, cellB] using this
    | non => exact iteF'' (by simp [tyD]) (by simpa [tyD, cellB] using kt rfl _ aT)
    | bl b => exact iteF'' (by simp [tyD]) (by simpa [tyD, cellB] using kt rfl _ aT)
    | str x => exact iteF'' (by simp [tyD]) (by simpa [tyD, cellB] using kt rfl _ aT)
  rw [bls_map fun i => cellB (ds.getD i .none) (cols.getD i []), hxl, hds] at el
  walk_at "aw"
  refine ⟨l2, _, rfl, SqL.of el, ?_⟩
  have q1 := q H1 g1
  rw [show rowB cols (.tuple ds) = ((List.range cols.length).map fun i => cellB (ds.getD i .none) (cols.getD i [])).all id by simp only [rowB, decide_eq_true hds, Bool.true_and]] at q1
  exact q1
end AW
namespace AW
open PySem PySem.Spec PyProof.Rows L2 RZ
open StX
local macro_rules | `(tactic| walk_at "aw1") => `(tactic| first
  | (with_reducible refine w_seq ?_) | (with_reducible refine w_asg ?_) | (with_reducible refine w_gname ?_) | (with_reducible refine w_op ?_) | (with_reducible refine w_un ?_)
  | ((with_reducible refine' w_var ?h ?_); (case h => rfl)) | (with_reducible refine w_c ?_)
  | (with_reducible refine w_I0 ?_) | (with_reducible refine w_U ?_) | (with_reducible refine w_cb ?_) | (with_reducible refine w_nil ?_) | (with_reducible refine w_cons ?_) | (with_reducible refine w_call ?_)
  | (with_reducible refine w_test ?_) | (with_reducible refine w_B ?_) | (with_reducible refine w_bl ?_) | (with_reducible refine w_not ?_) | (with_reducible refine w_yes ?_) | (with_reducible refine iteT ?_) | (with_reducible refine iteF ?_) | (with_reducible refine w_and ?_) | (with_reducible refine w_or ?_)
  | (with_reducible refine w_andV ?_) | (with_reducible refine w_orV ?_) | (with_reducible refine w_notV ?_) | (with_reducible refine w_if ?_)
  | (with_reducible refine w_int1 ?_) | (with_reducible refine w_int1b ?_) | (with_reducible refine w_abs ?_) | (with_reducible refine w_max2 ?_) | (with_reducible refine w_min2 ?_)
  | ((with_reducible refine w_eq ?h ?_); (case h => rfl)) | ((with_reducible refine w_ne ?h ?_); (case h => rfl)) | (with_reducible refine w_isN ?_) | (with_reducible refine w_isB ?_) | (with_reducible refine w_chain ?_)
  | (with_reducible refine w_ret ?_) | (with_reducible refine w_drop ?_) | (with_reducible refine w_ifS ?_) | (with_reducible refine w_gsub ?_) | (with_reducible refine w_augS ?_) | (with_reducible refine w_ipI ?_) | (with_reducible refine w_next ?_)
  | (with_reducible refine w_forR ?_) | (with_reducible refine w_forR2 ?_) | (with_reducible refine w_forL ?_) | (with_reducible refine w_forT ?_) | (with_reducible refine w_lcR ?_) | (with_reducible refine w_lcL ?_) | (with_reducible refine w_lcT ?_) | (with_reducible refine w_sl ?_) | (with_reducible refine w_part ?_) | (with_reducible refine w_noPart ?_) | (with_reducible refine w_in ?_)
  | (with_reducible refine w_gcons ?_) | (with_reducible refine w_gnil ?_) | (with_reducible refine w_lc3 ?_) | (with_reducible refine w_dcZ ?_) | (with_reducible refine w_dcT ?_) | (with_reducible refine w_dg ?_) | (with_reducible refine w_callK ?_) | (with_reducible refine w_dput ?_) | (with_reducible refine w_tup1 ?_)
  | (with_reducible refine w_tup ?_) | (with_reducible refine w_lst ?_)
  | ((with_reducible refine w_I ?h ?_); (case h => first | (exact Or.inr ⟨by decide, by decide⟩) | (exact Or.inl ⟨by decide, by decide⟩) | (show (0 : Int) < _; decide) | (exact ⟨by decide, by decide, by decide⟩) | assumption)))
local macro_rules | `(tactic| walk_at "aw") => `(tactic| repeat (walk_at "aw1"))
theorem six_last (n : Nat) : HT.sIx n n (some (-1)) = n - 1 := by
  unfold HT.sIx
  simp only []
  rw [if_pos (by decide)]
  omega
theorem cut_last (xs : List V) : cutV xs none (some (-1)) = xs.dropLast := by
  unfold cutV
  rw [HT.sIx_none, List.drop_zero, Nat.sub_zero, List.dropLast_eq_take, six_last]
def t__is_item (K : PySem.W.Frag) : TS := (tSeq (tIfS (tOr (tNot (tB (tCall (sp_is_tuple K) [] E0 (tCons (tVar 2) (tCons (tC (.int 2)) (tCons (tC (.int 2)) tNil)))))) (tNot (tB (tCall (sp_are_unknowns K) [] E0 (tCons (tVar 0) (tCons (tOp (rIxT K) (tVar 2) (tC (.int 0))) (tCons (tC v_MOST_SEEN) tNil))))))) (tRet (tC (.bl false))) tNext)
  (tSeq (tAsg (tVar 2) (gTup K 2 (gCons (gName 3) (gCons (gName 4) gNil))))
  (tSeq (tAsg (tOp rCat (tLc (iTup K (tVar 3)) (gName 6) tYes (tDGet (tVar 0) (tVar 6)) [6]) (tLst (tCons (tVar 1) tNil))) (gName 5))
  (tSeq (tIfS (tOr (tNot (tB (tCall (sp_is_tuple K) [] E0 (tCons (tVar 4) (tCons (tC (.int 1)) (tCons (tC v_MOST_VIEW_ROWS) tNil)))))) (tNot (tB (tCB (rAll K) (tCons (tLc (iTup K (tVar 4)) (gName 7) tYes (tCall (sp__is_row K) [] E0 (tCons (tVar 5) (tCons (tVar 7) tNil))) [7]) tNil))))) (tRet (tC (.bl false))) tNext)
  (tSeq (tAsg (tLc (iTup K (tVar 4)) (gName 7) tYes (tSl (rSlA K) (tVar 7) tNoPart (tPart (tUn rNeg (tC (.int 1))))) [7]) (gName 8))
  (tRet (tAndV (tCall (sp_ascends K) [] E0 (tCons (tVar 8) tNil)) (tOp rEq (tCB (rLen1 K) (tCons (tVar 8) tNil)) (tCall (sp__many_tuples K) [] E0 (tCons (tSl (rSlL K) (tVar 5) tNoPart (tPart (tUn rNeg (tC (.int 1))))) tNil))))))))))
theorem itm_no {doms : List (Str × List Int)} {dom : List Int} {D : PyData} (h : lenIn D 2 2 = false) : itmB doms dom D = false := by
  unfold itmB
  split
  · exact absurd h (by simp [lenIn])
  · rfl
theorem itm_two {D : PyData} (p : lenIn D 2 2 = true) : ∃ a b, D = .tuple [a, b] := by
  obtain ⟨ds, rfl, h⟩ := lenIn_eq (n := 2) p
  match ds, h with
  | [a, b], _ => exact ⟨a, b, rfl⟩
theorem rows_no {cols : List (List Int)} {dom : List Int} {R : PyData} (h : lenIn R 1 256 = false) : rowsB cols dom R = false := by
  unfold rowsB
  split
  · rw [lenIn_tup] at h
    rw [h, Bool.false_and, Bool.false_and]
  · rfl
theorem row_ints {H : Hp} {cols : List (List Int)} {D : PyData} {v : V} (h : Is H D v) (p : rowB cols D = true) : ∃ a, v = .ref a ∧ H a = some (.tup ((rowI D).map V.int)) := by
  unfold rowB at p
  split at p
  · rename_i ds
    rw [Bool.and_eq_true, decide_eq_true_iff, List.all_map, List.all_eq_true] at p
    obtain ⟨hl, hp⟩ := p
    obtain ⟨a, xs, rfl, e, t⟩ := h.tup_inv
    refine ⟨a, rfl, ?_⟩
    rw [e]
    congr 2
    have hxl := t.length
    apply List.ext_getElem (by simp [rowI, hxl])
    intro i h1 h2
    obtain ⟨dt, hdt, hud⟩ := t.get (List.getElem?_eq_getElem h1)
    have h3 := hp i (List.mem_range.mpr (by omega))
    have h3 : cellB (ds.getD i .none) (cols.getD i []) = true := h3
    rw [getD_of hdt] at h3
    have hdi := (List.getElem?_eq_some_iff.mp hdt)
    obtain ⟨hi, hdi⟩ := hdi
    generalize xs[i] = u at hud ⊢
    cases hud with
    | int n => simp [rowI, hdi]
    | tup e1 t1 => exact absurd h3 (by simp [cellB])
    | non => exact absurd h3 (by simp [cellB])
    | bl b => exact absurd h3 (by simp [cellB])
    | str x => exact absurd h3 (by simp [cellB])
  · exact absurd p (by decide)
theorem len__is_item {K : PySem.W.Frag} : ∀ (vs : List V) (H : Hp) (Q : VK) (E : XK), sp__is_item K vs H Q E → vs.length = 3 := fun vs H Q E h => by
  obtain ⟨_, _, _, rfl, _⟩ := h
  rfl
theorem pure__is_item {K : PySem.W.Frag} (vs : List V) (H : Hp) (Q : VK) (E : XK) (h : sp__is_item K vs H Q E) : t__is_item K { nx := fun _ H' => Q .non H', rt := Q } (start ["domains", "domain", "value", "xs", "rows", "columns", "x", "row", "fronts"] vs) H := by
  obtain ⟨d, qd, v, rfl, doms, w, dom, D, n, hd, mok, hw, eqd, hD, hS, hn, q⟩ := h
  show t__is_item K _ [some (.ref d), some (.ref qd), some v, none, none, none, none, none, none] H
  unfold t__is_item
  walk_at "aw"
  refine ⟨v, 2, 2, rfl, D, hD, ?_⟩
  walk_at "aw"
  cases hl : lenIn D 2 2 with
  | false =>
    refine iteT'' rfl ?_
    walk_at "aw"
    have q1 := q H (.refl _ _)
    rw [itm_no hl] at q1
    exact q1
  | true =>
  obtain ⟨X, R, rfl⟩ := itm_two hl
  obtain ⟨t, xs, rfl, et, hxs⟩ := id hD.tup_inv
  match xs, hxs with
  | [ux, ur], .cons hX (.cons hR .nil) =>
  refine iteF'' rfl ?_
  walk_at "aw"
  refine w_ixT (SqT.of et) (at_nat (by decide) rfl) ?_
  walk_at "aw"
  refine ⟨d, ux, 3, rfl, doms, X, hd, hX, by decide, fun H1 g1 => ?_⟩
  walk_at "aw"
  cases hu : unkB (doms.map (·.1)) X 3 with
  | false =>
    refine iteT'' rfl ?_
    walk_at "aw"
    have q1 := q H1 g1
    rw [show itmB doms dom (.tuple [X, R]) = false by simp only [itmB, hu, Bool.false_and]] at q1
    exact q1
  | true =>
  refine iteF'' rfl ?_
  walk_at "aw"
  obtain ⟨ds, rfl⟩ : ∃ ds, X = .tuple ds := by
    unfold unkB at hu
    split at hu
    · exact ⟨_, rfl⟩
    · exact absurd hu (by decide)
  have hu' := hu
  unfold unkB at hu'
  simp only [Bool.and_eq_true, decide_eq_true_iff] at hu'
  obtain ⟨⟨⟨hd1, hd3⟩, hall⟩, hnd⟩ := hu'
  obtain ⟨tx, vs, rfl, etx, hvs⟩ := hX.tup_inv
  have hvl := hvs.length
  have etx1 := g1.tup _ _ etx
  rw [names_txt hvs hall] at etx1
  have hnm : ∀ x ∈ ds.map txtD, x ∈ doms.map (·.1) := fun x hx => by
    obtain ⟨dt, hdt, rfl⟩ := List.mem_map.mp hx
    have := List.all_eq_true.mp hall dt hdt
    unfold nameIn at this
    split at this
    · exact of_decide_eq_true this
    · exact absurd this (by decide)
  have hqd : ∀ c, rowsB (ds.map fun x => domF doms (txtD x)) dom R = c → ∀ H', Adv [] H1 H' → Q (.bl c) H' := fun c h H' g => by
    have := q H' (g1.trans g)
    rwa [show itmB doms dom (.tuple [.tuple ds, R]) = c by simp only [itmB, hu, Bool.true_and, h]] at this
  have hcols : (ds.map fun x => domF doms (txtD x)) = (ds.map txtD).map (domF doms) := by rw [List.map_map]; rfl
  rw [hcols] at hqd
  have hnl : (ds.map txtD).length ≤ 3 := by rw [List.length_map]; omega
  generalize ds.map txtD = names at *
  refine w_gtup (SqT.of (g1.tup _ _ et)) rfl ?_
  walk_at "aw"
  refine ⟨tx, rfl, ⟨_, SqT.of etx1⟩, kLc_rel (walk_tup (xs := names.map V.str)) (by rw [List.length_map]; omega) (fun H2 g2 => SqT.of (g2.tup _ _ etx1)) (fun i u H2 => ∃ x, names[i]? = some x ∧ TupAt H2 u (domF doms x)) (fun i u H2 H3 kk hh => by
    obtain ⟨x, h1, h2⟩ := hh
    exact ⟨x, h1, h2.up kk⟩) (fun i u H2 H3 Kt hi g2 yy kt => ?_) fun cl H2 ys ncl g2 ecl hyl hyr => ?_⟩
  · obtain ⟨rfl, hux⟩ := yy
    rw [List.getElem?_map] at hux
    obtain ⟨x, hx, rfl⟩ := Option.map_eq_some_iff.mp hux
    obtain ⟨kd, qx, ekd, hvx, eqx⟩ := (hd.up (g1.trans g2)).get mok.nd (hnm x (List.mem_of_getElem? hx))
    walk_at "aw"
    refine ⟨rfl, ?_⟩
    walk_at "aw"
    refine kDGet_i (k := .inr x) ekd hvx ?_
    exact kt _ _ (.refl _ _) ⟨x, hx, qx, rfl, eqx⟩
  walk_at "aw"
  refine w_lstD (by simp) fun dl H3 ndl g3 edl => ?_
  refine w_catB (g3.keep _ _ (fun z => nomatch z) ecl) edl (by rw [hyl]; simp; omega) fun col H4 ncol g4 ecol => ?_
  have g14 := g2.trans (g3.trans g4)
  have g04 := g1.trans g14
  have hcolT : TupsAt H4 (ys ++ [.ref qd]) (names.map (domF doms) ++ [dom]) := by
    refine paired_app (paired_ix (by rw [hyl, List.length_map, List.length_map]) fun i u r hu hr => ?_) (.cons ⟨qd, rfl, g04.tup _ _ eqd⟩ .nil)
    obtain ⟨x, h1, h2⟩ := hyr i u hu
    rw [List.getElem?_map, h1] at hr
    cases hr
    exact h2.up (g3.trans g4).tup
  have hyn : ys.length = names.length := by rw [hyl, List.length_map]
  walk_at "aw"
  refine ⟨ur, 1, 256, rfl, R, hR.up g04.tup, ?_⟩
  walk_at "aw"
  cases hr : lenIn R 1 256 with
  | false =>
    refine iteT'' rfl ?_
    walk_at "aw"
    exact hqd false (rows_no hr) H4 g14
  | true =>
  refine iteF'' rfl ?_
  walk_at "aw"
  obtain ⟨rs, rfl⟩ := unk_tup hr
  have hr' := hr
  rw [lenIn_tup, Bool.and_eq_true, decide_eq_true_iff, decide_eq_true_iff] at hr'
  obtain ⟨tr, ws, rfl, etr, hws⟩ := hR.tup_inv
  have hwl := hws.length
  have etr4 := g04.tup _ _ etr
  have hws4 := hws.up g04.tup
  refine ⟨tr, rfl, ⟨_, SqT.of etr4⟩, kLc_pure (walk_tup (xs := ws)) (by omega) (fun H' g => SqT.of (g.tup _ _ etr4)) (fun _ => true) (fun i => .bl (rowB (names.map (domF doms) ++ [dom]) (rs.getD i .none))) (fun i x H5 H6 Kt Kf hi g5 y kt kf => ?_) fun l5 H5 nl5 g5 el5 => ?_⟩
  · obtain ⟨rfl, y1⟩ := y
    obtain ⟨dt, z1, hdt⟩ := hws4.get y1
    rw [getD_of z1] at kt
    walk_at "aw"
    refine ⟨rfl, ?_⟩
    walk_at "aw"
    refine ⟨col, x, rfl, _, _, dt, g5.keep _ _ (fun z => nomatch z) ecol, TupsAt.up hcolT g5.tup, by rw [List.length_append, List.length_map]; show names.length + 1 ≤ 100; omega, hdt.up g5.tup, fun H7 g7 => ?_⟩
    exact kt rfl H7 g7
  rw [bls_map fun i => rowB (names.map (domF doms) ++ [dom]) (rs.getD i .none), hwl] at el5
  walk_at "aw"
  refine ⟨l5, _, rfl, SqL.of el5, ?_⟩
  rw [all_range]
  walk_at "aw"
  have hlen : (decide (1 ≤ (rs.length : Int)) && decide ((rs.length : Int) ≤ 256)) = true := hr
  cases hra : rs.all (rowB (names.map (domF doms) ++ [dom])) with
  | false =>
    refine iteT'' rfl ?_
    walk_at "aw"
    exact hqd false (by simp only [rowsB, hlen, hra, Bool.and_false, Bool.false_and]) H5 (g14.trans g5)
  | true =>
  refine iteF'' rfl ?_
  walk_at "aw"
  have hqd : ∀ c, (ascR (rs.map fun r => (rowI r).dropLast) && decide (rs.length = manyR (names.map (domF doms)))) = c → ∀ H', Adv [] H5 H' → Q (.bl c) H' := fun c h H' g => hqd c (by simp only [rowsB, hlen, hra, Bool.true_and, h]) H' (g14.trans (g5.trans g))
  have etr5 := g5.tup _ _ etr4
  have hws5 := hws4.up g5.tup
  refine ⟨tr, rfl, ⟨_, SqT.of etr5⟩, kLc_rel (walk_tup (xs := ws)) (by omega) (fun H' g => SqT.of (g.tup _ _ etr5)) (fun i u H6 => ∃ r, rs[i]? = some r ∧ TupAt H6 u (rowI r).dropLast) (fun i u H6 H7 kk hh => by
    obtain ⟨x, h1, h2⟩ := hh
    exact ⟨x, h1, h2.up kk⟩) (fun i u H6 H7 Kt hi g6 yy kt => ?_) fun fl H6 zs nfl g6 efl hzl hzr => ?_⟩
  · obtain ⟨rfl, y1⟩ := yy
    obtain ⟨dt, z1, hdt⟩ := hws5.get y1
    obtain ⟨p, rfl, ep⟩ := row_ints (hdt.up g6.tup) (List.all_eq_true.mp hra _ (List.mem_of_getElem? z1))
    walk_at "aw"
    refine ⟨rfl, ?_⟩
    walk_at "aw"
    refine w_slA ep fun t8 H8 a8 et8 => ?_
    rw [cut_last, ← List.map_dropLast] at et8
    exact kt _ _ a8 ⟨dt, z1, t8, rfl, et8⟩
  have hfr : TupsAt H6 zs (rs.map fun r => (rowI r).dropLast) := paired_ix (by rw [hzl, List.length_map]; exact hwl) fun i u r hu hr => by
    obtain ⟨x, h1, h2⟩ := hzr i u hu
    rw [List.getElem?_map, h1] at hr
    cases hr
    exact h2
  walk_at "aw"
  refine ⟨fl, rfl, zs, _, efl, hfr, by rw [List.length_map]; omega, fun H7 g7 => ?_⟩
  walk_at "aw"
  cases hasc : ascR (rs.map fun r => (rowI r).dropLast) with
  | false =>
    refine iteF'' rfl ?_
    exact hqd false (by rw [hasc, Bool.false_and]) H7 (g6.trans g7)
  | true =>
  refine iteT'' rfl ?_
  walk_at "aw"
  refine w_lenL (SqL.of (g7.keep _ _ (fun z => nomatch z) efl)) ?_
  walk_at "aw"
  have g47 := g5.trans (g6.trans g7)
  refine w_slL (SqL.of (g47.keep _ _ (fun z => nomatch z) ecol)) fun cl2 H8 ncl2 g8 ecl2 => ?_
  rw [cut_last, List.dropLast_concat] at ecl2
  walk_at "aw"
  refine ⟨cl2, rfl, ys, names.map (domF doms), ecl2, ?_, by rw [List.length_map]; exact hnl, fun c hc => ?_, ?_⟩
  · exact paired_ix (by rw [hyn, List.length_map]) fun i u r hu hr => by
      obtain ⟨x, h1, h2⟩ := hyr i u hu
      rw [List.getElem?_map, h1] at hr
      cases hr
      exact h2.up ((g3.trans g4).trans (g47.trans g8)).tup
  · obtain ⟨x, hx, rfl⟩ := List.mem_map.mp hc
    have : (domF doms x).length ≤ w := (mok.dm _ (domF_mem mok.nd (hnm x hx))).l2
    show (domF doms x).length ≤ 12
    omega
  · walk_at "aw"
    have e2 : decide (V.int (zs.length : Nat) = V.int (manyR (names.map (domF doms)) : Nat)) = decide (rs.length = manyR (names.map (domF doms))) := by
      rw [Bool.eq_iff_iff, decide_eq_true_iff, decide_eq_true_iff]
      constructor
      · intro h
        have := V.int.inj h
        omega
      · intro h
        rw [hzl, hwl, h]
    rw [e2]
    exact hqd _ (by rw [hasc, Bool.true_and]) H8 (g6.trans (g7.trans g8))
end AW
namespace AW
open PySem PySem.Spec PyProof.Rows L2 RZ
open StX
local macro_rules | `(tactic| walk_at "aw1") => `(tactic| first
  | (with_reducible refine w_seq ?_) | (with_reducible refine w_asg ?_) | (with_reducible refine w_gname ?_) | (with_reducible refine w_op ?_) | (with_reducible refine w_un ?_)
  | ((with_reducible refine' w_var ?h ?_); (case h => rfl)) | (with_reducible refine w_c ?_)
  | (with_reducible refine w_I0 ?_) | (with_reducible refine w_U ?_) | (with_reducible refine w_cb ?_) | (with_reducible refine w_nil ?_) | (with_reducible refine w_cons ?_) | (with_reducible refine w_call ?_)
  | (with_reducible refine w_test ?_) | (with_reducible refine w_B ?_) | (with_reducible refine w_bl ?_) | (with_reducible refine w_not ?_) | (with_reducible refine w_yes ?_) | (with_reducible refine iteT ?_) | (with_reducible refine iteF ?_) | (with_reducible refine w_and ?_) | (with_reducible refine w_or ?_)
  | (with_reducible refine w_andV ?_) | (with_reducible refine w_orV ?_) | (with_reducible refine w_notV ?_) | (with_reducible refine w_if ?_)
  | (with_reducible refine w_int1 ?_) | (with_reducible refine w_int1b ?_) | (with_reducible refine w_abs ?_) | (with_reducible refine w_max2 ?_) | (with_reducible refine w_min2 ?_)
  | ((with_reducible refine w_eq ?h ?_); (case h => rfl)) | ((with_reducible refine w_ne ?h ?_); (case h => rfl)) | (with_reducible refine w_isN ?_) | (with_reducible refine w_isB ?_) | (with_reducible refine w_chain ?_)
  | (with_reducible refine w_ret ?_) | (with_reducible refine w_drop ?_) | (with_reducible refine w_ifS ?_) | (with_reducible refine w_gsub ?_) | (with_reducible refine w_augS ?_) | (with_reducible refine w_ipI ?_) | (with_reducible refine w_next ?_)
  | (with_reducible refine w_forR ?_) | (with_reducible refine w_forR2 ?_) | (with_reducible refine w_forL ?_) | (with_reducible refine w_forT ?_) | (with_reducible refine w_lcR ?_) | (with_reducible refine w_lcL ?_) | (with_reducible refine w_lcT ?_) | (with_reducible refine w_sl ?_) | (with_reducible refine w_part ?_) | (with_reducible refine w_noPart ?_) | (with_reducible refine w_in ?_)
  | (with_reducible refine w_gcons ?_) | (with_reducible refine w_gnil ?_) | (with_reducible refine w_lc3 ?_) | (with_reducible refine w_dcZ ?_) | (with_reducible refine w_dcT ?_) | (with_reducible refine w_dg ?_) | (with_reducible refine w_callK ?_) | (with_reducible refine w_dput ?_) | (with_reducible refine w_tup1 ?_)
  | (with_reducible refine w_tup ?_) | (with_reducible refine w_lst ?_)
  | ((with_reducible refine w_I ?h ?_); (case h => first | (exact Or.inr ⟨by decide, by decide⟩) | (exact Or.inl ⟨by decide, by decide⟩) | (show (0 : Int) < _; decide) | (exact ⟨by decide, by decide, by decide⟩) | assumption)))
local macro_rules | `(tactic| walk_at "aw") => `(tactic| repeat (walk_at "aw1"))
theorem val_none {kvs : List (Key × V)} {k : Key} (h : k ∉ kvs.map (·.1)) : valV kvs k = none := by
  unfold valV
  rw [List.find?_eq_none.mpr fun x hx => ?_]
  · rfl
  · intro z
    have z2 : x.1 = k := by simpa using z
    exact h (z2 ▸ List.mem_map_of_mem hx)
theorem dictOf_nd {key : Nat → Key} {val : Nat → V} : ∀ n, (∀ a b, a < n → b < n → key a = key b → a = b) → dictOf key val n = (List.range n).map fun i => (key i, val i)
  | 0, _ => rfl
  | i + 1, h => by
    show putK (dictOf key val i) (key i) (val i) = _
    rw [dictOf_nd i fun a b ha hb => h a b (by omega) (by omega), putK_new _ (val_none fun z => ?_), List.range_succ, List.map_append]
    · rfl
    · rw [List.map_map] at z
      obtain ⟨j, hj, e⟩ := List.mem_map.mp z
      have hj' := List.mem_range.mp hj
      have := h j i (by omega) (by omega) e
      omega
theorem unk_kvs {H : Hp} {us : List V} {doms : List (Str × List Int)} (h : UnkAt H us doms) : ∃ kvs : List (Key × V), us.length = kvs.length ∧ (∀ (i : Nat) u, us[i]? = some u → ∃ p kv, u = .ref p ∧ kvs[i]? = some kv ∧ H p = some (.tup [kV kv.1, kv.2])) ∧ Paired (DomAt H) doms kvs := by
  obtain ⟨hl, hr⟩ := h
  induction us generalizing doms with
  | nil =>
    cases doms with
    | nil => exact ⟨[], rfl, fun i u e => by simp at e, .nil⟩
    | cons d doms => simp at hl
  | cons u us ih =>
    cases doms with
    | nil => simp at hl
    | cons d doms =>
      obtain ⟨kvs, h1, h2, h3⟩ := ih (doms := doms) (by simpa using hl) fun i v e => by
        obtain ⟨p, q, d', e1, e2, e3, e4⟩ := hr (i + 1) v (by simpa using e)
        exact ⟨p, q, d', e1, by simpa using e2, e3, e4⟩
      obtain ⟨p, q, d', e1, e2, e3, e4⟩ := hr 0 u rfl
      cases e2
      refine ⟨(.inr d.1, .ref q) :: kvs, by rw [List.length_cons, List.length_cons, h1], fun i v e => ?_, .cons ⟨rfl, q, rfl, e4⟩ h3⟩
      cases i with
      | zero =>
        cases e
        exact ⟨p, (.inr d.1, .ref q), e1, rfl, e3⟩
      | succ i =>
        obtain ⟨p', kv', e5, e6, e7⟩ := h2 i v (by simpa using e)
        exact ⟨p', kv', e5, by simpa using e6, e7⟩
theorem dom_keys {H : Hp} : ∀ {doms : List (Str × List Int)} {kvs : List (Key × V)}, Paired (DomAt H) doms kvs → kvs.map (·.1) = (doms.map (·.1)).map Sum.inr
  | _, _, .nil => rfl
  | _, _, .cons h t => by rw [List.map_cons, List.map_cons, List.map_cons, dom_keys t, h.1]
/-- the __init__ of an exception that keeps one number -/
def spInitV (K : PySem.W.Frag) : Sp := fun vs H Q _ => ∃ (a C : Addr) (n : Int), vs = [.ref a, .int n] ∧ -1 ≤ n ∧ n ≤ 100000 ∧ OexC K C ∧ PySem.W.findIn K (.ref C) "number" = some none ∧ H a = some (exo a C none) ∧ ∀ dx, H dx = none → dx ≠ a → Q .non (upd (upd H dx (exd dx [("number", .int n)])) a (exo a C (some dx)))
structure ExV (K : PySem.W.Frag) (C : Addr) : Prop where
  o : OexC K C
  n : PySem.W.findIn K (.ref C) "number" = some none
theorem w_raiseV {K : PySem.W.Frag} {C : Addr} {H : Hp} {n : Int} {E : XK} (T : ExV K C) (h1 : -1 ≤ n) (h2 : n ≤ 100000) (q : ∀ dd H', Adv [] H H' → H' dd = some (.xd [("number", .int n)]) → E (.ref C) (some dd) H') : [V.int n].length ≤ 1000 ∧ ∀ a, H a = none → spInitV K (.ref a :: ([V.int n] ++ [])) (upd H a (exo a C none))
    (fun v H2 => v = .non ∧ ∃ (d : Addr) (fs : List (Str × V)), H2 a = some (exo a C (some d)) ∧ H2 d = some (exd d fs) ∧ H d = none ∧ E (.ref C) (some d) (upd (del H2 a) d (.xd fs))) (fun _ _ _ => False) := by
  refine ⟨by show 1 ≤ 1000; decide, fun a ha => ⟨a, C, n, rfl, h1, h2, T.o, T.n, upd_same, fun dx hdx hne => ?_⟩⟩
  rw [upd_ne hne] at hdx
  refine ⟨rfl, dx, [("number", .int n)], upd_same, by rw [upd_ne hne, upd_same], hdx, q dx _ ?_ upd_same⟩
  have same : ∀ b o, H b = some o → (upd (del (upd (upd (upd H a (exo a C none)) dx (exd dx [("number", .int n)])) a (exo a C (some dx))) a) dx (.xd [("number", .int n)])) b = some o := fun b o e => by
    have n1 : b ≠ dx := fun z => by rw [z, hdx] at e; exact nomatch e
    have n2 : b ≠ a := fun z => by rw [z, ha] at e; exact nomatch e
    rw [upd_ne n1, del_ne n2, upd_ne n2, upd_ne n1, upd_ne n2]
    exact e
  exact ⟨fun b o _ e => same b o e, fun b xs e => same b _ e⟩
def sp_domains_of (_ : PySem.W.Frag) : Sp := fun vs H Q _ => ∃ m, vs = [m] ∧ ∃ doms, MdlAt H m doms ∧ (doms.map (·.1)).Nodup ∧ doms.length ≤ 24 ∧ ∀ d H', Adv [] H H' → DomD H' d doms → Q (.ref d) H'
/-- where a view is wrong first -/
def vwB (d1 d2 : List (Str × List Int)) (D : PyData) : Option Int := match D with
  | .tuple is => if is.length = d2.length then Option.map Int.ofNat ((List.range is.length).find? fun k => !itmB d1 (d2.getD k (Str.empty, [])).2 (is.getD k .none)) else some (-1)
  | _ => some (-1)
def sp_check_items (K : PySem.W.Frag) (C : Addr) : Sp := fun vs H Q E => ∃ (m1 m2 v : V), vs = [m1, m2, v] ∧ ∃ d1 d2 w D n, ExV K C ∧ MdlAt H m1 d1 ∧ MdlOk w d1 ∧ w ≤ 12 ∧ d1.length ≤ 24 ∧ MdlAt H m2 d2 ∧ d2.length ≤ 24 ∧ Is H D v ∧ Sw n D ∧ n ≤ 60 ∧
  (vwB d1 d2 D = none → ∀ H', Adv [] H H' → Q .non H') ∧ ∀ k, vwB d1 d2 D = some k → ∀ dd H', Adv [] H H' → H' dd = some (.xd [("number", .int k)]) → E (.ref C) (some dd) H'
def sp_check_view (K : PySem.W.Frag) (C : Addr) : Sp := sp_check_items K C
theorem find_first {p : Nat → Bool} {n i : Nat} (hi : i < n) (h1 : p i = true) (h2 : ∀ j, j < i → p j = false) : (List.range n).find? p = some i := by
  rw [List.find?_range_eq_some]
  exact ⟨h1, List.mem_range.mpr hi, fun j hj => by rw [h2 j hj]; rfl⟩
theorem w_mkO {C : Addr} {sp : Sp} {dvs : List V} {ta : TA} {σ : L2.St} {H : Hp} {Q : XK} (h : ta σ H fun vs H1 => vs.length ≤ 1000 ∧ ∀ a, H1 a = none → sp (.ref a :: (vs ++ dvs)) (upd H1 a (exo a C none)) (fun v H2 => v = .non ∧ ∃ (d : Addr) (fs : List (Str × V)), H2 a = some (exo a C (some d)) ∧ H2 d = some (exd d fs) ∧ H1 d = none ∧ Q (.ref C) (some d) (upd (del H2 a) d (.xd fs))) (fun _ _ _ => False)) : tMkO C sp dvs ta σ H Q := h
def kForJ (J : It) (g : TG) (tb : TS) (D : Ends) (σ : L2.St) (H : Hp) : Prop := ∃ W : Nat → Nat → L2.St → Hp → Prop, (∃ m, W 0 m σ H) ∧ ∀ i m σ H, W i m σ H →
  (J.stop i H ∧ D.nx σ H) ∨ (J.go i H ∧ ∃ N : L2.St → Hp → Prop, (∀ σ' H', N σ' H' → ∃ m', m' < m ∧ W (i + 1) m' σ' H') ∧ ∀ x H', J.yld i H x H' → g x σ H' fun σ2 H2 => tb { D with nx := N, ct := N, bk := D.nx } σ2 H2)
theorem w_forET {K : PySem.W.Frag} {ta : TA} {g : TG} {tb : TS} {D : Ends} {σ : L2.St} {H : Hp} (h : ta σ H fun vs H1 => ∃ (a : Addr) (xs : List V), vs = [.ref a] ∧ SqT K H1 a xs ∧ kForJ (IteT K a) g tb D σ H1) : tFor (iEnumT K ta) g tb D σ H := h
def t_domains_of (K : PySem.W.Frag) : TS := (tRet (tDc (iTup K (tOp (rIxT K) (tVar 0) (tC (.int 0)))) (gTup K 2 (gCons (gName 1) (gCons (gName 2) gNil))) tYes (tVar 1) (tVar 2) [1, 2]))
def t_check_items (K : PySem.W.Frag) (c_BadView : Addr) (E : XK) : TS := (tSeq (tAsg (tCB (rLen1 K) (tCons (tOp (rIxT K) (tVar 1) (tC (.int 0))) tNil)) (gName 3))
  (tSeq (tIfS (tNot (tB (tCall (sp_is_tuple K) [] E0 (tCons (tVar 2) (tCons (tVar 3) (tCons (tVar 3) tNil)))))) (fun _ σ H => tMkO c_BadView (spInitV K) [] (tCons (tUn rNeg (tC (.int 1))) tNil) σ H E) tNext)
  (tSeq (tAsg (tCall (sp_domains_of K) [] E0 (tCons (tVar 0) tNil)) (gName 4))
  (tFor (iEnumT K (tCons (tVar 2) tNil)) (gTup K 2 (gCons (gName 5) (gCons (gName 6) gNil)))
  (tIfS (tNot (tB (tCall (sp__is_item K) [] E0 (tCons (tVar 4) (tCons (tOp (rIxT K) (tOp (rIxT K) (tOp (rIxT K) (tVar 1) (tC (.int 0))) (tVar 5)) (tC (.int 1))) (tCons (tVar 6) tNil)))))) (fun _ σ H => tMkO c_BadView (spInitV K) [] (tCons (tVar 5) tNil) σ H E) tNext)))))
theorem len_domains_of {K : PySem.W.Frag} : ∀ (vs : List V) (H : Hp) (Q : VK) (E : XK), sp_domains_of K vs H Q E → vs.length = 1 := fun vs H Q E h => by
  obtain ⟨_, rfl, _⟩ := h
  rfl
theorem pure_domains_of {K : PySem.W.Frag} (vs : List V) (H : Hp) (Q : VK) (E : XK) (h : sp_domains_of K vs H Q E) : t_domains_of K { nx := fun _ H' => Q .non H', rt := Q } (start ["model", "name", "domain"] vs) H := by
  obtain ⟨m, rfl, doms, hm, hmn, hl24, q⟩ := h
  obtain ⟨ma, mb, r, us, rfl, e1, e2, hus⟩ := hm
  have hul := hus.1
  obtain ⟨kd, hk1, hk2, hk3⟩ := unk_kvs hus
  show t_domains_of K _ [some (.ref ma), none, none] H
  unfold t_domains_of
  walk_at "aw"
  refine w_ixT (SqT.of e1) (at_nat (by decide) rfl) ?_
  refine ⟨mb, rfl, ⟨_, SqT.of e2⟩, kDc_pure (walk_tup (xs := us)) (by omega) (fun H' g => SqT.of (g.tup _ _ e2)) (fun i => (kd.getD i (.inl 0, .non)).1) (fun i => (kd.getD i (.inl 0, .non)).2) (fun i x H2 H3 Kt hi g2 y kt => ?_) fun p H' np g' ep => ?_⟩
  · obtain ⟨rfl, y1⟩ := y
    obtain ⟨p, kv, rfl, hkv, epp⟩ := hk2 i x y1
    rw [getD_of hkv] at kt
    have h1 := hk3
    walk_at "aw"
    refine w_gtup (SqT.of (g2.tup _ _ epp)) rfl ?_
    walk_at "aw"
    refine ⟨rfl, ?_⟩
    walk_at "aw"
    exact kt _ (.refl _ _)
  · have hkeys := dom_keys hk3
    have hnd : (kd.map (·.1)).Nodup := by
      rw [hkeys]
      exact nodup_map_inj (fun a b z => Sum.inr.inj z) hmn
    refine q p H' g' ⟨kd, ?_, dom_up hk3 g'.tup⟩
    rw [ep, dictOf_nd _ fun a b ha hb e => ?_]
    · rw [hk1]
      congr 2
      exact range_getD kd _
    · have h1 : (kd.map (·.1))[a]? = some (kd.getD a (.inl 0, .non)).1 := by rw [List.getElem?_map, List.getElem?_eq_getElem (by omega), getD_of (List.getElem?_eq_getElem (by omega))]; rfl
      have h2 : (kd.map (·.1))[b]? = some (kd.getD b (.inl 0, .non)).1 := by rw [List.getElem?_map, List.getElem?_eq_getElem (by omega), getD_of (List.getElem?_eq_getElem (by omega))]; rfl
      exact nodup_inj hnd h1 (e ▸ h2)
theorem len_check_items {K : PySem.W.Frag} {C : Addr} : ∀ (vs : List V) (H : Hp) (Q : VK) (E : XK), sp_check_items K C vs H Q E → vs.length = 3 := fun vs H Q E h => by
  obtain ⟨_, _, _, rfl, _⟩ := h
  rfl
theorem vw_no {d1 d2 : List (Str × List Int)} {D : PyData} (h : lenIn D (d2.length : Nat) (d2.length : Nat) = false) : vwB d1 d2 D = some (-1) := by
  unfold vwB
  split
  · rename_i is
    rw [if_neg fun z => by simp [lenIn, z] at h]
  · rfl
theorem pure_check_items {K : PySem.W.Frag} {c_BadView : Addr} (vs : List V) (H : Hp) (Q : VK) (E : XK) (h : sp_check_items K c_BadView vs H Q E) : t_check_items K c_BadView E { nx := fun _ H' => Q .non H', rt := Q } (start ["one", "other", "value", "many", "domains", "number", "item"] vs) H := by
  obtain ⟨m1, m2, v, rfl, d1, d2, w, D, n, T, hm1, mok, hw, hl1, hm2, hl2, hD, hS, hn, q1, q2⟩ := h
  obtain ⟨a2, b2, r2, us2, rfl, ea2, eb2, hus2⟩ := id hm2
  have hul2 := hus2.1
  show t_check_items K c_BadView E _ [some m1, some (.ref a2), some v, none, none, none, none] H
  unfold t_check_items
  walk_at "aw"
  refine w_ixT (SqT.of ea2) (at_nat (by decide) rfl) ?_
  walk_at "aw"
  refine w_lenT (SqT.of eb2) ?_
  rw [hul2]
  walk_at "aw"
  refine ⟨v, _, _, rfl, D, hD, ?_⟩
  walk_at "aw"
  cases hl : lenIn D (d2.length : Nat) (d2.length : Nat) with
  | false =>
    refine iteT'' rfl ?_
    refine w_mkO ?_
    walk_at "aw"
    exact w_raiseV T (by decide) (by decide) fun dd H' a e => q2 _ (vw_no hl) dd H' a e
  | true =>
  refine iteF'' rfl ?_
  walk_at "aw"
  obtain ⟨is, rfl, his⟩ := lenIn_eq hl
  refine ⟨m1, rfl, d1, hm1, mok.nd, hl1, fun dd H1 g1 hd => ?_⟩
  walk_at "aw"
  obtain ⟨tv, xs, rfl, etv, hxs⟩ := hD.tup_inv
  have hxl := hxs.length
  have etv1 := g1.tup _ _ etv
  obtain ⟨k, hSw, hk⟩ : ∃ k, (∀ D ∈ is, Sw k D) ∧ k ≤ 60 := by
    cases hS with
    | tup _ h => exact ⟨_, h, by omega⟩
  have hvw : vwB d1 d2 (.tuple is) = Option.map Int.ofNat ((List.range is.length).find? fun k => !itmB d1 (d2.getD k (Str.empty, [])).2 (is.getD k .none)) := if_pos his
  with_reducible refine w_forET ?_
  walk_at "aw"
  refine ⟨tv, xs, rfl, SqT.of etv1, ?_⟩
  refine for_it (walk_enumT (xs := xs)) (fun i σ' H' => ∃ (y5 y6 : Option V), σ' = [some m1, some (.ref a2), some (.ref tv), some (.int (d2.length : Nat)), some (.ref dd), y5, y6] ∧ Adv [] H1 H' ∧ ∀ j, j < i → itmB d1 (d2.getD j (Str.empty, [])).2 (is.getD j .none) = true) ⟨none, none, rfl, .refl _ _, fun j h => absurd h (Nat.not_lt_zero _)⟩
    (fun i σ' H' _ pp => by obtain ⟨_, _, _, a, _⟩ := pp; exact SqT.of (a.tup _ _ etv1)) (fun i x σ' H' H'' hi pp yy => ?_) fun σ' H' pp => ?_
  · obtain ⟨y5, y6, rfl, a, hpre⟩ := pp
    obtain ⟨Tp, u, z, rfl, nT, rfl, hu, hz⟩ := yy
    cases hu
    dsimp only at hz
    obtain ⟨dt, hdt, hzd⟩ := hxs.get hz
    obtain ⟨dm, hdm⟩ := get_some (xs := d2) (i := i) (by omega)
    obtain ⟨uu, huu⟩ := get_some (xs := us2) (i := i) (by omega)
    obtain ⟨p, qd, d', rfl, hd', ep, eqd⟩ := hus2.2 i uu huu
    rw [hdm] at hd'
    cases hd'
    have aT : Adv [] H' (upd H' Tp (.tup [.int (i : Nat), z])) := Adv.new nT
    have g2 := g1.trans (a.trans aT)
    refine w_gtup (SqT.of upd_same) rfl ?_
    walk_at "aw"
    refine w_ixT (SqT.of (g2.tup _ _ ea2)) (at_nat (by decide) rfl) ?_
    walk_at "aw"
    refine w_ixT (SqT.of (g2.tup _ _ eb2)) (at_of (j := i) (by omega) huu) ?_
    walk_at "aw"
    refine w_ixT (SqT.of (g2.tup _ _ ep)) (at_nat (by decide) rfl) ?_
    walk_at "aw"
    refine ⟨dd, qd, z, rfl, d1, w, dm.2, dt, k, hd.up (a.trans aT), mok, hw, g2.tup _ _ eqd, hzd.up g2.tup, hSw _ (List.mem_of_getElem? hdt), hk, fun H3 a3 => ?_⟩
    walk_at "aw"
    have hit : itmB d1 (d2.getD i (Str.empty, [])).2 (is.getD i .none) = itmB d1 dm.2 dt := by rw [getD_of hdm, getD_of hdt]
    cases hb : itmB d1 dm.2 dt with
    | false =>
      refine iteT'' rfl ?_
      refine w_mkO ?_
      walk_at "aw"
      refine w_raiseV T (by omega) (by omega) fun ed H4 a4 e4 => q2 (i : Nat) ?_ ed H4 (g2.trans (a3.trans a4)) e4
      rw [hvw, find_first (i := i) (by omega) (by rw [hit, hb]; rfl) fun j hj => by rw [hpre j hj]; rfl]
      rfl
    | true =>
      refine iteF'' rfl ?_
      with_reducible refine w_next ?_
      refine ⟨_, _, rfl, a.trans (aT.trans a3), fun j hj => ?_⟩
      by_cases e : j = i
      · rw [e, hit, hb]
      · exact hpre j (by omega)
  · obtain ⟨y5, y6, rfl, a, hpre⟩ := pp
    refine q1 ?_ H' (g1.trans a)
    rw [hvw, List.find?_eq_none.mpr fun j hj => by rw [hpre j (by have := List.mem_range.mp hj; omega)]; decide]
    rfl
end AW
/-! a dict that a comprehension makes, its keys tuples -/
namespace AW
open PySem PySem.Spec PyProof.Rows L2
section
variable {X : Cx} {pins : List (Addr × Obj)} {H : Hp} {s : Shared} {σ : L2.St}
/-- one key more -/
theorem dt_set {E : Value → Shared → Prop} {D b : Addr} {kvs : List (List L2.Key × V)} {k : List L2.Key} {v : V} {r : Value} {Q : Unit → Shared → Prop} (hu : X.A.units + 1 < cLine) (iv : Inv X pins σ H s) (at_ : H D = some (.dT kvs)) (ab : H b = some (.tup (k.map kV))) (room : kvs.length < sizeLine) (rv : RelV v r)
    (fin : ∀ t, Inv X pins σ (upd H D (.dT (putK kvs k v))) t → Q () t) : wpAny (model X.prog X.w) X.A (dictSet D (.ref b) r) Q E s := by
  obtain ⟨z, hd, xs, rel, dd⟩ := dt_of iv.hok at_
  have fits : xs.length ≤ sizeLine := by rw [← Paired.length rel]; exact z
  have more : (putK kvs k v).length ≤ sizeLine := by have := length_putK kvs k v; omega
  refine wpAny_dictSet_heap (hsz := fits) (show (tupleKind (mixKind X.prog X.w)).room X.A from Nat.lt_of_succ_lt hu) (key_of iv.hok ab) dd fun h' new same => fin _ ?_
  obtain ⟨q, es, ep, found, exact_, data, ents, _, nod⟩ := new
  refine d_write iv (by rw [at_]; exact True.intro) same ⟨q, found⟩ ⟨more, hd, _, (rel.put k ab rv).keeps fun c ys ec => ?_, q, es, ep, found, exact_, data, ents, nod⟩
  rw [upd_ne (ne_of ec at_ (fun z => nomatch z))]
  exact ec
/-- what each turn asks: D is the dict that grows -/
def DtTurns (J : It) (g : TG) (tt : TT) (tk tv : TE) (vs : List Nat) (σ : L2.St) (D : Addr) (W : Nat → Nat → Hp → Prop) (Z : Hp → Prop) : Prop := ∀ i m H, W i m H →
  (J.stop i H ∧ Z H) ∨ (J.go i H ∧ ∃ Nx : Hp → Prop, (∀ H', Nx H' → ∃ m', m' < m ∧ W (i + 1) m' H') ∧ ∀ x H', J.yld i H x H' → g x (wipe σ vs) H' fun σ2 H2 => wipe σ2 vs = wipe σ vs ∧ tt σ2 H2 fun b H3 =>
    if b = true then tk σ2 H3 fun y H4 => tv σ2 H4 fun z H5 => ∃ (b : Addr) (k : List L2.Key) (kvs : List (List L2.Key × V)), y = .ref b ∧ H5 b = some (.tup (k.map kV)) ∧ H5 D = some (.dT kvs) ∧ kvs.length < sizeLine ∧ Nx (upd H5 D (.dT (putK kvs k z))) else Nx H3)
def tDcT (wi : TI) (g : TG) (tt : TT) (tk tv : TE) (vs : List Nat) : TE := fun σ H Q => wi σ H fun J H1 => ∀ D, H1 D = none → ∃ W : Nat → Nat → Hp → Prop, (∃ m, W 0 m (upd H1 D (.dT []))) ∧ DtTurns J g tt tk tv vs σ D W (Q (.ref D))
/-- the block's turns, from its start on -/
theorem dt_loop {Z : Hp → Prop} {kx vx tg iter : Expr} {ifs : List Expr} {scope : Scope} {own : List (PySem.Str × Nat)} {pos : Pos} {J : It} {g : TG} {tt : TT} {tk tv : TE} {ce : Env} {s3 s4 : Shared} {H3 : Hp} {fp : List Addr} {it D : Addr} {tn : Nat → Heap → Prop} {W : Nat → Nat → Hp → Prop} {R : Result → Shared → Prop} {m0 : Nat}
    (hu : X.A.units + 1 < cLine) (calm : X.calm = true) (tu : Turn X.prog X.w X.K tg J fp it tn) (pg : PG (X.blk s3 H3 scope ce fp) tg g) (pt : PTs (X.blk s3 H3 scope ce fp) ifs tt) (pk : PE (X.blk s3 H3 scope ce fp) kx tk) (pe : PE (X.blk s3 H3 scope ce fp) vx tv)
    (iv : Inv (X.blk s3 H3 scope ce fp) [] (wipe σ (own.map (·.2))) H3 s4) (st : tn 0 s4.heap) (nf : ∀ b ∈ fp, H3 b = none) (w0 : W 0 m0 H3) (turns : DtTurns J g tt tk tv (own.map (·.2)) σ D W Z)
    (fin : ∀ t H', Inv (X.blk s3 H3 scope ce fp) [] (wipe σ (own.map (·.2))) H' t → Z H' → R (.ok .next) t) :
    codeAny (model X.prog X.w) X.A (.compLoop (.DictComp kx vx [⟨tg, iter, ifs, 0⟩] scope pos) 0 (.ref it) (.ref D) ce) R s4 := by
  have quiet : ∀ {τ : L2.St} {G : Hp} {t : Shared}, Inv (X.blk s3 H3 scope ce fp) [] τ G t → (∀ b ∈ fp, G b = none) → ∀ b ∈ fp, FpOk (X.blk s3 H3 scope ce fp) [] G b := fun {_ G _} jv nb b hb => by
    have q := jv.ok.exf b hb
    refine ⟨nb b hb, q.1, jv.ok.exfs b hb, .inl hb, fun x c e => q.2 x c e, fun p hp => ?_⟩
    exact nomatch (show p ∈ ([] : List (Addr × Obj)) ++ [] from hp)
  refine compLoop_anyD (fun m t => ∃ i G, W i m G ∧ tn i t.heap ∧ (∀ b ∈ fp, G b = none) ∧ Inv (X.blk s3 H3 scope ce fp) [] (wipe σ (own.map (·.2))) G t) ?_ m0 ⟨0, H3, w0, st, nf, iv⟩
  rintro m t ⟨i, G, wi, ti, ni, jv⟩
  cases turns i m G wi with
  | inl over =>
    refine thnF (tu.done (X.blk s3 H3 scope ce fp) rfl rfl rfl calm i [] t _ G (fun _ _ => False) jv (quiet jv ni) ti over.1) fun r t2 z => ?_
    cases z.1
    exact fin t2 G z.2 over.2
  | inr more =>
    obtain ⟨on, Nx, back, step⟩ := more
    refine thnF (tu.item (X.blk s3 H3 scope ce fp) rfl rfl rfl calm i [] t _ G (fun _ _ => False) jv (quiet jv ni) ti on) fun r t2 z => ?_
    obtain ⟨u, rfl, got⟩ := z
    refine thnF got fun _ t3 z => ?_
    obtain ⟨x, G3, jv3, rx, yx, ti3, ni3⟩ := z
    have hold := jv3.pinned (quiet jv3 ni3) (tu.obj _ _ ti3)
    -- what a turn leaves is where the next one begins
    have next : ∀ {τ : L2.St} {t' : Shared} {G' : Hp}, wipe τ (own.map (·.2)) = wipe σ (own.map (·.2)) → Inv (X.blk s3 H3 scope ce fp) ([] ++ pinsAt fp t3.heap) τ G' t' → Nx G' → ∃ m', m' < m ∧ ∃ i G, W i m' G ∧ tn i t'.heap ∧ (∀ b ∈ fp, G b = none) ∧ Inv (X.blk s3 H3 scope ce fp) [] (wipe σ (own.map (·.2))) G t' := by
      intro τ t' G' same kv nx
      obtain ⟨m', less, w'⟩ := back G' nx
      have pin : ∀ b ∈ fp, ∀ o, t3.heap.get? b = some o → t'.heap.get? b = some o ∧ G' b = none := fun b hb o e => by
        have q := kv.pin (b, o) (List.mem_append_right _ (List.mem_append_right _ (mem_pinsAt hb e)))
        exact ⟨q.1, q.2.1⟩
      refine ⟨m', less, i + 1, G', w', tu.keep _ _ _ ti3 fun b hb o e => (pin b hb o e).1, fun b hb => ?_, (kv.unpinned (pins := [])).weak ?_ fun j v e => ?_⟩
      · obtain ⟨o, e, _⟩ := tu.obj _ _ ti3 b hb
        exact (pin b hb o e).2
      · rw [← wipe_length (σ := τ) (vs := own.map (·.2)), same]
      · rw [← same] at e
        exact (wipe_some e).1
    refine thnF (pg.run _ t3 _ G3 x u _ hold rx (step x G3 yx)) fun _ t4 z => ?_
    obtain ⟨τ, G4, jv4, same, z⟩ := z
    refine thnF (pt.run _ t4 τ G4 _ jv4 z) fun b t5 z => ?_
    obtain ⟨G5, jv5, z⟩ := z
    cases b with
    | false => exact next same jv5 z
    | true =>
      refine thnF (pk.run _ t5 τ G5 _ jv5 z) fun kv t6 z => ?_
      obtain ⟨y, G6, jv6, ry, z⟩ := z
      refine thnF (pe.run _ t6 τ G6 _ jv6 z) fun vv t7 z => ?_
      obtain ⟨yv, G7, jv7, rv, bb, k, kvs, rfl, eb, eD, room, nx⟩ := z
      cases (show kv = Value.ref bb from ry)
      exact dt_set (X := X.blk s3 H3 scope ce fp) hu jv7 eD eb room rv fun t8 jv8 => next same jv8 nx
end
section
variable {K : PySem.W.Frag} {g : TG} {tt : TT} {tk tv tl : TE} {vs : List Nat} {σ : L2.St} {Q : VK} {H H1 : Hp}
def kDcTT (K : PySem.W.Frag) (g : TG) (tt : TT) (tk tv : TE) (vs : List Nat) (σ : L2.St) (Q : VK) (x : V) (H1 : Hp) : Prop := ∃ a, x = .ref a ∧ (∃ xs, SqT K H1 a xs) ∧ ∀ D, H1 D = none → ∃ W : Nat → Nat → Hp → Prop, (∃ m, W 0 m (upd H1 D (.dT []))) ∧ DtTurns (Itt K a) g tt tk tv vs σ D W (Q (.ref D))
theorem w_dcTT (h : tl σ H (kDcTT K g tt tk tv vs σ Q)) : tDcT (iTup K tl) g tt tk tv vs σ H Q := h
/-- over a tuple, without a test: what each turn puts in -/
theorem kDcTT_i {p : Addr} {xs : List V} (hp : H1 p = some (.tup xs)) (hn : xs.length ≤ 1000) (key : Nat → List L2.Key) (val : Nat → V)
    (step : ∀ (i : Nat) x H (Kt : V → V → Hp → Prop), xs[i]? = some x → Adv [] H1 H → (∀ b H4, Adv [] H H4 → H4 b = some (.tup ((key i).map kV)) → Kt (.ref b) (val i) H4) → g x (wipe σ vs) H fun σ2 H2 => wipe σ2 vs = wipe σ vs ∧ tk σ2 H2 fun y H3 => tv σ2 H3 fun z H4 => Kt y z H4)
    (k : ∀ D H', Adv [] H1 H' → H' D = some (.dT ((List.range xs.length).foldl (fun kv i => putK kv (key i) (val i)) [])) → Q (.ref D) H') : kDcTT K g tYes tk tv vs σ Q (.ref p) H1 := by
  refine ⟨p, rfl, ⟨xs, SqT.of hp⟩, fun D hD => ?_⟩
  refine ⟨fun i m H => m = xs.length - i ∧ i ≤ xs.length ∧ Adv [] H1 H ∧ ((List.range i).foldl (fun kv i => putK kv (key i) (val i)) []).length ≤ i ∧ H D = some (.dT ((List.range i).foldl (fun kv i => putK kv (key i) (val i)) [])), ⟨xs.length, rfl, Nat.zero_le _, Adv.new (o := .dT []) hD, Nat.le_refl _, by rw [upd_same]; rfl⟩, ?_⟩
  rintro i m H ⟨rfl, hi, ad, hl, eD⟩
  have hp2 := SqT.of (K := K) (ad.tup _ _ hp)
  by_cases hlt : i < xs.length
  · refine .inr ⟨⟨xs, xs[i], hp2, by simp [hlt]⟩, fun H' => i + 1 ≤ xs.length ∧ Adv [] H1 H' ∧ ((List.range (i + 1)).foldl (fun kv i => putK kv (key i) (val i)) []).length ≤ i + 1 ∧ H' D = some (.dT ((List.range (i + 1)).foldl (fun kv i => putK kv (key i) (val i)) [])), fun H' p' => ⟨xs.length - (i + 1), by omega, rfl, p'⟩, fun x H' y => ?_⟩
    obtain ⟨e, y⟩ := y
    subst e
    refine step i x H' _ (y xs hp2) ad fun b H4 a4 eb => ?_
    have e4 := a4.keep _ _ (fun z => nomatch z) eD
    have er : (List.range (i + 1)).foldl (fun kv i => putK kv (key i) (val i)) [] = putK ((List.range i).foldl (fun kv i => putK kv (key i) (val i)) []) (key i) (val i) := by rw [List.range_succ, List.foldl_append]; rfl
    refine ⟨b, key i, _, rfl, eb, e4, Nat.lt_of_le_of_lt (show _ ≤ 1000 by omega) (by decide), hlt, (ad.trans a4).mut hD e4 (fun _ z => by cases z), ?_, ?_⟩
    · rw [er]
      exact Nat.le_trans (length_putK ..) (Nat.succ_le_succ hl)
    · rw [upd_same, er]
  · have e : i = xs.length := by omega
    subst e
    exact .inl ⟨⟨xs, hp2, Nat.le_refl _⟩, k D H ad eD⟩
end
end AW
namespace AW
open PySem PySem.Spec PyProof.Rows L2 RZ
open StX
local macro_rules | `(tactic| walk_at "aw1") => `(tactic| first
  | (with_reducible refine w_seq ?_) | (with_reducible refine w_asg ?_) | (with_reducible refine w_gname ?_) | (with_reducible refine w_op ?_) | (with_reducible refine w_un ?_)
  | ((with_reducible refine' w_var ?h ?_); (case h => rfl)) | (with_reducible refine w_c ?_)
  | (with_reducible refine w_I0 ?_) | (with_reducible refine w_U ?_) | (with_reducible refine w_cb ?_) | (with_reducible refine w_nil ?_) | (with_reducible refine w_cons ?_) | (with_reducible refine w_call ?_)
  | (with_reducible refine w_test ?_) | (with_reducible refine w_B ?_) | (with_reducible refine w_bl ?_) | (with_reducible refine w_not ?_) | (with_reducible refine w_yes ?_) | (with_reducible refine iteT ?_) | (with_reducible refine iteF ?_) | (with_reducible refine w_and ?_) | (with_reducible refine w_or ?_)
  | (with_reducible refine w_andV ?_) | (with_reducible refine w_orV ?_) | (with_reducible refine w_notV ?_) | (with_reducible refine w_if ?_)
  | (with_reducible refine w_int1 ?_) | (with_reducible refine w_int1b ?_) | (with_reducible refine w_abs ?_) | (with_reducible refine w_max2 ?_) | (with_reducible refine w_min2 ?_)
  | ((with_reducible refine w_eq ?h ?_); (case h => rfl)) | ((with_reducible refine w_ne ?h ?_); (case h => rfl)) | (with_reducible refine w_isN ?_) | (with_reducible refine w_isB ?_) | (with_reducible refine w_chain ?_)
  | (with_reducible refine w_ret ?_) | (with_reducible refine w_drop ?_) | (with_reducible refine w_ifS ?_) | (with_reducible refine w_gsub ?_) | (with_reducible refine w_augS ?_) | (with_reducible refine w_ipI ?_) | (with_reducible refine w_next ?_)
  | (with_reducible refine w_forR ?_) | (with_reducible refine w_forR2 ?_) | (with_reducible refine w_forL ?_) | (with_reducible refine w_forT ?_) | (with_reducible refine w_lcR ?_) | (with_reducible refine w_lcL ?_) | (with_reducible refine w_lcT ?_) | (with_reducible refine w_sl ?_) | (with_reducible refine w_part ?_) | (with_reducible refine w_noPart ?_) | (with_reducible refine w_in ?_)
  | (with_reducible refine w_gcons ?_) | (with_reducible refine w_gnil ?_) | (with_reducible refine w_lc3 ?_) | (with_reducible refine w_dcZ ?_) | (with_reducible refine w_dcT ?_) | (with_reducible refine w_dg ?_) | (with_reducible refine w_callK ?_) | (with_reducible refine w_dput ?_) | (with_reducible refine w_tup1 ?_)
  | (with_reducible refine w_tup ?_) | (with_reducible refine w_lst ?_)
  | ((with_reducible refine w_I ?h ?_); (case h => first | (exact Or.inr ⟨by decide, by decide⟩) | (exact Or.inl ⟨by decide, by decide⟩) | (show (0 : Int) < _; decide) | (exact ⟨by decide, by decide, by decide⟩) | assumption)))
local macro_rules | `(tactic| walk_at "aw") => `(tactic| repeat (walk_at "aw1"))
theorem foldl_get {κ : Type} [DecidableEq κ] {key : Nat → κ} {val : Nat → V} : ∀ (n : Nat), (∀ a b, a < n → b < n → key a = key b → a = b) → ∀ i, i < n → valV ((List.range n).foldl (fun kv i => putK kv (key i) (val i)) []) (key i) = some (val i)
  | 0, _, i, h => absurd h (Nat.not_lt_zero _)
  | n + 1, hk, i, hi => by
    rw [List.range_succ, List.foldl_append]
    show valV (putK _ (key n) (val n)) (key i) = _
    rw [valV_put]
    by_cases e : i = n
    · rw [e, if_pos rfl]
    · rw [if_neg fun z => e (hk i n (by omega) (by omega) z)]
      exact foldl_get n (fun a b ha hb => hk a b (by omega) (by omega)) i (by omega)
/-- the value behind a row's front -/
def sp__value_seen (_ : PySem.W.Frag) : Sp := fun vs H Q _ => ∃ (a b d : Addr), vs = [.ref a, .ref b, .ref d] ∧ ∃ (names dn : List Str) (us : List V) (rows : List (List Int)) (v : Int) (φ : Str → Int), H a = some (.tup (names.map V.str)) ∧ names.length ≤ 100 ∧ (∀ x ∈ names, x ∈ dn) ∧ WD H d dn φ ∧ H b = some (.tup us) ∧ TupsAt H us rows ∧ rows.length ≤ 1000 ∧ (rows.map List.dropLast).Nodup ∧ (∀ r ∈ rows, r ≠ []) ∧ (names.map φ ++ [v]) ∈ rows ∧ ∀ H', Adv [] H H' → Q (.int v) H'
def intK (r : List Int) : List L2.Key := r.map Sum.inl
theorem intK_kV (r : List Int) : (intK r).map kV = r.map V.int := by unfold intK; rw [List.map_map]; rfl
theorem intK_inj {r s : List Int} (h : intK r = intK s) : r = s := by
  unfold intK at h
  exact (List.map_inj_right (f := fun n : Int => (Sum.inl n : L2.Key)) fun a b z => Sum.inl.inj z).mp h
theorem ix_last {xs : List V} {v : V} (h : xs.getLast? = some v) : atI xs (-1) = some v := by
  have h0 : xs ≠ [] := fun z => by rw [z] at h; simp at h
  have hl := List.length_pos_iff.mpr h0
  unfold atI ixN
  rw [if_neg (by decide), if_pos (by omega), Option.bind_some, show (-1 + ((xs.length : Nat) : Int)).toNat = xs.length - 1 by omega, ← h, List.getLast?_eq_getElem?]
def t__value_seen (K : PySem.W.Frag) : TS := (tSeq (tAsg (tDcT (iTup K (tVar 1)) (gName 4) tYes (tSl (rSlA K) (tVar 4) tNoPart (tPart (tUn rNeg (tC (.int 1))))) (tOp (rIxT K) (tVar 4) (tUn rNeg (tC (.int 1)))) [4]) (gName 3))
  (tRet (tDGet (tVar 3) (tThen (tLc (iTup K (tVar 0)) (gName 5) tYes (tDGet (tVar 2) (tVar 5)) [5]) (kTup K)))))
theorem len__value_seen {K : PySem.W.Frag} : ∀ (vs : List V) (H : Hp) (Q : VK) (E : XK), sp__value_seen K vs H Q E → vs.length = 3 := fun vs H Q E h => by
  obtain ⟨_, _, _, rfl, _⟩ := h
  rfl
theorem pure__value_seen {K : PySem.W.Frag} (vs : List V) (H : Hp) (Q : VK) (E : XK) (h : sp__value_seen K vs H Q E) : t__value_seen K { nx := fun _ H' => Q .non H', rt := Q } (start ["xs", "rows", "at", "values", "row", "x"] vs) H := by
  obtain ⟨a, b, d, rfl, names, dn, us, rows, v, φ, ea, hn, hin, hd, eb, hus, hrl, hnd, hne, hv, q⟩ := h
  have hul := hus.length
  show t__value_seen K _ [some (.ref a), some (.ref b), some (.ref d), none, none, none] H
  unfold t__value_seen
  with_reducible refine w_seq ?_
  with_reducible refine w_asg ?_
  refine w_dcTT ?_
  walk_at "aw"
  refine kDcTT_i eb (by omega) (fun i => intK (rows.getD i []).dropLast) (fun i => .int ((rows.getD i []).getLastD 0)) (fun i u H2 Kt hu a2 kt => ?_) fun D H1 a1 eD => ?_
  · obtain ⟨r, hr⟩ := get_some (xs := rows) (i := i) (by have := (List.getElem?_eq_some_iff.mp hu).1; omega)
    obtain ⟨p, rfl, ep⟩ := paired_at hus hu hr
    rw [getD_of hr] at kt
    have hrne := hne r (List.mem_of_getElem? hr)
    walk_at "aw"
    refine ⟨rfl, ?_⟩
    walk_at "aw"
    refine w_slA (a2.tup _ _ ep) fun t3 H3 a3 et3 => ?_
    rw [cut_last, ← List.map_dropLast, ← intK_kV] at et3
    walk_at "aw"
    refine w_ixT (SqT.of ((a2.trans a3).tup _ _ ep)) (v := .int (r.getLastD 0)) (ix_last ?_) ?_
    · rw [List.getLast?_map, List.getLast?_eq_some_getLast hrne, List.getLastD_eq_getLast?, List.getLast?_eq_some_getLast hrne]
      rfl
    · exact kt t3 H3 a3 et3
  walk_at "aw"
  obtain ⟨kt, hkt, hkr⟩ := List.mem_iff_getElem.mp hv
  have hk : rows[kt]? = some (names.map φ ++ [v]) := by rw [List.getElem?_eq_getElem hkt, hkr]
  have hget := foldl_get (key := fun i => intK (rows.getD i []).dropLast) (val := fun i => V.int ((rows.getD i []).getLastD 0)) us.length (fun a b ha hb e => by
    have e1 := intK_inj e
    obtain ⟨r1, hr1⟩ := get_some (xs := rows) (i := a) (by omega)
    obtain ⟨r2, hr2⟩ := get_some (xs := rows) (i := b) (by omega)
    rw [getD_of hr1, getD_of hr2] at e1
    exact nodup_inj hnd (x := r1.dropLast) (by rw [List.getElem?_map, hr1]; rfl) (by rw [List.getElem?_map, hr2, e1]; rfl)) kt (by omega)
  rw [getD_of hk, List.dropLast_concat, show (names.map φ ++ [v]).getLastD 0 = v by simp] at hget
  refine ⟨a, rfl, ⟨_, SqT.of (a1.tup _ _ ea)⟩, kLc_pure (walk_tup (xs := names.map V.str)) (by rw [List.length_map]; omega) (fun H' g => SqT.of (g.tup _ _ (a1.tup _ _ ea))) (fun _ => true) (fun i => .int (φ (names.getD i Str.empty))) (fun i u H2 H3 Kt Kf hi a2 yy kt kf => ?_) fun l2 H2 nl2 a2 el2 => ?_⟩
  · obtain ⟨rfl, hu⟩ := yy
    rw [List.getElem?_map] at hu
    obtain ⟨x, hx, rfl⟩ := Option.map_eq_some_iff.mp hu
    rw [getD_of hx] at kt
    walk_at "aw"
    refine ⟨rfl, ?_⟩
    walk_at "aw"
    exact (hd.up (a1.trans a2)).get (hin x (List.mem_of_getElem? hx)) (kt rfl _ (.refl _ _))
  have el2' : H2 l2 = some (.lst ((names.map φ).map V.int)) := by
    rw [el2, filter_true, List.length_map]
    congr 2
    conv => rhs; rw [← range_getD names Str.empty]
    rw [List.map_map, List.map_map]
    rfl
  walk_at "aw"
  refine w_tupL (SqL.of el2') fun t3 H3 nt3 a3 et3 => ?_
  rw [← intK_kV] at et3
  refine ⟨D, .int v, rfl, by rw [← hget]; exact DGet.t ((a2.trans a3).keep _ _ (fun z => nomatch z) eD) et3, ?_⟩
  exact q H3 (a1.trans (a2.trans a3))
end AW
namespace AW
open PySem PySem.Spec PyProof.Rows L2 RZ
open StX
local macro_rules | `(tactic| walk_at "aw1") => `(tactic| first
  | (with_reducible refine w_seq ?_) | (with_reducible refine w_asg ?_) | (with_reducible refine w_gname ?_) | (with_reducible refine w_op ?_) | (with_reducible refine w_un ?_)
  | ((with_reducible refine' w_var ?h ?_); (case h => rfl)) | (with_reducible refine w_c ?_)
  | (with_reducible refine w_I0 ?_) | (with_reducible refine w_U ?_) | (with_reducible refine w_cb ?_) | (with_reducible refine w_nil ?_) | (with_reducible refine w_cons ?_) | (with_reducible refine w_call ?_)
  | (with_reducible refine w_test ?_) | (with_reducible refine w_B ?_) | (with_reducible refine w_bl ?_) | (with_reducible refine w_not ?_) | (with_reducible refine w_yes ?_) | (with_reducible refine iteT ?_) | (with_reducible refine iteF ?_) | (with_reducible refine w_and ?_) | (with_reducible refine w_or ?_)
  | (with_reducible refine w_andV ?_) | (with_reducible refine w_orV ?_) | (with_reducible refine w_notV ?_) | (with_reducible refine w_if ?_)
  | (with_reducible refine w_int1 ?_) | (with_reducible refine w_int1b ?_) | (with_reducible refine w_abs ?_) | (with_reducible refine w_max2 ?_) | (with_reducible refine w_min2 ?_)
  | ((with_reducible refine w_eq ?h ?_); (case h => rfl)) | ((with_reducible refine w_ne ?h ?_); (case h => rfl)) | (with_reducible refine w_isN ?_) | (with_reducible refine w_isB ?_) | (with_reducible refine w_chain ?_)
  | (with_reducible refine w_ret ?_) | (with_reducible refine w_drop ?_) | (with_reducible refine w_ifS ?_) | (with_reducible refine w_gsub ?_) | (with_reducible refine w_augS ?_) | (with_reducible refine w_ipI ?_) | (with_reducible refine w_next ?_)
  | (with_reducible refine w_forR ?_) | (with_reducible refine w_forR2 ?_) | (with_reducible refine w_forL ?_) | (with_reducible refine w_forT ?_) | (with_reducible refine w_lcR ?_) | (with_reducible refine w_lcL ?_) | (with_reducible refine w_lcT ?_) | (with_reducible refine w_sl ?_) | (with_reducible refine w_part ?_) | (with_reducible refine w_noPart ?_) | (with_reducible refine w_in ?_)
  | (with_reducible refine w_gcons ?_) | (with_reducible refine w_gnil ?_) | (with_reducible refine w_lc3 ?_) | (with_reducible refine w_dcZ ?_) | (with_reducible refine w_dcT ?_) | (with_reducible refine w_dg ?_) | (with_reducible refine w_callK ?_) | (with_reducible refine w_dput ?_) | (with_reducible refine w_tup1 ?_)
  | (with_reducible refine w_tup ?_) | (with_reducible refine w_lst ?_)
  | ((with_reducible refine w_I ?h ?_); (case h => first | (exact Or.inr ⟨by decide, by decide⟩) | (exact Or.inl ⟨by decide, by decide⟩) | (show (0 : Int) < _; decide) | (exact ⟨by decide, by decide, by decide⟩) | assumption)))
local macro_rules | `(tactic| walk_at "aw") => `(tactic| repeat (walk_at "aw1"))
def sp_names_in (_ : PySem.W.Frag) : Sp := fun vs H Q _ => ∃ m, vs = [m] ∧ ∃ doms, MdlAt H m doms ∧ doms.length ≤ 24 ∧ ∀ t H', Adv [] H H' → H' t = some (.tup ((doms.map (·.1)).map V.str)) → Q (.ref t) H'
/-- an item through which this filling can be seen -/
structure ItSee (names : List Str) (φ : Str → Int) (it : Itm) : Prop where
  nd : (it.2.map List.dropLast).Nodup
  ne : ∀ r ∈ it.2, r ≠ []
  l1 : it.2.length ≤ 1000
  l2 : it.1.length ≤ 3
  mem : ∀ s ∈ it.1, s.1 ∈ names
  ex : ∃ v, (it.1.map fun s => φ s.1) ++ [v] ∈ it.2
def SeenV (φ : Str → Int) (it : Itm) (v : Int) : Prop := (it.1.map fun s => φ s.1) ++ [v] ∈ it.2
theorem SeenV.one {names : List Str} {φ : Str → Int} {it : Itm} (h : ItSee names φ it) {v w : Int} (h1 : SeenV φ it v) (h2 : SeenV φ it w) : v = w := by
  obtain ⟨i, hi, e1⟩ := List.mem_iff_getElem.mp h1
  obtain ⟨j, hj, e2⟩ := List.mem_iff_getElem.mp h2
  have : i = j := nodup_inj h.nd (x := it.1.map fun s => φ s.1) (by rw [List.getElem?_map, List.getElem?_eq_getElem hi, e1]; simp) (by rw [List.getElem?_map, List.getElem?_eq_getElem hj, e2]; simp)
  subst this
  rw [e1] at e2
  have := List.append_inj_right e2 rfl
  simpa using this
theorem seen_uniq {names : List Str} {φ : Str → Int} {L : List Itm} (h : ∀ it ∈ L, ItSee names φ it) {vs ws : List Int} (h1 : Paired (SeenV φ) L vs) (h2 : Paired (SeenV φ) L ws) : vs = ws := by
  induction h1 generalizing ws with
  | nil => cases h2; rfl
  | cons a t ih =>
    cases h2 with
    | cons b u =>
      rw [SeenV.one (h _ (List.mem_cons_self ..)) a b, ih (fun it hit => h it (List.mem_cons_of_mem _ hit)) u]
def sp_filling_seen (_ : PySem.W.Frag) : Sp := fun vs H Q _ => ∃ (m : V) (vw f : Addr), vs = [m, .ref vw, .ref f] ∧ ∃ doms L φ, MdlAt H m doms ∧ (doms.map (·.1)).Nodup ∧ doms.length ≤ 24 ∧ ViewAt H vw L ∧ L.length ≤ 100 ∧ (∀ it ∈ L, ItSee (doms.map (·.1)) φ it) ∧ FilAt H f doms φ ∧ ∀ t vals H', Adv [] H H' → H' t = some (.tup (vals.map V.int)) → Paired (SeenV φ) L vals → Q (.ref t) H'
def sp_seen (_ : PySem.W.Frag) : Sp := fun vs H Q _ => ∃ (m m2 : V) (vw f : Addr), vs = [m, m2, .ref vw, .ref f] ∧ ∃ doms L φ, MdlAt H m doms ∧ (doms.map (·.1)).Nodup ∧ doms.length ≤ 24 ∧ ViewAt H vw L ∧ L.length ≤ 100 ∧ (∀ it ∈ L, ItSee (doms.map (·.1)) φ it) ∧ FilAt H f doms φ ∧ ∀ t vals H', Adv [] H H' → H' t = some (.tup (vals.map V.int)) → Paired (SeenV φ) L vals → Q (.ref t) H'
def t_names_in (K : PySem.W.Frag) : TS := (tRet (tThen (tLc (iTup K (tOp (rIxT K) (tVar 0) (tC (.int 0)))) (gTup K 2 (gCons (gName 1) (gCons (gName 2) gNil))) tYes (tVar 1) [1, 2]) (kTup K)))
def t_filling_seen (K : PySem.W.Frag) : TS := (tSeq (tAsg (tDc (iZipA K (tCons (tCall (sp_names_in K) [] E0 (tCons (tVar 0) tNil)) (tCons (tVar 2) tNil))) (gTup K 2 (gCons (gName 4) (gCons (gName 5) gNil))) tYes (tVar 4) (tVar 5) [4, 5]) (gName 3))
  (tRet (tThen (tLc (iTup K (tVar 1)) (gTup K 2 (gCons (gName 6) (gCons (gName 7) gNil))) tYes (tCall (sp__value_seen K) [] E0 (tCons (tVar 6) (tCons (tVar 7) (tCons (tVar 3) tNil)))) [6, 7]) (kTup K))))
def t_seen (K : PySem.W.Frag) : TS := (tRet (tCall (sp_filling_seen K) [] E0 (tCons (tVar 0) (tCons (tVar 2) (tCons (tVar 3) tNil)))))
theorem len_names_in {K : PySem.W.Frag} : ∀ (vs : List V) (H : Hp) (Q : VK) (E : XK), sp_names_in K vs H Q E → vs.length = 1 := fun vs H Q E h => by
  obtain ⟨_, rfl, _⟩ := h
  rfl
theorem pure_names_in {K : PySem.W.Frag} (vs : List V) (H : Hp) (Q : VK) (E : XK) (h : sp_names_in K vs H Q E) : t_names_in K { nx := fun _ H' => Q .non H', rt := Q } (start ["model", "x", "domain"] vs) H := by
  obtain ⟨m, rfl, doms, hm, hl, q⟩ := h
  obtain ⟨ma, mb, r, us, rfl, e1, e2, hus⟩ := hm
  have hul := hus.1
  show t_names_in K _ [some (.ref ma), none, none] H
  unfold t_names_in
  walk_at "aw"
  refine w_ixT (SqT.of e1) (at_nat (by decide) rfl) ?_
  refine ⟨mb, rfl, ⟨_, SqT.of e2⟩, kLc_pure (walk_tup (xs := us)) (by omega) (fun H' g => SqT.of (g.tup _ _ e2)) (fun _ => true) (fun i => .str ((doms.map (·.1)).getD i Str.empty)) (fun i u H2 H3 Kt Kf hi g2 yy kt kf => ?_) fun l H2 nl g2 el => ?_⟩
  · obtain ⟨rfl, hu⟩ := yy
    obtain ⟨p, qd, d, rfl, hd, ep, eqd⟩ := hus.2 i u hu
    rw [getD_of (show (doms.map (·.1))[i]? = some d.1 by rw [List.getElem?_map, hd]; rfl)] at kt
    refine w_gtup (SqT.of (g2.tup _ _ ep)) rfl ?_
    walk_at "aw"
    refine ⟨rfl, ?_⟩
    walk_at "aw"
    exact kt rfl _ (.refl _ _)
  have el' : H2 l = some (.lst ((doms.map (·.1)).map V.str)) := by
    rw [el, filter_true, hul]
    congr 2
    conv => rhs; rw [← range_getD (doms.map (·.1)) Str.empty]
    rw [List.length_map, List.map_map]
    rfl
  walk_at "aw"
  exact w_tupL (SqL.of el') fun t H3 nt a3 et => q t H3 (g2.trans a3) et
theorem len_filling_seen {K : PySem.W.Frag} : ∀ (vs : List V) (H : Hp) (Q : VK) (E : XK), sp_filling_seen K vs H Q E → vs.length = 3 := fun vs H Q E h => by
  obtain ⟨_, _, _, rfl, _⟩ := h
  rfl
theorem pure_filling_seen {K : PySem.W.Frag} (vs : List V) (H : Hp) (Q : VK) (E : XK) (h : sp_filling_seen K vs H Q E) : t_filling_seen K { nx := fun _ H' => Q .non H', rt := Q } (start ["one", "view", "filling", "at", "x", "v", "xs", "rows"] vs) H := by
  obtain ⟨m, vw, f, rfl, doms, L, φ, hm, hnd, hl, ⟨vs, ev, hvs⟩, hL, hsee, hf, q⟩ := h
  have hvl := hvs.length
  have hf : H f = some (.tup ((doms.map (·.1)).map fun x => .int (φ x))) := hf
  have hnl : (doms.map (·.1)).length = doms.length := List.length_map ..
  show t_filling_seen K _ [some m, some (.ref vw), some (.ref f), none, none, none, none, none] H
  unfold t_filling_seen
  walk_at "aw"
  refine ⟨m, rfl, doms, hm, hl, fun nt H1 a1 ent => ?_⟩
  walk_at "aw"
  refine ⟨nt, f, _, _, rfl, .inr ⟨SqT.of ent, SqT.of (a1.tup _ _ hf), kDc_pure (walk_zipT (xs := (doms.map (·.1)).map V.str) (ys := (doms.map (·.1)).map fun x => .int (φ x)) (by simp)) (by simp; omega) (fun H' g => ⟨g.tup _ _ ent, g.tup _ _ (a1.tup _ _ hf)⟩) (fun i => (Sum.inr ((doms.map (·.1)).getD i Str.empty) : Key)) (fun i => .int (φ ((doms.map (·.1)).getD i Str.empty))) (fun i v H2 H3 Kt hi g2 y kt => ?_) fun d H2 nd2 a2 ed => ?_⟩⟩
  · obtain ⟨T, u, z, rfl, nT, rfl, hu, hz⟩ := y
    dsimp only at hu hz
    rw [List.getElem?_map] at hu
    obtain ⟨x, hx, rfl⟩ := Option.map_eq_some_iff.mp hu
    rw [List.getElem?_map, hx] at hz
    cases hz
    rw [getD_of hx] at kt
    refine w_gtup (SqT.of upd_same) rfl ?_
    walk_at "aw"
    refine ⟨rfl, ?_⟩
    walk_at "aw"
    exact kt _ (Adv.new nT)
  have hd : WD H2 d (doms.map (·.1)) φ := by
    refine ⟨_, ed, fun x hx => ?_⟩
    rw [dictOf_nd _ fun a b ha hb e => ?_]
    · rw [List.length_map]
      have e3 : (List.range (doms.map (·.1)).length).map (fun i => ((Sum.inr ((doms.map (·.1)).getD i Str.empty) : Key), V.int (φ ((doms.map (·.1)).getD i Str.empty)))) = (doms.map (·.1)).map fun x => ((Sum.inr x : Key), V.int (φ x)) := by
        conv => rhs; rw [← range_getD (doms.map (·.1)) Str.empty]
        rw [List.map_map]
        rfl
      rw [e3]
      exact nK_get hx
    · have e2 := Sum.inr.inj e
      rw [List.length_map] at ha hb
      rw [getD_of (List.getElem?_eq_getElem ha), getD_of (List.getElem?_eq_getElem hb)] at e2
      exact nodup_inj hnd (List.getElem?_eq_getElem ha) (by rw [e2]; exact List.getElem?_eq_getElem hb)
  have a12 := a1.trans a2
  walk_at "aw"
  refine ⟨vw, rfl, ⟨_, SqT.of (a12.tup _ _ ev)⟩, kLc_rel (walk_tup (xs := vs)) (by omega) (fun H' g => SqT.of (g.tup _ _ (a12.tup _ _ ev))) (fun i u _ => ∃ z it, u = V.int z ∧ L[i]? = some it ∧ SeenV φ it z) (fun _ _ _ _ _ h => h) (fun i u H3 H4 Kt hi g3 yy kt => ?_) fun l H3 ys nl g3 el hyl hyr => ?_⟩
  · obtain ⟨rfl, hu⟩ := yy
    obtain ⟨it, hit⟩ := get_some (xs := L) (i := i) (by omega)
    obtain ⟨p, a, b, ws, rfl, ep, ea, eb, hws⟩ := (paired_at hvs hu hit).up (a12.trans g3).tup
    have hs := hsee it (List.mem_of_getElem? hit)
    obtain ⟨z, hz⟩ := hs.ex
    refine w_gtup (SqT.of ep) rfl ?_
    walk_at "aw"
    refine ⟨rfl, ?_⟩
    walk_at "aw"
    refine ⟨a, b, d, rfl, it.1.map (·.1), doms.map (·.1), ws, it.2, z, φ, ea, by rw [List.length_map]; have := hs.l2; omega, fun x hx => ?_, hd.up g3, eb, hws, hs.l1, hs.nd, hs.ne, by rw [List.map_map]; exact hz, fun H5 a5 => ?_⟩
    · obtain ⟨s, hs', rfl⟩ := List.mem_map.mp hx
      exact hs.mem s hs'
    · exact kt _ _ a5 ⟨z, it, rfl, hit, hz⟩
  obtain ⟨vals, hvl2, hvP⟩ := list_choose (P := fun i u (z : Int) => u = V.int z ∧ ∃ it, L[i]? = some it ∧ SeenV φ it z) fun i u hu => by
    obtain ⟨z, it, h1, h2, h3⟩ := hyr i u hu
    exact ⟨z, h1, it, h2, h3⟩
  have hys : ys = vals.map V.int := by
    apply List.ext_getElem (by rw [List.length_map, hvl2])
    intro i h1 h2
    rw [List.length_map] at h2
    rw [List.getElem_map]
    exact (hvP i _ _ (List.getElem?_eq_getElem h1) (List.getElem?_eq_getElem h2)).1
  walk_at "aw"
  refine w_tupL (SqL.of el) fun t H4 nt a4 et => ?_
  refine q t vals H4 (a12.trans (g3.trans a4)) (by rw [et, hys]) (paired_ix (by omega) fun i it z hit hz => ?_)
  obtain ⟨u, hu⟩ := get_some (xs := ys) (i := i) (by have := (List.getElem?_eq_some_iff.mp hz).1; omega)
  obtain ⟨_, it', h2, h3⟩ := hvP i u z hu hz
  rw [hit] at h2
  cases h2
  exact h3
theorem len_seen {K : PySem.W.Frag} : ∀ (vs : List V) (H : Hp) (Q : VK) (E : XK), sp_seen K vs H Q E → vs.length = 4 := fun vs H Q E h => by
  obtain ⟨_, _, _, _, rfl, _⟩ := h
  rfl
theorem pure_seen {K : PySem.W.Frag} (vs : List V) (H : Hp) (Q : VK) (E : XK) (h : sp_seen K vs H Q E) : t_seen K { nx := fun _ H' => Q .non H', rt := Q } (start ["one", "other", "view", "filling"] vs) H := by
  obtain ⟨m, m2, vw, f, rfl, r⟩ := h
  show t_seen K _ [some m, some m2, some (.ref vw), some (.ref f)] H
  unfold t_seen
  walk_at "aw"
  exact ⟨m, vw, f, rfl, r⟩
end AW
namespace AW
open PySem PySem.Spec PyProof.Rows L2 RZ
open StX
local macro_rules | `(tactic| walk_at "aw1") => `(tactic| first
  | (with_reducible refine w_seq ?_) | (with_reducible refine w_asg ?_) | (with_reducible refine w_gname ?_) | (with_reducible refine w_op ?_) | (with_reducible refine w_un ?_)
  | ((with_reducible refine' w_var ?h ?_); (case h => rfl)) | (with_reducible refine w_c ?_)
  | (with_reducible refine w_I0 ?_) | (with_reducible refine w_U ?_) | (with_reducible refine w_cb ?_) | (with_reducible refine w_nil ?_) | (with_reducible refine w_cons ?_) | (with_reducible refine w_call ?_)
  | (with_reducible refine w_test ?_) | (with_reducible refine w_B ?_) | (with_reducible refine w_bl ?_) | (with_reducible refine w_not ?_) | (with_reducible refine w_yes ?_) | (with_reducible refine iteT ?_) | (with_reducible refine iteF ?_) | (with_reducible refine w_and ?_) | (with_reducible refine w_or ?_)
  | (with_reducible refine w_andV ?_) | (with_reducible refine w_orV ?_) | (with_reducible refine w_notV ?_) | (with_reducible refine w_if ?_)
  | (with_reducible refine w_int1 ?_) | (with_reducible refine w_int1b ?_) | (with_reducible refine w_abs ?_) | (with_reducible refine w_max2 ?_) | (with_reducible refine w_min2 ?_)
  | ((with_reducible refine w_eq ?h ?_); (case h => rfl)) | ((with_reducible refine w_ne ?h ?_); (case h => rfl)) | (with_reducible refine w_isN ?_) | (with_reducible refine w_isB ?_) | (with_reducible refine w_chain ?_)
  | (with_reducible refine w_ret ?_) | (with_reducible refine w_drop ?_) | (with_reducible refine w_ifS ?_) | (with_reducible refine w_gsub ?_) | (with_reducible refine w_augS ?_) | (with_reducible refine w_ipI ?_) | (with_reducible refine w_next ?_)
  | (with_reducible refine w_forR ?_) | (with_reducible refine w_forR2 ?_) | (with_reducible refine w_forL ?_) | (with_reducible refine w_forT ?_) | (with_reducible refine w_lcR ?_) | (with_reducible refine w_lcL ?_) | (with_reducible refine w_lcT ?_) | (with_reducible refine w_sl ?_) | (with_reducible refine w_part ?_) | (with_reducible refine w_noPart ?_) | (with_reducible refine w_in ?_)
  | (with_reducible refine w_gcons ?_) | (with_reducible refine w_gnil ?_) | (with_reducible refine w_lc3 ?_) | (with_reducible refine w_dcZ ?_) | (with_reducible refine w_dcT ?_) | (with_reducible refine w_dg ?_) | (with_reducible refine w_callK ?_) | (with_reducible refine w_dput ?_) | (with_reducible refine w_tup1 ?_)
  | (with_reducible refine w_tup ?_) | (with_reducible refine w_lst ?_)
  | ((with_reducible refine w_I ?h ?_); (case h => first | (exact Or.inr ⟨by decide, by decide⟩) | (exact Or.inl ⟨by decide, by decide⟩) | (show (0 : Int) < _; decide) | (exact ⟨by decide, by decide, by decide⟩) | assumption)))
local macro_rules | `(tactic| walk_at "aw") => `(tactic| repeat (walk_at "aw1"))
def sp__law_seen (K : PySem.W.Frag) : Sp := fun vs H Q _ => ∃ (m : V) (vw f : Addr), vs = [m, .ref vw, .ref f] ∧ ∃ doms L φ us, MdlAt H m doms ∧ (doms.map (·.1)).Nodup ∧ doms.length ≤ 24 ∧ (SqL K H vw us ∨ SqT K H vw us) ∧ Paired (fun u it => ItmAt H u it) us L ∧ L.length ≤ 100 ∧ (∀ it ∈ L, ItSee (doms.map (·.1)) φ it) ∧ FilAt H f doms φ ∧ ∀ t vals H', Adv [] H H' → H' t = some (.tup (vals.map V.int)) → Paired (SeenV φ) L vals → Q (.ref t) H'
theorem eqv_ints : ∀ xs ys : List Int, PyData.eqvAll (xs.map .int) (ys.map .int) = decide (xs = ys)
  | [], [] => by simp [PyData.eqvAll]
  | [], y :: ys => by simp [PyData.eqvAll]
  | x :: xs, [] => by simp [PyData.eqvAll]
  | x :: xs, y :: ys => by
    rw [List.map_cons, List.map_cons, PyData.eqvAll, eqv_ints xs ys, PyData.eqv, Bool.eq_iff_iff]
    simp
theorem w_eqI {K : PySem.W.Frag} {H : Hp} {a b : Addr} {xs ys : List Int} {Q : VK} (e1 : SqT K H a (xs.map V.int)) (e2 : H b = some (.tup (ys.map V.int))) (q : Q (.bl (decide (xs = ys))) H) : rEqD K (.ref a) (.ref b) H Q := by
  refine ⟨.tuple (xs.map .int), .tuple (ys.map .int), .tup e1 (IsAll.ints xs).dp, .tup (SqT.of e2) (IsAll.ints ys).dp, (nc_ints xs).shaped (by decide), (nc_ints ys).shaped (by decide), ?_⟩
  rw [show PyData.eqv (.tuple (xs.map .int)) (.tuple (ys.map .int)) = PyData.eqvAll (xs.map .int) (ys.map .int) by simp only [PyData.eqv], eqv_ints]
  exact q
def t__law_seen (K : PySem.W.Frag) : TS := (tSeq (tAsg (tCall (sp__law_at K) [] E0 (tCons (tVar 0) (tCons (tVar 2) tNil))) (gName 3))
  (tSeq (tAsg (tLst tNil) (gName 4))
  (tSeq (tFor (iLT K (tVar 1)) (gTup K 2 (gCons (gName 5) (gCons (gName 6) gNil)))
  (tSeq (tAsg (tThen (tLc (iTup K (tVar 5)) (gName 8) tYes (tDGet (tVar 3) (tVar 8)) [8]) (kTup K)) (gName 7))
  (tDrop (tBM K "list" rAppend (tVar 4) (tCons (tOp (rIxL K) (tLc (iTup K (tVar 6)) (gName 9) (tTest (tOp (rEqD K) (tSl (rSlA K) (tVar 9) tNoPart (tPart (tUn rNeg (tC (.int 1))))) (tVar 7))) (tOp (rIxT K) (tVar 9) (tUn rNeg (tC (.int 1)))) [9]) (tC (.int 0))) tNil)))))
  (tRet (tThen (tVar 4) (kTup K))))))
theorem len__law_seen {K : PySem.W.Frag} : ∀ (vs : List V) (H : Hp) (Q : VK) (E : XK), sp__law_seen K vs H Q E → vs.length = 3 := fun vs H Q E h => by
  obtain ⟨_, _, _, rfl, _⟩ := h
  rfl
theorem pure__law_seen {K : PySem.W.Frag} (vs : List V) (H : Hp) (Q : VK) (E : XK) (h : sp__law_seen K vs H Q E) : t__law_seen K { nx := fun _ H' => Q .non H', rt := Q } (start ["one", "view", "filling", "at", "values", "xs", "rows", "key", "x", "row"] vs) H := by
  obtain ⟨m, vw, f, rfl, doms, L, φ, us, hm, hnd, hl, ev, hvs, hL, hsee, hf, q⟩ := h
  have hvl := hvs.length
  show t__law_seen K _ [some m, some (.ref vw), some (.ref f), none, none, none, none, none, none, none] H
  unfold t__law_seen
  walk_at "aw"
  refine ⟨m, f, rfl, doms, φ, hm, hnd, hl, hf, fun d H1 a1 hd => ?_⟩
  walk_at "aw"
  refine w_lstD (by simp) fun l H2 nl a2 el => ?_
  have a12 := a1.trans a2
  have upL : ∀ {H' : Hp}, Adv [] H H' → SqL K H vw us → SqL K H' vw us := fun a h => a.sql (fun z => nomatch z) h
  have upT : ∀ {H' : Hp}, Adv [] H H' → SqT K H vw us → SqT K H' vw us := fun a h => a.sqt (fun _ _ _ z => nomatch z) h
  with_reducible refine w_gname ?_
  with_reducible refine w_seq ?_
  refine w_forLT ?_
  refine w_var (v := .ref vw) rfl ?_
  have nl0 : H l = none := a1.free (fun z => nomatch z) nl
  refine kForLT_i (fun i σ' H' => ∃ (y5 y6 y7 : Option V) (zs : List Int), σ' = [some m, some (.ref vw), some (.ref f), some (.ref d), some (.ref l), y5, y6, y7, none, none] ∧ Adv [] H1 H' ∧ H' l = some (.lst (zs.map V.int)) ∧ zs.length = i ∧ Paired (SeenV φ) (L.take i) zs) ev ⟨_, _, _, [], rfl, a2, el, rfl, .nil⟩
    (fun h i σ' H' _ pp => by obtain ⟨_, _, _, _, _, a, _⟩ := pp; exact upL (a1.trans a) h) (fun h i σ' H' _ pp => by obtain ⟨_, _, _, _, _, a, _⟩ := pp; exact upT (a1.trans a) h) (fun i u σ' H' hu pp => ?_) fun σ' H' pp => ?_
  · obtain ⟨y5, y6, y7, zs, rfl, a, el', hzl, hzs⟩ := pp
    have a01 := a1.trans a
    obtain ⟨it, hit⟩ := get_some (xs := L) (i := i) (by have := (List.getElem?_eq_some_iff.mp hu).1; omega)
    obtain ⟨p, xa, xb, ws, rfl, ep, ea, eb, hws⟩ := (paired_at hvs hu hit).up a01.tup
    have hs := hsee it (List.mem_of_getElem? hit)
    have hl2 := hs.l2
    refine w_gtup (SqT.of ep) rfl ?_
    walk_at "aw"
    refine ⟨xa, rfl, ⟨_, SqT.of ea⟩, kLc_pure (walk_tup (xs := (it.1.map (·.1)).map V.str)) (by rw [List.length_map, List.length_map]; omega) (fun H' g => SqT.of (g.tup _ _ ea)) (fun _ => true) (fun i => .int (φ ((it.1.map (·.1)).getD i Str.empty))) (fun i u H2 H3 Kt Kf hi a2 yy kt kf => ?_) fun l2 H3 nl2 a3 el3 => ?_⟩
    · obtain ⟨rfl, hu⟩ := yy
      rw [List.getElem?_map] at hu
      obtain ⟨x, hx, rfl⟩ := Option.map_eq_some_iff.mp hu
      rw [getD_of hx] at kt
      walk_at "aw"
      refine ⟨rfl, ?_⟩
      walk_at "aw"
      have hxm : x ∈ doms.map (·.1) := by
        obtain ⟨s, hs', rfl⟩ := List.mem_map.mp (List.mem_of_getElem? hx)
        exact hs.mem s hs'
      exact (hd.up (a.trans a2)).get hxm (kt rfl _ (.refl _ _))
    have el3' : H3 l2 = some (.lst ((it.1.map fun s => φ s.1).map V.int)) := by
      rw [el3, filter_true]
      congr 2
      rw [List.length_map, List.length_map]
      have e1 : (it.1.map fun s => φ s.1) = (it.1.map (·.1)).map φ := by rw [List.map_map]; rfl
      rw [e1]
      conv => rhs; rw [← range_getD (it.1.map (·.1)) Str.empty]
      rw [List.map_map, List.map_map, List.length_map]
      rfl
    walk_at "aw"
    refine w_tupL (SqL.of el3') fun kt H4 nkt a4 ekt => ?_
    walk_at "aw"
    have a34 := a3.trans a4
    have el4 := a34.keep _ _ (fun z => nomatch z) el'
    have eb4 := a34.tup _ _ eb
    have hws4 := TupsAt.up hws a34.tup
    have hwl := hws.length
    have hr1 := hs.l1
    refine w_app rfl el4 ?_
    walk_at "aw"
    generalize hkey : (it.1.map fun s => φ s.1) = key at *
    refine ⟨xb, rfl, ⟨_, SqT.of eb4⟩, kLc_pure (walk_tup (xs := ws)) (by omega) (fun H' g => SqT.of (g.tup _ _ eb4)) (fun k => decide ((it.2.getD k []).dropLast = key)) (fun k => .int ((it.2.getD k []).getLastD 0)) (fun k u H5 H6 Kt Kf hk a5 yy kt' kf => ?_) fun l5 H5 nl5 a5 el5 => ?_⟩
    · obtain ⟨rfl, hu⟩ := yy
      obtain ⟨r, hr⟩ := get_some (xs := it.2) (i := k) (by omega)
      obtain ⟨pr, rfl, epr⟩ := paired_at hws4 hu hr
      rw [getD_of hr] at kt' kf
      have hrne := hs.ne r (List.mem_of_getElem? hr)
      walk_at "aw"
      refine ⟨rfl, ?_⟩
      walk_at "aw"
      refine w_slA (a5.tup _ _ epr) fun t6 H6 a6 et6 => ?_
      rw [cut_last, ← List.map_dropLast] at et6
      walk_at "aw"
      refine w_eqI (SqT.of et6) ((a5.trans a6).tup _ _ ekt) ?_
      walk_at "aw"
      cases hb : decide (r.dropLast = key) with
      | false =>
        refine iteF'' rfl ?_
        exact kf hb _ a6
      | true =>
        refine iteT'' rfl ?_
        walk_at "aw"
        refine w_ixT (SqT.of ((a5.trans a6).tup _ _ epr)) (v := .int (r.getLastD 0)) (ix_last ?_) ?_
        · rw [List.getLast?_map, List.getLast?_eq_some_getLast hrne, List.getLastD_eq_getLast?, List.getLast?_eq_some_getLast hrne]
          rfl
        · exact kt' hb _ a6
    · obtain ⟨v0, hv0⟩ := hs.ex
      rw [hkey] at hv0
      obtain ⟨j, hj, hjr⟩ := List.mem_iff_getElem.mp hv0
      generalize hfl : (List.range ws.length).filter (fun k => decide ((it.2.getD k []).dropLast = key)) = fl at el5
      have hjm : j ∈ fl := by
        rw [← hfl, List.mem_filter]
        refine ⟨List.mem_range.mpr (by omega), decide_eq_true ?_⟩
        rw [getD_of (List.getElem?_eq_getElem hj), hjr, List.dropLast_concat]
      cases fl with
      | nil => simp at hjm
      | cons k0 fl =>
        have hk0 : k0 ∈ (List.range ws.length).filter (fun k => decide ((it.2.getD k []).dropLast = key)) := by rw [hfl]; exact List.mem_cons_self ..
        rw [List.mem_filter] at hk0
        obtain ⟨r, hr⟩ := get_some (xs := it.2) (i := k0) (by have := List.mem_range.mp hk0.1; omega)
        have hrd := of_decide_eq_true hk0.2
        rw [getD_of hr] at hrd
        have hrne := hs.ne r (List.mem_of_getElem? hr)
        have hrow : key ++ [r.getLastD 0] = r := by
          rw [← hrd, List.getLastD_eq_getLast?, List.getLast?_eq_some_getLast hrne]
          exact List.dropLast_concat_getLast hrne
        walk_at "aw"
        refine w_ixL (SqL.of el5) (v := .int (r.getLastD 0)) (at_nat (by decide) (by rw [List.map_cons, getD_of hr]; rfl)) ?_
        walk_at "aw"
        have el6 := a5.keep _ _ (fun z => nomatch z) el4
        have hiL := (List.getElem?_eq_some_iff.mp hit).1
        refine w_append el6 (by rw [List.length_map]; omega) ?_
        walk_at "aw"
        refine ⟨_, _, _, zs ++ [r.getLastD 0], rfl, (a.trans (a34.trans a5)).mut nl el6 (fun _ z => by cases z), by rw [upd_same, List.map_append]; rfl, by rw [List.length_append, hzl]; rfl, ?_⟩
        rw [List.take_add_one, hit]
        refine paired_app hzs (.cons ?_ .nil)
        show (it.1.map fun s => φ s.1) ++ [r.getLastD 0] ∈ it.2
        rw [hkey, hrow]
        exact List.mem_of_getElem? hr
  · obtain ⟨y5, y6, y7, zs, rfl, a, el', hzl, hzs⟩ := pp
    rw [hvl, List.take_length] at hzs
    walk_at "aw"
    refine w_tupL (SqL.of el') fun t H4 nt a4 et => ?_
    exact q t zs H4 (a1.trans (a.trans a4)) et hzs
end AW
namespace AW
open PySem PySem.Spec PyProof.Rows L2
/-- the def x may let an exception out -/
structure CalX (P : Program) (w : World) (K : PySem.W.Frag) (mg : Str → Option Value) (base : Heap) (x : Str) (k : Nat) (ps : List Str) (sp : Sp) : Prop where
  ex : ∃ (f : Addr) (fd : FuncData), FnOk P w K mg base (L2.CX P w) k f fd ps sp ∧ PySem.W.keepIn K (.ref f) = true ∧ Binds K fd ps [] ∧ mg x = some (.ref f)
structure CalXK (P : Program) (w : World) (K : PySem.W.Frag) (mg : Str → Option Value) (base : Heap) (x : Str) (k : Nat) (ps ks : List Str) (gV : List V → List V → List V) (sp : Sp) : Prop where
  ex : ∃ (f : Addr) (fd : FuncData) (g : List Value → List Value → List Value), FnOk P w K mg base (L2.CX P w) k f fd ps sp ∧ PySem.W.keepIn K (.ref f) = true ∧ KBinds K fd ps ks g gV ∧ mg x = some (.ref f)
section
variable {X : Cx} {x : Str} {k : Nat} {ps ks : List Str} {sp : Sp} {E : L2.St → XK} {p pos : Pos} {e : Expr} {es : List Expr} {t : TA} {kws : List Keyword} {tk : TA} {gV : List V → List V → List V}
theorem pe_calX (C : CalX X.prog X.w X.K X.mg X.base x k ps sp) (hr : Room k X.A) (hg : Gl X x) (hx : ∀ σ, PassesAt (L2.CX X.prog X.w) X σ (E σ)) (ha : PA X (e :: es) t) (hdb : (x == ("__debug__" : Str)) = false := by decide)
    (he : starEach (e :: es) X.env = (false, eval e X.env) :: starEach es X.env := by rfl) (hpl : (backTo pos (starEach es X.env)).any (·.1) = false := by rfl) :
    PE X (.Call (.Name x p) (e :: es) [] pos) (tCallS sp E t) := by
  obtain ⟨f, fd, F, hk, hb, hm⟩ := C.ex
  exact pe_callS F hr hg hm hk hb hx ha hdb he hpl
/-- f(k = v, ..), f may raise -/
def tCallSK (sp : Sp) (gV : List V → List V → List V) (E : L2.St → XK) (tk : TA) : TE := fun σ H Q => tk σ H fun zs H2 => sp (gV [] zs) H2 Q (E σ)
theorem pe_calXK (C : CalXK X.prog X.w X.K X.mg X.base x k ps ks gV sp) (hr : Room k X.A) (hg : Gl X x) (hx : ∀ σ, PassesAt (L2.CX X.prog X.w) X σ (E σ)) (hkw : PK X kws tk)
    (hall : (backToKw pos (keywordEach kws X.env)).all (·.1.isSome) = true := by rfl) (hks : (backToKw pos (keywordEach kws X.env)).filterMap (·.1) = ks := by rfl)
    (hdb : (x == ("__debug__" : Str)) = false := by decide)
    (hpl : ((backTo pos (starEach [] X.env)).any (·.1) || (backToKw pos (keywordEach kws X.env)).any (·.1.isNone)) = false := by rfl) :
    PE X (.Call (.Name x p) [] kws pos) (tCallSK sp gV E tk) := by
  refine ⟨fun pins s σ H Q I h => ?_⟩
  obtain ⟨f, fd, g, F, hk, hb, hm⟩ := C.ex
  refine wpAny_Call_Name_kw (ld_glob I hg hm ?_ hdb)
  refine PySem.W.callWith_KW0 (h₀ := X.base) I.ok.mod.kin hk hall (thn (hkw.run pos pins s σ H _ I h) fun ws s2 ⟨zs, H2, I2, rz, q2⟩ => ⟨I2.kIn, ?_⟩) hpl
  rw [hks]
  have r2 := hb.rel .nil rz
  have hl : (g [] ws).length = ps.length := by rw [← r2.length]; exact F.len _ _ _ _ q2
  refine wpAny_call (codeAny_mono (F.run X.A X.stack s2 H2 ⟨[], ks.zip ws⟩ (g [] ws) (gV [] zs) Q (E σ) hr I2.env0 (hb.to s2 [] ws I2.kIn hl) r2 q2) fun r s' hq => ?_)
  match r, hq with
  | .error er, hq => exact hx σ pins H2 s2 er s' I2 hq
  | .ok (.ret u), hq => exact I2.after hq
  | .ok .next, hq => exact hq.elim
  | .ok .brk, hq => exact hq.elim
  | .ok .cont, hq => exact hq.elim
end
section
variable {K : PySem.W.Frag} {C D : Addr}
theorem sp_class : PySem.W.specialIn K (.builtin "object.__class__") "__get__" = some (some (.builtin "getset_descriptor.__get__")) := by
  show PySem.W.findIn K (.type "getset_descriptor") "__get__" = _
  show fastLookup "getset_descriptor" "__get__" = some (some (Value.builtin "getset_descriptor.__get__"))
  decide +kernel
theorem kit_cls (n : (PySem.W.clsIn K D).isSome = true) (y : PySem.W.typeIn K (.ref D) = some (.type "type")) : PySem.W.kitCls K (.ref C) (.ref D) = PySem.W.subIn K (.ref C) (.ref D) := by
  unfold PySem.W.kitCls
  simp only []
  rw [n, y]
  rfl
theorem kit_no (sC : PySem.W.subIn K (.ref C) (.ref C) = some true) (n : (PySem.W.clsIn K D).isSome = true) (y : PySem.W.typeIn K (.ref D) = some (.type "type")) (h : PySem.W.subIn K (.ref C) (.ref D) = some false) : PySem.W.kitOne K (.ref C) (.ref D) = some false := by
  unfold PySem.W.kitOne
  rw [if_neg, kit_cls n y, h]
  intro e
  have e2 : C = D := Value.ref.inj (beq_iff_eq.mp e)
  rw [← e2, sC] at h
  cases h
theorem kit_yes (n : (PySem.W.clsIn K D).isSome = true) (y : PySem.W.typeIn K (.ref D) = some (.type "type")) (h : PySem.W.subIn K (.ref C) (.ref D) = some true) : PySem.W.kitOne K (.ref C) (.ref D) = some true := by
  unfold PySem.W.kitOne
  split
  · rfl
  · rw [kit_cls n y, h]
theorem exm_me (b : PySem.W.subIn K (.ref C) (.type "BaseException") = some true) (n : (PySem.W.clsIn K C).isSome = true) (y : PySem.W.typeIn K (.ref C) = some (.type "type")) (sC : PySem.W.subIn K (.ref C) (.ref C) = some true) : PySem.W.exmOne K (.ref C) (.ref C) = some true := by
  unfold PySem.W.exmOne
  rw [b, if_pos (by decide), kit_cls n y, sC]
end
end AW
/-! isinstance(e, T), isinstance(e, (T, ..)) of a caught exception that keeps fields -/
namespace L2
open PySem PySem.Spec PyProof.Rows
def rIsiD (K : PySem.W.Frag) (a C : Addr) (d : Option Addr) : List V → Hp → VK → Prop := fun xs H Q => ∃ (c : V) (u : Value) (b : Bool) (dd : Addr) (fs : List (Str × V)), xs = [.ref a, c] ∧ d = some dd ∧ H dd = some (.xd fs) ∧ ClsV c u ∧ PySem.W.kitOne K (.ref C) u = some b ∧ Q (.bl b) H
theorem call_isiD {X : Cx} {a C : Addr} {oe : Obj} {d : Option Addr} {pn : List (Addr × Obj)} (T : ExI X.K C) (hz : Zc (.ref C) d oe) (hf : ∃ vs, oe.data = .fields vs) : CallR (X.suite a ((a, oe) :: pn)) (.builtin "isinstance") (rIsiD X.K a C d) := by
  intro pins s σ H xs us Q I r h
  obtain ⟨c, u, b, dd, fs, rfl, rfl, ea, k, e, q⟩ := h
  obtain ⟨u1, u2, rfl, r1, r2⟩ := vals2 r
  have e2 := k.eq r2
  subst e2
  obtain rfl : u1 = Value.ref a := r1
  obtain ⟨ha, _⟩ := I.pin (a, oe) (List.mem_append_left _ List.mem_cons_self)
  obtain ⟨vs, hd⟩ := hf
  obtain ⟨gt, hgt⟩ := T.gt
  obtain ⟨mA, hns, hr⟩ : ObjOk X.prog X.w H s.heap dd (.xd fs) := I.hok dd _ ea
  obtain ⟨od, ho, hl⟩ := lookIn_ns hns
  have J : PySem.W.InstAt s.heap a oe C (some od) := ⟨ha, hz.1, by unfold PySem.W.notCls; rw [hd] <;> rfl, by rw [hz.2]; exact ho⟩
  exact PySem.W.kia_one (PySem.W.kitx_exc (x := a) (ox := oe) (od := some od) T.cl T.ga hgt T.sub T.cf T.sp T.tk T.ob) I.kIn J e (by intro z; cases z) fun tk => ⟨.bl b, H, I.tok tk, rfl, q⟩
def rIsiDT (K : PySem.W.Frag) (a C : Addr) (d : Option Addr) : List V → Hp → VK → Prop := fun xs H Q => ∃ (t : Addr) (cs : List Addr) (b : Bool) (dd : Addr) (fs : List (Str × V)), xs = [.ref a, .ref t] ∧ d = some dd ∧ H dd = some (.xd fs) ∧ H t = some (.tup (cs.map V.ref)) ∧ PySem.W.kitAny K (.ref C) (cs.map Value.ref) = some b ∧ Q (.bl b) H
theorem vals_refs2 : ∀ {cs : List Addr} {us : List Value}, Vals (cs.map V.ref) us → us = cs.map Value.ref
  | [], _, .nil => rfl
  | c :: cs, _, .cons a t => by
    have : _ = Value.ref c := a
    rw [this, vals_refs2 t]
    rfl
theorem call_isiDT {X : Cx} {a C : Addr} {oe : Obj} {d : Option Addr} {pn : List (Addr × Obj)} (T : ExI X.K C) (hz : Zc (.ref C) d oe) (hf : ∃ vs, oe.data = .fields vs) : CallR (X.suite a ((a, oe) :: pn)) (.builtin "isinstance") (rIsiDT X.K a C d) := by
  intro pins s σ H xs us Q I r h
  obtain ⟨t, cs, b, dd, fs, rfl, rfl, ea, et, e, q⟩ := h
  obtain ⟨u1, u2, rfl, r1, r2⟩ := vals2 r
  obtain rfl : u1 = Value.ref a := r1
  obtain rfl : u2 = Value.ref t := r2
  obtain ⟨ha, _⟩ := I.pin (a, oe) (List.mem_append_left _ List.mem_cons_self)
  obtain ⟨vs, hd⟩ := hf
  obtain ⟨gt, hgt⟩ := T.gt
  obtain ⟨mA, hns, hr⟩ : ObjOk X.prog X.w H s.heap dd (.xd fs) := I.hok dd _ ea
  obtain ⟨od, ho, hl⟩ := lookIn_ns hns
  have J : PySem.W.InstAt s.heap a oe C (some od) := ⟨ha, hz.1, by unfold PySem.W.notCls; rw [hd] <;> rfl, by rw [hz.2]; exact ho⟩
  obtain ⟨its, rv, pt, _⟩ := I.tuple (SqT.of (K := X.K) et)
  have e3 := vals_refs2 rv
  subst e3
  obtain ⟨⟨oc, od2, odt, osl⟩, hget, h1, n, h2⟩ := pt
  obtain rfl : oc = Value.type "tuple" := h1
  obtain rfl : odt = Data.seq (cs.map Value.ref).toArray n := h2
  exact PySem.W.kia_tup (PySem.W.kitx_exc (x := a) (ox := oe) (od := some od) T.cl T.ga hgt T.sub T.cf T.sp T.tk T.ob) I.kIn J hget e (by intro z; cases z) fun tk => ⟨.bl b, H, I.tok tk, rfl, q⟩
end L2
namespace AW
open PySem PySem.Spec PyProof.Rows L2
/-- a suite over an exception of the class C -/
theorem pss_knownC {X : Cx} {a C : Addr} {oe : Obj} {cls : Value} {d : Option Addr} {pn : List (Addr × Obj)} {b : List Stmt} {t : TS} (h : Zc (.ref C) d oe → PSs (X.suite a ((a, oe) :: pn)) b t) (hz : Zc cls d oe) : PSs (X.suite a ((a, oe) :: pn)) b (fun D σ H => cls = .ref C ∧ t D σ H) :=
  ⟨fun pins s σ H D I q => by
    obtain ⟨rfl, q⟩ := q
    exact (h hz).run pins s σ H D I q⟩
end AW
namespace AW
open PySem PySem.Spec PyProof.Rows L2 RZ
open StX
local macro_rules | `(tactic| walk_at "aw1") => `(tactic| first
  | (with_reducible refine w_seq ?_) | (with_reducible refine w_asg ?_) | (with_reducible refine w_gname ?_) | (with_reducible refine w_op ?_) | (with_reducible refine w_un ?_)
  | ((with_reducible refine' w_var ?h ?_); (case h => rfl)) | (with_reducible refine w_c ?_)
  | (with_reducible refine w_I0 ?_) | (with_reducible refine w_U ?_) | (with_reducible refine w_cb ?_) | (with_reducible refine w_nil ?_) | (with_reducible refine w_cons ?_) | (with_reducible refine w_call ?_)
  | (with_reducible refine w_test ?_) | (with_reducible refine w_B ?_) | (with_reducible refine w_bl ?_) | (with_reducible refine w_not ?_) | (with_reducible refine w_yes ?_) | (with_reducible refine iteT ?_) | (with_reducible refine iteF ?_) | (with_reducible refine w_and ?_) | (with_reducible refine w_or ?_)
  | (with_reducible refine w_andV ?_) | (with_reducible refine w_orV ?_) | (with_reducible refine w_notV ?_) | (with_reducible refine w_if ?_)
  | (with_reducible refine w_int1 ?_) | (with_reducible refine w_int1b ?_) | (with_reducible refine w_abs ?_) | (with_reducible refine w_max2 ?_) | (with_reducible refine w_min2 ?_)
  | ((with_reducible refine w_eq ?h ?_); (case h => rfl)) | ((with_reducible refine w_ne ?h ?_); (case h => rfl)) | (with_reducible refine w_isN ?_) | (with_reducible refine w_isB ?_) | (with_reducible refine w_chain ?_)
  | (with_reducible refine w_ret ?_) | (with_reducible refine w_drop ?_) | (with_reducible refine w_ifS ?_) | (with_reducible refine w_gsub ?_) | (with_reducible refine w_augS ?_) | (with_reducible refine w_ipI ?_) | (with_reducible refine w_next ?_)
  | (with_reducible refine w_forR ?_) | (with_reducible refine w_forR2 ?_) | (with_reducible refine w_forL ?_) | (with_reducible refine w_forT ?_) | (with_reducible refine w_lcR ?_) | (with_reducible refine w_lcL ?_) | (with_reducible refine w_lcT ?_) | (with_reducible refine w_sl ?_) | (with_reducible refine w_part ?_) | (with_reducible refine w_noPart ?_) | (with_reducible refine w_in ?_)
  | (with_reducible refine w_gcons ?_) | (with_reducible refine w_gnil ?_) | (with_reducible refine w_lc3 ?_) | (with_reducible refine w_dcZ ?_) | (with_reducible refine w_dcT ?_) | (with_reducible refine w_dg ?_) | (with_reducible refine w_callK ?_) | (with_reducible refine w_dput ?_) | (with_reducible refine w_tup1 ?_)
  | (with_reducible refine w_tup ?_) | (with_reducible refine w_lst ?_)
  | ((with_reducible refine w_I ?h ?_); (case h => first | (exact Or.inr ⟨by decide, by decide⟩) | (exact Or.inl ⟨by decide, by decide⟩) | (show (0 : Int) < _; decide) | (exact ⟨by decide, by decide, by decide⟩) | assumption)))
local macro_rules | `(tactic| walk_at "aw") => `(tactic| repeat (walk_at "aw1"))
/-- texts, numbers, truth values, nothing, and tuples of such -/
inductive SmE : Nat → PyData → Prop
  | bl {m : Nat} (b : Bool) : SmE (m + 1) (.bool b)
  | int {m : Nat} (n : Int) : SmE (m + 1) (.int n)
  | non {m : Nat} : SmE (m + 1) .none
  | str {m : Nat} (x : Str) : SmE (m + 1) (.str x)
  | tup {m : Nat} (ds : List PyData) (hl : ds.length ≤ 1000) (h : ∀ d ∈ ds, SmE m d) : SmE (m + 1) (.tuple ds)
def sp__law_same (_ : PySem.W.Frag) (m : Nat) : Sp := fun vs H Q _ => ∃ v u, vs = [v, u] ∧ ∃ d, Is H d v ∧ Is H d u ∧ SmE m d ∧ Q (.bl true) H
def gR {α : Type} : List α → List α → List α
  | [], zs => zs.reverse
  | _ :: _, _ => []
structure ExFV (K : PySem.W.Frag) (c_BadModel c_BadView c_BadText c_UnknownName c_BadRow c_BadWish c_NothingLeft c_TooFar c_WrittenError : Addr) : Prop where
  v : ExV K c_BadView
  te : PySem.W.exmOne K (.ref c_BadView) (.ref c_BadView) = some true
  k_WrittenError : PySem.W.kitOne K (.ref c_BadView) (.ref c_WrittenError) = some true
  k_UnknownName : PySem.W.kitOne K (.ref c_BadView) (.ref c_UnknownName) = some false
  k_any : PySem.W.kitAny K (.ref c_BadView) ([c_BadModel, c_BadRow, c_BadText, c_BadWish, c_NothingLeft, c_TooFar].map Value.ref) = some false
def sp__law_checked (_ : PySem.W.Frag) : Sp := fun vs H Q _ => ∃ (m1 m2 v : V) (b : Bool), vs = [m1, m2, v, .bl b] ∧ ∃ d1 d2 w D n, MdlAt H m1 d1 ∧ MdlOk w d1 ∧ w ≤ 12 ∧ d1.length ≤ 24 ∧ MdlAt H m2 d2 ∧ d2.length ≤ 24 ∧ Is H D v ∧ Sw n D ∧ n ≤ 60 ∧
  (vwB d1 d2 D = none → ∀ t H', Adv [] H H' → Is H' (.tuple [.str "told", .none]) (.ref t) → Q (.ref t) H') ∧ ∀ k, vwB d1 d2 D = some k → ∀ t H', Adv [] H H' → Is H' (.tuple [.str "view", .int k]) (.ref t) → Q (.ref t) H'
def t__law_same (K : PySem.W.Frag) (m : Nat) : TS := (tSeq (tIfS (tB (tCB (rIsi K) (tCons (tVar 1) (tCons (tC (.ty "tuple")) tNil)))) (tSeq (tIfS (tOr (tNot (tB (tCB (rIsi K) (tCons (tVar 0) (tCons (tC (.ty "tuple")) tNil))))) (tTest (tOp rNe (tCB (rLen1 K) (tCons (tVar 0) tNil)) (tCB (rLen1 K) (tCons (tVar 1) tNil))))) (tRet (tC (.bl false))) tNext)
  (tSeq (tFor (iRng1 (tCons (tCB (rLen1 K) (tCons (tVar 1) tNil)) tNil)) (gName 2)
  (tIfS (tNot (tB (tCall (sp__law_same K m) [] E0 (tCons (tOp (rIxA K) (tVar 0) (tVar 2)) (tCons (tOp (rIxA K) (tVar 1) (tVar 2)) tNil))))) (tRet (tC (.bl false))) tNext))
  (tRet (tC (.bl true))))) tNext)
  (tSeq (tIfS (tTest (tOp rIsN (tVar 1) (tC .non))) (tRet (tOp rIsN (tVar 0) (tC .non))) tNext)
  (tSeq (tIfS (tB (tCB (rIsi K) (tCons (tVar 1) (tCons (tC (.ty "str")) tNil)))) (tRet (tAndV (tCB (rIsi K) (tCons (tVar 0) (tCons (tC (.ty "str")) tNil))) (tOp rEq (tVar 0) (tVar 1)))) tNext)
  (tSeq (tIfS (tB (tCB (rIsi K) (tCons (tVar 1) (tCons (tC (.ty "bool")) tNil)))) (tRet (tAndV (tCB (rIsi K) (tCons (tVar 0) (tCons (tC (.ty "bool")) tNil))) (tOp rEq (tVar 0) (tVar 1)))) tNext)
  (tRet (tAndV (tCB (rIsi K) (tCons (tVar 0) (tCons (tC (.ty "int")) tNil))) (tAndV (tNotV (tCB (rIsi K) (tCons (tVar 0) (tCons (tC (.ty "bool")) tNil)))) (tOp rEq (tVar 0) (tVar 1)))))))))
def t_check_view (K : PySem.W.Frag) (c_BadView : Addr) (E : XK) : TS := (tDrop (tCallS (sp_check_items K c_BadView) (fun _ => E) (tCons (tVar 0) (tCons (tVar 1) (tCons (tVar 2) tNil)))))
def t__law_checked (K : PySem.W.Frag) (c_BadModel c_BadView c_BadText c_UnknownName c_BadRow c_BadWish c_NothingLeft c_TooFar c_WrittenError : Addr) : TS := (fun D σ H => (fun W : WX => (tSeq (tAsg (tIf (tB (tVar 3)) (tCallSK (sp_check_view K c_BadView) gR (WE W) (tCons (tVar 2) (tCons (tVar 1) (tCons (tVar 0) tNil)))) (tCallS (sp_check_view K c_BadView) (WE W) (tCons (tVar 0) (tCons (tVar 1) (tCons (tVar 2) tNil))))) (gName 4))
  (tRet (tTup (tCons (tC (.str "told")) (tCons (tVar 4) tNil)))))) (wAs K (.ref c_BadView) 5 (fun a cls d D σ H => cls = .ref c_BadView ∧ ((tSeq (tIfS (tOr (tNot (tB (tCB (rIsiD K a c_BadView d) (tCons (tVar 5) (tCons (tC (.ref c_WrittenError)) tNil))))) (tB (tCB (rIsiDT K a c_BadView d) (tCons (tVar 5) (tCons (tTup (tCons (tC (.ref c_BadModel)) (tCons (tC (.ref c_BadRow)) (tCons (tC (.ref c_BadText)) (tCons (tC (.ref c_BadWish)) (tCons (tC (.ref c_NothingLeft)) (tCons (tC (.ref c_TooFar)) tNil))))))) tNil))))) (tRet (tTup (tCons (tC (.str "class")) (tCons (tC (.int 0)) tNil)))) tNext)
  (tSeq (tIfS (tB (tCB (rIsiD K a c_BadView d) (tCons (tVar 5) (tCons (tC (.ref c_UnknownName)) tNil)))) (tRet (tTup (tCons (tC (.str "class")) (tCons (tC (.int 1)) tNil)))) tNext)
  (tRet (tTup (tCons (tC (.str "view")) (tCons (tXf a cls d c_BadView "number" (tVar 5)) tNil))))))) D σ H) (fun _ _ _ _ => False) D) D σ H)
theorem len__law_same {K : PySem.W.Frag} {m : Nat} : ∀ (vs : List V) (H : Hp) (Q : VK) (E : XK), sp__law_same K m vs H Q E → vs.length = 2 := fun vs H Q E h => by
  obtain ⟨_, _, rfl, _⟩ := h
  rfl
theorem no__law_same {K : PySem.W.Frag} {vs : List V} {H : Hp} {Q : VK} {E : XK} (h : sp__law_same K 0 vs H Q E) : False := by
  obtain ⟨_, _, _, _, _, _, h, _⟩ := h
  cases h
theorem pure__law_same {K : PySem.W.Frag} {m : Nat} (vs : List V) (H : Hp) (Q : VK) (E : XK) (h : sp__law_same K (m + 1) vs H Q E) : t__law_same K m { nx := fun _ H' => Q .non H', rt := Q } (start ["actual", "due", "k"] vs) H := by
  obtain ⟨v, u, rfl, d, hv, hu, hd, q⟩ := h
  show t__law_same K m _ [some v, some u, none] H
  unfold t__law_same
  cases hd with
  | bl b =>
    have hv' := hv
    cases hv
    cases hu
    walk_at "aw"
    refine w_isiD hv' (by simp) ?_
    walk_at "aw"
    refine iteF'' (by simp [isiD, tyD]) ?_
    walk_at "aw"
    refine iteF'' (by simp) ?_
    walk_at "aw"
    refine w_isiD hv' (by simp) ?_
    walk_at "aw"
    refine iteF'' (by simp [isiD, tyD]) ?_
    walk_at "aw"
    refine w_isiD hv' (by simp) ?_
    walk_at "aw"
    refine iteT'' (by simp [isiD, tyD]) ?_
    walk_at "aw"
    refine w_isiD hv' (by simp) ?_
    walk_at "aw"
    refine iteT'' (by simp [isiD, tyD]) ?_
    walk_at "aw"
    have e : decide (V.bl b = V.bl b) = true := decide_eq_true rfl
    rw [e]
    exact q
  | int n =>
    have hv' := hv
    cases hv
    cases hu
    walk_at "aw"
    refine w_isiD hv' (by simp) ?_
    walk_at "aw"
    refine iteF'' (by simp [isiD, tyD]) ?_
    walk_at "aw"
    refine iteF'' (by simp) ?_
    walk_at "aw"
    refine w_isiD hv' (by simp) ?_
    walk_at "aw"
    refine iteF'' (by simp [isiD, tyD]) ?_
    walk_at "aw"
    refine w_isiD hv' (by simp) ?_
    walk_at "aw"
    refine iteF'' (by simp [isiD, tyD]) ?_
    walk_at "aw"
    refine w_isiD hv' (by simp) ?_
    walk_at "aw"
    refine iteT'' (by simp [isiD, tyD]) ?_
    walk_at "aw"
    refine w_isiD hv' (by simp) ?_
    refine ⟨_, rfl, ?_⟩
    refine ⟨_, rfl, ?_⟩
    refine iteT'' (by simp [isiD, tyD]) ?_
    walk_at "aw"
    have e : decide (V.int n = V.int n) = true := decide_eq_true rfl
    rw [e]
    exact q
  | non =>
    have hv' := hv
    cases hv
    cases hu
    walk_at "aw"
    refine w_isiD hv' (by simp) ?_
    walk_at "aw"
    refine iteF'' (by simp [isiD, tyD]) ?_
    walk_at "aw"
    refine iteT'' (by simp) ?_
    walk_at "aw"
    have e : decide (V.non = V.non) = true := decide_eq_true rfl
    rw [e]
    exact q
  | str x =>
    have hv' := hv
    cases hv
    cases hu
    walk_at "aw"
    refine w_isiD hv' (by simp) ?_
    walk_at "aw"
    refine iteF'' (by simp [isiD, tyD]) ?_
    walk_at "aw"
    refine iteF'' (by simp) ?_
    walk_at "aw"
    refine w_isiD hv' (by simp) ?_
    walk_at "aw"
    refine iteT'' (by simp [isiD, tyD]) ?_
    walk_at "aw"
    refine w_isiD hv' (by simp) ?_
    walk_at "aw"
    refine iteT'' (by simp [isiD, tyD]) ?_
    walk_at "aw"
    have e : decide (V.str x = V.str x) = true := decide_eq_true rfl
    rw [e]
    exact q
  | tup ds hl h =>
    have hv' := hv
    have hu' := hu
    obtain ⟨a, xs, rfl, ea, tx⟩ := hv.tup_inv
    obtain ⟨b, ys, rfl, eb, ty⟩ := hu.tup_inv
    have lx := tx.length
    have ly := ty.length
    walk_at "aw"
    refine w_isiD hu' (by simp) ?_
    walk_at "aw"
    refine iteT'' (by simp [isiD, tyD]) ?_
    walk_at "aw"
    refine w_isiD hv' (by simp) ?_
    walk_at "aw"
    refine iteF'' (by simp [isiD, tyD]) ?_
    walk_at "aw"
    refine w_lenT (SqT.of ea) ?_
    walk_at "aw"
    refine w_lenT (SqT.of eb) ?_
    walk_at "aw"
    refine iteF'' (by rw [lx, ly, decide_eq_true rfl]; rfl) ?_
    walk_at "aw"
    refine w_lenT (SqT.of eb) ?_
    refine kForR_i (n := ys.length) (by omega) (fun i σ H' => H' = H ∧ ∃ y, σ = [some (.ref a), some (.ref b), y]) ⟨rfl, none, rfl⟩ (fun i σ H' hi p => ?_) fun σ H' p => ?_
    · obtain ⟨rfl, y, rfl⟩ := p
      have hx : xs[i]? = some xs[i] := List.getElem?_eq_getElem (by omega)
      have hz : ys[i]? = some ys[i] := List.getElem?_eq_getElem (by omega)
      obtain ⟨d, hd, hdx⟩ := tx.get hx
      obtain ⟨d', hd', hdz⟩ := ty.get hz
      rw [hd] at hd'
      cases hd'
      walk_at "aw"
      refine .inr (w_ixT (SqT.of ea) (at_of (j := i) (by omega) hx) ?_)
      walk_at "aw"
      refine .inr (w_ixT (SqT.of eb) (at_of (j := i) (by omega) hz) ?_)
      walk_at "aw"
      refine ⟨_, _, rfl, d, hdx, hdz, h d (List.mem_of_getElem? hd), ?_⟩
      walk_at "aw"
      exact ⟨rfl, _, rfl⟩
    · obtain ⟨rfl, y, rfl⟩ := p
      walk_at "aw"
      exact q
theorem len_check_view {K : PySem.W.Frag} {C : Addr} : ∀ (vs : List V) (H : Hp) (Q : VK) (E : XK), sp_check_view K C vs H Q E → vs.length = 3 := len_check_items
theorem w_callS {sp : Sp} {E : L2.St → XK} {t : TA} {σ : L2.St} {H : Hp} {Q : VK} (h : t σ H fun vs H1 => sp vs H1 Q (E σ)) : tCallS sp E t σ H Q := h
theorem w_callSR {sp : Sp} {E : L2.St → XK} {tk : TA} {σ : L2.St} {H : Hp} {Q : VK} (h : tk σ H fun zs H2 => sp zs.reverse H2 Q (E σ)) : tCallSK sp gR E tk σ H Q := h
theorem pure_check_view {K : PySem.W.Frag} {c_BadView : Addr} (vs : List V) (H : Hp) (Q : VK) (E : XK) (h : sp_check_view K c_BadView vs H Q E) : t_check_view K c_BadView E { nx := fun _ H' => Q .non H', rt := Q } (start ["one", "other", "value"] vs) H := by
  obtain ⟨m1, m2, v, rfl, d1, d2, w, D, n, T, hm1, mok, hw, hl1, hm2, hl2, hD, hS, hn, q1, q2⟩ := h
  show t_check_view K c_BadView E _ [some m1, some m2, some v] H
  unfold t_check_view
  walk_at "aw"
  with_reducible refine w_callS ?_
  walk_at "aw"
  exact ⟨m1, m2, v, rfl, d1, d2, w, D, n, T, hm1, mok, hw, hl1, hm2, hl2, hD, hS, hn, q1, q2⟩
theorem len__law_checked {K : PySem.W.Frag} : ∀ (vs : List V) (H : Hp) (Q : VK) (E : XK), sp__law_checked K vs H Q E → vs.length = 4 := fun vs H Q E h => by
  obtain ⟨_, _, _, _, rfl, _⟩ := h
  rfl
theorem w_isiCD {K : PySem.W.Frag} {a C T dd : Addr} {fs : List (Str × V)} {b : Bool} {H : Hp} {Q : VK} (e : PySem.W.kitOne K (.ref C) (.ref T) = some b) (hd : H dd = some (.xd fs)) (q : Q (.bl b) H) : rIsiD K a C (some dd) [.ref a, .ref T] H Q := ⟨_, _, b, dd, fs, rfl, rfl, hd, .own _, e, q⟩
theorem pure__law_checked {K : PySem.W.Frag} {c_BadModel c_BadView c_BadText c_UnknownName c_BadRow c_BadWish c_NothingLeft c_TooFar c_WrittenError : Addr} (F : ExFV K c_BadModel c_BadView c_BadText c_UnknownName c_BadRow c_BadWish c_NothingLeft c_TooFar c_WrittenError) (vs : List V) (H : Hp) (Q : VK) (E : XK) (h : sp__law_checked K vs H Q E) : t__law_checked K c_BadModel c_BadView c_BadText c_UnknownName c_BadRow c_BadWish c_NothingLeft c_TooFar c_WrittenError { nx := fun _ H' => Q .non H', rt := Q } (start ["one", "other", "value", "is_named", "told", "e"] vs) H := by
  obtain ⟨m1, m2, v, b, rfl, d1, d2, w, D, n, hm1, mok, hw, hl1, hm2, hl2, hD, hS, hn, q1, q2⟩ := h
  show t__law_checked K c_BadModel c_BadView c_BadText c_UnknownName c_BadRow c_BadWish c_NothingLeft c_TooFar c_WrittenError _ [some m1, some m2, some v, some (.bl b), none, none] H
  unfold t__law_checked
  with_reducible refine w_seq ?_
  show tAsg _ _ _ _ _
  with_reducible refine w_asg ?_
  have fin : ∀ H', Adv [] H H' → vwB d1 d2 D = none → ∀ t H'', H' t = none → Adv [] H' H'' → H'' t = some (.tup [.str "told", .non]) → Q (.ref t) H'' := fun H' a' z t H'' nt a2 e => q1 z t H'' (a'.trans a2) (.tup e (.cons (.str _) (.cons .non .nil)))
  have key : ∀ (σ : L2.St), σ = [some m1, some m2, some v, some (.bl b), none, none] → ∀ k, vwB d1 d2 D = some k → ∀ dd H', Adv [] H H' → H' dd = some (.xd [("number", .int k)]) → ∀ a,
    ((tSeq (tIfS (tOr (tNot (tB (tCB (rIsiD K a c_BadView (some dd)) (tCons (tVar 5) (tCons (tC (.ref c_WrittenError)) tNil))))) (tB (tCB (rIsiDT K a c_BadView (some dd)) (tCons (tVar 5) (tCons (tTup (tCons (tC (.ref c_BadModel)) (tCons (tC (.ref c_BadRow)) (tCons (tC (.ref c_BadText)) (tCons (tC (.ref c_BadWish)) (tCons (tC (.ref c_NothingLeft)) (tCons (tC (.ref c_TooFar)) tNil))))))) tNil))))) (tRet (tTup (tCons (tC (.str "class")) (tCons (tC (.int 0)) tNil)))) tNext)
  (tSeq (tIfS (tB (tCB (rIsiD K a c_BadView (some dd)) (tCons (tVar 5) (tCons (tC (.ref c_UnknownName)) tNil)))) (tRet (tTup (tCons (tC (.str "class")) (tCons (tC (.int 1)) tNil)))) tNext)
  (tRet (tTup (tCons (tC (.str "view")) (tCons (tXf a (.ref c_BadView) (some dd) c_BadView "number" (tVar 5)) tNil))))))) { nx := fun σ' H' => Q .non H', rt := Q, bk := fun _ _ => False, ct := fun _ _ => False } (σ.set 5 (some (.ref a))) H' := by
    intro σ hσ k z dd H' a' hdd a
    subst hσ
    show tSeq _ _ _ [some m1, some m2, some v, some (.bl b), none, some (.ref a)] H'
    walk_at "aw"
    refine w_isiCD F.k_WrittenError hdd ?_
    walk_at "aw"
    refine iteF'' rfl ?_
    walk_at "aw"
    refine w_tupD (by simp) fun t H1 nt a1 et => ?_
    walk_at "aw"
    have hdd1 := a1.keep _ _ (fun z => nomatch z) hdd
    refine ⟨t, [c_BadModel, c_BadRow, c_BadText, c_BadWish, c_NothingLeft, c_TooFar], false, dd, _, rfl, rfl, hdd1, et, F.k_any, ?_⟩
    walk_at "aw"
    refine w_isiCD F.k_UnknownName hdd1 ?_
    walk_at "aw"
    refine ⟨_, rfl, rfl, rfl, dd, _, .int k, rfl, hdd1, rfl, ?_⟩
    walk_at "aw"
    refine w_tupD (by simp) fun r H2 nr a2 er => ?_
    exact q2 k z r H2 (a'.trans (a1.trans a2)) (.tup er (.cons (.str _) (.cons (.int _) .nil)))
  walk_at "aw"
  cases b with
  | true =>
    walk_at "aw"
    with_reducible refine w_callSR ?_
    walk_at "aw"
    refine ⟨m1, m2, v, rfl, d1, d2, w, D, n, F.v, hm1, mok, hw, hl1, hm2, hl2, hD, hS, hn, fun z H' a' => ?_, fun k z dd H' a' e => ?_⟩
    · walk_at "aw"
      refine w_tupD (by decide) fun t H2 nt a2 et => fin H' a' z t H2 nt a2 et
    · exact ⟨true, F.te, fun _ a ha => ⟨rfl, key _ rfl k z dd H' a' e a⟩, fun z => nomatch z⟩
  | false =>
    walk_at "aw"
    with_reducible refine w_callS ?_
    walk_at "aw"
    refine ⟨m1, m2, v, rfl, d1, d2, w, D, n, F.v, hm1, mok, hw, hl1, hm2, hl2, hD, hS, hn, fun z H' a' => ?_, fun k z dd H' a' e => ?_⟩
    · walk_at "aw"
      refine w_tupD (by decide) fun t H2 nt a2 et => fin H' a' z t H2 nt a2 et
    · exact ⟨true, F.te, fun _ a ha => ⟨rfl, key _ rfl k z dd H' a' e a⟩, fun z => nomatch z⟩
end AW
/-! expressions of which the very datum is told; lists of data that keep a property -/
namespace AW
open PySem PySem.Spec PyProof.Rows L2 RZ
theorem IsAll.drop {H : Hp} : ∀ {ds : List PyData} {xs : List V} (n : Nat), IsAll H ds xs → IsAll H (ds.drop n) (xs.drop n)
  | _, _, 0, h => h
  | _, _, _ + 1, .nil => .nil
  | _, _, n + 1, .cons _ t => IsAll.drop n t
theorem IsAll.take {H : Hp} : ∀ {ds : List PyData} {xs : List V} (n : Nat), IsAll H ds xs → IsAll H (ds.take n) (xs.take n)
  | _, _, 0, _ => .nil
  | _, _, _ + 1, .nil => .nil
  | _, _, n + 1, .cons a t => .cons a (IsAll.take n t)
theorem IsAll.rev {H : Hp} : ∀ {ds : List PyData} {xs : List V}, IsAll H ds xs → IsAll H ds.reverse xs.reverse
  | _, _, .nil => .nil
  | _, _, .cons a t => by
    rw [List.reverse_cons, List.reverse_cons]
    exact IsAll.append (IsAll.rev t) (.cons a .nil)
def cutD (ds : List PyData) (lo hi : Option Int) : List PyData := (ds.drop (HT.sIx ds.length 0 lo)).take (HT.sIx ds.length ds.length hi - HT.sIx ds.length 0 lo)
theorem IsAll.cut {H : Hp} {ds : List PyData} {xs : List V} {lo hi : Option Int} (h : IsAll H ds xs) : IsAll H (cutD ds lo hi) (cutV xs lo hi) := by
  unfold cutD cutV
  rw [h.length]
  exact (h.drop _).take _
theorem sIx_nat {n b k : Nat} (h : k ≤ n) : HT.sIx n b (some (k : Int)) = k := by
  unfold HT.sIx
  simp only []
  rw [if_neg (by omega)]
  omega
theorem sIx_past {n b k : Nat} (h : n ≤ k) : HT.sIx n b (some (k : Int)) = n := by
  unfold HT.sIx
  simp only []
  rw [if_neg (by omega)]
  omega
theorem cutD_upto {ds : List PyData} (k : Nat) : cutD ds none (some (k : Int)) = ds.take k := by
  unfold cutD
  rw [HT.sIx_none, List.drop_zero, Nat.sub_zero]
  rcases Nat.le_total k ds.length with h | h
  · rw [sIx_nat h]
  · rw [sIx_past h, List.take_of_length_le (Nat.le_refl _), List.take_of_length_le h]
theorem cutD_from {ds : List PyData} (k : Nat) : cutD ds (some (k : Int)) none = ds.drop k := by
  unfold cutD
  rw [HT.sIx_none]
  rcases Nat.le_total k ds.length with h | h
  · rw [sIx_nat h, List.take_of_length_le (by rw [List.length_drop]; omega)]
  · rw [sIx_past h, List.drop_of_length_le h, List.drop_of_length_le (Nat.le_refl _), List.take_nil]
theorem cut_init {ds : List PyData} : cutD ds none (some (-1)) = ds.dropLast := by
  unfold cutD
  rw [HT.sIx_none, List.drop_zero, Nat.sub_zero, List.dropLast_eq_take, six_last]
theorem sIx_end {n b : Nat} : HT.sIx n b (some (-1)) = n - 1 := by
  unfold HT.sIx
  simp only []
  rw [if_pos (by decide)]
  omega
theorem cut_end {ds : List PyData} : cutD ds (some (-1)) none = ds.drop (ds.length - 1) := by
  unfold cutD
  rw [HT.sIx_none, sIx_end, List.take_of_length_le (by rw [List.length_drop]; omega)]
theorem cut_mid {ds : List PyData} : cutD ds (some 1) (some 2) = (ds.drop 1).take 1 := by
  match ds with
  | [] => rfl
  | [_] => rfl
  | _ :: _ :: r =>
    unfold cutD
    rw [show (1 : Int) = ((1 : Nat) : Int) from rfl, show (2 : Int) = ((2 : Nat) : Int) from rfl, sIx_nat (k := 1) (by simp), sIx_nat (k := 2) (by simp)]
theorem okS_iff {x : Str} : okS x ↔ ∀ c ∈ x.cps.toList, c < 0x110000 := by
  unfold okS
  rw [← Array.all_toList, List.all_eq_true]
  simp
theorem okS_of (s : String) : okS (Str.ofString s) := by
  rw [okS_iff]
  intro c hc
  rw [Str.ofString_eq_toList] at hc
  have hc : c ∈ s.toList.map Char.toNat := by simpa using hc
  obtain ⟨d, _, rfl⟩ := List.mem_map.mp hc
  rcases d.valid with h | h
  · exact Nat.lt_trans h (by decide)
  · exact h.2
section
variable {K : PySem.W.Frag} {σ : L2.St} {H : Hp} {te tf : TE} {ta : TA} {D D1 D2 : PyData} {ds es : List PyData} {n m : Nat}
def EX (D : PyData) (te : TE) (σ : L2.St) (H : Hp) : Prop := ∀ (H' : Hp) (Q : VK), Adv [] H H' → (∀ v H'', Adv [] H' H'' → Is H'' D v → Q v H'') → te σ H' Q
def EXA (ds : List PyData) (ta : TA) (σ : L2.St) (H : Hp) : Prop := ∀ (H' : Hp) (Q : List V → Hp → Prop), Adv [] H H' → (∀ vs H'', Adv [] H' H'' → IsAll H'' ds vs → Q vs H'') → ta σ H' Q
def EXP (o : Option Int) (to : TO) (σ : L2.St) (H : Hp) : Prop := ∀ (H' : Hp) (Q : Option Int → Hp → Prop), Adv [] H H' → (∀ H'', Adv [] H' H'' → Q o H'') → to σ H' Q
theorem EX.get (h : EX D te σ H) {Q : VK} (q : ∀ v H', Adv [] H H' → Is H' D v → Q v H') : te σ H Q := h H Q (.refl _ _) q
theorem ex_c {v : V} (h : Is H D v) : EX D (tC v) σ H := fun H' Q a q => q v H' (.refl _ _) (h.up a.tup)
theorem ex_int {k : Int} : EX (.int k) (tC (.int k)) σ H := ex_c (.int _)
theorem ex_non : EX .none (tC .non) σ H := ex_c .non
theorem ex_bl {b : Bool} : EX (.bool b) (tC (.bl b)) σ H := ex_c (.bl b)
theorem ex_str {x : Str} : EX (.str x) (tC (.str x)) σ H := ex_c (.str x)
theorem ex_var {i : Nat} {v : V} (h : σ[i]? = some (some v)) (d : Is H D v) : EX D (tVar i) σ H := fun H' Q a q => ⟨v, h, q v H' (.refl _ _) (d.up a.tup)⟩
theorem ex_add {a b : Int} (h : EX (.int a) te σ H) (g : EX (.int b) tf σ H) : EX (.int (a + b)) (tOp rAddI te tf) σ H := fun H' Q g0 q => h H' _ g0 fun v H1 a1 e => g H1 _ (g0.trans a1) fun w H2 a2 e2 => by
  rw [e.int_inv, e2.int_inv]
  exact ⟨_, _, rfl, rfl, q _ H2 (a1.trans a2) (.int _)⟩
theorem ex_neg {a : Int} (h : EX (.int a) te σ H) : EX (.int (-a)) (tUn rNeg te) σ H := fun H' Q g0 q => h H' _ g0 fun v H1 a1 e => by
  rw [e.int_inv]
  exact ⟨_, rfl, q _ H1 a1 (.int _)⟩
theorem ex_eq {a b : Int} (h : EX (.int a) te σ H) (g : EX (.int b) tf σ H) : EX (.bool (decide (a = b))) (tOp rEq te tf) σ H := fun H' Q g0 q => h H' _ g0 fun v H1 a1 e => g H1 _ (g0.trans a1) fun w H2 a2 e2 => by
  rw [e.int_inv, e2.int_inv]
  refine ⟨rfl, ?_⟩
  rw [show decide (V.int a = V.int b) = decide (a = b) by simp]
  exact q _ H2 (a1.trans a2) (.bl _)
theorem exa_nil : EXA [] tNil σ H := fun H' Q a q => q [] H' (.refl _ _) .nil
theorem exa_cons (h : EX D te σ H) (g : EXA ds ta σ H) : EXA (D :: ds) (tCons te ta) σ H := fun H' Q a q => h H' _ a fun v H1 a1 dd => g H1 _ (a.trans a1) fun vs H2 a2 dds => q _ H2 (a1.trans a2) (.cons (dd.up a2.tup) dds)
theorem ex_tup (h : EXA ds ta σ H) (hn : ds.length ≤ 100000 := by simp) : EX (.tuple ds) (tTup ta) σ H := fun H' Q a q => h H' _ a fun vs H1 a1 dd => w_tupD (by rw [dd.length]; exact hn) fun t H2 nt a2 e => q _ H2 (a1.trans a2) (.tup e (dd.up a2.tup))
theorem ex_cat (h : EX (.tuple ds) te σ H) (g : EX (.tuple es) tf σ H) (hz : ds.length + es.length ≤ 100000) : EX (.tuple (ds ++ es)) (tOp (rCatA K) te tf) σ H := fun H' Q a q => h H' _ a fun v H1 a1 dd => g H1 _ (a.trans a1) fun w H2 a2 d2 => by
  obtain ⟨p, xs, rfl, e, hx⟩ := dd.tup_inv
  obtain ⟨r, ys, rfl, e2, hy⟩ := d2.tup_inv
  exact w_catT' (a2.tup _ _ e) e2 (by rw [hx.length, hy.length]; exact hz) fun t H3 a3 e3 => q _ H3 (a1.trans (a2.trans a3)) (.tup e3 ((hx.up (a2.trans a3).tup).append (hy.up a3.tup)))
theorem exp_no : EXP none tNoPart σ H := fun H' Q a q => q H' (.refl _ _)
theorem exp_int {k : Int} (h : EX (.int k) te σ H) : EXP (some k) (tPart te) σ H := fun H' Q a q => h H' _ a fun v H1 a1 e => by
  rw [e.int_inv]
  exact ⟨k, rfl, q H1 a1⟩
theorem ex_sl {lo hi : TO} {o o2 : Option Int} (h : EX (.tuple ds) te σ H) (l : EXP o lo σ H) (u : EXP o2 hi σ H) : EX (.tuple (cutD ds o o2)) (tSl (rSlA K) te lo hi) σ H := fun H' Q a q => h H' _ a fun v H1 a1 dd => l H1 _ (a.trans a1) fun H2 a2 => u H2 _ (a.trans (a1.trans a2)) fun H3 a3 => by
  obtain ⟨p, xs, rfl, e, hx⟩ := dd.tup_inv
  exact w_slA ((a2.trans a3).tup _ _ e) fun t H4 a4 e4 => q _ H4 (a1.trans ((a2.trans a3).trans a4)) (.tup e4 (hx.cut.up ((a2.trans a3).trans a4).tup))
theorem EX.to (h : EX D1 te σ H) (e : D1 = D2) : EX D2 te σ H := e ▸ h
theorem ex_upto {lo : TE} {k : Nat} (h : EX (.tuple ds) te σ H) (l : EX (.int (k : Int)) lo σ H) : EX (.tuple (ds.take k)) (tSl (rSlA K) te tNoPart (tPart lo)) σ H := (ex_sl h exp_no (exp_int l)).to (by rw [cutD_upto])
theorem ex_from {lo : TE} {k : Nat} (h : EX (.tuple ds) te σ H) (l : EX (.int (k : Int)) lo σ H) : EX (.tuple (ds.drop k)) (tSl (rSlA K) te (tPart lo) tNoPart) σ H := (ex_sl h (exp_int l) exp_no).to (by rw [cutD_from])
theorem ex_init (h : EX (.tuple ds) te σ H) : EX (.tuple ds.dropLast) (tSl (rSlA K) te tNoPart (tPart (tUn rNeg (tC (.int 1))))) σ H := (ex_sl h exp_no (exp_int (ex_neg ex_int))).to (by rw [← cut_init])
theorem ex_end (h : EX (.tuple ds) te σ H) : EX (.tuple (ds.drop (ds.length - 1))) (tSl (rSlA K) te (tPart (tUn rNeg (tC (.int 1)))) tNoPart) σ H := (ex_sl h (exp_int (ex_neg ex_int)) exp_no).to (by rw [← cut_end])
theorem ex_mid (h : EX (.tuple ds) te σ H) : EX (.tuple ((ds.drop 1).take 1)) (tSl (rSlA K) te (tPart (tC (.int 1))) (tPart (tC (.int 2)))) σ H := (ex_sl h (exp_int ex_int) (exp_int ex_int)).to (by rw [cut_mid])
theorem ex_rev (h : EX (.tuple ds) te σ H) : EX (.tuple ds.reverse) (tRevT K te) σ H := fun H' Q a q => h H' _ a fun v H1 a1 dd => by
  obtain ⟨p, xs, rfl, e, hx⟩ := dd.tup_inv
  exact ⟨p, xs, rfl, SqT.of e, w_new fun t H2 nt a2 e2 => q _ H2 (a1.trans a2) (.tup e2 (hx.rev.up a2.tup))⟩
theorem ex_ix {i : Nat} (h : EX (.tuple ds) te σ H) (g : EX (.int (i : Int)) tf σ H) (e : ds[i]? = some D) : EX D (tOp (rIxT K) te tf) σ H := fun H' Q a q => h H' _ a fun v H1 a1 dd => g H1 _ (a.trans a1) fun w H2 a2 d2 => by
  obtain ⟨p, xs, rfl, e1, hx⟩ := dd.tup_inv
  rw [d2.int_inv]
  obtain ⟨v, hv, hd⟩ := hx.get' e
  exact w_ixT (SqT.of (a2.tup _ _ e1)) (at_of (j := i) (by omega) hv) (q _ H2 (a1.trans a2) (hd.up a2.tup))
theorem ex_ixL0 {i : Nat} {l : Addr} {v : V} {xs : List V} (h : σ[i]? = some (some (.ref l))) (e : H l = some (.lst (v :: xs))) (hd : Is H D v) : EX D (tOp (rIxL K) (tVar i) (tC (.int 0))) σ H := fun H' Q a q =>
  ⟨_, h, w_ixL (SqL.of (a.keep _ _ (fun z => nomatch z) e)) (v := v) (at_nat (by decide) rfl) (q _ H' (.refl _ _) (hd.up a.tup))⟩
/-! lists of data that keep a property -/
def AllP (P : PyData → Prop) (H : Hp) (xs : List V) : Prop := ∀ x ∈ xs, ∃ D, Is H D x ∧ P D
theorem AllP.up {P : PyData → Prop} {H H' : Hp} {xs : List V} (h : AllP P H xs) (k : TK H H') : AllP P H' xs := fun x hx => by
  obtain ⟨D, h1, h2⟩ := h x hx
  exact ⟨D, h1.up k, h2⟩
theorem AllP.of {P : PyData → Prop} {H : Hp} {ds : List PyData} {xs : List V} (h : IsAll H ds xs) (p : ∀ d ∈ ds, P d) : AllP P H xs := fun x hx => by
  obtain ⟨i, hi, rfl⟩ := List.mem_iff_getElem.mp hx
  obtain ⟨d, e, hd⟩ := h.get (List.getElem?_eq_getElem hi)
  exact ⟨d, hd, p d (List.mem_of_getElem? e)⟩
theorem tk_lst {H : Hp} {l : Addr} {xs : List V} {o : HO} (e : H l = some (.lst xs)) : TK H (upd H l o) := (Adv.lst e).tup
/-- the list at l, made over the heap Hb, has n data that keep P -/
def FB (P : PyData → Prop) (Hb : Hp) (l : Addr) (n : Nat) (H : Hp) : Prop := Adv [] Hb H ∧ ∃ xs, H l = some (.lst xs) ∧ AllP P H xs ∧ xs.length = n
theorem FB.up {P : PyData → Prop} {Hb H H' : Hp} {l : Addr} (f : FB P Hb l n H) (a : Adv [] H H') : FB P Hb l n H' := by
  obtain ⟨a0, xs, e, p, hl⟩ := f
  exact ⟨a0.trans a, xs, a.keep _ _ (fun z => nomatch z) e, p.up a.tup, hl⟩
/-- l.append(a datum that keeps P) -/
theorem w_appP {P : PyData → Prop} {Hb : Hp} {l : Addr} {i : Nat} {E : Ends} (f : FB P Hb l n H) (nl : Hb l = none) (hn : n ≤ 1000) (hσ : σ[i]? = some (some (.ref l))) (h : EX D te σ Hb) (p : P D) (q : ∀ H', FB P Hb l (n + 1) H' → E.nx σ H') : tDrop (tBM K "list" rAppend (tVar i) (tCons te tNil)) E σ H := by
  obtain ⟨a0, xs, e, ps, hl⟩ := f
  refine ⟨_, hσ, .inl ⟨rfl, _, SqL.of e⟩, ?_⟩
  refine h H _ a0 fun v H1 a1 hd => ?_
  have e1 := a1.keep _ _ (fun z => nomatch z) e
  refine w_nil ?_
  dsimp only
  refine w_append e1 (by omega) ?_
  refine q _ ⟨(a0.trans a1).mut nl e1 (fun _ z => by cases z), xs ++ [v], upd_same, fun x hx => ?_, by rw [List.length_append, hl]; rfl⟩
  rcases List.mem_append.mp hx with hx | hx
  · exact ((ps.up a1.tup).up (tk_lst e1)) x hx
  · rw [List.mem_singleton.mp hx]
    exact ⟨D, hd.up (tk_lst e1), p⟩
/-- a new list of such data -/
theorem w_lstP {P : PyData → Prop} {Q : VK} (h : EXA ds ta σ H) (p : ∀ d ∈ ds, P d) (hn : ds.length ≤ 1000) (q : ∀ l H', H l = none → FB P H l ds.length H' → Q (.ref l) H') : tLst ta σ H Q :=
  h H _ (.refl _ _) fun vs H1 a1 dd => w_lstD (by rw [dd.length]; omega) fun l H2 nl a2 e => q l H2 (a1.free (fun z => nomatch z) nl) ⟨a1.trans a2, vs, e, (AllP.of dd p).up a2.tup, dd.length⟩
/-- a list of such data, and some more -/
theorem w_catP {P : PyData → Prop} {Hb : Hp} {l : Addr} {i : Nat} {Q : VK} (f : FB P Hb l n H) (hσ : σ[i]? = some (some (.ref l))) (h : EXA ds ta σ Hb) (p : ∀ d ∈ ds, P d) (hn : n + ds.length ≤ 1000) (q : ∀ l' H', Hb l' = none → FB P Hb l' (n + ds.length) H' → Q (.ref l') H') : tOp rCat (tVar i) (tLst ta) σ H Q := by
  obtain ⟨a0, xs, e, ps, hl⟩ := f
  refine ⟨_, hσ, ?_⟩
  refine h H _ a0 fun vs H1 a1 dd => ?_
  show kLstD vs H1 (fun y H2 => rCat (.ref l) y H2 Q)
  refine w_lstD (by rw [dd.length]; omega) fun l2 H2 nl2 a2 e2 => ?_
  refine w_catB ((a1.trans a2).keep _ _ (fun z => nomatch z) e) e2 (by rw [dd.length, hl]; omega) fun r H3 nr a3 e3 => ?_
  refine q r H3 ((a0.trans (a1.trans a2)).free (fun z => nomatch z) nr) ⟨a0.trans ((a1.trans a2).trans a3), _, e3, fun x hx => ?_, by rw [List.length_append, hl, dd.length]⟩
  rcases List.mem_append.mp hx with hx | hx
  · exact ((ps.up (a1.trans a2).tup).up a3.tup) x hx
  · exact (((AllP.of dd p).up a2.tup).up a3.tup) x hx
/-- one of the list, drawn -/
theorem w_pickP {P : PyData → Prop} {Hb : Hp} {st l : Addr} {cs : Addr × Addr} {i : Nat} {Q : VK} (f : FB P Hb l n H) (ok : StOk st cs Hb) (nl : Hb l = none) (h0 : σ[0]? = some (some (.ref st))) (hσ : σ[i]? = some (some (.ref l))) (n0 : 0 < n) (n1 : n < 1000) (q : ∀ v D H', Go st cs Hb H' → Is H' D v → P D → Q v H') :
    tOp (rIxL K) (tVar i) (tCall (sp__law_draw K) [] E0 (tCons (tVar 0) (tCons (tCB (rLen1 K) (tCons (tVar i) tNil)) tNil))) σ H Q := by
  obtain ⟨a0, xs, e, ps, hl⟩ := f
  have g0 := Go.of ok a0
  refine ⟨_, hσ, _, h0, _, hσ, ?_⟩
  refine w_nil ?_
  dsimp only
  refine w_lenL (SqL.of e) ?_
  refine w_nil ?_
  dsimp only [List.append_nil, List.cons_append, List.nil_append]
  show sp__law_draw K [.ref st, .int (xs.length : Nat)] H _ _
  refine w_draw (lim := (xs.length : Nat)) g0.ok (by omega) (by omega) fun k H2 k0 k1 g2 => ?_
  have e2 := g2.keep (ok.ne nl).1 e
  refine w_ixL (SqL.of e2) (v := xs[k.toNat]'(by omega)) (at_nat k0 (List.getElem?_eq_getElem (by omega))) ?_
  obtain ⟨D, hd, p⟩ := ps _ (List.getElem_mem (by omega : k.toNat < xs.length))
  exact q _ D H2 (g0.trans g2) (hd.up g2.tk) p
/-- one of these data, drawn -/
theorem w_ofP {P : PyData → Prop} {st : Addr} {cs : Addr × Addr} {Q : VK} {m : Int} (h : EXA ds ta σ H) (p : ∀ d ∈ ds, P d) (ok : StOk st cs H) (h0 : σ[0]? = some (some (.ref st))) (hm : m = (ds.length : Nat)) (n0 : 0 < ds.length) (n1 : ds.length < 1000) (q : ∀ v D H', Go st cs H H' → Is H' D v → P D → Q v H') :
    tOp (rIxL K) (tLst ta) (tCall (sp__law_draw K) [] E0 (tCons (tVar 0) (tCons (tC (.int m)) tNil))) σ H Q := by
  refine h H _ (.refl _ _) fun vs H1 a1 dd => ?_
  have hl := dd.length
  exact w_ofL (Go.of ok a1).ok h0 (by rw [hm, hl]) (by omega) (by omega) fun v hv H2 g2 => by
    obtain ⟨D, hd, pD⟩ := (AllP.of dd p) v hv
    exact q v D H2 ((Go.of ok a1).trans g2) (hd.up g2.tk) pD
end
end AW
namespace AW
open PySem PySem.Spec PyProof.Rows L2 RZ
open StX
local macro_rules | `(tactic| walk_at "aw1") => `(tactic| first
  | (with_reducible refine w_seq ?_) | (with_reducible refine w_asg ?_) | (with_reducible refine w_gname ?_) | (with_reducible refine w_op ?_) | (with_reducible refine w_un ?_)
  | ((with_reducible refine' w_var ?h ?_); (case h => rfl)) | (with_reducible refine w_c ?_)
  | (with_reducible refine w_I0 ?_) | (with_reducible refine w_U ?_) | (with_reducible refine w_cb ?_) | (with_reducible refine w_nil ?_) | (with_reducible refine w_cons ?_) | (with_reducible refine w_call ?_)
  | (with_reducible refine w_test ?_) | (with_reducible refine w_B ?_) | (with_reducible refine w_bl ?_) | (with_reducible refine w_not ?_) | (with_reducible refine w_yes ?_) | (with_reducible refine iteT ?_) | (with_reducible refine iteF ?_) | (with_reducible refine w_and ?_) | (with_reducible refine w_or ?_)
  | (with_reducible refine w_andV ?_) | (with_reducible refine w_orV ?_) | (with_reducible refine w_notV ?_) | (with_reducible refine w_if ?_)
  | (with_reducible refine w_int1 ?_) | (with_reducible refine w_int1b ?_) | (with_reducible refine w_abs ?_) | (with_reducible refine w_max2 ?_) | (with_reducible refine w_min2 ?_)
  | ((with_reducible refine w_eq ?h ?_); (case h => rfl)) | ((with_reducible refine w_ne ?h ?_); (case h => rfl)) | (with_reducible refine w_isN ?_) | (with_reducible refine w_isB ?_) | (with_reducible refine w_chain ?_)
  | (with_reducible refine w_ret ?_) | (with_reducible refine w_drop ?_) | (with_reducible refine w_ifS ?_) | (with_reducible refine w_gsub ?_) | (with_reducible refine w_augS ?_) | (with_reducible refine w_ipI ?_) | (with_reducible refine w_next ?_)
  | (with_reducible refine w_forR ?_) | (with_reducible refine w_forR2 ?_) | (with_reducible refine w_forL ?_) | (with_reducible refine w_forT ?_) | (with_reducible refine w_lcR ?_) | (with_reducible refine w_lcL ?_) | (with_reducible refine w_lcT ?_) | (with_reducible refine w_sl ?_) | (with_reducible refine w_part ?_) | (with_reducible refine w_noPart ?_) | (with_reducible refine w_in ?_)
  | (with_reducible refine w_gcons ?_) | (with_reducible refine w_gnil ?_) | (with_reducible refine w_lc3 ?_) | (with_reducible refine w_dcZ ?_) | (with_reducible refine w_dcT ?_) | (with_reducible refine w_dg ?_) | (with_reducible refine w_callK ?_) | (with_reducible refine w_dput ?_) | (with_reducible refine w_tup1 ?_)
  | (with_reducible refine w_tup ?_) | (with_reducible refine w_lst ?_)
  | ((with_reducible refine w_I ?h ?_); (case h => first | (exact Or.inr ⟨by decide, by decide⟩) | (exact Or.inl ⟨by decide, by decide⟩) | (show (0 : Int) < _; decide) | (exact ⟨by decide, by decide, by decide⟩) | assumption)))
local macro_rules | `(tactic| walk_at "aw") => `(tactic| repeat (walk_at "aw1"))
/-- names of an item that are wrong -/
def BadN (nms : List Str) (N : PyData) : Prop := unkB nms N 3 = false ∧ Sw 2 N
def sp__law_spoilt_names (_ : PySem.W.Frag) : Sp := fun vs H Q _ => ∃ (st it : Addr) (m : V), vs = [.ref st, m, .ref it] ∧ ∃ cs doms w R, ∃ xs : List Str, StOk st cs H ∧ MdlAt H m doms ∧ MdlOk w doms ∧ doms.length ≤ 24 ∧ Is H (.tuple [.tuple (xs.map .str), R]) (.ref it) ∧ 1 ≤ xs.length ∧ xs.length ≤ 3 ∧ xs.Nodup ∧ (∀ x ∈ xs, x ∈ doms.map (·.1)) ∧ ∀ t N H', Go st cs H H' → Is H' (.tuple [N, R]) (.ref t) → BadN (doms.map (·.1)) N → Q (.ref t) H'
theorem inV_str (x : Str) (xs : List Str) : inV (.str x) (xs.map V.str) = decide (x ∈ xs) := by
  unfold inV
  rw [Bool.eq_iff_iff, List.any_map, List.any_eq_true, decide_eq_true_iff]
  constructor
  · rintro ⟨y, hy, e⟩
    have : y = x := by simpa [eqV] using e
    exact this ▸ hy
  · intro h
    exact ⟨x, h, by simp [eqV]⟩
theorem inV_int (x : Int) (xs : List Int) : inV (.int x) (xs.map V.int) = decide (x ∈ xs) := by
  unfold inV
  rw [Bool.eq_iff_iff, List.any_map, List.any_eq_true, decide_eq_true_iff]
  constructor
  · rintro ⟨y, hy, e⟩
    have : y = x := by simpa [eqV] using e
    exact this ▸ hy
  · intro h
    exact ⟨x, h, by simp [eqV]⟩
theorem flat_strs (xs : List Str) : (xs.map V.str).all flatV = true := by
  rw [List.all_map, List.all_eq_true]
  intro x _
  rfl
theorem flat_ints (xs : List Int) : (xs.map V.int).all flatV = true := by
  rw [List.all_map, List.all_eq_true]
  intro x _
  rfl
/-! wrong names -/
theorem unk_mem {nms : List Str} {ds : List PyData} {m : Int} {d : PyData} (h : d ∈ ds) (hd : nameIn nms d = false) : unkB nms (.tuple ds) m = false := by
  have : ds.all (nameIn nms) = false := by
    rw [List.all_eq_false]
    exact ⟨d, h, by rw [hd]; decide⟩
  unfold unkB
  simp only [this, Bool.and_false, Bool.false_and]
theorem unk_long {nms : List Str} {ds : List PyData} {m : Int} (h : m < ds.length) : unkB nms (.tuple ds) m = false := by
  have : decide ((ds.length : Int) ≤ m) = false := decide_eq_false (by omega)
  unfold unkB
  simp only [this, Bool.and_false, Bool.false_and]
theorem unk_nd {nms : List Str} {ds : List PyData} {m : Int} (h : ¬ (ds.map txtD).Nodup) : unkB nms (.tuple ds) m = false := by
  have : decide (ds.map txtD).Nodup = false := decide_eq_false h
  unfold unkB
  simp only [this, Bool.and_false]
theorem sw_strs {k : Nat} {xs : List Str} (h : ∀ x ∈ xs, okS x) : ∀ d ∈ xs.map PyData.str, Sw k d := fun d hd => by
  obtain ⟨x, hx, rfl⟩ := List.mem_map.mp hd
  exact .str (h x hx)
theorem okS_allN {x : Str} (h : x ∈ allM) : okS x := by
  have := allM_ok x h
  exact this
def t__law_spoilt_names (K : PySem.W.Frag) : TS := (tSeq (tAsg (tVar 2) (gTup K 2 (gCons (gName 3) (gCons (gName 4) gNil))))
  (tSeq (tAsg (tLc (iTup K (tOp (rIxT K) (tVar 1) (tC (.int 0)))) (gName 6) tYes (tOp (rIxT K) (tVar 6) (tC (.int 0))) [6]) (gName 5))
  (tSeq (tAsg (tLc (iList K (tLst (tCons (tC (.str "a")) (tCons (tC (.str "b")) (tCons (tC (.str "x")) (tCons (tC (.str "new")) tNil)))))) (gName 8) (tTest (tOp (rIn K true) (tVar 8) (tVar 5))) (tVar 8) [8]) (gName 7))
  (tSeq (tAsg (tLst (tCons (tTup tNil) (tCons (tOp (rCatA K) (tVar 3) (tTup (tCons (tOp (rIxL K) (tVar 7) (tC (.int 0))) tNil))) (tCons (tOp (rCatA K) (tTup (tCons (tOp (rIxL K) (tVar 7) (tC (.int 0))) tNil)) (tSl (rSlA K) (tVar 3) (tPart (tC (.int 1))) tNoPart)) (tCons (tOp (rCatA K) (tSl (rSlA K) (tVar 3) tNoPart (tPart (tUn rNeg (tC (.int 1))))) (tTup (tCons (tC (.int 0)) tNil))) (tCons (tOp (rCatA K) (tSl (rSlA K) (tVar 3) tNoPart (tPart (tUn rNeg (tC (.int 1))))) (tTup (tCons (tC .non) tNil))) (tCons (tOp (rCatA K) (tSl (rSlA K) (tVar 3) tNoPart (tPart (tUn rNeg (tC (.int 1))))) (tTup (tCons (tVar 3) tNil))) tNil))))))) (gName 9))
  (tSeq (tAsg (tOp rCat (tVar 9) (tLst (tCons (tOp (rCatA K) (tVar 3) (tSl (rSlA K) (tVar 3) tNoPart (tPart (tC (.int 1))))) (tCons (tOp (rIxT K) (tVar 3) (tC (.int 0))) (tCons (tC .non) (tCons (tOp (rCatA K) (tVar 3) (tTup (tCons (tC (.bl true)) tNil))) (tCons (tC (.int 1)) tNil))))))) (gName 9))
  (tSeq (tIfS (tTest (tOp rGtI (tCB (rLen1 K) (tCons (tVar 5) tNil)) (tC (.int 3)))) (tDrop (tBM K "list" rAppend (tVar 9) (tCons (tThen (tSl (rSlL K) (tVar 5) tNoPart (tPart (tC (.int 4)))) (kTup K)) tNil))) tNext)
  (tRet (tTup (tCons (tOp (rIxL K) (tVar 9) (tCall (sp__law_draw K) [] E0 (tCons (tVar 0) (tCons (tCB (rLen1 K) (tCons (tVar 9) tNil)) tNil)))) (tCons (tVar 4) tNil))))))))))
theorem len__law_spoilt_names {K : PySem.W.Frag} : ∀ (vs : List V) (H : Hp) (Q : VK) (E : XK), sp__law_spoilt_names K vs H Q E → vs.length = 3 := fun vs H Q E h => by
  obtain ⟨_, _, _, rfl, _⟩ := h
  rfl
theorem pure__law_spoilt_names {K : PySem.W.Frag} (vs : List V) (H : Hp) (Q : VK) (E : XK) (h : sp__law_spoilt_names K vs H Q E) : t__law_spoilt_names K { nx := fun _ H' => Q .non H', rt := Q } (start ["tape", "one", "item", "xs", "rows", "names", "pair", "strange", "name", "found"] vs) H := by
  obtain ⟨st, it, m, rfl, cs, doms, w, R, xs, ok, hm, mok, hl, hit, l1, l3, nd, sub, q⟩ := h
  obtain ⟨ma, mb, r, us, rfl, e1, e2, hus⟩ := id hm
  have hul := hus.1
  show t__law_spoilt_names K _ [some (.ref st), some (.ref ma), some (.ref it), none, none, none, none, none, none, none] H
  unfold t__law_spoilt_names
  obtain ⟨it', vs, ev, eit, hvs⟩ := hit.tup_inv
  cases ev
  obtain ⟨v0, v1, rfl⟩ : ∃ v0 v1, vs = [v0, v1] := by
    match vs, hvs.length with
    | [a, b], _ => exact ⟨a, b, rfl⟩
  have hX : Is H (.tuple (xs.map .str)) v0 := by
    obtain ⟨d, h1, h2⟩ := hvs.get (i := 0) rfl
    cases h1
    exact h2
  have hR : Is H R v1 := by
    obtain ⟨d, h1, h2⟩ := hvs.get (i := 1) rfl
    cases h1
    exact h2
  walk_at "aw"
  refine w_gtup (SqT.of eit) rfl ?_
  walk_at "aw"
  refine w_ixT (SqT.of e1) (at_nat (by decide) rfl) ?_
  refine ⟨mb, rfl, ⟨_, SqT.of e2⟩, kLc_pure (walk_tup (xs := us)) (by omega) (fun H' g => SqT.of (g.tup _ _ e2)) (fun _ => true) (fun i => .str ((doms.map (·.1)).getD i Str.empty)) (fun i u H2 H3 Kt Kf hi g2 yy kt kf => ?_) fun l H2 nl g2 el => ?_⟩
  · obtain ⟨rfl, hu⟩ := yy
    obtain ⟨p, qd, d, rfl, hd, ep, eqd⟩ := hus.2 i u hu
    rw [getD_of (show (doms.map (·.1))[i]? = some d.1 by rw [List.getElem?_map, hd]; rfl)] at kt
    walk_at "aw"
    refine ⟨rfl, ?_⟩
    walk_at "aw"
    exact w_ixT (SqT.of (g2.tup _ _ ep)) (at_nat (by decide) rfl) (kt rfl _ (.refl _ _))
  have el' : H2 l = some (.lst ((doms.map (·.1)).map V.str)) := by
    rw [el, filter_true, hul]
    congr 2
    conv => rhs; rw [← range_getD (doms.map (·.1)) Str.empty]
    rw [List.length_map, List.map_map]
    rfl
  generalize hnms : doms.map (·.1) = nms at el' sub q
  have hnl : nms.length = doms.length := by rw [← hnms, List.length_map]
  have hnA : ∀ x ∈ nms, x ∈ allM := fun x hx => mok.nm x (hnms ▸ hx)
  walk_at "aw"
  -- the strange names
  refine w_lstD (by simp) fun l4 H3 nl4 g3 el4 => ?_
  have el3 := g3.keep _ _ (fun z => nomatch z) el'
  refine ⟨l4, rfl, ⟨_, SqL.of el4⟩, kLc_pure (walk_list (xs := (["a", "b", "x", "new"] : List Str).map V.str)) (by simp) (fun H' g => SqL.of (g.keep _ _ (fun z => nomatch z) el4)) (fun i => !decide ((["a", "b", "x", "new"] : List Str).getD i Str.empty ∈ nms)) (fun i => .str ((["a", "b", "x", "new"] : List Str).getD i Str.empty)) (fun i u H4 H5 Kt Kf hi g4 yy kt kf => ?_) fun l5 H4 nl5 g4 el5 => ?_⟩
  · obtain ⟨rfl, hu⟩ := yy
    rw [List.getElem?_map] at hu
    obtain ⟨x, hx, rfl⟩ := Option.map_eq_some_iff.mp hu
    rw [getD_of hx] at kt kf
    walk_at "aw"
    refine ⟨rfl, ?_⟩
    walk_at "aw"
    refine ⟨l, _, rfl, .inl (SqL.of (g4.keep _ _ (fun z => nomatch z) el3)), rfl, flat_strs _, ?_⟩
    rw [inV_str]
    walk_at "aw"
    cases hb : decide (x ∈ nms) with
    | true =>
      refine iteF'' rfl ?_
      exact kf (by rw [hb]; rfl) _ (.refl _ _)
    | false =>
      refine iteT'' rfl ?_
      walk_at "aw"
      exact kt (by rw [hb]; rfl) _ (.refl _ _)
  obtain ⟨s, ss, hss, hsn, hsk⟩ : ∃ (s : Str) (ss : List V), H4 l5 = some (.lst (.str s :: ss)) ∧ s ∉ nms ∧ okS s := by
    generalize hF : ((List.range ((["a", "b", "x", "new"] : List Str).map V.str).length).filter fun i => !decide ((["a", "b", "x", "new"] : List Str).getD i Str.empty ∈ nms)) = F at el5
    have h3 : 3 ∈ F := by
      rw [← hF, List.mem_filter]
      refine ⟨by decide, ?_⟩
      rw [Bool.not_eq_true', decide_eq_false_iff_not]
      intro z
      exact absurd (hnA _ z) (by unfold allM allN; decide +kernel)
    cases F with
    | nil => simp at h3
    | cons i F =>
      have hi : i ∈ i :: F := List.mem_cons_self ..
      rw [← hF, List.mem_filter, Bool.not_eq_true', decide_eq_false_iff_not] at hi
      refine ⟨_, _, el5, hi.2, ?_⟩
      have hi4 : i < 4 := List.mem_range.mp hi.1
      match i, hi4 with
      | 0, _ => exact okS_of "a"
      | 1, _ => exact okS_of "b"
      | 2, _ => exact okS_of "x"
      | 3, _ => exact okS_of "new"
  have a04 := g2.trans (g3.trans g4)
  have hX4 := hX.up a04.tup
  have ok4 := (Go.of ok a04).ok
  have okx : ∀ x ∈ xs, okS x := fun x hx => okS_allN (hnA x (sub x hx))
  obtain ⟨x0, xr, hxs⟩ : ∃ x0 xr, xs = x0 :: xr := by
    cases xs with
    | nil => simp at l1
    | cons a b => exact ⟨a, b, rfl⟩
  have X : ∀ σ : L2.St, σ[3]? = some (some v0) → EX (.tuple (xs.map .str)) (tVar 3) σ H4 := fun σ h => ex_var h hX4
  have S0 : ∀ σ : L2.St, σ[7]? = some (some (.ref l5)) → EX (.str s) (tOp (rIxL K) (tVar 7) (tC (.int 0))) σ H4 := fun σ h => ex_ixL0 h hss (.str s)
  have lm : (xs.map PyData.str).length = xs.length := List.length_map ..
  have sX : ∀ d ∈ xs.map PyData.str, Sw 1 d := sw_strs okx
  have sI : ∀ d ∈ (xs.map PyData.str).dropLast, Sw 1 d := fun d hd => sX d ((List.dropLast_sublist _).subset hd)
  have lI : (xs.map PyData.str).dropLast.length ≤ 3 := by rw [List.length_dropLast, lm]; omega
  have app : ∀ (as bs : List PyData), (∀ d ∈ as, Sw 1 d) → (∀ d ∈ bs, Sw 1 d) → as.length + bs.length ≤ 300 → Sw 2 (.tuple (as ++ bs)) := fun as bs h1 h2 h3 => .tup (by rw [List.length_append]; exact h3) fun d hd => by
    rcases List.mem_append.mp hd with hd | hd
    · exact h1 d hd
    · exact h2 d hd
  have one : ∀ d, Sw 1 d → ∀ e ∈ [d], Sw 1 e := fun d h e he => by rw [List.mem_singleton.mp he]; exact h
  have bS : nameIn nms (.str s) = false := decide_eq_false hsn
  have bads1 : ∀ d ∈ [.tuple [], .tuple (xs.map .str ++ [.str s]), .tuple ([.str s] ++ (xs.map .str).drop 1), .tuple ((xs.map .str).dropLast ++ [.int 0]), .tuple ((xs.map .str).dropLast ++ [.none]), .tuple ((xs.map .str).dropLast ++ [.tuple (xs.map .str)])], BadN nms d := by
    intro d hd
    simp only [List.mem_cons, List.not_mem_nil, or_false] at hd
    rcases hd with rfl | rfl | rfl | rfl | rfl | rfl
    · exact ⟨rfl, .tup (by simp) (fun _ h => nomatch h)⟩
    · exact ⟨unk_mem (List.mem_append_right _ (List.mem_singleton_self _)) bS, app _ _ sX (one _ (.str hsk)) (by simp; omega)⟩
    · exact ⟨unk_mem (List.mem_append_left _ (List.mem_singleton_self _)) bS, app _ _ (one _ (.str hsk)) (fun d hd => sX d (List.mem_of_mem_drop hd)) (by simp; omega)⟩
    · exact ⟨unk_mem (List.mem_append_right _ (List.mem_singleton_self _)) rfl, app _ _ sI (one _ (.int 0)) (by simp; omega)⟩
    · exact ⟨unk_mem (List.mem_append_right _ (List.mem_singleton_self _)) rfl, app _ _ sI (one _ .non) (by simp; omega)⟩
    · exact ⟨unk_mem (List.mem_append_right _ (List.mem_singleton_self _)) rfl, app _ _ sI (one _ (.tup (by rw [lm]; omega) (sw_strs okx))) (by simp; omega)⟩
  have bads2 : ∀ d ∈ [.tuple (xs.map .str ++ (xs.map .str).take 1), .str x0, .none, .tuple (xs.map .str ++ [.bool true]), .int 1], BadN nms d := by
    intro d hd
    simp only [List.mem_cons, List.not_mem_nil, or_false] at hd
    rcases hd with rfl | rfl | rfl | rfl | rfl
    · refine ⟨unk_nd fun z => ?_, app _ _ sX (fun d hd => sX d (List.mem_of_mem_take hd)) (by simp; omega)⟩
      rw [hxs] at z
      simp [txtD] at z
    · exact ⟨rfl, .str (okx x0 (by rw [hxs]; exact List.mem_cons_self ..))⟩
    · exact ⟨rfl, .non⟩
    · exact ⟨unk_mem (List.mem_append_right _ (List.mem_singleton_self _)) rfl, app _ _ sX (one _ (.bl true)) (by simp; omega)⟩
    · exact ⟨rfl, .int 1⟩
  with_reducible refine w_gname ?_
  with_reducible refine w_seq ?_
  with_reducible refine w_asg ?_
  refine w_lstP (exa_cons (ex_tup exa_nil) (exa_cons (ex_cat (X _ rfl) (ex_tup (exa_cons (S0 _ rfl) exa_nil)) (by simp; omega)) (exa_cons (ex_cat (ex_tup (exa_cons (S0 _ rfl) exa_nil)) (ex_from (k := 1) (X _ rfl) ex_int) (by simp; omega)) (exa_cons (ex_cat (ex_init (X _ rfl)) (ex_tup (exa_cons ex_int exa_nil)) (by simp; omega)) (exa_cons (ex_cat (ex_init (X _ rfl)) (ex_tup (exa_cons ex_non exa_nil)) (by simp; omega)) (exa_cons (ex_cat (ex_init (X _ rfl)) (ex_tup (exa_cons (X _ rfl) exa_nil)) (by simp; omega)) exa_nil)))))) bads1 (by simp) fun lf H5 nlf fb => ?_
  with_reducible refine w_gname ?_
  with_reducible refine w_seq ?_
  with_reducible refine w_asg ?_
  refine w_catP fb rfl (exa_cons (ex_cat (X _ rfl) (ex_upto (k := 1) (X _ rfl) ex_int) (by simp; omega)) (exa_cons (ex_ix (i := 0) (X _ rfl) ex_int (by rw [hxs]; rfl)) (exa_cons ex_non (exa_cons (ex_cat (X _ rfl) (ex_tup (exa_cons ex_bl exa_nil)) (by simp; omega)) (exa_cons ex_int exa_nil))))) bads2 (by simp) fun lg H6 nlg fb => ?_
  have fb : FB (BadN nms) H4 lg 11 H6 := fb
  have fin : ∀ n H', FB (BadN nms) H4 lg n H' → 0 < n → n < 100 → tRet (tTup (tCons (tOp (rIxL K) (tVar 9) (tCall (sp__law_draw K) [] E0 (tCons (tVar 0) (tCons (tCB (rLen1 K) (tCons (tVar 9) tNil)) tNil)))) (tCons (tVar 4) tNil))) { nx := fun _ H' => Q .non H', rt := Q } [some (.ref st), some (.ref ma), some (.ref it), some v0, some v1, some (.ref l), none, some (.ref l5), none, some (.ref lg)] H' := by
    intro n H' f n0 n1
    with_reducible refine w_ret ?_
    with_reducible refine w_tup ?_
    with_reducible refine w_cons ?_
    refine w_pickP f ok4 nlg rfl rfl n0 (by omega) fun v D H7 g7 hv hD => ?_
    walk_at "aw"
    refine w_tupD (by simp) fun t H8 nt a8 et => ?_
    have g := (Go.of ok a04).trans g7
    exact q t D H8 (g.new a8) (.tup et (.cons (hv.up a8.tup) (.cons ((hR.up g.tk).up a8.tup) .nil))) hD
  with_reducible refine w_gname ?_
  with_reducible refine w_seq ?_
  have elN := (fb.1.keep _ _ (fun z => nomatch z) ((g3.trans g4).keep _ _ (fun z => nomatch z) el'))
  walk_at "aw"
  refine w_lenL (SqL.of elN) ?_
  walk_at "aw"
  rw [List.length_map]
  by_cases h4 : 3 < nms.length
  · refine iteT'' (decide_eq_true (by omega)) ?_
    refine w_appP (D := .tuple ((nms.take 4).map .str)) fb nlg (by omega) rfl (fun Ha Q a q => ?_) ⟨unk_long (by rw [List.length_map, List.length_take]; omega), .tup (by rw [List.length_map, List.length_take]; omega) (sw_strs fun x hx => okS_allN (hnA x (List.mem_of_mem_take hx)))⟩ fun H7 f7 => ?_
    · have el5' := a.keep _ _ (fun z => nomatch z) ((g3.trans g4).keep _ _ (fun z => nomatch z) el')
      walk_at "aw"
      refine w_slL (SqL.of el5') fun r5 H8 nr5 a8 e8 => ?_
      rw [cut_to _ (by decide)] at e8
      refine w_tupL (SqL.of e8) fun t5 H9 nt5 a9 e9 => ?_
      refine q _ H9 (a8.trans a9) (.tup e9 ?_)
      rw [← List.map_take]
      exact IsAll.strs _
    · exact fin _ _ f7 (by omega) (by omega)
  · refine iteF'' (decide_eq_false (by omega)) ?_
    with_reducible refine w_next ?_
    exact fin _ _ fb (by omega) (by omega)
end AW
/-! right rows, and rows that are wrong -/
namespace AW
open PySem PySem.Spec PyProof.Rows L2 RZ
def rowP (r : List Int) : PyData := .tuple (r.map .int)
def rowsD (rs : List (List Int)) : PyData := .tuple (rs.map rowP)
theorem rowI_P (r : List Int) : rowI (rowP r) = r := by
  unfold rowI rowP
  dsimp only
  rw [List.map_map]
  exact (List.map_congr_left fun x _ => rfl).trans (List.map_id r)
theorem foldR_len (cols : List (List Int)) : ∀ rows : List (List Int), (cols.foldl stepR rows).length = (cols.map (·.length)).foldl (· * ·) rows.length := by
  induction cols with
  | nil => intro rows; rfl
  | cons c cols ih =>
    intro rows
    rw [List.foldl_cons, List.map_cons, List.foldl_cons, ih, stepR_len]
theorem allR_many (cols : List (List Int)) : (allR cols).length = manyR cols := foldR_len cols [[]]
theorem foldR_in (cols : List (List Int)) : ∀ (rows pre : List (List Int)), (∀ r ∈ rows, Paired (fun x c => x ∈ c) r pre) → ∀ r ∈ cols.foldl stepR rows, Paired (fun x c => x ∈ c) r (pre ++ cols) := by
  induction cols with
  | nil =>
    intro rows pre h r hr
    rw [List.append_nil]
    exact h r hr
  | cons c cols ih =>
    intro rows pre h r hr
    rw [List.foldl_cons] at hr
    rw [show pre ++ c :: cols = (pre ++ [c]) ++ cols by simp]
    refine ih _ _ (fun r' hr' => ?_) r hr
    obtain ⟨r0, h1, h2⟩ := List.mem_flatMap.mp hr'
    obtain ⟨v, hv, rfl⟩ := List.mem_map.mp h2
    exact paired_app (h r0 h1) (.cons hv .nil)
theorem allR_in {cols : List (List Int)} {r : List Int} (h : r ∈ allR cols) : Paired (fun x c => x ∈ c) r cols := by
  have := foldR_in cols [[]] [] (fun r hr => by rw [List.mem_singleton.mp hr]; exact .nil) r h
  rwa [List.nil_append] at this
theorem lex_last (r : List Int) {a b : Int} (h : a < b) : HT.lexLt (r ++ [a]) (r ++ [b]) = true := by
  induction r with
  | nil =>
    rw [List.nil_append, List.nil_append, HT.lexLt_cons, if_neg (by omega)]
    exact decide_eq_true h
  | cons x r ih => rw [List.cons_append, List.cons_append, HT.lexLt_cons, if_pos rfl, ih]
theorem lex_front : ∀ {r1 r2 : List Int} {a b : Int}, r1.length = r2.length → HT.lexLt r1 r2 = true → HT.lexLt (r1 ++ [a]) (r2 ++ [b]) = true
  | [], [], _, _, _, h => by simp [HT.lexLt] at h
  | x :: r1, y :: r2, a, b, hl, h => by
    rw [HT.lexLt_cons] at h
    rw [List.cons_append, List.cons_append, HT.lexLt_cons]
    by_cases e : x = y
    · rw [if_pos e] at h ⊢
      exact lex_front (by simpa using hl) h
    · rw [if_neg e] at h ⊢
      exact h
  | [], _ :: _, _, _, hl, _ => by simp at hl
  | _ :: _, [], _, _, hl, _ => by simp at hl
theorem lex_irr : ∀ r : List Int, HT.lexLt r r = false
  | [] => rfl
  | x :: r => by rw [HT.lexLt_cons, if_pos rfl, lex_irr r]
theorem lex_asym : ∀ {r1 r2 : List Int}, HT.lexLt r1 r2 = true → HT.lexLt r2 r1 = false
  | [], [], h => by simp [HT.lexLt] at h
  | [], _ :: _, _ => rfl
  | _ :: _, [], h => by simp [HT.lexLt] at h
  | x :: r1, y :: r2, h => by
    rw [HT.lexLt_cons] at h ⊢
    by_cases e : x = y
    · rw [if_pos e] at h
      rw [if_pos e.symm]
      exact lex_asym h
    · rw [if_neg e] at h
      rw [if_neg fun z => e z.symm]
      exact decide_eq_false (by have := of_decide_eq_true h; omega)
theorem foldR_asc (cols : List (List Int)) : ∀ (rows : List (List Int)) (n : Nat), (∀ c ∈ cols, c.Pairwise (· < ·)) → (∀ r ∈ rows, r.length = n) → rows.Pairwise (fun a b => HT.lexLt a b = true) → (cols.foldl stepR rows).Pairwise (fun a b => HT.lexLt a b = true) := by
  induction cols with
  | nil => intro rows n _ _ h; exact h
  | cons c cols ih =>
    intro rows n hc hn h
    rw [List.foldl_cons]
    refine ih _ (n + 1) (fun d hd => hc d (List.mem_cons_of_mem _ hd)) (fun r hr => ?_) ?_
    · obtain ⟨r0, h1, h2⟩ := List.mem_flatMap.mp hr
      obtain ⟨v, hv, rfl⟩ := List.mem_map.mp h2
      rw [List.length_append, hn r0 h1]
      rfl
    · unfold stepR
      rw [List.pairwise_flatMap]
      refine ⟨fun r hr => ?_, ?_⟩
      · rw [List.pairwise_map]
        exact (hc c (List.mem_cons_self ..)).imp fun hab => lex_last r hab
      · refine List.Pairwise.imp_of_mem (fun {r1 r2} h1 h2 h12 => ?_) h
        intro x hx y hy
        obtain ⟨v, _, rfl⟩ := List.mem_map.mp hx
        obtain ⟨u, _, rfl⟩ := List.mem_map.mp hy
        exact lex_front ((hn r1 h1).trans (hn r2 h2).symm) h12
theorem allR_asc {cols : List (List Int)} (h : ∀ c ∈ cols, c.Pairwise (· < ·)) : (allR cols).Pairwise (fun a b => HT.lexLt a b = true) :=
  foldR_asc cols [[]] 0 h (fun r hr => by rw [List.mem_singleton.mp hr]; rfl) (List.pairwise_singleton ..)
theorem ascR_of {rs : List (List Int)} (h : rs.Pairwise (fun a b => HT.lexLt a b = true)) : ascR rs = true := by
  unfold ascR
  rw [List.all_map, List.all_eq_true]
  intro k hk
  have hk := List.mem_range.mp hk
  show HT.lexLt (rs.getD k []) (rs.getD (k + 1) []) = true
  rw [getD_of (List.getElem?_eq_getElem (show k < rs.length by omega)), getD_of (List.getElem?_eq_getElem (show k + 1 < rs.length by omega))]
  exact List.pairwise_iff_getElem.mp h k (k + 1) (by omega) (by omega) (by omega)
theorem ascR_not {rs : List (List Int)} {k : Nat} {a b : List Int} (h1 : rs[k]? = some a) (h2 : rs[k + 1]? = some b) (h : HT.lexLt a b = false) : ascR rs = false := by
  unfold ascR
  rw [List.all_map, List.all_eq_false]
  have := (List.getElem?_eq_some_iff.mp h2).1
  refine ⟨k, List.mem_range.mpr (by omega), ?_⟩
  show ¬ HT.lexLt (rs.getD k []) (rs.getD (k + 1) []) = true
  rw [getD_of h1, getD_of h2, h]
  decide
structure RowsOk (cols : List (List Int)) (dom : List Int) (rs : List (List Int)) : Prop where
  rows : Paired (fun r fr => ∃ v ∈ dom, r = fr ++ [v]) rs (allR cols)
  c1 : 1 ≤ cols.length
  c3 : cols.length ≤ 3
  ne : ∀ c ∈ cols, c ≠ []
  asc : ∀ c ∈ cols, c.Pairwise (· < ·)
  l : (allR cols).length ≤ 256
theorem RowsOk.len {cols : List (List Int)} {dom : List Int} {rs : List (List Int)} (h : RowsOk cols dom rs) : rs.length = manyR cols := by rw [h.rows.length, allR_many]
theorem many_pos (cols : List (List Int)) : ∀ n : Nat, 0 < n → (∀ c ∈ cols, c ≠ []) → 0 < (cols.map (·.length)).foldl (· * ·) n := by
  induction cols with
  | nil => intro n hn _; exact hn
  | cons c cols ih =>
    intro n hn h
    rw [List.map_cons, List.foldl_cons]
    exact ih _ (Nat.mul_pos hn (List.length_pos_iff.mpr (h c (List.mem_cons_self ..)))) fun d hd => h d (List.mem_cons_of_mem _ hd)
theorem RowsOk.pos {cols : List (List Int)} {dom : List Int} {rs : List (List Int)} (h : RowsOk cols dom rs) : 0 < rs.length := by
  rw [h.len]
  exact many_pos cols 1 (by decide) h.ne
theorem RowsOk.fronts {cols : List (List Int)} {dom : List Int} {rs : List (List Int)} (h : RowsOk cols dom rs) : rs.map List.dropLast = allR cols := by
  have := h.rows
  clear h
  generalize allR cols = fs at this
  induction this with
  | nil => rfl
  | cons a t ih =>
    obtain ⟨v, _, rfl⟩ := a
    rw [List.map_cons, List.dropLast_concat, ih]
theorem RowsOk.row {cols : List (List Int)} {dom : List Int} {rs : List (List Int)} (h : RowsOk cols dom rs) {r : List Int} (hr : r ∈ rs) : ∃ fr v, r = fr ++ [v] ∧ v ∈ dom ∧ fr ∈ allR cols ∧ Paired (fun x c => x ∈ c) fr cols := by
  obtain ⟨i, hi, rfl⟩ := List.mem_iff_getElem.mp hr
  have hl := h.rows.length
  have hj : (allR cols)[i]? = some (allR cols)[i] := List.getElem?_eq_getElem (by omega)
  obtain ⟨v, hv, e⟩ := paired_at h.rows (List.getElem?_eq_getElem hi) hj
  exact ⟨_, v, e, hv, List.getElem_mem _, allR_in (List.getElem_mem _)⟩
theorem rowB_true {cols : List (List Int)} {r : List Int} (h : Paired (fun x c => x ∈ c) r cols) : rowB cols (rowP r) = true := by
  unfold rowB rowP
  dsimp only
  rw [Bool.and_eq_true]
  refine ⟨decide_eq_true (by rw [List.length_map, h.length]), ?_⟩
  rw [List.all_map, List.all_eq_true]
  intro i hi
  have hi := List.mem_range.mp hi
  have hl := h.length
  show cellB ((r.map PyData.int).getD i .none) (cols.getD i []) = true
  have hr : r[i]? = some r[i] := List.getElem?_eq_getElem (by omega)
  have hc : cols[i]? = some cols[i] := List.getElem?_eq_getElem (by omega)
  rw [getD_of (show (r.map PyData.int)[i]? = some (.int r[i]) by rw [List.getElem?_map, hr]; rfl), getD_of hc]
  exact decide_eq_true (paired_at h hr hc)
theorem RowsOk.right {cols : List (List Int)} {dom : List Int} {rs : List (List Int)} (h : RowsOk cols dom rs) : rowsB cols dom (rowsD rs) = true := by
  unfold rowsB rowsD
  dsimp only
  have h1 := h.pos
  have h2 := h.l
  have h3 := h.rows.length
  have e : ((rs.map rowP).map fun r => (rowI r).dropLast) = allR cols := by
    rw [← h.fronts, List.map_map]
    exact List.map_congr_left fun r _ => by show (rowI (rowP r)).dropLast = r.dropLast; rw [rowI_P]
  rw [e, ascR_of (allR_asc h.asc), List.length_map, h.len, decide_eq_true rfl, decide_eq_true (by rw [← h.len]; omega), decide_eq_true (by rw [← h.len]; omega)]
  have : (rs.map rowP).all (rowB (cols ++ [dom])) = true := by
    rw [List.all_map, List.all_eq_true]
    intro r hr
    obtain ⟨fr, v, rfl, hv, _, hp⟩ := h.row hr
    exact rowB_true (paired_app hp (.cons hv .nil))
  rw [this]
  rfl
/-! wrong rows -/
section
variable {cols : List (List Int)} {dom : List Int} {ds : List PyData}
theorem rows_len (h : ds.length ≠ manyR cols) : rowsB cols dom (.tuple ds) = false := by
  unfold rowsB
  simp only [decide_eq_false h, Bool.and_false]
theorem rows_row {d : PyData} (h : d ∈ ds) (hd : rowB (cols ++ [dom]) d = false) : rowsB cols dom (.tuple ds) = false := by
  have : ds.all (rowB (cols ++ [dom])) = false := by
    rw [List.all_eq_false]
    exact ⟨d, h, by rw [hd]; decide⟩
  unfold rowsB
  simp only [this, Bool.and_false, Bool.false_and]
theorem rows_asc (h : ascR (ds.map fun r => (rowI r).dropLast) = false) : rowsB cols dom (.tuple ds) = false := by
  unfold rowsB
  simp only [h, Bool.and_false, Bool.false_and]
theorem row_len {cs : List (List Int)} (h : ds.length ≠ cs.length) : rowB cs (.tuple ds) = false := by
  unfold rowB
  simp only [decide_eq_false h, Bool.false_and]
theorem row_cell {cs : List (List Int)} {i : Nat} {d : PyData} {c : List Int} (h : ds[i]? = some d) (hc : cs[i]? = some c) (hd : cellB d c = false) : rowB cs (.tuple ds) = false := by
  unfold rowB
  dsimp only
  by_cases hl : ds.length = cs.length
  · have : ((List.range cs.length).map fun i => cellB (ds.getD i .none) (cs.getD i [])).all id = false := by
      rw [List.all_map, List.all_eq_false]
      refine ⟨i, List.mem_range.mpr (List.getElem?_eq_some_iff.mp hc).1, ?_⟩
      show ¬ cellB (ds.getD i .none) (cs.getD i []) = true
      rw [getD_of h, getD_of hc, hd]
      decide
    rw [this, Bool.and_false]
  · rw [decide_eq_false hl, Bool.false_and]
end
end AW
namespace AW
open PySem PySem.Spec PyProof.Rows L2 RZ
open StX
local macro_rules | `(tactic| walk_at "aw1") => `(tactic| first
  | (with_reducible refine w_seq ?_) | (with_reducible refine w_asg ?_) | (with_reducible refine w_gname ?_) | (with_reducible refine w_op ?_) | (with_reducible refine w_un ?_)
  | ((with_reducible refine' w_var ?h ?_); (case h => rfl)) | (with_reducible refine w_c ?_)
  | (with_reducible refine w_I0 ?_) | (with_reducible refine w_U ?_) | (with_reducible refine w_cb ?_) | (with_reducible refine w_nil ?_) | (with_reducible refine w_cons ?_) | (with_reducible refine w_call ?_)
  | (with_reducible refine w_test ?_) | (with_reducible refine w_B ?_) | (with_reducible refine w_bl ?_) | (with_reducible refine w_not ?_) | (with_reducible refine w_yes ?_) | (with_reducible refine iteT ?_) | (with_reducible refine iteF ?_) | (with_reducible refine w_and ?_) | (with_reducible refine w_or ?_)
  | (with_reducible refine w_andV ?_) | (with_reducible refine w_orV ?_) | (with_reducible refine w_notV ?_) | (with_reducible refine w_if ?_)
  | (with_reducible refine w_int1 ?_) | (with_reducible refine w_int1b ?_) | (with_reducible refine w_abs ?_) | (with_reducible refine w_max2 ?_) | (with_reducible refine w_min2 ?_)
  | ((with_reducible refine w_eq ?h ?_); (case h => rfl)) | ((with_reducible refine w_ne ?h ?_); (case h => rfl)) | (with_reducible refine w_isN ?_) | (with_reducible refine w_isB ?_) | (with_reducible refine w_chain ?_)
  | (with_reducible refine w_ret ?_) | (with_reducible refine w_drop ?_) | (with_reducible refine w_ifS ?_) | (with_reducible refine w_gsub ?_) | (with_reducible refine w_augS ?_) | (with_reducible refine w_ipI ?_) | (with_reducible refine w_next ?_)
  | (with_reducible refine w_forR ?_) | (with_reducible refine w_forR2 ?_) | (with_reducible refine w_forL ?_) | (with_reducible refine w_forT ?_) | (with_reducible refine w_lcR ?_) | (with_reducible refine w_lcL ?_) | (with_reducible refine w_lcT ?_) | (with_reducible refine w_sl ?_) | (with_reducible refine w_part ?_) | (with_reducible refine w_noPart ?_) | (with_reducible refine w_in ?_)
  | (with_reducible refine w_gcons ?_) | (with_reducible refine w_gnil ?_) | (with_reducible refine w_lc3 ?_) | (with_reducible refine w_dcZ ?_) | (with_reducible refine w_dcT ?_) | (with_reducible refine w_dg ?_) | (with_reducible refine w_callK ?_) | (with_reducible refine w_dput ?_) | (with_reducible refine w_tup1 ?_)
  | (with_reducible refine w_tup ?_) | (with_reducible refine w_lst ?_)
  | ((with_reducible refine w_I ?h ?_); (case h => first | (exact Or.inr ⟨by decide, by decide⟩) | (exact Or.inl ⟨by decide, by decide⟩) | (show (0 : Int) < _; decide) | (exact ⟨by decide, by decide, by decide⟩) | assumption)))
local macro_rules | `(tactic| walk_at "aw") => `(tactic| repeat (walk_at "aw1"))
def BadR (cols : List (List Int)) (dom : List Int) (R : PyData) : Prop := rowsB cols dom R = false ∧ Sw 2 R
def sp__law_spoilt_rows (_ : PySem.W.Frag) : Sp := fun vs H Q _ => ∃ (st it qa : Addr) (m : V), vs = [.ref st, m, .ref it, .ref qa] ∧ ∃ cs cols dom X, ∃ rs : List (List Int), StOk st cs H ∧ Is H (.tuple [X, rowsD rs]) (.ref it) ∧ H qa = some (.tup (dom.map V.int)) ∧ RowsOk cols dom rs ∧ rs.length ≤ 100 ∧ dom.length ≤ 100 ∧ 201 ∉ dom ∧ (∀ c ∈ cols, 199 ∉ c) ∧
  ∀ t R H', Go st cs H H' → Is H' (.tuple [X, R]) (.ref t) → BadR cols dom R → Q (.ref t) H'
theorem sw_ints {k : Nat} (xs : List Int) : ∀ d ∈ xs.map PyData.int, Sw k d := fun d hd => by
  obtain ⟨x, hx, rfl⟩ := List.mem_map.mp hd
  exact .int x
theorem sw_app {k : Nat} {as bs : List PyData} (h1 : ∀ d ∈ as, Sw k d) (h2 : ∀ d ∈ bs, Sw k d) (h3 : as.length + bs.length ≤ 300) : Sw (k + 1) (.tuple (as ++ bs)) := .tup (by rw [List.length_append]; exact h3) fun d hd => by
  rcases List.mem_append.mp hd with hd | hd
  · exact h1 d hd
  · exact h2 d hd
theorem sw_one {k : Nat} {d : PyData} (h : Sw k d) : ∀ e ∈ [d], Sw k e := fun e he => by rw [List.mem_singleton.mp he]; exact h
/-- at most n data, one at least -/
def FBl (P : PyData → Prop) (Hb : Hp) (l : Addr) (n : Nat) (H : Hp) : Prop := ∃ m, 0 < m ∧ m ≤ n ∧ FB P Hb l m H
theorem FBl.up {P : PyData → Prop} {Hb H H' : Hp} {l : Addr} {n : Nat} (f : FBl P Hb l n H) (a : Adv [] H H') : FBl P Hb l n H' := by
  obtain ⟨m, h1, h2, h3⟩ := f
  exact ⟨m, h1, h2, h3.up a⟩
theorem FBl.mono {P : PyData → Prop} {Hb H : Hp} {l : Addr} {n k : Nat} (f : FBl P Hb l n H) (h : n ≤ k) : FBl P Hb l k H := by
  obtain ⟨m, h1, h2, h3⟩ := f
  exact ⟨m, h1, Nat.le_trans h2 h, h3⟩
theorem w_appQ {K : PySem.W.Frag} {σ : L2.St} {H : Hp} {te : TE} {D : PyData} {n : Nat} {P : PyData → Prop} {Hb : Hp} {l : Addr} {i : Nat} {E : Ends} (f : FBl P Hb l n H) (nl : Hb l = none) (hn : n ≤ 1000) (hσ : σ[i]? = some (some (.ref l))) (h : EX D te σ Hb) (p : P D) (q : ∀ H', FBl P Hb l (n + 1) H' → E.nx σ H') : tDrop (tBM K "list" rAppend (tVar i) (tCons te tNil)) E σ H := by
  obtain ⟨m, h1, h2, h3⟩ := f
  exact w_appP h3 nl (by omega) hσ h p fun H' f' => q H' ⟨m + 1, by omega, by omega, f'⟩
theorem w_seqJ {t u : TS} {D : Ends} {σ : L2.St} {H : Hp} (P : L2.St → Hp → Prop) (h : ∀ N : L2.St → Hp → Prop, (∀ σ' H', P σ' H' → N σ' H') → t { D with nx := N } σ H) (q : ∀ σ' H', P σ' H' → u D σ' H') : tSeq t u D σ H := h (u D) q
theorem FBl.adv {P : PyData → Prop} {Hb H : Hp} {l : Addr} {n : Nat} (f : FBl P Hb l n H) : Adv [] Hb H := by
  obtain ⟨m, _, _, h⟩ := f
  exact h.1
def t__law_spoilt_rows (K : PySem.W.Frag) : TS := (tSeq (tAsg (tVar 2) (gTup K 2 (gCons (gName 4) (gCons (gName 5) gNil))))
  (tSeq (tAsg (tCall (sp__law_draw K) [] E0 (tCons (tVar 0) (tCons (tCB (rLen1 K) (tCons (tVar 5) tNil)) tNil))) (gName 6))
  (tSeq (tAsg (tOp (rIxT K) (tVar 5) (tVar 6)) (gName 7))
  (tSeq (tAsg (tOp (rIxL K) (tLc (iList K (tLst (tCons (tUn rNeg (tC (.int 7))) (tCons (tC (.int 201)) (tCons (tC (.int 60)) tNil))))) (gName 9) (tTest (tOp (rIn K true) (tVar 9) (tVar 3))) (tVar 9) [9]) (tC (.int 0))) (gName 8))
  (tSeq (tAsg (tLst (tCons (tOp (rCatA K) (tSl (rSlA K) (tVar 5) tNoPart (tPart (tVar 6))) (tSl (rSlA K) (tVar 5) (tPart (tOp rAddI (tVar 6) (tC (.int 1)))) tNoPart)) (tCons (tOp (rCatA K) (tSl (rSlA K) (tVar 5) tNoPart (tPart (tOp rAddI (tVar 6) (tC (.int 1))))) (tSl (rSlA K) (tVar 5) (tPart (tVar 6)) tNoPart)) (tCons (tOp (rCatA K) (tVar 5) (tTup (tCons (tOp (rCatA K) (tSl (rSlA K) (tVar 7) tNoPart (tPart (tUn rNeg (tC (.int 1))))) (tTup (tCons (tVar 8) tNil))) tNil))) (tCons (tC (.str "")) (tCons (tC .non) (tCons (tC (.int 0)) tNil))))))) (gName 10))
  (tSeq (tDrop (tBM K "list" rAppend (tVar 10) (tCons (tOp (rIxT K) (tVar 5) (tC (.int 0))) tNil)))
  (tSeq (tDrop (tBM K "list" rAppend (tVar 10) (tCons (tOp (rCatA K) (tOp (rCatA K) (tSl (rSlA K) (tVar 5) tNoPart (tPart (tVar 6))) (tTup (tCons (tOp (rCatA K) (tSl (rSlA K) (tVar 7) tNoPart (tPart (tUn rNeg (tC (.int 1))))) (tTup (tCons (tVar 8) tNil))) tNil))) (tSl (rSlA K) (tVar 5) (tPart (tOp rAddI (tVar 6) (tC (.int 1)))) tNoPart)) tNil)))
  (tSeq (tDrop (tBM K "list" rAppend (tVar 10) (tCons (tOp (rCatA K) (tOp (rCatA K) (tSl (rSlA K) (tVar 5) tNoPart (tPart (tVar 6))) (tTup (tCons (tOp (rCatA K) (tTup (tCons (tC (.int 199)) tNil)) (tSl (rSlA K) (tVar 7) (tPart (tC (.int 1))) tNoPart)) tNil))) (tSl (rSlA K) (tVar 5) (tPart (tOp rAddI (tVar 6) (tC (.int 1)))) tNoPart)) tNil)))
  (tSeq (tDrop (tBM K "list" rAppend (tVar 10) (tCons (tOp (rCatA K) (tOp (rCatA K) (tSl (rSlA K) (tVar 5) tNoPart (tPart (tVar 6))) (tTup (tCons (tSl (rSlA K) (tVar 7) tNoPart (tPart (tUn rNeg (tC (.int 1))))) tNil))) (tSl (rSlA K) (tVar 5) (tPart (tOp rAddI (tVar 6) (tC (.int 1)))) tNoPart)) tNil)))
  (tSeq (tDrop (tBM K "list" rAppend (tVar 10) (tCons (tOp (rCatA K) (tOp (rCatA K) (tSl (rSlA K) (tVar 5) tNoPart (tPart (tVar 6))) (tTup (tCons (tOp (rCatA K) (tVar 7) (tSl (rSlA K) (tVar 7) (tPart (tUn rNeg (tC (.int 1)))) tNoPart)) tNil))) (tSl (rSlA K) (tVar 5) (tPart (tOp rAddI (tVar 6) (tC (.int 1)))) tNoPart)) tNil)))
  (tSeq (tDrop (tBM K "list" rAppend (tVar 10) (tCons (tOp (rCatA K) (tOp (rCatA K) (tSl (rSlA K) (tVar 5) tNoPart (tPart (tVar 6))) (tTup (tCons (tOp (rCatA K) (tSl (rSlA K) (tVar 7) tNoPart (tPart (tUn rNeg (tC (.int 1))))) (tTup (tCons (tC .non) tNil))) tNil))) (tSl (rSlA K) (tVar 5) (tPart (tOp rAddI (tVar 6) (tC (.int 1)))) tNoPart)) tNil)))
  (tSeq (tDrop (tBM K "list" rAppend (tVar 10) (tCons (tOp (rCatA K) (tOp (rCatA K) (tSl (rSlA K) (tVar 5) tNoPart (tPart (tVar 6))) (tTup (tCons (tC .non) tNil))) (tSl (rSlA K) (tVar 5) (tPart (tOp rAddI (tVar 6) (tC (.int 1)))) tNoPart)) tNil)))
  (tSeq (tIfS (tTest (tOp rGtI (tCB (rLen1 K) (tCons (tVar 5) tNil)) (tC (.int 1)))) (tSeq (tDrop (tBM K "list" rAppend (tVar 10) (tCons (tRevT K (tVar 5)) tNil)))
  (tDrop (tBM K "list" rAppend (tVar 10) (tCons (tOp (rCatA K) (tOp (rCatA K) (tSl (rSlA K) (tVar 5) tNoPart (tPart (tC (.int 1)))) (tSl (rSlA K) (tVar 5) tNoPart (tPart (tC (.int 1))))) (tSl (rSlA K) (tVar 5) (tPart (tC (.int 2))) tNoPart)) tNil)))) tNext)
  (tSeq (tIfS (tTest (tOp rGtI (tCB (rLen1 K) (tCons (tVar 3) tNil)) (tC (.int 1)))) (tDrop (tBM K "list" rAppend (tVar 10) (tCons (tOp (rCatA K) (tOp (rCatA K) (tSl (rSlA K) (tVar 5) tNoPart (tPart (tVar 6))) (tTup (tCons (tOp (rCatA K) (tSl (rSlA K) (tVar 7) tNoPart (tPart (tUn rNeg (tC (.int 1))))) (tSl (rSlA K) (tVar 3) tNoPart (tPart (tC (.int 1))))) (tCons (tOp (rCatA K) (tSl (rSlA K) (tVar 7) tNoPart (tPart (tUn rNeg (tC (.int 1))))) (tSl (rSlA K) (tVar 3) (tPart (tC (.int 1))) (tPart (tC (.int 2))))) tNil)))) (tSl (rSlA K) (tVar 5) (tPart (tOp rAddI (tVar 6) (tC (.int 1)))) tNoPart)) tNil))) tNext)
  (tSeq (tFor (iRng1 (tCons (tCB (rLen1 K) (tCons (tVar 7) tNil)) tNil)) (gName 11)
  (tIfS (tTest (tOp (rIn K false) (tOp (rIxT K) (tVar 7) (tVar 11)) (tLst (tCons (tC (.int 0)) (tCons (tC (.int 1)) tNil))))) (tDrop (tBM K "list" rAppend (tVar 10) (tCons (tOp (rCatA K) (tOp (rCatA K) (tSl (rSlA K) (tVar 5) tNoPart (tPart (tVar 6))) (tTup (tCons (tOp (rCatA K) (tOp (rCatA K) (tSl (rSlA K) (tVar 7) tNoPart (tPart (tVar 11))) (tTup (tCons (tOp rEq (tOp (rIxT K) (tVar 7) (tVar 11)) (tC (.int 1))) tNil))) (tSl (rSlA K) (tVar 7) (tPart (tOp rAddI (tVar 11) (tC (.int 1)))) tNoPart)) tNil))) (tSl (rSlA K) (tVar 5) (tPart (tOp rAddI (tVar 6) (tC (.int 1)))) tNoPart)) tNil))) tNext))
  (tRet (tTup (tCons (tVar 4) (tCons (tOp (rIxL K) (tVar 10) (tCall (sp__law_draw K) [] E0 (tCons (tVar 0) (tCons (tCB (rLen1 K) (tCons (tVar 10) tNil)) tNil)))) tNil)))))))))))))))))))
theorem len__law_spoilt_rows {K : PySem.W.Frag} : ∀ (vs : List V) (H : Hp) (Q : VK) (E : XK), sp__law_spoilt_rows K vs H Q E → vs.length = 4 := fun vs H Q E h => by
  obtain ⟨_, _, _, _, rfl, _⟩ := h
  rfl
theorem pure__law_spoilt_rows {K : PySem.W.Frag} (vs : List V) (H : Hp) (Q : VK) (E : XK) (h : sp__law_spoilt_rows K vs H Q E) : t__law_spoilt_rows K { nx := fun _ H' => Q .non H', rt := Q } (start ["tape", "other", "item", "domain", "xs", "rows", "at", "row", "strange", "value", "found", "k"] vs) H := by
  obtain ⟨st, it, qa, m, rfl, cs, cols, dom, X, rs, ok, hit, eqa, hrs, hrl, hdl, h201, h199, q⟩ := h
  have hpos := hrs.pos
  show t__law_spoilt_rows K _ [some (.ref st), some m, some (.ref it), some (.ref qa), none, none, none, none, none, none, none, none] H
  unfold t__law_spoilt_rows
  obtain ⟨it', vs, ev, eit, hvs⟩ := hit.tup_inv
  cases ev
  obtain ⟨v0, v1, rfl⟩ : ∃ v0 v1, vs = [v0, v1] := by
    match vs, hvs.length with
    | [a, b], _ => exact ⟨a, b, rfl⟩
  have hX : Is H X v0 := by
    obtain ⟨d, h1, h2⟩ := hvs.get (i := 0) rfl
    cases h1
    exact h2
  have hR : Is H (rowsD rs) v1 := by
    obtain ⟨d, h1, h2⟩ := hvs.get (i := 1) rfl
    cases h1
    exact h2
  obtain ⟨rp, ws, rfl, erp, hws⟩ := hR.tup_inv
  have hwl : ws.length = rs.length := by rw [hws.length, List.length_map]
  walk_at "aw"
  refine w_gtup (SqT.of eit) rfl ?_
  walk_at "aw"
  refine w_lenT (SqT.of erp) ?_
  walk_at "aw"
  refine w_draw ok (by omega) (by omega) fun an H1 a0 a1 g1 => ?_
  obtain ⟨at_, rfl⟩ : ∃ a : Nat, an = (a : Int) := ⟨an.toNat, by omega⟩
  have hat : at_ < rs.length := by omega
  walk_at "aw"
  have hr : rs[at_]? = some rs[at_] := List.getElem?_eq_getElem hat
  generalize rs[at_] = r at hr
  obtain ⟨vr, hvr, hRow⟩ := hws.get' (show (rs.map rowP)[at_]? = some (rowP r) by rw [List.getElem?_map, hr]; rfl)
  refine w_ixT (SqT.of (g1.tk _ _ erp)) (at_of (j := at_) (by omega) hvr) ?_
  walk_at "aw"
  refine w_lstD (by simp) fun l4 H3 nl4 g3 el4 => ?_
  refine ⟨l4, rfl, ⟨_, SqL.of el4⟩, kLc_pure (walk_list (xs := ([-7, 201, 60] : List Int).map V.int)) (by simp) (fun H' g => SqL.of (g.keep _ _ (fun z => nomatch z) el4)) (fun i => !decide (([-7, 201, 60] : List Int).getD i 0 ∈ dom)) (fun i => .int (([-7, 201, 60] : List Int).getD i 0)) (fun i u H4 H5 Kt Kf hi g4 yy kt kf => ?_) fun l5 H4 nl5 g4 el5 => ?_⟩
  · obtain ⟨rfl, hu⟩ := yy
    rw [List.getElem?_map] at hu
    obtain ⟨x, hx, rfl⟩ := Option.map_eq_some_iff.mp hu
    rw [getD_of hx] at kt kf
    walk_at "aw"
    refine ⟨rfl, ?_⟩
    walk_at "aw"
    refine ⟨qa, _, rfl, .inr (SqT.of (g4.tup _ _ (g3.tup _ _ (g1.tk _ _ eqa)))), rfl, flat_ints _, ?_⟩
    rw [inV_int]
    walk_at "aw"
    cases hb : decide (x ∈ dom) with
    | true =>
      refine iteF'' rfl ?_
      exact kf (by rw [hb]; rfl) _ (.refl _ _)
    | false =>
      refine iteT'' rfl ?_
      walk_at "aw"
      exact kt (by rw [hb]; rfl) _ (.refl _ _)
  obtain ⟨s, ss, hss, hsn⟩ : ∃ (s : Int) (ss : List V), H4 l5 = some (.lst (.int s :: ss)) ∧ s ∉ dom := by
    generalize hF : ((List.range (([-7, 201, 60] : List Int).map V.int).length).filter fun i => !decide (([-7, 201, 60] : List Int).getD i 0 ∈ dom)) = F at el5
    have h3 : 1 ∈ F := by
      rw [← hF, List.mem_filter]
      refine ⟨by decide, ?_⟩
      rw [Bool.not_eq_true', decide_eq_false_iff_not]
      exact h201
    cases F with
    | nil => simp at h3
    | cons i F =>
      have hi : i ∈ i :: F := List.mem_cons_self ..
      rw [← hF, List.mem_filter, Bool.not_eq_true', decide_eq_false_iff_not] at hi
      exact ⟨_, _, el5, hi.2⟩
  walk_at "aw"
  refine w_ixL (SqL.of hss) (at_nat (by decide) rfl) ?_
  have g04 := g1.trans (Go.of g1.ok (g3.trans g4))
  have ok4 := g04.ok
  have hX4 := hX.up g04.tk
  have hR4 := (Is.tup erp hws).up g04.tk
  have hRow4 := hRow.up g04.tk
  have hDm4 : Is H4 (.tuple (dom.map .int)) (.ref qa) := .tup (g04.tk _ _ eqa) (IsAll.ints _)
  obtain ⟨fr, v, hfv, hv, hfa, hfc⟩ := hrs.row (List.mem_of_getElem? hr)
  have hfl := hfc.length
  have hrl4 : r.length = cols.length + 1 := by rw [hfv, List.length_append, hfl]; rfl
  have hc1 := hrs.c1
  have hc3 := hrs.c3
  have hlen := hrs.len
  have rl : (rs.map rowP).length = rs.length := List.length_map ..
  have cl : (cols ++ [dom]).length = cols.length + 1 := by rw [List.length_append]; rfl
  have rm : (r.map PyData.int).length = cols.length + 1 := by rw [List.length_map, hrl4]
  have hdl4 : (r.map PyData.int).dropLast = fr.map .int := by rw [hfv, List.map_append]; exact List.dropLast_concat
  have hde : (r.map PyData.int).drop ((r.map PyData.int).length - 1) = [.int v] := by
    rw [rm, show cols.length + 1 - 1 = (fr.map PyData.int).length from by rw [List.length_map, hfl]; rfl, hfv, List.map_append]
    exact List.drop_left
  have fm : (fr.map PyData.int).length = cols.length := by rw [List.length_map, hfl]
  have swr : ∀ d ∈ rs.map rowP, Sw 1 d := fun d hd => by
    obtain ⟨x, hx, rfl⟩ := List.mem_map.mp hd
    obtain ⟨f0, v0, rfl, _, _, hp⟩ := hrs.row hx
    exact .tup (by rw [List.length_map, List.length_append, hp.length]; simp; omega) (sw_ints _)
  have swt : ∀ n, ∀ d ∈ (rs.map rowP).take n, Sw 1 d := fun n d hd => swr d (List.mem_of_mem_take hd)
  have swd : ∀ n, ∀ d ∈ (rs.map rowP).drop n, Sw 1 d := fun n d hd => swr d (List.mem_of_mem_drop hd)
  have Rw : ∀ σ : L2.St, σ[5]? = some (some (.ref rp)) → EX (.tuple (rs.map rowP)) (tVar 5) σ H4 := fun σ h => ex_var h hR4
  have At : ∀ σ : L2.St, σ[6]? = some (some (.int at_)) → EX (.int (at_ : Int)) (tVar 6) σ H4 := fun σ h => ex_var h (.int _)
  have At1 : ∀ σ : L2.St, σ[6]? = some (some (.int at_)) → EX (.int ((at_ + 1 : Nat) : Int)) (tOp rAddI (tVar 6) (tC (.int 1))) σ H4 := fun σ h => (ex_add (At σ h) ex_int).to (by rw [show ((at_ + 1 : Nat) : Int) = (at_ : Int) + 1 from by omega])
  have Ro : ∀ σ : L2.St, σ[7]? = some (some vr) → EX (.tuple (r.map .int)) (tVar 7) σ H4 := fun σ h => ex_var h hRow4
  have Fr : ∀ σ : L2.St, σ[7]? = some (some vr) → EX (.tuple (fr.map .int)) (tSl (rSlA K) (tVar 7) tNoPart (tPart (tUn rNeg (tC (.int 1))))) σ H4 := fun σ h => (ex_init (Ro σ h)).to (by rw [hdl4])
  have Sv : ∀ σ : L2.St, σ[8]? = some (some (.int s)) → EX (.int s) (tVar 8) σ H4 := fun σ h => ex_var h (.int _)
  have Dm : ∀ σ : L2.St, σ[3]? = some (some (.ref qa)) → EX (.tuple (dom.map .int)) (tVar 3) σ H4 := fun σ h => ex_var h hDm4
  have Mid : ∀ σ : L2.St, σ[5]? = some (some (.ref rp)) → σ[6]? = some (some (.int at_)) → ∀ {D te}, EX D te σ H4 → EX (.tuple (((rs.map rowP).take at_ ++ [D]) ++ (rs.map rowP).drop (at_ + 1))) (tOp (rCatA K) (tOp (rCatA K) (tSl (rSlA K) (tVar 5) tNoPart (tPart (tVar 6))) (tTup (tCons te tNil))) (tSl (rSlA K) (tVar 5) (tPart (tOp rAddI (tVar 6) (tC (.int 1)))) tNoPart)) σ H4 := fun σ h5 h6 D te h => ex_cat (ex_cat (ex_upto (Rw σ h5) (At σ h6)) (ex_tup (exa_cons h exa_nil)) (by simp; omega)) (ex_from (k := at_ + 1) (Rw σ h5) (At1 σ h6)) (by simp; omega)
  have mid : ∀ D, rowB (cols ++ [dom]) D = false → Sw 1 D → BadR cols dom (.tuple (((rs.map rowP).take at_ ++ [D]) ++ (rs.map rowP).drop (at_ + 1))) := fun D hD hs =>
    ⟨rows_row (List.mem_append_left _ (List.mem_append_right _ (List.mem_singleton_self _))) hD, sw_app (k := 1) (fun d hd => by
      rcases List.mem_append.mp hd with hd | hd
      · exact swt _ d hd
      · rw [List.mem_singleton.mp hd]
        exact hs) (swd _) (by simp; omega)⟩
  have swf : ∀ d ∈ fr.map PyData.int, Sw 0 d := sw_ints _
  have hlast : (cols ++ [dom])[cols.length]? = some dom := by rw [List.getElem?_append_right (Nat.le_refl _), Nat.sub_self]; rfl
  have hend : ∀ d : PyData, (fr.map PyData.int ++ [d])[cols.length]? = some d := fun d => by rw [List.getElem?_append_right (by rw [fm]; exact Nat.le_refl _), fm, Nat.sub_self]; rfl
  have bads : ∀ d ∈ [.tuple ((rs.map rowP).take at_ ++ (rs.map rowP).drop (at_ + 1)), .tuple ((rs.map rowP).take (at_ + 1) ++ (rs.map rowP).drop at_), .tuple (rs.map rowP ++ [.tuple (fr.map .int ++ [.int s])]), .str (Str.ofString ""), .none, .int 0], BadR cols dom d := by
    intro d hd
    simp only [List.mem_cons, List.not_mem_nil, or_false] at hd
    rcases hd with rfl | rfl | rfl | rfl | rfl | rfl
    · exact ⟨rows_len (by rw [List.length_append, List.length_take, List.length_drop, rl]; omega), sw_app (swt _) (swd _) (by simp; omega)⟩
    · exact ⟨rows_len (by rw [List.length_append, List.length_take, List.length_drop, rl]; omega), sw_app (swt _) (swd _) (by simp; omega)⟩
    · exact ⟨rows_len (by rw [List.length_append, rl]; simp; omega), sw_app swr (sw_one (sw_app swf (sw_one (.int s)) (by simp; omega))) (by simp; omega)⟩
    · exact ⟨rfl, .str (okS_of "")⟩
    · exact ⟨rfl, .non⟩
    · exact ⟨rfl, .int 0⟩
  with_reducible refine w_gname ?_
  with_reducible refine w_seq ?_
  with_reducible refine w_asg ?_
  refine w_lstP (exa_cons (ex_cat (ex_upto (Rw _ rfl) (At _ rfl)) (ex_from (k := at_ + 1) (Rw _ rfl) (At1 _ rfl)) (by simp; omega)) (exa_cons (ex_cat (ex_upto (k := at_ + 1) (Rw _ rfl) (At1 _ rfl)) (ex_from (Rw _ rfl) (At _ rfl)) (by simp; omega)) (exa_cons (ex_cat (Rw _ rfl) (ex_tup (exa_cons (ex_cat (Fr _ rfl) (ex_tup (exa_cons (Sv _ rfl) exa_nil)) (by simp; omega)) exa_nil)) (by simp; omega)) (exa_cons ex_str (exa_cons ex_non (exa_cons ex_int exa_nil)))))) bads (by simp) fun lf H5 nlf fb => ?_
  have fb : FBl (BadR cols dom) H4 lf 6 H5 := ⟨6, by decide, Nat.le_refl _, fb⟩
  with_reducible refine w_gname ?_
  obtain ⟨r0, rr, hrr⟩ : ∃ r0 rr, rs = r0 :: rr := by
    cases rs with
    | nil => simp at hpos
    | cons a b => exact ⟨a, b, rfl⟩
  have hr0 : r0 ∈ rs := by rw [hrr]; exact List.mem_cons_self ..
  obtain ⟨f0, w0, hf0, _, _, hp0⟩ := hrs.row hr0
  have hr0l : r0.length = cols.length + 1 := by rw [hf0, List.length_append, hp0.length]; rfl
  -- rows[0]
  with_reducible refine w_seq ?_
  refine w_appQ (D := rowP r0) fb nlf (by omega) rfl (ex_ix (i := 0) (Rw _ rfl) ex_int (by rw [hrr]; rfl)) ⟨?_, (swr _ (List.mem_map_of_mem hr0)).mono (by decide)⟩ fun H6 fb => ?_
  · cases hx : r0 with
    | nil => rw [hx] at hr0l; simp at hr0l
    | cons a b => exact rows_row (d := .int a) (List.mem_map_of_mem (List.mem_cons_self ..)) rfl
  -- a strange value behind
  with_reducible refine w_seq ?_
  refine w_appQ fb nlf (by omega) rfl (Mid _ rfl rfl (ex_cat (Fr _ rfl) (ex_tup (exa_cons (Sv _ rfl) exa_nil)) (by simp; omega))) (mid _ (row_cell (hend _) hlast (decide_eq_false hsn)) (sw_app swf (sw_one (.int s)) (by simp; omega))) fun H7 fb => ?_
  -- 199 in front
  obtain ⟨c0, cr, hcr⟩ : ∃ c0 cr, cols = c0 :: cr := by
    cases cols with
    | nil => simp at hc1
    | cons a b => exact ⟨a, b, rfl⟩
  with_reducible refine w_seq ?_
  refine w_appQ fb nlf (by omega) rfl (Mid _ rfl rfl (ex_cat (ex_tup (exa_cons ex_int exa_nil)) (ex_from (k := 1) (Ro _ rfl) ex_int) (by simp; omega))) (mid _ (row_cell (i := 0) (c := c0) rfl (by rw [hcr]; rfl) (decide_eq_false (h199 c0 (by rw [hcr]; exact List.mem_cons_self ..)))) (sw_app (sw_one (.int 199)) (fun d hd => sw_ints r d (List.mem_of_mem_drop hd)) (by simp; omega))) fun H8 fb => ?_
  -- too short
  with_reducible refine w_seq ?_
  refine w_appQ fb nlf (by omega) rfl (Mid _ rfl rfl (Fr _ rfl)) (mid _ (row_len (by rw [fm, cl]; omega)) (.tup (by omega) swf)) fun H9 fb => ?_
  -- too long
  with_reducible refine w_seq ?_
  refine w_appQ fb nlf (by omega) rfl (Mid _ rfl rfl (ex_cat (Ro _ rfl) (ex_end (Ro _ rfl)) (by simp; omega))) (mid _ (row_len (by rw [List.length_append, hde, rm, cl]; simp)) (sw_app (sw_ints r) (by rw [hde]; exact sw_one (.int v)) (by rw [hde]; simp; omega))) fun Ha fb => ?_
  -- nothing behind
  with_reducible refine w_seq ?_
  refine w_appQ fb nlf (by omega) rfl (Mid _ rfl rfl (ex_cat (Fr _ rfl) (ex_tup (exa_cons ex_non exa_nil)) (by simp; omega))) (mid _ (row_cell (hend _) hlast rfl) (sw_app swf (sw_one .non) (by simp; omega))) fun Hb fb => ?_
  -- no row
  with_reducible refine w_seq ?_
  refine w_appQ fb nlf (by omega) rfl (Mid _ rfl rfl ex_non) (mid _ rfl .non) fun Hc fb => ?_
  -- more than one row
  have erp4 : H4 rp = some (.tup ws) := g04.tk _ _ erp
  have eqa4 : H4 qa = some (.tup (dom.map V.int)) := g04.tk _ _ eqa
  with_reducible refine w_seqJ (fun σ' H' => σ' = [some (.ref st), some m, some (.ref it), some (.ref qa), some v0, some (.ref rp), some (.int at_), some vr, some (.int s), none, some (.ref lf), none] ∧ FBl (BadR cols dom) H4 lf 20 H') (fun N hN => ?_) fun σ' H' p => ?_
  · walk_at "aw"
    refine w_lenT (SqT.of (fb.adv.tup _ _ erp4)) ?_
    walk_at "aw"
    by_cases h1 : 1 < rs.length
    · refine iteT'' (decide_eq_true (by omega)) ?_
      obtain ⟨r1, rr2, hrr2⟩ : ∃ r1 rr2, rr = r1 :: rr2 := by
        cases rr with
        | nil => rw [hrr] at h1; simp at h1
        | cons a b => exact ⟨a, b, rfl⟩
      have hfr := hrs.fronts
      rw [hrr, hrr2, List.map_cons, List.map_cons] at hfr
      have eF : (rs.map rowP).map (fun r => (rowI r).dropLast) = rs.map List.dropLast := by
        rw [List.map_map]
        exact List.map_congr_left fun r _ => by show (rowI (rowP r)).dropLast = r.dropLast; rw [rowI_P]
      have hlex : HT.lexLt r0.dropLast r1.dropLast = true := by
        have := allR_asc hrs.asc
        rw [← hfr, List.pairwise_cons] at this
        exact this.1 _ (List.mem_cons_self ..)
      with_reducible refine w_seq ?_
      refine w_appQ fb nlf (by omega) rfl (ex_rev (Rw _ rfl)) ⟨rows_asc (ascR_not (k := rs.length - 2) (a := r1.dropLast) (b := r0.dropLast) ?_ ?_ (lex_asym hlex)), .tup (by rw [List.length_reverse, rl]; omega) fun d hd => swr d (List.mem_reverse.mp hd)⟩ fun Hd fb => ?_
      · rw [List.map_reverse, eF, List.getElem?_reverse (by rw [List.length_map]; omega), List.length_map, show rs.length - 1 - (rs.length - 2) = 1 by omega, hrr, hrr2]
        rfl
      · rw [List.map_reverse, eF, List.getElem?_reverse (by rw [List.length_map]; omega), List.length_map, show rs.length - 1 - (rs.length - 2 + 1) = 0 by omega, hrr]
        rfl
      refine w_appQ fb nlf (by omega) rfl (ex_cat (ex_cat (ex_upto (k := 1) (Rw _ rfl) ex_int) (ex_upto (k := 1) (Rw _ rfl) ex_int) (by simp; omega)) (ex_from (k := 2) (Rw _ rfl) ex_int) (by simp; omega)) ⟨rows_asc (ascR_not (k := 0) (a := r0.dropLast) (b := r0.dropLast) ?_ ?_ (lex_irr _)), sw_app (k := 1) (fun d hd => ?_) (swd _) (by simp; omega)⟩ fun He fb => ?_
      · rw [hrr]
        show some (rowI (rowP r0)).dropLast = _
        rw [rowI_P]
      · rw [hrr]
        show some (rowI (rowP r0)).dropLast = _
        rw [rowI_P]
      · rcases List.mem_append.mp hd with hd | hd
        · exact swt _ d hd
        · exact swt _ d hd
      exact hN _ _ ⟨rfl, fb.mono (by omega)⟩
    · refine iteF'' (decide_eq_false (by omega)) ?_
      with_reducible refine w_next ?_
      exact hN _ _ ⟨rfl, fb.mono (by omega)⟩
  obtain ⟨rfl, fb⟩ := p
  -- two values for one
  with_reducible refine w_seqJ (fun σ' H' => σ' = [some (.ref st), some m, some (.ref it), some (.ref qa), some v0, some (.ref rp), some (.int at_), some vr, some (.int s), none, some (.ref lf), none] ∧ FBl (BadR cols dom) H4 lf 21 H') (fun N hN => ?_) fun σ' H' p => ?_
  · walk_at "aw"
    refine w_lenT (SqT.of (fb.adv.tup _ _ eqa4)) ?_
    rw [List.length_map]
    walk_at "aw"
    by_cases h1 : 1 < dom.length
    · refine iteT'' (decide_eq_true (by omega)) ?_
      refine w_appQ fb nlf (by omega) rfl (ex_cat (ex_cat (ex_upto (Rw _ rfl) (At _ rfl)) (ex_tup (exa_cons (ex_cat (Fr _ rfl) (ex_upto (k := 1) (Dm _ rfl) ex_int) (by simp; omega)) (exa_cons (ex_cat (Fr _ rfl) (ex_mid (Dm _ rfl)) (by simp; omega)) exa_nil))) (by simp; omega)) (ex_from (k := at_ + 1) (Rw _ rfl) (At1 _ rfl)) (by simp; omega)) ⟨rows_len (by simp only [List.length_append, List.length_take, List.length_drop, rl, List.length_cons, List.length_nil]; omega), sw_app (k := 1) (fun d hd => ?_) (swd _) (by simp; omega)⟩ fun He fb => ?_
      · rcases List.mem_append.mp hd with hd | hd
        · exact swt _ d hd
        · simp only [List.mem_cons, List.not_mem_nil, or_false] at hd
          rcases hd with rfl | rfl
          · exact sw_app swf (fun d hd => sw_ints dom d (List.mem_of_mem_take hd)) (by simp; omega)
          · exact sw_app swf (fun d hd => sw_ints dom d (List.mem_of_mem_drop (List.mem_of_mem_take hd))) (by simp; omega)
      exact hN _ _ ⟨rfl, fb.mono (by omega)⟩
    · refine iteF'' (decide_eq_false (by omega)) ?_
      with_reducible refine w_next ?_
      exact hN _ _ ⟨rfl, fb.mono (by omega)⟩
  obtain ⟨rfl, fb⟩ := p
  -- a truth value for 0 or 1
  with_reducible refine w_seq ?_
  obtain ⟨pr, prs, hpr, epr, hprs⟩ := hRow4.tup_inv
  have epr : H4 pr = some (.tup (r.map V.int)) := by rw [epr, hprs.ints_inv]
  subst hpr
  refine w_forR ?_
  walk_at "aw"
  refine w_lenT (SqT.of (fb.adv.tup _ _ epr)) ?_
  rw [List.length_map]
  refine kForR_i (n := r.length) (by omega) (fun i σ' H' => ∃ y, σ' = [some (.ref st), some m, some (.ref it), some (.ref qa), some v0, some (.ref rp), some (.int at_), some (.ref pr), some (.int s), none, some (.ref lf), y] ∧ FBl (BadR cols dom) H4 lf (21 + i) H') ⟨none, rfl, fb⟩ (fun i σ' H' hi p => ?_) fun σ' H' p => ?_
  · obtain ⟨y, rfl, fb⟩ := p
    have hx : r[i]? = some r[i] := List.getElem?_eq_getElem hi
    generalize r[i] = x at hx
    walk_at "aw"
    refine w_ixT (SqT.of (fb.adv.tup _ _ epr)) (v := .int x) (at_of (j := i) rfl (by rw [List.getElem?_map, hx]; rfl)) ?_
    walk_at "aw"
    refine w_lstD (by simp) fun l7 H7 nl7 a7 el7 => ?_
    have fb := fb.up a7
    refine ⟨l7, ([0, 1] : List Int).map V.int, rfl, .inl (SqL.of el7), rfl, flat_ints _, ?_⟩
    dsimp only [Bool.false_eq_true, if_false]
    rw [inV_int]
    walk_at "aw"
    cases hb : decide (x ∈ ([0, 1] : List Int)) with
    | true =>
      refine iteT'' rfl ?_
      have tl : ((r.map PyData.int).take i).length = i := by rw [List.length_take, rm]; omega
      obtain ⟨ci, hci⟩ := get_some (xs := cols ++ [dom]) (i := i) (by omega)
      refine w_appQ fb nlf (by omega) rfl (Mid _ rfl rfl (ex_cat (ex_cat (ex_upto (k := i) (Ro _ rfl) (ex_var rfl (.int _))) (ex_tup (exa_cons (ex_eq (ex_ix (i := i) (Ro _ rfl) (ex_var rfl (.int _)) (by rw [List.getElem?_map, hx]; rfl)) ex_int) exa_nil)) (by simp; omega)) (ex_from (k := i + 1) (Ro _ rfl) ((ex_add (ex_var rfl (.int _)) ex_int).to (by rw [show ((i + 1 : Nat) : Int) = (i : Int) + 1 from by omega]))) (by simp; omega))) (mid _ (row_cell (i := i) (d := .bool (decide (x = 1))) (c := ci) ?_ hci rfl) (sw_app (k := 0) (fun d hd => ?_) (fun d hd => sw_ints r d (List.mem_of_mem_drop hd)) (by simp; omega))) fun H8 fb => ⟨_, rfl, fb⟩
      · rw [List.append_assoc, List.getElem?_append_right (by rw [tl]; exact Nat.le_refl _), tl, Nat.sub_self]
        rfl
      · rcases List.mem_append.mp hd with hd | hd
        · exact sw_ints r d (List.mem_of_mem_take hd)
        · rw [List.mem_singleton.mp hd]
          exact .bl _
    | false =>
      refine iteF'' rfl ?_
      with_reducible refine w_next ?_
      exact ⟨_, rfl, fb.mono (by omega)⟩
  · obtain ⟨y, rfl, fb⟩ := p
    have hX' := hX4
    obtain ⟨mm, m0, m1, f⟩ := fb
    with_reducible refine w_ret ?_
    with_reducible refine w_tup ?_
    with_reducible refine w_cons ?_
    refine w_var rfl ?_
    with_reducible refine w_cons ?_
    refine w_pickP f ok4 nlf rfl rfl m0 (by omega) fun v D H7 g7 hv hD => ?_
    walk_at "aw"
    refine w_tupD (by simp) fun t H8 nt a8 et => ?_
    have g := g04.trans g7
    exact q t D H8 (g.new a8) (.tup et (.cons ((hX.up g.tk).up a8.tup) (.cons (hv.up a8.tup) .nil))) hD
end AW
namespace AW
open PySem PySem.Spec PyProof.Rows L2 RZ
open StX
local macro_rules | `(tactic| walk_at "aw1") => `(tactic| first
  | (with_reducible refine w_seq ?_) | (with_reducible refine w_asg ?_) | (with_reducible refine w_gname ?_) | (with_reducible refine w_op ?_) | (with_reducible refine w_un ?_)
  | ((with_reducible refine' w_var ?h ?_); (case h => rfl)) | (with_reducible refine w_c ?_)
  | (with_reducible refine w_I0 ?_) | (with_reducible refine w_U ?_) | (with_reducible refine w_cb ?_) | (with_reducible refine w_nil ?_) | (with_reducible refine w_cons ?_) | (with_reducible refine w_call ?_)
  | (with_reducible refine w_test ?_) | (with_reducible refine w_B ?_) | (with_reducible refine w_bl ?_) | (with_reducible refine w_not ?_) | (with_reducible refine w_yes ?_) | (with_reducible refine iteT ?_) | (with_reducible refine iteF ?_) | (with_reducible refine w_and ?_) | (with_reducible refine w_or ?_)
  | (with_reducible refine w_andV ?_) | (with_reducible refine w_orV ?_) | (with_reducible refine w_notV ?_) | (with_reducible refine w_if ?_)
  | (with_reducible refine w_int1 ?_) | (with_reducible refine w_int1b ?_) | (with_reducible refine w_abs ?_) | (with_reducible refine w_max2 ?_) | (with_reducible refine w_min2 ?_)
  | ((with_reducible refine w_eq ?h ?_); (case h => rfl)) | ((with_reducible refine w_ne ?h ?_); (case h => rfl)) | (with_reducible refine w_isN ?_) | (with_reducible refine w_isB ?_) | (with_reducible refine w_chain ?_)
  | (with_reducible refine w_ret ?_) | (with_reducible refine w_drop ?_) | (with_reducible refine w_ifS ?_) | (with_reducible refine w_gsub ?_) | (with_reducible refine w_augS ?_) | (with_reducible refine w_ipI ?_) | (with_reducible refine w_next ?_)
  | (with_reducible refine w_forR ?_) | (with_reducible refine w_forR2 ?_) | (with_reducible refine w_forL ?_) | (with_reducible refine w_forT ?_) | (with_reducible refine w_lcR ?_) | (with_reducible refine w_lcL ?_) | (with_reducible refine w_lcT ?_) | (with_reducible refine w_sl ?_) | (with_reducible refine w_part ?_) | (with_reducible refine w_noPart ?_) | (with_reducible refine w_in ?_)
  | (with_reducible refine w_gcons ?_) | (with_reducible refine w_gnil ?_) | (with_reducible refine w_lc3 ?_) | (with_reducible refine w_dcZ ?_) | (with_reducible refine w_dcT ?_) | (with_reducible refine w_dg ?_) | (with_reducible refine w_callK ?_) | (with_reducible refine w_dput ?_) | (with_reducible refine w_tup1 ?_)
  | (with_reducible refine w_tup ?_) | (with_reducible refine w_lst ?_)
  | ((with_reducible refine w_I ?h ?_); (case h => first | (exact Or.inr ⟨by decide, by decide⟩) | (exact Or.inl ⟨by decide, by decide⟩) | (show (0 : Int) < _; decide) | (exact ⟨by decide, by decide, by decide⟩) | assumption)))
local macro_rules | `(tactic| walk_at "aw") => `(tactic| repeat (walk_at "aw1"))
def itmD (it : Itm) : PyData := .tuple [.tuple ((it.1.map (·.1)).map .str), rowsD it.2]
theorem domF_of {doms : List (Str × List Int)} (nd : (doms.map (·.1)).Nodup) {s : Str × List Int} (h : s ∈ doms) : domF doms s.1 = s.2 := by
  have h1 := domF_mem nd (List.mem_map_of_mem (f := (·.1)) h)
  obtain ⟨i, hi, e1⟩ := List.mem_iff_getElem.mp h
  obtain ⟨j, hj, e2⟩ := List.mem_iff_getElem.mp h1
  have : i = j := nodup_inj nd (x := s.1) (by rw [List.getElem?_map, List.getElem?_eq_getElem hi, e1]; rfl) (by rw [List.getElem?_map, List.getElem?_eq_getElem hj, e2]; rfl)
  subst this
  rw [e1] at e2
  exact (congrArg Prod.snd e2).symm
theorem cols_of {doms : List (Str × List Int)} (nd : (doms.map (·.1)).Nodup) {ss : List (Str × List Int)} (h : ∀ s ∈ ss, s ∈ doms) : (((ss.map (·.1)).map PyData.str).map fun x => domF doms (txtD x)) = ss.map (·.2) := by
  rw [List.map_map, List.map_map]
  exact List.map_congr_left fun s hs => domF_of nd (h s hs)
theorem allR_le {n : Nat} {ds : List (List Int)} (h : ∀ d ∈ ds, d.length ≤ n) : ∀ i, i ≤ ds.length → (allR (ds.take i)).length ≤ n ^ i
  | 0, _ => by simp [allR]
  | i + 1, hi => by
    have hd : ds[i]? = some ds[i] := List.getElem?_eq_getElem (by omega)
    rw [allR_take hd, stepR_len, Nat.pow_succ]
    exact Nat.mul_le_mul (allR_le h i (by omega)) (h _ (List.getElem_mem _))
theorem allR_64 {ds : List (List Int)} (h : ∀ d ∈ ds, d.length ≤ 4) (h3 : ds.length ≤ 3) : (allR ds).length ≤ 64 := by
  have := allR_le h ds.length (Nat.le_refl _)
  rw [List.take_of_length_le (Nat.le_refl _)] at this
  exact Nat.le_trans this (Nat.le_trans (Nat.pow_le_pow_right (by decide) h3) (by decide))
theorem ItmOk.rowsOk {doms : List (Str × List Int)} {dom : List Int} {it : Itm} {w : Nat} (h : ItmOk doms dom it) (m : MdlOk w doms) (hl : (allR (it.1.map (·.2))).length ≤ 256) : RowsOk (it.1.map (·.2)) dom it.2 where
  rows := h.rows
  c1 := by rw [List.length_map]; exact h.l1
  c3 := by rw [List.length_map]; exact h.l3
  ne := fun c hc => by
    obtain ⟨s, hs, rfl⟩ := List.mem_map.mp hc
    have := (m.dm s (h.mem s hs)).l1
    intro z
    rw [z] at this
    simp at this
  asc := fun c hc => by
    obtain ⟨s, hs, rfl⟩ := List.mem_map.mp hc
    exact (m.dm s (h.mem s hs)).asc
  l := hl
theorem ItmOk.l64 {doms : List (Str × List Int)} {dom : List Int} {it : Itm} {w : Nat} (h : ItmOk doms dom it) (m : MdlOk w doms) (hw : w ≤ 4) : (allR (it.1.map (·.2))).length ≤ 64 := allR_64 (fun c hc => by
    obtain ⟨s, hs, rfl⟩ := List.mem_map.mp hc
    exact Nat.le_trans (m.dm s (h.mem s hs)).l2 hw) (by rw [List.length_map]; exact h.l3)
theorem unk_right {nms xs : List Str} (h1 : 1 ≤ xs.length) (h3 : xs.length ≤ 3) (nd : xs.Nodup) (h : ∀ x ∈ xs, x ∈ nms) : unkB nms (.tuple (xs.map .str)) 3 = true := by
  unfold unkB
  dsimp only
  have e : (xs.map PyData.str).map txtD = xs := by
    rw [List.map_map]
    exact (List.map_congr_left fun x _ => rfl).trans (List.map_id xs)
  have a : (xs.map PyData.str).all (nameIn nms) = true := by
    rw [List.all_map, List.all_eq_true]
    intro x hx
    exact decide_eq_true (h x hx)
  rw [e, a, List.length_map, decide_eq_true (show (1 : Int) ≤ (xs.length : Nat) by omega), decide_eq_true (show ((xs.length : Nat) : Int) ≤ 3 by omega), decide_eq_true nd]
  rfl
theorem ItmOk.right {doms : List (Str × List Int)} {dom : List Int} {it : Itm} {w : Nat} (h : ItmOk doms dom it) (m : MdlOk w doms) (hl : (allR (it.1.map (·.2))).length ≤ 256) : itmB doms dom (itmD it) = true := by
  show (unkB (doms.map (·.1)) (.tuple ((it.1.map (·.1)).map .str)) 3 && rowsB (((it.1.map (·.1)).map PyData.str).map fun x => domF doms (txtD x)) dom (rowsD it.2)) = true
  rw [cols_of m.nd h.mem, (h.rowsOk m hl).right, unk_right (by rw [List.length_map]; exact h.l1) (by rw [List.length_map]; exact h.l3) h.nd fun x hx => by
    obtain ⟨s, hs, rfl⟩ := List.mem_map.mp hx
    exact List.mem_map_of_mem (h.mem s hs)]
  rfl
def BadI (doms : List (Str × List Int)) (dom : List Int) (D : PyData) : Prop := itmB doms dom D = false ∧ Sw 4 D
def sp__law_spoilt (_ : PySem.W.Frag) : Sp := fun vs H Q _ => ∃ (st vw : Addr) (m1 m2 : V) (k : Nat), vs = [.ref st, m1, m2, .ref vw, .int k] ∧ ∃ cs d1 d2 w1 w2, ∃ ds : List PyData, ∃ it dk, StOk st cs H ∧ MdlAt H m1 d1 ∧ MdlOk w1 d1 ∧ w1 ≤ 4 ∧ d1.length ≤ 24 ∧ MdlAt H m2 d2 ∧ MdlOk w2 d2 ∧ w2 ≤ 12 ∧ Is H (.tuple ds) (.ref vw) ∧ ds.length ≤ 100 ∧ ds[k]? = some (itmD it) ∧ d2[k]? = some dk ∧ ItmOk d1 dk.2 it ∧
  ∀ t D H', Go st cs H H' → Is H' (.tuple ((ds.take k ++ [D]) ++ ds.drop (k + 1))) (.ref t) → BadI d1 dk.2 D → Q (.ref t) H'
theorem w_tupW {xs : List V} {H : Hp} {Q : VK} (h : xs.length ≤ 100000) (q : ∀ r H', Adv [] H H' → H' r = some (.tup xs) → Q (.ref r) H') : kTupD xs H Q := w_tupD h fun r H' _ a e => q r H' a e
def t__law_spoilt (K : PySem.W.Frag) : TS := (tSeq (tAsg (tOp (rIxT K) (tVar 3) (tVar 4)) (gName 5))
  (tSeq (tAsg (tCall (sp__law_draw K) [] E0 (tCons (tVar 0) (tCons (tC (.int 5)) tNil))) (gName 6))
  (tSeq (tIfS (tTest (tOp rEq (tVar 6) (tC (.int 0)))) (tAsg (tOp (rIxL K) (tLst (tCons (tC .non) (tCons (tTup tNil) (tCons (tC (.int 0)) (tCons (tSl (rSlA K) (tVar 5) tNoPart (tPart (tC (.int 1)))) (tCons (tOp (rCatA K) (tVar 5) (tTup (tCons (tTup tNil) tNil))) (tCons (tC (.str "xy")) (tCons (tC (.bl true)) (tCons (tOp (rIxT K) (tVar 5) (tC (.int 0))) (tCons (tTup (tCons (tVar 5) tNil)) tNil)))))))))) (tCall (sp__law_draw K) [] E0 (tCons (tVar 0) (tCons (tC (.int 9)) tNil)))) (gName 7)) (tIfS (tTest (tOp rLtI (tVar 6) (tC (.int 3)))) (tAsg (tCall (sp__law_spoilt_names K) [] E0 (tCons (tVar 0) (tCons (tVar 1) (tCons (tVar 5) tNil)))) (gName 7)) (tAsg (tCall (sp__law_spoilt_rows K) [] E0 (tCons (tVar 0) (tCons (tVar 2) (tCons (tVar 5) (tCons (tOp (rIxT K) (tOp (rIxT K) (tOp (rIxT K) (tVar 2) (tC (.int 0))) (tVar 4)) (tC (.int 1))) tNil))))) (gName 7))))
  (tRet (tOp (rCatA K) (tOp (rCatA K) (tSl (rSlA K) (tVar 3) tNoPart (tPart (tVar 4))) (tTup (tCons (tVar 7) tNil))) (tSl (rSlA K) (tVar 3) (tPart (tOp rAddI (tVar 4) (tC (.int 1)))) tNoPart))))))
theorem len__law_spoilt {K : PySem.W.Frag} : ∀ (vs : List V) (H : Hp) (Q : VK) (E : XK), sp__law_spoilt K vs H Q E → vs.length = 5 := fun vs H Q E h => by
  obtain ⟨_, _, _, _, _, rfl, _⟩ := h
  rfl
theorem itm_not {doms : List (Str × List Int)} {dom : List Int} {N R : PyData} (h : unkB (doms.map (·.1)) N 3 = false) : itmB doms dom (.tuple [N, R]) = false := by
  show (unkB (doms.map (·.1)) N 3 && _) = false
  rw [h]
  rfl
theorem pure__law_spoilt {K : PySem.W.Frag} (vs : List V) (H : Hp) (Q : VK) (E : XK) (h : sp__law_spoilt K vs H Q E) : t__law_spoilt K { nx := fun _ H' => Q .non H', rt := Q } (start ["tape", "one", "other", "view", "number", "item", "way", "new"] vs) H := by
  obtain ⟨st, vw, m1, m2, k, rfl, cs, d1, d2, w1, w2, ds, it, dk, ok, hm1, mok, hw1, hl1, hm2, mok2, hw2, hvw, hvl, hk, hdk, hit, q⟩ := h
  obtain ⟨a2, b2, r2, us2, rfl, ea2, eb2, hus2⟩ := id hm2
  show t__law_spoilt K _ [some (.ref st), some m1, some (.ref a2), some (.ref vw), some (.int k), none, none, none] H
  unfold t__law_spoilt
  obtain ⟨vw', ws, ev, evw, hws⟩ := hvw.tup_inv
  cases ev
  obtain ⟨vi, hvi, hI⟩ := hws.get' hk
  obtain ⟨ip, iv, rfl, eip, hiv⟩ := hI.tup_inv
  have hkl : k < ds.length := (List.getElem?_eq_some_iff.mp hk).1
  have hl64 := hit.l64 mok hw1
  have hro := hit.rowsOk mok (by omega)
  have nmL : (it.1.map (·.1)).length = it.1.length := List.length_map ..
  have nmS : ∀ x ∈ it.1.map (·.1), x ∈ d1.map (·.1) := fun x hx => by
    obtain ⟨s, hs, rfl⟩ := List.mem_map.mp hx
    exact List.mem_map_of_mem (hit.mem s hs)
  have okx : ∀ x ∈ it.1.map (·.1), okS x := fun x hx => okS_allN (mok.nm x (nmS x hx))
  have h1 := hit.l1
  have h3 := hit.l3
  have swN : Sw 1 (.tuple ((it.1.map (·.1)).map .str)) := .tup (by rw [List.length_map, nmL]; omega) (sw_strs okx)
  have rsl : it.2.length ≤ 64 := by rw [hro.rows.length]; exact hl64
  have swR : Sw 2 (rowsD it.2) := .tup (by rw [List.length_map]; omega) fun d hd => by
    obtain ⟨x, hx, rfl⟩ := List.mem_map.mp hd
    obtain ⟨f0, v0, rfl, _, _, hp⟩ := hro.row hx
    exact .tup (by rw [List.length_map, List.length_append, hp.length, List.length_map]; simp; omega) (sw_ints _)
  have dk2 := mok2.dm dk (List.mem_of_getElem? hdk)
  obtain ⟨uk, huk⟩ := get_some (xs := us2) (i := k) (by rw [hus2.1]; exact (List.getElem?_eq_some_iff.mp hdk).1)
  obtain ⟨p, qd, d', rfl, hd', ep, eqd⟩ := hus2.2 k uk huk
  rw [hdk] at hd'
  cases hd'
  walk_at "aw"
  refine w_ixT (SqT.of evw) (at_of (j := k) (by omega) hvi) ?_
  walk_at "aw"
  refine w_draw ok (by decide) (by decide) fun way H1 a0 a1 g1 => ?_
  have ok1 := g1.ok
  have hI1 := hI.up g1.tk
  with_reducible refine w_gname ?_
  with_reducible refine w_seqJ (fun σ' H' => ∃ v D, σ' = [some (.ref st), some m1, some (.ref a2), some (.ref vw), some (.int k), some (.ref ip), some (.int way), some v] ∧ Go st cs H H' ∧ Is H' D v ∧ BadI d1 dk.2 D) (fun N hN => ?_) fun σ' H' p => ?_
  · walk_at "aw"
    by_cases hw0 : way = 0
    · refine iteT'' (decide_eq_true (by rw [hw0])) ?_
      have Iv : ∀ σ : L2.St, σ[5]? = some (some (.ref ip)) → EX (itmD it) (tVar 5) σ H1 := fun σ h => ex_var h hI1
      have bads : ∀ d ∈ [.none, .tuple [], .int 0, .tuple ([.tuple ((it.1.map (·.1)).map .str), rowsD it.2].take 1), .tuple ([.tuple ((it.1.map (·.1)).map .str), rowsD it.2] ++ [.tuple []]), .str (Str.ofString "xy"), .bool true, .tuple ((it.1.map (·.1)).map .str), .tuple [itmD it]], BadI d1 dk.2 d := by
        intro d hd
        simp only [List.mem_cons, List.not_mem_nil, or_false] at hd
        rcases hd with rfl | rfl | rfl | rfl | rfl | rfl | rfl | rfl | rfl
        · exact ⟨rfl, .non⟩
        · exact ⟨rfl, .tup (by simp) fun _ h => nomatch h⟩
        · exact ⟨rfl, .int 0⟩
        · exact ⟨rfl, .tup (by simp) (sw_one (swN.mono (by decide)))⟩
        · refine ⟨rfl, .tup (by simp) fun d hd => ?_⟩
          simp only [List.cons_append, List.nil_append, List.mem_cons, List.not_mem_nil, or_false] at hd
          rcases hd with rfl | rfl | rfl
          · exact swN.mono (by decide)
          · exact swR.mono (by decide)
          · exact .tup (by simp) fun _ h => nomatch h
        · exact ⟨rfl, .str (okS_of "xy")⟩
        · exact ⟨rfl, .bl true⟩
        · refine ⟨?_, swN.mono (by decide)⟩
          match it.1, h1, h3 with
          | [a], _, _ => rfl
          | [a, b], _, _ => exact itm_not rfl
          | [a, b, c], _, _ => rfl
        · refine ⟨rfl, .tup (by simp) (sw_one (.tup (by simp) fun d hd => ?_))⟩
          simp only [List.mem_cons, List.not_mem_nil, or_false] at hd
          rcases hd with rfl | rfl
          · exact swN.mono (by decide)
          · exact swR
      with_reducible refine w_asg ?_
      refine w_ofP (exa_cons ex_non (exa_cons (ex_tup exa_nil) (exa_cons ex_int (exa_cons (ex_upto (k := 1) (Iv _ rfl) ex_int) (exa_cons (ex_cat (Iv _ rfl) (ex_tup (exa_cons (ex_tup exa_nil) exa_nil)) (by simp)) (exa_cons ex_str (exa_cons ex_bl (exa_cons (ex_ix (i := 0) (Iv _ rfl) ex_int rfl) (exa_cons (ex_tup (exa_cons (Iv _ rfl) exa_nil)) exa_nil))))))))) bads ok1 rfl rfl (by simp) (by simp) fun v D H2 g2 hd hD => ?_
      with_reducible refine w_gname ?_
      exact hN _ _ ⟨v, D, rfl, g1.trans g2, hd, hD⟩
    · refine iteF'' (decide_eq_false (by simpa using hw0)) ?_
      walk_at "aw"
      by_cases hw3 : way < 3
      · refine iteT'' (decide_eq_true hw3) ?_
        walk_at "aw"
        refine ⟨st, ip, m1, rfl, cs, d1, w1, rowsD it.2, List.map (fun s : Str × List Int => s.1) it.1, ok1, hm1.up g1.tk, mok, hl1, hI1, by rw [nmL]; exact h1, by rw [nmL]; exact h3, hit.nd, nmS, fun t N H2 g2 ht hB => ?_⟩
        with_reducible refine w_gname ?_
        refine hN _ _ ⟨_, _, rfl, g1.trans g2, ht, itm_not hB.1, .tup (by simp) fun d hd => ?_⟩
        simp only [List.mem_cons, List.not_mem_nil, or_false] at hd
        rcases hd with rfl | rfl
        · exact hB.2.mono (by decide)
        · exact swR.mono (by decide)
      · refine iteF'' (decide_eq_false hw3) ?_
        walk_at "aw"
        refine w_ixT (SqT.of (g1.tk _ _ ea2)) (at_nat (by decide) rfl) ?_
        walk_at "aw"
        refine w_ixT (SqT.of (g1.tk _ _ eb2)) (at_of (j := k) rfl huk) ?_
        walk_at "aw"
        refine w_ixT (SqT.of (g1.tk _ _ ep)) (at_nat (by decide) rfl) ?_
        walk_at "aw"
        refine ⟨st, ip, qd, _, rfl, cs, List.map (fun s : Str × List Int => s.2) it.1, dk.2, .tuple ((List.map (fun s : Str × List Int => s.1) it.1).map .str), it.2, ok1, hI1, g1.tk _ _ eqd, hro, by omega, by have := dk2.l2; omega, fun z => by have := (dk2.bd _ z).2.1; omega, fun c hc z => ?_, fun t R H2 g2 ht hB => ?_⟩
        · obtain ⟨s, hs, rfl⟩ := List.mem_map.mp hc
          have := ((mok.dm s (hit.mem s hs)).bd _ z).2.2
          omega
        with_reducible refine w_gname ?_
        refine hN _ _ ⟨_, _, rfl, g1.trans g2, ht, ?_, .tup (by simp) fun d hd => ?_⟩
        · show (_ && rowsB (((it.1.map (·.1)).map PyData.str).map fun x => domF d1 (txtD x)) dk.2 R) = false
          rw [cols_of mok.nd hit.mem, hB.1, Bool.and_false]
        · simp only [List.mem_cons, List.not_mem_nil, or_false] at hd
          rcases hd with rfl | rfl
          · exact swN.mono (by decide)
          · exact hB.2.mono (by decide)
  obtain ⟨v, D, rfl, g, hv, hD⟩ := p
  have hvw' := hvw.up g.tk
  with_reducible refine w_ret ?_
  have Vw : ∀ σ : L2.St, σ[3]? = some (some (.ref vw)) → EX (.tuple ds) (tVar 3) σ H' := fun σ h => ex_var h hvw'
  have Kk : ∀ σ : L2.St, σ[4]? = some (some (.int k)) → EX (.int (k : Int)) (tVar 4) σ H' := fun σ h => ex_var h (.int _)
  refine EX.get (ex_cat (ex_cat (ex_upto (Vw _ rfl) (Kk _ rfl)) (ex_tup (exa_cons (ex_var rfl hv) exa_nil)) (by simp; omega)) (ex_from (k := k + 1) (Vw _ rfl) ((ex_add (Kk _ rfl) ex_int).to (by rw [show ((k + 1 : Nat) : Int) = (k : Int) + 1 from by omega]))) (by simp; omega)) fun u H2 a2' hu => ?_
  obtain ⟨t, _, rfl, _, _⟩ := id hu.tup_inv
  exact q t D H2 (g.new a2') hu hD
end AW
/-! sorted(d) of a dict whose keys are tuples of ints -/
namespace AW
open PySem PySem.Spec PyProof.Rows L2 RZ PySem.W
end AW
/-! max(t), sum(t), t a tuple of ints -/
namespace AW
open PySem PySem.Spec PyProof.Rows L2 RZ PySem.W
def rSumT (K : PySem.W.Frag) : List V → Hp → VK → Prop := fun vs H Q => ∃ (a : Addr) (ns : List Int), vs = [V.ref a] ∧ SqT K H a (ns.map V.int) ∧ Q (.int ns.sum) H
theorem call_sumT {X : Cx} (hc : X.calm = true) : CallR X (.builtin "sum") (rSumT X.K) := by
  rintro pins s σ H _ us Q I r ⟨a, ns, rfl, hs, q⟩
  obtain ⟨its, rv, pl, hz⟩ := I.tuple hs
  rw [Vals.ref1 r]
  have hi := rv.ints
  obtain ⟨xs, e⟩ := hi.allInts.items
  have hn : numsOf (intItems xs).toList = ns := by rw [← e]; exact hi.numsOf
  rw [nums_intItems] at hn
  rw [e] at pl
  refine ktm_sumG (I.ok.hd hc) pl fun h' tk t' hk => ?_
  rw [preSum_eq, List.take_of_length_le (by simp), hn]
  exact ⟨.int _, H, I.kept hk, ⟨_, rfl⟩, q⟩
end AW
namespace AW
open PySem PySem.Spec PyProof.Rows L2 RZ
open StX
local macro_rules | `(tactic| walk_at "aw1") => `(tactic| first
  | (with_reducible refine w_seq ?_) | (with_reducible refine w_asg ?_) | (with_reducible refine w_gname ?_) | (with_reducible refine w_op ?_) | (with_reducible refine w_un ?_)
  | ((with_reducible refine' w_var ?h ?_); (case h => rfl)) | (with_reducible refine w_c ?_)
  | (with_reducible refine w_I0 ?_) | (with_reducible refine w_U ?_) | (with_reducible refine w_cb ?_) | (with_reducible refine w_nil ?_) | (with_reducible refine w_cons ?_) | (with_reducible refine w_call ?_)
  | (with_reducible refine w_test ?_) | (with_reducible refine w_B ?_) | (with_reducible refine w_bl ?_) | (with_reducible refine w_not ?_) | (with_reducible refine w_yes ?_) | (with_reducible refine iteT ?_) | (with_reducible refine iteF ?_) | (with_reducible refine w_and ?_) | (with_reducible refine w_or ?_)
  | (with_reducible refine w_andV ?_) | (with_reducible refine w_orV ?_) | (with_reducible refine w_notV ?_) | (with_reducible refine w_if ?_)
  | (with_reducible refine w_int1 ?_) | (with_reducible refine w_int1b ?_) | (with_reducible refine w_abs ?_) | (with_reducible refine w_max2 ?_) | (with_reducible refine w_min2 ?_)
  | ((with_reducible refine w_eq ?h ?_); (case h => rfl)) | ((with_reducible refine w_ne ?h ?_); (case h => rfl)) | (with_reducible refine w_isN ?_) | (with_reducible refine w_isB ?_) | (with_reducible refine w_chain ?_)
  | (with_reducible refine w_ret ?_) | (with_reducible refine w_drop ?_) | (with_reducible refine w_ifS ?_) | (with_reducible refine w_gsub ?_) | (with_reducible refine w_augS ?_) | (with_reducible refine w_ipI ?_) | (with_reducible refine w_next ?_)
  | (with_reducible refine w_forR ?_) | (with_reducible refine w_forR2 ?_) | (with_reducible refine w_forL ?_) | (with_reducible refine w_forT ?_) | (with_reducible refine w_lcR ?_) | (with_reducible refine w_lcL ?_) | (with_reducible refine w_lcT ?_) | (with_reducible refine w_sl ?_) | (with_reducible refine w_part ?_) | (with_reducible refine w_noPart ?_) | (with_reducible refine w_in ?_)
  | (with_reducible refine w_gcons ?_) | (with_reducible refine w_gnil ?_) | (with_reducible refine w_lc3 ?_) | (with_reducible refine w_dcZ ?_) | (with_reducible refine w_dcT ?_) | (with_reducible refine w_dg ?_) | (with_reducible refine w_callK ?_) | (with_reducible refine w_dput ?_) | (with_reducible refine w_tup1 ?_)
  | (with_reducible refine w_tup ?_) | (with_reducible refine w_lst ?_)
  | ((with_reducible refine w_I ?h ?_); (case h => first | (exact Or.inr ⟨by decide, by decide⟩) | (exact Or.inl ⟨by decide, by decide⟩) | (show (0 : Int) < _; decide) | (exact ⟨by decide, by decide, by decide⟩) | assumption)))
local macro_rules | `(tactic| walk_at "aw") => `(tactic| repeat (walk_at "aw1"))
theorem foldR_mem : ∀ {cols : List (List Int)} {rows : List (List Int)} {r pre : List Int}, pre ∈ rows → Paired (fun x c => x ∈ c) r cols → pre ++ r ∈ cols.foldl stepR rows
  | [], _, _, pre, h, .nil => by rw [List.append_nil]; exact h
  | c :: cols, rows, _, pre, h, @Paired.cons _ _ _ x _ r _ a t => by
    have h2 : pre ++ [x] ∈ stepR rows c := List.mem_flatMap.mpr ⟨pre, h, List.mem_map_of_mem a⟩
    have := foldR_mem (cols := cols) h2 t
    rw [List.append_assoc] at this
    exact this
theorem allR_mem {cols : List (List Int)} {r : List Int} (h : Paired (fun x c => x ∈ c) r cols) : r ∈ allR cols := foldR_mem (pre := []) (List.mem_singleton_self _) h
theorem RowsOk.nd {cols : List (List Int)} {dom : List Int} {rs : List (List Int)} (h : RowsOk cols dom rs) : (rs.map List.dropLast).Nodup := by
  rw [h.fronts]
  refine (allR_asc h.asc).imp fun {a b} z e => ?_
  rw [e, lex_irr] at z
  cases z
theorem paired_map {α β : Type} {R : α → β → Prop} {γ : Type} (f : γ → α) (g : γ → β) : ∀ {xs : List γ}, (∀ x ∈ xs, R (f x) (g x)) → Paired R (xs.map f) (xs.map g)
  | [], _ => .nil
  | x :: xs, h => .cons (h x (List.mem_cons_self ..)) (paired_map f g fun y hy => h y (List.mem_cons_of_mem _ hy))
theorem ItmOk.see {doms : List (Str × List Int)} {dom : List Int} {it : Itm} {w : Nat} {φ : Str → Int} (h : ItmOk doms dom it) (m : MdlOk w doms) (hl : (allR (it.1.map (·.2))).length ≤ 256) (hφ : ∀ d ∈ doms, φ d.1 ∈ d.2) : ItSee (doms.map (·.1)) φ it := by
  have hr := h.rowsOk m hl
  refine ⟨hr.nd, fun r hr' => ?_, ?_, h.l3, fun s hs => List.mem_map_of_mem (h.mem s hs), ?_⟩
  · obtain ⟨fr, v, rfl, _⟩ := hr.row hr'
    simp
  · rw [hr.rows.length]
    omega
  · have h1 : (it.1.map fun s => φ s.1) ∈ allR (it.1.map (·.2)) := allR_mem (paired_map _ _ fun s hs => hφ s (h.mem s hs))
    obtain ⟨i, hi, e⟩ := List.mem_iff_getElem.mp h1
    have hlen := hr.rows.length
    obtain ⟨v, _, e2⟩ := paired_at hr.rows (List.getElem?_eq_getElem (show i < it.2.length by omega)) (List.getElem?_eq_getElem hi)
    refine ⟨v, ?_⟩
    rw [← e, ← e2]
    exact List.getElem_mem _
theorem tup_is {H : Hp} {u : V} {r : List Int} (h : TupAt H u r) : Is H (rowP r) u := by
  obtain ⟨a, rfl, e⟩ := h
  exact .tup e (IsAll.ints r)
theorem tups_is {H : Hp} {us : List V} {rs : List (List Int)} (h : TupsAt H us rs) : IsAll H (rs.map rowP) us := by
  induction h with
  | nil => exact .nil
  | cons a t ih => exact .cons (tup_is a) ih
theorem ItmAt.is {H : Hp} {u : V} {it : Itm} (h : ItmAt H u it) : Is H (itmD it) u := by
  obtain ⟨p, a, b, vs, rfl, e1, e2, e3, hr⟩ := h
  exact .tup e1 (.cons (.tup e2 (IsAll.strs _)) (.cons (.tup e3 (tups_is hr)) .nil))
theorem items_is {H : Hp} {us : List V} {L : List Itm} (h : Paired (fun u it => ItmAt H u it) us L) : IsAll H (L.map itmD) us := by
  induction h with
  | nil => exact .nil
  | cons a t ih => exact .cons a.is ih
theorem itm_sw {doms : List (Str × List Int)} {dom : List Int} {it : Itm} {w : Nat} (h : ItmOk doms dom it) (m : MdlOk w doms) (hl : it.2.length ≤ 300) : Sw 3 (itmD it) := by
  refine .tup (by simp) fun d hd => ?_
  simp only [List.mem_cons, List.not_mem_nil, or_false] at hd
  have h3 := h.l3
  rcases hd with rfl | rfl
  · refine (Sw.tup (k := 1) (by rw [List.length_map, List.length_map]; omega) (sw_strs fun x hx => ?_))
    obtain ⟨s, hs, rfl⟩ := List.mem_map.mp hx
    exact okS_allN (m.nm _ (List.mem_map_of_mem (h.mem s hs)))
  · refine .tup (by rw [List.length_map]; exact hl) fun d hd => ?_
    obtain ⟨r, hr, rfl⟩ := List.mem_map.mp hd
    obtain ⟨i, hi, rfl⟩ := List.mem_iff_getElem.mp hr
    have hlen := h.rows.length
    have hi2 : i < (allR (it.1.map (·.2))).length := by omega
    obtain ⟨v, _, e2⟩ := paired_at h.rows (List.getElem?_eq_getElem hi) (List.getElem?_eq_getElem hi2)
    have hrow := allR_row (ds := it.1.map (·.2)) (it.1.map (·.2)).length (Nat.le_refl _) _ (by rw [List.take_length]; exact List.getElem_mem hi2)
    rw [List.length_map] at hrow
    refine .tup ?_ (sw_ints _)
    rw [List.length_map, e2, List.length_append, hrow]
    simp
    omega
theorem view_sw {d1 d2 : List (Str × List Int)} {L : List Itm} {w : Nat} (m : MdlOk w d1) (h : Paired (fun it d => ItmOk d1 d.2 it) L d2) (hl : ∀ it ∈ L, it.2.length ≤ 300) (h2 : d2.length ≤ 300) : Sw 4 (.tuple (L.map itmD)) := by
  refine .tup (by rw [List.length_map, h.length]; exact h2) fun d hd => ?_
  obtain ⟨it, hit, rfl⟩ := List.mem_map.mp hd
  obtain ⟨i, hi, rfl⟩ := List.mem_iff_getElem.mp hit
  have hlen := h.length
  exact itm_sw (paired_at h (List.getElem?_eq_getElem hi) (List.getElem?_eq_getElem (show i < d2.length by omega))) m (hl _ (List.getElem_mem _))
theorem vw_none {d1 d2 : List (Str × List Int)} {is : List PyData} (hl : is.length = d2.length) (h : ∀ (i : Nat) D d, is[i]? = some D → d2[i]? = some d → itmB d1 d.2 D = true) : vwB d1 d2 (.tuple is) = none := by
  unfold vwB
  dsimp only
  rw [if_pos hl, Option.map_eq_none_iff, List.find?_eq_none]
  intro k hk
  have hk' := List.mem_range.mp hk
  have e1 : is[k]? = some is[k] := List.getElem?_eq_getElem hk'
  have e2 : d2[k]? = some d2[k] := List.getElem?_eq_getElem (by omega)
  rw [getD_of e1, getD_of e2, h k _ _ e1 e2]
  decide
theorem vw_first {d1 d2 : List (Str × List Int)} {is : List PyData} {k : Nat} {D : PyData} {d : Str × List Int} (hl : is.length = d2.length) (h : ∀ (i : Nat) D d, i < k → is[i]? = some D → d2[i]? = some d → itmB d1 d.2 D = true) (e1 : is[k]? = some D) (e2 : d2[k]? = some d) (hb : itmB d1 d.2 D = false) : vwB d1 d2 (.tuple is) = some (k : Int) := by
  unfold vwB
  dsimp only
  have hk := (List.getElem?_eq_some_iff.mp e1).1
  rw [if_pos hl, find_first hk (by rw [getD_of e1, getD_of e2, hb]; rfl) fun j hj => ?_]
  · rfl
  · have e3 : is[j]? = some is[j] := List.getElem?_eq_getElem (by omega)
    have e4 : d2[j]? = some d2[j] := List.getElem?_eq_getElem (by omega)
    rw [getD_of e3, getD_of e4, h j _ _ hj e3 e4]
    rfl
def colF (l : Int) (n : Nat) : List Int := (List.range n).map fun j : Nat => l + (j : Int)
theorem colF_len (l : Int) (n : Nat) : (colF l n).length = n := by unfold colF; rw [List.length_map, List.length_range]
theorem colF_ok {l : Int} {n : Nat} (h1 : 1 ≤ n) (h2 : n ≤ 12) (h3 : -200 ≤ l) (h4 : l ≤ 189) : DomOk 12 (colF l n) where
  l1 := by rw [colF_len]; exact h1
  l2 := by rw [colF_len]; exact h2
  asc := by
    unfold colF
    rw [List.pairwise_map]
    exact List.pairwise_lt_range.imp (fun h => by omega)
  bd := fun x hx => by
    unfold colF at hx
    obtain ⟨j, hj, rfl⟩ := List.mem_map.mp hx
    have := List.mem_range.mp hj
    omega
def bigD (l : Int) (a b c : Nat) : List (Str × List Int) := [("x0", colF l a), ("x1", colF l b), ("x2", colF l c)]
def SzP (D : PyData) : Prop := ∃ a b c : Nat, D = .tuple ([(a : Int), (b : Int), (c : Int)].map .int) ∧ (1 ≤ a ∧ a ≤ 12 ∧ 1 ≤ b ∧ b ≤ 12 ∧ 1 ≤ c ∧ c ≤ 12) ∧ a * b * c ≤ 300
theorem bigD_ok {l : Int} {a b c : Nat} (h : 1 ≤ a ∧ a ≤ 12 ∧ 1 ≤ b ∧ b ≤ 12 ∧ 1 ≤ c ∧ c ≤ 12) (h3 : -200 ≤ l) (h4 : l ≤ 189) : MdlOk 12 (bigD l a b c) where
  nd := by show (["x0", "x1", "x2"] : List Str).Nodup; decide +kernel
  nm := by
    show ∀ x ∈ (["x0", "x1", "x2"] : List Str), x ∈ allM
    unfold allM
    exact fun x hx => List.mem_append_right _ hx
  dm := fun d hd => by
    unfold bigD at hd
    simp only [List.mem_cons, List.not_mem_nil, or_false] at hd
    rcases hd with rfl | rfl | rfl
    · exact colF_ok h.1 h.2.1 h3 h4
    · exact colF_ok h.2.2.1 h.2.2.2.1 h3 h4
    · exact colF_ok h.2.2.2.2.1 h.2.2.2.2.2 h3 h4
theorem big_many (l : Int) (a b c : Nat) : (allR ((bigD l a b c).map (·.2))).length = a * b * c := by
  rw [allR_many]
  unfold manyR bigD
  simp only [List.map_cons, List.map_nil, List.foldl_cons, List.foldl_nil, colF_len, Nat.one_mul]
theorem w_lcR2 {σ : L2.St} {H : Hp} {Q : VK} {ta : TA} {g : TG} {tt : TT} {te : TE} {vs : List Nat} (h : ta σ H fun ws H1 => ∃ i j : Int, ws = [.int i, .int j] ∧ (-(2 ^ 62) ≤ i ∧ i < 2 ^ 62 ∧ -(2 ^ 62) ≤ j ∧ j < 2 ^ 62) ∧ kLc (Itr i (j - i).toNat) g tt te vs σ Q H1) : tLc (iRng2 ta) g tt te vs σ H Q := h
theorem w_par {i j : Nat} {ta : TA} {D : Ends} {σ : L2.St} {H : Hp} (h : ta σ H fun vs H1 => ∃ v w, vs = [v, w] ∧ D.nx ((σ.set i (some v)).set j (some w)) H1) : tPar i j ta D σ H := h
def sp__law_large_right (_ : PySem.W.Frag) : Sp := fun vs H Q _ => ∃ (st : Addr), vs = [.ref st] ∧ ∃ cs, StOk st cs H ∧ ∀ H', Go st cs H H' → Q (.bl true) H'
theorem fil_ex {doms : List (Str × List Int)} (nd : (doms.map (·.1)).Nodup) {us : List V} (hl : us.length = doms.length) (h : ∀ (i : Nat) u, us[i]? = some u → ∃ d, doms[i]? = some d ∧ ∃ x ∈ d.2, u = .int x) : ∃ φ : Str → Int, us = ((doms.map (·.1)).map fun x => V.int (φ x)) ∧ ∀ d ∈ doms, φ d.1 ∈ d.2 := by
  obtain ⟨zs, hz, hP⟩ := list_choose (P := fun i u (x : Int) => u = V.int x ∧ ∃ d, doms[i]? = some d ∧ x ∈ d.2) fun i u hu => by
    obtain ⟨d, h1, x, h2, h3⟩ := h i u hu
    exact ⟨x, h3, d, h1, h2⟩
  obtain ⟨φ, hφ⟩ := fil_of nd (zs := zs) (by rw [List.length_map]; omega)
  have key : ∀ (i : Nat) d z, doms[i]? = some d → zs[i]? = some z → φ d.1 = z := fun i d z hd hz => by
    have : ((doms.map (·.1)).map φ)[i]? = some (φ d.1) := by rw [List.getElem?_map, List.getElem?_map, hd]; rfl
    rw [hφ, hz] at this
    exact (Option.some.inj this).symm
  refine ⟨φ, ?_, fun d hd => ?_⟩
  · apply List.ext_getElem (by rw [List.length_map, List.length_map, hl])
    intro i h1 h2
    have e1 : us[i]? = some us[i] := List.getElem?_eq_getElem h1
    have e2 : zs[i]? = some zs[i] := List.getElem?_eq_getElem (by omega)
    have e3 : doms[i]? = some doms[i] := List.getElem?_eq_getElem (by omega)
    rw [List.getElem_map, List.getElem_map, key i _ _ e3 e2]
    exact (hP i _ _ e1 e2).1
  · obtain ⟨i, hi, rfl⟩ := List.mem_iff_getElem.mp hd
    have e1 : us[i]? = some us[i] := List.getElem?_eq_getElem (by omega)
    have e2 : zs[i]? = some zs[i] := List.getElem?_eq_getElem (by omega)
    have e3 : doms[i]? = some doms[i] := List.getElem?_eq_getElem (by omega)
    obtain ⟨_, d, h1, h2⟩ := hP i _ _ e1 e2
    rw [e3] at h1
    cases h1
    rw [key i _ _ e3 e2]
    exact h2
theorem sme_ints (xs : List Int) (h : xs.length ≤ 1000) : SmE 4 (.tuple (xs.map PyData.int)) := .tup _ (by rw [List.length_map]; exact h) fun d hd => by
  obtain ⟨x, _, rfl⟩ := List.mem_map.mp hd
  exact .int x
theorem sme_told : SmE 4 (.tuple [.str "told", .none]) := .tup _ (by simp) fun d hd => by
  simp only [List.mem_cons, List.not_mem_nil, or_false] at hd
  rcases hd with rfl | rfl
  · exact .str _
  · exact .non
theorem sme_view (k : Int) : SmE 4 (.tuple [.str "view", .int k]) := .tup _ (by simp) fun d hd => by
  simp only [List.mem_cons, List.not_mem_nil, or_false] at hd
  rcases hd with rfl | rfl
  · exact .str _
  · exact .int _
theorem allR_one (c : List Int) : allR [c] = c.map fun v => [v] := by
  unfold allR stepR
  simp
def t__law_large_right (K : PySem.W.Frag) : TS := (tSeq (tAsg (tOp (rIxL K) (tLst (tCons (tTup (tCons (tC (.int 4)) (tCons (tC (.int 8)) (tCons (tC (.int 8)) tNil)))) (tCons (tTup (tCons (tC (.int 8)) (tCons (tC (.int 4)) (tCons (tC (.int 8)) tNil)))) (tCons (tTup (tCons (tC (.int 2)) (tCons (tC (.int 11)) (tCons (tC (.int 12)) tNil)))) (tCons (tTup (tCons (tC (.int 5)) (tCons (tC (.int 6)) (tCons (tC (.int 9)) tNil)))) tNil))))) (tCall (sp__law_draw K) [] E0 (tCons (tVar 0) (tCons (tC (.int 4)) tNil)))) (gName 1))
  (tSeq (tAsg (tOp rSubI (tCall (sp__law_draw K) [] E0 (tCons (tVar 0) (tCons (tC (.int 390)) tNil))) (tC (.int 200))) (gName 2))
  (tSeq (tAsg (tLc (iRng1 (tCons (tC (.int 3)) tNil)) (gName 5) tYes (tTup (tCons (tOp rAddS (tC (.str "x")) (tCB rStr1 (tCons (tVar 5) tNil))) (tCons (tThen (tLc (iRng1 (tCons (tOp (rIxT K) (tVar 1) (tVar 5)) tNil)) (gName 4) tYes (tOp rAddI (tVar 2) (tVar 4)) [4]) (kTup K)) tNil))) [5]) (gName 3))
  (tSeq (tAsg (tThen (tLc (iRng2 (tCons (tUn rNeg (tC (.int 1))) (tCons (tOp rAddI (tC (.int 1)) (tCall (sp__law_draw K) [] E0 (tCons (tVar 0) (tCons (tC (.int 11)) tNil)))) tNil))) (gName 7) tYes (tVar 7) [7]) (kTup K)) (gName 6))
  (tSeq (tPar 8 9 (tCons (tTup (tCons (tThen (tVar 3) (kTup K)) (tCons (tTup tNil) (tCons (tTup tNil) tNil)))) (tCons (tTup (tCons (tTup (tCons (tTup (tCons (tC (.str "y")) (tCons (tTup (tCons (tC (.int 5)) tNil)) tNil))) (tCons (tTup (tCons (tC (.str "z")) (tCons (tVar 6) tNil))) tNil))) (tCons (tTup tNil) (tCons (tTup tNil) tNil)))) tNil)))
  (tSeq (tAsg (tLst (tCons (tTup (tCons (tTup (tCons (tC (.str "x1")) tNil)) (tCons (tThen (tLc (iTup K (tOp (rIxT K) (tOp (rIxL K) (tVar 3) (tC (.int 1))) (tC (.int 1)))) (gName 7) tYes (tTup (tCons (tVar 7) (tCons (tC (.int 5)) tNil))) [7]) (kTup K)) tNil))) tNil)) (gName 10))
  (tSeq (tAsg (tLc (iList K (tCall (sp__law_all K) [] E0 (tCons (tLc (iList K (tVar 3)) (gName 13) tYes (tOp (rIxT K) (tVar 13) (tC (.int 1))) [13]) tNil))) (gName 12) tYes (tOp (rCatA K) (tVar 12) (tTup (tCons (tOp (rIxT K) (tVar 6) (tOp rModI (tCB rInt1 (tCons (tCB (rSumT K) (tCons (tVar 12) tNil)) tNil)) (tCB (rLen1 K) (tCons (tVar 6) tNil)))) tNil))) [12]) (gName 11))
  (tSeq (tDrop (tBM K "list" rAppend (tVar 10) (tCons (tTup (tCons (tTup (tCons (tC (.str "x0")) (tCons (tC (.str "x1")) (tCons (tC (.str "x2")) tNil)))) (tCons (tThen (tVar 11) (kTup K)) tNil))) tNil)))
  (tSeq (tAsg (tOp (rIxL K) (tLst (tCons (tTup (tCons (tC (.str "told")) (tCons (tC .non) tNil))) (tCons (tTup (tCons (tC (.str "view")) (tCons (tC (.int 1)) tNil))) tNil))) (tCB rInt1 (tCons (tOp rGtI (tCB (rLen1 K) (tCons (tVar 11) tNil)) (tC (.int 256))) tNil))) (gName 14))
  (tSeq (tIfS (tNot (tB (tCall (sp__law_same K 4) [] E0 (tCons (tCall (sp__law_checked K) [] E0 (tCons (tVar 8) (tCons (tVar 9) (tCons (tThen (tVar 10) (kTup K)) (tCons (tC (.bl false)) tNil))))) (tCons (tVar 14) tNil))))) (tRet (tC (.bl false))) tNext)
  (tSeq (tAsg (tThen (tLc (iList K (tVar 3)) (gName 13) tYes (tOp (rIxT K) (tOp (rIxT K) (tVar 13) (tC (.int 1))) (tCall (sp__law_draw K) [] E0 (tCons (tVar 0) (tCons (tCB (rLen1 K) (tCons (tOp (rIxT K) (tVar 13) (tC (.int 1))) tNil)) tNil)))) [13]) (kTup K)) (gName 15))
  (tRet (tOrV (tOp rGtI (tCB (rLen1 K) (tCons (tVar 11) tNil)) (tC (.int 256))) (tCall (sp__law_same K 4) [] E0 (tCons (tCall (sp_seen K) [] E0 (tCons (tVar 8) (tCons (tVar 9) (tCons (tThen (tVar 10) (kTup K)) (tCons (tVar 15) tNil))))) (tCons (tCall (sp__law_seen K) [] E0 (tCons (tVar 8) (tCons (tVar 10) (tCons (tVar 15) tNil)))) tNil))))))))))))))))
theorem len__law_large_right {K : PySem.W.Frag} : ∀ (vs : List V) (H : Hp) (Q : VK) (E : XK), sp__law_large_right K vs H Q E → vs.length = 1 := fun vs H Q E h => by
  obtain ⟨_, rfl, _⟩ := h
  rfl
theorem str_x : ∀ k : Nat, k < 3 → ("x" : Str) ++ (toString ((0 : Int) + (k : Nat)) : Str) = (["x0", "x1", "x2"] : List Str).getD k Str.empty
  | 0, _ => by decide +kernel
  | 1, _ => by decide +kernel
  | 2, _ => by decide +kernel
theorem pure__law_large_right {K : PySem.W.Frag} (vs : List V) (H : Hp) (Q : VK) (E : XK) (h : sp__law_large_right K vs H Q E) : t__law_large_right K { nx := fun _ H' => Q .non H', rt := Q } (start ["tape", "sizes", "least", "unknowns", "j", "k", "domain", "value", "one", "other", "view", "rows", "row", "pair", "due", "filling"] vs) H := by
  obtain ⟨st, rfl, cs, ok, q⟩ := h
  show t__law_large_right K _ [some (.ref st), none, none, none, none, none, none, none, none, none, none, none, none, none, none, none] H
  unfold t__law_large_right
  have szs : ∀ d ∈ [PyData.tuple [.int 4, .int 8, .int 8], .tuple [.int 8, .int 4, .int 8], .tuple [.int 2, .int 11, .int 12], .tuple [.int 5, .int 6, .int 9]], SzP d := by
    intro d hd
    simp only [List.mem_cons, List.not_mem_nil, or_false] at hd
    rcases hd with rfl | rfl | rfl | rfl
    · exact ⟨4, 8, 8, rfl, by decide, by decide⟩
    · exact ⟨8, 4, 8, rfl, by decide, by decide⟩
    · exact ⟨2, 11, 12, rfl, by decide, by decide⟩
    · exact ⟨5, 6, 9, rfl, by decide, by decide⟩
  have e3 : ∀ (a b c : Int) (σ : L2.St) (H : Hp), EX (.tuple [.int a, .int b, .int c]) (tTup (tCons (tC (.int a)) (tCons (tC (.int b)) (tCons (tC (.int c)) tNil)))) σ H := fun a b c σ H => ex_tup (exa_cons ex_int (exa_cons ex_int (exa_cons ex_int exa_nil)))
  with_reducible refine w_seq ?_
  with_reducible refine w_asg ?_
  refine w_ofP (P := SzP) (exa_cons (e3 _ _ _ _ _) (exa_cons (e3 _ _ _ _ _) (exa_cons (e3 _ _ _ _ _) (exa_cons (e3 _ _ _ _ _) exa_nil)))) szs ok rfl rfl (by simp) (by simp) fun v D H1 g1 hv hD => ?_
  obtain ⟨a, b, c, rfl, habc, hm⟩ := hD
  obtain ⟨zp, zv, rfl, ezp, hzv⟩ := hv.tup_inv
  cases hzv.ints_inv
  walk_at "aw"
  refine w_draw g1.ok (by decide) (by decide) fun r H2 r0 r1 g2 => ?_
  walk_at "aw"
  have g12 := g1.trans g2
  have mok := bigD_ok (l := r - 200) habc (by omega) (by omega)
  have ezp2 := g2.tk _ _ ezp
  refine ⟨3, rfl, by decide, by decide, ?_⟩
  show kLc (Itr 0 3) _ _ _ _ _ _ _
  refine kLc_rel walk_range (by decide) (fun _ _ => trivial) (fun k u H3 => ∃ d, (bigD (r - 200) a b c)[k]? = some d ∧ UnkP H3 u d) (fun k u H3 H4 kk hh => by
    obtain ⟨d, h1, h2⟩ := hh
    exact ⟨d, h1, h2.up kk⟩) (fun k u H3 H4 Kt hk a3 yy kt => ?_) fun ul H3 us nul a3 eul hul hur => ?_
  · obtain ⟨rfl, rfl⟩ := yy
    obtain ⟨n, hn, hn1, hn2, hd⟩ : ∃ n : Nat, ([(a : Int), (b : Int), (c : Int)])[k]? = some (n : Int) ∧ 1 ≤ n ∧ n ≤ 12 ∧ (bigD (r - 200) a b c)[k]? = some ((["x0", "x1", "x2"] : List Str).getD k Str.empty, colF (r - 200) n) := by
      have : k = 0 ∨ k = 1 ∨ k = 2 := by omega
      rcases this with rfl | rfl | rfl
      · exact ⟨a, rfl, habc.1, habc.2.1, rfl⟩
      · exact ⟨b, rfl, habc.2.2.1, habc.2.2.2.1, rfl⟩
      · exact ⟨c, rfl, habc.2.2.2.2.1, habc.2.2.2.2.2, rfl⟩
    walk_at "aw"
    refine ⟨rfl, ?_⟩
    walk_at "aw"
    refine ⟨_, rfl, ?_, ?_⟩
    · have : k = 0 ∨ k = 1 ∨ k = 2 := by omega
      rcases this with rfl | rfl | rfl <;> decide +kernel
    refine ⟨_, _, rfl, rfl, ?_, ?_⟩
    · have : k = 0 ∨ k = 1 ∨ k = 2 := by omega
      rcases this with rfl | rfl | rfl <;> decide +kernel
    rw [str_x k hk]
    walk_at "aw"
    refine w_ixT (SqT.of (a3.tup _ _ ezp2)) (v := .int (n : Nat)) (at_of (j := k) (by omega) (by rw [List.getElem?_map, hn]; rfl)) ?_
    refine ⟨(n : Nat), rfl, by omega, by omega, ?_⟩
    rw [show ((n : Nat) : Int).toNat = n by omega]
    refine kLc_pure walk_range (by omega) (fun _ _ => trivial) (fun _ => true) (fun j => .int ((r - 200) + (j : Int))) (fun j u H4 H5 Kt2 Kf hj a4 yy kt2 kf => ?_) fun l4 H4 nl4 a4 el4 => ?_
    · obtain ⟨rfl, rfl⟩ := yy
      walk_at "aw"
      refine ⟨rfl, ?_⟩
      walk_at "aw"
      rw [Int.zero_add]
      exact kt2 rfl _ (.refl _ _)
    have el4' : H4 l4 = some (.lst ((colF (r - 200) n).map V.int)) := by
      rw [el4, filter_true]
      unfold colF
      rw [List.map_map]
      rfl
    walk_at "aw"
    refine w_tupL (SqL.of el4') fun t5 H5 nt5 a5 et5 => ?_
    walk_at "aw"
    refine w_tupW (by simp) fun t6 H6 a6 et6 => ?_
    exact kt _ _ (a4.trans (a5.trans a6)) ⟨_, hd, t6, t5, rfl, et6, a6.tup _ _ et5⟩
  have hus : Paired (fun u d => UnkP H3 u d) us (bigD (r - 200) a b c) := paired_ix hul fun i u d hu hd => by
    obtain ⟨d', h1, h2⟩ := hur i u hu
    rw [hd] at h1
    cases h1
    exact h2
  have hmk := big_many (r - 200) a b c
  generalize hd1 : bigD (r - 200) a b c = d1 at mok hus hmk
  have hdl : d1.length = 3 := by rw [← hd1]; rfl
  have g3 := g12.new a3
  walk_at "aw"
  refine w_lcR2 ?_
  walk_at "aw"
  refine w_draw g3.ok (by decide) (by decide) fun m H4 m0 m1 g4 => ?_
  walk_at "aw"
  refine ⟨-1, 1 + m, rfl, ⟨by decide, by decide, by omega, by omega⟩, ?_⟩
  rw [show (1 + m - -1).toNat = (m + 2).toNat by omega]
  refine kLc_pure walk_range (by omega) (fun _ _ => trivial) (fun _ => true) (fun j => .int (-1 + (j : Int))) (fun j u H5 H6 Kt2 Kf hj a5 yy kt2 kf => ?_) fun l5 H5 nl5 a5 el5 => ?_
  · obtain ⟨rfl, rfl⟩ := yy
    walk_at "aw"
    refine ⟨rfl, ?_⟩
    walk_at "aw"
    exact kt2 rfl _ (.refl _ _)
  have el5' : H5 l5 = some (.lst ((colF (-1) (m + 2).toNat).map V.int)) := by
    rw [el5, filter_true]
    unfold colF
    rw [List.map_map]
    rfl
  have hdl1 : 2 ≤ (colF (-1) (m + 2).toNat).length := by rw [colF_len]; omega
  have hdl2 : (colF (-1) (m + 2).toNat).length ≤ 12 := by rw [colF_len]; omega
  generalize colF (-1) (m + 2).toNat = dom at el5' hdl1 hdl2
  walk_at "aw"
  refine w_tupL (SqL.of el5') fun dq H6 ndq a6 edq => ?_
  have oul := (g12.ok.ne nul).1
  have g36 := g4.new (a5.trans a6)
  have eul6 := g36.keep oul eul
  have g6 := g3.trans g36
  walk_at "aw"
  refine w_par ?_
  walk_at "aw"
  refine w_tupL (SqL.of eul6) fun ut H7 nut a7 eut => ?_
  walk_at "aw"
  refine w_tupW (by simp) fun e1 H8 a8 ee1 => ?_
  walk_at "aw"
  refine w_tupW (by simp) fun e2 H9 a9 ee2 => ?_
  walk_at "aw"
  refine w_tupW (by simp) fun on H10 a10 eon => ?_
  walk_at "aw"
  refine w_tupW (by simp) fun t5 H11 a11 et5 => ?_
  walk_at "aw"
  refine w_tupW (by simp) fun ty H12 a12 ety => ?_
  walk_at "aw"
  refine w_tupW (by simp) fun tz H13 a13 etz => ?_
  walk_at "aw"
  refine w_tupW (by simp) fun o0 H14 a14 eo0 => ?_
  walk_at "aw"
  refine w_tupW (by simp) fun o1 H15 a15 eo1 => ?_
  walk_at "aw"
  refine w_tupW (by simp) fun o2 H16 a16 eo2 => ?_
  walk_at "aw"
  refine w_tupW (by simp) fun ot H17 a17 eot => ?_
  walk_at "aw"
  refine ⟨_, _, rfl, ?_⟩
  have a617 := a7.trans (a8.trans (a9.trans (a10.trans (a11.trans (a12.trans (a13.trans (a14.trans (a15.trans (a16.trans a17)))))))))
  have g17 := g6.new a617
  have g317 := g36.new a617
  have hus17 : Paired (fun u d => UnkP H17 u d) us d1 := L2.Paired.mapP hus fun _ _ z => z.up g317.tk
  have m1 : MdlAt H17 (.ref on) d1 := ⟨on, ut, _, us, rfl, (a11.trans (a12.trans (a13.trans (a14.trans (a15.trans (a16.trans a17)))))).tup _ _ eon, (a8.trans (a9.trans (a10.trans (a11.trans (a12.trans (a13.trans (a14.trans (a15.trans (a16.trans a17))))))))).tup _ _ eut, hul.trans hdl.symm, fun i u hu => by
    obtain ⟨d, hd⟩ := get_some (xs := d1) (i := i) (by have := (List.getElem?_eq_some_iff.mp hu).1; omega)
    obtain ⟨p, q, h1, h2, h3⟩ := paired_at hus17 hu hd
    exact ⟨p, q, d, h1, hd, h2, h3⟩⟩
  have m2 : MdlAt H17 (.ref ot) [("y", [5]), ("z", dom)] := ⟨ot, o0, _, [.ref ty, .ref tz], rfl, eot, (a15.trans (a16.trans a17)).tup _ _ eo0, rfl, fun i u hu => by
    match i, hu with
    | 0, hu =>
      cases hu
      exact ⟨ty, t5, ("y", [5]), rfl, rfl, (a13.trans (a14.trans (a15.trans (a16.trans a17)))).tup _ _ ety, (a12.trans (a13.trans (a14.trans (a15.trans (a16.trans a17))))).tup _ _ et5⟩
    | 1, hu =>
      cases hu
      exact ⟨tz, dq, ("z", dom), rfl, rfl, (a14.trans (a15.trans (a16.trans a17))).tup _ _ etz, a617.tup _ _ edq⟩⟩
  have eul17 := g317.keep oul eul
  obtain ⟨u1, hu1⟩ := get_some (xs := us) (i := 1) (by omega)
  have hd11 : d1[1]? = some (("x1" : Str), colF (r - 200) b) := by rw [← hd1]; rfl
  have hcb := colF_len (r - 200) b
  generalize colF (r - 200) b = colb at hd11 hcb
  walk_at "aw"
  refine w_tupW (by simp) fun tx H18 a18 etx => ?_
  obtain ⟨p1, q1, rfl, ep1, eq1⟩ := (paired_at hus17 hu1 hd11).up a18.tup
  walk_at "aw"
  refine w_ixL (SqL.of (a18.keep _ _ (fun z => nomatch z) eul17)) (at_nat (by decide) hu1) ?_
  walk_at "aw"
  refine w_ixT (SqT.of ep1) (at_nat (by decide) rfl) ?_
  refine ⟨q1, rfl, ⟨_, SqT.of eq1⟩, kLc_rel (walk_tup (xs := colb.map V.int)) (by rw [List.length_map]; omega) (fun H' a => SqT.of (a.tup _ _ eq1)) (fun k u H3 => ∃ v, colb[k]? = some v ∧ TupAt H3 u [v, 5]) (fun k u H3 H4 kk hh => by
    obtain ⟨v, h1, h2⟩ := hh
    exact ⟨v, h1, h2.up kk⟩) (fun k u H3 H4 Kt hk a yy kt => ?_) fun wl H19 ws nwl a19 ewl hwl hwr => ?_⟩
  · obtain ⟨rfl, hu⟩ := yy
    rw [List.getElem?_map] at hu
    obtain ⟨x, hx, rfl⟩ := Option.map_eq_some_iff.mp hu
    walk_at "aw"
    refine ⟨rfl, ?_⟩
    walk_at "aw"
    refine w_tupW (by simp) fun t H5 a5 et => ?_
    exact kt _ _ a5 ⟨x, hx, t, rfl, et⟩
  rw [List.length_map] at hwl
  walk_at "aw"
  refine w_tupL (SqL.of ewl) fun wt H20 nwt a20 ewt => ?_
  walk_at "aw"
  refine w_tupW (by simp) fun itp H21 a21 eitp => ?_
  walk_at "aw"
  refine w_lstD (by simp) fun vl H22 nvl a22 evl => ?_
  have hws : TupsAt H19 ws (colb.map fun v => [v, 5]) := paired_ix (by rw [hwl, List.length_map]) fun k u r hu hr => by
    obtain ⟨v, h1, h2⟩ := hwr k u hu
    rw [List.getElem?_map, h1] at hr
    cases hr
    exact h2
  have hit1 : ItmAt H22 (.ref itp) (([(("x1" : Str), colb)], colb.map fun v => [v, 5]) : Itm) := ⟨itp, tx, wt, ws, rfl, a22.tup _ _ eitp, (a19.trans (a20.trans (a21.trans a22))).tup _ _ etx, (a21.trans a22).tup _ _ ewt, hws.up (a20.trans (a21.trans a22)).tup⟩
  have ok1 : ItmOk d1 [5] (([(("x1" : Str), colb)], colb.map fun v => [v, 5]) : Itm) := ⟨by simp, by simp, by simp, fun s hs => by rw [List.mem_singleton.mp hs]; exact List.mem_of_getElem? hd11, by
    show Paired _ (colb.map fun v => [v, 5]) (allR [colb])
    rw [allR_one]
    exact paired_map _ _ fun v _ => ⟨5, List.mem_singleton_self _, rfl⟩⟩
  generalize hi1 : (([(("x1" : Str), colb)], colb.map fun v => [v, 5]) : Itm) = it1 at hit1 ok1
  have it1l : it1.2.length ≤ 12 ∧ (allR (it1.1.map (·.2))).length ≤ 12 := by
    rw [← hi1]
    refine ⟨by show (colb.map _).length ≤ 12; rw [List.length_map]; omega, ?_⟩
    show (allR [colb]).length ≤ 12
    rw [allR_one, List.length_map]
    omega
  have a1722 := a18.trans (a19.trans (a20.trans (a21.trans a22)))
  have g22 := g17.new a1722
  have ovl := (g17.ok.ne ((a18.trans (a19.trans (a20.trans a21))).free (fun z => nomatch z) nvl)).1
  have g322 := g317.new a1722
  have eul22 := g322.keep oul eul
  have hus22 : Paired (fun u d => UnkP H22 u d) us d1 := L2.Paired.mapP hus fun _ _ z => z.up g322.tk
  have edq22 := (a617.trans a1722).tup _ _ edq
  walk_at "aw"
  refine ⟨ul, rfl, ⟨_, SqL.of eul22⟩, kLc_rel (walk_list (xs := us)) (by omega) (fun H' a => SqL.of (a.keep _ _ (fun z => nomatch z) eul22)) (fun k u H3 => ∃ s, d1[k]? = .some s ∧ TupAt H3 u s.2) (fun k u H3 H4 kk hh => by
    obtain ⟨s, h1, h2⟩ := hh
    exact ⟨s, h1, h2.up kk⟩) (fun k u H3 H4 Kt hk a3 yy kt => ?_) fun dl H23 ys ndl a23 edl hyl hyr => ?_⟩
  · obtain ⟨rfl, hu⟩ := yy
    obtain ⟨s, hs⟩ := get_some (xs := d1) (i := k) (by omega)
    obtain ⟨pp, qq, rfl, epp, eqq⟩ := paired_at hus22 hu hs
    walk_at "aw"
    refine ⟨rfl, ?_⟩
    walk_at "aw"
    refine w_ixT (SqT.of (a3.tup _ _ epp)) (at_nat (by decide) rfl) ?_
    exact kt _ _ (.refl _ _) ⟨s, hs, qq, rfl, a3.tup _ _ eqq⟩
  walk_at "aw"
  have hds : TupsAt H23 ys (d1.map (·.2)) := paired_ix (by rw [hyl, List.length_map]; omega) fun k u r hu hr => by
    obtain ⟨s, h1, h2⟩ := hyr k u hu
    rw [List.getElem?_map, h1] at hr
    cases hr
    exact h2
  refine ⟨dl, rfl, ys, d1.map (·.2), edl, hds, by rw [List.length_map]; omega, fun d hd => ?_, fun rl ws2 H24 a24 nrl erl hrows => ?_⟩
  · obtain ⟨s, hs, rfl⟩ := List.mem_map.mp hd
    exact (mok.dm s hs).l2
  have hwl2 := hrows.length
  have hrl : ∀ r ∈ allR (d1.map (·.2)), r.length ≤ 3 := fun r hr => by
    have := allR_row (ds := d1.map (·.2)) (d1.map (·.2)).length (Nat.le_refl _) r (by rw [List.take_length]; exact hr)
    rw [List.length_map] at this
    omega
  have edq24 := (a23.trans a24).tup _ _ edq22
  refine ⟨rl, rfl, ⟨_, SqL.of erl⟩, kLc_rel (walk_list (xs := ws2)) (by omega) (fun H' a => SqL.of (a.keep _ _ (fun z => nomatch z) erl)) (fun k u H5 => ∃ r, (allR (d1.map (·.2)))[k]? = .some r ∧ ∃ v ∈ dom, TupAt H5 u (r ++ [v])) (fun k u H5 H6 kk hh => by
    obtain ⟨r, h1, v, h2, h3⟩ := hh
    exact ⟨r, h1, v, h2, h3.up kk⟩) (fun k u H5 H6 Kt hk a5 yy kt => ?_) fun rowl H25 zs nrowl a25 erowl hzl hzr => ?_⟩
  · obtain ⟨rfl, hu⟩ := yy
    obtain ⟨r, hr⟩ := get_some (xs := allR (d1.map (·.2))) (i := k) (by omega)
    obtain ⟨ra, rfl, era⟩ := paired_at hrows hu hr
    have hrlen := hrl r (List.mem_of_getElem? hr)
    walk_at "aw"
    refine ⟨rfl, ?_⟩
    walk_at "aw"
    refine ⟨ra, r, rfl, SqT.of (a5.tup _ _ era), ?_⟩
    walk_at "aw"
    refine w_lenT (SqT.of (a5.tup _ _ edq24)) ?_
    rw [List.length_map]
    walk_at "aw"
    refine w_I (show (0 : Int) < (dom.length : Nat) by omega) ?_
    have n0 := Int.emod_nonneg r.sum (show ((dom.length : Nat) : Int) ≠ 0 by omega)
    have n1 := Int.emod_lt_of_pos r.sum (show (0 : Int) < (dom.length : Nat) by omega)
    generalize r.sum % ((dom.length : Nat) : Int) = n at n0 n1
    have hn : n.toNat < dom.length := by omega
    refine w_ixT (SqT.of (a5.tup _ _ edq24)) (v := .int dom[n.toNat]) (at_nat n0 (by rw [List.getElem?_map, List.getElem?_eq_getElem hn]; rfl)) ?_
    walk_at "aw"
    refine w_tupW (by simp) fun t1 H8 a8 et1 => ?_
    refine w_catT' ((a5.trans a8).tup _ _ era) et1 (by rw [List.length_map]; show r.length + 1 ≤ 100000; omega) fun t2 H9 a9 et2 => ?_
    exact kt _ _ (a8.trans a9) ⟨r, hr, dom[n.toNat], List.getElem_mem _, t2, rfl, by rw [et2, List.map_append]; rfl⟩
  obtain ⟨rows, hrowl, hrowP⟩ := list_choose (P := fun k u (row : List Int) => TupAt H25 u row ∧ ∃ r, (allR (d1.map (·.2)))[k]? = .some r ∧ ∃ v ∈ dom, row = r ++ [v]) fun k u hu => by
    obtain ⟨r, h1, v, h2, h3⟩ := hzr k u hu
    exact ⟨r ++ [v], h3, r, h1, v, h2, rfl⟩
  have hallr : rows.length = (allR (d1.map (·.2))).length := by omega
  have htups : TupsAt H25 zs rows := paired_ix (by omega) fun k u row hu hr => (hrowP k u row hu hr).1
  have ok2 : ItmOk d1 dom (d1, rows) := ⟨by show 1 ≤ d1.length; omega, by show d1.length ≤ 3; omega, mok.nd, fun s hs => hs, paired_ix hallr fun k row fr hr hf => by
    have hr' : rows[k]? = .some row := hr
    obtain ⟨u, hu⟩ := get_some (xs := zs) (i := k) (by have := (List.getElem?_eq_some_iff.mp hr').1; omega)
    obtain ⟨_, r, h1, v, h2, h3⟩ := hrowP k u row hu hr
    rw [hf] at h1
    cases h1
    exact ⟨v, h2, h3⟩⟩
  have a2225 := a23.trans (a24.trans a25)
  have evl25 := a2225.keep _ _ (fun z => nomatch z) evl
  walk_at "aw"
  refine w_app rfl evl25 ?_
  walk_at "aw"
  refine w_tupW (by simp) fun tn H26 a26 etn => ?_
  walk_at "aw"
  refine w_tupL (SqL.of (a26.keep _ _ (fun z => nomatch z) erowl)) fun rt H27 nrt a27 ert => ?_
  walk_at "aw"
  refine w_tupW (by simp) fun itq H28 a28 eitq => ?_
  have a2528 := a26.trans (a27.trans a28)
  have evl28 := a2528.keep _ _ (fun z => nomatch z) evl25
  walk_at "aw"
  refine w_append evl28 (by simp) ?_
  have g28 := g22.new (a2225.trans a2528)
  have a2228 := a2225.trans a2528
  have g1728 := (Go.of g17.ok a1722).new a2228
  have g1730 := g1728.mutL (o := .lst ([V.ref itp] ++ [.ref itq])) g17.ok ((a18.trans (a19.trans (a20.trans a21))).free (fun z => nomatch z) nvl) evl28
  have g30 := g17.trans g1730
  have k30 : TK H28 (upd H28 vl (.lst ([V.ref itp] ++ [.ref itq]))) := (Adv.lst evl28).tup
  have hd3 : d1.map (·.1) = (["x0", "x1", "x2"] : List Str) := by rw [← hd1]; rfl
  have hit2 : ItmAt (upd H28 vl (.lst ([V.ref itp] ++ [.ref itq]))) (.ref itq) (d1, rows) := ⟨itq, tn, rt, zs, rfl, k30 _ _ eitq, k30 _ _ (by rw [hd3]; exact (a27.trans a28).tup _ _ etn), k30 _ _ (a28.tup _ _ ert), (htups.up a2528.tup).up k30⟩
  have hit1' := (hit1.up a2228.tup).up k30
  have m1' := m1.up g1730.tk
  have m2' := m2.up g1730.tk
  have erowl30 : (upd H28 vl (.lst ([V.ref itp] ++ [.ref itq]))) rowl = some (.lst zs) := by
    rw [upd_ne (ne_of_none (a2225.keep _ _ (fun z => nomatch z) evl |> fun _ => (a23.trans a24).keep _ _ (fun z => nomatch z) evl) nrowl).symm]
    exact a2528.keep _ _ (fun z => nomatch z) erowl
  have eul30 := (g317.trans g1730).keep oul eul
  have hus30 : Paired (fun u d => UnkP (upd H28 vl (.lst ([V.ref itp] ++ [.ref itq]))) u d) us d1 := L2.Paired.mapP hus fun _ _ z => z.up (g317.trans g1730).tk
  have evl30 : (upd H28 vl (.lst ([V.ref itp] ++ [.ref itq]))) vl = some (.lst [.ref itp, .ref itq]) := upd_same
  generalize upd H28 vl (.lst ([V.ref itp] ++ [.ref itq])) = H30 at *
  have hL : Paired (fun it (d : Str × List Int) => ItmOk d1 d.2 it) [it1, (d1, rows)] [("y", [5]), ("z", dom)] := .cons ok1 (.cons ok2 .nil)
  have hLv : Paired (fun u it => ItmAt H30 u it) [.ref itp, .ref itq] [it1, (d1, rows)] := .cons hit1' (.cons hit2 .nil)
  have hsw := view_sw mok hL (fun it hit => by
    simp only [List.mem_cons, List.not_mem_nil, or_false] at hit
    rcases hit with rfl | rfl
    · omega
    · show rows.length ≤ 300
      omega) (by simp)
  have hv1 : 256 < rows.length → vwB d1 [("y", [5]), ("z", dom)] (.tuple ([it1, (d1, rows)].map itmD)) = some 1 := fun hb => by
    refine vw_first (k := 1) (D := itmD (d1, rows)) (d := ("z", dom)) rfl (fun i D d hi h1 h2 => ?_) rfl rfl ?_
    · have : i = 0 := by omega
      subst this
      cases h1
      cases h2
      exact ok1.right mok (by omega)
    · show (_ && rowsB _ dom (rowsD rows)) = false
      unfold rowsD rowsB
      simp only []
      rw [List.length_map, decide_eq_false (show ¬ (((rows.length : Nat) : Int) ≤ 256) by omega), Bool.and_false, Bool.false_and, Bool.false_and, Bool.and_false]
  have hv0 : rows.length ≤ 256 → vwB d1 [("y", [5]), ("z", dom)] (.tuple ([it1, (d1, rows)].map itmD)) = none := fun hb => by
    refine vw_none rfl fun i D d h1 h2 => ?_
    match i, h1, h2 with
    | 0, h1, h2 =>
      cases h1
      cases h2
      exact ok1.right mok (by omega)
    | 1, h1, h2 =>
      cases h1
      cases h2
      exact ok2.right mok (by show (allR (d1.map (·.2))).length ≤ 256; omega)
  walk_at "aw"
  refine w_tupW (by simp) fun td H31 a31 etd => ?_
  walk_at "aw"
  refine w_tupW (by simp) fun tv H32 a32 etv => ?_
  walk_at "aw"
  refine w_lstD (by simp) fun dl2 H33 ndl2 a33 edl2 => ?_
  have a3033 := a31.trans (a32.trans a33)
  walk_at "aw"
  refine w_lenL (SqL.of (a3033.keep _ _ (fun z => nomatch z) erowl30)) ?_
  walk_at "aw"
  obtain ⟨du, D, hdu, hDu, hDD⟩ : ∃ du D, atI [.ref td, .ref tv] (if (decide ((256 : Int) < (zs.length : Nat))) = true then 1 else 0) = some du ∧ Is H33 D du ∧ ((256 < rows.length ∧ D = .tuple [.str "view", .int 1]) ∨ (rows.length ≤ 256 ∧ D = .tuple [.str "told", .none])) := by
    by_cases hb : 256 < rows.length
    · exact ⟨.ref tv, _, by rw [if_pos (decide_eq_true (by omega))]; rfl, .tup (a33.tup _ _ etv) (.cons (.str _) (.cons (.int _) .nil)), .inl ⟨hb, rfl⟩⟩
    · exact ⟨.ref td, _, by rw [if_neg (by rw [decide_eq_false (by omega)]; decide)]; rfl, .tup ((a32.trans a33).tup _ _ etd) (.cons (.str _) (.cons .non .nil)), .inr ⟨by omega, rfl⟩⟩
  refine w_ixL (SqL.of edl2) hdu ?_
  with_reducible refine w_gname ?_
  have evl33 := a3033.keep _ _ (fun z => nomatch z) evl30
  with_reducible refine w_seqJ (fun σ' H' => σ' = [some (.ref st), some (.ref zp), some (.int (r - 200)), some (.ref ul), none, none, some (.ref dq), none, some (.ref on), some (.ref ot), some (.ref vl), some (.ref rowl), none, none, some du, none] ∧ Adv [] H33 H') (fun N hN => ?_) fun σ' H' p => ?_
  · walk_at "aw"
    refine w_tupL (SqL.of evl33) fun vt H34 nvt a34 evt => ?_
    walk_at "aw"
    have a3034 := a3033.trans a34
    refine ⟨.ref on, .ref ot, .ref vt, false, rfl, d1, [("y", [5]), ("z", dom)], 12, .tuple ([it1, (d1, rows)].map itmD), 4, m1'.up a3034.tup, mok, by decide, by omega, m2'.up a3034.tup, by simp, .tup evt (items_is (L2.Paired.mapP hLv fun _ _ z => z.up a3034.tup)), hsw, by decide, fun hn t H35 a35 ht => ?_, fun kk hk t H35 a35 ht => ?_⟩
    · rcases hDD with ⟨hb, _⟩ | ⟨hb, rfl⟩
      · rw [hv1 hb] at hn
        cases hn
      · walk_at "aw"
        refine ⟨_, _, rfl, _, ht, hDu.up (a34.trans a35).tup, sme_told, ?_⟩
        walk_at "aw"
        exact hN _ _ ⟨rfl, a34.trans a35⟩
    · rcases hDD with ⟨hb, rfl⟩ | ⟨hb, _⟩
      · rw [hv1 hb] at hk
        cases hk
        walk_at "aw"
        refine ⟨_, _, rfl, _, ht, hDu.up (a34.trans a35).tup, sme_view 1, ?_⟩
        walk_at "aw"
        exact hN _ _ ⟨rfl, a34.trans a35⟩
      · rw [hv0 hb] at hk
        cases hk
  obtain ⟨rfl, a34⟩ := p
  have a3034 := a3033.trans a34
  have eul34 := a3034.keep _ _ (fun z => nomatch z) eul30
  have hus34 : Paired (fun u d => UnkP H' u d) us d1 := L2.Paired.mapP hus30 fun _ _ z => z.up a3034.tup
  have g34 := g30.new a3034
  walk_at "aw"
  refine ⟨ul, rfl, ⟨_, SqL.of eul34⟩, kLc_all (walk_list (xs := us)) (by omega) g34.ok (fun H' g => SqL.of (g.keep oul eul34)) (fun k u H5 => ∃ d, d1[k]? = .some d ∧ ∃ x ∈ d.2, u = V.int x) (fun _ _ _ _ _ h => h) (fun k u H5 H6 Kt hk g5 yy kt => ?_) fun fl H35 zf nfl g35 efl hzfl hzfr => ?_⟩
  · obtain ⟨rfl, hu⟩ := yy
    obtain ⟨s, hs⟩ := get_some (xs := d1) (i := k) (by omega)
    obtain ⟨pp, qq, rfl, epp, eqq⟩ := (paired_at hus34 hu hs).up g5.tk
    have hsl := mok.dm s (List.mem_of_getElem? hs)
    have l1 := hsl.l1
    have l2 := hsl.l2
    walk_at "aw"
    refine ⟨rfl, ?_⟩
    walk_at "aw"
    refine w_ixT (SqT.of epp) (at_nat (by decide) rfl) ?_
    walk_at "aw"
    refine w_ixT (SqT.of epp) (at_nat (by decide) rfl) ?_
    walk_at "aw"
    refine w_lenT (SqT.of eqq) ?_
    rw [List.length_map]
    walk_at "aw"
    refine w_draw g5.ok (by omega) (by omega) fun n H7 n0 n1 g7 => ?_
    have hn : n.toNat < s.2.length := by omega
    refine w_ixT (SqT.of (g7.tk _ _ eqq)) (v := .int s.2[n.toNat]) (at_nat n0 (by rw [List.getElem?_map, List.getElem?_eq_getElem hn]; rfl)) ?_
    exact kt _ _ g7 ⟨s, hs, _, List.getElem_mem _, rfl⟩
  obtain ⟨φ, hφ, hφ2⟩ := fil_ex mok.nd (by omega) hzfr
  walk_at "aw"
  refine w_tupL (SqL.of efl) fun ft H36 nft a36 eft => ?_
  rw [hφ] at eft
  have ga := (Go.of g30.ok a3034).trans (g35.new a36)
  have gz := g30.trans ga
  have ovl30 : Off vl st cs := ovl
  have orowl : Off rowl st cs := (g22.ok.ne ((a23.trans a24).free (fun z => nomatch z) nrowl)).1
  walk_at "aw"
  refine w_lenL (SqL.of (ga.keep orowl erowl30)) ?_
  walk_at "aw"
  by_cases hb : 256 < rows.length
  · refine iteT'' (decide_eq_true (by omega)) ?_
    exact q _ gz
  · refine iteF'' (decide_eq_false (by omega)) ?_
    have evl36 := ga.keep ovl30 evl30
    have hsee : ∀ it ∈ [it1, (d1, rows)], ItSee (d1.map (·.1)) φ it := fun it hit => by
      simp only [List.mem_cons, List.not_mem_nil, or_false] at hit
      rcases hit with rfl | rfl
      · exact ok1.see mok (by omega) hφ2
      · exact ok2.see mok (by show (allR (d1.map (·.2))).length ≤ 256; omega) hφ2
    walk_at "aw"
    refine w_tupL (SqL.of evl36) fun vt H37 nvt a37 evt => ?_
    walk_at "aw"
    refine ⟨.ref on, .ref ot, vt, ft, rfl, d1, [it1, (d1, rows)], φ, m1'.up (ga.tk.trans a37.tup), mok.nd, by omega, ⟨_, evt, L2.Paired.mapP hLv fun _ _ z => z.up (ga.tk.trans a37.tup)⟩, by simp, hsee, a37.tup _ _ eft, fun t vals H38 a38 et hvals => ?_⟩
    walk_at "aw"
    have ga38 := ga.new (a37.trans a38)
    refine ⟨.ref on, vl, ft, rfl, d1, [it1, (d1, rows)], φ, _, m1'.up ga38.tk, mok.nd, by omega, .inl (SqL.of (ga38.keep ovl30 evl30)), L2.Paired.mapP hLv fun _ _ z => z.up ga38.tk, by simp, hsee, (a37.trans a38).tup _ _ eft, fun t2 vals2 H39 a39 et2 hvals2 => ?_⟩
    have := seen_uniq hsee hvals hvals2
    subst this
    have hvl := hvals.length
    walk_at "aw"
    refine ⟨_, _, rfl, _, .tup (a39.tup _ _ et) (IsAll.ints vals), .tup et2 (IsAll.ints vals), sme_ints _ (by rw [← hvl]; simp), ?_⟩
    exact q _ (g30.trans (ga38.new a39))
end AW
namespace AW
open PySem PySem.Spec PyProof.Rows L2 RZ
open StX
local macro_rules | `(tactic| walk_at "aw1") => `(tactic| first
  | (with_reducible refine w_seq ?_) | (with_reducible refine w_asg ?_) | (with_reducible refine w_gname ?_) | (with_reducible refine w_op ?_) | (with_reducible refine w_un ?_)
  | ((with_reducible refine' w_var ?h ?_); (case h => rfl)) | (with_reducible refine w_c ?_)
  | (with_reducible refine w_I0 ?_) | (with_reducible refine w_U ?_) | (with_reducible refine w_cb ?_) | (with_reducible refine w_nil ?_) | (with_reducible refine w_cons ?_) | (with_reducible refine w_call ?_)
  | (with_reducible refine w_test ?_) | (with_reducible refine w_B ?_) | (with_reducible refine w_bl ?_) | (with_reducible refine w_not ?_) | (with_reducible refine w_yes ?_) | (with_reducible refine iteT ?_) | (with_reducible refine iteF ?_) | (with_reducible refine w_and ?_) | (with_reducible refine w_or ?_)
  | (with_reducible refine w_andV ?_) | (with_reducible refine w_orV ?_) | (with_reducible refine w_notV ?_) | (with_reducible refine w_if ?_)
  | (with_reducible refine w_int1 ?_) | (with_reducible refine w_int1b ?_) | (with_reducible refine w_abs ?_) | (with_reducible refine w_max2 ?_) | (with_reducible refine w_min2 ?_)
  | ((with_reducible refine w_eq ?h ?_); (case h => rfl)) | ((with_reducible refine w_ne ?h ?_); (case h => rfl)) | (with_reducible refine w_isN ?_) | (with_reducible refine w_isB ?_) | (with_reducible refine w_chain ?_)
  | (with_reducible refine w_ret ?_) | (with_reducible refine w_drop ?_) | (with_reducible refine w_ifS ?_) | (with_reducible refine w_gsub ?_) | (with_reducible refine w_augS ?_) | (with_reducible refine w_ipI ?_) | (with_reducible refine w_next ?_)
  | (with_reducible refine w_forR ?_) | (with_reducible refine w_forR2 ?_) | (with_reducible refine w_forL ?_) | (with_reducible refine w_forT ?_) | (with_reducible refine w_lcR ?_) | (with_reducible refine w_lcL ?_) | (with_reducible refine w_lcT ?_) | (with_reducible refine w_sl ?_) | (with_reducible refine w_part ?_) | (with_reducible refine w_noPart ?_) | (with_reducible refine w_in ?_)
  | (with_reducible refine w_gcons ?_) | (with_reducible refine w_gnil ?_) | (with_reducible refine w_lc3 ?_) | (with_reducible refine w_dcZ ?_) | (with_reducible refine w_dcT ?_) | (with_reducible refine w_dg ?_) | (with_reducible refine w_callK ?_) | (with_reducible refine w_dput ?_) | (with_reducible refine w_tup1 ?_)
  | (with_reducible refine w_tup ?_) | (with_reducible refine w_lst ?_)
  | ((with_reducible refine w_I ?h ?_); (case h => first | (exact Or.inr ⟨by decide, by decide⟩) | (exact Or.inl ⟨by decide, by decide⟩) | (show (0 : Int) < _; decide) | (exact ⟨by decide, by decide, by decide⟩) | assumption)))
local macro_rules | `(tactic| walk_at "aw") => `(tactic| repeat (walk_at "aw1"))
def sp_law (K : PySem.W.Frag) : Sp := fun vs H Q _ => ∃ (a : Addr) (ns : List Int), vs = [.ref a] ∧ SqL K H a (ns.map V.int) ∧ ns.length ≤ 63 ∧ ∀ H', Q (.bl true) H'
section
variable {K : PySem.W.Frag} {σ : L2.St} {H : Hp} {te tf : TE} {ta : TA} {D : PyData} {ds : List PyData}
theorem ex_rep {k : Int} (h : EX (.tuple ds) te σ H) (g : EX (.int k) tf σ H) (h1 : ds ≠ []) (h2 : 2 ≤ k) (h3 : k ≤ 10000) (h4 : ds.length ≤ 100) : EX (.tuple (List.replicate k.toNat ds).flatten) (tOp (rRepW K) te tf) σ H := fun H' Q a q => h H' _ a fun v H1 a1 dd => g H1 _ (a.trans a1) fun w H2 a2 d2 => by
  obtain ⟨p, xs, rfl, e1, hx⟩ := dd.tup_inv
  rw [d2.int_inv]
  have hl := hx.length
  refine ⟨p, k, xs, rfl, rfl, SqT.of (a2.tup _ _ e1), fun z => h1 (by rw [z] at hl; exact List.eq_nil_of_length_eq_zero hl.symm), h2, h3, by omega, w_new fun t H3 nt a3 e3 => q _ H3 (a1.trans (a2.trans a3)) (.tup e3 ?_)⟩
  have hx3 := hx.up (a2.trans a3).tup
  clear e3 q
  generalize k.toNat = n
  induction n with
  | zero => exact .nil
  | succ n ih =>
    rw [List.replicate_succ, List.replicate_succ, List.flatten_cons, List.flatten_cons]
    exact hx3.append ih
theorem ex_len (h : EX (.tuple ds) te σ H) : EX (.int (ds.length : Nat)) (tCB (rLen1 K) (tCons te tNil)) σ H := fun H' Q a q => h H' _ a fun v H1 a1 dd => by
  obtain ⟨p, xs, rfl, e1, hx⟩ := dd.tup_inv
  refine w_nil ?_
  dsimp only
  refine w_lenT (SqT.of e1) ?_
  rw [hx.length]
  exact q _ H1 a1 (.int _)
theorem ex_repS {x : Str} {k : Int} (h : EX (.str x) te σ H) (g : EX (.int k) tf σ H) (m : MulOk x k) : EX (.str (Txt.mul x k)) (tOp rRepS te tf) σ H := fun H' Q a q => h H' _ a fun v H1 a1 dd => g H1 _ (a.trans a1) fun w H2 a2 d2 => by
  rw [dd.str_inv, d2.int_inv]
  exact ⟨x, k, rfl, rfl, m, q _ H2 (a1.trans a2) (.str _)⟩
end
theorem mul_x : ∀ n : Nat, 1 ≤ n → n ≤ 4 → MulOk "x" ((n : Nat) : Int) ∧ okS (Txt.mul "x" ((n : Nat) : Int))
  | 1, _, _ => ⟨⟨by decide +kernel, by decide +kernel, by decide +kernel⟩, by unfold okS; decide +kernel⟩
  | 2, _, _ => ⟨⟨by decide +kernel, by decide +kernel, by decide +kernel⟩, by unfold okS; decide +kernel⟩
  | 3, _, _ => ⟨⟨by decide +kernel, by decide +kernel, by decide +kernel⟩, by unfold okS; decide +kernel⟩
  | 4, _, _ => ⟨⟨by decide +kernel, by decide +kernel, by decide +kernel⟩, by unfold okS; decide +kernel⟩
theorem vw_not {d1 d2 : List (Str × List Int)} {ds : List PyData} (h : ds.length ≠ d2.length) : vwB d1 d2 (.tuple ds) = some (-1) := by
  unfold vwB
  dsimp only
  rw [if_neg h]
def BadW (d1 d2 : List (Str × List Int)) (D : PyData) : Prop := vwB d1 d2 D = some (-1) ∧ Sw 6 D
theorem flat_len {α : Type} (n : Nat) (xs : List α) : (List.replicate n xs).flatten.length = n * xs.length := by
  induction n with
  | zero => simp
  | succ n ih => rw [List.replicate_succ, List.flatten_cons, List.length_append, ih, Nat.add_mul, Nat.one_mul, Nat.add_comm]
theorem flat_sw {k n : Nat} {xs : List PyData} (h : ∀ d ∈ xs, Sw k d) (hl : n * xs.length ≤ 300) : Sw (k + 1) (.tuple (List.replicate n xs).flatten) := .tup (by rw [flat_len]; exact hl) fun d hd => by
  obtain ⟨ys, hy, hd⟩ := List.mem_flatten.mp hd
  rw [List.eq_of_mem_replicate hy] at hd
  exact h d hd
theorem spl_set {ds : List PyData} {k : Nat} {D : PyData} (h : k < ds.length) : (ds.take k ++ [D]) ++ ds.drop (k + 1) = ds.set k D := by
  rw [List.set_eq_take_append_cons_drop, if_pos h, List.append_assoc]
  rfl
theorem set_sw {ds : List PyData} {k n : Nat} {D : PyData} (h : Sw (n + 1) (.tuple ds)) (hD : Sw n D) : Sw (n + 1) (.tuple (ds.set k D)) := by
  cases h with
  | tup l h =>
    refine .tup (by rw [List.length_set]; exact l) fun d hd => ?_
    rcases List.mem_or_eq_of_mem_set hd with z | z
    · exact h d z
    · rw [z]
      exact hD
theorem w_callKR {sp : Sp} {E : XK} {tk : TA} {σ : L2.St} {H : Hp} {Q : VK} (h : tk σ H fun zs H2 => sp zs.reverse H2 Q E) : tCallK sp gR E tNil tk σ H Q := h
def t_law (K : PySem.W.Frag) : TS := (tSeq (tAsg (tCall (sp__law_tape K) [] E0 (tCons (tVar 0) tNil)) (gName 1))
  (tSeq (tIfS (tAnd (tTest (tOp rEq (tCall (sp__law_draw K) [] E0 (tCons (tVar 1) (tCons (tC (.int 8)) tNil))) (tC (.int 0)))) (tNot (tB (tCall (sp__law_large_right K) [] E0 (tCons (tVar 1) tNil))))) (tRet (tC (.bl false))) tNext)
  (tSeq (tAsg (tTup (tCons (tCall (sp__law_unknowns K) [] E0 (tCons (tVar 1) (tCons (tC (.int 1)) (tCons (tC (.int 4)) (tCons (tC (.int 4)) tNil))))) (tCons (tTup tNil) (tCons (tTup tNil) tNil)))) (gName 2))
  (tSeq (tAsg (tTup (tCons (tCall (sp__law_unknowns K) [] E0 (tCons (tVar 1) (tCons (tC (.int 1)) (tCons (tC (.int 4)) (tCons (tC (.int 4)) tNil))))) (tCons (tTup tNil) (tCons (tTup tNil) tNil)))) (gName 3))
  (tSeq (tAsg (tCall (sp__law_view K) [] E0 (tCons (tVar 1) (tCons (tVar 2) (tCons (tVar 3) tNil)))) (gName 4))
  (tSeq (tFor (iTup K (tTup (tCons (tC (.bl true)) (tCons (tC (.bl false)) tNil)))) (gName 5)
  (tIfS (tNot (tB (tCall (sp__law_same K 4) [] E0 (tCons (tCall (sp__law_checked K) [] E0 (tCons (tVar 2) (tCons (tVar 3) (tCons (tVar 4) (tCons (tVar 5) tNil))))) (tCons (tTup (tCons (tC (.str "told")) (tCons (tC .non) tNil))) tNil))))) (tRet (tC (.bl false))) tNext))
  (tSeq (tFor (iRng1 (tCons (tC (.int 4)) tNil)) (gName 6)
  (tSeq (tAsg (tCB (rSortedI K) (tCons (tLc (iRng1 (tCons (tOp rAddI (tC (.int 1)) (tCall (sp__law_draw K) [] E0 (tCons (tVar 1) (tCons (tC (.int 2)) tNil)))) tNil)) (gName 8) tYes (tCall (sp__law_draw K) [] E0 (tCons (tVar 1) (tCons (tCB (rLen1 K) (tCons (tVar 4) tNil)) tNil))) [8]) tNil)) (gName 7))
  (tSeq (tAsg (tCall (sp__law_spoilt K) [] E0 (tCons (tVar 1) (tCons (tVar 2) (tCons (tVar 3) (tCons (tVar 4) (tCons (tOp (rIxL K) (tVar 7) (tC (.int 0))) tNil)))))) (gName 9))
  (tSeq (tIfS (tTest (tOp rGtI (tOp (rIxL K) (tVar 7) (tUn rNeg (tC (.int 1)))) (tOp (rIxL K) (tVar 7) (tC (.int 0))))) (tAsg (tCall (sp__law_spoilt K) [] E0 (tCons (tVar 1) (tCons (tVar 2) (tCons (tVar 3) (tCons (tVar 9) (tCons (tOp (rIxL K) (tVar 7) (tUn rNeg (tC (.int 1)))) tNil)))))) (gName 9)) tNext)
  (tIfS (tNot (tB (tCall (sp__law_same K 4) [] E0 (tCons (tCall (sp__law_checked K) [] E0 (tCons (tVar 2) (tCons (tVar 3) (tCons (tVar 9) (tCons (tOp rEq (tCall (sp__law_draw K) [] E0 (tCons (tVar 1) (tCons (tC (.int 2)) tNil))) (tC (.int 0))) tNil))))) (tCons (tTup (tCons (tC (.str "view")) (tCons (tOp (rIxL K) (tVar 7) (tC (.int 0))) tNil))) tNil))))) (tRet (tC (.bl false))) tNext)))))
  (tSeq (tAsg (tLst (tCons (tC .non) (tCons (tC (.int 0)) (tCons (tC (.str "")) (tCons (tOp rRepS (tC (.str "x")) (tCB (rLen1 K) (tCons (tVar 4) tNil))) (tCons (tC (.bl true)) (tCons (tSl (rSlA K) (tVar 4) tNoPart (tPart (tUn rNeg (tC (.int 1))))) (tCons (tOp (rCatA K) (tVar 4) (tSl (rSlA K) (tVar 4) (tPart (tUn rNeg (tC (.int 1)))) tNoPart)) (tCons (tOp (rRepW K) (tTup (tCons (tVar 4) tNil)) (tOp rAddI (tCB (rLen1 K) (tCons (tVar 4) tNil)) (tC (.int 1)))) (tCons (tOp (rCatA K) (tVar 4) (tTup (tCons (tC .non) tNil))) tNil)))))))))) (gName 10))
  (tSeq (tDrop (tBM K "list" rAppend (tVar 10) (tCons (tOp (rRepW K) (tTup (tCons (tOp (rRepW K) (tTup (tCons (tOp (rRepW K) (tTup (tCons (tTup tNil) tNil)) (tC (.int 20))) (tCons (tC .non) tNil))) (tC (.int 40))) tNil)) (tOp rAddI (tCB (rLen1 K) (tCons (tVar 4) tNil)) (tC (.int 2)))) tNil)))
  (tSeq (tIfS (tNot (tB (tCall (sp__law_same K 4) [] E0 (tCons (tCall (sp__law_checked K) [] E0 (tCons (tVar 2) (tCons (tVar 3) (tCons (tOp (rIxL K) (tVar 10) (tCall (sp__law_draw K) [] E0 (tCons (tVar 1) (tCons (tCB (rLen1 K) (tCons (tVar 10) tNil)) tNil)))) (tCons (tC (.bl false)) tNil))))) (tCons (tTup (tCons (tC (.str "view")) (tCons (tUn rNeg (tC (.int 1))) tNil))) tNil))))) (tRet (tC (.bl false))) tNext)
  (tSeq (tFor (iRng1 (tCons (tC (.int 3)) tNil)) (gName 6)
  (tSeq (tAsg (tThen (tLc (iTup K (tOp (rIxT K) (tVar 2) (tC (.int 0)))) (gName 12) tYes (tOp (rIxT K) (tOp (rIxT K) (tVar 12) (tC (.int 1))) (tCall (sp__law_draw K) [] E0 (tCons (tVar 1) (tCons (tCB (rLen1 K) (tCons (tOp (rIxT K) (tVar 12) (tC (.int 1))) tNil)) tNil)))) [12]) (kTup K)) (gName 11))
  (tSeq (tAsg (tCall (sp__law_seen K) [] E0 (tCons (tVar 2) (tCons (tVar 4) (tCons (tVar 11) tNil)))) (gName 13))
  (tSeq (tIfS (tNot (tB (tCall (sp__law_same K 4) [] E0 (tCons (tCall (sp_seen K) [] E0 (tCons (tVar 2) (tCons (tVar 3) (tCons (tVar 4) (tCons (tVar 11) tNil))))) (tCons (tVar 13) tNil))))) (tRet (tC (.bl false))) tNext)
  (tIfS (tNot (tB (tCall (sp__law_same K 4) [] E0 (tCons (tCallK (sp_seen K) gR E0 tNil (tCons (tVar 11) (tCons (tVar 4) (tCons (tVar 3) (tCons (tVar 2) tNil))))) (tCons (tVar 13) tNil))))) (tRet (tC (.bl false))) tNext)))))
  (tRet (tCall (sp__law_same K 4) [] E0 (tCons (tCall (sp__law_checked K) [] E0 (tCons (tVar 2) (tCons (tVar 3) (tCons (tVar 4) (tCons (tC (.bl false)) tNil))))) (tCons (tTup (tCons (tC (.str "told")) (tCons (tC .non) tNil))) tNil)))))))))))))))
theorem len_law {K : PySem.W.Frag} : ∀ (vs : List V) (H : Hp) (Q : VK) (E : XK), sp_law K vs H Q E → vs.length = 1 := fun vs H Q E h => by
  obtain ⟨_, _, rfl, _⟩ := h
  rfl
theorem pure_law {K : PySem.W.Frag} (vs : List V) (H : Hp) (Q : VK) (E : XK) (h : sp_law K vs H Q E) : t_law K { nx := fun _ H' => Q .non H', rt := Q } (start ["script", "tape", "one", "other", "view", "is_named", "turn", "numbers", "k", "value", "whole", "filling", "pair", "due"] vs) H := by
  obtain ⟨a, ns, rfl, hs, hl, q⟩ := h
  show t_law K _ [some (.ref a), none, none, none, none, none, none, none, none, none, none, none, none, none] H
  unfold t_law
  walk_at "aw"
  refine ⟨a, ns, rfl, hs, hl, fun st cs H1 ok1 a1 nst => ?_⟩
  with_reducible refine w_gname ?_
  with_reducible refine w_seqJ (fun σ' H' => σ' = [some (.ref a), some (.ref st), none, none, none, none, none, none, none, none, none, none, none, none] ∧ Go st cs H1 H') (fun N hN => ?_) fun σ' H' p => ?_
  · walk_at "aw"
    refine w_draw ok1 (by decide) (by decide) fun n H2 n0 n1 g2 => ?_
    walk_at "aw"
    refine w_ite (fun hb => ?_) fun hb => ?_
    · walk_at "aw"
      refine ⟨st, rfl, cs, g2.ok, fun H3 g3 => ?_⟩
      walk_at "aw"
      exact hN _ _ ⟨rfl, g2.trans g3⟩
    · walk_at "aw"
      exact hN _ _ ⟨rfl, g2⟩
  obtain ⟨rfl, g1⟩ := p
  walk_at "aw"
  refine ⟨st, 1, 4, 4, rfl, cs, g1.ok, by decide, by decide, by decide, by decide, by decide, fun t1 us1 d1 H2 g2 et1 hus1 mok1 hl1 hl1' => ?_⟩
  walk_at "aw"
  refine w_tupW (by simp) fun e1 H3 a3 ee1 => ?_
  walk_at "aw"
  refine w_tupW (by simp) fun e2 H4 a4 ee2 => ?_
  walk_at "aw"
  refine w_tupW (by simp) fun on H5 a5 eon => ?_
  walk_at "aw"
  have a25 := a3.trans (a4.trans a5)
  have hm1 : MdlAt H5 (.ref on) d1 := ⟨on, t1, _, us1, rfl, eon, a25.tup _ _ et1, hus1.up a25.tup⟩
  have et1' := a25.tup _ _ et1
  have g5 := g2.new a25
  refine ⟨st, 1, 4, 4, rfl, cs, g5.ok, by decide, by decide, by decide, by decide, by decide, fun t2 us2 d2 H6 g6 et2 hus2 mok2 hl2 hl2' => ?_⟩
  walk_at "aw"
  refine w_tupW (by simp) fun e3 H7 a7 ee3 => ?_
  walk_at "aw"
  refine w_tupW (by simp) fun e4 H8 a8 ee4 => ?_
  walk_at "aw"
  refine w_tupW (by simp) fun ot H9 a9 eot => ?_
  walk_at "aw"
  have a69 := a7.trans (a8.trans a9)
  have hm2 : MdlAt H9 (.ref ot) d2 := ⟨ot, t2, _, us2, rfl, eot, a69.tup _ _ et2, hus2.up a69.tup⟩
  have g59 := g6.new a69
  refine ⟨st, .ref on, .ref ot, rfl, cs, d1, d2, 4, 4, g59.ok, hm1.up g59.tk, mok1, by decide, by omega, by omega, hm2, mok2, by decide, by omega, fun vt L HB gB hvt hL => ?_⟩
  have hm1 := hm1.up (g59.trans gB).tk
  have hm2 := hm2.up gB.tk
  have okB := gB.ok
  clear eot ee4 ee3 a9 a8 a7 a69 et2 hus2 g6 eon ee2 ee1 a5 a4 a3 et1 g2 g1 a1 ok1 hs
  obtain ⟨vus, evt, hvs⟩ := hvt
  have hLl := hL.length
  have hvl := hvs.length
  have hIs : Is HB (.tuple (L.map itmD)) (.ref vt) := .tup evt (items_is hvs)
  have hat : ∀ (i : Nat), i < L.length → ∃ it d, L[i]? = some it ∧ d2[i]? = some d ∧ ItmOk d1 d.2 it := fun i hi => by
    obtain ⟨it, e1⟩ := get_some (xs := L) (i := i) hi
    obtain ⟨d, e2⟩ := get_some (xs := d2) (i := i) (by omega)
    exact ⟨it, d, e1, e2, paired_at hL e1 e2⟩
  have hsw : Sw 5 (.tuple (L.map itmD)) := (view_sw mok1 hL (fun it hit => by
    obtain ⟨i, hi, rfl⟩ := List.mem_iff_getElem.mp hit
    obtain ⟨it, d, e1, e2, o⟩ := hat i hi
    rw [List.getElem?_eq_getElem hi] at e1
    cases e1
    have h1 := o.l64 mok1 (by decide)
    have h2 := o.rows.length
    omega) (by omega)).mono (by decide)
  have hright : ∀ (i : Nat) D (d : Str × List Int), (L.map itmD)[i]? = some D → d2[i]? = some d → itmB d1 d.2 D = true := fun i D d h1 h2 => by
    rw [List.getElem?_map] at h1
    obtain ⟨it, e1, rfl⟩ := Option.map_eq_some_iff.mp h1
    have o := paired_at hL e1 h2
    exact o.right mok1 (by have := o.l64 mok1 (by decide); omega)
  have hdl : (L.map itmD).length = d2.length := by rw [List.length_map]; omega
  have hnone : vwB d1 d2 (.tuple (L.map itmD)) = none := vw_none hdl hright
  walk_at "aw"
  refine w_tupW (by simp) fun bt H1 a1 ebt => ?_
  have g1 := Go.of okB a1
  refine kForT_i (xs := [.bl true, .bl false]) (fun i σ' H' => ∃ y5 : Option V, σ' = [some (.ref a), some (.ref st), some (.ref on), some (.ref ot), some (.ref vt), y5, none, none, none, none, none, none, none, none] ∧ Go st cs H1 H') (SqT.of ebt) ⟨none, rfl, .refl g1.ok⟩ (fun i σ' H' _ pp => by obtain ⟨_, _, g⟩ := pp; exact SqT.of (g.tk _ _ ebt)) (fun i v σ' H' hv pp => ?_) fun σ' H' pp => ?_
  · obtain ⟨y5, rfl, g⟩ := pp
    obtain ⟨b, rfl⟩ : ∃ b, v = .bl b := by
      match i, hv with
      | 0, hv => cases hv; exact ⟨_, rfl⟩
      | 1, hv => cases hv; exact ⟨_, rfl⟩
    have kB := (g1.trans g).tk
    walk_at "aw"
    refine ⟨.ref on, .ref ot, .ref vt, b, rfl, d1, d2, 4, _, 5, hm1.up kB, mok1, by decide, by omega, hm2.up kB, by omega, hIs.up kB, hsw, by decide, fun _ t H3 a3 ht => ?_, fun k hk => by rw [hnone] at hk; cases hk⟩
    walk_at "aw"
    refine w_tupW (by simp) fun t4 H4 a4 et4 => ?_
    refine ⟨_, _, rfl, _, ht.up a4.tup, .tup et4 (.cons (.str _) (.cons .non .nil)), sme_told, ?_⟩
    walk_at "aw"
    exact ⟨_, rfl, g.new (a3.trans a4)⟩
  obtain ⟨y5, rfl, g⟩ := pp
  have g2 := g1.trans g
  walk_at "aw"
  refine kForR_i (n := 4) (by decide) (fun i σ' H' => ∃ y6 y7 y9 : Option V, σ' = [some (.ref a), some (.ref st), some (.ref on), some (.ref ot), some (.ref vt), y5, y6, y7, none, y9, none, none, none, none] ∧ Go st cs HB H') ⟨none, none, none, rfl, g2⟩ (fun i σ' H' hi pp => ?_) fun σ' H' pp => ?_
  · obtain ⟨y6, y7, y9, rfl, g⟩ := pp
    walk_at "aw"
    refine w_draw g.ok (by decide) (by decide) fun c H2 c0 c1 g2 => ?_
    walk_at "aw"
    refine ⟨1 + c, rfl, by omega, by omega, ?_⟩
    have ga := g.trans g2
    refine kLc_all walk_range (by omega) g2.ok (fun _ _ => trivial) (fun k u _ => ∃ n : Nat, u = .int (n : Nat) ∧ n < L.length) (fun _ _ _ _ _ h => h) (fun k x H3 H4 Kt hk g3 yy kt => ?_) fun nl H3 ys nnl g3 enl hyl hyr => ?_
    · obtain ⟨rfl, rfl⟩ := yy
      walk_at "aw"
      refine ⟨rfl, ?_⟩
      walk_at "aw"
      refine w_lenT (SqT.of ((ga.trans g3).tk _ _ evt)) ?_
      walk_at "aw"
      refine w_draw g3.ok (by omega) (by omega) fun n H5 n0 n1 g5 => ?_
      exact kt _ _ g5 ⟨n.toNat, by rw [show ((n.toNat : Nat) : Int) = n by omega], by omega⟩
    obtain ⟨zs, hzl, hz⟩ := list_choose (P := fun k u (n : Nat) => u = V.int (n : Nat) ∧ n < L.length) fun k u hu => by
      obtain ⟨n, h1, h2⟩ := hyr k u hu
      exact ⟨n, h1, h2⟩
    have hys : ys = (zs.map fun n : Nat => (n : Int)).map V.int := by
      apply List.ext_getElem (by rw [List.length_map, List.length_map, hzl])
      intro k h1 h2
      rw [List.getElem_map, List.getElem_map]
      exact (hz k _ _ (List.getElem?_eq_getElem h1) (List.getElem?_eq_getElem (by omega))).1
    have gb := ga.trans g3
    walk_at "aw"
    refine ⟨nl, zs.map fun n : Nat => (n : Int), rfl, SqL.of (by rw [← hys]; exact enl), fun ns' p hperm hsort hp => ?_⟩
    have hnl : ns'.length = (1 + c).toNat := by rw [hperm.length_eq, List.length_map, hzl, hyl]
    have hmem : ∀ x ∈ ns', ∃ n : Nat, x = (n : Int) ∧ n < L.length := fun x hx => by
      obtain ⟨n, hn, rfl⟩ := List.mem_map.mp (hperm.subset hx)
      obtain ⟨k, hk, rfl⟩ := List.mem_iff_getElem.mp hn
      exact ⟨_, rfl, (hz k (ys[k]'(by omega)) _ (List.getElem?_eq_getElem (by omega)) (List.getElem?_eq_getElem hk)).2⟩
    cases ns' with
    | nil => simp at hnl; omega
    | cons n0 nr =>
      obtain ⟨k0, rfl, hk0⟩ := hmem n0 (List.mem_cons_self ..)
      obtain ⟨nL, hlast⟩ : ∃ nL, (((k0 : Nat) : Int) :: nr).getLast? = some nL := ⟨_, List.getLast?_eq_some_getLast (by simp)⟩
      obtain ⟨k1, rfl, hk1⟩ := hmem nL (List.mem_of_getLast? hlast)
      have hlast2 : ((((k0 : Nat) : Int) :: nr).map V.int).getLast? = some (.int (k1 : Nat)) := by rw [List.getLast?_map, hlast]; rfl
      have hle : k0 ≤ k1 := by
        rcases List.mem_cons.mp (List.mem_of_getLast? hlast) with z | z
        · omega
        · have := List.rel_of_pairwise_cons hsort z
          omega
      have a4 : Adv [] H3 (upd H3 p (.lst ((((k0 : Nat) : Int) :: nr).map V.int))) := Adv.new hp
      have ep4 : (upd H3 p (.lst ((((k0 : Nat) : Int) :: nr).map V.int))) p = some (.lst ((((k0 : Nat) : Int) :: nr).map V.int)) := upd_same
      generalize upd H3 p (.lst ((((k0 : Nat) : Int) :: nr).map V.int)) = H4 at a4 ep4
      have g4 := gb.new a4
      have op := (g3.ok.ne hp).1
      obtain ⟨it0, dk0, el0, ed0, o0⟩ := hat k0 hk0
      walk_at "aw"
      refine w_ixL (SqL.of ep4) (v := .int (k0 : Nat)) (at_nat (by decide) rfl) ?_
      walk_at "aw"
      have hz0 : k0 < (L.map itmD).length := by rw [List.length_map]; exact hk0
      refine ⟨st, vt, .ref on, .ref ot, k0, rfl, cs, d1, d2, 4, 4, L.map itmD, it0, dk0, g4.ok, hm1.up g4.tk, mok1, by decide, by omega, hm2.up g4.tk, mok2, by decide, hIs.up g4.tk, by rw [List.length_map]; omega, by rw [List.getElem?_map, el0]; rfl, ed0, o0, fun t D H5 g5 ht hD => ?_⟩
      rw [spl_set hz0] at ht
      have hv1 : vwB d1 d2 (.tuple ((L.map itmD).set k0 D)) = some (k0 : Int) := vw_first (k := k0) (D := D) (d := dk0) (by rw [List.length_set]; exact hdl) (fun i D' d hi h1 h2 => hright i D' d (by rw [List.getElem?_set_ne (by omega)] at h1; exact h1) h2) (List.getElem?_set_self hz0) ed0 hD.1
      have hw1 : Sw 5 (.tuple ((L.map itmD).set k0 D)) := set_sw hsw hD.2
      have ep5 := g5.keep op ep4
      with_reducible refine w_gname ?_
      with_reducible refine w_seqJ (fun σ' H' => ∃ v ds, σ' = [some (.ref a), some (.ref st), some (.ref on), some (.ref ot), some (.ref vt), y5, some (.int (i : Nat)), some (.ref p), none, some v, none, none, none, none] ∧ Go st cs H4 H' ∧ Is H' (.tuple ds) v ∧ vwB d1 d2 (.tuple ds) = some (k0 : Int) ∧ Sw 5 (.tuple ds)) (fun N hN => ?_) fun σ' H' pp => ?_
      · walk_at "aw"
        refine w_ixL (SqL.of ep5) (v := .int (k1 : Nat)) (ix_last hlast2) ?_
        walk_at "aw"
        refine w_ixL (SqL.of ep5) (v := .int (k0 : Nat)) (at_nat (by decide) rfl) ?_
        walk_at "aw"
        by_cases hlt : k0 < k1
        · refine iteT'' (decide_eq_true (by omega)) ?_
          walk_at "aw"
          refine w_ixL (SqL.of ep5) (v := .int (k1 : Nat)) (ix_last hlast2) ?_
          walk_at "aw"
          obtain ⟨it1, dk1, el1, ed1, o1⟩ := hat k1 hk1
          have g45 := g4.trans g5
          have hz1 : k1 < ((L.map itmD).set k0 D).length := by rw [List.length_set, List.length_map]; exact hk1
          refine ⟨st, t, .ref on, .ref ot, k1, rfl, cs, d1, d2, 4, 4, (L.map itmD).set k0 D, it1, dk1, g45.ok, hm1.up g45.tk, mok1, by decide, by omega, hm2.up g45.tk, mok2, by decide, ht, by rw [List.length_set, List.length_map]; omega, by rw [List.getElem?_set_ne (by omega), List.getElem?_map, el1]; rfl, ed1, o1, fun t' D' H6 g6 ht' hD' => ?_⟩
          rw [spl_set hz1] at ht'
          walk_at "aw"
          refine hN _ _ ⟨_, _, rfl, g5.trans g6, ht', ?_, set_sw hw1 hD'.2⟩
          refine vw_first (k := k0) (D := D) (d := dk0) (by rw [List.length_set, List.length_set]; exact hdl) (fun i D' d hi h1 h2 => hright i D' d (by rw [List.getElem?_set_ne (by omega), List.getElem?_set_ne (by omega)] at h1; exact h1) h2) ?_ ed0 hD.1
          rw [List.getElem?_set_ne (by omega)]
          exact List.getElem?_set_self hz0
        · refine iteF'' (decide_eq_false (by omega)) ?_
          walk_at "aw"
          exact hN _ _ ⟨_, _, rfl, g5, ht, hv1, hw1⟩
      obtain ⟨v, ds, rfl, g6, hv, hvw, hw⟩ := pp
      have g46 := g4.trans g6
      walk_at "aw"
      refine w_draw g6.ok (by decide) (by decide) fun n H7 n0 n1 g7 => ?_
      walk_at "aw"
      have g47 := g46.trans g7
      refine ⟨.ref on, .ref ot, v, _, rfl, d1, d2, 4, _, 5, hm1.up g47.tk, mok1, by decide, by omega, hm2.up g47.tk, by omega, hv.up g7.tk, hw, by decide, fun hn => by rw [hvw] at hn; (cases hn), fun k hk t8 H8 a8 ht8 => ?_⟩
      rw [hvw] at hk
      cases hk
      walk_at "aw"
      refine w_ixL (SqL.of (((g6.trans g7).new a8).keep op ep4)) (v := .int (k0 : Nat)) (at_nat (by decide) rfl) ?_
      walk_at "aw"
      refine w_tupW (by simp) fun t9 H9 a9 et9 => ?_
      refine ⟨_, _, rfl, _, ht8.up a9.tup, .tup et9 (.cons (.str _) (.cons (.int _) .nil)), sme_view _, ?_⟩
      walk_at "aw"
      exact ⟨_, _, _, rfl, g47.new (a8.trans a9)⟩
  obtain ⟨y6, y7, y9, rfl, g⟩ := pp
  obtain ⟨oa, ob, rr, us, he, eon, eob, hus⟩ := id hm1
  cases he
  have hul := hus.1
  have hn1 : 1 ≤ L.length := by omega
  have hn4 : L.length ≤ 4 := by omega
  have hs4 : ∀ d ∈ L.map itmD, Sw 4 d := by
    cases hsw with
    | tup l h => exact h
  have hml : (L.map itmD).length = L.length := List.length_map ..
  generalize hds : L.map itmD = ds at hIs hsw hright hdl hnone hs4 hml
  have bad1 : ∀ d ∈ [PyData.none, .int 0, .str "", .str (Txt.mul "x" (ds.length : Nat)), .bool true, .tuple ds.dropLast, .tuple (ds ++ ds.drop (ds.length - 1)), .tuple (List.replicate (((ds.length : Nat) : Int) + 1).toNat [PyData.tuple ds]).flatten, .tuple (ds ++ [.none])], BadW d1 d2 d := by
    intro d hd
    simp only [List.mem_cons, List.not_mem_nil, or_false] at hd
    rcases hd with rfl | rfl | rfl | rfl | rfl | rfl | rfl | rfl | rfl
    · exact ⟨rfl, .non⟩
    · exact ⟨rfl, .int 0⟩
    · exact ⟨rfl, .str (by unfold okS; decide +kernel)⟩
    · exact ⟨rfl, .str (mul_x _ (by omega) (by omega)).2⟩
    · exact ⟨rfl, .bl true⟩
    · exact ⟨vw_not (by rw [List.length_dropLast]; omega), .tup (by rw [List.length_dropLast]; omega) fun d hd => (hs4 d (List.dropLast_subset _ hd)).mono (by decide)⟩
    · refine ⟨vw_not (by rw [List.length_append, List.length_drop]; omega), (sw_app (k := 5) (fun d hd => (hs4 d hd).mono (by decide)) (fun d hd => (hs4 d (List.mem_of_mem_drop hd)).mono (by decide)) (by rw [List.length_drop]; omega))⟩
    · refine ⟨vw_not (by rw [flat_len]; simp only [List.length_cons, List.length_nil]; omega), flat_sw (sw_one hsw) (by simp only [List.length_cons, List.length_nil]; omega)⟩
    · exact ⟨vw_not (by rw [List.length_append]; simp only [List.length_cons, List.length_nil]; omega), sw_app (k := 5) (fun d hd => (hs4 d hd).mono (by decide)) (sw_one .non) (by simp only [List.length_cons, List.length_nil]; omega)⟩
  have bad2 : BadW d1 d2 (.tuple (List.replicate (((ds.length : Nat) : Int) + 2).toNat [PyData.tuple (List.replicate (40 : Int).toNat [PyData.tuple (List.replicate (20 : Int).toNat [PyData.tuple []]).flatten, PyData.none]).flatten]).flatten) := by
    refine ⟨vw_not (by rw [flat_len]; simp only [List.length_cons, List.length_nil]; omega), (flat_sw (k := 3) (sw_one (flat_sw (k := 2) (fun d hd => ?_) (by decide))) (by simp only [List.length_cons, List.length_nil]; omega)).mono (by decide)⟩
    simp only [List.mem_cons, List.not_mem_nil, or_false] at hd
    rcases hd with rfl | rfl
    · exact flat_sw (k := 1) (sw_one (.tup (by simp) fun _ h => nomatch h)) (by decide)
    · exact .non
  have hIs' := hIs.up g.tk
  have Vw : ∀ σ : L2.St, σ[4]? = some (some (.ref vt)) → EX (.tuple ds) (tVar 4) σ H' := fun σ h => ex_var h hIs'
  have okg := g.ok
  with_reducible refine w_seq ?_
  with_reducible refine w_asg ?_
  refine w_lstP (exa_cons ex_non (exa_cons ex_int (exa_cons ex_str (exa_cons (ex_repS ex_str (ex_len (Vw _ rfl)) (mul_x _ (by omega) (by omega)).1) (exa_cons ex_bl (exa_cons (ex_init (Vw _ rfl)) (exa_cons (ex_cat (Vw _ rfl) (ex_end (Vw _ rfl)) (by rw [List.length_drop]; omega)) (exa_cons (ex_rep (ex_tup (exa_cons (Vw _ rfl) exa_nil)) (ex_add (ex_len (Vw _ rfl)) ex_int) (by simp) (by omega) (by omega) (by simp)) (exa_cons (ex_cat (Vw _ rfl) (ex_tup (exa_cons ex_non exa_nil)) (by simp; omega)) exa_nil))))))))) bad1 (by simp) fun lw H2 nlw fb => ?_
  with_reducible refine w_gname ?_
  with_reducible refine w_seq ?_
  refine w_appP fb nlw (by simp) rfl (ex_rep (ex_tup (exa_cons (ex_rep (ex_tup (exa_cons (ex_rep (ex_tup (exa_cons (ex_tup exa_nil) exa_nil)) ex_int (by simp) (by decide) (by decide) (by simp)) (exa_cons ex_non exa_nil))) ex_int (by simp) (by decide) (by decide) (by simp)) exa_nil)) (ex_add (ex_len (Vw _ rfl)) ex_int) (by simp) (by omega) (by omega) (by simp)) bad2 fun H3 fb => ?_
  obtain ⟨a03, xs, ew, pw, hwl⟩ := fb
  have hwl : xs.length = 10 := hwl
  have g3 := g.new a03
  have olw := (okg.ne nlw).1
  with_reducible refine w_seqJ (fun σ' H' => σ' = [some (.ref a), some (.ref st), some (.ref on), some (.ref ot), some (.ref vt), y5, y6, y7, none, y9, some (.ref lw), none, none, none] ∧ Go st cs HB H') (fun N hN => ?_) fun σ' H' p => ?_
  · walk_at "aw"
    refine w_lenL (SqL.of ew) ?_
    walk_at "aw"
    refine w_draw g3.ok (by omega) (by omega) fun n H4 n0 n1 g4 => ?_
    have hx : n.toNat < xs.length := by omega
    refine w_ixL (SqL.of (g4.keep olw ew)) (at_nat n0 (List.getElem?_eq_getElem hx)) ?_
    walk_at "aw"
    obtain ⟨D, hD, hv, hw⟩ := pw _ (List.getElem_mem hx)
    have g34 := g3.trans g4
    refine ⟨.ref on, .ref ot, _, false, rfl, d1, d2, 4, D, 6, hm1.up g34.tk, mok1, by decide, by omega, hm2.up g34.tk, by omega, hD.up g4.tk, hw, by decide, fun hn => by rw [hv] at hn; (cases hn), fun k hk t8 H8 a8 ht8 => ?_⟩
    rw [hv] at hk
    cases hk
    walk_at "aw"
    refine w_tupW (by simp) fun t9 H9 a9 et9 => ?_
    refine ⟨_, _, rfl, _, ht8.up a9.tup, .tup et9 (.cons (.str _) (.cons (.int _) .nil)), sme_view _, ?_⟩
    walk_at "aw"
    exact hN _ _ ⟨rfl, g34.new (a8.trans a9)⟩
  obtain ⟨rfl, g⟩ := p
  walk_at "aw"
  refine kForR_i (n := 3) (by decide) (fun i σ' H' => ∃ y6 y11 y13 : Option V, σ' = [some (.ref a), some (.ref st), some (.ref on), some (.ref ot), some (.ref vt), y5, y6, y7, none, y9, some (.ref lw), y11, none, y13] ∧ Go st cs HB H') ⟨_, none, none, rfl, g⟩ (fun i σ' H' hi pp => ?_) fun σ' H' pp => ?_
  · obtain ⟨y6, y11, y13, rfl, g⟩ := pp
    walk_at "aw"
    refine w_ixT (SqT.of (g.tk _ _ eon)) (at_nat (by decide) rfl) ?_
    have hus2 := hus.up g.tk
    refine ⟨ob, rfl, ⟨_, SqT.of (g.tk _ _ eob)⟩, kLc_all (walk_tup (xs := us)) (by omega) g.ok (fun H' g' => SqT.of ((g.trans g').tk _ _ eob)) (fun k u H5 => ∃ d, d1[k]? = .some d ∧ ∃ x ∈ d.2, u = V.int x) (fun _ _ _ _ _ h => h) (fun k u H5 H6 Kt hk g5 yy kt => ?_) fun fl H5 zf nfl g5 efl hzfl hzfr => ?_⟩
    · obtain ⟨rfl, hu⟩ := yy
      obtain ⟨pp, qq, d, rfl, hs, epp, eqq⟩ := (hus2.up g5.tk).2 k u hu
      have hsl := mok1.dm d (List.mem_of_getElem? hs)
      have l1 := hsl.l1
      have l2 := hsl.l2
      walk_at "aw"
      refine ⟨rfl, ?_⟩
      walk_at "aw"
      refine w_ixT (SqT.of epp) (at_nat (by decide) rfl) ?_
      walk_at "aw"
      refine w_ixT (SqT.of epp) (at_nat (by decide) rfl) ?_
      walk_at "aw"
      refine w_lenT (SqT.of eqq) ?_
      rw [List.length_map]
      walk_at "aw"
      refine w_draw g5.ok (by omega) (by omega) fun n H7 n0 n1 g7 => ?_
      have hn : n.toNat < d.2.length := by omega
      refine w_ixT (SqT.of (g7.tk _ _ eqq)) (v := .int d.2[n.toNat]) (at_nat n0 (by rw [List.getElem?_map, List.getElem?_eq_getElem hn]; rfl)) ?_
      exact kt _ _ g7 ⟨d, hs, _, List.getElem_mem _, rfl⟩
    obtain ⟨φ, hφ, hφ2⟩ := fil_ex mok1.nd (by omega) hzfr
    walk_at "aw"
    refine w_tupL (SqL.of efl) fun ft H6 nft a6 eft => ?_
    rw [hφ] at eft
    have ga := g.trans (g5.new a6)
    have hsee : ∀ it ∈ L, ItSee (d1.map (·.1)) φ it := fun it hit => by
      obtain ⟨i, hi, rfl⟩ := List.mem_iff_getElem.mp hit
      obtain ⟨it, d, e1, e2, o⟩ := hat i hi
      rw [List.getElem?_eq_getElem hi] at e1
      cases e1
      exact o.see mok1 (by have := o.l64 mok1 (by decide); omega) hφ2
    walk_at "aw"
    refine ⟨.ref on, vt, ft, rfl, d1, L, φ, vus, hm1.up ga.tk, mok1.nd, by omega, .inr (SqT.of (ga.tk _ _ evt)), L2.Paired.mapP hvs fun _ _ z => z.up ga.tk, by omega, hsee, eft, fun t vals H7 a7 et hvals => ?_⟩
    walk_at "aw"
    have gb := ga.new a7
    refine ⟨.ref on, .ref ot, vt, ft, rfl, d1, L, φ, hm1.up gb.tk, mok1.nd, by omega, ⟨_, gb.tk _ _ evt, L2.Paired.mapP hvs fun _ _ z => z.up gb.tk⟩, by omega, hsee, a7.tup _ _ eft, fun t2 vals2 H8 a8 et2 hvals2 => ?_⟩
    cases seen_uniq hsee hvals2 hvals
    have hvl2 := hvals.length
    walk_at "aw"
    refine ⟨_, _, rfl, _, .tup et2 (IsAll.ints vals), .tup (a8.tup _ _ et) (IsAll.ints vals), sme_ints _ (by omega), ?_⟩
    walk_at "aw"
    have gc := gb.new a8
    refine iteF'' rfl ?_
    walk_at "aw"
    refine w_callKR ?_
    walk_at "aw"
    refine ⟨.ref on, .ref ot, vt, ft, rfl, d1, L, φ, hm1.up gc.tk, mok1.nd, by omega, ⟨_, gc.tk _ _ evt, L2.Paired.mapP hvs fun _ _ z => z.up gc.tk⟩, by omega, hsee, (a7.trans a8).tup _ _ eft, fun t3 vals3 H9 a9 et3 hvals3 => ?_⟩
    cases seen_uniq hsee hvals3 hvals
    walk_at "aw"
    refine ⟨_, _, rfl, _, .tup et3 (IsAll.ints vals), .tup ((a8.trans a9).tup _ _ et) (IsAll.ints vals), sme_ints _ (by omega), ?_⟩
    walk_at "aw"
    exact ⟨_, _, _, rfl, gc.new a9⟩
  obtain ⟨y6, y11, y13, rfl, g⟩ := pp
  walk_at "aw"
  refine ⟨.ref on, .ref ot, .ref vt, false, rfl, d1, d2, 4, _, 5, hm1.up g.tk, mok1, by decide, by omega, hm2.up g.tk, by omega, hIs.up g.tk, hsw, by decide, fun _ t H3 a3 ht => ?_, fun k hk => by rw [hnone] at hk; cases hk⟩
  walk_at "aw"
  refine w_tupW (by simp) fun t4 H4 a4 et4 => ?_
  refine ⟨_, _, rfl, _, ht.up a4.tup, .tup et4 (.cons (.str _) (.cons .non .nil)), sme_told, ?_⟩
  exact q _
end AW
namespace AW
open PySem PySem.Spec PyProof.Rows L2
section
variable {X : Cx} {pins : List (Addr × Obj)} {H : Hp} {s : Shared} {σ : L2.St}
/-- one key more -/
theorem dcT_core {Q : VK} {use : Option (Value → Sem Unit)} {Qf : Value → Shared → Prop} {pos2 : Pos} {kx vx tg iter : Expr} {ifs : List Expr} {scope : Scope} {own : List (PySem.Str × Nat)} {pos : Pos} {wi : TI} {g : TG} {tt : TT} {tk tv : TE} (hu : X.A.units + 1 < cLine) (calm : X.calm = true) (nod : X.N.Nodup) (hi : PI X tg iter wi) (blk : BlkOk X.N X.env.scope scope own)
    (hg : ∀ t G C cl fp, PG (X.blk t G scope (compEnvC scope cl C X.env) fp) tg g) (ht : ∀ t G C cl fp, PTs (X.blk t G scope (compEnvC scope cl C X.env) fp) ifs tt) (hk : ∀ t G C cl fp, PE (X.blk t G scope (compEnvC scope cl C X.env) fp) kx tk) (he : ∀ t G C cl fp, PE (X.blk t G scope (compEnvC scope cl C X.env) fp) vx tv)
    (plain : ∀ x, foldedSetIterable iter X.env x = pure x) (iv : Inv X pins σ H s) (want : tDcT wi g tt tk tv (own.map (·.2)) σ H Q)
    (after : ∀ D C t m G, Inv X pins σ G t → Q (.ref D) G → t.heap.Ns C m → FpOk X pins G C → compPost (model X.prog X.w) X.A X.xe use Qf (.ref D) C (.ok .next) t) :
    wpAny (model X.prog X.w) X.A (comprehension (.DictComp kx vx [⟨tg, iter, ifs, 0⟩] scope pos) scope X.env pos2 newDict false (eval iter X.env) use) Qf X.xe s := by
  have cells : ∀ y ∈ scope.names, y.2 = .free → ∃ c, X.env.cells.lookup y.1 = some c := fun y hy e => (blk.free y hy e).elim (fun q => iv.ok.has _ (.inl q)) fun q => iv.ok.has _ (.inr q)
  refine wpAny_comprehension_free (use := use) rfl plain (closure_ok cells) blk.kind (fun y hy e => by rw [blk.uniq y hy, e]) (thn (hi.run pins s σ H _ iv want) fun xv s1 q1 => thn q1 fun itv s2 q2 => ?_)
  obtain ⟨it, fp, tn, J, H2, rfl, iv2, tu, st, far, q⟩ := q2
  refine wpAny_newObj_type (newEnv_comp ?_)
  have fresh : H2 s2.heap.objs.size = none := iv2.hok.fresh (Nat.le_refl _)
  obtain ⟨W, ⟨m0, w0⟩, turns⟩ := q s2.heap.objs.size fresh
  generalize hs3 : ({ s2 with heap := s2.heap.push { cls := .type "dict", data := .dict #[] } } : Shared) = s3
  generalize hD : s2.heap.objs.size = D at *
  have h3 : ∀ b o, s2.heap.get? b = some o → s3.heap.get? b = some o := fun b o e => by rw [← hs3]; exact Heap.get?_push_of_some _ e
  have z3 : s3.heap.objs.size = D + 1 := by rw [← hs3, ← hD]; exact Heap.size_push ..
  have iv3 : Inv X pins σ (upd H2 D (.dT [])) s3 := by
    rw [← hs3]
    refine iv2.laid (t' := s2.toks) (fun b o e => Heap.get?_push_of_some _ e) (Nat.le_of_eq hD) ?_
    rw [← hD]
    exact dt_empty s2.heap iv2.big
  have low : ∀ b ∈ fp, b < D := fun b hb => by
    obtain ⟨o, e, _⟩ := tu.obj _ _ st b hb
    rw [← hD]
    exact Heap.lt_size e
  generalize hH3 : upd H2 D (.dT []) = H3 at iv3 w0
  have far3 : ∀ b ∈ fp, FpOk X pins H3 b ∧ b < s3.heap.objs.size := fun b hb => by
    have lt := low b hb
    refine ⟨⟨?_, (far b hb).2⟩, by rw [z3]; exact Nat.lt_succ_of_lt lt⟩
    rw [← hH3, upd_ne (Nat.ne_of_lt lt)]
    exact (far b hb).1
  have iv4 := block_start iv3 blk nod far3
  generalize hcl : cellsFrom (s3.heap.objs.size + 1) scope.names (cloFrom X.env.cells scope.names []) = cl at iv4
  have loc : (compEnvC scope cl s3.heap.objs.size X.env).locals = s3.heap.objs.size := rfl
  have run := dt_loop (Z := Q (.ref D)) (iter := iter) (s4 := { s3 with heap := pushCells (s3.heap.push { cls := .type "dict", data := .dict #[] }) scope.names }) (pos := pos) (R := compPost (model X.prog X.w) X.A X.xe use Qf (.ref D) s3.heap.objs.size) hu calm tu
    (hg s3 H3 s3.heap.objs.size cl fp) (ht s3 H3 s3.heap.objs.size cl fp) (hk s3 H3 s3.heap.objs.size cl fp) (he s3 H3 s3.heap.objs.size cl fp) iv4 (tu.keep _ _ _ st fun b _ o e => pushCells_keeps _ _ _ _ (Heap.get?_push_of_some _ (h3 b o e))) (fun b hb => (far3 b hb).1.1) w0 turns fun t G jv z => ?_
  · subst hcl
    exact codeAny_compStart_dict run (tu.self X.A 0 _ _ _ (tu.keep _ _ _ st fun b _ o e => pushCells_keeps _ _ _ _ (Heap.get?_push_of_some _ (h3 b o e))) run)
  · -- out of the block
    have back : Inv X pins σ G t := iv3.call' (ch := fp) jv.os jv.base jv.hok jv.bare fun b hb => by
      have f := (far3 b hb).1.2
      exact ⟨f.2.2.1, f.1, f.2.2.2.1, f.2.2.2.2⟩
    have none_ : G s3.heap.objs.size = none := jv.free
    obtain ⟨m, ns, _⟩ := jv.loc
    exact after _ _ t m G back z ns (iv3.fpOk (Nat.le_refl _) none_)
theorem ps_setDcT {i : Nat} {y : Str} {py : Pos} {kx vx tg iter : Expr} {ifs : List Expr} {scope : Scope} {own : List (Str × Nat)} {pos spos : Pos} {wi : TI} {g : TG} {tt : TT} {tk tv : TE}
    (hu : X.A.units + 1 < cLine) (hc : X.calm = true) (hN : X.N.Nodup) (hy : X.N[i]? = some y) (hyl : X.env.scope.names.lookup y = some .local)
    (hsw : swapsWith (.DictComp kx vx [⟨tg, iter, ifs, 0⟩] scope pos) (some (.Name y py)) spos.line X.env = pure true)
    (hi : PI X tg iter wi) (ok : BlkOk X.N X.env.scope scope own)
    (hg : ∀ s H C cl fp, PG (X.blk s H scope (compEnvC scope cl C X.env) fp) tg g)
    (ht : ∀ s H C cl fp, PTs (X.blk s H scope (compEnvC scope cl C X.env) fp) ifs tt)
    (hk : ∀ s H C cl fp, PE (X.blk s H scope (compEnvC scope cl C X.env) fp) kx tk)
    (hv : ∀ s H C cl fp, PE (X.blk s H scope (compEnvC scope cl C X.env) fp) vx tv)
    (hs : ∀ x, foldedSetIterable iter X.env x = pure x := by intro _; rfl) :
    PS X (.Assign [.Name y py] (.DictComp kx vx [⟨tg, iter, ifs, 0⟩] scope pos) spos) (tAsg (tDcT wi g tt tk tv (own.map (·.2))) (gName i)) := by
  constructor
  intro pins s σ H D I h
  have h2 : tDcT wi g tt tk tv (own.map (·.2)) σ H (fun x H1 => D.nx (σ.set i (some x)) H1) := h
  have core := dcT_core (use := some (assign (.Name y py) X.env)) (pos2 := firstIterPos [⟨tg, iter, ifs, 0⟩] pos) (pos := pos) (Qf := fun _ s' => SP X pins D .next s') hu hc hN hi ok hg ht hk hv hs I h2 fun L C s' m H' I' q hn f => ?_
  · rw [exec_Assign_Name_used _ _ _ _ hsw]
    apply wpAny_bind
    apply wpAny_standAt
    apply wpAny_bind
    show wpAny _ X.A (do let _ ← comprehension (.DictComp kx vx [⟨tg, iter, ifs, 0⟩] scope pos) scope X.env (firstIterPos [⟨tg, iter, ifs, 0⟩] pos) newDict false (eval iter X.env) (some (assign (.Name y py) X.env))) _ _ s
    apply wpAny_bind
    exact thn core fun _ s' hq => wpAny_pure (wpAny_pure hq)
  · show wpAny _ _ (assign (.Name y py) X.env (.ref L)) _ _ _
    apply wpAny_assign_Name
    refine store_ok2 (v := V.ref L) I' hN hy (.inl hyl) rfl (fun s2 I2 z => ?_) (.inr hyl)
    obtain ⟨a, sb, ha⟩ := z
    obtain ⟨f0, f1, f2, f3, f4, f5⟩ := f
    have hCa : C ≠ a := by
      rcases ha with z | z
      · rw [z]
        exact f1
      · exact fun e => f4 y a z e.symm
    refine ⟨m, hn.sameBut sb hCa, fun h3 sb3 => ?_⟩
    exact ⟨σ.set i (some (.ref L)), H', I2.turned (t' := s2.toks) (fun b o hb e => (sb3.2 b hb).trans e) f0 f1 f3 f4 f5, q⟩
end
end AW
namespace AW
open PySem PySem.Spec PyProof.Rows L2 RZ
open StX
def topS (i : Nat) : Stmt := PySem.Challenge.pw_aswritten_k50_views_checked_and_seen.main.body.getD i (.Pass ⟨0, 0, 0, 0⟩)
abbrev s_is_tuple : Stmt := topS 1
abbrev n_is_tuple : List Str := ["value", "fewest", "most"]
theorem sc_is_tuple : FnScope n_is_tuple ["value", "fewest", "most"] (defScope s_is_tuple) := ⟨rfl, rfl, rfl, by decide +kernel, rfl, by decide +kernel, by decide +kernel⟩
theorem ok_is_tuple {P : Program} {w : World} {K : PySem.W.Frag} {mg : Str → Option Value} {base : Heap} {f : Addr} {fd : FuncData} (F : Fun K "is_tuple" "is_tuple" s_is_tuple f fd) (gf : mg "is_tuple" = some (.ref f))   (m_len : mg "len" = none) (m_tuple : mg "tuple" = none) (m_type : mg "type" = none)  : Cal P w K mg base "is_tuple" 1 ["value", "fewest", "most"] (sp_is_tuple K) := by
  refine ⟨f, fd, F.ok sc_is_tuple len_is_tuple (fun cdv A outer s H vs Q E hr h => ⟨t_is_tuple K, PSs.nox ?_, pure_is_tuple vs H Q E h⟩), F.kp, F.binds (fun _ _ _ _ _ _ us hl => match us, hl with | [_, _, _], _ => rfl), gf⟩
  exact (pss_one (ps_ret (pe_and (pe_cmpR op_isTyB1 (pe_callTy L2.call_type1 (by rfl) m_type (by decide +kernel) (pa_cons (pv 0) pa_nil)) (pe_bltn (by rfl) m_tuple (by decide +kernel) rfl) (nomark _)) (pe_one (pe_chain op_le op_le (pv 1) (pe_callB call_len1 (by rfl) m_len (by decide +kernel) (pa_cons (pv 0) pa_nil)) (pv 2))))))
abbrev s__is_row : Stmt := topS 24
abbrev n__is_row : List Str := ["columns", "value", "v", "column"]
theorem sc__is_row : FnScope n__is_row ["columns", "value"] (defScope s__is_row) := ⟨rfl, rfl, rfl, by decide +kernel, rfl, by decide +kernel, by decide +kernel⟩
theorem ok__is_row {P : Program} {w : World} {K : PySem.W.Frag} {mg : Str → Option Value} {base : Heap} {f : Addr} {fd : FuncData} (F : Fun K "_is_row" "_is_row" s__is_row f fd) (gf : mg "_is_row" = some (.ref f)) (C_is_tuple : Cal P w K mg base "is_tuple" 1 ["value", "fewest", "most"] (sp_is_tuple K))  (m_all : mg "all" = none) (m_int : mg "int" = none) (m_len : mg "len" = none) (m_type : mg "type" = none) (m_zip : mg "zip" = none)  : Cal P w K mg base "_is_row" 2 ["columns", "value"] (sp__is_row K) := by
  refine ⟨f, fd, F.ok sc__is_row len__is_row (fun cdv A outer s H vs Q E hr h => ⟨t__is_row K, PSs.nox ?_, pure__is_row vs H Q E h⟩), F.kp, F.binds (fun _ _ _ _ _ _ us hl => match us, hl with | [_, _], _ => rfl), gf⟩
  exact (pss_cons (ps_if (pt_not (pt_val (pe_cal C_is_tuple (hr.mono (by decide)) rfl (pa_cons (pv 1) (pa_cons (pe_callB call_len1 (by rfl) m_len (by decide +kernel) (pa_cons (pv 0) pa_nil)) (pa_cons (pe_callB call_len1 (by rfl) m_len (by decide +kernel) (pa_cons (pv 0) pa_nil)) pa_nil)))))) (pss_one (ps_ret pe_bl)) pss_nil)
  (pss_one (ps_ret (pe_callB (cr_all rfl) (by rfl) m_all (by decide +kernel) (pa_cons (pe_lc (own := [("v", 2), ("column", 3)]) rfl sc__is_row.nd (pi_zipM (by rfl) m_zip (pa_cons (pv 1) (pa_cons (pv 0) pa_nil))) (blkOk_by (own := [("v", 2), ("column", 3)]) (N := n__is_row) (sc := defScope s__is_row) (by decide +kernel)) (fun _ _ _ _ _ => (pg_tup rfl (pgs_cons (pg_name (i := 2) sc__is_row.nd rfl (by first | exact .inl rfl | exact .inr rfl)) (pgs_cons (pg_name (i := 3) sc__is_row.nd rfl (by first | exact .inl rfl | exact .inr rfl)) pgs_nil)))) (fun _ _ _ _ _ => pts_nil) (fun _ _ _ _ _ => (pe_and (pe_cmpR op_isTyB1 (pe_callTy L2.call_type1 (by rfl) m_type (by decide +kernel) (pa_cons (pv 2) pa_nil)) (pe_bltn (by rfl) m_int (by decide +kernel) rfl) (nomark _)) (pe_one (pe_cmpR (op_inT (units65 hr)) (pv 2) (pv 3) (by rfl)))))) pa_nil)))))
abbrev s__many_tuples : Stmt := topS 25
abbrev n__many_tuples : List Str := ["columns", "many", "column"]
theorem sc__many_tuples : FnScope n__many_tuples ["columns"] (defScope s__many_tuples) := ⟨rfl, rfl, rfl, by decide +kernel, rfl, by decide +kernel, by decide +kernel⟩
theorem ok__many_tuples {P : Program} {w : World} {K : PySem.W.Frag} {mg : Str → Option Value} {base : Heap} {f : Addr} {fd : FuncData} (F : Fun K "_many_tuples" "_many_tuples" s__many_tuples f fd) (gf : mg "_many_tuples" = some (.ref f))   (m_len : mg "len" = none)  : Cal P w K mg base "_many_tuples" 1 ["columns"] (sp__many_tuples K) := by
  refine ⟨f, fd, F.ok sc__many_tuples len__many_tuples (fun cdv A outer s H vs Q E hr h => ⟨t__many_tuples K, PSs.nox ?_, pure__many_tuples vs H Q E h⟩), F.kp, F.binds (fun _ _ _ _ _ _ us hl => match us, hl with | [_], _ => rfl), gf⟩
  exact (pss_cons (ps_set (i := 1) sc__many_tuples.nd rfl (by first | exact .inl rfl | exact .inr rfl) pe_int)
  (pss_cons (ps_for PassesOwn.never rfl (pi_list (pv 0)) (pg_name (i := 2) sc__many_tuples.nd rfl (by first | exact .inl rfl | exact .inr rfl))
  (pss_one (ps_set (i := 1) sc__many_tuples.nd rfl (by first | exact .inl rfl | exact .inr rfl) (pe_op op_mul (pv 1) (pe_callB call_len1 (by rfl) m_len (by decide +kernel) (pa_cons (pv 2) pa_nil))))))
  (pss_one (ps_ret (pv 1)))))
abbrev s_is_unknown : Stmt := topS 3
abbrev n_is_unknown : List Str := ["domains", "value"]
theorem sc_is_unknown : FnScope n_is_unknown ["domains", "value"] (defScope s_is_unknown) := ⟨rfl, rfl, rfl, by decide +kernel, rfl, by decide +kernel, by decide +kernel⟩
theorem ok_is_unknown {P : Program} {w : World} {K : PySem.W.Frag} {mg : Str → Option Value} {base : Heap} {f : Addr} {fd : FuncData} (F : Fun K "is_unknown" "is_unknown" s_is_unknown f fd) (gf : mg "is_unknown" = some (.ref f))   (m_str : mg "str" = none) (m_type : mg "type" = none)  : Cal P w K mg base "is_unknown" 1 ["domains", "value"] (sp_is_unknown K) := by
  refine ⟨f, fd, F.ok sc_is_unknown len_is_unknown (fun cdv A outer s H vs Q E hr h => ⟨t_is_unknown K, PSs.nox ?_, pure_is_unknown vs H Q E h⟩), F.kp, F.binds (fun _ _ _ _ _ _ us hl => match us, hl with | [_, _], _ => rfl), gf⟩
  exact (pss_one (ps_ret (pe_and (pe_cmpR op_isTyB1 (pe_callTy L2.call_type1 (by rfl) m_type (by decide +kernel) (pa_cons (pv 1) pa_nil)) (pe_bltn (by rfl) m_str (by decide +kernel) rfl) (nomark _)) (pe_one (pe_cmp (pc_din (hu_of hr) (pv 1) (pv 0)))))))
abbrev s_are_unknowns : Stmt := topS 4
abbrev n_are_unknowns : List Str := ["domains", "value", "most", "x"]
theorem sc_are_unknowns : FnScope n_are_unknowns ["domains", "value", "most"] (defScope s_are_unknowns) := ⟨rfl, rfl, rfl, by decide +kernel, rfl, by decide +kernel, by decide +kernel⟩
theorem ok_are_unknowns {P : Program} {w : World} {K : PySem.W.Frag} {mg : Str → Option Value} {base : Heap} {f : Addr} {fd : FuncData} (F : Fun K "are_unknowns" "are_unknowns" s_are_unknowns f fd) (gf : mg "are_unknowns" = some (.ref f)) (C_is_tuple : Cal P w K mg base "is_tuple" 1 ["value", "fewest", "most"] (sp_is_tuple K)) (C_is_unknown : Cal P w K mg base "is_unknown" 1 ["domains", "value"] (sp_is_unknown K))  (m_all : mg "all" = none) (m_len : mg "len" = none) (m_set : mg "set" = none)  : Cal P w K mg base "are_unknowns" 2 ["domains", "value", "most"] (sp_are_unknowns K) := by
  refine ⟨f, fd, F.ok sc_are_unknowns len_are_unknowns (fun cdv A outer s H vs Q E hr h => ⟨t_are_unknowns K, PSs.nox ?_, pure_are_unknowns vs H Q E h⟩), F.kp, F.binds (fun _ _ _ _ _ _ us hl => match us, hl with | [_, _, _], _ => rfl), gf⟩
  exact (pss_cons (ps_if (PW.pt (pw_or (pt_not (pt_val (pe_cal C_is_tuple (hr.mono (by decide)) rfl (pa_cons (pv 1) (pa_cons pe_int (pa_cons (pv 2) pa_nil)))))) (pw_or1 (pt_not (pt_val (pe_callB (cr_all rfl) (by rfl) m_all (by decide +kernel) (pa_cons (pe_lc (own := [("x", 3)]) rfl sc_are_unknowns.nd (pi_tup (pv 1)) (blkOk_by (own := [("x", 3)]) (N := n_are_unknowns) (sc := defScope s_are_unknowns) (by decide +kernel)) (fun _ _ _ _ _ => (pg_name (i := 3) sc_are_unknowns.nd rfl (by first | exact .inl rfl | exact .inr rfl))) (fun _ _ _ _ _ => pts_nil) (fun _ _ _ _ _ => (pe_cal C_is_unknown (hr.mono (by decide)) rfl (pa_cons (pv 0) (pa_cons (pv 3) pa_nil))))) pa_nil))))))) (pss_one (ps_ret pe_bl)) pss_nil)
  (pss_one (ps_ret (pe_cmpR op_eq (pe_lenSetS rfl (by rfl) m_len (by rfl) m_set (pv 1)) (pe_callB call_len1 (by rfl) m_len (by decide +kernel) (pa_cons (pv 1) pa_nil)) (nomark _)))))
abbrev s_ascends : Stmt := topS 2
abbrev n_ascends : List Str := ["items", "k"]
theorem sc_ascends : FnScope n_ascends ["items"] (defScope s_ascends) := ⟨rfl, rfl, rfl, by decide +kernel, rfl, by decide +kernel, by decide +kernel⟩
theorem ok_ascends {P : Program} {w : World} {K : PySem.W.Frag} {mg : Str → Option Value} {base : Heap} {f : Addr} {fd : FuncData} (F : Fun K "ascends" "ascends" s_ascends f fd) (gf : mg "ascends" = some (.ref f))   (m_all : mg "all" = none) (m_len : mg "len" = none) (m_range : mg "range" = none)  : Cal P w K mg base "ascends" 1 ["items"] (sp_ascends K) := by
  refine ⟨f, fd, F.ok sc_ascends len_ascends (fun cdv A outer s H vs Q E hr h => ⟨t_ascends K, PSs.nox ?_, pure_ascends vs H Q E h⟩), F.kp, F.binds (fun _ _ _ _ _ _ us hl => match us, hl with | [_], _ => rfl), gf⟩
  exact (pss_one (ps_ret (pe_callB (cr_all rfl) (by rfl) m_all (by decide +kernel) (pa_cons (pe_lc (own := [("k", 1)]) rfl sc_ascends.nd (pi_range1 (by rfl) m_range (pa_cons (pe_op op_sub (pe_callB call_len1 (by rfl) m_len (by decide +kernel) (pa_cons (pv 0) pa_nil)) pe_int) pa_nil)) (blkOk_by (own := [("k", 1)]) (N := n_ascends) (sc := defScope s_ascends) (by decide +kernel)) (fun _ _ _ _ _ => (pg_name (i := 1) sc_ascends.nd rfl (by first | exact .inl rfl | exact .inr rfl))) (fun _ _ _ _ _ => pts_nil) (fun _ _ _ _ _ => (pe_cmpR (op_ltT (Nat.lt_of_succ_lt (hu_of hr))) (pe_ix ix_any (pv 0) (pv 1) (fun _ _ => rfl)) (pe_ix ix_any (pv 0) (pe_op op_add (pv 1) pe_int) (fun _ _ => rfl)) (nomark _)))) pa_nil))))
abbrev s__is_item : Stmt := topS 23
abbrev n__is_item : List Str := ["domains", "domain", "value", "xs", "rows", "columns", "x", "row", "fronts"]
theorem sc__is_item : FnScope n__is_item ["domains", "domain", "value"] (defScope s__is_item) := ⟨rfl, rfl, rfl, by decide +kernel, rfl, by decide +kernel, by decide +kernel⟩
theorem ok__is_item {P : Program} {w : World} {K : PySem.W.Frag} {mg : Str → Option Value} {base : Heap} {f : Addr} {fd : FuncData} (F : Fun K "_is_item" "_is_item" s__is_item f fd) (gf : mg "_is_item" = some (.ref f)) (C__is_row : Cal P w K mg base "_is_row" 2 ["columns", "value"] (sp__is_row K)) (C__many_tuples : Cal P w K mg base "_many_tuples" 1 ["columns"] (sp__many_tuples K)) (C_are_unknowns : Cal P w K mg base "are_unknowns" 2 ["domains", "value", "most"] (sp_are_unknowns K)) (C_ascends : Cal P w K mg base "ascends" 1 ["items"] (sp_ascends K)) (C_is_tuple : Cal P w K mg base "is_tuple" 1 ["value", "fewest", "most"] (sp_is_tuple K))  (m_all : mg "all" = none) (m_len : mg "len" = none) {u_MOST_SEEN : Value} (g_MOST_SEEN : mg "MOST_SEEN" = some u_MOST_SEEN) (r_MOST_SEEN : RelV v_MOST_SEEN u_MOST_SEEN) {u_MOST_VIEW_ROWS : Value} (g_MOST_VIEW_ROWS : mg "MOST_VIEW_ROWS" = some u_MOST_VIEW_ROWS) (r_MOST_VIEW_ROWS : RelV v_MOST_VIEW_ROWS u_MOST_VIEW_ROWS) : Cal P w K mg base "_is_item" 3 ["domains", "domain", "value"] (sp__is_item K) := by
  refine ⟨f, fd, F.ok sc__is_item len__is_item (fun cdv A outer s H vs Q E hr h => ⟨t__is_item K, PSs.nox ?_, pure__is_item vs H Q E h⟩), F.kp, F.binds (fun _ _ _ _ _ _ us hl => match us, hl with | [_, _, _], _ => rfl), gf⟩
  exact (pss_cons (ps_if (PW.pt (pw_or (pt_not (pt_val (pe_cal C_is_tuple (hr.mono (by decide)) rfl (pa_cons (pv 2) (pa_cons pe_int (pa_cons pe_int pa_nil)))))) (pw_or1 (pt_not (pt_val (pe_cal C_are_unknowns (hr.mono (by decide)) rfl (pa_cons (pv 0) (pa_cons (pe_ix ix_tup (pv 2) pe_int (fun _ _ => rfl)) (pa_cons (pe_glob rfl g_MOST_SEEN r_MOST_SEEN) pa_nil))))))))) (pss_one (ps_ret pe_bl)) pss_nil)
  (pss_cons (ps_asg (pv 2) (pg_tup rfl (pgs_cons (pg_name (i := 3) sc__is_item.nd rfl (by first | exact .inl rfl | exact .inr rfl)) (pgs_cons (pg_name (i := 4) sc__is_item.nd rfl (by first | exact .inl rfl | exact .inr rfl)) pgs_nil))))
  (pss_cons (ps_set (i := 5) sc__is_item.nd rfl (by first | exact .inl rfl | exact .inr rfl) (pe_op op_cat (pe_lc (own := [("x", 6)]) rfl sc__is_item.nd (pi_tup (pv 3)) (blkOk_by (own := [("x", 6)]) (N := n__is_item) (sc := defScope s__is_item) (by decide +kernel)) (fun _ _ _ _ _ => (pg_name (i := 6) sc__is_item.nd rfl (by first | exact .inl rfl | exact .inr rfl))) (fun _ _ _ _ _ => pts_nil) (fun _ _ _ _ _ => (pe_dget (hu_of hr) (pv 0) (pv 6) (fun _ _ => rfl)))) (pe_lst (pa_cons (pv 1) pa_nil))))
  (pss_cons (ps_if (PW.pt (pw_or (pt_not (pt_val (pe_cal C_is_tuple (hr.mono (by decide)) rfl (pa_cons (pv 4) (pa_cons pe_int (pa_cons (pe_glob rfl g_MOST_VIEW_ROWS r_MOST_VIEW_ROWS) pa_nil)))))) (pw_or1 (pt_not (pt_val (pe_callB (cr_all rfl) (by rfl) m_all (by decide +kernel) (pa_cons (pe_lc (own := [("row", 7)]) rfl sc__is_item.nd (pi_tup (pv 4)) (blkOk_by (own := [("row", 7)]) (N := n__is_item) (sc := defScope s__is_item) (by decide +kernel)) (fun _ _ _ _ _ => (pg_name (i := 7) sc__is_item.nd rfl (by first | exact .inl rfl | exact .inr rfl))) (fun _ _ _ _ _ => pts_nil) (fun _ _ _ _ _ => (pe_cal C__is_row (hr.mono (by decide)) rfl (pa_cons (pv 5) (pa_cons (pv 7) pa_nil))))) pa_nil))))))) (pss_one (ps_ret pe_bl)) pss_nil)
  (pss_cons (ps_setLc (i := 8) (own := [("row", 7)]) rfl sc__is_item.nd rfl rfl (sw_true rfl rfl rfl (by decide +kernel)) (pi_tup (pv 4)) (blkOk_by (own := [("row", 7)]) (N := n__is_item) (sc := defScope s__is_item) (by decide +kernel)) (fun _ _ _ _ _ => (pg_name (i := 7) sc__is_item.nd rfl (by first | exact .inl rfl | exact .inr rfl))) (fun _ _ _ _ _ => pts_nil) (fun _ _ _ _ _ => (pe_slice sl_tupA (pv 7) po_none (po_some (pe_un un_neg pe_int)))))
  (pss_one (ps_ret (pe_and (pe_cal C_ascends (hr.mono (by decide)) rfl (pa_cons (pv 8) pa_nil)) (pe_one (pe_cmpR op_eq (pe_callB call_len1 (by rfl) m_len (by decide +kernel) (pa_cons (pv 8) pa_nil)) (pe_cal C__many_tuples (hr.mono (by decide)) rfl (pa_cons (pe_slice sl_list (pv 5) po_none (po_some (pe_un un_neg pe_int))) pa_nil)) (nomark _)))))))))))
abbrev s_domains_of : Stmt := topS 16
abbrev n_domains_of : List Str := ["model", "name", "domain"]
theorem sc_domains_of : FnScope n_domains_of ["model"] (defScope s_domains_of) := ⟨rfl, rfl, rfl, by decide +kernel, rfl, by decide +kernel, by decide +kernel⟩
theorem ok_domains_of {P : Program} {w : World} {K : PySem.W.Frag} {mg : Str → Option Value} {base : Heap} {f : Addr} {fd : FuncData} (F : Fun K "domains_of" "domains_of" s_domains_of f fd) (gf : mg "domains_of" = some (.ref f))     : Cal P w K mg base "domains_of" 1 ["model"] (sp_domains_of K) := by
  refine ⟨f, fd, F.ok sc_domains_of len_domains_of (fun cdv A outer s H vs Q E hr h => ⟨t_domains_of K, PSs.nox ?_, pure_domains_of vs H Q E h⟩), F.kp, F.binds (fun _ _ _ _ _ _ us hl => match us, hl with | [_], _ => rfl), gf⟩
  exact (pss_one (ps_ret (pe_dc (own := [("name", 1), ("domain", 2)]) rfl sc_domains_of.nd (pi_tup (pe_ix ix_tup (pv 0) pe_int (fun _ _ => rfl))) (blkOk_by (own := [("name", 1), ("domain", 2)]) (N := n_domains_of) (sc := defScope s_domains_of) (by decide +kernel)) (fun _ _ _ _ _ => (pg_tup rfl (pgs_cons (pg_name (i := 1) sc_domains_of.nd rfl (by first | exact .inl rfl | exact .inr rfl)) (pgs_cons (pg_name (i := 2) sc_domains_of.nd rfl (by first | exact .inl rfl | exact .inr rfl)) pgs_nil)))) (fun _ _ _ _ _ => pts_nil) (fun _ _ _ _ _ => (pv 1)) (fun _ _ _ _ _ => (pv 2)))))
abbrev s__law_mixed : Stmt := topS 32
abbrev n__law_mixed : List Str := ["number", "turn", "first", "second"]
theorem sc__law_mixed : FnScope n__law_mixed ["number", "turn"] (defScope s__law_mixed) := ⟨rfl, rfl, rfl, by decide +kernel, rfl, by decide +kernel, by decide +kernel⟩
theorem ok__law_mixed {P : Program} {w : World} {K : PySem.W.Frag} {mg : Str → Option Value} {base : Heap} {f : Addr} {fd : FuncData} (F : Fun K "_law_mixed" "_law_mixed" s__law_mixed f fd) (gf : mg "_law_mixed" = some (.ref f))   (m_int : mg "int" = none)  : Cal P w K mg base "_law_mixed" 1 ["number", "turn"] (sp__law_mixed K) := by
  refine ⟨f, fd, F.ok sc__law_mixed len__law_mixed (fun cdv A outer s H vs Q E hr h => ⟨t__law_mixed , PSs.nox ?_, pure__law_mixed vs H Q E h⟩), F.kp, F.binds (fun _ _ _ _ _ _ us hl => match us, hl with | [_, _], _ => rfl), gf⟩
  exact (pss_cons (ps_set (i := 2) sc__law_mixed.nd rfl (by first | exact .inl rfl | exact .inr rfl) (pe_op op_mod (pe_callTy call_int1 (by rfl) m_int (by decide +kernel) (pa_cons (pe_op op_add (pe_op op_add (pe_op op_mul (pv 0) pe_int) (pe_op op_mul (pv 1) pe_int)) pe_int) pa_nil)) pe_int))
  (pss_cons (ps_set (i := 3) sc__law_mixed.nd rfl (by first | exact .inl rfl | exact .inr rfl) (pe_op op_mod (pe_callTy call_int1 (by rfl) m_int (by decide +kernel) (pa_cons (pe_op op_add (pe_op op_add (pe_op op_mul (pv 2) pe_int) (pe_op op_fdiv (pv 2) pe_int)) (pe_op op_mul (pv 1) pe_int)) pa_nil)) pe_int))
  (pss_one (ps_ret (pe_op op_mod (pe_callTy call_int1 (by rfl) m_int (by decide +kernel) (pa_cons (pe_op op_add (pe_op op_mul (pv 3) (pv 3)) (pe_op op_fdiv (pv 2) pe_int)) pa_nil)) pe_int)))))
abbrev s__law_draw : Stmt := topS 34
abbrev n__law_draw : List Str := ["tape", "many", "cell", "digit"]
theorem sc__law_draw : FnScope n__law_draw ["tape", "many"] (defScope s__law_draw) := ⟨rfl, rfl, rfl, by decide +kernel, rfl, by decide +kernel, by decide +kernel⟩
theorem ok__law_draw {P : Program} {w : World} {K : PySem.W.Frag} {mg : Str → Option Value} {base : Heap} {f : Addr} {fd : FuncData} (F : Fun K "_law_draw" "_law_draw" s__law_draw f fd) (gf : mg "_law_draw" = some (.ref f)) (C__law_mixed : Cal P w K mg base "_law_mixed" 1 ["number", "turn"] (sp__law_mixed K))  (m_int : mg "int" = none) (m_len : mg "len" = none)  : Cal P w K mg base "_law_draw" 2 ["tape", "many"] (sp__law_draw K) := by
  refine ⟨f, fd, F.ok sc__law_draw len__law_draw (fun cdv A outer s H vs Q E hr h => ⟨t__law_draw K, PSs.nox ?_, pure__law_draw vs H Q E h⟩), F.kp, F.binds (fun _ _ _ _ _ _ us hl => match us, hl with | [_, _], _ => rfl), gf⟩
  exact (pss_cons (ps_dput (hu_of hr) (pv 0) pe_str (pe_op op_add (pe_dget (hu_of hr) (pv 0) pe_str (fun _ _ => rfl)) pe_int) rfl)
  (pss_cons (ps_if (PW.pt (pw_and (pt_cmpR op_eq (pe_dget (hu_of hr) (pv 0) pe_str (fun _ _ => rfl)) pe_int (nomark _)) (pw_and1 (pt_cmpR op_lt (pe_dget (hu_of hr) (pv 0) pe_str (fun _ _ => rfl)) (pe_callB call_len1 (by rfl) m_len (by decide +kernel) (pa_cons (pe_dget (hu_of hr) (pv 0) pe_str (fun _ _ => rfl)) pa_nil)) (nomark _))))) (pss_cons (ps_set (i := 2) sc__law_draw.nd rfl (by first | exact .inl rfl | exact .inr rfl) (pe_ix ix_list (pe_dget (hu_of hr) (pv 0) pe_str (fun _ _ => rfl)) (pe_dget (hu_of hr) (pv 0) pe_str (fun _ _ => rfl)) (fun _ _ => rfl)))
  (pss_cons (ps_dput (hu_of hr) (pv 0) pe_str (pe_op op_add (pe_dget (hu_of hr) (pv 0) pe_str (fun _ _ => rfl)) pe_int) rfl)
  (pss_cons (ps_dput (hu_of hr) (pv 0) pe_str (pe_cal C__law_mixed (hr.mono (by decide)) rfl (pa_cons (pe_op op_add (pe_dget (hu_of hr) (pv 0) pe_str (fun _ _ => rfl)) (pv 2)) (pa_cons (pe_dget (hu_of hr) (pv 0) pe_str (fun _ _ => rfl)) pa_nil))) rfl)
  (pss_cons (ps_dput (hu_of hr) (pv 0) pe_str pe_int rfl)
  (pss_one (ps_if (pt_cmpR op_ge (pv 2) (pe_op op_pow pe_int pe_int) (nomark _)) (pss_cons (ps_dput (hu_of hr) (pv 0) pe_str (pv 2) rfl)
  (pss_one (ps_dput (hu_of hr) (pv 0) pe_str pe_int rfl))) pss_nil)))))) pss_nil)
  (pss_cons (ps_if (pt_cmpR op_gt (pe_dget (hu_of hr) (pv 0) pe_str (fun _ _ => rfl)) pe_int (nomark _)) (pss_one (ps_dput (hu_of hr) (pv 0) pe_str (pe_op op_sub (pe_dget (hu_of hr) (pv 0) pe_str (fun _ _ => rfl)) pe_int) rfl)) pss_nil)
  (pss_cons (ps_if (pt_cmpR op_eq (pe_dget (hu_of hr) (pv 0) pe_str (fun _ _ => rfl)) pe_int (nomark _)) (pss_one (ps_ret (pe_op op_mod (pe_callTy call_int1 (by rfl) m_int (by decide +kernel) (pa_cons (pe_cal C__law_mixed (hr.mono (by decide)) rfl (pa_cons (pe_dget (hu_of hr) (pv 0) pe_str (fun _ _ => rfl)) (pa_cons (pe_dget (hu_of hr) (pv 0) pe_str (fun _ _ => rfl)) pa_nil))) pa_nil)) (pv 1)))) pss_nil)
  (pss_cons (ps_set (i := 3) sc__law_draw.nd rfl (by first | exact .inl rfl | exact .inr rfl) (pe_op op_mod (pe_callTy call_int1 (by rfl) m_int (by decide +kernel) (pa_cons (pe_dget (hu_of hr) (pv 0) pe_str (fun _ _ => rfl)) pa_nil)) pe_int))
  (pss_cons (ps_dput (hu_of hr) (pv 0) pe_str (pe_op op_fdiv (pe_dget (hu_of hr) (pv 0) pe_str (fun _ _ => rfl)) pe_int) rfl)
  (pss_cons (ps_if (PW.pt (pw_or (pt_cmpR op_eq (pe_dget (hu_of hr) (pv 0) pe_str (fun _ _ => rfl)) pe_int (nomark _)) (pw_or1 (pt_cmpR op_eq (pe_dget (hu_of hr) (pv 0) pe_str (fun _ _ => rfl)) pe_int (nomark _))))) (pss_cons (ps_dput (hu_of hr) (pv 0) pe_str pe_int rfl)
  (pss_one (ps_dput (hu_of hr) (pv 0) pe_str pe_int rfl))) pss_nil)
  (pss_one (ps_ret (pe_op op_mod (pe_callTy call_int1 (by rfl) m_int (by decide +kernel) (pa_cons (pv 3) pa_nil)) (pv 1)))))))))))
abbrev s__law_all : Stmt := topS 40
abbrev n__law_all : List Str := ["domains", "rows", "domain", "longer", "row", "value"]
theorem sc__law_all : FnScope n__law_all ["domains"] (defScope s__law_all) := ⟨rfl, rfl, rfl, by decide +kernel, rfl, by decide +kernel, by decide +kernel⟩
theorem ok__law_all {P : Program} {w : World} {K : PySem.W.Frag} {mg : Str → Option Value} {base : Heap} {f : Addr} {fd : FuncData} (F : Fun K "_law_all" "_law_all" s__law_all f fd) (gf : mg "_law_all" = some (.ref f))     : Cal P w K mg base "_law_all" 1 ["domains"] (sp__law_all K) := by
  refine ⟨f, fd, F.ok sc__law_all len__law_all (fun cdv A outer s H vs Q E hr h => ⟨t__law_all K, PSs.nox ?_, pure__law_all vs H Q E h⟩), F.kp, F.binds (fun _ _ _ _ _ _ us hl => match us, hl with | [_], _ => rfl), gf⟩
  exact (pss_cons (ps_set (i := 1) sc__law_all.nd rfl (by first | exact .inl rfl | exact .inr rfl) (pe_lst (pa_cons (pe_tup pa_nil) pa_nil)))
  (pss_cons (ps_for PassesOwn.never rfl (pi_list (pv 0)) (pg_name (i := 2) sc__law_all.nd rfl (by first | exact .inl rfl | exact .inr rfl))
  (pss_cons (ps_set (i := 3) sc__law_all.nd rfl (by first | exact .inl rfl | exact .inr rfl) (pe_lst pa_nil))
  (pss_cons (ps_for PassesOwn.never rfl (pi_list (pv 1)) (pg_name (i := 4) sc__law_all.nd rfl (by first | exact .inl rfl | exact .inr rfl))
  (pss_one (ps_set (i := 3) sc__law_all.nd rfl (by first | exact .inl rfl | exact .inr rfl) (pe_op op_cat (pv 3) (pe_lc (own := [("value", 5)]) rfl sc__law_all.nd (pi_tup (pv 2)) (blkOk_by (own := [("value", 5)]) (N := n__law_all) (sc := defScope s__law_all) (by decide +kernel)) (fun _ _ _ _ _ => (pg_name (i := 5) sc__law_all.nd rfl (by first | exact .inl rfl | exact .inr rfl))) (fun _ _ _ _ _ => pts_nil) (fun _ _ _ _ _ => (pe_op op_catA (pv 4) (pe_tup (pa_cons (pv 5) pa_nil)))))))))
  (pss_one (ps_set (i := 1) sc__law_all.nd rfl (by first | exact .inl rfl | exact .inr rfl) (pv 3))))))
  (pss_one (ps_ret (pv 1)))))
abbrev s__law_same : Stmt := topS 35
abbrev n__law_same : List Str := ["actual", "due", "k"]
theorem sc__law_same : FnScope n__law_same ["actual", "due"] (defScope s__law_same) := ⟨rfl, rfl, rfl, by decide +kernel, rfl, by decide +kernel, by decide +kernel⟩
theorem ok__law_same_step (m : Nat) {P : Program} {w : World} {K : PySem.W.Frag} {mg : Str → Option Value} {base : Heap} {f : Addr} {fd : FuncData} (F : Fun K "_law_same" "_law_same" s__law_same f fd) (gf : mg "_law_same" = some (.ref f))  (m_bool : mg "bool" = none) (m_int : mg "int" = none) (m_isinstance : mg "isinstance" = none) (m_len : mg "len" = none) (m_range : mg "range" = none) (m_str : mg "str" = none) (m_tuple : mg "tuple" = none)  (C__law_same : Cal P w K mg base "_law_same" (1 + m) ["actual", "due"] (sp__law_same K m)) : Cal P w K mg base "_law_same" (1 + m + 1) ["actual", "due"] (sp__law_same K (m + 1)) := by
  refine ⟨f, fd, F.ok (k := 1 + m) sc__law_same len__law_same (fun cdv A outer s H vs Q E hr h => ⟨t__law_same K m, PSs.nox ?_, pure__law_same vs H Q E h⟩), F.kp, F.binds (fun _ _ _ _ _ _ us hl => match us, hl with | [_, _], _ => rfl), gf⟩
  exact (pss_cons (ps_if (pt_val (pe_callB call_isi (by rfl) m_isinstance (by decide +kernel) (pa_cons (pv 1) (pa_cons (pe_bltn (by rfl) m_tuple (by decide +kernel) rfl) pa_nil)))) (pss_cons (ps_if (PW.pt (pw_or (pt_not (pt_val (pe_callB call_isi (by rfl) m_isinstance (by decide +kernel) (pa_cons (pv 0) (pa_cons (pe_bltn (by rfl) m_tuple (by decide +kernel) rfl) pa_nil))))) (pw_or1 (pt_cmpR op_ne (pe_callB call_len1 (by rfl) m_len (by decide +kernel) (pa_cons (pv 0) pa_nil)) (pe_callB call_len1 (by rfl) m_len (by decide +kernel) (pa_cons (pv 1) pa_nil)) (nomark _))))) (pss_one (ps_ret pe_bl)) pss_nil)
  (pss_cons (ps_for PassesOwn.never rfl (pi_range1 (by rfl) m_range (pa_cons (pe_callB call_len1 (by rfl) m_len (by decide +kernel) (pa_cons (pv 1) pa_nil)) pa_nil)) (pg_name (i := 2) sc__law_same.nd rfl (by first | exact .inl rfl | exact .inr rfl))
  (pss_one (ps_if (pt_not (pt_val (pe_cal C__law_same (hr.mono (by omega)) rfl (pa_cons (pe_ix ix_any (pv 0) (pv 2) (fun _ _ => rfl)) (pa_cons (pe_ix ix_any (pv 1) (pv 2) (fun _ _ => rfl)) pa_nil))))) (pss_one (ps_ret pe_bl)) pss_nil)))
  (pss_one (ps_ret pe_bl)))) pss_nil)
  (pss_cons (ps_if (pt_cmpR op_isN1 (pv 1) pe_non (nomark _)) (pss_one (ps_ret (pe_cmpR op_isN1 (pv 0) pe_non (nomark _)))) pss_nil)
  (pss_cons (ps_if (pt_val (pe_callB call_isi (by rfl) m_isinstance (by decide +kernel) (pa_cons (pv 1) (pa_cons (pe_bltn (by rfl) m_str (by decide +kernel) rfl) pa_nil)))) (pss_one (ps_ret (pe_and (pe_callB call_isi (by rfl) m_isinstance (by decide +kernel) (pa_cons (pv 0) (pa_cons (pe_bltn (by rfl) m_str (by decide +kernel) rfl) pa_nil))) (pe_one (pe_cmpR op_eq (pv 0) (pv 1) (nomark _)))))) pss_nil)
  (pss_cons (ps_if (pt_val (pe_callB call_isi (by rfl) m_isinstance (by decide +kernel) (pa_cons (pv 1) (pa_cons (pe_bltn (by rfl) m_bool (by decide +kernel) rfl) pa_nil)))) (pss_one (ps_ret (pe_and (pe_callB call_isi (by rfl) m_isinstance (by decide +kernel) (pa_cons (pv 0) (pa_cons (pe_bltn (by rfl) m_bool (by decide +kernel) rfl) pa_nil))) (pe_one (pe_cmpR op_eq (pv 0) (pv 1) (nomark _)))))) pss_nil)
  (pss_one (ps_ret (pe_and (pe_callB call_isi (by rfl) m_isinstance (by decide +kernel) (pa_cons (pv 0) (pa_cons (pe_bltn (by rfl) m_int (by decide +kernel) rfl) pa_nil))) (pe_and (pe_not (pe_callB call_isi (by rfl) m_isinstance (by decide +kernel) (pa_cons (pv 0) (pa_cons (pe_bltn (by rfl) m_bool (by decide +kernel) rfl) pa_nil)))) (pe_one (pe_cmpR op_eq (pv 0) (pv 1) (nomark _)))))))))))
theorem ok__law_same_all {P : Program} {w : World} {K : PySem.W.Frag} {mg : Str → Option Value} {base : Heap} {f : Addr} {fd : FuncData} (F : Fun K "_law_same" "_law_same" s__law_same f fd) (gf : mg "_law_same" = some (.ref f))  (m_bool : mg "bool" = none) (m_int : mg "int" = none) (m_isinstance : mg "isinstance" = none) (m_len : mg "len" = none) (m_range : mg "range" = none) (m_str : mg "str" = none) (m_tuple : mg "tuple" = none)  : ∀ m, Cal P w K mg base "_law_same" (1 + m) ["actual", "due"] (sp__law_same K m)
  | 0 => ⟨f, fd, F.ok (k := 0) sc__law_same len__law_same (fun cdv A outer s H vs Q E hr h => (no__law_same h).elim), F.kp, F.binds (fun _ _ _ _ _ _ us hl => match us, hl with | [_, _], _ => rfl), gf⟩
  | m + 1 => ok__law_same_step m F gf m_bool m_int m_isinstance m_len m_range m_str m_tuple (ok__law_same_all F gf m_bool m_int m_isinstance m_len m_range m_str m_tuple m)
theorem ok__law_same {P : Program} {w : World} {K : PySem.W.Frag} {mg : Str → Option Value} {base : Heap} {f : Addr} {fd : FuncData} (F : Fun K "_law_same" "_law_same" s__law_same f fd) (gf : mg "_law_same" = some (.ref f))  (m_bool : mg "bool" = none) (m_int : mg "int" = none) (m_isinstance : mg "isinstance" = none) (m_len : mg "len" = none) (m_range : mg "range" = none) (m_str : mg "str" = none) (m_tuple : mg "tuple" = none)  : Cal P w K mg base "_law_same" 5 ["actual", "due"] (sp__law_same K 4) := ok__law_same_all F gf m_bool m_int m_isinstance m_len m_range m_str m_tuple 4
abbrev s__law_at : Stmt := topS 41
abbrev n__law_at : List Str := ["model", "filling", "k"]
theorem sc__law_at : FnScope n__law_at ["model", "filling"] (defScope s__law_at) := ⟨rfl, rfl, rfl, by decide +kernel, rfl, by decide +kernel, by decide +kernel⟩
theorem ok__law_at {P : Program} {w : World} {K : PySem.W.Frag} {mg : Str → Option Value} {base : Heap} {f : Addr} {fd : FuncData} (F : Fun K "_law_at" "_law_at" s__law_at f fd) (gf : mg "_law_at" = some (.ref f))   (m_dict : mg "dict" = none) (m_len : mg "len" = none) (m_range : mg "range" = none)  : Cal P w K mg base "_law_at" 1 ["model", "filling"] (sp__law_at K) := by
  refine ⟨f, fd, F.ok sc__law_at len__law_at (fun cdv A outer s H vs Q E hr h => ⟨t__law_at K, PSs.nox ?_, pure__law_at vs H Q E h⟩), F.kp, F.binds (fun _ _ _ _ _ _ us hl => match us, hl with | [_, _], _ => rfl), gf⟩
  exact (pss_one (ps_ret (pe_callTy (call_dictP1 rfl) (by rfl) m_dict (by decide +kernel) (pa_cons (pe_lc (own := [("k", 2)]) rfl sc__law_at.nd (pi_range1 (by rfl) m_range (pa_cons (pe_callB call_len1 (by rfl) m_len (by decide +kernel) (pa_cons (pv 1) pa_nil)) pa_nil)) (blkOk_by (own := [("k", 2)]) (N := n__law_at) (sc := defScope s__law_at) (by decide +kernel)) (fun _ _ _ _ _ => (pg_name (i := 2) sc__law_at.nd rfl (by first | exact .inl rfl | exact .inr rfl))) (fun _ _ _ _ _ => pts_nil) (fun _ _ _ _ _ => (pe_tup (pa_cons (pe_ix ix_tup (pe_ix ix_tup (pe_ix ix_tup (pv 0) pe_int (fun _ _ => rfl)) (pv 2) (fun _ _ => rfl)) pe_int (fun _ _ => rfl)) (pa_cons (pe_ix ix_tup (pv 1) (pv 2) (fun _ _ => rfl)) pa_nil))))) pa_nil))))
abbrev s__law_seen : Stmt := topS 43
abbrev n__law_seen : List Str := ["one", "view", "filling", "at", "values", "xs", "rows", "key", "x", "row"]
theorem sc__law_seen : FnScope n__law_seen ["one", "view", "filling"] (defScope s__law_seen) := ⟨rfl, rfl, rfl, by decide +kernel, rfl, by decide +kernel, by decide +kernel⟩
theorem ok__law_seen {P : Program} {w : World} {K : PySem.W.Frag} {mg : Str → Option Value} {base : Heap} {f : Addr} {fd : FuncData} (F : Fun K "_law_seen" "_law_seen" s__law_seen f fd) (gf : mg "_law_seen" = some (.ref f)) (C__law_at : Cal P w K mg base "_law_at" 1 ["model", "filling"] (sp__law_at K))  (m_tuple : mg "tuple" = none)  : Cal P w K mg base "_law_seen" 2 ["one", "view", "filling"] (sp__law_seen K) := by
  refine ⟨f, fd, F.ok sc__law_seen len__law_seen (fun cdv A outer s H vs Q E hr h => ⟨t__law_seen K, PSs.nox ?_, pure__law_seen vs H Q E h⟩), F.kp, F.binds (fun _ _ _ _ _ _ us hl => match us, hl with | [_, _, _], _ => rfl), gf⟩
  exact (pss_cons (ps_set (i := 3) sc__law_seen.nd rfl (by first | exact .inl rfl | exact .inr rfl) (pe_cal C__law_at (hr.mono (by decide)) rfl (pa_cons (pv 0) (pa_cons (pv 2) pa_nil))))
  (pss_cons (ps_set (i := 4) sc__law_seen.nd rfl (by first | exact .inl rfl | exact .inr rfl) (pe_lst pa_nil))
  (pss_cons (ps_for PassesOwn.never rfl (pi_LT (pv 1)) (pg_tup rfl (pgs_cons (pg_name (i := 5) sc__law_seen.nd rfl (by first | exact .inl rfl | exact .inr rfl)) (pgs_cons (pg_name (i := 6) sc__law_seen.nd rfl (by first | exact .inl rfl | exact .inr rfl)) pgs_nil)))
  (pss_cons (ps_set (i := 7) sc__law_seen.nd rfl (by first | exact .inl rfl | exact .inr rfl) (pe_tupleOf (by rfl) m_tuple (pe_lc (own := [("x", 8)]) rfl sc__law_seen.nd (pi_tup (pv 5)) (blkOk_by (own := [("x", 8)]) (N := n__law_seen) (sc := defScope s__law_seen) (by decide +kernel)) (fun _ _ _ _ _ => (pg_name (i := 8) sc__law_seen.nd rfl (by first | exact .inl rfl | exact .inr rfl))) (fun _ _ _ _ _ => pts_nil) (fun _ _ _ _ _ => (pe_dget (hu_of hr) (pv 3) (pv 8) (fun _ _ => rfl))))))
  (pss_one (ps_expr (pe_bm PySem.F.plainAttrs_list PySem.F.slot_list_append PySem.F.type_list_append mt_append (pv 4) (pa_cons (pe_ix ix_list (pe_lc (own := [("row", 9)]) rfl sc__law_seen.nd (pi_tup (pv 6)) (blkOk_by (own := [("row", 9)]) (N := n__law_seen) (sc := defScope s__law_seen) (by decide +kernel)) (fun _ _ _ _ _ => (pg_name (i := 9) sc__law_seen.nd rfl (by first | exact .inl rfl | exact .inr rfl))) (fun _ _ _ _ _ => (pts_one (pt_cmpR (op_eqD (units64 hr)) (pe_slice sl_tupA (pv 9) po_none (po_some (pe_un un_neg pe_int))) (pv 7) (nomark _)))) (fun _ _ _ _ _ => (pe_ix ix_tup (pv 9) (pe_un un_neg pe_int) (fun _ _ => rfl)))) pe_int (fun _ _ => rfl)) pa_nil))))))
  (pss_one (ps_ret (pe_tupleOf (by rfl) m_tuple (pv 4)))))))
abbrev s__value_seen : Stmt := topS 27
abbrev n__value_seen : List Str := ["xs", "rows", "at", "values", "row", "x"]
theorem sc__value_seen : FnScope n__value_seen ["xs", "rows", "at"] (defScope s__value_seen) := ⟨rfl, rfl, rfl, by decide +kernel, rfl, by decide +kernel, by decide +kernel⟩
theorem ok__value_seen {P : Program} {w : World} {K : PySem.W.Frag} {mg : Str → Option Value} {base : Heap} {f : Addr} {fd : FuncData} (F : Fun K "_value_seen" "_value_seen" s__value_seen f fd) (gf : mg "_value_seen" = some (.ref f))   (m_tuple : mg "tuple" = none)  : Cal P w K mg base "_value_seen" 1 ["xs", "rows", "at"] (sp__value_seen K) := by
  refine ⟨f, fd, F.ok sc__value_seen len__value_seen (fun cdv A outer s H vs Q E hr h => ⟨t__value_seen K, PSs.nox ?_, pure__value_seen vs H Q E h⟩), F.kp, F.binds (fun _ _ _ _ _ _ us hl => match us, hl with | [_, _, _], _ => rfl), gf⟩
  exact (pss_cons (ps_setDcT (i := 3) (hu_of hr) (own := [("row", 4)]) rfl sc__value_seen.nd rfl rfl (sw_trueD rfl rfl rfl (by decide +kernel)) (pi_tup (pv 1)) (blkOk_by (own := [("row", 4)]) (N := n__value_seen) (sc := defScope s__value_seen) (by decide +kernel)) (fun _ _ _ _ _ => (pg_name (i := 4) sc__value_seen.nd rfl (by first | exact .inl rfl | exact .inr rfl))) (fun _ _ _ _ _ => pts_nil) (fun _ _ _ _ _ => (pe_slice sl_tupA (pv 4) po_none (po_some (pe_un un_neg pe_int)))) (fun _ _ _ _ _ => (pe_ix ix_tup (pv 4) (pe_un un_neg pe_int) (fun _ _ => rfl))))
  (pss_one (ps_ret (pe_dget (hu_of hr) (pv 3) (pe_tupleOf (by rfl) m_tuple (pe_lc (own := [("x", 5)]) rfl sc__value_seen.nd (pi_tup (pv 0)) (blkOk_by (own := [("x", 5)]) (N := n__value_seen) (sc := defScope s__value_seen) (by decide +kernel)) (fun _ _ _ _ _ => (pg_name (i := 5) sc__value_seen.nd rfl (by first | exact .inl rfl | exact .inr rfl))) (fun _ _ _ _ _ => pts_nil) (fun _ _ _ _ _ => (pe_dget (hu_of hr) (pv 2) (pv 5) (fun _ _ => rfl))))) (fun _ _ => rfl)))))
abbrev s_names_in : Stmt := topS 18
abbrev n_names_in : List Str := ["model", "x", "domain"]
theorem sc_names_in : FnScope n_names_in ["model"] (defScope s_names_in) := ⟨rfl, rfl, rfl, by decide +kernel, rfl, by decide +kernel, by decide +kernel⟩
theorem ok_names_in {P : Program} {w : World} {K : PySem.W.Frag} {mg : Str → Option Value} {base : Heap} {f : Addr} {fd : FuncData} (F : Fun K "names_in" "names_in" s_names_in f fd) (gf : mg "names_in" = some (.ref f))   (m_tuple : mg "tuple" = none)  : Cal P w K mg base "names_in" 1 ["model"] (sp_names_in K) := by
  refine ⟨f, fd, F.ok sc_names_in len_names_in (fun cdv A outer s H vs Q E hr h => ⟨t_names_in K, PSs.nox ?_, pure_names_in vs H Q E h⟩), F.kp, F.binds (fun _ _ _ _ _ _ us hl => match us, hl with | [_], _ => rfl), gf⟩
  exact (pss_one (ps_ret (pe_tupleOf (by rfl) m_tuple (pe_lc (own := [("x", 1), ("domain", 2)]) rfl sc_names_in.nd (pi_tup (pe_ix ix_tup (pv 0) pe_int (fun _ _ => rfl))) (blkOk_by (own := [("x", 1), ("domain", 2)]) (N := n_names_in) (sc := defScope s_names_in) (by decide +kernel)) (fun _ _ _ _ _ => (pg_tup rfl (pgs_cons (pg_name (i := 1) sc_names_in.nd rfl (by first | exact .inl rfl | exact .inr rfl)) (pgs_cons (pg_name (i := 2) sc_names_in.nd rfl (by first | exact .inl rfl | exact .inr rfl)) pgs_nil)))) (fun _ _ _ _ _ => pts_nil) (fun _ _ _ _ _ => (pv 1))))))
abbrev s_filling_seen : Stmt := topS 26
abbrev n_filling_seen : List Str := ["one", "view", "filling", "at", "x", "v", "xs", "rows"]
theorem sc_filling_seen : FnScope n_filling_seen ["one", "view", "filling"] (defScope s_filling_seen) := ⟨rfl, rfl, rfl, by decide +kernel, rfl, by decide +kernel, by decide +kernel⟩
theorem ok_filling_seen {P : Program} {w : World} {K : PySem.W.Frag} {mg : Str → Option Value} {base : Heap} {f : Addr} {fd : FuncData} (F : Fun K "filling_seen" "filling_seen" s_filling_seen f fd) (gf : mg "filling_seen" = some (.ref f)) (C__value_seen : Cal P w K mg base "_value_seen" 1 ["xs", "rows", "at"] (sp__value_seen K)) (C_names_in : Cal P w K mg base "names_in" 1 ["model"] (sp_names_in K))  (m_tuple : mg "tuple" = none) (m_zip : mg "zip" = none)  : Cal P w K mg base "filling_seen" 2 ["one", "view", "filling"] (sp_filling_seen K) := by
  refine ⟨f, fd, F.ok sc_filling_seen len_filling_seen (fun cdv A outer s H vs Q E hr h => ⟨t_filling_seen K, PSs.nox ?_, pure_filling_seen vs H Q E h⟩), F.kp, F.binds (fun _ _ _ _ _ _ us hl => match us, hl with | [_, _, _], _ => rfl), gf⟩
  exact (pss_cons (ps_set (i := 3) sc_filling_seen.nd rfl (by first | exact .inl rfl | exact .inr rfl) (pe_dc (own := [("x", 4), ("v", 5)]) rfl sc_filling_seen.nd (pi_zipA (by rfl) m_zip (pa_cons (pe_cal C_names_in (hr.mono (by decide)) rfl (pa_cons (pv 0) pa_nil)) (pa_cons (pv 2) pa_nil))) (blkOk_by (own := [("x", 4), ("v", 5)]) (N := n_filling_seen) (sc := defScope s_filling_seen) (by decide +kernel)) (fun _ _ _ _ _ => (pg_tup rfl (pgs_cons (pg_name (i := 4) sc_filling_seen.nd rfl (by first | exact .inl rfl | exact .inr rfl)) (pgs_cons (pg_name (i := 5) sc_filling_seen.nd rfl (by first | exact .inl rfl | exact .inr rfl)) pgs_nil)))) (fun _ _ _ _ _ => pts_nil) (fun _ _ _ _ _ => (pv 4)) (fun _ _ _ _ _ => (pv 5))))
  (pss_one (ps_ret (pe_tupleOf (by rfl) m_tuple (pe_lc (own := [("xs", 6), ("rows", 7)]) rfl sc_filling_seen.nd (pi_tup (pv 1)) (blkOk_by (own := [("xs", 6), ("rows", 7)]) (N := n_filling_seen) (sc := defScope s_filling_seen) (by decide +kernel)) (fun _ _ _ _ _ => (pg_tup rfl (pgs_cons (pg_name (i := 6) sc_filling_seen.nd rfl (by first | exact .inl rfl | exact .inr rfl)) (pgs_cons (pg_name (i := 7) sc_filling_seen.nd rfl (by first | exact .inl rfl | exact .inr rfl)) pgs_nil)))) (fun _ _ _ _ _ => pts_nil) (fun _ _ _ _ _ => (pe_cal C__value_seen (hr.mono (by decide)) rfl (pa_cons (pv 6) (pa_cons (pv 7) (pa_cons (pv 3) pa_nil))))))))))
abbrev s_seen : Stmt := topS 30
abbrev n_seen : List Str := ["one", "other", "view", "filling"]
theorem sc_seen : FnScope n_seen ["one", "other", "view", "filling"] (defScope s_seen) := ⟨rfl, rfl, rfl, by decide +kernel, rfl, by decide +kernel, by decide +kernel⟩
theorem ok_seen {P : Program} {w : World} {K : PySem.W.Frag} {mg : Str → Option Value} {base : Heap} {f : Addr} {fd : FuncData} (F : Fun K "seen" "seen" s_seen f fd) (gf : mg "seen" = some (.ref f)) (C_filling_seen : Cal P w K mg base "filling_seen" 2 ["one", "view", "filling"] (sp_filling_seen K))    : Cal P w K mg base "seen" 3 ["one", "other", "view", "filling"] (sp_seen K) := by
  refine ⟨f, fd, F.ok sc_seen len_seen (fun cdv A outer s H vs Q E hr h => ⟨t_seen K, PSs.nox ?_, pure_seen vs H Q E h⟩), F.kp, F.binds (fun _ _ _ _ _ _ us hl => match us, hl with | [_, _, _, _], _ => rfl), gf⟩
  exact (pss_one (ps_ret (pe_cal C_filling_seen (hr.mono (by decide)) rfl (pa_cons (pv 0) (pa_cons (pv 2) (pa_cons (pv 3) pa_nil))))))
theorem okN_seen {P : Program} {w : World} {K : PySem.W.Frag} {mg : Str → Option Value} {base : Heap} {f : Addr} {fd : FuncData} (F : Fun K "seen" "seen" s_seen f fd) (gf : mg "seen" = some (.ref f)) (C_filling_seen : Cal P w K mg base "filling_seen" 2 ["one", "view", "filling"] (sp_filling_seen K))    : FnOk P w K mg base CX0 3 f fd ["one", "other", "view", "filling"] (sp_seen K) := by
  refine F.ok sc_seen len_seen (fun cdv A outer s H vs Q E hr h => ⟨t_seen K, PSs.nox ?_, pure_seen vs H Q E h⟩)
  exact (pss_one (ps_ret (pe_cal C_filling_seen (hr.mono (by decide)) rfl (pa_cons (pv 0) (pa_cons (pv 2) (pa_cons (pv 3) pa_nil))))))
abbrev s__law_large_right : Stmt := topS 48
abbrev n__law_large_right : List Str := ["tape", "sizes", "least", "unknowns", "j", "k", "domain", "value", "one", "other", "view", "rows", "row", "pair", "due", "filling"]
theorem sc__law_large_right : FnScope n__law_large_right ["tape"] (defScope s__law_large_right) := ⟨rfl, rfl, rfl, by decide +kernel, rfl, by decide +kernel, by decide +kernel⟩
theorem ok__law_large_right {P : Program} {w : World} {K : PySem.W.Frag} {mg : Str → Option Value} {base : Heap} {f : Addr} {fd : FuncData} (F : Fun K "_law_large_right" "_law_large_right" s__law_large_right f fd) (gf : mg "_law_large_right" = some (.ref f)) (C__law_all : Cal P w K mg base "_law_all" 1 ["domains"] (sp__law_all K)) (C__law_checked : Cal P w K mg base "_law_checked" 6 ["one", "other", "value", "is_named"] (sp__law_checked K)) (C__law_draw : Cal P w K mg base "_law_draw" 2 ["tape", "many"] (sp__law_draw K)) (C__law_same : Cal P w K mg base "_law_same" 5 ["actual", "due"] (sp__law_same K 4)) (C__law_seen : Cal P w K mg base "_law_seen" 2 ["one", "view", "filling"] (sp__law_seen K)) (C_seen : Cal P w K mg base "seen" 3 ["one", "other", "view", "filling"] (sp_seen K))  (m_int : mg "int" = none) (m_len : mg "len" = none) (m_range : mg "range" = none) (m_str : mg "str" = none) (m_sum : mg "sum" = none) (m_tuple : mg "tuple" = none)  : Cal P w K mg base "_law_large_right" 7 ["tape"] (sp__law_large_right K) := by
  refine ⟨f, fd, F.ok sc__law_large_right len__law_large_right (fun cdv A outer s H vs Q E hr h => ⟨t__law_large_right K, PSs.nox ?_, pure__law_large_right vs H Q E h⟩), F.kp, F.binds (fun _ _ _ _ _ _ us hl => match us, hl with | [_], _ => rfl), gf⟩
  exact (pss_cons (ps_set (i := 1) sc__law_large_right.nd rfl (by first | exact .inl rfl | exact .inr rfl) (pe_ix ix_list (pe_lst (pa_cons (pe_tup (pa_cons pe_int (pa_cons pe_int (pa_cons pe_int pa_nil)))) (pa_cons (pe_tup (pa_cons pe_int (pa_cons pe_int (pa_cons pe_int pa_nil)))) (pa_cons (pe_tup (pa_cons pe_int (pa_cons pe_int (pa_cons pe_int pa_nil)))) (pa_cons (pe_tup (pa_cons pe_int (pa_cons pe_int (pa_cons pe_int pa_nil)))) pa_nil))))) (pe_cal C__law_draw (hr.mono (by decide)) rfl (pa_cons (pv 0) (pa_cons pe_int pa_nil))) (fun _ _ => rfl)))
  (pss_cons (ps_set (i := 2) sc__law_large_right.nd rfl (by first | exact .inl rfl | exact .inr rfl) (pe_op op_sub (pe_cal C__law_draw (hr.mono (by decide)) rfl (pa_cons (pv 0) (pa_cons pe_int pa_nil))) pe_int))
  (pss_cons (ps_setLc (i := 3) (own := [("k", 5)]) rfl sc__law_large_right.nd rfl rfl (sw_true rfl rfl rfl (by decide +kernel)) (pi_range1 (by rfl) m_range (pa_cons pe_int pa_nil)) (blkOk_by (own := [("k", 5)]) (N := n__law_large_right) (sc := defScope s__law_large_right) (by decide +kernel)) (fun _ _ _ _ _ => (pg_name (i := 5) sc__law_large_right.nd rfl (by first | exact .inl rfl | exact .inr rfl))) (fun _ _ _ _ _ => pts_nil) (fun _ _ _ _ _ => (pe_tup (pa_cons (pe_op op_addS pe_str (pe_callTy call_str_int (by rfl) m_str (by decide +kernel) (pa_cons (pv 5) pa_nil))) (pa_cons (pe_tupleOf (by rfl) m_tuple (pe_lc (own := [("j", 4)]) rfl sc__law_large_right.nd (pi_range1 (by rfl) m_range (pa_cons (pe_ix ix_tup (pv 1) (pv 5) (fun _ _ => rfl)) pa_nil)) (blkOk_by (own := [("j", 4)]) (N := n__law_large_right) (sc := ({ kind := .function, names := [(".0", .local), ("k", .local), ("str", .globalImplicit), ("tuple", .globalImplicit), ("range", .globalImplicit), ("least", .cell), ("sizes", .cell)], isGenerator := false, isCoroutine := false } : Scope)) (by decide +kernel)) (fun _ _ _ _ _ => (pg_name (i := 4) sc__law_large_right.nd rfl (by first | exact .inl rfl | exact .inr rfl))) (fun _ _ _ _ _ => pts_nil) (fun _ _ _ _ _ => (pe_op op_add (pv 2) (pv 4))))) pa_nil)))))
  (pss_cons (ps_set (i := 6) sc__law_large_right.nd rfl (by first | exact .inl rfl | exact .inr rfl) (pe_tupleOf (by rfl) m_tuple (pe_lc (own := [("value", 7)]) rfl sc__law_large_right.nd (pi_range2 (by rfl) m_range (pa_cons (pe_un un_neg pe_int) (pa_cons (pe_op op_add pe_int (pe_cal C__law_draw (hr.mono (by decide)) rfl (pa_cons (pv 0) (pa_cons pe_int pa_nil)))) pa_nil))) (blkOk_by (own := [("value", 7)]) (N := n__law_large_right) (sc := defScope s__law_large_right) (by decide +kernel)) (fun _ _ _ _ _ => (pg_name (i := 7) sc__law_large_right.nd rfl (by first | exact .inl rfl | exact .inr rfl))) (fun _ _ _ _ _ => pts_nil) (fun _ _ _ _ _ => (pv 7)))))
  (pss_cons (ps_par (i := 8) (j := 9) (by rfl) sc__law_large_right.nd rfl rfl (by decide) rfl rfl (pa_cons (pe_tup (pa_cons (pe_tupleOf (by rfl) m_tuple (pv 3)) (pa_cons (pe_tup pa_nil) (pa_cons (pe_tup pa_nil) pa_nil)))) (pa_cons (pe_tup (pa_cons (pe_tup (pa_cons (pe_tup (pa_cons pe_str (pa_cons (pe_tup (pa_cons pe_int pa_nil)) pa_nil))) (pa_cons (pe_tup (pa_cons pe_str (pa_cons (pv 6) pa_nil))) pa_nil))) (pa_cons (pe_tup pa_nil) (pa_cons (pe_tup pa_nil) pa_nil)))) pa_nil)) (by rfl))
  (pss_cons (ps_set (i := 10) sc__law_large_right.nd rfl (by first | exact .inl rfl | exact .inr rfl) (pe_lst (pa_cons (pe_tup (pa_cons (pe_tup (pa_cons pe_str pa_nil)) (pa_cons (pe_tupleOf (by rfl) m_tuple (pe_lc (own := [("value", 7)]) rfl sc__law_large_right.nd (pi_tup (pe_ix ix_tup (pe_ix ix_list (pv 3) pe_int (fun _ _ => rfl)) pe_int (fun _ _ => rfl))) (blkOk_by (own := [("value", 7)]) (N := n__law_large_right) (sc := defScope s__law_large_right) (by decide +kernel)) (fun _ _ _ _ _ => (pg_name (i := 7) sc__law_large_right.nd rfl (by first | exact .inl rfl | exact .inr rfl))) (fun _ _ _ _ _ => pts_nil) (fun _ _ _ _ _ => (pe_tup (pa_cons (pv 7) (pa_cons pe_int pa_nil)))))) pa_nil))) pa_nil)))
  (pss_cons (ps_setLc (i := 11) (own := [("row", 12)]) rfl sc__law_large_right.nd rfl rfl (sw_true rfl rfl rfl (by decide +kernel)) (pi_list (pe_cal C__law_all (hr.mono (by decide)) rfl (pa_cons (pe_lc (own := [("pair", 13)]) rfl sc__law_large_right.nd (pi_list (pv 3)) (blkOk_by (own := [("pair", 13)]) (N := n__law_large_right) (sc := defScope s__law_large_right) (by decide +kernel)) (fun _ _ _ _ _ => (pg_name (i := 13) sc__law_large_right.nd rfl (by first | exact .inl rfl | exact .inr rfl))) (fun _ _ _ _ _ => pts_nil) (fun _ _ _ _ _ => (pe_ix ix_tup (pv 13) pe_int (fun _ _ => rfl)))) pa_nil))) (blkOk_by (own := [("row", 12)]) (N := n__law_large_right) (sc := defScope s__law_large_right) (by decide +kernel)) (fun _ _ _ _ _ => (pg_name (i := 12) sc__law_large_right.nd rfl (by first | exact .inl rfl | exact .inr rfl))) (fun _ _ _ _ _ => pts_nil) (fun _ _ _ _ _ => (pe_op op_catA (pv 12) (pe_tup (pa_cons (pe_ix ix_tup (pv 6) (pe_op op_mod (pe_callTy call_int1 (by rfl) m_int (by decide +kernel) (pa_cons (pe_callB (call_sumT rfl) (by rfl) m_sum (by decide +kernel) (pa_cons (pv 12) pa_nil)) pa_nil)) (pe_callB call_len1 (by rfl) m_len (by decide +kernel) (pa_cons (pv 6) pa_nil))) (fun _ _ => rfl)) pa_nil)))))
  (pss_cons (ps_expr (pe_bm PySem.F.plainAttrs_list PySem.F.slot_list_append PySem.F.type_list_append mt_append (pv 10) (pa_cons (pe_tup (pa_cons (pe_tup (pa_cons pe_str (pa_cons pe_str (pa_cons pe_str pa_nil)))) (pa_cons (pe_tupleOf (by rfl) m_tuple (pv 11)) pa_nil))) pa_nil)))
  (pss_cons (ps_set (i := 14) sc__law_large_right.nd rfl (by first | exact .inl rfl | exact .inr rfl) (pe_ix ix_list (pe_lst (pa_cons (pe_tup (pa_cons pe_str (pa_cons pe_non pa_nil))) (pa_cons (pe_tup (pa_cons pe_str (pa_cons pe_int pa_nil))) pa_nil))) (pe_callTy call_int1 (by rfl) m_int (by decide +kernel) (pa_cons (pe_cmpR op_gt (pe_callB call_len1 (by rfl) m_len (by decide +kernel) (pa_cons (pv 11) pa_nil)) pe_int (nomark _)) pa_nil)) (fun _ _ => rfl)))
  (pss_cons (ps_if (pt_not (pt_val (pe_cal C__law_same (hr.mono (by decide)) rfl (pa_cons (pe_cal C__law_checked (hr.mono (by decide)) rfl (pa_cons (pv 8) (pa_cons (pv 9) (pa_cons (pe_tupleOf (by rfl) m_tuple (pv 10)) (pa_cons pe_bl pa_nil))))) (pa_cons (pv 14) pa_nil))))) (pss_one (ps_ret pe_bl)) pss_nil)
  (pss_cons (ps_set (i := 15) sc__law_large_right.nd rfl (by first | exact .inl rfl | exact .inr rfl) (pe_tupleOf (by rfl) m_tuple (pe_lc (own := [("pair", 13)]) rfl sc__law_large_right.nd (pi_list (pv 3)) (blkOk_by (own := [("pair", 13)]) (N := n__law_large_right) (sc := defScope s__law_large_right) (by decide +kernel)) (fun _ _ _ _ _ => (pg_name (i := 13) sc__law_large_right.nd rfl (by first | exact .inl rfl | exact .inr rfl))) (fun _ _ _ _ _ => pts_nil) (fun _ _ _ _ _ => (pe_ix ix_tup (pe_ix ix_tup (pv 13) pe_int (fun _ _ => rfl)) (pe_cal C__law_draw (hr.mono (by decide)) rfl (pa_cons (pv 0) (pa_cons (pe_callB call_len1 (by rfl) m_len (by decide +kernel) (pa_cons (pe_ix ix_tup (pv 13) pe_int (fun _ _ => rfl)) pa_nil)) pa_nil))) (fun _ _ => rfl))))))
  (pss_one (ps_ret (pe_or (pe_cmpR op_gt (pe_callB call_len1 (by rfl) m_len (by decide +kernel) (pa_cons (pv 11) pa_nil)) pe_int (nomark _)) (pe_one (pe_cal C__law_same (hr.mono (by decide)) rfl (pa_cons (pe_cal C_seen (hr.mono (by decide)) rfl (pa_cons (pv 8) (pa_cons (pv 9) (pa_cons (pe_tupleOf (by rfl) m_tuple (pv 10)) (pa_cons (pv 15) pa_nil))))) (pa_cons (pe_cal C__law_seen (hr.mono (by decide)) rfl (pa_cons (pv 8) (pa_cons (pv 10) (pa_cons (pv 15) pa_nil)))) pa_nil))))))))))))))))))
abbrev s__law_spoilt_names : Stmt := topS 45
abbrev n__law_spoilt_names : List Str := ["tape", "one", "item", "xs", "rows", "names", "pair", "strange", "name", "found"]
theorem sc__law_spoilt_names : FnScope n__law_spoilt_names ["tape", "one", "item"] (defScope s__law_spoilt_names) := ⟨rfl, rfl, rfl, by decide +kernel, rfl, by decide +kernel, by decide +kernel⟩
theorem ok__law_spoilt_names {P : Program} {w : World} {K : PySem.W.Frag} {mg : Str → Option Value} {base : Heap} {f : Addr} {fd : FuncData} (F : Fun K "_law_spoilt_names" "_law_spoilt_names" s__law_spoilt_names f fd) (gf : mg "_law_spoilt_names" = some (.ref f)) (C__law_draw : Cal P w K mg base "_law_draw" 2 ["tape", "many"] (sp__law_draw K))  (m_len : mg "len" = none) (m_tuple : mg "tuple" = none)  : Cal P w K mg base "_law_spoilt_names" 3 ["tape", "one", "item"] (sp__law_spoilt_names K) := by
  refine ⟨f, fd, F.ok sc__law_spoilt_names len__law_spoilt_names (fun cdv A outer s H vs Q E hr h => ⟨t__law_spoilt_names K, PSs.nox ?_, pure__law_spoilt_names vs H Q E h⟩), F.kp, F.binds (fun _ _ _ _ _ _ us hl => match us, hl with | [_, _, _], _ => rfl), gf⟩
  exact (pss_cons (ps_asg (pv 2) (pg_tup rfl (pgs_cons (pg_name (i := 3) sc__law_spoilt_names.nd rfl (by first | exact .inl rfl | exact .inr rfl)) (pgs_cons (pg_name (i := 4) sc__law_spoilt_names.nd rfl (by first | exact .inl rfl | exact .inr rfl)) pgs_nil))))
  (pss_cons (ps_set (i := 5) sc__law_spoilt_names.nd rfl (by first | exact .inl rfl | exact .inr rfl) (pe_lc (own := [("pair", 6)]) rfl sc__law_spoilt_names.nd (pi_tup (pe_ix ix_tup (pv 1) pe_int (fun _ _ => rfl))) (blkOk_by (own := [("pair", 6)]) (N := n__law_spoilt_names) (sc := defScope s__law_spoilt_names) (by decide +kernel)) (fun _ _ _ _ _ => (pg_name (i := 6) sc__law_spoilt_names.nd rfl (by first | exact .inl rfl | exact .inr rfl))) (fun _ _ _ _ _ => pts_nil) (fun _ _ _ _ _ => (pe_ix ix_tup (pv 6) pe_int (fun _ _ => rfl)))))
  (pss_cons (ps_setLc (i := 7) (own := [("name", 8)]) rfl sc__law_spoilt_names.nd rfl rfl (sw_true rfl rfl rfl (by decide +kernel)) (pi_list (pe_lst (pa_cons pe_str (pa_cons pe_str (pa_cons pe_str (pa_cons pe_str pa_nil)))))) (blkOk_by (own := [("name", 8)]) (N := n__law_spoilt_names) (sc := defScope s__law_spoilt_names) (by decide +kernel)) (fun _ _ _ _ _ => (pg_name (i := 8) sc__law_spoilt_names.nd rfl (by first | exact .inl rfl | exact .inr rfl))) (fun _ _ _ _ _ => (pts_one (pt_cmpR op_notIn_seq (pv 8) (pv 5) (by rfl)))) (fun _ _ _ _ _ => (pv 8)))
  (pss_cons (ps_set (i := 9) sc__law_spoilt_names.nd rfl (by first | exact .inl rfl | exact .inr rfl) (pe_lst (pa_cons (pe_tup pa_nil) (pa_cons (pe_op op_catA (pv 3) (pe_tup (pa_cons (pe_ix ix_list (pv 7) pe_int (fun _ _ => rfl)) pa_nil))) (pa_cons (pe_op op_catA (pe_tup (pa_cons (pe_ix ix_list (pv 7) pe_int (fun _ _ => rfl)) pa_nil)) (pe_slice sl_tupA (pv 3) (po_some pe_int) po_none)) (pa_cons (pe_op op_catA (pe_slice sl_tupA (pv 3) po_none (po_some (pe_un un_neg pe_int))) (pe_tup (pa_cons pe_int pa_nil))) (pa_cons (pe_op op_catA (pe_slice sl_tupA (pv 3) po_none (po_some (pe_un un_neg pe_int))) (pe_tup (pa_cons pe_non pa_nil))) (pa_cons (pe_op op_catA (pe_slice sl_tupA (pv 3) po_none (po_some (pe_un un_neg pe_int))) (pe_tup (pa_cons (pv 3) pa_nil))) pa_nil))))))))
  (pss_cons (ps_set (i := 9) sc__law_spoilt_names.nd rfl (by first | exact .inl rfl | exact .inr rfl) (pe_op op_cat (pv 9) (pe_lst (pa_cons (pe_op op_catA (pv 3) (pe_slice sl_tupA (pv 3) po_none (po_some pe_int))) (pa_cons (pe_ix ix_tup (pv 3) pe_int (fun _ _ => rfl)) (pa_cons pe_non (pa_cons (pe_op op_catA (pv 3) (pe_tup (pa_cons pe_bl pa_nil))) (pa_cons pe_int pa_nil))))))))
  (pss_cons (ps_if (pt_cmpR op_gt (pe_callB call_len1 (by rfl) m_len (by decide +kernel) (pa_cons (pv 5) pa_nil)) pe_int (nomark _)) (pss_one (ps_expr (pe_bm PySem.F.plainAttrs_list PySem.F.slot_list_append PySem.F.type_list_append mt_append (pv 9) (pa_cons (pe_tupleOf (by rfl) m_tuple (pe_slice sl_list (pv 5) po_none (po_some pe_int))) pa_nil)))) pss_nil)
  (pss_one (ps_ret (pe_tup (pa_cons (pe_ix ix_list (pv 9) (pe_cal C__law_draw (hr.mono (by decide)) rfl (pa_cons (pv 0) (pa_cons (pe_callB call_len1 (by rfl) m_len (by decide +kernel) (pa_cons (pv 9) pa_nil)) pa_nil))) (fun _ _ => rfl)) (pa_cons (pv 4) pa_nil)))))))))))
abbrev s__law_spoilt_rows : Stmt := topS 46
abbrev n__law_spoilt_rows : List Str := ["tape", "other", "item", "domain", "xs", "rows", "at", "row", "strange", "value", "found", "k"]
theorem sc__law_spoilt_rows : FnScope n__law_spoilt_rows ["tape", "other", "item", "domain"] (defScope s__law_spoilt_rows) := ⟨rfl, rfl, rfl, by decide +kernel, rfl, by decide +kernel, by decide +kernel⟩
theorem ok__law_spoilt_rows {P : Program} {w : World} {K : PySem.W.Frag} {mg : Str → Option Value} {base : Heap} {f : Addr} {fd : FuncData} (F : Fun K "_law_spoilt_rows" "_law_spoilt_rows" s__law_spoilt_rows f fd) (gf : mg "_law_spoilt_rows" = some (.ref f)) (C__law_draw : Cal P w K mg base "_law_draw" 2 ["tape", "many"] (sp__law_draw K))  (m_len : mg "len" = none) (m_range : mg "range" = none)  : Cal P w K mg base "_law_spoilt_rows" 3 ["tape", "other", "item", "domain"] (sp__law_spoilt_rows K) := by
  refine ⟨f, fd, F.ok sc__law_spoilt_rows len__law_spoilt_rows (fun cdv A outer s H vs Q E hr h => ⟨t__law_spoilt_rows K, PSs.nox ?_, pure__law_spoilt_rows vs H Q E h⟩), F.kp, F.binds (fun _ _ _ _ _ _ us hl => match us, hl with | [_, _, _, _], _ => rfl), gf⟩
  exact (pss_cons (ps_asg (pv 2) (pg_tup rfl (pgs_cons (pg_name (i := 4) sc__law_spoilt_rows.nd rfl (by first | exact .inl rfl | exact .inr rfl)) (pgs_cons (pg_name (i := 5) sc__law_spoilt_rows.nd rfl (by first | exact .inl rfl | exact .inr rfl)) pgs_nil))))
  (pss_cons (ps_set (i := 6) sc__law_spoilt_rows.nd rfl (by first | exact .inl rfl | exact .inr rfl) (pe_cal C__law_draw (hr.mono (by decide)) rfl (pa_cons (pv 0) (pa_cons (pe_callB call_len1 (by rfl) m_len (by decide +kernel) (pa_cons (pv 5) pa_nil)) pa_nil))))
  (pss_cons (ps_set (i := 7) sc__law_spoilt_rows.nd rfl (by first | exact .inl rfl | exact .inr rfl) (pe_ix ix_tup (pv 5) (pv 6) (fun _ _ => rfl)))
  (pss_cons (ps_set (i := 8) sc__law_spoilt_rows.nd rfl (by first | exact .inl rfl | exact .inr rfl) (pe_ix ix_list (pe_lc (own := [("value", 9)]) rfl sc__law_spoilt_rows.nd (pi_list (pe_lst (pa_cons (pe_un un_neg pe_int) (pa_cons pe_int (pa_cons pe_int pa_nil))))) (blkOk_by (own := [("value", 9)]) (N := n__law_spoilt_rows) (sc := defScope s__law_spoilt_rows) (by decide +kernel)) (fun _ _ _ _ _ => (pg_name (i := 9) sc__law_spoilt_rows.nd rfl (by first | exact .inl rfl | exact .inr rfl))) (fun _ _ _ _ _ => (pts_one (pt_cmpR op_notIn_seq (pv 9) (pv 3) (by rfl)))) (fun _ _ _ _ _ => (pv 9))) pe_int (fun _ _ => rfl)))
  (pss_cons (ps_set (i := 10) sc__law_spoilt_rows.nd rfl (by first | exact .inl rfl | exact .inr rfl) (pe_lst (pa_cons (pe_op op_catA (pe_slice sl_tupA (pv 5) po_none (po_some (pv 6))) (pe_slice sl_tupA (pv 5) (po_some (pe_op op_add (pv 6) pe_int)) po_none)) (pa_cons (pe_op op_catA (pe_slice sl_tupA (pv 5) po_none (po_some (pe_op op_add (pv 6) pe_int))) (pe_slice sl_tupA (pv 5) (po_some (pv 6)) po_none)) (pa_cons (pe_op op_catA (pv 5) (pe_tup (pa_cons (pe_op op_catA (pe_slice sl_tupA (pv 7) po_none (po_some (pe_un un_neg pe_int))) (pe_tup (pa_cons (pv 8) pa_nil))) pa_nil))) (pa_cons pe_str (pa_cons pe_non (pa_cons pe_int pa_nil))))))))
  (pss_cons (ps_expr (pe_bm PySem.F.plainAttrs_list PySem.F.slot_list_append PySem.F.type_list_append mt_append (pv 10) (pa_cons (pe_ix ix_tup (pv 5) pe_int (fun _ _ => rfl)) pa_nil)))
  (pss_cons (ps_expr (pe_bm PySem.F.plainAttrs_list PySem.F.slot_list_append PySem.F.type_list_append mt_append (pv 10) (pa_cons (pe_op op_catA (pe_op op_catA (pe_slice sl_tupA (pv 5) po_none (po_some (pv 6))) (pe_tup (pa_cons (pe_op op_catA (pe_slice sl_tupA (pv 7) po_none (po_some (pe_un un_neg pe_int))) (pe_tup (pa_cons (pv 8) pa_nil))) pa_nil))) (pe_slice sl_tupA (pv 5) (po_some (pe_op op_add (pv 6) pe_int)) po_none)) pa_nil)))
  (pss_cons (ps_expr (pe_bm PySem.F.plainAttrs_list PySem.F.slot_list_append PySem.F.type_list_append mt_append (pv 10) (pa_cons (pe_op op_catA (pe_op op_catA (pe_slice sl_tupA (pv 5) po_none (po_some (pv 6))) (pe_tup (pa_cons (pe_op op_catA (pe_tup (pa_cons pe_int pa_nil)) (pe_slice sl_tupA (pv 7) (po_some pe_int) po_none)) pa_nil))) (pe_slice sl_tupA (pv 5) (po_some (pe_op op_add (pv 6) pe_int)) po_none)) pa_nil)))
  (pss_cons (ps_expr (pe_bm PySem.F.plainAttrs_list PySem.F.slot_list_append PySem.F.type_list_append mt_append (pv 10) (pa_cons (pe_op op_catA (pe_op op_catA (pe_slice sl_tupA (pv 5) po_none (po_some (pv 6))) (pe_tup (pa_cons (pe_slice sl_tupA (pv 7) po_none (po_some (pe_un un_neg pe_int))) pa_nil))) (pe_slice sl_tupA (pv 5) (po_some (pe_op op_add (pv 6) pe_int)) po_none)) pa_nil)))
  (pss_cons (ps_expr (pe_bm PySem.F.plainAttrs_list PySem.F.slot_list_append PySem.F.type_list_append mt_append (pv 10) (pa_cons (pe_op op_catA (pe_op op_catA (pe_slice sl_tupA (pv 5) po_none (po_some (pv 6))) (pe_tup (pa_cons (pe_op op_catA (pv 7) (pe_slice sl_tupA (pv 7) (po_some (pe_un un_neg pe_int)) po_none)) pa_nil))) (pe_slice sl_tupA (pv 5) (po_some (pe_op op_add (pv 6) pe_int)) po_none)) pa_nil)))
  (pss_cons (ps_expr (pe_bm PySem.F.plainAttrs_list PySem.F.slot_list_append PySem.F.type_list_append mt_append (pv 10) (pa_cons (pe_op op_catA (pe_op op_catA (pe_slice sl_tupA (pv 5) po_none (po_some (pv 6))) (pe_tup (pa_cons (pe_op op_catA (pe_slice sl_tupA (pv 7) po_none (po_some (pe_un un_neg pe_int))) (pe_tup (pa_cons pe_non pa_nil))) pa_nil))) (pe_slice sl_tupA (pv 5) (po_some (pe_op op_add (pv 6) pe_int)) po_none)) pa_nil)))
  (pss_cons (ps_expr (pe_bm PySem.F.plainAttrs_list PySem.F.slot_list_append PySem.F.type_list_append mt_append (pv 10) (pa_cons (pe_op op_catA (pe_op op_catA (pe_slice sl_tupA (pv 5) po_none (po_some (pv 6))) (pe_tup (pa_cons pe_non pa_nil))) (pe_slice sl_tupA (pv 5) (po_some (pe_op op_add (pv 6) pe_int)) po_none)) pa_nil)))
  (pss_cons (ps_if (pt_cmpR op_gt (pe_callB call_len1 (by rfl) m_len (by decide +kernel) (pa_cons (pv 5) pa_nil)) pe_int (nomark _)) (pss_cons (ps_expr (pe_bm PySem.F.plainAttrs_list PySem.F.slot_list_append PySem.F.type_list_append mt_append (pv 10) (pa_cons (pe_revT (pv 5)) pa_nil)))
  (pss_one (ps_expr (pe_bm PySem.F.plainAttrs_list PySem.F.slot_list_append PySem.F.type_list_append mt_append (pv 10) (pa_cons (pe_op op_catA (pe_op op_catA (pe_slice sl_tupA (pv 5) po_none (po_some pe_int)) (pe_slice sl_tupA (pv 5) po_none (po_some pe_int))) (pe_slice sl_tupA (pv 5) (po_some pe_int) po_none)) pa_nil))))) pss_nil)
  (pss_cons (ps_if (pt_cmpR op_gt (pe_callB call_len1 (by rfl) m_len (by decide +kernel) (pa_cons (pv 3) pa_nil)) pe_int (nomark _)) (pss_one (ps_expr (pe_bm PySem.F.plainAttrs_list PySem.F.slot_list_append PySem.F.type_list_append mt_append (pv 10) (pa_cons (pe_op op_catA (pe_op op_catA (pe_slice sl_tupA (pv 5) po_none (po_some (pv 6))) (pe_tup (pa_cons (pe_op op_catA (pe_slice sl_tupA (pv 7) po_none (po_some (pe_un un_neg pe_int))) (pe_slice sl_tupA (pv 3) po_none (po_some pe_int))) (pa_cons (pe_op op_catA (pe_slice sl_tupA (pv 7) po_none (po_some (pe_un un_neg pe_int))) (pe_slice sl_tupA (pv 3) (po_some pe_int) (po_some pe_int))) pa_nil)))) (pe_slice sl_tupA (pv 5) (po_some (pe_op op_add (pv 6) pe_int)) po_none)) pa_nil)))) pss_nil)
  (pss_cons (ps_for PassesOwn.never rfl (pi_range1 (by rfl) m_range (pa_cons (pe_callB call_len1 (by rfl) m_len (by decide +kernel) (pa_cons (pv 7) pa_nil)) pa_nil)) (pg_name (i := 11) sc__law_spoilt_rows.nd rfl (by first | exact .inl rfl | exact .inr rfl))
  (pss_one (ps_if (pt_cmpR op_in_seq (pe_ix ix_tup (pv 7) (pv 11) (fun _ _ => rfl)) (pe_lst (pa_cons pe_int (pa_cons pe_int pa_nil))) (by rfl)) (pss_one (ps_expr (pe_bm PySem.F.plainAttrs_list PySem.F.slot_list_append PySem.F.type_list_append mt_append (pv 10) (pa_cons (pe_op op_catA (pe_op op_catA (pe_slice sl_tupA (pv 5) po_none (po_some (pv 6))) (pe_tup (pa_cons (pe_op op_catA (pe_op op_catA (pe_slice sl_tupA (pv 7) po_none (po_some (pv 11))) (pe_tup (pa_cons (pe_cmpR op_eq (pe_ix ix_tup (pv 7) (pv 11) (fun _ _ => rfl)) pe_int (nomark _)) pa_nil))) (pe_slice sl_tupA (pv 7) (po_some (pe_op op_add (pv 11) pe_int)) po_none)) pa_nil))) (pe_slice sl_tupA (pv 5) (po_some (pe_op op_add (pv 6) pe_int)) po_none)) pa_nil)))) pss_nil)))
  (pss_one (ps_ret (pe_tup (pa_cons (pv 4) (pa_cons (pe_ix ix_list (pv 10) (pe_cal C__law_draw (hr.mono (by decide)) rfl (pa_cons (pv 0) (pa_cons (pe_callB call_len1 (by rfl) m_len (by decide +kernel) (pa_cons (pv 10) pa_nil)) pa_nil))) (fun _ _ => rfl)) pa_nil))))))))))))))))))))
abbrev s__law_spoilt : Stmt := topS 47
abbrev n__law_spoilt : List Str := ["tape", "one", "other", "view", "number", "item", "way", "new"]
theorem sc__law_spoilt : FnScope n__law_spoilt ["tape", "one", "other", "view", "number"] (defScope s__law_spoilt) := ⟨rfl, rfl, rfl, by decide +kernel, rfl, by decide +kernel, by decide +kernel⟩
theorem ok__law_spoilt {P : Program} {w : World} {K : PySem.W.Frag} {mg : Str → Option Value} {base : Heap} {f : Addr} {fd : FuncData} (F : Fun K "_law_spoilt" "_law_spoilt" s__law_spoilt f fd) (gf : mg "_law_spoilt" = some (.ref f)) (C__law_draw : Cal P w K mg base "_law_draw" 2 ["tape", "many"] (sp__law_draw K)) (C__law_spoilt_names : Cal P w K mg base "_law_spoilt_names" 3 ["tape", "one", "item"] (sp__law_spoilt_names K)) (C__law_spoilt_rows : Cal P w K mg base "_law_spoilt_rows" 3 ["tape", "other", "item", "domain"] (sp__law_spoilt_rows K))    : Cal P w K mg base "_law_spoilt" 4 ["tape", "one", "other", "view", "number"] (sp__law_spoilt K) := by
  refine ⟨f, fd, F.ok sc__law_spoilt len__law_spoilt (fun cdv A outer s H vs Q E hr h => ⟨t__law_spoilt K, PSs.nox ?_, pure__law_spoilt vs H Q E h⟩), F.kp, F.binds (fun _ _ _ _ _ _ us hl => match us, hl with | [_, _, _, _, _], _ => rfl), gf⟩
  exact (pss_cons (ps_set (i := 5) sc__law_spoilt.nd rfl (by first | exact .inl rfl | exact .inr rfl) (pe_ix ix_tup (pv 3) (pv 4) (fun _ _ => rfl)))
  (pss_cons (ps_set (i := 6) sc__law_spoilt.nd rfl (by first | exact .inl rfl | exact .inr rfl) (pe_cal C__law_draw (hr.mono (by decide)) rfl (pa_cons (pv 0) (pa_cons pe_int pa_nil))))
  (pss_cons (ps_if (pt_cmpR op_eq (pv 6) pe_int (nomark _)) (pss_one (ps_set (i := 7) sc__law_spoilt.nd rfl (by first | exact .inl rfl | exact .inr rfl) (pe_ix ix_list (pe_lst (pa_cons pe_non (pa_cons (pe_tup pa_nil) (pa_cons pe_int (pa_cons (pe_slice sl_tupA (pv 5) po_none (po_some pe_int)) (pa_cons (pe_op op_catA (pv 5) (pe_tup (pa_cons (pe_tup pa_nil) pa_nil))) (pa_cons pe_str (pa_cons pe_bl (pa_cons (pe_ix ix_tup (pv 5) pe_int (fun _ _ => rfl)) (pa_cons (pe_tup (pa_cons (pv 5) pa_nil)) pa_nil)))))))))) (pe_cal C__law_draw (hr.mono (by decide)) rfl (pa_cons (pv 0) (pa_cons pe_int pa_nil))) (fun _ _ => rfl)))) (pss_one (ps_if (pt_cmpR op_lt (pv 6) pe_int (nomark _)) (pss_one (ps_set (i := 7) sc__law_spoilt.nd rfl (by first | exact .inl rfl | exact .inr rfl) (pe_cal C__law_spoilt_names (hr.mono (by decide)) rfl (pa_cons (pv 0) (pa_cons (pv 1) (pa_cons (pv 5) pa_nil)))))) (pss_one (ps_set (i := 7) sc__law_spoilt.nd rfl (by first | exact .inl rfl | exact .inr rfl) (pe_cal C__law_spoilt_rows (hr.mono (by decide)) rfl (pa_cons (pv 0) (pa_cons (pv 2) (pa_cons (pv 5) (pa_cons (pe_ix ix_tup (pe_ix ix_tup (pe_ix ix_tup (pv 2) pe_int (fun _ _ => rfl)) (pv 4) (fun _ _ => rfl)) pe_int (fun _ _ => rfl)) pa_nil))))))))))
  (pss_one (ps_ret (pe_op op_catA (pe_op op_catA (pe_slice sl_tupA (pv 3) po_none (po_some (pv 4))) (pe_tup (pa_cons (pv 7) pa_nil))) (pe_slice sl_tupA (pv 3) (po_some (pe_op op_add (pv 4) pe_int)) po_none)))))))
abbrev s__law_tape : Stmt := topS 33
abbrev n__law_tape : List Str := ["script"]
theorem sc__law_tape : FnScope n__law_tape ["script"] (defScope s__law_tape) := ⟨rfl, rfl, rfl, by decide +kernel, rfl, by decide +kernel, by decide +kernel⟩
theorem ok__law_tape {P : Program} {w : World} {K : PySem.W.Frag} {mg : Str → Option Value} {base : Heap} {f : Addr} {fd : FuncData} (F : Fun K "_law_tape" "_law_tape" s__law_tape f fd) (gf : mg "_law_tape" = some (.ref f))   (m_list : mg "list" = none)  : Cal P w K mg base "_law_tape" 1 ["script"] (sp__law_tape K) := by
  refine ⟨f, fd, F.ok sc__law_tape len__law_tape (fun cdv A outer s H vs Q E hr h => ⟨t__law_tape K, PSs.nox ?_, pure__law_tape vs H Q E h⟩), F.kp, F.binds (fun _ _ _ _ _ _ us hl => match us, hl with | [_], _ => rfl), gf⟩
  exact (pss_one (ps_ret (pe_disp (pps_cons pe_str (pe_callTy call_listOf (by rfl) m_list (by decide +kernel) (pa_cons (pv 0) pa_nil)) (pps_cons pe_str pe_int (pps_cons pe_str pe_int (pps_cons pe_str pe_int (pps_cons pe_str pe_int (pps_cons pe_str pe_int pps_nil)))))) (by rfl) (by rfl) (fun z => by cases z) (by decide))))
abbrev s__law_domain : Stmt := topS 37
abbrev n__law_domain : List Str := ["tape", "most", "many", "value", "found", "k", "one"]
theorem sc__law_domain : FnScope n__law_domain ["tape", "most"] (defScope s__law_domain) := ⟨rfl, rfl, rfl, by decide +kernel, rfl, by decide +kernel, by decide +kernel⟩
theorem ok__law_domain {P : Program} {w : World} {K : PySem.W.Frag} {mg : Str → Option Value} {base : Heap} {f : Addr} {fd : FuncData} (F : Fun K "_law_domain" "_law_domain" s__law_domain f fd) (gf : mg "_law_domain" = some (.ref f)) (C__law_draw : Cal P w K mg base "_law_draw" 2 ["tape", "many"] (sp__law_draw K))  (m_min : mg "min" = none) (m_range : mg "range" = none) (m_tuple : mg "tuple" = none)  : Cal P w K mg base "_law_domain" 3 ["tape", "most"] (sp__law_domain K) := by
  refine ⟨f, fd, F.ok sc__law_domain len__law_domain (fun cdv A outer s H vs Q E hr h => ⟨t__law_domain K, PSs.nox ?_, pure__law_domain vs H Q E h⟩), F.kp, F.binds (fun _ _ _ _ _ _ us hl => match us, hl with | [_, _], _ => rfl), gf⟩
  exact (pss_cons (ps_set (i := 2) sc__law_domain.nd rfl (by first | exact .inl rfl | exact .inr rfl) (pe_callB (call_min2 rfl) (by rfl) m_min (by decide +kernel) (pa_cons (pv 1) (pa_cons (pe_op op_add pe_int (pe_cal C__law_draw (hr.mono (by decide)) rfl (pa_cons (pv 0) (pa_cons (pe_op op_add (pv 1) pe_int) pa_nil)))) pa_nil))))
  (pss_cons (ps_set (i := 3) sc__law_domain.nd rfl (by first | exact .inl rfl | exact .inr rfl) (pe_ix ix_list (pe_lst (pa_cons pe_int (pa_cons pe_int (pa_cons (pe_un un_neg pe_int) (pa_cons pe_int (pa_cons (pe_un un_neg pe_int) (pa_cons (pe_un un_neg pe_int) (pa_cons pe_int pa_nil)))))))) (pe_cal C__law_draw (hr.mono (by decide)) rfl (pa_cons (pv 0) (pa_cons pe_int pa_nil))) (fun _ _ => rfl)))
  (pss_cons (ps_set (i := 4) sc__law_domain.nd rfl (by first | exact .inl rfl | exact .inr rfl) (pe_lst (pa_cons (pv 3) pa_nil)))
  (pss_cons (ps_for PassesOwn.never rfl (pi_range1 (by rfl) m_range (pa_cons (pe_op op_sub (pv 2) pe_int) pa_nil)) (pg_name (i := 5) sc__law_domain.nd rfl (by first | exact .inl rfl | exact .inr rfl))
  (pss_one (ps_expr (pe_bm PySem.F.plainAttrs_list PySem.F.slot_list_append PySem.F.type_list_append mt_append (pv 4) (pa_cons (pe_op op_add (pe_ix ix_list (pv 4) (pe_un un_neg pe_int) (fun _ _ => rfl)) (pe_ix ix_list (pe_lst (pa_cons pe_int (pa_cons pe_int (pa_cons pe_int (pa_cons pe_int pa_nil))))) (pe_cal C__law_draw (hr.mono (by decide)) rfl (pa_cons (pv 0) (pa_cons pe_int pa_nil))) (fun _ _ => rfl))) pa_nil)))))
  (pss_one (ps_ret (pe_tupleOf (by rfl) m_tuple (pe_lc (own := [("one", 6)]) rfl sc__law_domain.nd (pi_list (pv 4)) (blkOk_by (own := [("one", 6)]) (N := n__law_domain) (sc := defScope s__law_domain) (by decide +kernel)) (fun _ _ _ _ _ => (pg_name (i := 6) sc__law_domain.nd rfl (by first | exact .inl rfl | exact .inr rfl))) (fun _ _ _ _ _ => (pts_one (pt_cmpR op_le (pv 6) pe_int (nomark _)))) (fun _ _ _ _ _ => (pv 6))))))))))
abbrev s__law_names : Stmt := topS 36
abbrev n__law_names : List Str := ["tape", "many", "left", "k"]
theorem sc__law_names : FnScope n__law_names ["tape", "many"] (defScope s__law_names) := ⟨rfl, rfl, rfl, by decide +kernel, rfl, by decide +kernel, by decide +kernel⟩
theorem ok__law_names {P : Program} {w : World} {K : PySem.W.Frag} {mg : Str → Option Value} {base : Heap} {f : Addr} {fd : FuncData} (F : Fun K "_law_names" "_law_names" s__law_names f fd) (gf : mg "_law_names" = some (.ref f)) (C__law_draw : Cal P w K mg base "_law_draw" 2 ["tape", "many"] (sp__law_draw K))  (m_len : mg "len" = none) (m_range : mg "range" = none)  : Cal P w K mg base "_law_names" 3 ["tape", "many"] (sp__law_names K) := by
  refine ⟨f, fd, F.ok sc__law_names len__law_names (fun cdv A outer s H vs Q E hr h => ⟨t__law_names K, PSs.nox ?_, pure__law_names vs H Q E h⟩), F.kp, F.binds (fun _ _ _ _ _ _ us hl => match us, hl with | [_, _], _ => rfl), gf⟩
  exact (pss_cons (ps_set (i := 2) sc__law_names.nd rfl (by first | exact .inl rfl | exact .inr rfl) (pe_lst (pa_cons pe_str (pa_cons pe_str (pa_cons pe_str (pa_cons pe_str (pa_cons pe_str (pa_cons pe_str (pa_cons pe_str (pa_cons pe_str (pa_cons pe_str (pa_cons pe_str (pa_cons pe_str (pa_cons pe_str (pa_cons pe_str pa_nil)))))))))))))))
  (pss_cons (ps_set (i := 2) sc__law_names.nd rfl (by first | exact .inl rfl | exact .inr rfl) (pe_op op_cat (pv 2) (pe_lst (pa_cons pe_str (pa_cons pe_str (pa_cons pe_str (pa_cons pe_str (pa_cons pe_str (pa_cons pe_str (pa_cons pe_str pa_nil))))))))))
  (pss_one (ps_ret (pe_lc (own := [("k", 3)]) rfl sc__law_names.nd (pi_range1 (by rfl) m_range (pa_cons (pv 1) pa_nil)) (blkOk_by (own := [("k", 3)]) (N := n__law_names) (sc := defScope s__law_names) (by decide +kernel)) (fun _ _ _ _ _ => (pg_name (i := 3) sc__law_names.nd rfl (by first | exact .inl rfl | exact .inr rfl))) (fun _ _ _ _ _ => pts_nil) (fun _ _ _ _ _ => (pe_bm PySem.F.plainAttrs_list PySem.F.slot_list_pop PySem.F.type_list_pop mt_popAt (pv 2) (pa_cons (pe_cal C__law_draw (hr.mono (by decide)) rfl (pa_cons (pv 0) (pa_cons (pe_callB call_len1 (by rfl) m_len (by decide +kernel) (pa_cons (pv 2) pa_nil)) pa_nil))) pa_nil))))))))
abbrev s__law_unknowns : Stmt := topS 38
abbrev n__law_unknowns : List Str := ["tape", "least", "most", "wide", "names", "found", "many", "k", "domain"]
theorem sc__law_unknowns : FnScope n__law_unknowns ["tape", "least", "most", "wide"] (defScope s__law_unknowns) := ⟨rfl, rfl, rfl, by decide +kernel, rfl, by decide +kernel, by decide +kernel⟩
theorem ok__law_unknowns {P : Program} {w : World} {K : PySem.W.Frag} {mg : Str → Option Value} {base : Heap} {f : Addr} {fd : FuncData} (F : Fun K "_law_unknowns" "_law_unknowns" s__law_unknowns f fd) (gf : mg "_law_unknowns" = some (.ref f)) (C__law_domain : Cal P w K mg base "_law_domain" 3 ["tape", "most"] (sp__law_domain K)) (C__law_draw : Cal P w K mg base "_law_draw" 2 ["tape", "many"] (sp__law_draw K)) (C__law_names : Cal P w K mg base "_law_names" 3 ["tape", "many"] (sp__law_names K))  (m_len : mg "len" = none) (m_max : mg "max" = none) (m_range : mg "range" = none) (m_tuple : mg "tuple" = none)  : Cal P w K mg base "_law_unknowns" 4 ["tape", "least", "most", "wide"] (sp__law_unknowns K) := by
  refine ⟨f, fd, F.ok sc__law_unknowns len__law_unknowns (fun cdv A outer s H vs Q E hr h => ⟨t__law_unknowns K, PSs.nox ?_, pure__law_unknowns vs H Q E h⟩), F.kp, F.binds (fun _ _ _ _ _ _ us hl => match us, hl with | [_, _, _, _], _ => rfl), gf⟩
  exact (pss_cons (ps_set (i := 4) sc__law_unknowns.nd rfl (by first | exact .inl rfl | exact .inr rfl) (pe_cal C__law_names (hr.mono (by decide)) rfl (pa_cons (pv 0) (pa_cons pe_int pa_nil))))
  (pss_cons (ps_set (i := 5) sc__law_unknowns.nd rfl (by first | exact .inl rfl | exact .inr rfl) (pe_lst pa_nil))
  (pss_cons (ps_set (i := 6) sc__law_unknowns.nd rfl (by first | exact .inl rfl | exact .inr rfl) pe_int)
  (pss_cons (ps_for PassesOwn.never rfl (pi_range1 (by rfl) m_range (pa_cons (pe_op op_add (pv 1) (pe_cal C__law_draw (hr.mono (by decide)) rfl (pa_cons (pv 0) (pa_cons (pe_op op_add (pe_op op_sub (pv 2) (pv 1)) pe_int) pa_nil)))) pa_nil)) (pg_name (i := 7) sc__law_unknowns.nd rfl (by first | exact .inl rfl | exact .inr rfl))
  (pss_cons (ps_set (i := 8) sc__law_unknowns.nd rfl (by first | exact .inl rfl | exact .inr rfl) (pe_cal C__law_domain (hr.mono (by decide)) rfl (pa_cons (pv 0) (pa_cons (pv 3) pa_nil))))
  (pss_cons (ps_set (i := 8) sc__law_unknowns.nd rfl (by first | exact .inl rfl | exact .inr rfl) (pe_slice sl_tupA (pv 8) po_none (po_some (pe_callB (call_max2 rfl) (by rfl) m_max (by decide +kernel) (pa_cons pe_int (pa_cons (pe_op op_fdiv pe_int (pv 6)) pa_nil))))))
  (pss_cons (ps_set (i := 6) sc__law_unknowns.nd rfl (by first | exact .inl rfl | exact .inr rfl) (pe_op op_mul (pv 6) (pe_callB call_len1 (by rfl) m_len (by decide +kernel) (pa_cons (pv 8) pa_nil))))
  (pss_one (ps_expr (pe_bm PySem.F.plainAttrs_list PySem.F.slot_list_append PySem.F.type_list_append mt_append (pv 5) (pa_cons (pe_tup (pa_cons (pe_ix ix_list (pv 4) (pv 7) (fun _ _ => rfl)) (pa_cons (pv 8) pa_nil))) pa_nil))))))))
  (pss_one (ps_ret (pe_tupleOf (by rfl) m_tuple (pv 5))))))))
abbrev s__law_some : Stmt := topS 39
abbrev n__law_some : List Str := ["tape", "unknowns", "least", "most", "left", "many", "k"]
theorem sc__law_some : FnScope n__law_some ["tape", "unknowns", "least", "most"] (defScope s__law_some) := ⟨rfl, rfl, rfl, by decide +kernel, rfl, by decide +kernel, by decide +kernel⟩
theorem ok__law_some {P : Program} {w : World} {K : PySem.W.Frag} {mg : Str → Option Value} {base : Heap} {f : Addr} {fd : FuncData} (F : Fun K "_law_some" "_law_some" s__law_some f fd) (gf : mg "_law_some" = some (.ref f)) (C__law_draw : Cal P w K mg base "_law_draw" 2 ["tape", "many"] (sp__law_draw K))  (m_len : mg "len" = none) (m_list : mg "list" = none) (m_max : mg "max" = none) (m_min : mg "min" = none) (m_range : mg "range" = none)  : Cal P w K mg base "_law_some" 3 ["tape", "unknowns", "least", "most"] (sp__law_some K) := by
  refine ⟨f, fd, F.ok sc__law_some len__law_some (fun cdv A outer s H vs Q E hr h => ⟨t__law_some K, PSs.nox ?_, pure__law_some vs H Q E h⟩), F.kp, F.binds (fun _ _ _ _ _ _ us hl => match us, hl with | [_, _, _, _], _ => rfl), gf⟩
  exact (pss_cons (ps_set (i := 4) sc__law_some.nd rfl (by first | exact .inl rfl | exact .inr rfl) (pe_callTy call_listOf (by rfl) m_list (by decide +kernel) (pa_cons (pv 1) pa_nil)))
  (pss_cons (ps_set (i := 5) sc__law_some.nd rfl (by first | exact .inl rfl | exact .inr rfl) (pe_op op_add (pv 2) (pe_cal C__law_draw (hr.mono (by decide)) rfl (pa_cons (pv 0) (pa_cons (pe_callB (call_max2 rfl) (by rfl) m_max (by decide +kernel) (pa_cons pe_int (pa_cons (pe_op op_add (pe_op op_sub (pe_callB (call_min2 rfl) (by rfl) m_min (by decide +kernel) (pa_cons (pv 3) (pa_cons (pe_callB call_len1 (by rfl) m_len (by decide +kernel) (pa_cons (pv 4) pa_nil)) pa_nil))) (pv 2)) pe_int) pa_nil))) pa_nil)))))
  (pss_one (ps_ret (pe_lc (own := [("k", 6)]) rfl sc__law_some.nd (pi_range1 (by rfl) m_range (pa_cons (pv 5) pa_nil)) (blkOk_by (own := [("k", 6)]) (N := n__law_some) (sc := defScope s__law_some) (by decide +kernel)) (fun _ _ _ _ _ => (pg_name (i := 6) sc__law_some.nd rfl (by first | exact .inl rfl | exact .inr rfl))) (fun _ _ _ _ _ => pts_nil) (fun _ _ _ _ _ => (pe_bm PySem.F.plainAttrs_list PySem.F.slot_list_pop PySem.F.type_list_pop mt_popAt (pv 4) (pa_cons (pe_cal C__law_draw (hr.mono (by decide)) rfl (pa_cons (pv 0) (pa_cons (pe_callB call_len1 (by rfl) m_len (by decide +kernel) (pa_cons (pv 4) pa_nil)) pa_nil))) pa_nil))))))))
abbrev s__law_view : Stmt := topS 42
abbrev n__law_view : List Str := ["tape", "one", "other", "view", "name", "domain", "some", "rows", "row", "pair"]
theorem sc__law_view : FnScope n__law_view ["tape", "one", "other"] (defScope s__law_view) := ⟨rfl, rfl, rfl, by decide +kernel, rfl, by decide +kernel, by decide +kernel⟩
theorem ok__law_view {P : Program} {w : World} {K : PySem.W.Frag} {mg : Str → Option Value} {base : Heap} {f : Addr} {fd : FuncData} (F : Fun K "_law_view" "_law_view" s__law_view f fd) (gf : mg "_law_view" = some (.ref f)) (C__law_all : Cal P w K mg base "_law_all" 1 ["domains"] (sp__law_all K)) (C__law_draw : Cal P w K mg base "_law_draw" 2 ["tape", "many"] (sp__law_draw K)) (C__law_some : Cal P w K mg base "_law_some" 3 ["tape", "unknowns", "least", "most"] (sp__law_some K))  (m_len : mg "len" = none) (m_tuple : mg "tuple" = none)  : Cal P w K mg base "_law_view" 4 ["tape", "one", "other"] (sp__law_view K) := by
  refine ⟨f, fd, F.ok sc__law_view len__law_view (fun cdv A outer s H vs Q E hr h => ⟨t__law_view K, PSs.nox ?_, pure__law_view vs H Q E h⟩), F.kp, F.binds (fun _ _ _ _ _ _ us hl => match us, hl with | [_, _, _], _ => rfl), gf⟩
  exact (pss_cons (ps_set (i := 3) sc__law_view.nd rfl (by first | exact .inl rfl | exact .inr rfl) (pe_lst pa_nil))
  (pss_cons (ps_for PassesOwn.never rfl (pi_tup (pe_ix ix_tup (pv 2) pe_int (fun _ _ => rfl))) (pg_tup rfl (pgs_cons (pg_name (i := 4) sc__law_view.nd rfl (by first | exact .inl rfl | exact .inr rfl)) (pgs_cons (pg_name (i := 5) sc__law_view.nd rfl (by first | exact .inl rfl | exact .inr rfl)) pgs_nil)))
  (pss_cons (ps_set (i := 6) sc__law_view.nd rfl (by first | exact .inl rfl | exact .inr rfl) (pe_cal C__law_some (hr.mono (by decide)) rfl (pa_cons (pv 0) (pa_cons (pe_ix ix_tup (pv 1) pe_int (fun _ _ => rfl)) (pa_cons pe_int (pa_cons pe_int pa_nil))))))
  (pss_cons (ps_setLc (i := 7) (own := [("row", 8)]) rfl sc__law_view.nd rfl rfl (sw_true rfl rfl rfl (by decide +kernel)) (pi_list (pe_cal C__law_all (hr.mono (by decide)) rfl (pa_cons (pe_lc (own := [("pair", 9)]) rfl sc__law_view.nd (pi_list (pv 6)) (blkOk_by (own := [("pair", 9)]) (N := n__law_view) (sc := defScope s__law_view) (by decide +kernel)) (fun _ _ _ _ _ => (pg_name (i := 9) sc__law_view.nd rfl (by first | exact .inl rfl | exact .inr rfl))) (fun _ _ _ _ _ => pts_nil) (fun _ _ _ _ _ => (pe_ix ix_tup (pv 9) pe_int (fun _ _ => rfl)))) pa_nil))) (blkOk_by (own := [("row", 8)]) (N := n__law_view) (sc := defScope s__law_view) (by decide +kernel)) (fun _ _ _ _ _ => (pg_name (i := 8) sc__law_view.nd rfl (by first | exact .inl rfl | exact .inr rfl))) (fun _ _ _ _ _ => pts_nil) (fun _ _ _ _ _ => (pe_op op_catA (pv 8) (pe_tup (pa_cons (pe_ix ix_tup (pv 5) (pe_cal C__law_draw (hr.mono (by decide)) rfl (pa_cons (pv 0) (pa_cons (pe_callB call_len1 (by rfl) m_len (by decide +kernel) (pa_cons (pv 5) pa_nil)) pa_nil))) (fun _ _ => rfl)) pa_nil)))))
  (pss_one (ps_expr (pe_bm PySem.F.plainAttrs_list PySem.F.slot_list_append PySem.F.type_list_append mt_append (pv 3) (pa_cons (pe_tup (pa_cons (pe_tupleOf (by rfl) m_tuple (pe_lc (own := [("pair", 9)]) rfl sc__law_view.nd (pi_list (pv 6)) (blkOk_by (own := [("pair", 9)]) (N := n__law_view) (sc := defScope s__law_view) (by decide +kernel)) (fun _ _ _ _ _ => (pg_name (i := 9) sc__law_view.nd rfl (by first | exact .inl rfl | exact .inr rfl))) (fun _ _ _ _ _ => pts_nil) (fun _ _ _ _ _ => (pe_ix ix_tup (pv 9) pe_int (fun _ _ => rfl))))) (pa_cons (pe_tupleOf (by rfl) m_tuple (pv 7)) pa_nil))) pa_nil)))))))
  (pss_one (ps_ret (pe_tupleOf (by rfl) m_tuple (pv 3))))))
abbrev s_law : Stmt := topS 49
abbrev n_law : List Str := ["script", "tape", "one", "other", "view", "is_named", "turn", "numbers", "k", "value", "whole", "filling", "pair", "due"]
theorem sc_law : FnScope n_law ["script"] (defScope s_law) := ⟨rfl, rfl, rfl, by decide +kernel, rfl, by decide +kernel, by decide +kernel⟩
theorem ok_law {P : Program} {w : World} {K : PySem.W.Frag} {mg : Str → Option Value} {base : Heap} {f : Addr} {fd : FuncData} (F : Fun K "law" "law" s_law f fd) (gf : mg "law" = some (.ref f)) (C__law_checked : Cal P w K mg base "_law_checked" 6 ["one", "other", "value", "is_named"] (sp__law_checked K)) (C__law_draw : Cal P w K mg base "_law_draw" 2 ["tape", "many"] (sp__law_draw K)) (C__law_large_right : Cal P w K mg base "_law_large_right" 7 ["tape"] (sp__law_large_right K)) (C__law_same : Cal P w K mg base "_law_same" 5 ["actual", "due"] (sp__law_same K 4)) (C__law_seen : Cal P w K mg base "_law_seen" 2 ["one", "view", "filling"] (sp__law_seen K)) (C__law_spoilt : Cal P w K mg base "_law_spoilt" 4 ["tape", "one", "other", "view", "number"] (sp__law_spoilt K)) (C__law_tape : Cal P w K mg base "_law_tape" 1 ["script"] (sp__law_tape K)) (C__law_unknowns : Cal P w K mg base "_law_unknowns" 4 ["tape", "least", "most", "wide"] (sp__law_unknowns K)) (C__law_view : Cal P w K mg base "_law_view" 4 ["tape", "one", "other"] (sp__law_view K)) (C_seen : Cal P w K mg base "seen" 3 ["one", "other", "view", "filling"] (sp_seen K)) (CK_seen : CalK P w K mg base "seen" 3 ["one", "other", "view", "filling"] ["filling", "view", "other", "one"] gR (sp_seen K)) (m_len : mg "len" = none) (m_range : mg "range" = none) (m_sorted : mg "sorted" = none) (m_tuple : mg "tuple" = none)  : FnOk P w K mg base CX0 8 f fd ["script"] (sp_law K) := by
  refine F.ok sc_law len_law (fun cdv A outer s H vs Q E hr h => ⟨t_law K, PSs.nox ?_, pure_law vs H Q E h⟩)
  exact (pss_cons (ps_set (i := 1) sc_law.nd rfl (by first | exact .inl rfl | exact .inr rfl) (pe_cal C__law_tape (hr.mono (by decide)) rfl (pa_cons (pv 0) pa_nil)))
  (pss_cons (ps_if (PW.pt (pw_and (pt_cmpR op_eq (pe_cal C__law_draw (hr.mono (by decide)) rfl (pa_cons (pv 1) (pa_cons pe_int pa_nil))) pe_int (nomark _)) (pw_and1 (pt_not (pt_val (pe_cal C__law_large_right (hr.mono (by decide)) rfl (pa_cons (pv 1) pa_nil))))))) (pss_one (ps_ret pe_bl)) pss_nil)
  (pss_cons (ps_set (i := 2) sc_law.nd rfl (by first | exact .inl rfl | exact .inr rfl) (pe_tup (pa_cons (pe_cal C__law_unknowns (hr.mono (by decide)) rfl (pa_cons (pv 1) (pa_cons pe_int (pa_cons pe_int (pa_cons pe_int pa_nil))))) (pa_cons (pe_tup pa_nil) (pa_cons (pe_tup pa_nil) pa_nil)))))
  (pss_cons (ps_set (i := 3) sc_law.nd rfl (by first | exact .inl rfl | exact .inr rfl) (pe_tup (pa_cons (pe_cal C__law_unknowns (hr.mono (by decide)) rfl (pa_cons (pv 1) (pa_cons pe_int (pa_cons pe_int (pa_cons pe_int pa_nil))))) (pa_cons (pe_tup pa_nil) (pa_cons (pe_tup pa_nil) pa_nil)))))
  (pss_cons (ps_set (i := 4) sc_law.nd rfl (by first | exact .inl rfl | exact .inr rfl) (pe_cal C__law_view (hr.mono (by decide)) rfl (pa_cons (pv 1) (pa_cons (pv 2) (pa_cons (pv 3) pa_nil)))))
  (pss_cons (ps_for PassesOwn.never rfl (pi_tup (pe_tup (pa_cons pe_bl (pa_cons pe_bl pa_nil)))) (pg_name (i := 5) sc_law.nd rfl (by first | exact .inl rfl | exact .inr rfl))
  (pss_one (ps_if (pt_not (pt_val (pe_cal C__law_same (hr.mono (by decide)) rfl (pa_cons (pe_cal C__law_checked (hr.mono (by decide)) rfl (pa_cons (pv 2) (pa_cons (pv 3) (pa_cons (pv 4) (pa_cons (pv 5) pa_nil))))) (pa_cons (pe_tup (pa_cons pe_str (pa_cons pe_non pa_nil))) pa_nil))))) (pss_one (ps_ret pe_bl)) pss_nil)))
  (pss_cons (ps_for PassesOwn.never rfl (pi_range1 (by rfl) m_range (pa_cons pe_int pa_nil)) (pg_name (i := 6) sc_law.nd rfl (by first | exact .inl rfl | exact .inr rfl))
  (pss_cons (ps_set (i := 7) sc_law.nd rfl (by first | exact .inl rfl | exact .inr rfl) (pe_callB cr_sortedI (by rfl) m_sorted (by decide +kernel) (pa_cons (pe_lc (own := [("k", 8)]) rfl sc_law.nd (pi_range1 (by rfl) m_range (pa_cons (pe_op op_add pe_int (pe_cal C__law_draw (hr.mono (by decide)) rfl (pa_cons (pv 1) (pa_cons pe_int pa_nil)))) pa_nil)) (blkOk_by (own := [("k", 8)]) (N := n_law) (sc := defScope s_law) (by decide +kernel)) (fun _ _ _ _ _ => (pg_name (i := 8) sc_law.nd rfl (by first | exact .inl rfl | exact .inr rfl))) (fun _ _ _ _ _ => pts_nil) (fun _ _ _ _ _ => (pe_cal C__law_draw (hr.mono (by decide)) rfl (pa_cons (pv 1) (pa_cons (pe_callB call_len1 (by rfl) m_len (by decide +kernel) (pa_cons (pv 4) pa_nil)) pa_nil))))) pa_nil)))
  (pss_cons (ps_set (i := 9) sc_law.nd rfl (by first | exact .inl rfl | exact .inr rfl) (pe_cal C__law_spoilt (hr.mono (by decide)) rfl (pa_cons (pv 1) (pa_cons (pv 2) (pa_cons (pv 3) (pa_cons (pv 4) (pa_cons (pe_ix ix_list (pv 7) pe_int (fun _ _ => rfl)) pa_nil)))))))
  (pss_cons (ps_if (pt_cmpR op_gt (pe_ix ix_list (pv 7) (pe_un un_neg pe_int) (fun _ _ => rfl)) (pe_ix ix_list (pv 7) pe_int (fun _ _ => rfl)) (nomark _)) (pss_one (ps_set (i := 9) sc_law.nd rfl (by first | exact .inl rfl | exact .inr rfl) (pe_cal C__law_spoilt (hr.mono (by decide)) rfl (pa_cons (pv 1) (pa_cons (pv 2) (pa_cons (pv 3) (pa_cons (pv 9) (pa_cons (pe_ix ix_list (pv 7) (pe_un un_neg pe_int) (fun _ _ => rfl)) pa_nil)))))))) pss_nil)
  (pss_one (ps_if (pt_not (pt_val (pe_cal C__law_same (hr.mono (by decide)) rfl (pa_cons (pe_cal C__law_checked (hr.mono (by decide)) rfl (pa_cons (pv 2) (pa_cons (pv 3) (pa_cons (pv 9) (pa_cons (pe_cmpR op_eq (pe_cal C__law_draw (hr.mono (by decide)) rfl (pa_cons (pv 1) (pa_cons pe_int pa_nil))) pe_int (nomark _)) pa_nil))))) (pa_cons (pe_tup (pa_cons pe_str (pa_cons (pe_ix ix_list (pv 7) pe_int (fun _ _ => rfl)) pa_nil))) pa_nil))))) (pss_one (ps_ret pe_bl)) pss_nil))))))
  (pss_cons (ps_set (i := 10) sc_law.nd rfl (by first | exact .inl rfl | exact .inr rfl) (pe_lst (pa_cons pe_non (pa_cons pe_int (pa_cons pe_str (pa_cons (pe_op op_repS pe_str (pe_callB call_len1 (by rfl) m_len (by decide +kernel) (pa_cons (pv 4) pa_nil))) (pa_cons pe_bl (pa_cons (pe_slice sl_tupA (pv 4) po_none (po_some (pe_un un_neg pe_int))) (pa_cons (pe_op op_catA (pv 4) (pe_slice sl_tupA (pv 4) (po_some (pe_un un_neg pe_int)) po_none)) (pa_cons (pe_op op_repW (pe_tup (pa_cons (pv 4) pa_nil)) (pe_op op_add (pe_callB call_len1 (by rfl) m_len (by decide +kernel) (pa_cons (pv 4) pa_nil)) pe_int)) (pa_cons (pe_op op_catA (pv 4) (pe_tup (pa_cons pe_non pa_nil))) pa_nil)))))))))))
  (pss_cons (ps_expr (pe_bm PySem.F.plainAttrs_list PySem.F.slot_list_append PySem.F.type_list_append mt_append (pv 10) (pa_cons (pe_op op_repW (pe_tup (pa_cons (pe_op op_repW (pe_tup (pa_cons (pe_op op_repW (pe_tup (pa_cons (pe_tup pa_nil) pa_nil)) pe_int) (pa_cons pe_non pa_nil))) pe_int) pa_nil)) (pe_op op_add (pe_callB call_len1 (by rfl) m_len (by decide +kernel) (pa_cons (pv 4) pa_nil)) pe_int)) pa_nil)))
  (pss_cons (ps_if (pt_not (pt_val (pe_cal C__law_same (hr.mono (by decide)) rfl (pa_cons (pe_cal C__law_checked (hr.mono (by decide)) rfl (pa_cons (pv 2) (pa_cons (pv 3) (pa_cons (pe_ix ix_list (pv 10) (pe_cal C__law_draw (hr.mono (by decide)) rfl (pa_cons (pv 1) (pa_cons (pe_callB call_len1 (by rfl) m_len (by decide +kernel) (pa_cons (pv 10) pa_nil)) pa_nil))) (fun _ _ => rfl)) (pa_cons pe_bl pa_nil))))) (pa_cons (pe_tup (pa_cons pe_str (pa_cons (pe_un un_neg pe_int) pa_nil))) pa_nil))))) (pss_one (ps_ret pe_bl)) pss_nil)
  (pss_cons (ps_for PassesOwn.never rfl (pi_range1 (by rfl) m_range (pa_cons pe_int pa_nil)) (pg_name (i := 6) sc_law.nd rfl (by first | exact .inl rfl | exact .inr rfl))
  (pss_cons (ps_set (i := 11) sc_law.nd rfl (by first | exact .inl rfl | exact .inr rfl) (pe_tupleOf (by rfl) m_tuple (pe_lc (own := [("pair", 12)]) rfl sc_law.nd (pi_tup (pe_ix ix_tup (pv 2) pe_int (fun _ _ => rfl))) (blkOk_by (own := [("pair", 12)]) (N := n_law) (sc := defScope s_law) (by decide +kernel)) (fun _ _ _ _ _ => (pg_name (i := 12) sc_law.nd rfl (by first | exact .inl rfl | exact .inr rfl))) (fun _ _ _ _ _ => pts_nil) (fun _ _ _ _ _ => (pe_ix ix_tup (pe_ix ix_tup (pv 12) pe_int (fun _ _ => rfl)) (pe_cal C__law_draw (hr.mono (by decide)) rfl (pa_cons (pv 1) (pa_cons (pe_callB call_len1 (by rfl) m_len (by decide +kernel) (pa_cons (pe_ix ix_tup (pv 12) pe_int (fun _ _ => rfl)) pa_nil)) pa_nil))) (fun _ _ => rfl))))))
  (pss_cons (ps_set (i := 13) sc_law.nd rfl (by first | exact .inl rfl | exact .inr rfl) (pe_cal C__law_seen (hr.mono (by decide)) rfl (pa_cons (pv 2) (pa_cons (pv 4) (pa_cons (pv 11) pa_nil)))))
  (pss_cons (ps_if (pt_not (pt_val (pe_cal C__law_same (hr.mono (by decide)) rfl (pa_cons (pe_cal C_seen (hr.mono (by decide)) rfl (pa_cons (pv 2) (pa_cons (pv 3) (pa_cons (pv 4) (pa_cons (pv 11) pa_nil))))) (pa_cons (pv 13) pa_nil))))) (pss_one (ps_ret pe_bl)) pss_nil)
  (pss_one (ps_if (pt_not (pt_val (pe_cal C__law_same (hr.mono (by decide)) rfl (pa_cons (pe_calK CK_seen (hr.mono (by decide)) rfl (pk_cons (pv 11) (pk_cons (pv 4) (pk_cons (pv 3) (pk_cons (pv 2) pk_nil))))) (pa_cons (pv 13) pa_nil))))) (pss_one (ps_ret pe_bl)) pss_nil))))))
  (pss_one (ps_ret (pe_cal C__law_same (hr.mono (by decide)) rfl (pa_cons (pe_cal C__law_checked (hr.mono (by decide)) rfl (pa_cons (pv 2) (pa_cons (pv 3) (pa_cons (pv 4) (pa_cons pe_bl pa_nil))))) (pa_cons (pe_tup (pa_cons pe_str (pa_cons pe_non pa_nil))) pa_nil))))))))))))))))
theorem FunD.plain {K : PySem.W.Frag} {x qual : Str} {st : Stmt} {f : Addr} {fd : FuncData} (F : FunD K x qual (defArgs st) (defBody st) (defScope st) [] [] f fd) : Fun K x qual st f fd := by
  obtain ⟨⟨oc, od, dV, kV, doc, pm, an, cdv, ct, osl, rfl, lk, hcd, hD, _⟩, kp⟩ := F
  rcases hD with ⟨_, rfl⟩ | ⟨e, _⟩
  · exact ⟨⟨oc, od, kV, doc, pm, an, cdv, ct, osl, rfl, lk, hcd⟩, kp⟩
  · exact absurd rfl e
def clsBody : Stmt → List Stmt
  | .ClassDef _ _ _ b _ _ _ _ _ _ _ => b
  | _ => []
abbrev s_init : Stmt := (clsBody (topS 8)).getD 0 (.Pass ⟨0, 0, 0, 0⟩)
abbrev n_init : List Str := ["self", "number"]
theorem sc_init : FnScope n_init ["self", "number"] (defScope s_init) := ⟨rfl, rfl, rfl, by decide +kernel, rfl, by decide +kernel, by decide +kernel⟩
def t_msg : TE := fun σ H Q => tJs [tC (.str "no right view: item "), tFmt (tVar 1)] Str.empty σ H fun out H1 => Q (.str out) H1
def t_init (K : PySem.W.Frag) : TS := tSeq (tDrop (tVeI K (tCons (tVar 0) (tCons t_msg tNil)))) (tOst K "number" (tVar 0) (tVar 1))
theorem num_len {n : Int} (h1 : -1 ≤ n) (h2 : n ≤ 100000) : (Str.ofString (toString n)).length ≤ 11 := by
  have := int_text_length_le10 (a := n) (k := 10) (by decide) (by omega)
  rw [PySem.ofString_length]
  exact this
theorem ok_init {P : Program} {w : World} {K : PySem.W.Frag} {mg : Str → Option Value} {base : Heap} {f : Addr} {fd : FuncData} {cW : Addr} (F : Fun K "__init__" "BadView.__init__" s_init f fd) (gW : mg "WrittenError" = some (.ref cW)) (TW : WiC K cW) : FnOk P w K mg base CX0 1 f fd ["self", "number"] (spInitV K) := by
  refine F.ok sc_init (fun vs H Q E h => by obtain ⟨_, _, _, rfl, _⟩ := h; rfl) (fun cdv A outer s H vs Q E hr h => ⟨t_init K, PSs.nox ?_, ?_⟩)
  · exact pss_cons (ps_expr (pe_weinit rfl gW TW (pa_cons (pv 0) (pa_cons (pe_joined (.cons pe_str (.cons (pe_fmt (pv 1)) .nil))) pa_nil)))) (pss_one (ps_ost (pv 0) (pv 1)))
  · obtain ⟨a, C, n, rfl, h1, h2, hC, hn, ha, q⟩ := h
    have hl := num_len h1 h2
    refine ⟨.ref a, rfl, _, rfl, by decide, _, rfl, .inr ⟨n, rfl, ?_, _, rfl, ?_, ?_⟩⟩
    · by_cases z : n.natAbs = 0
      · rw [z]; decide
      · exact Nat.lt_of_lt_of_le ((Nat.log2_lt z).mpr (show n.natAbs < 2 ^ 17 by omega)) (by decide)
    · rw [Str.length_append, Str.length_append]
      refine Nat.le_trans (Nat.add_le_add_left hl _) (by decide +kernel)
    · refine ⟨a, C, _, rfl, (by decide : 1 ≤ 1000), hC, ha, ?_⟩
      refine ⟨_, rfl, _, rfl, a, C, rfl, hC, hn, .inl ⟨ha, q⟩⟩
abbrev s_check_items : Stmt := topS 22
abbrev n_check_items : List Str := ["one", "other", "value", "many", "domains", "number", "item"]
theorem sc_check_items : FnScope n_check_items ["one", "other", "value"] (defScope s_check_items) := ⟨rfl, rfl, rfl, by decide +kernel, rfl, by decide +kernel, by decide +kernel⟩
theorem ok_check_items {P : Program} {w : World} {K : PySem.W.Frag} {mg : Str → Option Value} {base : Heap} {f : Addr} {fd : FuncData} {c_BadView fI : Addr} {fdI : FuncData} (F : Fun K "check_items" "check_items" s_check_items f fd) (C__is_item : Cal P w K mg base "_is_item" 3 ["domains", "domain", "value"] (sp__is_item K)) (C_domains_of : Cal P w K mg base "domains_of" 1 ["model"] (sp_domains_of K)) (C_is_tuple : Cal P w K mg base "is_tuple" 1 ["value", "fewest", "most"] (sp_is_tuple K)) (m_enumerate : mg "enumerate" = none) (m_len : mg "len" = none) 
    (OX_BadView : OexC K c_BadView) (I_BadView : PySem.W.findIn K (.ref c_BadView) "__init__" = some (some (.ref fI))) (T_BadView : PySem.W.typeIn K (.ref fI) = some (.type "function")) (N_BadView : FnOk P w K mg base CX0 1 fI fdI ["self", "number"] (spInitV K)) (B_BadView : Binds K fdI ["self", "number"] []) (g_BadView : mg "BadView" = some (.ref c_BadView)) :
    FnOk P w K mg base (L2.CX P w) 4 f fd ["one", "other", "value"] (sp_check_items K c_BadView) := by
  refine F.okX sc_check_items len_check_items (fun cdv A outer s H vs Q E hr h => ⟨t_check_items K c_BadView E, ?_, pure_check_items vs H Q E h⟩)
  exact (pss_cons (ps_set (i := 3) sc_check_items.nd rfl (by first | exact .inl rfl | exact .inr rfl) (pe_callB call_len1 (by rfl) m_len (by decide +kernel) (pa_cons (pe_ix ix_tup (pv 1) pe_int (fun _ _ => rfl)) pa_nil)))
  (pss_cons (ps_if (pt_not (pt_val (pe_cal C_is_tuple (hr.mono (by decide)) rfl (pa_cons (pv 2) (pa_cons (pv 3) (pa_cons (pv 3) pa_nil)))))) (pss_one (ps_raise rfl (takes_of rfl rfl rfl rfl) (pmk_oex OX_BadView I_BadView T_BadView N_BadView (hr.mono (by decide)) B_BadView .nil pass0 (by rfl) g_BadView (pa_cons (pe_un un_neg pe_int) pa_nil)))) pss_nil)
  (pss_cons (ps_set (i := 4) sc_check_items.nd rfl (by first | exact .inl rfl | exact .inr rfl) (pe_cal C_domains_of (hr.mono (by decide)) rfl (pa_cons (pv 0) pa_nil)))
  (pss_one (ps_for (passes_of rfl) rfl (pi_enumT (by rfl) m_enumerate (pa_cons (pv 2) pa_nil)) (pg_tup rfl (pgs_cons (pg_name (i := 5) sc_check_items.nd rfl (by first | exact .inl rfl | exact .inr rfl)) (pgs_cons (pg_name (i := 6) sc_check_items.nd rfl (by first | exact .inl rfl | exact .inr rfl)) pgs_nil)))
  (pss_one (ps_if (pt_not (pt_val (pe_cal C__is_item (hr.mono (by decide)) rfl (pa_cons (pv 4) (pa_cons (pe_ix ix_tup (pe_ix ix_tup (pe_ix ix_tup (pv 1) pe_int (fun _ _ => rfl)) (pv 5) (fun _ _ => rfl)) pe_int (fun _ _ => rfl)) (pa_cons (pv 6) pa_nil)))))) (pss_one (ps_raise rfl (takes_of rfl rfl rfl rfl) (pmk_oex OX_BadView I_BadView T_BadView N_BadView (hr.mono (by decide)) B_BadView .nil pass0 (by rfl) g_BadView (pa_cons (pv 5) pa_nil)))) pss_nil)))))))
abbrev s_check_view : Stmt := topS 29
abbrev n_check_view : List Str := ["one", "other", "value"]
theorem sc_check_view : FnScope n_check_view ["one", "other", "value"] (defScope s_check_view) := ⟨rfl, rfl, rfl, by decide +kernel, rfl, by decide +kernel, by decide +kernel⟩
theorem ok_check_view {P : Program} {w : World} {K : PySem.W.Frag} {mg : Str → Option Value} {base : Heap} {f : Addr} {fd : FuncData} {c_BadView : Addr} (F : Fun K "check_view" "check_view" s_check_view f fd) (X_check_items : CalX P w K mg base "check_items" 4 ["one", "other", "value"] (sp_check_items K c_BadView)) :
    FnOk P w K mg base (L2.CX P w) 5 f fd ["one", "other", "value"] (sp_check_view K c_BadView) := by
  refine F.okX sc_check_view len_check_view (fun cdv A outer s H vs Q E hr h => ⟨t_check_view K c_BadView E, ?_, pure_check_view vs H Q E h⟩)
  exact (pss_one (ps_expr (pe_calX X_check_items (hr.mono (by decide)) rfl (fun σ => passAt (takes_of rfl rfl rfl rfl) σ) (pa_cons (pv 0) (pa_cons (pv 1) (pa_cons (pv 2) pa_nil))))))
abbrev s__law_checked : Stmt := topS 44
abbrev n__law_checked : List Str := ["one", "other", "value", "is_named", "told", "e"]
theorem sc__law_checked : FnScope n__law_checked ["one", "other", "value", "is_named"] (defScope s__law_checked) := ⟨rfl, rfl, rfl, by decide +kernel, rfl, by decide +kernel, by decide +kernel⟩
theorem ok__law_checked {P : Program} {w : World} {K : PySem.W.Frag} {mg : Str → Option Value} {base : Heap} {f : Addr} {fd : FuncData} {c_BadModel c_BadView c_BadText c_UnknownName c_BadRow c_BadWish c_NothingLeft c_TooFar c_WrittenError : Addr} (FF : ExFV K c_BadModel c_BadView c_BadText c_UnknownName c_BadRow c_BadWish c_NothingLeft c_TooFar c_WrittenError) (TE : ExI K c_BadView) (XF : XfC K c_BadView) (nF : PySem.W.findIn K (.ref c_BadView) "number" = some none) (F : Fun K "_law_checked" "_law_checked" s__law_checked f fd) (gf : mg "_law_checked" = some (.ref f)) (X_check_view : CalX P w K mg base "check_view" 5 ["one", "other", "value"] (sp_check_view K c_BadView)) (XK_check_view : CalXK P w K mg base "check_view" 5 ["one", "other", "value"] ["value", "other", "one"] gR (sp_check_view K c_BadView)) (m_isinstance : mg "isinstance" = none)
    (g_BadModel : mg "BadModel" = some (.ref c_BadModel)) (g_BadView : mg "BadView" = some (.ref c_BadView)) (g_BadText : mg "BadText" = some (.ref c_BadText)) (g_UnknownName : mg "UnknownName" = some (.ref c_UnknownName)) (g_BadRow : mg "BadRow" = some (.ref c_BadRow)) (g_BadWish : mg "BadWish" = some (.ref c_BadWish)) (g_NothingLeft : mg "NothingLeft" = some (.ref c_NothingLeft)) (g_TooFar : mg "TooFar" = some (.ref c_TooFar)) (g_WrittenError : mg "WrittenError" = some (.ref c_WrittenError)) : Cal P w K mg base "_law_checked" 6 ["one", "other", "value", "is_named"] (sp__law_checked K) := by
  refine ⟨f, fd, F.ok sc__law_checked len__law_checked (fun cdv A outer s H vs Q E hr h => ⟨t__law_checked K c_BadModel c_BadView c_BadText c_UnknownName c_BadRow c_BadWish c_NothingLeft c_TooFar c_WrittenError, PSs.nox ?_, pure__law_checked FF vs H Q E h⟩), F.kp, F.binds (fun _ _ _ _ _ _ us hl => match us, hl with | [_, _, _, _], _ => rfl), gf⟩
  exact (pss_one (ps_try_as (i := 5) (tb := fun W => (tSeq (tAsg (tIf (tB (tVar 3)) (tCallSK (sp_check_view K c_BadView) gR (WE W) (tCons (tVar 2) (tCons (tVar 1) (tCons (tVar 0) tNil)))) (tCallS (sp_check_view K c_BadView) (WE W) (tCons (tVar 0) (tCons (tVar 1) (tCons (tVar 2) tNil))))) (gName 4))
  (tRet (tTup (tCons (tC (.str "told")) (tCons (tVar 4) tNil)))))) (ts := fun a cls d D σ H => cls = .ref c_BadView ∧ ((tSeq (tIfS (tOr (tNot (tB (tCB (rIsiD K a c_BadView d) (tCons (tVar 5) (tCons (tC (.ref c_WrittenError)) tNil))))) (tB (tCB (rIsiDT K a c_BadView d) (tCons (tVar 5) (tCons (tTup (tCons (tC (.ref c_BadModel)) (tCons (tC (.ref c_BadRow)) (tCons (tC (.ref c_BadText)) (tCons (tC (.ref c_BadWish)) (tCons (tC (.ref c_NothingLeft)) (tCons (tC (.ref c_TooFar)) tNil))))))) tNil))))) (tRet (tTup (tCons (tC (.str "class")) (tCons (tC (.int 0)) tNil)))) tNext)
  (tSeq (tIfS (tB (tCB (rIsiD K a c_BadView d) (tCons (tVar 5) (tCons (tC (.ref c_UnknownName)) tNil)))) (tRet (tTup (tCons (tC (.str "class")) (tCons (tC (.int 1)) tNil)))) tNext)
  (tRet (tTup (tCons (tC (.str "view")) (tCons (tXf a cls d c_BadView "number" (tVar 5)) tNil))))))) D σ H) (Wout := fun _ _ _ _ => False) rfl rfl sc__law_checked.nd rfl rfl ⟨rfl, by decide, .inl g_BadView⟩ takes0 (fun W pn xe tk _ => (pss_cons (ps_set (i := 4) sc__law_checked.nd rfl (by first | exact .inl rfl | exact .inr rfl) (pe_ifExp (pt_val (pv 3)) (pe_calXK XK_check_view (hr.mono (by decide)) rfl (fun σ => passAt tk σ) (pk_cons (pv 2) (pk_cons (pv 1) (pk_cons (pv 0) pk_nil)))) (pe_calX X_check_view (hr.mono (by decide)) rfl (fun σ => passAt tk σ) (pa_cons (pv 0) (pa_cons (pv 1) (pa_cons (pv 2) pa_nil))))))
  (pss_one (ps_ret (pe_tup (pa_cons pe_str (pa_cons (pv 4) pa_nil))))))) (fun a oe cls d pn hzo hf => pss_knownC (fun hz => (pss_cons (ps_if (PW.pt (pw_or (pt_not (pt_val (pe_callB (call_isiD TE hz hf) (by rfl) m_isinstance (by decide +kernel) (pa_cons (pv 5) (pa_cons (pe_glob rfl g_WrittenError rfl) pa_nil))))) (pw_or1 (pt_val (pe_callB (call_isiDT TE hz hf) (by rfl) m_isinstance (by decide +kernel) (pa_cons (pv 5) (pa_cons (pe_tup (pa_cons (pe_glob rfl g_BadModel rfl) (pa_cons (pe_glob rfl g_BadRow rfl) (pa_cons (pe_glob rfl g_BadText rfl) (pa_cons (pe_glob rfl g_BadWish rfl) (pa_cons (pe_glob rfl g_NothingLeft rfl) (pa_cons (pe_glob rfl g_TooFar rfl) pa_nil))))))) pa_nil))))))) (pss_one (ps_ret (pe_tup (pa_cons pe_str (pa_cons pe_int pa_nil))))) pss_nil)
  (pss_cons (ps_if (pt_val (pe_callB (call_isiD TE hz hf) (by rfl) m_isinstance (by decide +kernel) (pa_cons (pv 5) (pa_cons (pe_glob rfl g_UnknownName rfl) pa_nil)))) (pss_one (ps_ret (pe_tup (pa_cons pe_str (pa_cons pe_int pa_nil))))) pss_nil)
  (pss_one (ps_ret (pe_tup (pa_cons pe_str (pa_cons (pe_xf XF nF hzo hf (pv 5)) pa_nil)))))))) hzo)))
theorem vals_rev {vs : List V} {us : List Value} (r : Vals vs us) : Vals vs.reverse us.reverse := by
  induction r with
  | nil => exact .nil
  | cons a t ih =>
    rw [List.reverse_cons, List.reverse_cons]
    exact ih.append (.cons a .nil)
theorem Fun.kbR {K : PySem.W.Frag} {x qual : Str} {st : Stmt} {f : Addr} {fd : FuncData} {ps ks : List Str} (F : Fun K x qual st f fd) (h0 : 0 < ps.length)
    (h : ∀ (kV doc pm : Value) (an : Option Addr) (cdv ct : Value) (us : List Value), us.length = ps.length → bindArgs (PySem.W.fnOf x qual (defArgs st) (defBody st) (defScope st) .none kV doc pm an cdv ct) ⟨[], ks.zip us⟩ = pure (ps.zip us.reverse)) : KBinds K fd ps ks gR gR := by
  obtain ⟨oc, od, kV, doc, pm, an, cdv, ct, osl, rfl, lk, hcd⟩ := F.ex
  refine ⟨fun s us ws _ hl => ?_, fun {vs us zs ws} r rz => ?_⟩
  · cases us with
    | nil => exact .of_eq (h kV doc pm an cdv ct ws (by have : ws.reverse.length = ps.length := hl; rw [List.length_reverse] at this; exact this))
    | cons a r =>
      have : (0 : Nat) = ps.length := hl
      omega
  · cases r with
    | nil =>
      show Vals zs.reverse ws.reverse
      exact vals_rev rz
    | cons _ _ => exact .nil

end AW
namespace AW
open PySem PySem.Spec PyProof.Rows L2 RZ
open StX
theorem facts7 {P : Program} {w : World} {K : PySem.W.Frag} {h : Heap} {mg : Str → Option Value} {fa : Addr} (X : K.In h) (G : h.Ns mainGlobals mg) (hfa : mg "law" = some (.ref fa))
    {f0 : Addr} {od0 an0 : Option Addr} {sl0 : Array (Option Value)} {oc0 kV0 dc0 pm0 cd0 ct0 : Value} (a0 : PySem.W.nsIn K mainGlobals "is_tuple" = some (some (.ref f0))) (l0 : K.lookup f0 = some ⟨oc0, od0, .func (PySem.W.fnOf "is_tuple" "is_tuple" (defArgs (topS 1)) (defBody (topS 1)) (defScope (topS 1)) .none kV0 dc0 pm0 an0 cd0 ct0), sl0⟩) (c0 : PySem.W.codeIn K cd0 "is_tuple" = true) (k0 : PySem.W.keepIn K (.ref f0) = true)
    {f1 : Addr} {od1 an1 : Option Addr} {sl1 : Array (Option Value)} {oc1 kV1 dc1 pm1 cd1 ct1 : Value} (a1 : PySem.W.nsIn K mainGlobals "_is_row" = some (some (.ref f1))) (l1 : K.lookup f1 = some ⟨oc1, od1, .func (PySem.W.fnOf "_is_row" "_is_row" (defArgs (topS 24)) (defBody (topS 24)) (defScope (topS 24)) .none kV1 dc1 pm1 an1 cd1 ct1), sl1⟩) (c1 : PySem.W.codeIn K cd1 "_is_row" = true) (k1 : PySem.W.keepIn K (.ref f1) = true)
    {f2 : Addr} {od2 an2 : Option Addr} {sl2 : Array (Option Value)} {oc2 kV2 dc2 pm2 cd2 ct2 : Value} (a2 : PySem.W.nsIn K mainGlobals "_many_tuples" = some (some (.ref f2))) (l2 : K.lookup f2 = some ⟨oc2, od2, .func (PySem.W.fnOf "_many_tuples" "_many_tuples" (defArgs (topS 25)) (defBody (topS 25)) (defScope (topS 25)) .none kV2 dc2 pm2 an2 cd2 ct2), sl2⟩) (c2 : PySem.W.codeIn K cd2 "_many_tuples" = true) (k2 : PySem.W.keepIn K (.ref f2) = true)
    {f3 : Addr} {od3 an3 : Option Addr} {sl3 : Array (Option Value)} {oc3 kV3 dc3 pm3 cd3 ct3 : Value} (a3 : PySem.W.nsIn K mainGlobals "is_unknown" = some (some (.ref f3))) (l3 : K.lookup f3 = some ⟨oc3, od3, .func (PySem.W.fnOf "is_unknown" "is_unknown" (defArgs (topS 3)) (defBody (topS 3)) (defScope (topS 3)) .none kV3 dc3 pm3 an3 cd3 ct3), sl3⟩) (c3 : PySem.W.codeIn K cd3 "is_unknown" = true) (k3 : PySem.W.keepIn K (.ref f3) = true)
    {f4 : Addr} {od4 an4 : Option Addr} {sl4 : Array (Option Value)} {oc4 kV4 dc4 pm4 cd4 ct4 : Value} (a4 : PySem.W.nsIn K mainGlobals "are_unknowns" = some (some (.ref f4))) (l4 : K.lookup f4 = some ⟨oc4, od4, .func (PySem.W.fnOf "are_unknowns" "are_unknowns" (defArgs (topS 4)) (defBody (topS 4)) (defScope (topS 4)) .none kV4 dc4 pm4 an4 cd4 ct4), sl4⟩) (c4 : PySem.W.codeIn K cd4 "are_unknowns" = true) (k4 : PySem.W.keepIn K (.ref f4) = true)
    {f5 : Addr} {od5 an5 : Option Addr} {sl5 : Array (Option Value)} {oc5 kV5 dc5 pm5 cd5 ct5 : Value} (a5 : PySem.W.nsIn K mainGlobals "ascends" = some (some (.ref f5))) (l5 : K.lookup f5 = some ⟨oc5, od5, .func (PySem.W.fnOf "ascends" "ascends" (defArgs (topS 2)) (defBody (topS 2)) (defScope (topS 2)) .none kV5 dc5 pm5 an5 cd5 ct5), sl5⟩) (c5 : PySem.W.codeIn K cd5 "ascends" = true) (k5 : PySem.W.keepIn K (.ref f5) = true)
    {f6 : Addr} {od6 an6 : Option Addr} {sl6 : Array (Option Value)} {oc6 kV6 dc6 pm6 cd6 ct6 : Value} (a6 : PySem.W.nsIn K mainGlobals "_is_item" = some (some (.ref f6))) (l6 : K.lookup f6 = some ⟨oc6, od6, .func (PySem.W.fnOf "_is_item" "_is_item" (defArgs (topS 23)) (defBody (topS 23)) (defScope (topS 23)) .none kV6 dc6 pm6 an6 cd6 ct6), sl6⟩) (c6 : PySem.W.codeIn K cd6 "_is_item" = true) (k6 : PySem.W.keepIn K (.ref f6) = true)
    {f7 : Addr} {od7 an7 : Option Addr} {sl7 : Array (Option Value)} {oc7 kV7 dc7 pm7 cd7 ct7 : Value} (a7 : PySem.W.nsIn K mainGlobals "domains_of" = some (some (.ref f7))) (l7 : K.lookup f7 = some ⟨oc7, od7, .func (PySem.W.fnOf "domains_of" "domains_of" (defArgs (topS 16)) (defBody (topS 16)) (defScope (topS 16)) .none kV7 dc7 pm7 an7 cd7 ct7), sl7⟩) (c7 : PySem.W.codeIn K cd7 "domains_of" = true) (k7 : PySem.W.keepIn K (.ref f7) = true)
    {f8 : Addr} {od8 an8 : Option Addr} {sl8 : Array (Option Value)} {oc8 kV8 dc8 pm8 cd8 ct8 : Value} (a8 : PySem.W.nsIn K mainGlobals "check_items" = some (some (.ref f8))) (l8 : K.lookup f8 = some ⟨oc8, od8, .func (PySem.W.fnOf "check_items" "check_items" (defArgs (topS 22)) (defBody (topS 22)) (defScope (topS 22)) .none kV8 dc8 pm8 an8 cd8 ct8), sl8⟩) (c8 : PySem.W.codeIn K cd8 "check_items" = true) (k8 : PySem.W.keepIn K (.ref f8) = true)
    {f9 : Addr} {od9 an9 : Option Addr} {sl9 : Array (Option Value)} {oc9 kV9 dc9 pm9 cd9 ct9 : Value} (a9 : PySem.W.nsIn K mainGlobals "check_view" = some (some (.ref f9))) (l9 : K.lookup f9 = some ⟨oc9, od9, .func (PySem.W.fnOf "check_view" "check_view" (defArgs (topS 29)) (defBody (topS 29)) (defScope (topS 29)) .none kV9 dc9 pm9 an9 cd9 ct9), sl9⟩) (c9 : PySem.W.codeIn K cd9 "check_view" = true) (k9 : PySem.W.keepIn K (.ref f9) = true)
    {f10 : Addr} {od10 an10 : Option Addr} {sl10 : Array (Option Value)} {oc10 kV10 dc10 pm10 cd10 ct10 : Value} (a10 : PySem.W.nsIn K mainGlobals "_law_checked" = some (some (.ref f10))) (l10 : K.lookup f10 = some ⟨oc10, od10, .func (PySem.W.fnOf "_law_checked" "_law_checked" (defArgs (topS 44)) (defBody (topS 44)) (defScope (topS 44)) .none kV10 dc10 pm10 an10 cd10 ct10), sl10⟩) (c10 : PySem.W.codeIn K cd10 "_law_checked" = true) (k10 : PySem.W.keepIn K (.ref f10) = true)
    {f11 : Addr} {od11 an11 : Option Addr} {sl11 : Array (Option Value)} {oc11 kV11 dc11 pm11 cd11 ct11 : Value} (a11 : PySem.W.nsIn K mainGlobals "_law_mixed" = some (some (.ref f11))) (l11 : K.lookup f11 = some ⟨oc11, od11, .func (PySem.W.fnOf "_law_mixed" "_law_mixed" (defArgs (topS 32)) (defBody (topS 32)) (defScope (topS 32)) .none kV11 dc11 pm11 an11 cd11 ct11), sl11⟩) (c11 : PySem.W.codeIn K cd11 "_law_mixed" = true) (k11 : PySem.W.keepIn K (.ref f11) = true)
    {f12 : Addr} {od12 an12 : Option Addr} {sl12 : Array (Option Value)} {oc12 kV12 dc12 pm12 cd12 ct12 : Value} (a12 : PySem.W.nsIn K mainGlobals "_law_draw" = some (some (.ref f12))) (l12 : K.lookup f12 = some ⟨oc12, od12, .func (PySem.W.fnOf "_law_draw" "_law_draw" (defArgs (topS 34)) (defBody (topS 34)) (defScope (topS 34)) .none kV12 dc12 pm12 an12 cd12 ct12), sl12⟩) (c12 : PySem.W.codeIn K cd12 "_law_draw" = true) (k12 : PySem.W.keepIn K (.ref f12) = true)
    {f13 : Addr} {od13 an13 : Option Addr} {sl13 : Array (Option Value)} {oc13 kV13 dc13 pm13 cd13 ct13 : Value} (a13 : PySem.W.nsIn K mainGlobals "_law_all" = some (some (.ref f13))) (l13 : K.lookup f13 = some ⟨oc13, od13, .func (PySem.W.fnOf "_law_all" "_law_all" (defArgs (topS 40)) (defBody (topS 40)) (defScope (topS 40)) .none kV13 dc13 pm13 an13 cd13 ct13), sl13⟩) (c13 : PySem.W.codeIn K cd13 "_law_all" = true) (k13 : PySem.W.keepIn K (.ref f13) = true)
    {f14 : Addr} {od14 an14 : Option Addr} {sl14 : Array (Option Value)} {oc14 kV14 dc14 pm14 cd14 ct14 : Value} (a14 : PySem.W.nsIn K mainGlobals "_law_same" = some (some (.ref f14))) (l14 : K.lookup f14 = some ⟨oc14, od14, .func (PySem.W.fnOf "_law_same" "_law_same" (defArgs (topS 35)) (defBody (topS 35)) (defScope (topS 35)) .none kV14 dc14 pm14 an14 cd14 ct14), sl14⟩) (c14 : PySem.W.codeIn K cd14 "_law_same" = true) (k14 : PySem.W.keepIn K (.ref f14) = true)
    {f15 : Addr} {od15 an15 : Option Addr} {sl15 : Array (Option Value)} {oc15 kV15 dc15 pm15 cd15 ct15 : Value} (a15 : PySem.W.nsIn K mainGlobals "_law_at" = some (some (.ref f15))) (l15 : K.lookup f15 = some ⟨oc15, od15, .func (PySem.W.fnOf "_law_at" "_law_at" (defArgs (topS 41)) (defBody (topS 41)) (defScope (topS 41)) .none kV15 dc15 pm15 an15 cd15 ct15), sl15⟩) (c15 : PySem.W.codeIn K cd15 "_law_at" = true) (k15 : PySem.W.keepIn K (.ref f15) = true)
    {f16 : Addr} {od16 an16 : Option Addr} {sl16 : Array (Option Value)} {oc16 kV16 dc16 pm16 cd16 ct16 : Value} (a16 : PySem.W.nsIn K mainGlobals "_law_seen" = some (some (.ref f16))) (l16 : K.lookup f16 = some ⟨oc16, od16, .func (PySem.W.fnOf "_law_seen" "_law_seen" (defArgs (topS 43)) (defBody (topS 43)) (defScope (topS 43)) .none kV16 dc16 pm16 an16 cd16 ct16), sl16⟩) (c16 : PySem.W.codeIn K cd16 "_law_seen" = true) (k16 : PySem.W.keepIn K (.ref f16) = true)
    {f17 : Addr} {od17 an17 : Option Addr} {sl17 : Array (Option Value)} {oc17 kV17 dc17 pm17 cd17 ct17 : Value} (a17 : PySem.W.nsIn K mainGlobals "_value_seen" = some (some (.ref f17))) (l17 : K.lookup f17 = some ⟨oc17, od17, .func (PySem.W.fnOf "_value_seen" "_value_seen" (defArgs (topS 27)) (defBody (topS 27)) (defScope (topS 27)) .none kV17 dc17 pm17 an17 cd17 ct17), sl17⟩) (c17 : PySem.W.codeIn K cd17 "_value_seen" = true) (k17 : PySem.W.keepIn K (.ref f17) = true)
    {f18 : Addr} {od18 an18 : Option Addr} {sl18 : Array (Option Value)} {oc18 kV18 dc18 pm18 cd18 ct18 : Value} (a18 : PySem.W.nsIn K mainGlobals "names_in" = some (some (.ref f18))) (l18 : K.lookup f18 = some ⟨oc18, od18, .func (PySem.W.fnOf "names_in" "names_in" (defArgs (topS 18)) (defBody (topS 18)) (defScope (topS 18)) .none kV18 dc18 pm18 an18 cd18 ct18), sl18⟩) (c18 : PySem.W.codeIn K cd18 "names_in" = true) (k18 : PySem.W.keepIn K (.ref f18) = true)
    {f19 : Addr} {od19 an19 : Option Addr} {sl19 : Array (Option Value)} {oc19 kV19 dc19 pm19 cd19 ct19 : Value} (a19 : PySem.W.nsIn K mainGlobals "filling_seen" = some (some (.ref f19))) (l19 : K.lookup f19 = some ⟨oc19, od19, .func (PySem.W.fnOf "filling_seen" "filling_seen" (defArgs (topS 26)) (defBody (topS 26)) (defScope (topS 26)) .none kV19 dc19 pm19 an19 cd19 ct19), sl19⟩) (c19 : PySem.W.codeIn K cd19 "filling_seen" = true) (k19 : PySem.W.keepIn K (.ref f19) = true)
    {f20 : Addr} {od20 an20 : Option Addr} {sl20 : Array (Option Value)} {oc20 kV20 dc20 pm20 cd20 ct20 : Value} (a20 : PySem.W.nsIn K mainGlobals "seen" = some (some (.ref f20))) (l20 : K.lookup f20 = some ⟨oc20, od20, .func (PySem.W.fnOf "seen" "seen" (defArgs (topS 30)) (defBody (topS 30)) (defScope (topS 30)) .none kV20 dc20 pm20 an20 cd20 ct20), sl20⟩) (c20 : PySem.W.codeIn K cd20 "seen" = true) (k20 : PySem.W.keepIn K (.ref f20) = true)
    {f21 : Addr} {od21 an21 : Option Addr} {sl21 : Array (Option Value)} {oc21 kV21 dc21 pm21 cd21 ct21 : Value} (a21 : PySem.W.nsIn K mainGlobals "_law_large_right" = some (some (.ref f21))) (l21 : K.lookup f21 = some ⟨oc21, od21, .func (PySem.W.fnOf "_law_large_right" "_law_large_right" (defArgs (topS 48)) (defBody (topS 48)) (defScope (topS 48)) .none kV21 dc21 pm21 an21 cd21 ct21), sl21⟩) (c21 : PySem.W.codeIn K cd21 "_law_large_right" = true) (k21 : PySem.W.keepIn K (.ref f21) = true)
    {f22 : Addr} {od22 an22 : Option Addr} {sl22 : Array (Option Value)} {oc22 kV22 dc22 pm22 cd22 ct22 : Value} (a22 : PySem.W.nsIn K mainGlobals "_law_spoilt_names" = some (some (.ref f22))) (l22 : K.lookup f22 = some ⟨oc22, od22, .func (PySem.W.fnOf "_law_spoilt_names" "_law_spoilt_names" (defArgs (topS 45)) (defBody (topS 45)) (defScope (topS 45)) .none kV22 dc22 pm22 an22 cd22 ct22), sl22⟩) (c22 : PySem.W.codeIn K cd22 "_law_spoilt_names" = true) (k22 : PySem.W.keepIn K (.ref f22) = true)
    {f23 : Addr} {od23 an23 : Option Addr} {sl23 : Array (Option Value)} {oc23 kV23 dc23 pm23 cd23 ct23 : Value} (a23 : PySem.W.nsIn K mainGlobals "_law_spoilt_rows" = some (some (.ref f23))) (l23 : K.lookup f23 = some ⟨oc23, od23, .func (PySem.W.fnOf "_law_spoilt_rows" "_law_spoilt_rows" (defArgs (topS 46)) (defBody (topS 46)) (defScope (topS 46)) .none kV23 dc23 pm23 an23 cd23 ct23), sl23⟩) (c23 : PySem.W.codeIn K cd23 "_law_spoilt_rows" = true) (k23 : PySem.W.keepIn K (.ref f23) = true)
    {f24 : Addr} {od24 an24 : Option Addr} {sl24 : Array (Option Value)} {oc24 kV24 dc24 pm24 cd24 ct24 : Value} (a24 : PySem.W.nsIn K mainGlobals "_law_spoilt" = some (some (.ref f24))) (l24 : K.lookup f24 = some ⟨oc24, od24, .func (PySem.W.fnOf "_law_spoilt" "_law_spoilt" (defArgs (topS 47)) (defBody (topS 47)) (defScope (topS 47)) .none kV24 dc24 pm24 an24 cd24 ct24), sl24⟩) (c24 : PySem.W.codeIn K cd24 "_law_spoilt" = true) (k24 : PySem.W.keepIn K (.ref f24) = true)
    {f25 : Addr} {od25 an25 : Option Addr} {sl25 : Array (Option Value)} {oc25 kV25 dc25 pm25 cd25 ct25 : Value} (a25 : PySem.W.nsIn K mainGlobals "_law_tape" = some (some (.ref f25))) (l25 : K.lookup f25 = some ⟨oc25, od25, .func (PySem.W.fnOf "_law_tape" "_law_tape" (defArgs (topS 33)) (defBody (topS 33)) (defScope (topS 33)) .none kV25 dc25 pm25 an25 cd25 ct25), sl25⟩) (c25 : PySem.W.codeIn K cd25 "_law_tape" = true) (k25 : PySem.W.keepIn K (.ref f25) = true)
    {f26 : Addr} {od26 an26 : Option Addr} {sl26 : Array (Option Value)} {oc26 kV26 dc26 pm26 cd26 ct26 : Value} (a26 : PySem.W.nsIn K mainGlobals "_law_domain" = some (some (.ref f26))) (l26 : K.lookup f26 = some ⟨oc26, od26, .func (PySem.W.fnOf "_law_domain" "_law_domain" (defArgs (topS 37)) (defBody (topS 37)) (defScope (topS 37)) .none kV26 dc26 pm26 an26 cd26 ct26), sl26⟩) (c26 : PySem.W.codeIn K cd26 "_law_domain" = true) (k26 : PySem.W.keepIn K (.ref f26) = true)
    {f27 : Addr} {od27 an27 : Option Addr} {sl27 : Array (Option Value)} {oc27 kV27 dc27 pm27 cd27 ct27 : Value} (a27 : PySem.W.nsIn K mainGlobals "_law_names" = some (some (.ref f27))) (l27 : K.lookup f27 = some ⟨oc27, od27, .func (PySem.W.fnOf "_law_names" "_law_names" (defArgs (topS 36)) (defBody (topS 36)) (defScope (topS 36)) .none kV27 dc27 pm27 an27 cd27 ct27), sl27⟩) (c27 : PySem.W.codeIn K cd27 "_law_names" = true) (k27 : PySem.W.keepIn K (.ref f27) = true)
    {f28 : Addr} {od28 an28 : Option Addr} {sl28 : Array (Option Value)} {oc28 kV28 dc28 pm28 cd28 ct28 : Value} (a28 : PySem.W.nsIn K mainGlobals "_law_unknowns" = some (some (.ref f28))) (l28 : K.lookup f28 = some ⟨oc28, od28, .func (PySem.W.fnOf "_law_unknowns" "_law_unknowns" (defArgs (topS 38)) (defBody (topS 38)) (defScope (topS 38)) .none kV28 dc28 pm28 an28 cd28 ct28), sl28⟩) (c28 : PySem.W.codeIn K cd28 "_law_unknowns" = true) (k28 : PySem.W.keepIn K (.ref f28) = true)
    {f29 : Addr} {od29 an29 : Option Addr} {sl29 : Array (Option Value)} {oc29 kV29 dc29 pm29 cd29 ct29 : Value} (a29 : PySem.W.nsIn K mainGlobals "_law_some" = some (some (.ref f29))) (l29 : K.lookup f29 = some ⟨oc29, od29, .func (PySem.W.fnOf "_law_some" "_law_some" (defArgs (topS 39)) (defBody (topS 39)) (defScope (topS 39)) .none kV29 dc29 pm29 an29 cd29 ct29), sl29⟩) (c29 : PySem.W.codeIn K cd29 "_law_some" = true) (k29 : PySem.W.keepIn K (.ref f29) = true)
    {f30 : Addr} {od30 an30 : Option Addr} {sl30 : Array (Option Value)} {oc30 kV30 dc30 pm30 cd30 ct30 : Value} (a30 : PySem.W.nsIn K mainGlobals "_law_view" = some (some (.ref f30))) (l30 : K.lookup f30 = some ⟨oc30, od30, .func (PySem.W.fnOf "_law_view" "_law_view" (defArgs (topS 42)) (defBody (topS 42)) (defScope (topS 42)) .none kV30 dc30 pm30 an30 cd30 ct30), sl30⟩) (c30 : PySem.W.codeIn K cd30 "_law_view" = true) (k30 : PySem.W.keepIn K (.ref f30) = true)
    {f31 : Addr} {od31 an31 : Option Addr} {sl31 : Array (Option Value)} {oc31 kV31 dc31 pm31 cd31 ct31 : Value} (a31 : PySem.W.nsIn K mainGlobals "law" = some (some (.ref f31))) (l31 : K.lookup f31 = some ⟨oc31, od31, .func (PySem.W.fnOf "law" "law" (defArgs (topS 49)) (defBody (topS 49)) (defScope (topS 49)) .none kV31 dc31 pm31 an31 cd31 ct31), sl31⟩) (c31 : PySem.W.codeIn K cd31 "law" = true) (k31 : PySem.W.keepIn K (.ref f31) = true)
    (z_all : PySem.W.nsIn K mainGlobals "all" = some none)
    (z_bool : PySem.W.nsIn K mainGlobals "bool" = some none)
    (z_dict : PySem.W.nsIn K mainGlobals "dict" = some none)
    (z_enumerate : PySem.W.nsIn K mainGlobals "enumerate" = some none)
    (z_int : PySem.W.nsIn K mainGlobals "int" = some none)
    (z_isinstance : PySem.W.nsIn K mainGlobals "isinstance" = some none)
    (z_len : PySem.W.nsIn K mainGlobals "len" = some none)
    (z_list : PySem.W.nsIn K mainGlobals "list" = some none)
    (z_max : PySem.W.nsIn K mainGlobals "max" = some none)
    (z_min : PySem.W.nsIn K mainGlobals "min" = some none)
    (z_range : PySem.W.nsIn K mainGlobals "range" = some none)
    (z_set : PySem.W.nsIn K mainGlobals "set" = some none)
    (z_sorted : PySem.W.nsIn K mainGlobals "sorted" = some none)
    (z_str : PySem.W.nsIn K mainGlobals "str" = some none)
    (z_sum : PySem.W.nsIn K mainGlobals "sum" = some none)
    (z_tuple : PySem.W.nsIn K mainGlobals "tuple" = some none)
    (z_type : PySem.W.nsIn K mainGlobals "type" = some none)
    (z_zip : PySem.W.nsIn K mainGlobals "zip" = some none)
    {tk_MOST_SEEN : Tok} (a_MOST_SEEN : PySem.W.nsIn K mainGlobals "MOST_SEEN" = some (some (.int 3 tk_MOST_SEEN)))
    {tk_MOST_VIEW_ROWS : Tok} (a_MOST_VIEW_ROWS : PySem.W.nsIn K mainGlobals "MOST_VIEW_ROWS" = some (some (.int 256 tk_MOST_VIEW_ROWS)))
    {c_BadModel c_BadView c_BadText c_UnknownName c_BadRow c_BadWish c_NothingLeft c_TooFar c_WrittenError fI : Addr} {nm q_ : Str} {Nn : Addr} {bs : List Value} {sn : List Str} {sub : List Value} {ab : Bool} {col : Option Bool} {dd : Option Addr} {x0 x1 x2 x3 x5 : Option Value} {odI anI : Option Addr} {slI : Array (Option Value)} {ocI kVI dcI pmI cdI ctI : Value}
    (b_BadModel : PySem.W.nsIn K mainGlobals "BadModel" = some (some (.ref c_BadModel)))
    (b_BadView : PySem.W.nsIn K mainGlobals "BadView" = some (some (.ref c_BadView)))
    (b_BadText : PySem.W.nsIn K mainGlobals "BadText" = some (some (.ref c_BadText)))
    (b_UnknownName : PySem.W.nsIn K mainGlobals "UnknownName" = some (some (.ref c_UnknownName)))
    (b_BadRow : PySem.W.nsIn K mainGlobals "BadRow" = some (some (.ref c_BadRow)))
    (b_BadWish : PySem.W.nsIn K mainGlobals "BadWish" = some (some (.ref c_BadWish)))
    (b_NothingLeft : PySem.W.nsIn K mainGlobals "NothingLeft" = some (some (.ref c_NothingLeft)))
    (b_TooFar : PySem.W.nsIn K mainGlobals "TooFar" = some (some (.ref c_TooFar)))
    (b_WrittenError : PySem.W.nsIn K mainGlobals "WrittenError" = some (some (.ref c_WrittenError)))
    (xL : K.lookup c_BadView = some (excClassObj nm q_ c_BadView Nn bs [.ref c_WrittenError, .type "ValueError", .type "Exception", .type "BaseException", .type "object"] true sn sub ab col dd x0 x1 x2 x3 x5 "ValueError.__new__"))
    (sa : PySem.W.findIn K (.ref c_BadView) "__setattr__" = some (some (.builtin "object.__setattr__")))
    (eC : PySem.W.subIn K (.ref c_BadView) (.type "BaseException") = some true)
    (tC : PySem.W.typeIn K (.ref c_BadView) = some (.type "type"))
    (kC : PySem.W.keepIn K (.ref c_BadView) = true)
    (i1 : PySem.W.findIn K (.ref c_BadView) "__init__" = some (some (.ref fI)))
    (t1 : PySem.W.typeIn K (.ref fI) = some (.type "function"))
    (lI : K.lookup fI = some ⟨ocI, odI, .func (PySem.W.fnOf "__init__" "BadView.__init__" (defArgs s_init) (defBody s_init) (defScope s_init) .none kVI dcI pmI anI cdI ctI), slI⟩)
    (cI : PySem.W.codeIn K cdI "BadView.__init__" = true)
    (kI : PySem.W.keepIn K (.ref fI) = true)
    (cl : PySem.W.isClsIn K c_BadView = true)
    (ga : PySem.W.findIn K (.ref c_BadView) "__getattribute__" = some (some (.builtin "BaseException.__getattribute__")))
    (gg : PySem.W.findIn K (.ref c_BadView) "__getattr__" = some none)
    (nF : PySem.W.findIn K (.ref c_BadView) "number" = some none)
    (hD : PySem.W.hasDictIn K c_BadView = true)
    (cf : PySem.W.findIn K (.ref c_BadView) "__class__" = some (some (.builtin "object.__class__")))
    (tk : PySem.W.takesIn K (.builtin "object.__class__") = some true)
    (ob : PySem.W.mroIn K c_BadView (.type "object") = some true)
    (sC : PySem.W.subIn K (.ref c_BadView) (.ref c_BadView) = some true)
    (wr : PySem.W.readsIn K c_WrittenError (.type "type") = true)
    (wg : PySem.W.specialIn K (.ref c_WrittenError) "__getattribute__" = some (some (.builtin "type.__getattribute__")))
    (wf : PySem.W.findCls K (.ref c_WrittenError) (.type "type") "__init__" = some (.val (.builtin "ValueError.__init__")))
    (n_BadModel : PySem.W.isClsIn K c_BadModel = true)
    (y_BadModel : PySem.W.typeIn K (.ref c_BadModel) = some (.type "type"))
    (s_BadModel : PySem.W.subIn K (.ref c_BadView) (.ref c_BadModel) = some false)
    (n_BadText : PySem.W.isClsIn K c_BadText = true)
    (y_BadText : PySem.W.typeIn K (.ref c_BadText) = some (.type "type"))
    (s_BadText : PySem.W.subIn K (.ref c_BadView) (.ref c_BadText) = some false)
    (n_UnknownName : PySem.W.isClsIn K c_UnknownName = true)
    (y_UnknownName : PySem.W.typeIn K (.ref c_UnknownName) = some (.type "type"))
    (s_UnknownName : PySem.W.subIn K (.ref c_BadView) (.ref c_UnknownName) = some false)
    (n_BadRow : PySem.W.isClsIn K c_BadRow = true)
    (y_BadRow : PySem.W.typeIn K (.ref c_BadRow) = some (.type "type"))
    (s_BadRow : PySem.W.subIn K (.ref c_BadView) (.ref c_BadRow) = some false)
    (n_BadWish : PySem.W.isClsIn K c_BadWish = true)
    (y_BadWish : PySem.W.typeIn K (.ref c_BadWish) = some (.type "type"))
    (s_BadWish : PySem.W.subIn K (.ref c_BadView) (.ref c_BadWish) = some false)
    (n_NothingLeft : PySem.W.isClsIn K c_NothingLeft = true)
    (y_NothingLeft : PySem.W.typeIn K (.ref c_NothingLeft) = some (.type "type"))
    (s_NothingLeft : PySem.W.subIn K (.ref c_BadView) (.ref c_NothingLeft) = some false)
    (n_TooFar : PySem.W.isClsIn K c_TooFar = true)
    (y_TooFar : PySem.W.typeIn K (.ref c_TooFar) = some (.type "type"))
    (s_TooFar : PySem.W.subIn K (.ref c_BadView) (.ref c_TooFar) = some false)
    (n_WrittenError : PySem.W.isClsIn K c_WrittenError = true)
    (y_WrittenError : PySem.W.typeIn K (.ref c_WrittenError) = some (.type "type"))
    (s_WrittenError : PySem.W.subIn K (.ref c_BadView) (.ref c_WrittenError) = some true) :
    ∃ fd : FuncData, (∀ (s : Shared) (v : Value), BindsTo s fd ⟨[v], []⟩ [("script", v)]) ∧ ∀ base : Heap, K.In base → base.Ns mainGlobals mg → FnOk P w K mg base CX0 8 fa fd ["script"] (sp_law K) := by
  have F_is_tuple := fun_mk (st := topS 1) l0 c0 k0
  have G_is_tuple := PySem.W.mg_of X G a0
  have F__is_row := fun_mk (st := topS 24) l1 c1 k1
  have G__is_row := PySem.W.mg_of X G a1
  have F__many_tuples := fun_mk (st := topS 25) l2 c2 k2
  have G__many_tuples := PySem.W.mg_of X G a2
  have F_is_unknown := fun_mk (st := topS 3) l3 c3 k3
  have G_is_unknown := PySem.W.mg_of X G a3
  have F_are_unknowns := fun_mk (st := topS 4) l4 c4 k4
  have G_are_unknowns := PySem.W.mg_of X G a4
  have F_ascends := fun_mk (st := topS 2) l5 c5 k5
  have G_ascends := PySem.W.mg_of X G a5
  have F__is_item := fun_mk (st := topS 23) l6 c6 k6
  have G__is_item := PySem.W.mg_of X G a6
  have F_domains_of := fun_mk (st := topS 16) l7 c7 k7
  have G_domains_of := PySem.W.mg_of X G a7
  have F_check_items := fun_mk (st := topS 22) l8 c8 k8
  have G_check_items := PySem.W.mg_of X G a8
  have F_check_view := fun_mk (st := topS 29) l9 c9 k9
  have G_check_view := PySem.W.mg_of X G a9
  have F__law_checked := fun_mk (st := topS 44) l10 c10 k10
  have G__law_checked := PySem.W.mg_of X G a10
  have F__law_mixed := fun_mk (st := topS 32) l11 c11 k11
  have G__law_mixed := PySem.W.mg_of X G a11
  have F__law_draw := fun_mk (st := topS 34) l12 c12 k12
  have G__law_draw := PySem.W.mg_of X G a12
  have F__law_all := fun_mk (st := topS 40) l13 c13 k13
  have G__law_all := PySem.W.mg_of X G a13
  have F__law_same := fun_mk (st := topS 35) l14 c14 k14
  have G__law_same := PySem.W.mg_of X G a14
  have F__law_at := fun_mk (st := topS 41) l15 c15 k15
  have G__law_at := PySem.W.mg_of X G a15
  have F__law_seen := fun_mk (st := topS 43) l16 c16 k16
  have G__law_seen := PySem.W.mg_of X G a16
  have F__value_seen := fun_mk (st := topS 27) l17 c17 k17
  have G__value_seen := PySem.W.mg_of X G a17
  have F_names_in := fun_mk (st := topS 18) l18 c18 k18
  have G_names_in := PySem.W.mg_of X G a18
  have F_filling_seen := fun_mk (st := topS 26) l19 c19 k19
  have G_filling_seen := PySem.W.mg_of X G a19
  have F_seen := fun_mk (st := topS 30) l20 c20 k20
  have G_seen := PySem.W.mg_of X G a20
  have F__law_large_right := fun_mk (st := topS 48) l21 c21 k21
  have G__law_large_right := PySem.W.mg_of X G a21
  have F__law_spoilt_names := fun_mk (st := topS 45) l22 c22 k22
  have G__law_spoilt_names := PySem.W.mg_of X G a22
  have F__law_spoilt_rows := fun_mk (st := topS 46) l23 c23 k23
  have G__law_spoilt_rows := PySem.W.mg_of X G a23
  have F__law_spoilt := fun_mk (st := topS 47) l24 c24 k24
  have G__law_spoilt := PySem.W.mg_of X G a24
  have F__law_tape := fun_mk (st := topS 33) l25 c25 k25
  have G__law_tape := PySem.W.mg_of X G a25
  have F__law_domain := fun_mk (st := topS 37) l26 c26 k26
  have G__law_domain := PySem.W.mg_of X G a26
  have F__law_names := fun_mk (st := topS 36) l27 c27 k27
  have G__law_names := PySem.W.mg_of X G a27
  have F__law_unknowns := fun_mk (st := topS 38) l28 c28 k28
  have G__law_unknowns := PySem.W.mg_of X G a28
  have F__law_some := fun_mk (st := topS 39) l29 c29 k29
  have G__law_some := PySem.W.mg_of X G a29
  have F__law_view := fun_mk (st := topS 42) l30 c30 k30
  have G__law_view := PySem.W.mg_of X G a30
  have F_law := fun_mk (st := topS 49) l31 c31 k31
  have G_law := PySem.W.mg_of X G a31
  have m_all := PySem.W.mg_none_of X G z_all
  have m_bool := PySem.W.mg_none_of X G z_bool
  have m_dict := PySem.W.mg_none_of X G z_dict
  have m_enumerate := PySem.W.mg_none_of X G z_enumerate
  have m_int := PySem.W.mg_none_of X G z_int
  have m_isinstance := PySem.W.mg_none_of X G z_isinstance
  have m_len := PySem.W.mg_none_of X G z_len
  have m_list := PySem.W.mg_none_of X G z_list
  have m_max := PySem.W.mg_none_of X G z_max
  have m_min := PySem.W.mg_none_of X G z_min
  have m_range := PySem.W.mg_none_of X G z_range
  have m_set := PySem.W.mg_none_of X G z_set
  have m_sorted := PySem.W.mg_none_of X G z_sorted
  have m_str := PySem.W.mg_none_of X G z_str
  have m_sum := PySem.W.mg_none_of X G z_sum
  have m_tuple := PySem.W.mg_none_of X G z_tuple
  have m_type := PySem.W.mg_none_of X G z_type
  have m_zip := PySem.W.mg_none_of X G z_zip
  have G_MOST_SEEN := PySem.W.mg_of X G a_MOST_SEEN
  have G_MOST_VIEW_ROWS := PySem.W.mg_of X G a_MOST_VIEW_ROWS
  have G_BadModel := PySem.W.mg_of X G b_BadModel
  have G_BadView := PySem.W.mg_of X G b_BadView
  have G_BadText := PySem.W.mg_of X G b_BadText
  have G_UnknownName := PySem.W.mg_of X G b_UnknownName
  have G_BadRow := PySem.W.mg_of X G b_BadRow
  have G_BadWish := PySem.W.mg_of X G b_BadWish
  have G_NothingLeft := PySem.W.mg_of X G b_NothingLeft
  have G_TooFar := PySem.W.mg_of X G b_TooFar
  have G_WrittenError := PySem.W.mg_of X G b_WrittenError
  have OX : OexC K c_BadView := ⟨⟨nm, q_, Nn, bs, _, sn, sub, ab, col, dd, x0, x1, x2, x3, x5, xL, rfl⟩, sa, eC, tC, kC⟩
  have TE : ExI K c_BadView := ⟨cl, ga, ⟨none, gg⟩, eC, cf, sp_class, tk, ob⟩
  have TW : WiC K c_WrittenError := ⟨wr, wg, wf⟩
  have XF : XfC K c_BadView := ⟨ga, gg, eC, hD⟩
  have kn_BadModel := kit_no sC n_BadModel y_BadModel s_BadModel
  have kn_BadText := kit_no sC n_BadText y_BadText s_BadText
  have kn_UnknownName := kit_no sC n_UnknownName y_UnknownName s_UnknownName
  have kn_BadRow := kit_no sC n_BadRow y_BadRow s_BadRow
  have kn_BadWish := kit_no sC n_BadWish y_BadWish s_BadWish
  have kn_NothingLeft := kit_no sC n_NothingLeft y_NothingLeft s_NothingLeft
  have kn_TooFar := kit_no sC n_TooFar y_TooFar s_TooFar
  have FF : ExFV K c_BadModel c_BadView c_BadText c_UnknownName c_BadRow c_BadWish c_NothingLeft c_TooFar c_WrittenError := ⟨⟨OX, nF⟩, exm_me eC cl tC sC, kit_yes n_WrittenError y_WrittenError s_WrittenError, kn_UnknownName, by simp only [List.map_cons, List.map_nil, PySem.W.kitAny, kn_BadModel, kn_BadRow, kn_BadText, kn_BadWish, kn_NothingLeft, kn_TooFar]⟩
  have F_init := fun_mk (st := s_init) lI cI kI
  have e := hfa.symm.trans G_law
  cases e
  refine ⟨PySem.W.fnOf "law" "law" (defArgs (topS 49)) (defBody (topS 49)) (defScope (topS 49)) .none kV31 dc31 pm31 an31 cd31 ct31, fun s v => .of_eq rfl, fun base _ _ => ?_⟩
  have C_is_tuple := ok_is_tuple (P := P) (w := w) (base := base) F_is_tuple G_is_tuple  m_len m_tuple m_type 
  have C__is_row := ok__is_row (P := P) (w := w) (base := base) F__is_row G__is_row C_is_tuple m_all m_int m_len m_type m_zip 
  have C__many_tuples := ok__many_tuples (P := P) (w := w) (base := base) F__many_tuples G__many_tuples  m_len 
  have C_is_unknown := ok_is_unknown (P := P) (w := w) (base := base) F_is_unknown G_is_unknown  m_str m_type 
  have C_are_unknowns := ok_are_unknowns (P := P) (w := w) (base := base) F_are_unknowns G_are_unknowns C_is_tuple C_is_unknown m_all m_len m_set 
  have C_ascends := ok_ascends (P := P) (w := w) (base := base) F_ascends G_ascends  m_all m_len m_range 
  have C__is_item := ok__is_item (P := P) (w := w) (base := base) F__is_item G__is_item C__is_row C__many_tuples C_are_unknowns C_ascends C_is_tuple m_all m_len G_MOST_SEEN ⟨_, rfl⟩ G_MOST_VIEW_ROWS ⟨_, rfl⟩
  have C_domains_of := ok_domains_of (P := P) (w := w) (base := base) F_domains_of G_domains_of   
  have N_init := ok_init (P := P) (w := w) (base := base) F_init G_WrittenError TW
  have N_check_items := ok_check_items (P := P) (w := w) (base := base) F_check_items C__is_item C_domains_of C_is_tuple m_enumerate m_len  OX i1 t1 N_init (F_init.binds (fun _ _ _ _ _ _ us hl => match us, hl with | [_, _], _ => rfl)) G_BadView
  have X_check_items : CalX P w K mg base "check_items" 4 ["one", "other", "value"] (sp_check_items K c_BadView) := ⟨_, _, N_check_items, F_check_items.kp, F_check_items.binds (fun _ _ _ _ _ _ us hl => match us, hl with | [_, _, _], _ => rfl), G_check_items⟩
  have N_check_view := ok_check_view (P := P) (w := w) (base := base) F_check_view X_check_items
  have X_check_view : CalX P w K mg base "check_view" 5 ["one", "other", "value"] (sp_check_view K c_BadView) := ⟨_, _, N_check_view, F_check_view.kp, F_check_view.binds (fun _ _ _ _ _ _ us hl => match us, hl with | [_, _, _], _ => rfl), G_check_view⟩
  have XK_check_view : CalXK P w K mg base "check_view" 5 ["one", "other", "value"] ["value", "other", "one"] gR (sp_check_view K c_BadView) := ⟨_, _, gR, N_check_view, F_check_view.kp, AW.Fun.kbR F_check_view (by decide) (fun _ _ _ _ _ _ us hl => match us, hl with | [_, _, _], _ => rfl), G_check_view⟩
  have C__law_checked := ok__law_checked (P := P) (w := w) (base := base) FF TE XF nF F__law_checked G__law_checked X_check_view XK_check_view m_isinstance G_BadModel G_BadView G_BadText G_UnknownName G_BadRow G_BadWish G_NothingLeft G_TooFar G_WrittenError
  have C__law_mixed := ok__law_mixed (P := P) (w := w) (base := base) F__law_mixed G__law_mixed  m_int 
  have C__law_draw := ok__law_draw (P := P) (w := w) (base := base) F__law_draw G__law_draw C__law_mixed m_int m_len 
  have C__law_all := ok__law_all (P := P) (w := w) (base := base) F__law_all G__law_all   
  have C__law_same := ok__law_same (P := P) (w := w) (base := base) F__law_same G__law_same  m_bool m_int m_isinstance m_len m_range m_str m_tuple 
  have C__law_at := ok__law_at (P := P) (w := w) (base := base) F__law_at G__law_at  m_dict m_len m_range 
  have C__law_seen := ok__law_seen (P := P) (w := w) (base := base) F__law_seen G__law_seen C__law_at m_tuple 
  have C__value_seen := ok__value_seen (P := P) (w := w) (base := base) F__value_seen G__value_seen  m_tuple 
  have C_names_in := ok_names_in (P := P) (w := w) (base := base) F_names_in G_names_in  m_tuple 
  have C_filling_seen := ok_filling_seen (P := P) (w := w) (base := base) F_filling_seen G_filling_seen C__value_seen C_names_in m_tuple m_zip 
  have N_seen := okN_seen (P := P) (w := w) (base := base) F_seen G_seen C_filling_seen  
  have C_seen := ok_seen (P := P) (w := w) (base := base) F_seen G_seen C_filling_seen  
  have C__law_large_right := ok__law_large_right (P := P) (w := w) (base := base) F__law_large_right G__law_large_right C__law_all C__law_checked C__law_draw C__law_same C__law_seen C_seen m_int m_len m_range m_str m_sum m_tuple 
  have C__law_spoilt_names := ok__law_spoilt_names (P := P) (w := w) (base := base) F__law_spoilt_names G__law_spoilt_names C__law_draw m_len m_tuple 
  have C__law_spoilt_rows := ok__law_spoilt_rows (P := P) (w := w) (base := base) F__law_spoilt_rows G__law_spoilt_rows C__law_draw m_len m_range 
  have C__law_spoilt := ok__law_spoilt (P := P) (w := w) (base := base) F__law_spoilt G__law_spoilt C__law_draw C__law_spoilt_names C__law_spoilt_rows  
  have C__law_tape := ok__law_tape (P := P) (w := w) (base := base) F__law_tape G__law_tape  m_list 
  have C__law_domain := ok__law_domain (P := P) (w := w) (base := base) F__law_domain G__law_domain C__law_draw m_min m_range m_tuple 
  have C__law_names := ok__law_names (P := P) (w := w) (base := base) F__law_names G__law_names C__law_draw m_len m_range 
  have C__law_unknowns := ok__law_unknowns (P := P) (w := w) (base := base) F__law_unknowns G__law_unknowns C__law_domain C__law_draw C__law_names m_len m_max m_range m_tuple 
  have C__law_some := ok__law_some (P := P) (w := w) (base := base) F__law_some G__law_some C__law_draw m_len m_list m_max m_min m_range 
  have C__law_view := ok__law_view (P := P) (w := w) (base := base) F__law_view G__law_view C__law_all C__law_draw C__law_some m_len m_tuple 
  have CK_seen : CalK P w K mg base "seen" 3 ["one", "other", "view", "filling"] ["filling", "view", "other", "one"] gR (sp_seen K) := ⟨_, _, gR, N_seen, F_seen.kp, AW.Fun.kbR F_seen (by decide) (fun _ _ _ _ _ _ us hl => match us, hl with | [_, _, _, _], _ => rfl), G_seen⟩
  exact ok_law F_law G_law C__law_checked C__law_draw C__law_large_right C__law_same C__law_seen C__law_spoilt C__law_tape C__law_unknowns C__law_view C_seen CK_seen m_len m_range m_sorted m_tuple
end AW
open PySem PySem.W PyProof.Rows
set_option maxHeartbeats 0 in
theorem PySem.Challenge.cw_aswritten_k50_views_checked_and_seen_holds : PySem.Challenge.rw_aswritten_k50_views_checked_and_seen.Holds := by
  w_on; o_law; k_head; (case hw => w_witness2)
  k_fill
  refine L2.walk_of (l := PySem.Challenge.rw_aswritten_k50_views_checked_and_seen) (n := 63) (k := 8) (x := "script") (CX := fun _ => L2.CX0) (sp := fun w => AW.sp_law _) rfl (by decide) rfl ⟨rfl, by decide, by decide⟩ (fun w h Y => PySem.W.kIn_of Y) ?F (fun _ _ a ns hl _ hS => ⟨a, ns, rfl, hS, hl, fun _ => rfl⟩) (fun _ _ _ _ _ h => h)
  case F =>
    intro w mg fa h KX G hmg
    refine' AW.facts7 KX G hmg ?a0 ?l0 ?c0 ?k0 ?a1 ?l1 ?c1 ?k1 ?a2 ?l2 ?c2 ?k2 ?a3 ?l3 ?c3 ?k3 ?a4 ?l4 ?c4 ?k4 ?a5 ?l5 ?c5 ?k5 ?a6 ?l6 ?c6 ?k6 ?a7 ?l7 ?c7 ?k7 ?a8 ?l8 ?c8 ?k8 ?a9 ?l9 ?c9 ?k9 ?a10 ?l10 ?c10 ?k10 ?a11 ?l11 ?c11 ?k11 ?a12 ?l12 ?c12 ?k12 ?a13 ?l13 ?c13 ?k13 ?a14 ?l14 ?c14 ?k14 ?a15 ?l15 ?c15 ?k15 ?a16 ?l16 ?c16 ?k16 ?a17 ?l17 ?c17 ?k17 ?a18 ?l18 ?c18 ?k18 ?a19 ?l19 ?c19 ?k19 ?a20 ?l20 ?c20 ?k20 ?a21 ?l21 ?c21 ?k21 ?a22 ?l22 ?c22 ?k22 ?a23 ?l23 ?c23 ?k23 ?a24 ?l24 ?c24 ?k24 ?a25 ?l25 ?c25 ?k25 ?a26 ?l26 ?c26 ?k26 ?a27 ?l27 ?c27 ?k27 ?a28 ?l28 ?c28 ?k28 ?a29 ?l29 ?c29 ?k29 ?a30 ?l30 ?c30 ?k30 ?a31 ?l31 ?c31 ?k31 ?z_all ?z_bool ?z_dict ?z_enumerate ?z_int ?z_isinstance ?z_len ?z_list ?z_max ?z_min ?z_range ?z_set ?z_sorted ?z_str ?z_sum ?z_tuple ?z_type ?z_zip ?a_MOST_SEEN ?a_MOST_VIEW_ROWS ?b_BadModel ?b_BadView ?b_BadText ?b_UnknownName ?b_BadRow ?b_BadWish ?b_NothingLeft ?b_TooFar ?b_WrittenError ?xL ?sa ?eC ?tC ?kC ?i1 ?t1 ?lI ?cI ?kI ?cl ?ga ?gg ?nF ?hD ?cf ?tk ?ob ?sC ?wr ?wg ?wf ?n_BadModel ?y_BadModel ?s_BadModel ?n_BadText ?y_BadText ?s_BadText ?n_UnknownName ?y_UnknownName ?s_UnknownName ?n_BadRow ?y_BadRow ?s_BadRow ?n_BadWish ?y_BadWish ?s_BadWish ?n_NothingLeft ?y_NothingLeft ?s_NothingLeft ?n_TooFar ?y_TooFar ?s_TooFar ?n_WrittenError ?y_WrittenError ?s_WrittenError
    (case a0 => k_is); (case l0 => k_is); (case c0 => k_is); (case k0 => k_is); (case a1 => k_is); (case l1 => k_is); (case c1 => k_is); (case k1 => k_is); (case a2 => k_is); (case l2 => k_is); (case c2 => k_is); (case k2 => k_is); (case a3 => k_is); (case l3 => k_is); (case c3 => k_is); (case k3 => k_is); (case a4 => k_is); (case l4 => k_is); (case c4 => k_is); (case k4 => k_is); (case a5 => k_is); (case l5 => k_is); (case c5 => k_is); (case k5 => k_is); (case a6 => k_is); (case l6 => k_is); (case c6 => k_is); (case k6 => k_is); (case a7 => k_is); (case l7 => k_is); (case c7 => k_is); (case k7 => k_is); (case a8 => k_is); (case l8 => k_is); (case c8 => k_is); (case k8 => k_is); (case a9 => k_is); (case l9 => k_is); (case c9 => k_is); (case k9 => k_is); (case a10 => k_is); (case l10 => k_is); (case c10 => k_is); (case k10 => k_is); (case a11 => k_is); (case l11 => k_is); (case c11 => k_is); (case k11 => k_is); (case a12 => k_is); (case l12 => k_is); (case c12 => k_is); (case k12 => k_is); (case a13 => k_is); (case l13 => k_is); (case c13 => k_is); (case k13 => k_is); (case a14 => k_is); (case l14 => k_is); (case c14 => k_is); (case k14 => k_is); (case a15 => k_is); (case l15 => k_is); (case c15 => k_is); (case k15 => k_is); (case a16 => k_is); (case l16 => k_is); (case c16 => k_is); (case k16 => k_is); (case a17 => k_is); (case l17 => k_is); (case c17 => k_is); (case k17 => k_is); (case a18 => k_is); (case l18 => k_is); (case c18 => k_is); (case k18 => k_is); (case a19 => k_is); (case l19 => k_is); (case c19 => k_is); (case k19 => k_is); (case a20 => k_is); (case l20 => k_is); (case c20 => k_is); (case k20 => k_is); (case a21 => k_is); (case l21 => k_is); (case c21 => k_is); (case k21 => k_is); (case a22 => k_is); (case l22 => k_is); (case c22 => k_is); (case k22 => k_is); (case a23 => k_is); (case l23 => k_is); (case c23 => k_is); (case k23 => k_is); (case a24 => k_is); (case l24 => k_is); (case c24 => k_is); (case k24 => k_is); (case a25 => k_is); (case l25 => k_is); (case c25 => k_is); (case k25 => k_is); (case a26 => k_is); (case l26 => k_is); (case c26 => k_is); (case k26 => k_is); (case a27 => k_is); (case l27 => k_is); (case c27 => k_is); (case k27 => k_is); (case a28 => k_is); (case l28 => k_is); (case c28 => k_is); (case k28 => k_is); (case a29 => k_is); (case l29 => k_is); (case c29 => k_is); (case k29 => k_is); (case a30 => k_is); (case l30 => k_is); (case c30 => k_is); (case k30 => k_is); (case a31 => k_is); (case l31 => k_is); (case c31 => k_is); (case k31 => k_is); (case z_all => k_is); (case z_bool => k_is); (case z_dict => k_is); (case z_enumerate => k_is); (case z_int => k_is); (case z_isinstance => k_is); (case z_len => k_is); (case z_list => k_is); (case z_max => k_is); (case z_min => k_is); (case z_range => k_is); (case z_set => k_is); (case z_sorted => k_is); (case z_str => k_is); (case z_sum => k_is); (case z_tuple => k_is); (case z_type => k_is); (case z_zip => k_is); (case a_MOST_SEEN => k_is); (case a_MOST_VIEW_ROWS => k_is); (case b_BadModel => k_is); (case b_BadView => k_is); (case b_BadText => k_is); (case b_UnknownName => k_is); (case b_BadRow => k_is); (case b_BadWish => k_is); (case b_NothingLeft => k_is); (case b_TooFar => k_is); (case b_WrittenError => k_is); (case xL => k_is); (case sa => k_is); (case eC => k_is); (case tC => k_is); (case kC => k_is); (case i1 => k_is); (case t1 => k_is); (case lI => k_is); (case cI => k_is); (case kI => k_is); (case cl => k_is); (case ga => k_is); (case gg => k_is); (case nF => k_is); (case hD => k_is); (case cf => k_is); (case tk => k_is); (case ob => k_is); (case sC => k_is); (case wr => k_is); (case wg => k_is); (case wf => k_is); (case n_BadModel => k_is); (case y_BadModel => k_is); (case s_BadModel => k_is); (case n_BadText => k_is); (case y_BadText => k_is); (case s_BadText => k_is); (case n_UnknownName => k_is); (case y_UnknownName => k_is); (case s_UnknownName => k_is); (case n_BadRow => k_is); (case y_BadRow => k_is); (case s_BadRow => k_is); (case n_BadWish => k_is); (case y_BadWish => k_is); (case s_BadWish => k_is); (case n_NothingLeft => k_is); (case y_NothingLeft => k_is); (case s_NothingLeft => k_is); (case n_TooFar => k_is); (case y_TooFar => k_is); (case s_TooFar => k_is); (case n_WrittenError => k_is); (case y_WrittenError => k_is); (case s_WrittenError => k_is)

