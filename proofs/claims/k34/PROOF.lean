import PyProof.Rows.All
import Wide.All
import OpenK.AllK
import Wide.FinOn
import HandS.ForMost
import HandS.DictComp
import HandS.Zip
import HandS.TupAny
import HandS.Style
import HandS.Deep
import HandS.CallLocal
import HandS.More
import HandS.Conv
import HandS.SortInts
import HandS.IsInst
import HandS.Steps
import HandS.Walk
import KE.GoesMore
import HandS.WordsDict
import HandS.Defaults
import HandS.Ends
import PySem.Challenge.RW_aswritten_k34_pairings_and_short_lots
set_option Elab.async false
set_option linter.all false
set_option maxRecDepth 100000
set_option maxHeartbeats 4000000
/-! own words over the hand layer: names of readings, calls by a bundle, the lists' in-place store, text times number, keywords alone. -/
namespace AW
open PySem PySem.Spec PyProof.Rows L2

abbrev rAddI : R2 := rI0 fun i j => .int (i + j)
abbrev rSubI : R2 := rI0 fun i j => .int (i - j)
abbrev rMulI : R2 := rI CMul fun i j => .int (i * j)
abbrev rDivI : R2 := rI CDiv fun i j => .int (i / j)
abbrev rModI : R2 := rI (fun _ j => 0 < j) fun i j => .int (i % j)
abbrev rPowI : R2 := rI CPow fun i j => .int (i ^ j.toNat)
abbrev rLtI : R2 := rI0 fun i j => .bl (decide (i < j))
abbrev rLeI : R2 := rI0 fun i j => .bl (decide (i ≤ j))
abbrev rGtI : R2 := rI0 fun i j => .bl (decide (j < i))
abbrev rGeI : R2 := rI0 fun i j => .bl (decide (j ≤ i))
abbrev rNeg : V → Hp → VK → Prop := rU fun i => .int (-i)
def rAddS : R2 := fun x y H Q => ∃ i j, x = .str i ∧ y = .str j ∧ i.length + j.length ≤ sizeLine ∧ Q (.str (i ++ j)) H
theorem op_addS {X : Cx} : OpR X (binaryOp .Add) rAddS := op_add_str
def rRepS : R2 := fun x y H Q => ∃ z n, x = .str z ∧ y = .int n ∧ MulOk z n ∧ Q (.str (Txt.mul z n)) H
theorem op_repS {X : Cx} : OpR X (binaryOp .Mult) rRepS := by
  intro pins s σ H x y v u Q I rx ry h
  obtain ⟨z, n, rfl, rfl, ok, q⟩ := h
  obtain ⟨t, rfl⟩ := rx
  obtain ⟨t', rfl⟩ := ry
  exact SB.mul ok fun t2 k => ⟨.str _, H, I.tok _, ⟨_, rfl⟩, q⟩
def rLen1 (K : PySem.W.Frag) : List V → Hp → VK → Prop := fun xs H Q => ∃ x n, xs = [x] ∧ LenV K x H n ∧ Q (.int n) H
theorem call_len1 {X : Cx} : CallR X (.builtin "len") (rLen1 X.K) := call_len
def rAbs : List V → Hp → VK → Prop := fun xs H Q => ∃ i, xs = [.int i] ∧ Q (.int (if i < 0 then -i else i)) H
theorem call_abs1 {X : Cx} : CallR X (.builtin "abs") rAbs := call_abs
def rInt1 : List V → Hp → VK → Prop := fun xs H Q => (∃ i, xs = [.int i] ∧ Q (.int i) H) ∨ ∃ k, xs = [.bl k] ∧ Q (.int (if k then 1 else 0)) H
def rStr1 : List V → Hp → VK → Prop := fun xs H Q => ∃ i, xs = [.int i] ∧ i.natAbs.log2 < 1920 ∧ Q (.str (toString i)) H
def rMax2 : List V → Hp → VK → Prop := fun xs H Q => ∃ i j, xs = [.int i, .int j] ∧ Q (.int (if j > i then j else i)) H
def rMin2 : List V → Hp → VK → Prop := fun xs H Q => ∃ i j, xs = [.int i, .int j] ∧ Q (.int (if j < i then j else i)) H
def rListOf (K : PySem.W.Frag) : List V → Hp → VK → Prop := fun xs H Q => ∃ p ys, xs = [.ref p] ∧ (SqL K H p ys ∨ SqT K H p ys) ∧ ∀ l, H l = none → Q (.ref l) (upd H l (.lst ys))
theorem call_listOf {X : Cx} : CallR X (.type "list") (rListOf X.K) := call_list_of
def rDictP (K : PySem.W.Frag) : List V → Hp → VK → Prop := fun xs H Q => ∃ (a : Addr) (ps : List Addr) (kvs : List (Key × V)), xs = [.ref a] ∧ SqL K H a (ps.map V.ref) ∧ Paired (fun p kv => SqT K H p [kV kv.1, kv.2]) ps kvs ∧ ∀ p, H p = none → Q (.ref p) (upd H p (.dK (mergeK [] kvs)))
theorem call_dictP1 {X : Cx} (hc : X.calm = true) : CallR X (.type "dict") (rDictP X.K) := call_dictP hc
def rSortDI : List V → Hp → VK → Prop := fun xs H Q => ∃ (a : Addr) (kvs : List (Key × V)) (ks : List Int), xs = [.ref a] ∧ Rd H a (.dK kvs) ∧ kvs.map (·.1) = ks.map Sum.inl ∧ ks.length < 64 ∧
    ∀ (ys : List Int) (p : Addr), ys.Perm ks → ys.Pairwise (· ≤ ·) → H p = none → Q (.ref p) (upd H p (.lst (ys.map V.int)))
def rIxA (K : PySem.W.Frag) : R2 := fun x y H Q => rIxL K x y H Q ∨ rIxT K x y H Q
theorem ix_any {X : Cx} : IxR X (rIxA X.K) := ix_list.or ix_tup
def rIsN : R2 := fun x y H Q => y = .non ∧ Q (.bl (decide (x = .non))) H
theorem op_isN1 {X : Cx} : OpR X (compareOp .Is) rIsN := op_isN
def rJoin (K : PySem.W.Frag) : V → List V → Hp → VK → Prop := fun x xs H Q => ∃ a p, ∃ ys : List Str, x = .str a ∧ xs = [.ref p] ∧ (SqL K H p (ys.map V.str) ∨ SqT K H p (ys.map V.str)) ∧
  (ys.map (·.length)).sum + ys.length * a.length ≤ 16777216 ∧ Q (.str (Txt.join a ys)) H
theorem units64 {A : Around} {k : Nat} (hr : Room k A) : A.units + 64 < cLine := hr.units
theorem units65 {A : Around} {k : Nat} (hr : Room k A) : A.units + 65 < cLine := by have := hr.un; omega
section
variable {X : Cx}
theorem pe_joinK {o e : Expr} {to te : TE} {apos pos : Pos} (ho : PE X o to) (he : PE X e te) (hs : starEach [e] X.env = [(false, eval e X.env)] := by rfl) (hbase : attributeBase o "join" X.env (eval o X.env) = eval o X.env := by rfl) (hline : (apos.endLine == pos.line) = true := by rfl) :
    PE X (.Call (.Attribute o "join" apos) [e] [] pos) (tM1 (rJoin X.K) to te) := pe_join ho he hs hbase hline

/-! ### a def by name, with all that a call asks of it -/
structure Cal (P : Program) (w : World) (K : PySem.W.Frag) (mg : Str → Option Value) (base : Heap) (x : Str) (k : Nat) (ps : List Str) (sp : Sp) : Prop where
  ex : ∃ (f : Addr) (fd : FuncData), FnOk P w K mg base CX0 k f fd ps sp ∧ PySem.W.keepIn K (.ref f) = true ∧ Binds K fd ps [] ∧ mg x = some (.ref f)
theorem pe_cal {x : Str} {k : Nat} {ps : List Str} {sp : Sp} {e : Expr} {es : List Expr} {t : TA} {p pos : Pos} (C : Cal X.prog X.w X.K X.mg X.base x k ps sp) (hr : Room k X.A) (hg : Gl X x) (ha : PA X (e :: es) t)
    (hdb : (x == ("__debug__" : Str)) = false := by decide) (he : starEach (e :: es) X.env = (false, eval e X.env) :: starEach es X.env := by rfl) (hpl : (backTo pos (starEach es X.env)).any (·.1) = false := by rfl) :
    PE X (.Call (.Name x p) (e :: es) [] pos) (tCall sp [] E0 t) := by
  refine ⟨fun pins s σ H Q I h => ?_⟩
  obtain ⟨f, fd, F, hk, hb, hm⟩ := C.ex
  exact (pe_call F hr hg hm hk hb .nil pass0 ha hdb he hpl).run pins s σ H Q I h
/-- how keywords alone bind -/
structure CalK (P : Program) (w : World) (K : PySem.W.Frag) (mg : Str → Option Value) (base : Heap) (x : Str) (k : Nat) (ps ks : List Str) (gV : List V → List V → List V) (sp : Sp) : Prop where
  ex : ∃ (f : Addr) (fd : FuncData) (g : List Value → List Value → List Value), FnOk P w K mg base CX0 k f fd ps sp ∧ PySem.W.keepIn K (.ref f) = true ∧ KBinds K fd ps ks g gV ∧ mg x = some (.ref f)
theorem pe_calK {x : Str} {k : Nat} {ps ks : List Str} {gV : List V → List V → List V} {sp : Sp} {kws : List Keyword} {tk : TA} {p pos : Pos} (C : CalK X.prog X.w X.K X.mg X.base x k ps ks gV sp) (hr : Room k X.A) (hg : Gl X x) (hkw : PK X kws tk)
    (hall : (backToKw pos (keywordEach kws X.env)).all (·.1.isSome) = true := by rfl) (hks : (backToKw pos (keywordEach kws X.env)).filterMap (·.1) = ks := by rfl)
    (hdb : (x == ("__debug__" : Str)) = false := by decide)
    (hpl : ((backTo pos (starEach [] X.env)).any (·.1) || (backToKw pos (keywordEach kws X.env)).any (·.1.isNone)) = false := by rfl) :
    PE X (.Call (.Name x p) [] kws pos) (tCallK sp gV E0 tNil tk) := by
  refine ⟨fun pins s σ H Q I h => ?_⟩
  obtain ⟨f, fd, g, F, hk, hb, hm⟩ := C.ex
  refine wpAny_Call_Name_kw (ld_glob I hg hm ?_ hdb)
  refine PySem.W.callWith_KW0 (h₀ := X.base) I.ok.mod.kin hk hall (thn (hkw.run pos pins s σ H _ I h) fun ws s2 ⟨zs, H2, I2, rz, q2⟩ => ⟨I2.kIn, ?_⟩) hpl
  rw [hks]
  exact run_fnk (us := []) F hr hb pass0 I2 .nil rz q2
end
/-- a list's item, by values -/
theorem get_list {X : Cx} : PGet X (rIxL X.K) := by
  intro pins s σ H o i ov iv Q I ro ri h
  obtain ⟨p, xs, j, z, rfl, rfl, hq, he, q⟩ := h
  cases ro
  obtain ⟨t, rfl⟩ := ri
  obtain ⟨its, r, pl, hz⟩ := I.list hq
  obtain ⟨m, h1, h2, h3, h4, h5⟩ := atI_get he
  obtain ⟨w, ew, rw'⟩ := r.get h2
  have hl := r.length
  have hn := line63
  have fin : EP X pins σ Q w s := ⟨z, H, I, rw', q⟩
  by_cases h0 : 0 ≤ j
  · have hj : j.toNat = m := by
      rw [seqIndex_of h0 h5] at h1
      exact Option.some.inj h1
    exact wpAny_getItem_list pl.isList h0 (by omega) (by rw [hj]; simpa using ew) fin
  · have hj : (j + (its.toArray.size : Int)).toNat = m := by
      rw [seqIndex_neg (by omega) h4] at h1
      rw [List.size_toArray, ← hl]
      exact Option.some.inj h1
    exact wpAny_getItem_list_neg pl.isList (by omega) (by rw [List.size_toArray] <;> omega) (by omega) (by rw [hj]; simpa using ew) fin
end AW
/-! heaps that go on, the law's state, readings of one def at a time -/
namespace AW
open PySem PySem.Spec PyProof.Rows L2

/-- what goes on: all but the objects of S; tuples and locked things always -/
structure Adv (S : List Addr) (H H' : Hp) : Prop where
  keep : ∀ a o, a ∉ S → H a = some o → H' a = some o
  tup : ∀ a xs, H a = some (.tup xs) → H' a = some (.tup xs)
theorem Adv.refl (S : List Addr) (H : Hp) : Adv S H H := ⟨fun _ _ _ h => h, fun _ _ h => h⟩
theorem Adv.trans {S : List Addr} {H H1 H2 : Hp} (a : Adv S H H1) (b : Adv S H1 H2) : Adv S H H2 := ⟨fun c o n h => b.keep c o n (a.keep c o n h), fun c xs h => b.tup c xs (a.tup c xs h)⟩
theorem Adv.mono {S S' : List Addr} {H H' : Hp} (a : Adv S H H') (h : ∀ b ∈ S, b ∈ S') : Adv S' H H' := ⟨fun c o n q => a.keep c o (fun m => n (h c m)) q, a.tup⟩
theorem Adv.any {S : List Addr} {H H' : Hp} (a : Adv [] H H') : Adv S H H' := a.mono fun _ h => nomatch h
theorem Adv.new {H : Hp} {p : Addr} {o : HO} (h : H p = none) : Adv [] H (upd H p o) :=
  ⟨fun a u _ e => by rw [upd_ne (ne_of_none e h)]; exact e, fun a xs e => by rw [upd_ne (ne_of_none e h)]; exact e⟩
/-- an object that is no tuple is changed -/
theorem Adv.set {H : Hp} {f : Addr} {o u : HO} (e : H f = some u) (nt : ∀ xs, u ≠ .tup xs) : Adv [f] H (upd H f o) :=
  ⟨fun a v n q => by rw [upd_ne (fun z => n (by rw [z]; exact List.mem_singleton.mpr rfl))]; exact q, fun a xs q => by rw [upd_ne (ne_of q e (nt xs).symm)]; exact q⟩
theorem Adv.lst {H : Hp} {f : Addr} {o : HO} {ys : List V} (e : H f = some (.lst ys)) : Adv [f] H (upd H f o) := Adv.set e (fun _ z => by cases z)
theorem Adv.dct {H : Hp} {f : Addr} {o : HO} {ys : List (Key × V)} (e : H f = some (.dK ys)) : Adv [f] H (upd H f o) := Adv.set e (fun _ z => by cases z)
/-- what H does not know yet need not be named -/
theorem Adv.drop {S : List Addr} {f : Addr} {H H' : Hp} (a : Adv (f :: S) H H') (h : H f = none) : Adv S H H' :=
  ⟨fun b o n e => a.keep b o (fun m => by
    rcases List.mem_cons.mp m with z | z
    · rw [z] at e; rw [h] at e; cases e
    · exact n z) e, a.tup⟩
/-- f is new, the rest goes on, f is changed -/
theorem Adv.mut {S : List Addr} {f : Addr} {H H' : Hp} {o u : HO} (a : Adv S H H') (h : H f = none) (e : H' f = some u) (nt : ∀ xs, u ≠ .tup xs) : Adv S H (upd H' f o) :=
  ⟨fun b v n q => by rw [upd_ne (ne_of_none q h)]; exact a.keep b v n q, fun b xs q => by rw [upd_ne (ne_of_none q h)]; exact a.tup b xs q⟩
theorem Adv.free {S : List Addr} {H H' : Hp} {p : Addr} (a : Adv S H H') (hS : p ∉ S) (h : H' p = none) : H p = none := by
  cases q : H p with
  | none => rfl
  | some o =>
    rw [a.keep p o hS q] at h
    cases h
section
variable {K : PySem.W.Frag} {S : List Addr} {H H' : Hp} {a : Addr} {xs : List V}
theorem Adv.sqt (e : Adv S H H') (hf : ∀ o u, H a = some (.frz o u) → a ∉ S) (h : SqT K H a xs) : SqT K H' a xs := by
  rcases h with (h | ⟨o, h⟩) | h
  · exact .inl (.inl (e.tup _ _ h))
  · exact .inl (.inr ⟨o, e.keep _ _ (hf _ _ h) h⟩)
  · exact .inr h
theorem Adv.sql (e : Adv S H H') (hn : a ∉ S) (h : SqL K H a xs) : SqL K H' a xs := by
  rcases h with (h | ⟨o, h⟩) | h
  · exact .inl (.inl (e.keep _ _ hn h))
  · exact .inl (.inr ⟨o, e.keep _ _ hn h⟩)
  · exact .inr h
end
theorem w_new {H : Hp} {o : HO} {Q : V → Hp → Prop} (h : ∀ p H', H p = none → Adv [] H H' → H' p = some o → Q (.ref p) H') : ∀ p, H p = none → Q (.ref p) (upd H p o) := fun p hp => h p _ hp (Adv.new hp) upd_same

/-! ### the law's state at st: five places, the fifth the cells at cs -/
def StOk (st cs : Addr) (H : Hp) : Prop := ∃ (s0 s1 s2 s3 : Int) (ns : List Int),
  H st = some (.lst [.int s0, .int s1, .int s2, .int s3, .ref cs]) ∧ 0 ≤ s2 ∧ cs ≠ st ∧ H cs = some (.lst (ns.map V.int)) ∧ ns.length ≤ 63
/-- a new object is neither -/
theorem StOk.ne {st cs p : Addr} {H : Hp} (h : StOk st cs H) (hp : H p = none) : p ≠ st ∧ p ≠ cs := by
  obtain ⟨_, _, _, _, _, h1, _, _, h2, _⟩ := h
  exact ⟨(ne_of_none h1 hp).symm, (ne_of_none h2 hp).symm⟩
theorem StOk.keep {st cs : Addr} {H H' : Hp} {S : List Addr} (h : StOk st cs H) (e : Adv S H H') (h1 : st ∉ S) (h2 : cs ∉ S) : StOk st cs H' := by
  obtain ⟨s0, s1, s2, s3, ns, a, b, c, d, l⟩ := h
  exact ⟨s0, s1, s2, s3, ns, e.keep _ _ h1 a, b, c, e.keep _ _ h2 d, l⟩
/-- the run goes on: the state alone is changed -/
structure Go (st cs : Addr) (H H' : Hp) : Prop where
  adv : Adv [st] H H'
  ok : StOk st cs H'
theorem Go.refl {st cs : Addr} {H : Hp} (h : StOk st cs H) : Go st cs H H := ⟨.refl _ _, h⟩
theorem Go.trans {st cs : Addr} {H H1 H2 : Hp} (a : Go st cs H H1) (b : Go st cs H1 H2) : Go st cs H H2 := ⟨a.adv.trans b.adv, b.ok⟩
theorem Go.of {st cs : Addr} {H H' : Hp} (h : StOk st cs H) (e : Adv [] H H') : Go st cs H H' := ⟨e.any, h.keep e (fun z => nomatch z) fun z => nomatch z⟩
theorem Go.new {st cs : Addr} {H H' : Hp} (a : Go st cs H H') {H2 : Hp} (e : Adv [] H' H2) : Go st cs H H2 := a.trans (.of a.ok e)
theorem Go.mut {st cs f : Addr} {H H' : Hp} {o u : HO} (a : Go st cs H H') (h : H f = none) (e : H' f = some u) (nt : ∀ xs, u ≠ .tup xs) (n1 : f ≠ st) (n2 : f ≠ cs) : Go st cs H (upd H' f o) :=
  ⟨a.adv.mut h e nt, a.ok.keep (Adv.set e nt) (fun z => n1 (List.mem_singleton.mp z).symm) fun z => n2 (List.mem_singleton.mp z).symm⟩
theorem Go.mutL {st cs f : Addr} {H H' : Hp} {o : HO} {xs : List V} (a : Go st cs H H') (hs : StOk st cs H) (h : H f = none) (e : H' f = some (.lst xs)) : Go st cs H (upd H' f o) :=
  a.mut h e (fun _ z => by cases z) (hs.ne h).1 (hs.ne h).2
theorem Go.mutD {st cs f : Addr} {H H' : Hp} {o : HO} {xs : List (Key × V)} (a : Go st cs H H') (hs : StOk st cs H) (h : H f = none) (e : H' f = some (.dK xs)) : Go st cs H (upd H' f o) :=
  a.mut h e (fun _ z => by cases z) (hs.ne h).1 (hs.ne h).2
theorem Go.keep {st cs a : Addr} {H H' : Hp} {o : HO} (g : Go st cs H H') (n : a ≠ st) (h : H a = some o) : H' a = some o := g.adv.keep a o (fun z => n (List.mem_singleton.mp z)) h
theorem Go.sql {st cs a : Addr} {K : PySem.W.Frag} {H H' : Hp} {xs : List V} (g : Go st cs H H') (n : a ≠ st) (h : SqL K H a xs) : SqL K H' a xs := g.adv.sql (fun z => n (List.mem_singleton.mp z)) h
theorem Go.free {st cs p : Addr} {H H' : Hp} (g : Go st cs H H') (hs : StOk st cs H) (h : H' p = none) : H p = none := g.adv.free (fun z => (g.ok.ne h).1 (List.mem_singleton.mp z)) h
/-- what stands at st is a list: a tuple stands elsewhere -/
theorem StOk.notT {st cs a : Addr} {H : Hp} {xs : List V} (h : StOk st cs H) (e : H a = some (.tup xs)) : a ≠ st := by
  obtain ⟨_, _, _, _, _, h1, _⟩ := h
  exact ne_of e h1 (fun z => by cases z)
end AW
/-! one step of a reading at a time -/
namespace AW
open PySem PySem.Spec PyProof.Rows L2
section
variable {σ : L2.St} {H : Hp} {Q : VK} {ta tb te : TE} {t u : TT} {D : Ends} {t1 t2 : TS} {K : PySem.W.Frag}
theorem w_var {i : Nat} {v : V} (h : σ[i]? = some (some v)) (q : Q v H) : tVar i σ H Q := ⟨v, h, q⟩
theorem w_c {v : V} (q : Q v H) : tC v σ H Q := q
theorem w_op {r : R2} (h : ta σ H fun x H1 => tb σ H1 fun y H2 => r x y H2 Q) : tOp r ta tb σ H Q := h
theorem w_un {r : V → Hp → VK → Prop} (h : ta σ H fun x H1 => r x H1 Q) : tUn r ta σ H Q := h
theorem w_I0 {g : Int → Int → V} {i j : Int} (q : Q (g i j) H) : rI0 g (.int i) (.int j) H Q := ⟨i, j, rfl, rfl, q⟩
theorem w_I {C : Int → Int → Prop} {g : Int → Int → V} {i j : Int} (c : C i j) (q : Q (g i j) H) : rI C g (.int i) (.int j) H Q := ⟨i, j, rfl, rfl, c, q⟩
theorem w_U {g : Int → V} {i : Int} (q : Q (g i) H) : rU g (.int i) H Q := ⟨i, rfl, q⟩
theorem w_cb {r : List V → Hp → VK → Prop} {a : TA} (h : a σ H fun vs H1 => r vs H1 Q) : tCB r a σ H Q := h
theorem w_nil {Q : List V → Hp → Prop} (q : Q [] H) : tNil σ H Q := q
theorem w_cons {Q : List V → Hp → Prop} {a : TA} (h : ta σ H fun x H1 => a σ H1 fun xs H2 => Q (x :: xs) H2) : tCons ta a σ H Q := h
theorem w_call {sp : Sp} {E : XK} {a : TA} (h : a σ H fun vs H1 => sp vs H1 Q E) : tCall sp [] E a σ H Q := by
  show a σ H fun vs H1 => sp (vs ++ []) H1 Q E
  have e : (fun (vs : List V) (H1 : Hp) => sp (vs ++ []) H1 Q E) = fun vs H1 => sp vs H1 Q E := by
    funext vs H1
    rw [List.append_nil]
  rw [e]
  exact h
theorem w_test {Q : Bool → Hp → Prop} (h : te σ H fun x H1 => ∃ k, x = .bl k ∧ Q k H1) : tTest te σ H Q := h
theorem w_B {Q : Bool → Hp → Prop} (h : te σ H fun x H1 => ∃ k, x = .bl k ∧ Q k H1) : tB te σ H Q := h
theorem w_bl {k : Bool} {P : Bool → Prop} (q : P k) : ∃ k', V.bl k = .bl k' ∧ P k' := ⟨k, rfl, q⟩
theorem w_yes {Q : Bool → Hp → Prop} (q : Q true H) : tYes σ H Q := q
theorem w_not {Q : Bool → Hp → Prop} (h : t σ H fun c H1 => Q (!c) H1) : tNot t σ H Q := h
theorem w_and {Q : Bool → Hp → Prop} (h : t σ H fun c H1 => if c = true then u σ H1 Q else Q false H1) : tAnd t u σ H Q := h
theorem w_or {Q : Bool → Hp → Prop} (h : t σ H fun c H1 => if c = true then Q true H1 else u σ H1 Q) : tOr t u σ H Q := h
theorem w_andV (h : ta σ H fun x H1 => ∃ c, x = .bl c ∧ if c = true then tb σ H1 Q else Q (.bl false) H1) : tAndV ta tb σ H Q := h
theorem w_orV (h : ta σ H fun x H1 => ∃ c, x = .bl c ∧ if c = true then Q (.bl true) H1 else tb σ H1 Q) : tOrV ta tb σ H Q := h
theorem w_notV (h : ta σ H fun x H1 => ∃ c, x = .bl c ∧ Q (.bl (!c)) H1) : tNotV ta σ H Q := h
theorem w_if (h : t σ H fun c H1 => if c = true then ta σ H1 Q else tb σ H1 Q) : tIf t ta tb σ H Q := h
def kTupD (xs : List V) (H : Hp) (Q : VK) : Prop := xs.length ≤ sizeLine ∧ ∀ p, H p = none → Q (.ref p) (upd H p (.tup xs))
theorem w_tup {a : TA} (h : a σ H fun xs H1 => kTupD xs H1 Q) : tTup a σ H Q := h
def kLstD (xs : List V) (H : Hp) (Q : VK) : Prop := xs.length ≤ sizeLine ∧ ∀ p, H p = none → Q (.ref p) (upd H p (.lst xs))
theorem w_lst {a : TA} (h : a σ H fun xs H1 => kLstD xs H1 Q) : tLst a σ H Q := h
theorem w_int1 {i : Int} (q : Q (.int i) H) : rInt1 [.int i] H Q := .inl ⟨i, rfl, q⟩
theorem w_int1b {k : Bool} (q : Q (.int (if k then 1 else 0)) H) : rInt1 [.bl k] H Q := .inr ⟨k, rfl, q⟩
theorem w_abs {i : Int} (q : Q (.int (if i < 0 then -i else i)) H) : rAbs [.int i] H Q := ⟨i, rfl, q⟩
theorem w_max2 {i j : Int} (q : Q (.int (if j > i then j else i)) H) : rMax2 [.int i, .int j] H Q := ⟨i, j, rfl, q⟩
theorem w_min2 {i j : Int} (q : Q (.int (if j < i then j else i)) H) : rMin2 [.int i, .int j] H Q := ⟨i, j, rfl, q⟩
theorem w_eq {x y : V} (h : scal x y = true) (q : Q (.bl (decide (x = y))) H) : rEq x y H Q := ⟨h, q⟩
theorem w_ne {x y : V} (h : scal x y = true) (q : Q (.bl (!decide (x = y))) H) : rNe x y H Q := ⟨h, q⟩
theorem w_isN {x : V} (q : Q (.bl (decide (x = .non))) H) : rIsN x .non H Q := ⟨rfl, q⟩
theorem w_isB {a b : Bool} (q : Q (.bl (decide (a = b))) H) : rIsB (.bl a) (.bl b) H Q := ⟨a, b, rfl, rfl, q⟩
theorem w_chain {r r' : R2} {tc : TE} (h : ta σ H fun x H1 => tb σ H1 fun y H2 => r x y H2 fun z H3 => ∃ k, z = .bl k ∧ (if k = true then tc σ H3 fun w' H4 => r' y w' H4 Q else Q (.bl false) H3)) : tChain r r' ta tb tc σ H Q := h
/-- a list's item at a place -/
theorem w_ixL {p : Addr} {xs : List V} {i : Int} {v : V} (h : SqL K H p xs) (e : atI xs i = some v) (q : Q v H) : rIxL K (.ref p) (.int i) H Q := ⟨p, xs, i, v, rfl, rfl, h, e, q⟩
theorem w_ixT {p : Addr} {xs : List V} {i : Int} {v : V} (h : SqT K H p xs) (e : atI xs i = some v) (q : Q v H) : rIxT K (.ref p) (.int i) H Q := ⟨p, xs, i, v, rfl, rfl, h, e, q⟩
theorem w_lenL {p : Addr} {xs : List V} (h : SqL K H p xs) (q : Q (.int (xs.length : Nat)) H) : rLen1 K [.ref p] H Q := ⟨.ref p, xs.length, rfl, .inl ⟨xs, h, rfl⟩, q⟩
theorem w_lenT {p : Addr} {xs : List V} (h : SqT K H p xs) (q : Q (.int (xs.length : Nat)) H) : rLen1 K [.ref p] H Q := ⟨.ref p, xs.length, rfl, .inr ⟨xs, h, rfl⟩, q⟩
/-! statements -/
theorem w_seq (h : t1 { D with nx := t2 D } σ H) : tSeq t1 t2 D σ H := h
theorem w_next (q : D.nx σ H) : tNext D σ H := q
theorem w_ret (h : te σ H D.rt) : tRet te D σ H := h
theorem w_drop (h : te σ H fun _ H1 => D.nx σ H1) : tDrop te D σ H := h
theorem w_asg {g : TG} (h : te σ H fun x H1 => g x σ H1 D.nx) : tAsg te g D σ H := h
theorem w_gname {i : Nat} {v : V} {Q : L2.St → Hp → Prop} (q : Q (σ.set i (some v)) H) : gName i v σ H Q := q
theorem w_ifS (h : t σ H fun b H1 => if b = true then t1 D σ H1 else t2 D σ H1) : tIfS t t1 t2 D σ H := h
theorem w_gsub {s : TSet} {v : V} {Q : L2.St → Hp → Prop} (h : ta σ H fun o H1 => tb σ H1 fun i H2 => s o i v H2 fun H3 => Q σ H3) : gSub ta tb s v σ H Q := h
theorem w_setL {p : Addr} {xs : List V} {k : Int} {j : Nat} {v : V} {Q : Hp → Prop} (h : H p = some (.lst xs)) (e : ixN xs.length k = some j) (q : Q (upd H p (.lst (xs.set j v)))) : rSetL (.ref p) (.int k) v H Q := ⟨p, xs, k, j, rfl, rfl, h, e, q⟩
theorem w_augS {to ti : TE} {tget : V → V → Hp → VK → Prop} {tip : TIp} {tset : TSet} (h : to σ H fun o H1 => ti σ H1 fun i H2 => tget o i H2 fun x H3 => te σ H3 fun y H4 => tip x y H4 fun z H5 => tset o i z H5 fun H6 => D.nx σ H6) : tAugS to ti te tget tip tset D σ H := h
theorem w_ipI {f : Int → Int → Int} {i j : Int} (q : Q (.int (f i j)) H) : ipI f (.int i) (.int j) H Q := ⟨i, j, rfl, rfl, q⟩
theorem w_ite {c A B : Prop} [Decidable c] (h1 : c → A) (h2 : ¬c → B) : if c then A else B := ite2 h1 h2
theorem w_iteB {c : Prop} [Decidable c] {A B : Prop} (h1 : c → A) (h2 : ¬c → B) : if (decide c) = true then A else B := ite2 (fun h => h1 (of_decide_eq_true h)) fun h => h2 fun z => h (decide_eq_true z)
theorem w_iteNB {c : Prop} [Decidable c] {A B : Prop} (h1 : ¬c → A) (h2 : c → B) : if (!decide c) = true then A else B := ite2 (fun h => h1 fun z => by rw [decide_eq_true z] at h; cases h) fun h => h2 (Classical.byContradiction fun z => h (by rw [decide_eq_false z]; rfl))
/-! slices, lists joined, append -/
theorem w_sl {r : V → Option Int → Option Int → Hp → VK → Prop} {tl th : TO} (h : te σ H fun x H1 => tl σ H1 fun l H2 => th σ H2 fun u H3 => r x l u H3 Q) : tSl r te tl th σ H Q := h
theorem w_part {Q : Option Int → Hp → Prop} (h : te σ H fun x H1 => ∃ i, x = .int i ∧ Q (some i) H1) : tPart te σ H Q := h
theorem w_noPart {Q : Option Int → Hp → Prop} (q : Q none H) : tNoPart σ H Q := q
theorem w_in {i : Int} {P : Int → Prop} (q : P i) : ∃ k, V.int i = .int k ∧ P k := ⟨i, rfl, q⟩
theorem w_slL {p : Addr} {xs : List V} {lo hi : Option Int} (h : SqL K H p xs) (q : ∀ r H', H r = none → Adv [] H H' → H' r = some (.lst (cutV xs lo hi)) → Q (.ref r) H') : rSlL K (.ref p) lo hi H Q := ⟨p, xs, rfl, h, w_new q⟩
theorem w_cat {a b : Addr} {xs ys : List V} (h1 : H a = some (.lst xs)) (h2 : H b = some (.lst ys)) (hz : xs.length + ys.length ≤ 100000) (q : ∀ r H', H r = none → Adv [] H H' → H' r = some (.lst (xs ++ ys)) → Q (.ref r) H') : rCat (.ref a) (.ref b) H Q :=
  ⟨a, b, xs, ys, rfl, rfl, h1, h2, Nat.le_trans hz (by decide), w_new q⟩
theorem w_listOf {p : Addr} {xs : List V} (h : SqL K H p xs ∨ SqT K H p xs) (q : ∀ r H', H r = none → Adv [] H H' → H' r = some (.lst xs) → Q (.ref r) H') : rListOf K [.ref p] H Q := ⟨p, xs, rfl, h, w_new q⟩
theorem w_app {i : Nat} {l : Addr} {xs0 : List V} {a : TA} (hσ : σ[i]? = some (some (.ref l))) (h0 : H l = some (.lst xs0)) (h : a σ H fun vs H2 => rAppend (.ref l) vs H2 Q) : tBM K "list" rAppend (tVar i) a σ H Q :=
  ⟨.ref l, hσ, .inl ⟨rfl, xs0, SqL.of h0⟩, h⟩
theorem w_append {l : Addr} {xs : List V} {y : V} (h : H l = some (.lst xs)) (hz : xs.length < 100000) (q : Q .non (upd H l (.lst (xs ++ [y])))) : rAppend (.ref l) [y] H Q :=
  ⟨l, xs, y, rfl, rfl, h, Nat.lt_of_lt_of_le hz (by decide), q⟩
theorem w_lstD {xs : List V} (hz : xs.length ≤ 100000) (q : ∀ r H', H r = none → Adv [] H H' → H' r = some (.lst xs) → Q (.ref r) H') : kLstD xs H Q := ⟨Nat.le_trans hz (by decide), w_new q⟩
theorem w_tupD {xs : List V} (hz : xs.length ≤ 100000) (q : ∀ r H', H r = none → Adv [] H H' → H' r = some (.tup xs) → Q (.ref r) H') : kTupD xs H Q := ⟨Nat.le_trans hz (by decide), w_new q⟩
/-! loops -/
def kFor (J : It) (g : TG) (tb : TS) (D : Ends) (σ : L2.St) (H1 : Hp) : Prop := ∃ W : Nat → Nat → L2.St → Hp → Prop, (∃ m, W 0 m σ H1) ∧ ∀ i m σ H, W i m σ H →
  (J.stop i H ∧ D.nx σ H) ∨ (J.go i H ∧ ∃ N : L2.St → Hp → Prop, (∀ σ' H', N σ' H' → ∃ m', m' < m ∧ W (i + 1) m' σ' H') ∧ ∀ v H', J.yld i H v H' → g v σ H' fun σ2 H2 => tb { D with nx := N, ct := N, bk := D.nx } σ2 H2)
def kForR (g : TG) (tb : TS) (D : Ends) (σ : L2.St) (vs : List V) (H1 : Hp) : Prop := ∃ j : Int, vs = [.int j] ∧ -(2 ^ 62) ≤ j ∧ j < 2 ^ 62 ∧ kFor (Itr 0 j.toNat) g tb D σ H1
theorem w_forR {a : TA} {g : TG} {tb : TS} (h : a σ H (kForR g tb D σ)) : tFor (iRng1 a) g tb D σ H := h
theorem kForR_i {n : Nat} {j : Nat} {tb : TS} (hn : n ≤ 1000000) (Pv : Nat → L2.St → Hp → Prop) (h0 : Pv 0 σ H) (hs : ∀ i σ' H', i < n → Pv i σ' H' → tb { D with nx := Pv (i + 1), ct := Pv (i + 1), bk := D.nx } (σ'.set j (some (.int (i : Nat)))) H')
    (hd : ∀ σ' H', Pv n σ' H' → D.nx σ' H') : kForR (gName j) tb D σ [.int (n : Nat)] H := by
  refine ⟨n, rfl, by omega, by omega, ?_⟩
  have e : ((n : Nat) : Int).toNat = n := by omega
  rw [e]
  refine for_range (lo := 0) (n := n) Pv h0 (fun i σ' H' hi p => ?_) hd
  show tb { D with nx := Pv (i + 1), ct := Pv (i + 1), bk := D.nx } (σ'.set j (some (.int ((0 : Int) + (i : Nat))))) H'
  rw [Int.zero_add]
  exact hs i σ' H' hi p
def kForR2 (g : TG) (tb : TS) (D : Ends) (σ : L2.St) (vs : List V) (H1 : Hp) : Prop := ∃ i j : Int, vs = [.int i, .int j] ∧ (-(2 ^ 62) ≤ i ∧ i < 2 ^ 62 ∧ -(2 ^ 62) ≤ j ∧ j < 2 ^ 62) ∧ kFor (Itr i (j - i).toNat) g tb D σ H1
theorem w_forR2 {a : TA} {g : TG} {tb : TS} (h : a σ H (kForR2 g tb D σ)) : tFor (iRng2 a) g tb D σ H := h
theorem kForR2_i {lo hi : Int} {j : Nat} {tb : TS} (h1 : -1000000 ≤ lo ∧ lo ≤ 1000000) (h2 : -1000000 ≤ hi ∧ hi ≤ 1000000) (Pv : Nat → L2.St → Hp → Prop) (h0 : Pv 0 σ H)
    (hs : ∀ i σ' H', i < (hi - lo).toNat → Pv i σ' H' → tb { D with nx := Pv (i + 1), ct := Pv (i + 1), bk := D.nx } (σ'.set j (some (.int (lo + (i : Nat))))) H') (hd : ∀ σ' H', Pv (hi - lo).toNat σ' H' → D.nx σ' H') : kForR2 (gName j) tb D σ [.int lo, .int hi] H :=
  ⟨lo, hi, rfl, ⟨by omega, by omega, by omega, by omega⟩, for_range (lo := lo) (n := (hi - lo).toNat) Pv h0 (fun i σ' H' hi p => hs i σ' H' hi p) hd⟩
def kForL (K : PySem.W.Frag) (g : TG) (tb : TS) (D : Ends) (σ : L2.St) (x : V) (H1 : Hp) : Prop := ∃ a, x = .ref a ∧ (∃ xs, SqL K H1 a xs) ∧ kFor (Itl K a) g tb D σ H1
theorem w_forL {tl : TE} {g : TG} {tb : TS} (h : tl σ H (kForL K g tb D σ)) : tFor (iList K tl) g tb D σ H := h
theorem kForL_i {p : Addr} {xs : List V} {g : TG} {tb : TS} (Pv : Nat → L2.St → Hp → Prop) (hp : SqL K H p xs) (h0 : Pv 0 σ H) (hl : ∀ i σ' H', i ≤ xs.length → Pv i σ' H' → SqL K H' p xs)
    (hs : ∀ i v σ' H', xs[i]? = some v → Pv i σ' H' → g v σ' H' fun σ2 H2 => tb { D with nx := Pv (i + 1), ct := Pv (i + 1), bk := D.nx } σ2 H2) (hd : ∀ σ' H', Pv xs.length σ' H' → D.nx σ' H') : kForL K g tb D σ (.ref p) H :=
  ⟨p, rfl, ⟨xs, hp⟩, for_list Pv h0 hl hs hd⟩
def kForT (K : PySem.W.Frag) (g : TG) (tb : TS) (D : Ends) (σ : L2.St) (x : V) (H1 : Hp) : Prop := ∃ a, x = .ref a ∧ (∃ xs, SqT K H1 a xs) ∧ kFor (Itt K a) g tb D σ H1
theorem w_forT {tl : TE} {g : TG} {tb : TS} (h : tl σ H (kForT K g tb D σ)) : tFor (iTup K tl) g tb D σ H := h
theorem kForT_i {p : Addr} {xs : List V} {g : TG} {tb : TS} (Pv : Nat → L2.St → Hp → Prop) (hp : SqT K H p xs) (h0 : Pv 0 σ H) (hl : ∀ i σ' H', i ≤ xs.length → Pv i σ' H' → SqT K H' p xs)
    (hs : ∀ i v σ' H', xs[i]? = some v → Pv i σ' H' → g v σ' H' fun σ2 H2 => tb { D with nx := Pv (i + 1), ct := Pv (i + 1), bk := D.nx } σ2 H2) (hd : ∀ σ' H', Pv xs.length σ' H' → D.nx σ' H') : kForT K g tb D σ (.ref p) H :=
  ⟨p, rfl, ⟨xs, hp⟩, for_tup Pv h0 hl hs hd⟩
/-! comprehensions -/
def kLc (J : It) (g : TG) (tt : TT) (te : TE) (vs : List Nat) (σ : L2.St) (Q : VK) (H1 : Hp) : Prop := ∀ D, H1 D = none → ∃ W : Nat → Nat → Hp → Prop, (∃ m, W 0 m (upd H1 D (.lst []))) ∧ ∀ i m H, W i m H →
  (J.stop i H ∧ Q (.ref D) H) ∨ (J.go i H ∧ ∃ Nx : Hp → Prop, (∀ H', Nx H' → ∃ m', m' < m ∧ W (i + 1) m' H') ∧ ∀ x H', J.yld i H x H' → g x (wipe σ vs) H' fun σ2 H2 => wipe σ2 vs = wipe σ vs ∧ tt σ2 H2 fun b H3 =>
    if b = true then te σ2 H3 fun y H4 => ∃ acc, H4 D = some (.lst acc) ∧ acc.length < sizeLine ∧ Nx (upd H4 D (.lst (acc ++ [y]))) else Nx H3)
def kLcR (g : TG) (tt : TT) (te : TE) (vs : List Nat) (σ : L2.St) (Q : VK) (ws : List V) (H1 : Hp) : Prop := ∃ j : Int, ws = [.int j] ∧ -(2 ^ 62) ≤ j ∧ j < 2 ^ 62 ∧ kLc (Itr 0 j.toNat) g tt te vs σ Q H1
def kLcL (K : PySem.W.Frag) (g : TG) (tt : TT) (te : TE) (vs : List Nat) (σ : L2.St) (Q : VK) (x : V) (H1 : Hp) : Prop := ∃ a, x = .ref a ∧ (∃ xs, SqL K H1 a xs) ∧ kLc (Itl K a) g tt te vs σ Q H1
def kLcT (K : PySem.W.Frag) (g : TG) (tt : TT) (te : TE) (vs : List Nat) (σ : L2.St) (Q : VK) (x : V) (H1 : Hp) : Prop := ∃ a, x = .ref a ∧ (∃ xs, SqT K H1 a xs) ∧ kLc (Itt K a) g tt te vs σ Q H1
theorem w_lcR {a : TA} {g : TG} {vs : List Nat} (h : a σ H (kLcR g t te vs σ Q)) : tLc (iRng1 a) g t te vs σ H Q := h
theorem w_lcL {tl : TE} {g : TG} {vs : List Nat} (h : tl σ H (kLcL K g t te vs σ Q)) : tLc (iList K tl) g t te vs σ H Q := h
theorem w_lcT {tl : TE} {g : TG} {vs : List Nat} (h : tl σ H (kLcT K g t te vs σ Q)) : tLc (iTup K tl) g t te vs σ H Q := h
/-- a list is made, turn by turn, while the run goes on: R tells of each item that is given, at the places that are taken -/
structure Mk (st cs : Addr) (H0 : Hp) (R : Nat → V → Hp → Prop) (l : Addr) (i : Nat) (H : Hp) : Prop where
  go : Go st cs H0 H
  new : H0 l = none
  ok0 : StOk st cs H0
  at_ : ∃ (ks : List Nat) (ys : List V), H l = some (.lst ys) ∧ ks.length = ys.length ∧ ks.Pairwise (· < ·) ∧ (∀ k ∈ ks, k < i) ∧ ∀ (m : Nat) k v, ks[m]? = some k → ys[m]? = some v → R k v H
end
end AW
/-! data that stand in tuples; lists made by comprehensions while the run goes on -/
namespace AW
open PySem PySem.Spec PyProof.Rows L2

/-- tuples are kept -/
def TK (H H' : Hp) : Prop := ∀ a xs, H a = some (.tup xs) → H' a = some (.tup xs)
theorem TK.refl (H : Hp) : TK H H := fun _ _ h => h
theorem TK.trans {H H1 H2 : Hp} (a : TK H H1) (b : TK H1 H2) : TK H H2 := fun c xs h => b c xs (a c xs h)
theorem Go.tk {st cs : Addr} {H H' : Hp} (g : Go st cs H H') : TK H H' := g.adv.tup
mutual
/-- the value stands for the datum: scalars, and tuples of such -/
inductive Is (H : Hp) : PyData → V → Prop where
  | non : Is H .none .non
  | bl (b : Bool) : Is H (.bool b) (.bl b)
  | int (i : Int) : Is H (.int i) (.int i)
  | str (x : Str) : Is H (.str x) (.str x)
  | tup {a : Addr} {xs : List V} {ds : List PyData} : H a = some (.tup xs) → IsAll H ds xs → Is H (.tuple ds) (.ref a)
inductive IsAll (H : Hp) : List PyData → List V → Prop where
  | nil : IsAll H [] []
  | cons {d : PyData} {ds : List PyData} {v : V} {vs : List V} : Is H d v → IsAll H ds vs → IsAll H (d :: ds) (v :: vs)
end
mutual
theorem Is.up {H H' : Hp} (k : TK H H') : ∀ {d : PyData} {v : V}, Is H d v → Is H' d v
  | _, _, .non => .non
  | _, _, .bl b => .bl b
  | _, _, .int i => .int i
  | _, _, .str x => .str x
  | _, _, .tup e h => .tup (k _ _ e) (IsAll.up k h)
theorem IsAll.up {H H' : Hp} (k : TK H H') : ∀ {ds : List PyData} {vs : List V}, IsAll H ds vs → IsAll H' ds vs
  | _, _, .nil => .nil
  | _, _, .cons h t => .cons (Is.up k h) (IsAll.up k t)
end
mutual
theorem Is.dp {K : PySem.W.Frag} {H : Hp} : ∀ {d : PyData} {v : V}, Is H d v → Dp K H v d
  | _, _, .non => .non
  | _, _, .bl b => .bl b
  | _, _, .int i => .int i
  | _, _, .str x => .str x
  | _, _, .tup e h => .tup (SqT.of e) (IsAll.dp h)
theorem IsAll.dp {K : PySem.W.Frag} {H : Hp} : ∀ {ds : List PyData} {vs : List V}, IsAll H ds vs → DpAll K H vs ds
  | _, _, .nil => .nil
  | _, _, .cons h t => .cons (Is.dp h) (IsAll.dp t)
end
theorem IsAll.length {H : Hp} : ∀ {ds : List PyData} {vs : List V}, IsAll H ds vs → vs.length = ds.length
  | _, _, .nil => rfl
  | _, _, .cons _ t => congrArg (· + 1) t.length
theorem IsAll.get {H : Hp} : ∀ {ds : List PyData} {vs : List V} {i : Nat} {v : V}, IsAll H ds vs → vs[i]? = some v → ∃ d, ds[i]? = some d ∧ Is H d v
  | _, _, _, _, .nil, e => by simp at e
  | _, _, 0, _, .cons h _, e => by
    simp at e
    subst e
    exact ⟨_, rfl, h⟩
  | _, _, i + 1, v, .cons _ t, e => by
    obtain ⟨d, h1, h2⟩ := IsAll.get (i := i) (v := v) t (by simpa using e)
    exact ⟨d, by simpa using h1, h2⟩
theorem IsAll.get' {H : Hp} : ∀ {ds : List PyData} {vs : List V} {i : Nat} {d : PyData}, IsAll H ds vs → ds[i]? = some d → ∃ v, vs[i]? = some v ∧ Is H d v
  | _, _, _, _, .nil, e => by simp at e
  | _, _, 0, _, .cons h _, e => by
    simp at e
    subst e
    exact ⟨_, rfl, h⟩
  | _, _, i + 1, d, .cons _ t, e => by
    obtain ⟨v, h1, h2⟩ := IsAll.get' (i := i) (d := d) t (by simpa using e)
    exact ⟨v, by simpa using h1, h2⟩
theorem IsAll.of {H : Hp} : ∀ (ds : List PyData) (vs : List V), vs.length = ds.length → (∀ (i : Nat) d v, ds[i]? = some d → vs[i]? = some v → Is H d v) → IsAll H ds vs
  | [], [], _, _ => .nil
  | d :: ds, v :: vs, hl, h => .cons (h 0 d v rfl rfl) (IsAll.of ds vs (Nat.succ.inj hl) fun i d' v' h1 h2 => h (i + 1) d' v' (by simpa using h1) (by simpa using h2))
  | [], _ :: _, hl, _ => by simp at hl
  | _ :: _, [], hl, _ => by simp at hl
theorem IsAll.append {H : Hp} : ∀ {ds es : List PyData} {vs ws : List V}, IsAll H ds vs → IsAll H es ws → IsAll H (ds ++ es) (vs ++ ws)
  | _, _, _, _, .nil, h => h
  | _, _, _, _, .cons a t, h => .cons a (IsAll.append t h)
theorem IsAll.ints {H : Hp} : ∀ (ns : List Int), IsAll H (ns.map .int) (ns.map V.int)
  | [] => .nil
  | n :: ns => .cons (.int n) (IsAll.ints ns)
theorem IsAll.strs {H : Hp} : ∀ (ns : List Str), IsAll H (ns.map .str) (ns.map V.str)
  | [] => .nil
  | n :: ns => .cons (.str n) (IsAll.strs ns)
theorem IsAll.ints_inv {H : Hp} : ∀ {ns : List Int} {vs : List V}, IsAll H (ns.map .int) vs → vs = ns.map V.int
  | [], _, .nil => rfl
  | n :: ns, _, .cons h t => by
    cases h
    rw [IsAll.ints_inv t]
    rfl
theorem IsAll.strs_inv {H : Hp} : ∀ {ns : List Str} {vs : List V}, IsAll H (ns.map .str) vs → vs = ns.map V.str
  | [], _, .nil => rfl
  | n :: ns, _, .cons h t => by
    cases h
    rw [IsAll.strs_inv t]
    rfl
theorem Is.int_inv {H : Hp} {n : Int} {v : V} (h : Is H (.int n) v) : v = .int n := by
  cases h
  rfl
theorem Is.str_inv {H : Hp} {n : Str} {v : V} (h : Is H (.str n) v) : v = .str n := by
  cases h
  rfl
theorem Is.tup_inv {H : Hp} {ds : List PyData} {v : V} (h : Is H (.tuple ds) v) : ∃ a xs, v = .ref a ∧ H a = some (.tup xs) ∧ IsAll H ds xs := by
  cases h with
  | tup e t => exact ⟨_, _, rfl, e, t⟩
theorem IsAll.perm {H : Hp} {ds : List PyData} {vs ws : List V} (h : IsAll H ds vs) (p : ws.Perm vs) : ∃ es, es.Perm ds ∧ IsAll H es ws := by
  induction p generalizing ds with
  | nil => cases h; exact ⟨[], .refl _, .nil⟩
  | cons x p ih =>
    cases h with
    | cons a t =>
      obtain ⟨es, h1, h2⟩ := ih t
      exact ⟨_ :: es, h1.cons _, .cons a h2⟩
  | swap x y l =>
    cases h with
    | cons a t =>
      cases t with
      | cons b t => exact ⟨_, List.Perm.swap .., .cons b (.cons a t)⟩
  | trans p q ih1 ih2 =>
    obtain ⟨es, h1, h2⟩ := ih2 h
    obtain ⟨fs, h3, h4⟩ := ih1 h2
    exact ⟨fs, h3.trans h1, h4⟩

section
variable {K : PySem.W.Frag} {st cs : Addr} {J : It} {n : Nat} {G : Hp → Prop} {Y : Nat → Hp → V → Hp → Prop} {g : TG} {tt : TT} {te : TE} {vs : List Nat} {σ : L2.St} {Q : VK} {H1 : Hp}
/-- a comprehension without a test -/
theorem kLc_all (wk : Walk J n G Y) (hn : n ≤ 100000) (ok : StOk st cs H1) (hG : ∀ H', Go st cs H1 H' → G H') (R : Nat → V → Hp → Prop) (mono : ∀ i v H H', TK H H' → R i v H → R i v H')
    (step : ∀ i x H H' (Kt : V → Hp → Prop), i < n → Go st cs H1 H → Y i H x H' → (∀ y H4, Go st cs H H4 → R i y H4 → Kt y H4) → g x (wipe σ vs) H' fun σ2 H2 => wipe σ2 vs = wipe σ vs ∧ te σ2 H2 Kt)
    (k : ∀ p H' ys, H1 p = none → Go st cs H1 H' → H' p = some (.lst ys) → ys.length = n → (∀ (i : Nat) v, ys[i]? = some v → R i v H') → Q (.ref p) H') : kLc J g tYes te vs σ Q H1 := by
  intro D hD
  have nD := ok.ne hD
  refine lc_it wk (fun i H => Go st cs H1 H ∧ ∃ ys, H D = some (.lst ys) ∧ ys.length = i ∧ ∀ (m : Nat) v, ys[m]? = some v → R m v H) ⟨.of ok (Adv.new hD), [], upd_same, rfl, fun m v e => by simp at e⟩ (fun i H _ p => hG H p.1)
    (fun i x H H' hi p y => ?_) fun H p => ?_
  · obtain ⟨g1, ys, e1, hl, hr⟩ := p
    refine step i x H H' _ hi g1 y fun v H4 g4 r4 => ?_
    have e4 : H4 D = some (.lst ys) := g4.keep nD.1 e1
    have t5 : TK H4 (upd H4 D (.lst (ys ++ [v]))) := (Adv.lst e4).tup
    refine ⟨ys, e4, Nat.lt_of_lt_of_le (show ys.length < 100001 by omega) (by decide), (g1.trans g4).mutL ok hD e4, ys ++ [v], upd_same, by rw [List.length_append, hl]; rfl, fun m w e => ?_⟩
    by_cases hm : m < ys.length
    · rw [List.getElem?_append_left hm] at e
      exact mono _ _ _ _ (g4.tk.trans t5) (hr m w e)
    · have hm2 : m = ys.length := by
        have := (List.getElem?_eq_some_iff.mp e).1
        rw [List.length_append] at this
        simp at this
        omega
      subst hm2
      rw [List.getElem?_append_right (Nat.le_refl _), Nat.sub_self] at e
      simp at e
      subst e
      rw [hl]
      exact mono _ _ _ _ t5 r4
  · obtain ⟨g1, ys, e1, hl, hr⟩ := p
    exact k D H ys hD g1 e1 hl hr
/-- a comprehension with a test: ks the places that are taken, in order; F tells of the others -/
theorem kLc_some (wk : Walk J n G Y) (hn : n ≤ 100000) (ok : StOk st cs H1) (hG : ∀ H', Go st cs H1 H' → G H') (R : Nat → V → Hp → Prop) (F : Nat → Prop) (mono : ∀ i v H H', TK H H' → R i v H → R i v H')
    (step : ∀ i x H H' (Kt : V → Hp → Prop) (Kf : Hp → Prop), i < n → Go st cs H1 H → Y i H x H' → (∀ y H4, Go st cs H H4 → R i y H4 → Kt y H4) → (∀ H3, Go st cs H H3 → F i → Kf H3) →
      g x (wipe σ vs) H' fun σ2 H2 => wipe σ2 vs = wipe σ vs ∧ tt σ2 H2 fun b H3 => if b = true then te σ2 H3 Kt else Kf H3)
    (k : ∀ p H' (ks : List Nat) ys, H1 p = none → Go st cs H1 H' → H' p = some (.lst ys) → ks.length = ys.length → ks.Pairwise (· < ·) → (∀ k ∈ ks, k < n) → (∀ k, k < n → k ∉ ks → F k) → (∀ (m k : Nat) v, ks[m]? = some k → ys[m]? = some v → R k v H') → Q (.ref p) H') :
    kLc J g tt te vs σ Q H1 := by
  intro D hD
  have nD := ok.ne hD
  refine lc_it wk (fun i H => Go st cs H1 H ∧ ∃ (ks : List Nat) (ys : List V), H D = some (.lst ys) ∧ ks.length = ys.length ∧ ks.Pairwise (· < ·) ∧ (∀ k ∈ ks, k < i) ∧ (∀ k, k < i → k ∉ ks → F k) ∧ ks.length ≤ i ∧ ∀ (m : Nat) k v, ks[m]? = some k → ys[m]? = some v → R k v H)
    ⟨.of ok (Adv.new hD), [], [], upd_same, rfl, .nil, fun k h => (nomatch h), fun k h => absurd h (Nat.not_lt_zero _), Nat.le_refl _, fun m k v e => by simp at e⟩ (fun i H _ p => hG H p.1) (fun i x H H' hi p y => ?_) fun H p => ?_
  · obtain ⟨g1, ks, ys, e1, hl, hp, hk, hf, hle, hr⟩ := p
    refine step i x H H' _ _ hi g1 y (fun v H4 g4 r4 => ?_) fun H3 g3 f3 => ?_
    · have e4 : H4 D = some (.lst ys) := g4.keep nD.1 e1
      have t5 : TK H4 (upd H4 D (.lst (ys ++ [v]))) := (Adv.lst e4).tup
      refine ⟨ys, e4, Nat.lt_of_lt_of_le (show ys.length < 100001 by omega) (by decide), (g1.trans g4).mutL ok hD e4, ks ++ [i], ys ++ [v], upd_same, by rw [List.length_append, List.length_append, hl]; rfl, ?_, fun k h => ?_, fun k h1 h2 => ?_, by rw [List.length_append]; simp; omega, fun m k w e1 e2 => ?_⟩
      · rw [List.pairwise_append]
        exact ⟨hp, List.pairwise_singleton .., fun a ha b hb => by rw [List.mem_singleton.mp hb]; exact hk a ha⟩
      · rcases List.mem_append.mp h with h | h
        · exact Nat.lt_succ_of_lt (hk k h)
        · rw [List.mem_singleton.mp h]
          exact Nat.lt_succ_self _
      · have h3 : k ≠ i := fun z => h2 (List.mem_append_right _ (by rw [z]; exact List.mem_singleton.mpr rfl))
        exact hf k (by omega) fun z => h2 (List.mem_append_left _ z)
      · by_cases hm : m < ys.length
        · rw [List.getElem?_append_left hm] at e2
          rw [List.getElem?_append_left (by omega)] at e1
          exact mono _ _ _ _ (g4.tk.trans t5) (hr m k w e1 e2)
        · have hm2 : m = ys.length := by
            have := (List.getElem?_eq_some_iff.mp e2).1
            rw [List.length_append] at this
            simp at this
            omega
          subst hm2
          rw [List.getElem?_append_right (Nat.le_refl _), Nat.sub_self] at e2
          rw [← hl, List.getElem?_append_right (Nat.le_refl _), Nat.sub_self] at e1
          simp at e1 e2
          subst e1 e2
          exact mono _ _ _ _ t5 r4
    · refine ⟨g1.trans g3, ks, ys, g3.keep nD.1 e1, hl, hp, fun k h => Nat.lt_succ_of_lt (hk k h), fun k h1 h2 => ?_, by omega, fun m k w e1 e2 => mono _ _ _ _ g3.tk (hr m k w e1 e2)⟩
      by_cases hki : k = i
      · subst hki
        exact f3
      · exact hf k (by omega) h2
  · obtain ⟨g1, ks, ys, e1, hl, hp, hk, hf, hle, hr⟩ := p
    exact k D H ks ys hD g1 e1 hl hp hk hf hr
theorem kLcR_all {n : Nat} (hn : n ≤ 100000) (ok : StOk st cs H1) (R : Nat → V → Hp → Prop) (mono : ∀ i v H H', TK H H' → R i v H → R i v H')
    (step : ∀ i H (Kt : V → Hp → Prop), i < n → Go st cs H1 H → (∀ y H4, Go st cs H H4 → R i y H4 → Kt y H4) → g (.int (i : Nat)) (wipe σ vs) H fun σ2 H2 => wipe σ2 vs = wipe σ vs ∧ te σ2 H2 Kt)
    (k : ∀ p H' ys, H1 p = none → Go st cs H1 H' → H' p = some (.lst ys) → ys.length = n → (∀ (i : Nat) v, ys[i]? = some v → R i v H') → Q (.ref p) H') : kLcR g tYes te vs σ Q [.int (n : Nat)] H1 := by
  refine ⟨n, rfl, by omega, by omega, ?_⟩
  have e : ((n : Nat) : Int).toNat = n := by omega
  rw [e]
  refine kLc_all walk_range hn ok (fun _ _ => trivial) R mono (fun i x H H' Kt hi g1 y kt => ?_) k
  obtain ⟨rfl, rfl⟩ := y
  show g (.int ((0 : Int) + (i : Nat))) _ _ _
  rw [Int.zero_add]
  exact step i H' Kt hi g1 kt
theorem kLcR_some {n : Nat} (hn : n ≤ 100000) (ok : StOk st cs H1) (R : Nat → V → Hp → Prop) (F : Nat → Prop) (mono : ∀ i v H H', TK H H' → R i v H → R i v H')
    (step : ∀ i H (Kt : V → Hp → Prop) (Kf : Hp → Prop), i < n → Go st cs H1 H → (∀ y H4, Go st cs H H4 → R i y H4 → Kt y H4) → (∀ H3, Go st cs H H3 → F i → Kf H3) →
      g (.int (i : Nat)) (wipe σ vs) H fun σ2 H2 => wipe σ2 vs = wipe σ vs ∧ tt σ2 H2 fun b H3 => if b = true then te σ2 H3 Kt else Kf H3)
    (k : ∀ p H' (ks : List Nat) ys, H1 p = none → Go st cs H1 H' → H' p = some (.lst ys) → ks.length = ys.length → ks.Pairwise (· < ·) → (∀ k ∈ ks, k < n) → (∀ k, k < n → k ∉ ks → F k) → (∀ (m k : Nat) v, ks[m]? = some k → ys[m]? = some v → R k v H') → Q (.ref p) H') :
    kLcR g tt te vs σ Q [.int (n : Nat)] H1 := by
  refine ⟨n, rfl, by omega, by omega, ?_⟩
  have e : ((n : Nat) : Int).toNat = n := by omega
  rw [e]
  refine kLc_some walk_range hn ok (fun _ _ => trivial) R F mono (fun i x H H' Kt Kf hi g1 y kt kf => ?_) k
  obtain ⟨rfl, rfl⟩ := y
  show g (.int ((0 : Int) + (i : Nat))) _ _ _
  rw [Int.zero_add]
  exact step i H' Kt Kf hi g1 kt kf
theorem kLcL_all {p : Addr} {xs : List V} (hp : SqL K H1 p xs) (np : p ≠ st) (hn : xs.length ≤ 100000) (ok : StOk st cs H1) (R : Nat → V → Hp → Prop) (mono : ∀ i v H H', TK H H' → R i v H → R i v H')
    (step : ∀ i x H (Kt : V → Hp → Prop), xs[i]? = some x → Go st cs H1 H → (∀ y H4, Go st cs H H4 → R i y H4 → Kt y H4) → g x (wipe σ vs) H fun σ2 H2 => wipe σ2 vs = wipe σ vs ∧ te σ2 H2 Kt)
    (k : ∀ p H' ys, H1 p = none → Go st cs H1 H' → H' p = some (.lst ys) → ys.length = xs.length → (∀ (i : Nat) v, ys[i]? = some v → R i v H') → Q (.ref p) H') : kLcL K g tYes te vs σ Q (.ref p) H1 :=
  ⟨p, rfl, ⟨xs, hp⟩, kLc_all walk_list hn ok (fun _ g => g.sql np hp) R mono (fun i x H H' Kt hi g1 y kt => by
    obtain ⟨rfl, e⟩ := y
    exact step i x H' Kt e g1 kt) k⟩
theorem kLcL_some {p : Addr} {xs : List V} (hp : SqL K H1 p xs) (np : p ≠ st) (hn : xs.length ≤ 100000) (ok : StOk st cs H1) (R : Nat → V → Hp → Prop) (F : Nat → Prop) (mono : ∀ i v H H', TK H H' → R i v H → R i v H')
    (step : ∀ i x H (Kt : V → Hp → Prop) (Kf : Hp → Prop), xs[i]? = some x → Go st cs H1 H → (∀ y H4, Go st cs H H4 → R i y H4 → Kt y H4) → (∀ H3, Go st cs H H3 → F i → Kf H3) →
      g x (wipe σ vs) H fun σ2 H2 => wipe σ2 vs = wipe σ vs ∧ tt σ2 H2 fun b H3 => if b = true then te σ2 H3 Kt else Kf H3)
    (k : ∀ p H' (ks : List Nat) ys, H1 p = none → Go st cs H1 H' → H' p = some (.lst ys) → ks.length = ys.length → ks.Pairwise (· < ·) → (∀ k ∈ ks, k < xs.length) → (∀ k, k < xs.length → k ∉ ks → F k) → (∀ (m k : Nat) v, ks[m]? = some k → ys[m]? = some v → R k v H') → Q (.ref p) H') :
    kLcL K g tt te vs σ Q (.ref p) H1 :=
  ⟨p, rfl, ⟨xs, hp⟩, kLc_some walk_list hn ok (fun _ g => g.sql np hp) R F mono (fun i x H H' Kt Kf hi g1 y kt kf => by
    obtain ⟨rfl, e⟩ := y
    exact step i x H' Kt Kf e g1 kt kf) k⟩
theorem kLcT_all {p : Addr} {xs : List V} (hp : H1 p = some (.tup xs)) (hn : xs.length ≤ 100000) (ok : StOk st cs H1) (R : Nat → V → Hp → Prop) (mono : ∀ i v H H', TK H H' → R i v H → R i v H')
    (step : ∀ i x H (Kt : V → Hp → Prop), xs[i]? = some x → Go st cs H1 H → (∀ y H4, Go st cs H H4 → R i y H4 → Kt y H4) → g x (wipe σ vs) H fun σ2 H2 => wipe σ2 vs = wipe σ vs ∧ te σ2 H2 Kt)
    (k : ∀ p H' ys, H1 p = none → Go st cs H1 H' → H' p = some (.lst ys) → ys.length = xs.length → (∀ (i : Nat) v, ys[i]? = some v → R i v H') → Q (.ref p) H') : kLcT K g tYes te vs σ Q (.ref p) H1 :=
  ⟨p, rfl, ⟨xs, SqT.of hp⟩, kLc_all walk_tup hn ok (fun _ g => SqT.of (g.tk _ _ hp)) R mono (fun i x H H' Kt hi g1 y kt => by
    obtain ⟨rfl, e⟩ := y
    exact step i x H' Kt e g1 kt) k⟩
theorem kLcT_some {p : Addr} {xs : List V} (hp : H1 p = some (.tup xs)) (hn : xs.length ≤ 100000) (ok : StOk st cs H1) (R : Nat → V → Hp → Prop) (F : Nat → Prop) (mono : ∀ i v H H', TK H H' → R i v H → R i v H')
    (step : ∀ i x H (Kt : V → Hp → Prop) (Kf : Hp → Prop), xs[i]? = some x → Go st cs H1 H → (∀ y H4, Go st cs H H4 → R i y H4 → Kt y H4) → (∀ H3, Go st cs H H3 → F i → Kf H3) →
      g x (wipe σ vs) H fun σ2 H2 => wipe σ2 vs = wipe σ vs ∧ tt σ2 H2 fun b H3 => if b = true then te σ2 H3 Kt else Kf H3)
    (k : ∀ p H' (ks : List Nat) ys, H1 p = none → Go st cs H1 H' → H' p = some (.lst ys) → ks.length = ys.length → ks.Pairwise (· < ·) → (∀ k ∈ ks, k < xs.length) → (∀ k, k < xs.length → k ∉ ks → F k) → (∀ (m k : Nat) v, ks[m]? = some k → ys[m]? = some v → R k v H') → Q (.ref p) H') :
    kLcT K g tt te vs σ Q (.ref p) H1 :=
  ⟨p, rfl, ⟨xs, SqT.of hp⟩, kLc_some walk_tup hn ok (fun _ g => SqT.of (g.tk _ _ hp)) R F mono (fun i x H H' Kt Kf hi g1 y kt kf => by
    obtain ⟨rfl, e⟩ := y
    exact step i x H' Kt Kf e g1 kt kf) k⟩
end
theorem at_nat {xs : List V} {n : Int} {v : V} (h0 : 0 ≤ n) (h : xs[n.toNat]? = some v) : atI xs n = some v := at_of (j := n.toNat) (by omega) h
theorem get_some {α : Type} {xs : List α} {i : Nat} (h : i < xs.length) : ∃ v, xs[i]? = some v := ⟨xs[i], List.getElem?_eq_getElem h⟩
theorem cut_to (xs : List V) {n : Int} (h0 : 0 ≤ n) : cutV xs none (some n) = xs.take n.toNat := by
  obtain ⟨m, rfl⟩ : ∃ m : Nat, n = m := ⟨n.toNat, by omega⟩
  unfold cutV
  rw [HT.sIx_none, HT.sIx_nat]
  simp only [List.drop_zero, Nat.sub_zero, Int.toNat_natCast]
  by_cases h : m ≤ xs.length
  · rw [Nat.min_eq_left h]
  · rw [Nat.min_eq_right (by omega), List.take_of_length_le (Nat.le_refl _), List.take_of_length_le (by omega)]
theorem cut_from (xs : List V) {n : Int} (h0 : 0 ≤ n) : cutV xs (some n) none = xs.drop n.toNat := by
  obtain ⟨m, rfl⟩ : ∃ m : Nat, n = m := ⟨n.toNat, by omega⟩
  unfold cutV
  rw [HT.sIx_none, HT.sIx_nat]
  simp only [Int.toNat_natCast]
  by_cases h : m ≤ xs.length
  · rw [Nat.min_eq_left h, List.take_of_length_le (by rw [List.length_drop]; exact Nat.le_refl _)]
  · rw [Nat.min_eq_right (by omega), List.drop_of_length_le (Nat.le_refl _), List.drop_of_length_le (by omega)]
    simp
theorem SqL.upd {K : PySem.W.Frag} {H : Hp} {a : Addr} {xs : List V} : SqL K (upd H a (.lst xs)) a xs := SqL.of upd_same
theorem getD_of {α : Type} {xs : List α} {i : Nat} {d v : α} (h : xs[i]? = some v) : xs.getD i d = v := by rw [List.getD_eq_getElem?_getD, h]; rfl
end AW
/-! zip of three tuples of one length; zip of two tuples as a walk; dicts made by comprehensions -/
namespace AW
open PySem PySem.Spec PyProof.Rows L2 RZ

/-- three tuples beside one another, of one length -/
def Itz3 (K : PySem.W.Frag) (a b c : Addr) : It where
  go i H := ∃ xs ys zs : List V, SqT K H a xs ∧ SqT K H b ys ∧ SqT K H c zs ∧ i < xs.length ∧ i < ys.length ∧ i < zs.length
  yld i H v H' := ∃ (T : Addr) (x y u : V), v = .ref T ∧ H T = none ∧ H' = upd H T (.tup [x, y, u]) ∧ (∀ xs, SqT K H a xs → xs[i]? = some x) ∧ (∀ ys, SqT K H b ys → ys[i]? = some y) ∧ ∀ zs, SqT K H c zs → zs[i]? = some u
  stop i H := ∃ xs ys zs : List V, SqT K H a xs ∧ SqT K H b ys ∧ SqT K H c zs ∧ i = xs.length ∧ i = ys.length ∧ i = zs.length

theorem six {z TI TO i1 i2 i3 d : Addr} (h : d ∈ [z, TI, TO, i1, i2, i3]) : d = z ∨ d = TI ∨ d = TO ∨ d = i1 ∨ d = i2 ∨ d = i3 := by simpa using h
theorem turn_zip3 {P : Program} {w : World} {K : PySem.W.Frag} {elts : List Expr} {kk : Nat} {tpos : Pos} {a b c z TI TO i1 i2 i3 : Addr} (D : ZipSep3 z TI TO i1 i2 i3 [i1, a] [i2, b] [i3, c]) :
    Turn P w K (.Tuple elts kk tpos) (Itz3 K a b c) [z, TI, TO, i1, i2, i3] z (fun i h => IsZip h z TI TO .none ∧ IsTupOf3 h TI (.ref i1) (.ref i2) (.ref i3) ∧ (∃ x y u, IsTupOf3 h TO x y u) ∧ h.IsTupleIter i1 a i ∧ h.IsTupleIter i2 b i ∧ h.IsTupleIter i3 c i) := by
  have na : a ≠ i1 ∧ b ≠ i2 ∧ c ≠ i3 ∨ True := .inr trivial
  refine ⟨by simp, ?obj, ?keep, ?item, ?done, ?self⟩
  case obj =>
    rintro i h ⟨s1, s2, ⟨x, y, u, s3⟩, ⟨p1, q1, _, r1⟩, ⟨p2, q2, _, r2⟩, ⟨p3, q3, _, r3⟩⟩ d hd
    rcases six hd with rfl | rfl | rfl | rfl | rfl | rfl
    · exact ⟨_, s1, fun v e => nomatch e⟩
    · exact ⟨_, s2, fun v e => nomatch e⟩
    · exact ⟨_, s3, fun v e => nomatch e⟩
    · exact ⟨p1, q1, fun v e => by rw [r1] at e; cases e⟩
    · exact ⟨p2, q2, fun v e => by rw [r2] at e; cases e⟩
    · exact ⟨p3, q3, fun v e => by rw [r3] at e; cases e⟩
  case keep =>
    rintro i h h' ⟨s1, s2, ⟨x, y, u, s3⟩, t1, t2, t3⟩ k
    exact ⟨k _ (by simp) _ s1, k _ (by simp) _ s2, ⟨x, y, u, k _ (by simp) _ s3⟩, t1.at fun o e => k _ (by simp) o e, t2.at fun o e => k _ (by simp) o e, t3.at fun o e => k _ (by simp) o e⟩
  case self =>
    exact fun A i s Q E st h => wpAny_pyIter_zip st.1 h
  case item =>
    intro X hP hw hK hc i pins s σ H E I hf st hg
    subst hP hw hK
    obtain ⟨s1, s2, ⟨x0, y0, u0, s3⟩, t1, t2, t3⟩ := st
    obtain ⟨xs, ys, zs, qa, qb, qc, la, lb, lc⟩ := hg
    obtain ⟨ia, ra, pa, _⟩ := I.tuple qa
    obtain ⟨ib, rb, pb, _⟩ := I.tuple qb
    obtain ⟨ic, rc, pc, _⟩ := I.tuple qc
    have ea : ∀ {p : Addr} {its : Array Value}, IsTup s.heap p its → p ∉ [z, TI, TO, i1, i2, i3] → p ≠ z := fun _ n e => n (by simp [e])
    have d1 : a ≠ i1 := by
      intro e
      obtain ⟨o, ho, hcl, _⟩ := pa
      obtain ⟨o2, ho2, hcl2, _⟩ := t1
      rw [e, ho2] at ho
      cases ho
      rw [hcl2] at hcl
      exact absurd (Value.type.inj hcl) (by decide)
    have d2 : b ≠ i2 := by
      intro e
      obtain ⟨o, ho, hcl, _⟩ := pb
      obtain ⟨o2, ho2, hcl2, _⟩ := t2
      rw [e, ho2] at ho
      cases ho
      rw [hcl2] at hcl
      exact absurd (Value.type.inj hcl) (by decide)
    have d3 : c ≠ i3 := by
      intro e
      obtain ⟨o, ho, hcl, _⟩ := pc
      obtain ⟨o2, ho2, hcl2, _⟩ := t3
      rw [e, ho2] at ho
      cases ho
      rw [hcl2] at hcl
      exact absurd (Value.type.inj hcl) (by decide)
    have hh : X.A.in1.handled = none := I.ok.hd hc
    have zl : z < s.heap.objs.size := Heap.lt_size s1
    refine wpAny_pyNext_zipD3_item (i := i) D (Draws.tuple hh i1 a d1 ia.toArray) (Draws.tuple hh i2 b d2 ib.toArray) (Draws.tuple hh i3 c d3 ic.toArray) s1 s2 s3 ⟨t1, pa⟩ ⟨t2, pb⟩ ⟨t3, pc⟩
      (by rw [List.size_toArray, ← ra.length]; exact la) (by rw [List.size_toArray, ← rb.length]; exact lb) (by rw [List.size_toArray, ← rc.length]; exact lc) fun x1 x2 x3 h' tk g1 g2 g3 z' TO' v1 v2 v3 hT hsz hk => ?_
    obtain ⟨y1, hy1⟩ := get_some (xs := xs) la
    obtain ⟨y2, hy2⟩ := get_some (xs := ys) lb
    obtain ⟨y3, hy3⟩ := get_some (xs := zs) lc
    have rel : ∀ {l : List V} {us : List Value} {y : V} {x : Value}, Vals l us → l[i]? = some y → us.toArray[i]? = some x → RelV y x := fun r e e2 => by
      obtain ⟨u, eu, ru⟩ := r.get e
      have e3 : some u = some _ := eu.symm.trans (by simpa using e2)
      cases e3
      exact ru
    refine ⟨_, rfl, wpAny_letOwnedTupleGo_zip (s := { s with heap := h', toks := tk }) z' fun h'' z'' sb => ?_⟩
    have hT2 : h''.get? s.heap.objs.size = some { cls := .type "tuple", data := .seq #[x1, x2, x3] } := (sb.2 _ (Nat.ne_of_gt zl)).trans hT
    have new : ObjOk X.prog X.w (upd H s.heap.objs.size (.tup [y1, y2, y3])) h'' s.heap.objs.size (.tup [y1, y2, y3]) :=
      ⟨by show 3 ≤ sizeLine; decide, [x1, x2, x3], .cons (rel ra hy1 g1) (.cons (rel rb hy2 g2) (.cons (rel rc hy3 g3) .nil)), ⟨_, hT2, rfl, _, rfl⟩⟩
    have I1 : Inv X pins σ (upd H s.heap.objs.size (.tup [y1, y2, y3])) { s with heap := h'', toks := tk } :=
      I.turnedNew (ch := [z, TI, TO, i1, i2, i3]) (fun d o hd q => (sb.2 d (fun e => hd (by simp [e]))).trans (hk d o (fun e => hd (by simp [e])) (fun e => hd (by simp [e])) (fun e => hd (by simp [e])) (fun e => hd (by simp [e])) (fun e => hd (by simp [e])) q)) hf (Nat.le_refl _) new
    refine ⟨.ref s.heap.objs.size, _, I1, rfl, ⟨_, y1, y2, y3, rfl, I.hok.fresh (Nat.le_refl _), rfl, fun l hl => by rw [I.tuple_inj hl qa]; exact hy1, fun l hl => by rw [I.tuple_inj hl qb]; exact hy2, fun l hl => by rw [I.tuple_inj hl qc]; exact hy3⟩,
      ⟨z'', ?_, ⟨x1, x2, x3, ?_⟩, ?_, ?_, ?_⟩, fun d hd => ?_⟩
    · exact (sb.2 _ D.TIz).trans (hk _ _ D.TIz D.TITO D.TIi1 D.TIi2 D.TIi3 s2)
    · exact (sb.2 _ D.TOz).trans TO'
    · exact v1.1.at fun o e => (sb.2 _ (fun q => D.zi1 q.symm)).trans e
    · exact v2.1.at fun o e => (sb.2 _ (fun q => D.zi2 q.symm)).trans e
    · exact v3.1.at fun o e => (sb.2 _ (fun q => D.zi3 q.symm)).trans e
    · have hlt : d < s.heap.objs.size := by
        rcases six hd with rfl | rfl | rfl | rfl | rfl | rfl
        · exact zl
        · exact Heap.lt_size s2
        · exact Heap.lt_size s3
        · obtain ⟨_, e, _⟩ := t1; exact Heap.lt_size e
        · obtain ⟨_, e, _⟩ := t2; exact Heap.lt_size e
        · obtain ⟨_, e, _⟩ := t3; exact Heap.lt_size e
      rw [upd_ne (Nat.ne_of_lt hlt)]
      exact (hf d hd).1
  case done =>
    intro X hP hw hK hc i pins s σ H E I hf st hg
    subst hP hw hK
    obtain ⟨s1, s2, ⟨x0, y0, u0, s3⟩, t1, t2, t3⟩ := st
    obtain ⟨xs, ys, zs, qa, qb, qc, la, lb, lc⟩ := hg
    obtain ⟨ia, ra, pa, _⟩ := I.tuple qa
    obtain ⟨ib, rb, pb, _⟩ := I.tuple qb
    obtain ⟨ic, rc, pc, _⟩ := I.tuple qc
    have dd : ∀ {p q : Addr} {its : Array Value} {j : Nat}, IsTup s.heap p its → s.heap.IsTupleIter q p j → p ≠ q := fun {p q its j} hp hq e => by
      obtain ⟨o, ho, hcl, _⟩ := hp
      obtain ⟨o2, ho2, hcl2, _⟩ := hq
      rw [e, ho2] at ho
      cases ho
      rw [hcl2] at hcl
      exact absurd (Value.type.inj hcl) (by decide)
    have hh : X.A.in1.handled = none := I.ok.hd hc
    have sa : i = ia.toArray.size := by rw [List.size_toArray, ← ra.length]; exact la
    have sb : i = ib.toArray.size := by rw [List.size_toArray, ← rb.length]; exact lb
    have sc : i = ic.toArray.size := by rw [List.size_toArray, ← rc.length]; exact lc
    exact wpAny_pyNext_zipD3_end (i := i) D (Draws.tuple hh i1 a (dd pa t1) ia.toArray) (Draws.tuple hh i2 b (dd pb t2) ib.toArray) (Draws.tuple hh i3 c (dd pc t3) ic.toArray) s1 s2 s3 ⟨t1, pa⟩ ⟨t2, pb⟩ ⟨t3, pc⟩
      (Nat.le_of_eq sa) (Nat.le_of_eq sb) (Nat.le_of_eq sc) (.inl sa) fun h' tk hk => ⟨rfl, I.turnedL (ch := [z, TI, TO, i1, i2, i3]) (fun d o hd q => hk d o (fun e => hd (by simp [e])) (fun e => hd (by simp [e])) (fun e => hd (by simp [e])) (fun e => hd (by simp [e])) (fun e => hd (by simp [e])) q) hf⟩
/-- what stands within zip(a, b, c) -/
def iZip3 (K : PySem.W.Frag) (ta : TA) : TI := fun σ H R => ta σ H fun vs H1 => ∃ (a b c : Addr) (xs ys zs : List V), vs = [.ref a, .ref b, .ref c] ∧ SqT K H1 a xs ∧ SqT K H1 b ys ∧ SqT K H1 c zs ∧ R (Itz3 K a b c) H1
theorem no2 {x y z : Nat} (h1 : x ≠ y) (h2 : x ≠ z) : x ∉ [y, z] := fun h => by
  rcases List.mem_cons.mp h with e | e
  · exact h1 e
  · exact h2 (List.mem_singleton.mp e)
theorem sep_new (n a b c : Nat) (la : a < n) (lb : b < n) (lc : c < n) : ZipSep3 (n + 5) (n + 3) (n + 4) n (n + 1) (n + 2) [n, a] [n + 1, b] [n + 2, c] :=
  ⟨(show (n + 3 : Nat) ≠ n + 5 by omega),
    (show (n + 4 : Nat) ≠ n + 5 by omega),
    (show (n + 3 : Nat) ≠ n + 4 by omega),
    (show (n + 3 : Nat) ≠ n by omega),
    (List.mem_cons_self ..),
    (no2 (show (n + 5 : Nat) ≠ n by omega) (show (n + 5 : Nat) ≠ a by omega)),
    (no2 (show (n + 4 : Nat) ≠ n by omega) (show (n + 4 : Nat) ≠ a by omega)),
    (show (n + 3 : Nat) ≠ n + 1 by omega),
    (List.mem_cons_self ..),
    (no2 (show (n + 5 : Nat) ≠ n + 1 by omega) (show (n + 5 : Nat) ≠ b by omega)),
    (no2 (show (n + 4 : Nat) ≠ n + 1 by omega) (show (n + 4 : Nat) ≠ b by omega)),
    (show (n + 3 : Nat) ≠ n + 2 by omega),
    (List.mem_cons_self ..),
    (no2 (show (n + 5 : Nat) ≠ n + 2 by omega) (show (n + 5 : Nat) ≠ c by omega)),
    (no2 (show (n + 4 : Nat) ≠ n + 2 by omega) (show (n + 4 : Nat) ≠ c by omega)),
    (no2 (show (n : Nat) ≠ n + 1 by omega) (show (n : Nat) ≠ b by omega)),
    (no2 (show (n : Nat) ≠ n + 2 by omega) (show (n : Nat) ≠ c by omega)),
    (no2 (show (n + 1 : Nat) ≠ n by omega) (show (n + 1 : Nat) ≠ a by omega)),
    (no2 (show (n + 1 : Nat) ≠ n + 2 by omega) (show (n + 1 : Nat) ≠ c by omega)),
    (no2 (show (n + 2 : Nat) ≠ n by omega) (show (n + 2 : Nat) ≠ a by omega)),
    (no2 (show (n + 2 : Nat) ≠ n + 1 by omega) (show (n + 2 : Nat) ≠ b by omega))⟩
theorem pi_zip3 {X : Cx} {e e2 e3 : Expr} {ta : TA} {p pos tpos : Pos} {elts : List Expr} {kk : Nat} (hg : Gl X "zip") (hm : X.mg "zip" = none) (ha : PA X [e, e2, e3] ta)
    (hs : starEach [e, e2, e3] X.env = (false, eval e X.env) :: starEach [e2, e3] X.env := by rfl) (hpl : (backTo pos (starEach [e2, e3] X.env)).any (·.1) = false := by rfl) :
    PI X (.Tuple elts kk tpos) (.Call (.Name "zip" p) [e, e2, e3] [] pos) (iZip3 X.K ta) := by
  refine ⟨fun pins s σ H R I h => ?_⟩
  refine Call_ (ld_blt I hg hm PyProof.Rows.boot_zip (PyProof.Rows.callWith_type1 (thn (ha.run pos pins s σ H _ I h) fun us s1 ⟨vs, H1, I1, r1, q1⟩ => ?_) hs hpl))
  obtain ⟨a, b, c, xs, ys, zs, rfl, qa, qb, qc, q⟩ := q1
  obtain ⟨ua, us', rfl, r1', rr⟩ : ∃ ua us', us = ua :: us' ∧ RelV (.ref a) ua ∧ Vals [.ref b, .ref c] us' := by
    cases r1 with
    | cons r rr => exact ⟨_, _, rfl, r, rr⟩
  obtain ⟨ub, uc, rfl, r2', r3'⟩ := vals2 rr
  cases r1'
  cases r2'
  cases r3'
  obtain ⟨ia, ra, pa, _⟩ := I1.tuple qa
  obtain ⟨ib, rb, pb, _⟩ := I1.tuple qb
  obtain ⟨ic, rc, pc, _⟩ := I1.tuple qc
  have la : a < s1.heap.objs.size := by obtain ⟨_, e, _⟩ := pa; exact Heap.lt_size e
  have lb : b < s1.heap.objs.size := by obtain ⟨_, e, _⟩ := pb; exact Heap.lt_size e
  have lc : c < s1.heap.objs.size := by obtain ⟨_, e, _⟩ := pc; exact Heap.lt_size e
  refine zip_begins3 (begins_tuple a ia.toArray) (begins_tuple b ib.toArray) (begins_tuple c ic.toArray) pa pb pc fun h' hz hTI hTO g1 g2 g3 _ hk => wpAny_pyIter_zip hz ?_
  have I2 : Inv X pins σ H1 { s1 with heap := h' } := I1.kept (t' := s1.toks) hk
  have sep := sep_new s1.heap.objs.size a b c la lb lc
  refine ⟨s1.heap.objs.size + 5, [s1.heap.objs.size + 5, s1.heap.objs.size + 3, s1.heap.objs.size + 4, s1.heap.objs.size, s1.heap.objs.size + 1, s1.heap.objs.size + 2], _, _, H1, rfl, I2, turn_zip3 sep, ⟨hz, hTI, ⟨_, _, _, hTO⟩, ⟨_, g1, rfl, rfl⟩, ⟨_, g2, rfl, rfl⟩, ⟨_, g3, rfl, rfl⟩⟩, fun d hd => ?_, q⟩
  have hle : s1.heap.objs.size ≤ d := by
    rcases six hd with e | e | e | e | e | e <;> rw [e] <;> first | exact Nat.le_add_right _ _ | exact Nat.le_refl _
  exact I1.fpOk hle (I1.hok.fresh hle)
/-- a new triple of the i-th ones -/
def YTri (xs ys zs : List V) : Nat → Hp → V → Hp → Prop := fun i H v H' => ∃ T x y u, v = .ref T ∧ H T = none ∧ H' = upd H T (.tup [x, y, u]) ∧ xs[i]? = some x ∧ ys[i]? = some y ∧ zs[i]? = some u
section
variable {K : PySem.W.Frag} {a b c : Addr} {xs ys zs : List V}
theorem walk_zip3 (h1 : ys.length = xs.length) (h2 : zs.length = xs.length) : Walk (Itz3 K a b c) xs.length (fun H => H a = some (.tup xs) ∧ H b = some (.tup ys) ∧ H c = some (.tup zs)) (YTri xs ys zs) :=
  ⟨fun i H hi q => ⟨xs, ys, zs, SqT.of q.1, SqT.of q.2.1, SqT.of q.2.2, hi, by omega, by omega⟩, fun H q => ⟨xs, ys, zs, SqT.of q.1, SqT.of q.2.1, SqT.of q.2.2, rfl, h1.symm, h2.symm⟩,
    fun i H v H' _ q ⟨T, x, y, u, e1, e2, e3, e4, e5, e6⟩ => ⟨T, x, y, u, e1, e2, e3, e4 _ (SqT.of q.1), e5 _ (SqT.of q.2.1), e6 _ (SqT.of q.2.2)⟩⟩
theorem walk_zipT (h1 : ys.length = xs.length) : Walk (ItzT K a b) xs.length (fun H => H a = some (.tup xs) ∧ H b = some (.tup ys)) (YPair (fun i => xs[i]?) (fun i => ys[i]?)) :=
  ⟨fun i H hi q => ⟨xs, ys, xs[i], ys[i], SqT.of q.1, SqT.of q.2, List.getElem?_eq_getElem hi, List.getElem?_eq_getElem (by omega)⟩, fun H q => ⟨xs, ys, SqT.of q.1, SqT.of q.2, .inl (Nat.le_refl _)⟩,
    fun i H v H' _ q ⟨T, x, y, e1, e2, e3, e4, e5⟩ => ⟨T, x, y, e1, e2, e3, e4 _ (SqT.of q.1), e5 _ (SqT.of q.2)⟩⟩
end

/-! ### comprehensions that leave the state alone: a pure one; a dict -/
section
variable {J : It} {n : Nat} {G : Hp → Prop} {Y : Nat → Hp → V → Hp → Prop} {g : TG} {tt : TT} {te tk tv : TE} {vs : List Nat} {σ : L2.St} {Q : VK} {H1 : Hp} {K : PySem.W.Frag} {ta : TA}
/-- a comprehension with a test, nothing changed but new objects; B tells the test's word at each turn, v the item's value -/
theorem kLc_pure (wk : Walk J n G Y) (hn : n ≤ 100000) (hG : ∀ H', Adv [] H1 H' → G H') (B : Nat → Bool) (v : Nat → V)
    (step : ∀ i x H H' (Kt : V → Hp → Prop) (Kf : Hp → Prop), i < n → Adv [] H1 H → Y i H x H' → (B i = true → ∀ H4, Adv [] H H4 → Kt (v i) H4) → (B i = false → ∀ H3, Adv [] H H3 → Kf H3) →
      g x (wipe σ vs) H' fun σ2 H2 => wipe σ2 vs = wipe σ vs ∧ tt σ2 H2 fun b H3 => if b = true then te σ2 H3 Kt else Kf H3)
    (k : ∀ p H', H1 p = none → Adv [] H1 H' → H' p = some (.lst (((List.range n).filter B).map v)) → Q (.ref p) H') : kLc J g tt te vs σ Q H1 := by
  intro D hD
  refine lc_it wk (fun i H => i ≤ n ∧ Adv [] H1 H ∧ H D = some (.lst (((List.range i).filter B).map v))) ⟨Nat.zero_le _, Adv.new hD, upd_same⟩ (fun i H _ p => hG H p.2.1) (fun i x H H' hi p y => ?_) fun H p => k D H hD p.2.1 p.2.2
  obtain ⟨_, g1, e1⟩ := p
  have hlen : (((List.range i).filter B).map v).length ≤ 100000 := by
    rw [List.length_map]
    refine Nat.le_trans (List.length_filter_le ..) ?_
    rw [List.length_range]
    omega
  refine step i x H H' _ _ hi g1 y (fun hb H4 g4 => ?_) fun hb H3 g3 => ?_
  · have e4 := g4.keep _ _ (fun z => nomatch z) e1
    refine ⟨_, e4, Nat.lt_of_lt_of_le (Nat.lt_succ_of_le hlen) (by decide), hi, (g1.trans g4).mut hD e4 (fun _ z => by cases z), ?_⟩
    rw [upd_same, List.range_succ, List.filter_append, List.map_append]
    simp [hb]
  · refine ⟨hi, g1.trans g3, ?_⟩
    rw [g3.keep _ _ (fun z => nomatch z) e1, List.range_succ, List.filter_append, List.map_append]
    simp [hb]
theorem kLcR_pure {n : Nat} (hn : n ≤ 100000) (B : Nat → Bool) (v : Nat → V)
    (step : ∀ i H (Kt : V → Hp → Prop) (Kf : Hp → Prop), i < n → Adv [] H1 H → (B i = true → ∀ H4, Adv [] H H4 → Kt (v i) H4) → (B i = false → ∀ H3, Adv [] H H3 → Kf H3) →
      g (.int (i : Nat)) (wipe σ vs) H fun σ2 H2 => wipe σ2 vs = wipe σ vs ∧ tt σ2 H2 fun b H3 => if b = true then te σ2 H3 Kt else Kf H3)
    (k : ∀ p H', H1 p = none → Adv [] H1 H' → H' p = some (.lst (((List.range n).filter B).map v)) → Q (.ref p) H') : kLcR g tt te vs σ Q [.int (n : Nat)] H1 := by
  refine ⟨(n : Nat), rfl, by omega, by omega, ?_⟩
  rw [show ((n : Nat) : Int).toNat = n by omega]
  refine kLc_pure walk_range hn (fun _ _ => trivial) B v (fun i x H H' Kt Kf hi g1 y kt kf => ?_) k
  obtain ⟨rfl, rfl⟩ := y
  show g (.int ((0 : Int) + (i : Nat))) _ _ _
  rw [Int.zero_add]
  exact step i H' Kt Kf hi g1 kt kf
/-- over three tuples of one length -/
def kLc3 (K : PySem.W.Frag) (g : TG) (tt : TT) (te : TE) (vs : List Nat) (σ : L2.St) (Q : VK) (ws : List V) (H1 : Hp) : Prop := ∃ (a b c : Addr) (xs ys zs : List V), ws = [.ref a, .ref b, .ref c] ∧ SqT K H1 a xs ∧ SqT K H1 b ys ∧ SqT K H1 c zs ∧ kLc (Itz3 K a b c) g tt te vs σ Q H1
theorem w_lc3 (h : ta σ H1 (kLc3 K g tt te vs σ Q)) : tLc (iZip3 K ta) g tt te vs σ H1 Q := h
/-- a dict is made, turn by turn -/
def kDc (J : It) (g : TG) (tt : TT) (tk tv : TE) (vs : List Nat) (σ : L2.St) (Q : VK) (H1 : Hp) : Prop := ∀ D, H1 D = none → ∃ W : Nat → Nat → Hp → Prop, (∃ m, W 0 m (upd H1 D (.dK []))) ∧ ∀ i m H, W i m H →
  (J.stop i H ∧ Q (.ref D) H) ∨ (J.go i H ∧ ∃ Nx : Hp → Prop, (∀ H', Nx H' → ∃ m', m' < m ∧ W (i + 1) m' H') ∧ ∀ x H', J.yld i H x H' → g x (wipe σ vs) H' fun σ2 H2 => wipe σ2 vs = wipe σ vs ∧ tt σ2 H2 fun b H3 =>
    if b = true then tk σ2 H3 fun y H4 => tv σ2 H4 fun z H5 => ∃ kvs k, y = kV k ∧ H5 D = some (.dK kvs) ∧ kvs.length < sizeLine ∧ Nx (upd H5 D (.dK (putK kvs k z))) else Nx H3)
/-- all turns give: the dict holds the last of each key -/
def dictOf (key : Nat → Key) (val : Nat → V) : Nat → List (Key × V)
  | 0 => []
  | i + 1 => putK (dictOf key val i) (key i) (val i)
theorem dictOf_len (key : Nat → Key) (val : Nat → V) : ∀ n, (dictOf key val n).length ≤ n
  | 0 => Nat.le_refl _
  | i + 1 => Nat.le_trans (length_putK ..) (Nat.succ_le_succ (dictOf_len key val i))
theorem dictOf_val {key : Nat → Key} {val : Nat → V} : ∀ {n j : Nat}, (∀ a b, a < n → b < n → key a = key b → a = b) → j < n → valV (dictOf key val n) (key j) = some (val j)
  | i + 1, j, hk, hj => by
    show valV (putK (dictOf key val i) (key i) (val i)) (key j) = _
    rw [valV_put]
    by_cases e : key j = key i
    · have ej := hk j i hj (Nat.lt_succ_self i) e
      subst ej
      rw [if_pos rfl]
    · rw [if_neg e]
      refine dictOf_val (fun a b ha hb => hk a b (Nat.lt_succ_of_lt ha) (Nat.lt_succ_of_lt hb)) ?_
      have : j ≠ i := fun z => e (by rw [z])
      omega
theorem kDc_pure (wk : Walk J n G Y) (hn : n ≤ 100000) (hG : ∀ H', Adv [] H1 H' → G H') (key : Nat → Key) (val : Nat → V)
    (step : ∀ i x H H' (Kt : V → V → Hp → Prop), i < n → Adv [] H1 H → Y i H x H' → (∀ H4, Adv [] H H4 → Kt (kV (key i)) (val i) H4) → g x (wipe σ vs) H' fun σ2 H2 => wipe σ2 vs = wipe σ vs ∧ tk σ2 H2 fun y H4 => tv σ2 H4 (Kt y))
    (k : ∀ p H', H1 p = none → Adv [] H1 H' → H' p = some (.dK (dictOf key val n)) → Q (.ref p) H') : kDc J g tYes tk tv vs σ Q H1 := by
  intro D hD
  refine ⟨fun i m H => m = n - i ∧ i ≤ n ∧ Adv [] H1 H ∧ H D = some (.dK (dictOf key val i)), ⟨n, by simp, Nat.zero_le _, Adv.new hD, upd_same⟩, ?_⟩
  rintro i m H ⟨rfl, hi, g1, e1⟩
  have q := hG H g1
  by_cases hlt : i < n
  · refine .inr ⟨wk.goes i H hlt q, fun H' => i + 1 ≤ n ∧ Adv [] H1 H' ∧ H' D = some (.dK (dictOf key val (i + 1))), fun H' p' => ⟨n - (i + 1), by omega, rfl, p'⟩, fun x H' y => ?_⟩
    refine step i x H H' (fun y z H5 => ∃ kvs k, y = kV k ∧ H5 D = some (.dK kvs) ∧ kvs.length < sizeLine ∧ (fun H' => i + 1 ≤ n ∧ Adv [] H1 H' ∧ H' D = some (.dK (dictOf key val (i + 1)))) (upd H5 D (.dK (putK kvs k z)))) hlt g1 (wk.yields i H x H' hlt q y) fun H4 g4 => ?_
    have e4 := g4.keep _ _ (fun z => nomatch z) e1
    exact ⟨_, key i, rfl, e4, Nat.lt_of_le_of_lt (dictOf_len key val i) (Nat.lt_of_lt_of_le (show i < 100001 by omega) (by decide)), hlt, (g1.trans g4).mut hD e4 (fun _ z => by cases z), upd_same⟩
  · have e : i = n := by omega
    subst e
    exact .inl ⟨wk.stops H q, k D H hD g1 e1⟩
/-- a dict over zip(a, b) of tuples; over a tuple -/
def kDcZ (K : PySem.W.Frag) (g : TG) (tt : TT) (tk tv : TE) (vs : List Nat) (σ : L2.St) (Q : VK) (ws : List V) (H1 : Hp) : Prop := ∃ a b xs ys, ws = [.ref a, .ref b] ∧ ((SqL K H1 a xs ∧ SqL K H1 b ys ∧ kDc (Itz K a b) g tt tk tv vs σ Q H1) ∨ (SqT K H1 a xs ∧ SqT K H1 b ys ∧ kDc (ItzT K a b) g tt tk tv vs σ Q H1))
theorem w_dcZ (h : ta σ H1 (kDcZ K g tt tk tv vs σ Q)) : tDc (iZipA K ta) g tt tk tv vs σ H1 Q := h
def kDcT (K : PySem.W.Frag) (g : TG) (tt : TT) (tk tv : TE) (vs : List Nat) (σ : L2.St) (Q : VK) (x : V) (H1 : Hp) : Prop := ∃ a, x = .ref a ∧ (∃ xs, SqT K H1 a xs) ∧ kDc (Itt K a) g tt tk tv vs σ Q H1
theorem w_dcT {tl : TE} (h : tl σ H1 (kDcT K g tt tk tv vs σ Q)) : tDc (iTup K tl) g tt tk tv vs σ H1 Q := h
theorem w_dnew {σ : L2.St} {H : Hp} (q : ∀ r H', H r = none → Adv [] H H' → H' r = some (.dK []) → Q (.ref r) H') : tDNewK σ H Q := w_new q
/-! pairs and triples taken apart -/
theorem w_gtup {n : Nat} {t : TGs} {a : Addr} {xs : List V} {σ : L2.St} {H : Hp} {Q : L2.St → Hp → Prop} (h : SqT K H a xs) (hl : xs.length = n) (q : t xs σ H Q) : gTup K n t (.ref a) σ H Q := ⟨a, xs, rfl, h, hl, q⟩
theorem w_gcons {t : TG} {u : TGs} {v : V} {r : List V} {σ : L2.St} {H : Hp} {Q : L2.St → Hp → Prop} (q : t v σ H fun σ' H' => u r σ' H' Q) : gCons t u (v :: r) σ H Q := ⟨v, r, rfl, q⟩
theorem w_gnil {σ : L2.St} {H : Hp} {Q : L2.St → Hp → Prop} (q : Q σ H) : gNil [] σ H Q := ⟨rfl, q⟩
end
end AW
/-! pairings: the mathematics -/
namespace AW
abbrev Ask := List (Int × Nat)
def keysA (ask : Ask) : List Int := ask.map (·.1)
def addW (r : Nat) (ask : Ask) (w : Int) : Ask := if w ∈ keysA ask then ask else ask ++ [(w, r)]
def rowOf (R : List (List Int)) (r : Nat) : List Int := R.getD r []
def addRow (R : List (List Int)) (ask : Ask) (r : Nat) : Ask := (rowOf R r).foldl (addW r) ask
def holdersTo (ch : List (Option Int)) (v : Int) (n : Nat) : List Nat := (List.range n).filter fun i => decide (ch[i]? = some (some v))
def holders (ch : List (Option Int)) (v : Int) : List Nat := holdersTo ch v ch.length
def startA (R : List (List Int)) (k : Nat) : Ask := (rowOf R k).map fun v => (v, k)
def bfs (R : List (List Int)) (ch : List (Option Int)) : Nat → Ask → Nat → Ask × Option Int
  | 0, ask, _ => (ask, none)
  | f + 1, ask, d => match ask[d]? with
    | none => (ask, none)
    | some p => if holders ch p.1 = [] then (ask, some p.1) else bfs R ch f ((holders ch p.1).foldl (addRow R) ask) (d + 1)
def lookA (ask : Ask) (v : Int) : Nat := ((ask.find? fun p => p.1 == v).map (·.2)).getD 0
def handOn (ask : Ask) : Nat → List (Option Int) → Int → List (Option Int)
  | 0, ch, _ => ch
  | f + 1, ch, v => match ch.getD (lookA ask v) none with
    | none => ch.set (lookA ask v) (some v)
    | some u => handOn ask f (ch.set (lookA ask v) (some v)) u
def sortI (xs : List Int) : List Int := xs.mergeSort (fun a b => decide (a ≤ b))
def valsN (R : List (List Int)) : Nat := R.flatten.length
def place (R : List (List Int)) (ch : List (Option Int)) (k : Nat) : List (Option Int) × Option (List Int) :=
  match bfs R ch (valsN R + 1) (startA R k) 0 with
  | (ask, some v) => (handOn ask (ask.length + 1) ch v, none)
  | (ask, none) => (ch, some (sortI (keysA ask)))
def greatTo (R : List (List Int)) : Nat → List (Option Int)
  | 0 => List.replicate R.length none
  | k + 1 => (place R (greatTo R k) k).1
def great (R : List (List Int)) : List (Option Int) := greatTo R R.length

/-! ### small facts about lists -/
theorem len_le_of_sub {α : Type} [DecidableEq α] : ∀ {l m : List α}, l.Nodup → (∀ x ∈ l, x ∈ m) → l.length ≤ m.length
  | [], _, _, _ => Nat.zero_le _
  | a :: l, m, h, hs => by
    have ha := hs a (List.mem_cons_self ..)
    have hn := List.nodup_cons.mp h
    have := len_le_of_sub (l := l) (m := m.erase a) hn.2 fun x hx => by
      have hx2 := hs x (List.mem_cons_of_mem _ hx)
      have : x ≠ a := fun e => hn.1 (e ▸ hx)
      exact (List.mem_erase_of_ne this).mpr hx2
    rw [List.length_erase_of_mem ha] at this
    have h1 : 0 < m.length := List.length_pos_of_mem ha
    simp only [List.length_cons]
    omega
theorem nodup_map_on {α β : Type} {f : α → β} : ∀ {l : List α}, l.Nodup → (∀ x ∈ l, ∀ y ∈ l, f x = f y → x = y) → (l.map f).Nodup
  | [], _, _ => List.nodup_nil
  | a :: l, h, hi => by
    have hn := List.nodup_cons.mp h
    rw [List.map_cons, List.nodup_cons]
    refine ⟨fun hm => ?_, nodup_map_on hn.2 fun x hx y hy => hi x (List.mem_cons_of_mem _ hx) y (List.mem_cons_of_mem _ hy)⟩
    obtain ⟨b, hb, e⟩ := List.mem_map.mp hm
    exact hn.1 (hi b (List.mem_cons_of_mem _ hb) a (List.mem_cons_self ..) e ▸ hb)
theorem rowOf_sub {R : List (List Int)} {r : Nat} {v : Int} (h : v ∈ rowOf R r) : v ∈ R.flatten := by
  unfold rowOf at h
  rw [List.getD_eq_getElem?_getD] at h
  cases e : R[r]? with
  | none => rw [e] at h; simp at h
  | some x =>
    rw [e] at h
    exact List.mem_flatten.mpr ⟨x, List.mem_of_getElem? e, h⟩
theorem sortI_perm (xs : List Int) : (sortI xs).Perm xs := List.mergeSort_perm ..
theorem sortI_le (xs : List Int) : (sortI xs).Pairwise (· ≤ ·) := by
  have := List.pairwise_mergeSort (le := fun a b : Int => decide (a ≤ b)) (fun a b c h1 h2 => by simp at *; omega) (fun a b => by simp; omega) xs
  exact this.imp fun h => by simpa using h
theorem perm_sorted_eq : ∀ {a b : List Int}, a.Perm b → a.Pairwise (· ≤ ·) → b.Pairwise (· ≤ ·) → a = b
  | [], b, p, _, _ => (List.Perm.nil_eq p)
  | x :: a, [], p, _, _ => absurd p.length_eq (by simp)
  | x :: a, y :: b, p, ha, hb => by
    have ha' := List.pairwise_cons.mp ha
    have hb' := List.pairwise_cons.mp hb
    have hx : x ∈ y :: b := p.mem_iff.mp (List.mem_cons_self ..)
    have hy : y ∈ x :: a := p.mem_iff.mpr (List.mem_cons_self ..)
    have e : x = y := by
      rcases List.mem_cons.mp hx with e | h1
      · exact e
      · rcases List.mem_cons.mp hy with e | h2
        · exact e.symm
        · have := ha'.1 _ h2
          have := hb'.1 _ h1
          omega
    subst e
    rw [perm_sorted_eq (List.Perm.cons_inv p) ha'.2 hb'.2]
theorem le_to_lt {xs : List Int} (h : xs.Pairwise (· ≤ ·)) (n : xs.Nodup) : xs.Pairwise (· < ·) := by
  refine (h.and n).imp fun {a b} h => ?_
  have := h.2
  have := h.1
  omega
theorem lt_nodup {xs : List Int} (h : xs.Pairwise (· < ·)) : xs.Nodup := h.imp fun h => by omega

/-! ### sets of rows that can be matched -/
def Mtch (R : List (List Int)) (S : Nat → Prop) : Prop := ∃ g : Nat → Int, (∀ r, S r → g r ∈ rowOf R r) ∧ ∀ r r', S r → S r' → g r = g r' → r = r'
theorem Mtch.congr {R : List (List Int)} {S T : Nat → Prop} (h : Mtch R S) (e : ∀ r, T r → S r) : Mtch R T := by
  obtain ⟨g, h1, h2⟩ := h
  exact ⟨g, fun r hr => h1 r (e r hr), fun r r' a b => h2 r r' (e r a) (e r' b)⟩
theorem blocked {R : List (List Int)} {S : Nat → Prop} {k : Nat} {F : List Int} (hold : Int → Nat) (nF : F.Nodup) (hk : ∀ w ∈ rowOf R k, w ∈ F) (hS : ¬ S k) (h1 : ∀ v ∈ F, S (hold v)) (h2 : ∀ v ∈ F, ∀ w ∈ rowOf R (hold v), w ∈ F)
    (h3 : ∀ v ∈ F, ∀ u ∈ F, hold v = hold u → v = u) : ¬ Mtch R (fun r => S r ∨ r = k) := by
  rintro ⟨g, g1, g2⟩
  have nl : (k :: F.map hold).Nodup := by
    rw [List.nodup_cons]
    refine ⟨fun h => ?_, nodup_map_on nF h3⟩
    obtain ⟨v, hv, e⟩ := List.mem_map.mp h
    exact hS (e ▸ h1 v hv)
  have all : ∀ r ∈ (k :: F.map hold), (S r ∨ r = k) ∧ ∀ w ∈ rowOf R r, w ∈ F := fun r hr => by
    rcases List.mem_cons.mp hr with rfl | hr
    · exact ⟨.inr rfl, hk⟩
    · obtain ⟨v, hv, rfl⟩ := List.mem_map.mp hr
      exact ⟨.inl (h1 v hv), h2 v hv⟩
  have n2 : ((k :: F.map hold).map g).Nodup := nodup_map_on nl fun x hx y hy e => g2 x y (all x hx).1 (all y hy).1 e
  have := len_le_of_sub n2 (m := F) fun x hx => by
    obtain ⟨r, hr, rfl⟩ := List.mem_map.mp hx
    exact (all r hr).2 _ (g1 r (all r hr).1)
  simp at this
  omega

/-! ### placings -/
structure Valid (R : List (List Int)) (ch : List (Option Int)) : Prop where
  len : ch.length = R.length
  mem : ∀ (i : Nat) v, ch[i]? = some (some v) → v ∈ rowOf R i
  inj : ∀ (i j : Nat) v, ch[i]? = some (some v) → ch[j]? = some (some v) → i = j
def Has (ch : List (Option Int)) (r : Nat) : Prop := ∃ v, ch[r]? = some (some v)
theorem Valid.mtch {R : List (List Int)} {ch : List (Option Int)} (h : Valid R ch) : Mtch R (Has ch) := by
  refine ⟨fun r => (ch.getD r none).getD 0, fun r ⟨v, e⟩ => ?_, fun r r' ⟨v, e⟩ ⟨u, e'⟩ q => ?_⟩
  · show (ch.getD r none).getD 0 ∈ _
    rw [List.getD_eq_getElem?_getD, e]
    exact h.mem _ _ e
  · simp only [List.getD_eq_getElem?_getD, e, e', Option.getD_some] at q
    subst q
    exact h.inj _ _ _ e e'
theorem holders_mem {ch : List (Option Int)} {v : Int} {h : Nat} : h ∈ holders ch v ↔ ch[h]? = some (some v) := by
  unfold holders holdersTo
  rw [List.mem_filter, List.mem_range]
  simp only [decide_eq_true_eq]
  exact ⟨fun h => h.2, fun h => ⟨(List.getElem?_eq_some_iff.mp h).1, h⟩⟩
/-- what the search keeps -/
structure AInv (R : List (List Int)) (ch : List (Option Int)) (k : Nat) (ask : Ask) : Prop where
  nd : (keysA ask).Nodup
  mem : ∀ p ∈ ask, p.1 ∈ rowOf R p.2
  back : ∀ (j : Nat) p, ask[j]? = some p → p.2 = k ∨ ∃ i q, i < j ∧ ask[i]? = some q ∧ ch[p.2]? = some (some q.1)
  own : ∀ w ∈ rowOf R k, w ∈ keysA ask
theorem AInv.len {R : List (List Int)} {ch : List (Option Int)} {k : Nat} {ask : Ask} (h : AInv R ch k ask) : ask.length ≤ valsN R := by
  have := len_le_of_sub h.nd (m := R.flatten) fun x hx => by
    obtain ⟨p, hp, rfl⟩ := List.mem_map.mp hx
    exact rowOf_sub (h.mem p hp)
  unfold keysA at this
  rw [List.length_map] at this
  exact this
theorem addW_app (r : Nat) (ask : Ask) (w : Int) : ∃ t, addW r ask w = ask ++ t := by
  unfold addW
  split
  · exact ⟨[], by simp⟩
  · exact ⟨_, rfl⟩
theorem addW_key (r : Nat) (ask : Ask) (w : Int) : w ∈ keysA (addW r ask w) := by
  unfold addW
  split
  · assumption
  · simp [keysA]
theorem app_keys {ask t : Ask} {w : Int} (h : w ∈ keysA ask) : w ∈ keysA (ask ++ t) := by
  unfold keysA at *
  rw [List.map_append]
  exact List.mem_append_left _ h
theorem app_get {ask t : Ask} {i : Nat} {p : Int × Nat} (h : ask[i]? = some p) : (ask ++ t)[i]? = some p := by
  rw [List.getElem?_append_left (List.getElem?_eq_some_iff.mp h).1]
  exact h
theorem AInv.add {R : List (List Int)} {ch : List (Option Int)} {k r : Nat} {ask : Ask} {w : Int} (h : AInv R ch k ask) (hw : w ∈ rowOf R r) {i : Nat} {q : Int × Nat} (hi : ask[i]? = some q) (hq : ch[r]? = some (some q.1)) : AInv R ch k (addW r ask w) := by
  unfold addW
  split
  · exact h
  · rename_i hn
    refine ⟨?_, fun p hp => ?_, fun j p hp => ?_, fun w hw => app_keys (h.own w hw)⟩
    · unfold keysA at *
      rw [List.map_append, List.nodup_append]
      refine ⟨h.nd, by simp, fun a ha b hb => ?_⟩
      simp at hb
      subst hb
      exact fun e => hn (e ▸ ha)
    · rcases List.mem_append.mp hp with hp | hp
      · exact h.mem p hp
      · rw [List.mem_singleton.mp hp]
        exact hw
    · by_cases hj : j < ask.length
      · rw [List.getElem?_append_left hj] at hp
        rcases h.back j p hp with e | ⟨i, q, h1, h2, h3⟩
        · exact .inl e
        · exact .inr ⟨i, q, h1, app_get h2, h3⟩
      · rw [List.getElem?_append_right (by omega)] at hp
        have hj2 : j = ask.length := by
          have := (List.getElem?_eq_some_iff.mp hp).1
          simp at this
          omega
        subst hj2
        simp at hp
        subst hp
        exact .inr ⟨i, q, (List.getElem?_eq_some_iff.mp hi).1, app_get hi, hq⟩
/-- a part of a holder's row -/
theorem AInv.addSome {R : List (List Int)} {ch : List (Option Int)} {k r : Nat} {i : Nat} {q : Int × Nat} (hq : ch[r]? = some (some q.1)) : ∀ (ws : List Int) (ask : Ask), AInv R ch k ask → (∀ w ∈ ws, w ∈ rowOf R r) → ask[i]? = some q →
    AInv R ch k (ws.foldl (addW r) ask) ∧ (∃ t, ws.foldl (addW r) ask = ask ++ t) ∧ ∀ w ∈ ws, w ∈ keysA (ws.foldl (addW r) ask)
  | [], ask, h, _, _ => ⟨h, ⟨[], by simp⟩, fun w hw => nomatch hw⟩
  | w :: ws, ask, h, hw, hi => by
    obtain ⟨t, et⟩ := addW_app r ask w
    have h1 := h.add (hw w (List.mem_cons_self ..)) hi hq
    have hi1 : (addW r ask w)[i]? = some q := by rw [et]; exact app_get hi
    obtain ⟨a, ⟨t2, e2⟩, c⟩ := AInv.addSome hq ws (addW r ask w) h1 (fun x hx => hw x (List.mem_cons_of_mem _ hx)) hi1
    refine ⟨a, ⟨t ++ t2, ?_⟩, fun x hx => ?_⟩
    · rw [List.foldl_cons, e2, et, List.append_assoc]
    · rw [List.foldl_cons]
      rcases List.mem_cons.mp hx with rfl | hx
      · rw [e2]
        exact app_keys (addW_key ..)
      · exact c x hx
theorem AInv.addRows {R : List (List Int)} {ch : List (Option Int)} {k : Nat} {i : Nat} {q : Int × Nat} : ∀ (hs : List Nat) (ask : Ask), AInv R ch k ask → (∀ r ∈ hs, ch[r]? = some (some q.1)) → ask[i]? = some q →
    AInv R ch k (hs.foldl (addRow R) ask) ∧ (∃ t, hs.foldl (addRow R) ask = ask ++ t) ∧ ∀ r ∈ hs, ∀ w ∈ rowOf R r, w ∈ keysA (hs.foldl (addRow R) ask)
  | [], ask, h, _, _ => ⟨h, ⟨[], by simp⟩, fun w hw => nomatch hw⟩
  | r :: hs, ask, h, hh, hi => by
    obtain ⟨a1, ⟨t, et⟩, c1⟩ := AInv.addSome (i := i) (hh r (List.mem_cons_self ..)) (rowOf R r) ask h (fun _ h => h) hi
    have hi1 : (addRow R ask r)[i]? = some q := by unfold addRow; rw [et]; exact app_get hi
    obtain ⟨a, ⟨t2, e2⟩, c⟩ := AInv.addRows hs (addRow R ask r) a1 (fun x hx => hh x (List.mem_cons_of_mem _ hx)) hi1
    refine ⟨a, ⟨t ++ t2, ?_⟩, fun x hx => ?_⟩
    · rw [List.foldl_cons, e2]
      unfold addRow
      rw [et, List.append_assoc]
    · rw [List.foldl_cons]
      rcases List.mem_cons.mp hx with rfl | hx
      · intro w hw
        rw [e2]
        exact app_keys (c1 w hw)
      · exact c x hx
theorem AInv.start {R : List (List Int)} {ch : List (Option Int)} {k : Nat} (h : (rowOf R k).Nodup) : AInv R ch k (startA R k) := by
  have e : keysA (startA R k) = rowOf R k := by
    unfold keysA startA
    rw [List.map_map]
    exact List.map_id _
  refine ⟨by rw [e]; exact h, fun p hp => ?_, fun j p hp => ?_, fun w hw => by rw [e]; exact hw⟩
  · obtain ⟨v, hv, rfl⟩ := List.mem_map.mp hp
    exact hv
  · obtain ⟨v, hv, rfl⟩ := List.mem_map.mp (List.mem_of_getElem? hp)
    exact .inl rfl
/-- done so far: what is looked at is full, and its holders' rows are asked for -/
def Full (R : List (List Int)) (ch : List (Option Int)) (ask : Ask) (d : Nat) : Prop := ∀ j, j < d → ∀ p, ask[j]? = some p → (∃ h : Nat, ch[h]? = some (some p.1)) ∧ ∀ h : Nat, ch[h]? = some (some p.1) → ∀ w ∈ rowOf R h, w ∈ keysA ask
theorem Full.step {R : List (List Int)} {ch : List (Option Int)} {k : Nat} {ask : Ask} {d : Nat} {p : Int × Nat} (a : AInv R ch k ask) (h : Full R ch ask d) (hp : ask[d]? = some p) (hh : holders ch p.1 ≠ []) :
    Full R ch ((holders ch p.1).foldl (addRow R) ask) (d + 1) := by
  obtain ⟨_, ⟨t, et⟩, c⟩ := AInv.addRows (holders ch p.1) ask a (fun r hr => holders_mem.mp hr) hp
  intro j hj q hq
  by_cases hjd : j < d
  · have hja : j < ask.length := Nat.lt_trans hjd (List.getElem?_eq_some_iff.mp hp).1
    have hq0 := hq
    rw [et, List.getElem?_append_left hja] at hq0
    obtain ⟨x, y⟩ := h j hjd q hq0
    refine ⟨x, fun h eh w hw => ?_⟩
    rw [et]
    exact app_keys (y h eh w hw)
  · have e : j = d := by omega
    subst e
    rw [et, app_get hp] at hq
    cases hq
    refine ⟨?_, fun h eh => c h (holders_mem.mpr eh)⟩
    obtain ⟨h, hm⟩ := List.exists_mem_of_ne_nil _ hh
    exact ⟨h, holders_mem.mp hm⟩
/-- what the search finds -/
theorem bfs_ok {R : List (List Int)} {ch : List (Option Int)} {k : Nat} : ∀ (f : Nat) (ask : Ask) (d : Nat), AInv R ch k ask → Full R ch ask d → d ≤ ask.length → d + f = valsN R + 1 →
    AInv R ch k (bfs R ch f ask d).1 ∧ match (bfs R ch f ask d).2 with
      | some v => v ∈ keysA (bfs R ch f ask d).1 ∧ ∀ h : Nat, ch[h]? ≠ some (some v)
      | none => Full R ch (bfs R ch f ask d).1 (bfs R ch f ask d).1.length
  | 0, ask, d, a, h, hd, hf => by
    have := a.len
    omega
  | f + 1, ask, d, a, h, hd, hf => by
    unfold bfs
    cases e : ask[d]? with
    | none =>
      have : d = ask.length := by
        have := List.getElem?_eq_none_iff.mp e
        omega
      subst this
      exact ⟨a, h⟩
    | some p =>
      by_cases hh : holders ch p.1 = []
      · simp only [hh, if_true]
        refine ⟨a, List.mem_map.mpr ⟨p, List.mem_of_getElem? e, rfl⟩, fun x hx => ?_⟩
        have := holders_mem.mpr hx
        rw [hh] at this
        cases this
      · simp only [hh, if_false]
        obtain ⟨a1, ⟨t, et⟩, _⟩ := AInv.addRows (holders ch p.1) ask a (fun r hr => holders_mem.mp hr) e
        refine bfs_ok f _ (d + 1) a1 (h.step a e hh) ?_ (by omega)
        rw [et, List.length_append]
        have := (List.getElem?_eq_some_iff.mp e).1
        omega
/-! ### handing on -/
theorem lookA_of {ask : Ask} (nd : (keysA ask).Nodup) {p : Int × Nat} (hp : p ∈ ask) : lookA ask p.1 = p.2 := by
  unfold lookA
  induction ask with
  | nil => cases hp
  | cons q ask ih =>
    unfold keysA at nd
    rw [List.map_cons, List.nodup_cons] at nd
    rw [List.find?_cons]
    rcases List.mem_cons.mp hp with rfl | h
    · simp
    · have : q.1 ≠ p.1 := fun e => nd.1 (e ▸ List.mem_map.mpr ⟨p, h, rfl⟩)
      have e : (q.1 == p.1) = false := by simpa using this
      rw [e]
      exact ih nd.2 h
theorem set_get {ch : List (Option Int)} {r i : Nat} {x : Option Int} (h : r < ch.length) : (ch.set r x)[i]? = if i = r then some x else ch[i]? := by
  rw [List.getElem?_set]
  by_cases e : r = i
  · subst e
    simp [h]
  · rw [if_neg e, if_neg (fun z => e z.symm)]
theorem handOn_ok {R : List (List Int)} {ch0 : List (Option Int)} {k : Nat} {ask : Ask} (a : AInv R ch0 k ask) (hk : ch0[k]? = some none) : ∀ (f j : Nat) (p : Int × Nat) (ch : List (Option Int)), ask[j]? = some p → j < f →
    ch.length = R.length → R.length = ch0.length → (∀ (i : Nat) u, ch[i]? = some (some u) → u ∈ rowOf R i) → (∀ (i i' : Nat) u, ch[i]? = some (some u) → ch[i']? = some (some u) → i = i') → (∀ i : Nat, ch[i]? ≠ some (some p.1)) →
    (∀ i : Nat, (∃ (m : Nat) (q : Int × Nat), m < j ∧ ask[m]? = some q ∧ ch0[i]? = some (some q.1)) ∨ i = k → ch[i]? = ch0[i]?) → (∀ i, Has ch i ↔ Has ch0 i) →
    Valid R (handOn ask f ch p.1) ∧ ∀ i, Has (handOn ask f ch p.1) i ↔ (Has ch0 i ∨ i = k)
  | 0, j, p, ch, _, hj, _, _, _, _, _, _, _ => by omega
  | f + 1, j, p, ch, hp, hj, hl, hl0, hm, hi, hn, ho, hs => by
    have ep := lookA_of a.nd (List.mem_of_getElem? hp)
    unfold handOn
    rw [ep]
    have hr : (p.2 = k ∨ ∃ (m : Nat) (q : Int × Nat), m < j ∧ ask[m]? = some q ∧ ch0[p.2]? = some (some q.1)) := by
      rcases a.back j p hp with e | ⟨m, q, h1, h2, h3⟩
      · exact .inl e
      · exact .inr ⟨m, q, h1, h2, h3⟩
    have eo : ch[p.2]? = ch0[p.2]? := ho _ (hr.symm.imp id id |>.symm.symm)
    have hmem := a.mem p (List.mem_of_getElem? hp)
    rcases hr with e | ⟨m, q, h1, h2, h3⟩
    · rw [e] at eo hmem ⊢
      rw [hk] at eo
      have hlt : k < ch.length := (List.getElem?_eq_some_iff.mp eo).1
      rw [List.getD_eq_getElem?_getD, eo]
      show Valid R (ch.set k (some p.1)) ∧ ∀ i, Has (ch.set k (some p.1)) i ↔ _
      refine ⟨⟨by rw [List.length_set]; exact hl, fun i u h => ?_, fun i i' u h h' => ?_⟩, fun i => ?_⟩
      · rw [set_get hlt] at h
        split at h
        · rename_i e; subst e; cases h; exact hmem
        · exact hm i u h
      · rw [set_get hlt] at h h'
        split at h <;> split at h'
        · rename_i e e'; rw [e, e']
        · cases h; exact absurd h' (hn _)
        · cases h'; exact absurd h (hn _)
        · exact hi i i' u h h'
      · unfold Has
        rw [set_get hlt]
        split
        · rename_i e
          exact ⟨fun _ => .inr e, fun _ => ⟨_, rfl⟩⟩
        · rename_i e
          exact ⟨fun h => .inl ((hs i).mp h), fun h => (hs i).mpr (h.resolve_right e)⟩
    · rw [h3] at eo
      have hlt : p.2 < ch.length := (List.getElem?_eq_some_iff.mp eo).1
      rw [List.getD_eq_getElem?_getD, eo]
      show Valid R (handOn ask f (ch.set p.2 (some p.1)) q.1) ∧ ∀ i, Has (handOn ask f (ch.set p.2 (some p.1)) q.1) i ↔ _
      refine handOn_ok a hk f m q (ch.set p.2 (some p.1)) h2 (by omega) (by rw [List.length_set]; exact hl) hl0 (fun i u h => ?_) (fun i i' u h h' => ?_) (fun i h => ?_) (fun i h => ?_) fun i => ?_
      · rw [set_get hlt] at h
        split at h
        · rename_i e; subst e; cases h; exact hmem
        · exact hm i u h
      · rw [set_get hlt] at h h'
        split at h <;> split at h'
        · rename_i e e'; rw [e, e']
        · cases h; exact absurd h' (hn _)
        · cases h'; exact absurd h (hn _)
        · exact hi i i' u h h'
      · rw [set_get hlt] at h
        split at h
        · have e0 : p.1 = q.1 := Option.some.inj (Option.some.inj h)
          rw [← e0] at eo
          exact absurd eo (hn _)
        · rename_i e
          exact e (hi _ _ _ h eo)
      · have hne : i ≠ p.2 := fun e => by
          subst e
          rcases h with ⟨m', q', g1, g2, g3⟩ | e
          · rw [h3] at g3
            have eq : q.1 = q'.1 := Option.some.inj (Option.some.inj g3)
            -- two places of one key
            have e1 : (keysA ask)[m]? = some q.1 := by unfold keysA; rw [List.getElem?_map, h2]; rfl
            have e2 : (keysA ask)[m']? = some q.1 := by unfold keysA; rw [List.getElem?_map, g2, eq]; rfl
            have := (List.getElem?_inj (List.getElem?_eq_some_iff.mp e1).1 a.nd).mp (e1.trans e2.symm)
            omega
          · rw [e, hk] at h3
            cases h3
        rw [set_get hlt, if_neg hne]
        rcases h with ⟨m', q', g1, g2, g3⟩ | e
        · exact ho i (.inl ⟨m', q', by omega, g2, g3⟩)
        · exact ho i (.inr e)
      · unfold Has
        rw [set_get hlt]
        split
        · rename_i e
          subst e
          exact ⟨fun _ => ⟨_, h3⟩, fun _ => ⟨_, rfl⟩⟩
        · exact hs i
/-- one row more -/
theorem place_ok {R : List (List Int)} {ch : List (Option Int)} {k : Nat} (V : Valid R ch) (hk : ch[k]? = some none) (hn : (rowOf R k).Nodup) :
    match (place R ch k).2 with
    | none => Valid R (place R ch k).1 ∧ ∀ i, Has (place R ch k).1 i ↔ (Has ch i ∨ i = k)
    | some full => (place R ch k).1 = ch ∧ full.Pairwise (· < ·) ∧ (∀ w ∈ rowOf R k, w ∈ full) ∧ ∀ v ∈ full, ∃ h : Nat, ch[h]? = some (some v) ∧ ∀ w ∈ rowOf R h, w ∈ full := by
  have h := bfs_ok (R := R) (ch := ch) (k := k) (valsN R + 1) (startA R k) 0 (AInv.start hn) (fun j hj => absurd hj (Nat.not_lt_zero _)) (Nat.zero_le _) (by omega)
  unfold place
  rcases e : bfs R ch (valsN R + 1) (startA R k) 0 with ⟨ask, x⟩
  rw [e] at h
  obtain ⟨a, h⟩ := h
  cases x with
  | some v =>
    obtain ⟨hv, hf⟩ := h
    obtain ⟨p, hp, rfl⟩ := List.mem_map.mp hv
    obtain ⟨j, hj⟩ := List.getElem?_of_mem hp
    have hjl := (List.getElem?_eq_some_iff.mp hj).1
    simp only at a
    have hjl2 : j < ask.length := hjl
    exact handOn_ok a hk (ask.length + 1) j p ch hj (by omega) V.len V.len.symm V.mem V.inj hf (fun _ _ => rfl) (fun _ => Iff.rfl)
  | none =>
    simp only at a h
    have pm := sortI_perm (keysA ask)
    refine ⟨rfl, le_to_lt (sortI_le _) (pm.nodup_iff.mpr a.nd), fun w hw => pm.mem_iff.mpr (a.own w hw), fun v hv => ?_⟩
    obtain ⟨p, hp, rfl⟩ := List.mem_map.mp (pm.mem_iff.mp hv)
    obtain ⟨j, hj⟩ := List.getElem?_of_mem hp
    obtain ⟨⟨h0, e0⟩, all⟩ := h j (List.getElem?_eq_some_iff.mp hj).1 p hj
    exact ⟨h0, e0, fun w hw => pm.mem_iff.mpr (all h0 e0 w hw)⟩
theorem place_full_blocks {R : List (List Int)} {ch : List (Option Int)} {k : Nat} {full : List Int} (V : Valid R ch) (hk : ch[k]? = some none) (nF : full.Pairwise (· < ·)) (h1 : ∀ w ∈ rowOf R k, w ∈ full)
    (h2 : ∀ v ∈ full, ∃ h : Nat, ch[h]? = some (some v) ∧ ∀ w ∈ rowOf R h, w ∈ full) : ¬ Mtch R (fun r => Has ch r ∨ r = k) := by
  have hh : ∀ v, ∃ h : Nat, v ∈ full → ch[h]? = some (some v) ∧ ∀ w ∈ rowOf R h, w ∈ full := fun v => by
    by_cases hv : v ∈ full
    · obtain ⟨h, e⟩ := h2 v hv
      exact ⟨h, fun _ => e⟩
    · exact ⟨0, fun z => absurd z hv⟩
  refine blocked (fun v => Classical.choose (hh v)) (lt_nodup nF) h1 (fun ⟨v, e⟩ => by rw [hk] at e; cases e) (fun v hv => ⟨v, (Classical.choose_spec (hh v) hv).1⟩) (fun v hv => (Classical.choose_spec (hh v) hv).2) fun v hv u hu e => ?_
  have a := (Classical.choose_spec (hh v) hv).1
  have b := (Classical.choose_spec (hh u) hu).1
  rw [e] at a
  rw [a] at b
  exact Option.some.inj (Option.some.inj b)
/-! ### the law's own seating -/
abbrev Tk := Int → Option Nat
def cntT (P : List Int) (tk : Tk) (r : Nat) : Nat := P.countP fun v => decide (tk v = some r)
def setT (tk : Tk) (v : Int) (k : Nat) : Tk := fun u => if u = v then some k else tk u
structure GoodT (R : List (List Int)) (P : List Int) (tk : Tk) : Prop where
  mem : ∀ v r, tk v = some r → v ∈ rowOf R r ∧ v ∈ P ∧ r < R.length
theorem cnt_set {P : List Int} {tk : Tk} {v : Int} {k : Nat} (nP : P.Nodup) (hv : v ∈ P) (r : Nat) : cntT P (setT tk v k) r + (if tk v = some r then 1 else 0) = cntT P tk r + (if r = k then 1 else 0) := by
  unfold cntT
  induction P with
  | nil => cases hv
  | cons a P ih =>
    have hn := List.nodup_cons.mp nP
    rw [List.countP_cons, List.countP_cons]
    rcases List.mem_cons.mp hv with rfl | h
    · have e : P.countP (fun u => decide (setT tk v k u = some r)) = P.countP (fun u => decide (tk u = some r)) := by
        refine List.countP_congr fun u hu => ?_
        have : u ≠ v := fun z => hn.1 (z ▸ hu)
        simp [setT, this]
      rw [e]
      simp only [setT, if_true, decide_eq_true_eq, Option.some.injEq]
      by_cases h1 : tk v = some r <;> by_cases h2 : r = k <;> simp [h1, h2] <;> first | omega | (try (intro z; exact absurd z.symm h2))
      all_goals (first | omega | (split <;> first | omega | (rename_i z; exact absurd z.symm h2)))
    · have : a ≠ v := fun z => hn.1 (z ▸ h)
      have := ih hn.2 h
      have e : setT tk v k a = tk a := by simp [setT, *]
      rw [e]
      omega
/-- the word True: one row more is seated -/
structure SeatT (R : List (List Int)) (P : List Int) (tk : Tk) (k : Nat) (S : List Int) (tk' : Tk) : Prop where
  cnt : ∀ r, cntT P tk' r = cntT P tk r + if r = k then 1 else 0
  old : ∀ v ∈ S, tk' v = tk v
  good : GoodT R P tk'
theorem SeatT.free {R : List (List Int)} {P : List Int} {tk : Tk} {k : Nat} {S : List Int} {v : Int} (nP : P.Nodup) (g : GoodT R P tk) (hv : v ∈ rowOf R k) (hP : v ∈ P) (hk : k < R.length) (hS : v ∉ S) (e : tk v = none) : SeatT R P tk k S (setT tk v k) := by
  refine ⟨fun r => ?_, fun u hu => ?_, ⟨fun u r h => ?_⟩⟩
  · have := cnt_set (tk := tk) (k := k) nP hP r
    rw [e] at this
    simpa using this
  · have : u ≠ v := fun z => hS (z ▸ hu)
    simp [setT, this]
  · unfold setT at h
    split at h
    · rename_i z; subst z; cases h; exact ⟨hv, hP, hk⟩
    · exact g.mem u r h
theorem SeatT.on {R : List (List Int)} {P : List Int} {tk tk1 : Tk} {k k1 : Nat} {S S1 : List Int} {v : Int} (nP : P.Nodup) (hv : v ∈ rowOf R k) (hP : v ∈ P) (hk : k < R.length) (hS : v ∉ S) (hsub : ∀ u ∈ S, u ∈ S1) (hv1 : v ∈ S1) (e : tk v = some k1) (h : SeatT R P tk k1 S1 tk1) : SeatT R P tk k S (setT tk1 v k) := by
  refine ⟨fun r => ?_, fun u hu => ?_, ⟨fun u r h' => ?_⟩⟩
  · have := cnt_set (tk := tk1) (k := k) nP hP r
    rw [h.old v hv1, e, h.cnt r] at this
    have e2 : (some k1 = some r) = (r = k1) := by
      apply propext
      exact ⟨fun z => (Option.some.inj z).symm, fun z => by rw [z]⟩
    simp only [e2] at this
    omega
  · have : u ≠ v := fun z => hS (z ▸ hu)
    simp only [setT, this, if_false]
    exact h.old u (hsub u hu)
  · unfold setT at h'
    split at h'
    · rename_i z; subst z; cases h'; exact ⟨hv, hP, hk⟩
    · exact h.good.mem u r h'
/-- the word False: what was seen is closed -/
structure SeatF (R : List (List Int)) (tk : Tk) (k : Nat) (S S' : List Int) : Prop where
  sub : ∀ v ∈ S, v ∈ S'
  own : ∀ w ∈ rowOf R k, w ∈ S'
  cls : ∀ v ∈ S', v ∉ S → ∃ r, tk v = some r ∧ ∀ w ∈ rowOf R r, w ∈ S'
/-- in the middle of a row -/
structure SeatM (tk : Tk) (R : List (List Int)) (done : List Int) (S S' : List Int) : Prop where
  sub : ∀ v ∈ S, v ∈ S'
  own : ∀ w ∈ done, w ∈ S'
  cls : ∀ v ∈ S', v ∉ S → ∃ r, tk v = some r ∧ ∀ w ∈ rowOf R r, w ∈ S'
theorem SeatM.skip {tk : Tk} {R : List (List Int)} {done S S' : List Int} {v : Int} (h : SeatM tk R done S S') (hv : v ∈ S') : SeatM tk R (done ++ [v]) S S' :=
  ⟨h.sub, fun w hw => (List.mem_append.mp hw).elim (h.own w) fun e => by rw [List.mem_singleton.mp e]; exact hv, h.cls⟩
theorem SeatM.more {tk : Tk} {R : List (List Int)} {done S S' S1 S2 : List Int} {v : Int} {k1 : Nat} (h : SeatM tk R done S S') (h1 : ∀ u, u ∈ S1 ↔ u ∈ S' ∨ u = v) (e : tk v = some k1) (f : SeatF R tk k1 S1 S2) : SeatM tk R (done ++ [v]) S S2 := by
  refine ⟨fun u hu => f.sub u ((h1 u).mpr (.inl (h.sub u hu))), fun w hw => ?_, fun u hu hn => ?_⟩
  · rcases List.mem_append.mp hw with a | a
    · exact f.sub w ((h1 w).mpr (.inl (h.own w a)))
    · rw [List.mem_singleton.mp a]
      exact f.sub v ((h1 v).mpr (.inr rfl))
  · by_cases hu1 : u ∈ S1
    · rcases (h1 u).mp hu1 with a | rfl
      · obtain ⟨r, e1, e2⟩ := h.cls u a hn
        exact ⟨r, e1, fun w hw => f.sub w ((h1 w).mpr (.inl (e2 w hw)))⟩
      · exact ⟨k1, e, f.own⟩
    · exact f.cls u hu hu1
/-- the law's seats and the program's placing have the same rows -/
structure SameRows (R : List (List Int)) (P : List Int) (tk : Tk) (ch : List (Option Int)) : Prop where
  good : GoodT R P tk
  one : ∀ r, cntT P tk r ≤ 1
  same : ∀ r, 0 < cntT P tk r ↔ Has ch r
theorem cnt_pos {P : List Int} {tk : Tk} {r : Nat} : 0 < cntT P tk r ↔ ∃ v ∈ P, tk v = some r := by
  unfold cntT
  rw [List.countP_pos_iff]
  simp
theorem mtch_of {R : List (List Int)} {P : List Int} {tk : Tk} (g : GoodT R P tk) : Mtch R (fun r => 0 < cntT P tk r) := by
  have hh : ∀ r, ∃ v : Int, 0 < cntT P tk r → tk v = some r := fun r => by
    by_cases h : 0 < cntT P tk r
    · obtain ⟨v, _, e⟩ := cnt_pos.mp h
      exact ⟨v, fun _ => e⟩
    · exact ⟨0, fun z => absurd z h⟩
  refine ⟨fun r => Classical.choose (hh r), fun r hr => (g.mem _ _ (Classical.choose_spec (hh r) hr)).1, fun r r' a b e => ?_⟩
  have x := Classical.choose_spec (hh r) a
  have y := Classical.choose_spec (hh r') b
  simp only at e
  rw [e, y] at x
  exact (Option.some.inj x).symm
theorem SameRows.yes {R : List (List Int)} {P : List Int} {tk tk' : Tk} {ch : List (Option Int)} {k : Nat} (s : SameRows R P tk ch) (V : Valid R ch) (hk : ch[k]? = some none) (hn : (rowOf R k).Nodup) (t : SeatT R P tk k [] tk') :
    (place R ch k).2 = none ∧ SameRows R P tk' (place R ch k).1 := by
  have h := place_ok V hk hn
  have h0 : cntT P tk k = 0 := by
    have : ¬ 0 < cntT P tk k := fun z => by
      obtain ⟨v, e⟩ := (s.same k).mp z
      rw [hk] at e
      cases e
    omega
  cases e : (place R ch k).2 with
  | none =>
    rw [e] at h
    refine ⟨rfl, t.good, fun r => ?_, fun r => ?_⟩
    · rw [t.cnt r]
      have := s.one r
      split
      · rename_i z; subst z; omega
      · omega
    · rw [h.2 r, t.cnt r, ← s.same r]
      split
      · rename_i z; exact ⟨fun _ => .inr z, fun _ => by omega⟩
      · rename_i z; exact ⟨fun a => .inl (by omega), fun a => by have := a.resolve_right z; omega⟩
  | some full =>
    rw [e] at h
    refine absurd ((mtch_of t.good).congr fun r hr => ?_) (place_full_blocks V hk h.2.1 h.2.2.1 h.2.2.2)
    rw [t.cnt r]
    rcases hr with hr | rfl
    · have := (s.same r).mpr hr
      omega
    · simp
theorem SameRows.no {R : List (List Int)} {P : List Int} {tk : Tk} {ch : List (Option Int)} {k : Nat} {S' : List Int} (s : SameRows R P tk ch) (V : Valid R ch) (hk : ch[k]? = some none) (hn : (rowOf R k).Nodup) (nP : P.Nodup) (hP : ∀ w ∈ rowOf R k, w ∈ P) (hP2 : ∀ r, ∀ w ∈ rowOf R r, w ∈ P) (f : SeatF R tk k [] S') :
    ∃ full, (place R ch k).2 = some full ∧ (place R ch k).1 = ch := by
  have h := place_ok V hk hn
  cases e : (place R ch k).2 with
  | some full =>
    rw [e] at h
    exact ⟨full, rfl, h.1⟩
  | none =>
    rw [e] at h
    refine absurd (h.1.mtch.congr fun r hr => (h.2 r).mpr hr) ?_
    have inj : ∀ v u r, tk v = some r → tk u = some r → v = u := fun v u r a b => Classical.byContradiction fun ne => by
      have h1 := s.one r
      have : 2 ≤ cntT P tk r := by
        unfold cntT
        rw [List.countP_eq_length_filter]
        refine len_le_of_sub (l := [v, u]) (by simpa using ne) fun x hx => ?_
        rw [List.mem_filter]
        rcases List.mem_cons.mp hx with rfl | hx
        · exact ⟨(s.good.mem _ _ a).2.1, by simpa using a⟩
        · rw [List.mem_singleton.mp hx]
          exact ⟨(s.good.mem _ _ b).2.1, by simpa using b⟩
      omega
    refine blocked (F := P.filter fun v => decide (v ∈ S')) (fun v => (tk v).getD 0) (nP.filter _) (fun w hw => List.mem_filter.mpr ⟨hP w hw, by simpa using f.own w hw⟩) (fun ⟨v, e⟩ => by rw [hk] at e; cases e) (fun v hv => ?_) (fun v hv w hw => ?_) fun v hv u hu e => ?_
    · obtain ⟨r, e1, e2⟩ := f.cls v (by simpa using (List.mem_filter.mp hv).2) (fun z => nomatch z)
      simp only [e1, Option.getD_some]
      exact (s.same r).mp (cnt_pos.mpr ⟨v, (List.mem_filter.mp hv).1, e1⟩)
    · obtain ⟨r, e1, e2⟩ := f.cls v (by simpa using (List.mem_filter.mp hv).2) (fun z => nomatch z)
      simp only [e1, Option.getD_some] at hw
      exact List.mem_filter.mpr ⟨hP2 r w hw, by simpa using e2 w hw⟩
    · obtain ⟨r, e1, e2⟩ := f.cls v (by simpa using (List.mem_filter.mp hv).2) (fun z => nomatch z)
      obtain ⟨r', e1', e2'⟩ := f.cls u (by simpa using (List.mem_filter.mp hu).2) (fun z => nomatch z)
      simp only [e1, e1', Option.getD_some] at e
      subst e
      exact inj v u r e1 e1'

/-! ### all rows -/
def usedN (ch : List (Option Int)) : Nat := (ch.filterMap id).length
theorem usedN_eq (ch : List (Option Int)) : usedN ch = (ch.map Option.isSome).count true := by
  unfold usedN
  induction ch with
  | nil => rfl
  | cons a ch ih =>
    cases a <;> simp_all
theorem has_get {ch : List (Option Int)} {i : Nat} : Has ch i ↔ (ch.map Option.isSome)[i]? = some true := by
  rw [List.getElem?_map]
  unfold Has
  cases ch[i]? with
  | none => simp
  | some x => cases x <;> simp
theorem usedN_more {R : List (List Int)} {ch ch' : List (Option Int)} {k : Nat} (hl : ch'.length = ch.length) (hk : ch[k]? = some none) (h : ∀ i, Has ch' i ↔ (Has ch i ∨ i = k)) : usedN ch' = usedN ch + 1 := by
  have hkl := (List.getElem?_eq_some_iff.mp hk).1
  have e : ch'.map Option.isSome = (ch.map Option.isSome).set k true := by
    refine List.ext_getElem? fun i => ?_
    rw [List.getElem?_set]
    have hi := h i
    rw [has_get, has_get] at hi
    by_cases e : k = i
    · subst e
      simp only [if_true, List.length_map, hkl]
      exact hi.mpr (.inr rfl)
    · rw [if_neg e]
      by_cases hlt : i < ch.length
      · have q1 : i < (ch.map Option.isSome).length := by simpa using hlt
        have q2 : i < (ch'.map Option.isSome).length := by simpa [hl] using hlt
        have e1 : (ch.map Option.isSome)[i]? = some ((ch.map Option.isSome)[i]'q1) := List.getElem?_eq_getElem q1
        have e2 : (ch'.map Option.isSome)[i]? = some ((ch'.map Option.isSome)[i]'q2) := List.getElem?_eq_getElem q2
        rw [e1, e2] at hi ⊢
        have hi2 : (ch'.map Option.isSome)[i]'q2 = true ↔ (ch.map Option.isSome)[i]'q1 = true := by
          have : ¬ i = k := fun z => e z.symm
          simp only [this, or_false, Option.some.injEq] at hi
          exact hi
        exact congrArg some (Bool.eq_iff_iff.mpr hi2)
      · rw [List.getElem?_eq_none (by simpa [hl] using hlt), List.getElem?_eq_none (by simpa using hlt)]
  rw [usedN_eq, usedN_eq, e, List.count_set (by simpa using hkl)]
  have : (ch.map Option.isSome)[k]'(by simpa using hkl) = false := by
    have := List.getElem?_map (f := Option.isSome) (l := ch) (i := k)
    rw [hk, List.getElem?_eq_getElem (by simpa using hkl)] at this
    simpa using this
  rw [this]
  simp
structure GInv (R : List (List Int)) (k : Nat) : Prop where
  val : Valid R (greatTo R k)
  rest : ∀ i, k ≤ i → i < R.length → (greatTo R k)[i]? = some none
def RowsOk (R : List (List Int)) : Prop := ∀ r ∈ R, r.Pairwise (· < ·)
theorem RowsOk.row {R : List (List Int)} (h : RowsOk R) (k : Nat) : (rowOf R k).Pairwise (· < ·) := by
  unfold rowOf
  rw [List.getD_eq_getElem?_getD]
  cases e : R[k]? with
  | none => exact .nil
  | some x => exact h x (List.mem_of_getElem? e)
theorem ginv {R : List (List Int)} (h : RowsOk R) : ∀ k, k ≤ R.length → GInv R k
  | 0, _ => ⟨⟨by simp [greatTo], fun i v e => by simp [greatTo, List.getElem?_replicate] at e, fun i j v e => by simp [greatTo, List.getElem?_replicate] at e⟩, fun i _ hi => by simp [greatTo, List.getElem?_replicate, hi]⟩
  | k + 1, hk => by
    have g := ginv h k (by omega)
    have hk0 := g.rest k (Nat.le_refl _) (by omega)
    have p := place_ok g.val hk0 (lt_nodup (h.row k))
    show GInv R (k + 1)
    have e1 : greatTo R (k + 1) = (place R (greatTo R k) k).1 := rfl
    cases e : (place R (greatTo R k) k).2 with
    | none =>
      rw [e] at p
      refine ⟨by rw [e1]; exact p.1, fun i h1 h2 => ?_⟩
      rw [e1]
      have hlt : i < (place R (greatTo R k) k).1.length := by rw [p.1.len]; exact h2
      rw [List.getElem?_eq_getElem hlt]
      cases e2 : (place R (greatTo R k) k).1[i] with
      | none => rfl
      | some v =>
        have : Has (greatTo R k) i ∨ i = k := (p.2 i).mp ⟨v, by rw [List.getElem?_eq_getElem hlt, e2]⟩
        rcases this with ⟨u, hu⟩ | z
        · rw [g.rest i (by omega) h2] at hu
          cases hu
        · omega
    | some full =>
      rw [e] at p
      rw [← e1] at p
      refine ⟨by rw [p.1]; exact g.val, fun i h1 h2 => ?_⟩
      rw [p.1]
      exact g.rest i (by omega) h2
theorem used_step {R : List (List Int)} (h : RowsOk R) {k : Nat} (hk : k < R.length) : usedN (greatTo R (k + 1)) = usedN (greatTo R k) + if (place R (greatTo R k) k).2 = none then 1 else 0 := by
  have g := ginv h k (by omega)
  have hk0 := g.rest k (Nat.le_refl _) (by omega)
  have p := place_ok g.val hk0 (lt_nodup (h.row k))
  have e1 : greatTo R (k + 1) = (place R (greatTo R k) k).1 := rfl
  cases e : (place R (greatTo R k) k).2 with
  | none =>
    rw [e] at p
    rw [e1, if_pos rfl]
    exact usedN_more (R := R) (by rw [p.1.len, g.val.len]) hk0 p.2
  | some full =>
    rw [e] at p
    rw [e1, p.1, if_neg (by simp)]
    omega
theorem used_zero (R : List (List Int)) : usedN (greatTo R 0) = 0 := by
  simp [usedN, greatTo, List.filterMap_replicate]
/-! ### the short lot -/
def inO (full : List Int) : Option Int → Bool
  | some v => decide (v ∈ full)
  | none => false
def lotOf (full : List Int) (ch : List (Option Int)) (k : Nat) : List Nat := (List.range ch.length).filter fun r => inO full (ch.getD r none) || decide (r = k)
def shortAt (R : List (List Int)) (k : Nat) : Option (List Nat × List Int) := (place R (greatTo R k) k).2.map fun full => (lotOf full (greatTo R k) k, full)
def shortOf (R : List (List Int)) : Option (List Nat × List Int) := (List.range R.length).findSome? (shortAt R)
structure LotOk (R : List (List Int)) (lot : List Nat) (vals : List Int) : Prop where
  asc : lot.Pairwise (· < ·)
  asc2 : vals.Pairwise (· < ·)
  ne : lot ≠ []
  bnd : ∀ r ∈ lot, r < R.length
  less : vals.length < lot.length
  all : ∀ v, v ∈ vals ↔ ∃ r ∈ lot, v ∈ rowOf R r
theorem lotOf_mem {full : List Int} {ch : List (Option Int)} {k r : Nat} (hk : k < ch.length) : r ∈ lotOf full ch k ↔ (∃ v ∈ full, ch[r]? = some (some v)) ∨ r = k := by
  unfold lotOf
  rw [List.mem_filter, List.mem_range, Bool.or_eq_true, decide_eq_true_eq]
  constructor
  · rintro ⟨hr, h | h⟩
    · left
      rw [List.getD_eq_getElem?_getD, List.getElem?_eq_getElem hr] at h
      rw [List.getElem?_eq_getElem hr]
      simp only [Option.getD_some] at h
      cases e : ch[r] with
      | none => rw [e] at h; cases h
      | some v => rw [e] at h; exact ⟨v, by simpa [inO] using h, rfl⟩
    · exact .inr h
  · rintro (⟨v, hv, e⟩ | rfl)
    · refine ⟨(List.getElem?_eq_some_iff.mp e).1, .inl ?_⟩
      rw [List.getD_eq_getElem?_getD, e]
      simpa [inO] using hv
    · exact ⟨hk, .inr rfl⟩
theorem shortAt_ok {R : List (List Int)} (h : RowsOk R) {k : Nat} (hk : k < R.length) {lot : List Nat} {vals : List Int} (e : shortAt R k = some (lot, vals)) : LotOk R lot vals := by
  have g := ginv h k (by omega)
  have hk0 := g.rest k (Nat.le_refl _) (by omega)
  have p := place_ok g.val hk0 (lt_nodup (h.row k))
  unfold shortAt at e
  cases e2 : (place R (greatTo R k) k).2 with
  | none => rw [e2] at e; cases e
  | some full =>
    rw [e2] at p e
    simp only [Option.map_some, Option.some.injEq, Prod.mk.injEq] at e
    obtain ⟨rfl, rfl⟩ := e
    obtain ⟨_, asc, own, cls⟩ := p
    have kl : k < (greatTo R k).length := (List.getElem?_eq_some_iff.mp hk0).1
    have hh : ∀ v, ∃ r : Nat, v ∈ full → (greatTo R k)[r]? = some (some v) ∧ ∀ w ∈ rowOf R r, w ∈ full := fun v => by
      by_cases hv : v ∈ full
      · obtain ⟨h, e⟩ := cls v hv
        exact ⟨h, fun _ => e⟩
      · exact ⟨0, fun z => absurd z hv⟩
    refine ⟨List.Pairwise.filter _ List.pairwise_lt_range, asc, fun z => ?_, fun r hr => ?_, ?_, fun v => ⟨fun hv => ?_, fun ⟨r, hr, hv⟩ => ?_⟩⟩
    · have : k ∈ lotOf full (greatTo R k) k := (lotOf_mem kl).mpr (.inr rfl)
      rw [z] at this
      cases this
    · rw [← g.val.len]
      unfold lotOf at hr
      exact List.mem_range.mp (List.mem_filter.mp hr).1
    · have := len_le_of_sub (l := k :: full.map fun v => Classical.choose (hh v)) (m := lotOf full (greatTo R k) k) (by
        rw [List.nodup_cons]
        refine ⟨fun hm => ?_, nodup_map_on (lt_nodup asc) fun v hv u hu e => ?_⟩
        · obtain ⟨v, hv, e⟩ := List.mem_map.mp hm
          have := (Classical.choose_spec (hh v) hv).1
          rw [e, hk0] at this
          cases this
        · have a := (Classical.choose_spec (hh v) hv).1
          have b := (Classical.choose_spec (hh u) hu).1
          rw [e, b] at a
          exact (Option.some.inj (Option.some.inj a)).symm) fun r hr => by
        rcases List.mem_cons.mp hr with rfl | hr
        · exact (lotOf_mem kl).mpr (.inr rfl)
        · obtain ⟨v, hv, rfl⟩ := List.mem_map.mp hr
          exact (lotOf_mem kl).mpr (.inl ⟨v, hv, (Classical.choose_spec (hh v) hv).1⟩)
      simp only [List.length_cons, List.length_map] at this
      omega
    · obtain ⟨r, e, _⟩ := cls v hv
      exact ⟨r, (lotOf_mem kl).mpr (.inl ⟨v, hv, e⟩), g.val.mem _ _ e⟩
    · rcases (lotOf_mem kl).mp hr with ⟨u, hu, e⟩ | rfl
      · obtain ⟨r', e', c⟩ := cls u hu
        have := g.val.inj _ _ _ e e'
        subst this
        exact c v hv
      · exact own v hv
theorem shortOf_some {R : List (List Int)} (h : RowsOk R) {lot : List Nat} {vals : List Int} (e : shortOf R = some (lot, vals)) : LotOk R lot vals := by
  obtain ⟨k, hk, e⟩ := List.exists_of_findSome?_eq_some e
  exact shortAt_ok h (List.mem_range.mp hk) e
theorem used_le {R : List (List Int)} (h : RowsOk R) : ∀ k, k ≤ R.length → usedN (greatTo R k) ≤ k ∧ (usedN (greatTo R k) = k ↔ ∀ j, j < k → shortAt R j = none)
  | 0, _ => by rw [used_zero]; exact ⟨Nat.le_refl _, fun _ j hj => absurd hj (Nat.not_lt_zero _), fun _ => rfl⟩
  | k + 1, hk => by
    obtain ⟨a, b⟩ := used_le h k (by omega)
    rw [used_step h (by omega)]
    by_cases e : (place R (greatTo R k) k).2 = none
    · rw [if_pos e]
      refine ⟨by omega, fun z j hj => ?_, fun z => ?_⟩
      · by_cases hj2 : j = k
        · subst hj2
          unfold shortAt
          rw [e]; rfl
        · exact b.mp (by omega) j (by omega)
      · have := b.mpr fun j hj => z j (by omega)
        omega
    · rw [if_neg e]
      refine ⟨by omega, fun z => by omega, fun z => ?_⟩
      have := z k (by omega)
      unfold shortAt at this
      cases e2 : (place R (greatTo R k) k).2 with
      | none => exact absurd e2 e
      | some x => rw [e2] at this; cases this
theorem shortOf_none {R : List (List Int)} (h : RowsOk R) : shortOf R = none ↔ usedN (great R) = R.length := by
  rw [show usedN (great R) = usedN (greatTo R R.length) from rfl, (used_le h _ (Nat.le_refl _)).2]
  unfold shortOf
  rw [List.findSome?_eq_none_iff]
  exact ⟨fun z j hj => z j (List.mem_range.mpr hj), fun z j hj => z j (List.mem_range.mp hj)⟩
end AW
/-! dicts asked, tuple(..), slices of tuples; what the law speaks of: sayings, worlds, models -/
namespace AW
open PySem PySem.Spec PyProof.Rows L2 RZ
section
variable {σ : L2.St} {H : Hp} {Q : VK} {ta tb te td ty : TE} {K : PySem.W.Frag}
/-- keywords alone, in the parameters' order -/
def gK {α : Type} : List α → List α → List α
  | [], zs => zs
  | _ :: _, _ => []
theorem w_callK {sp : Sp} {E : XK} {tk : TA} (h : tk σ H fun zs H2 => sp zs H2 Q E) : tCallK sp gK E tNil tk σ H Q := h
def kDGet (x y : V) (H : Hp) (Q : VK) : Prop := ∃ a v, x = .ref a ∧ DGet H a y (some v) ∧ Q v H
theorem w_dg (h : td σ H fun x H1 => ty σ H1 fun y H2 => kDGet x y H2 Q) : tDGet td ty σ H Q := h
theorem kDGet_i {d : Addr} {kvs : List (Key × V)} {k : Key} {v : V} (h : H d = some (.dK kvs)) (e : valV kvs k = some v) (q : Q v H) : kDGet (.ref d) (kV k) H Q := ⟨d, v, rfl, e ▸ DGet.k h, q⟩
def kDPut (x y v : V) (H : Hp) (N : Hp → Prop) : Prop := ∃ a H4, x = .ref a ∧ DPut H a y v H4 ∧ N H4
theorem w_dput {D : Ends} {tv : TE} (h : tv σ H fun v H1 => td σ H1 fun x H2 => ty σ H2 fun y H3 => kDPut x y v H3 (D.nx σ)) : sDPut td ty tv D σ H := h
theorem kDPut_i {d : Addr} {kvs : List (Key × V)} {k : Key} {v : V} {N : Hp → Prop} (h : H d = some (.dK kvs)) (hl : kvs.length < 100000) (q : N (upd H d (.dK (putK kvs k v)))) : kDPut (.ref d) (kV k) v H N :=
  ⟨d, _, rfl, DPut.k h (Nat.lt_of_lt_of_le hl (by decide)), q⟩
/-- tuple(x) -/
theorem w_tup1 (h : ta σ H fun x H1 => kTup K x H1 Q) : tThen ta (kTup K) σ H Q := h
theorem w_tupL {p : Addr} {xs : List V} (h : SqL K H p xs) (q : ∀ r H', H r = none → Adv [] H H' → H' r = some (.tup xs) → Q (.ref r) H') : kTup K (.ref p) H Q := .inl ⟨p, xs, rfl, h, w_new q⟩
/-- a part of a tuple that is not the whole -/
theorem w_slT {p : Addr} {xs : List V} {lo hi : Option Int} (h : H p = some (.tup xs)) (hn : ¬ (HT.sIx xs.length 0 lo = 0 ∧ HT.sIx xs.length xs.length hi = xs.length)) (q : ∀ r H', H r = none → Adv [] H H' → H' r = some (.tup (cutV xs lo hi)) → Q (.ref r) H') : rSlA K (.ref p) lo hi H Q :=
  ⟨p, xs, rfl, SqT.of h, fun z => absurd z hn, fun _ => w_new q⟩
/-- tuples joined, none of them empty -/
theorem w_catT {a b : Addr} {xs ys : List V} (h1 : H a = some (.tup xs)) (h2 : H b = some (.tup ys)) (hz : xs.length + ys.length ≤ 100000) (q0 : xs = [] → Q (.ref b) H) (q1 : xs ≠ [] → ys = [] → Q (.ref a) H)
    (q : ∀ r H', H r = none → Adv [] H H' → H' r = some (.tup (xs ++ ys)) → Q (.ref r) H') : rCatA K (.ref a) (.ref b) H Q :=
  ⟨a, b, xs, ys, rfl, rfl, SqT.of h1, SqT.of h2, Nat.le_trans hz (by decide), q0, q1, fun _ _ => w_new q⟩
/-- joined, whatever they are: a tuple that holds both -/
theorem w_catT' {a b : Addr} {xs ys : List V} (h1 : H a = some (.tup xs)) (h2 : H b = some (.tup ys)) (hz : xs.length + ys.length ≤ 100000) (q : ∀ r H', Adv [] H H' → H' r = some (.tup (xs ++ ys)) → Q (.ref r) H') : rCatA K (.ref a) (.ref b) H Q :=
  w_catT h1 h2 hz (fun e => q _ _ (.refl _ _) (by rw [e]; exact h2)) (fun _ e => q _ _ (.refl _ _) (by rw [e, List.append_nil]; exact h1)) fun r H' _ a e => q r H' a e
end

section
variable {σ : L2.St} {H : Hp} {Q : VK} {ta tb te td ty : TE} {K : PySem.W.Frag}
def rLenD : List V → Hp → VK → Prop := fun xs H Q => ∃ a kvs, xs = [V.ref a] ∧ H a = some (.dK kvs) ∧ Q (.int kvs.length) H
theorem call_lenD1 {X : Cx} : CallR X (.builtin "len") rLenD := call_lenD
theorem w_lenD {p : Addr} {kvs : List (Key × V)} (h : H p = some (.dK kvs)) (q : Q (.int (kvs.length : Nat)) H) : rLenD [.ref p] H Q := ⟨p, kvs, rfl, h, q⟩
theorem w_listD {p : Addr} {kvs : List (Key × V)} (h : H p = some (.dK kvs)) (q : ∀ r H', H r = none → Adv [] H H' → H' r = some (.lst (kvs.map fun kv => kV kv.1)) → Q (.ref r) H') : rListD [.ref p] H Q := ⟨p, kvs, rfl, h, w_new q⟩
theorem w_isi {x : V} {a b : String} {r : Bool} (ty : TyX K H x (.type a)) (e : kitB a b = some r) (q : Q (.bl r) H) : rIsi K [x, .ty b] H Q := ⟨x, .ty b, _, _, r, rfl, .ty b, ty, kit_ty e, q⟩
theorem w_notN {x : V} (q : Q (.bl (!decide (x = .non))) H) : rNotN x .non H Q := ⟨rfl, q⟩
theorem w_rep {p : Addr} {xs : List V} {n : Nat} (h : H p = some (.lst xs)) (hn : n ≤ 100000) (hz : xs.length * n ≤ 100000) (q : ∀ r H', H r = none → Adv [] H H' → H' r = some (.lst (List.replicate n xs).flatten) → Q (.ref r) H') : rRep (.ref p) (.int (n : Nat)) H Q := by
  refine ⟨p, n, xs, rfl, rfl, h, by omega, by omega, ?_, ?_⟩
  · have : ((n : Nat) : Int).toNat = n := by omega
    rw [this]
    exact Nat.le_trans hz (by decide)
  · have : ((n : Nat) : Int).toNat = n := by omega
    rw [this]
    exact w_new q
theorem w_popAt {i : Nat} {l : Addr} {xs : List V} {k : Int} {y : V} {a : TA} (hσ : σ[i]? = some (some (.ref l))) (h0 : H l = some (.lst xs)) (h : a σ H fun vs H2 => rPopAt (.ref l) vs H2 Q) : tBM K "list" rPopAt (tVar i) a σ H Q :=
  ⟨.ref l, hσ, .inl ⟨rfl, xs, SqL.of h0⟩, h⟩
theorem w_tupOfT {p : Addr} {xs : List V} (h : H p = some (.tup xs)) (q : Q (.ref p) H) : kTup K (.ref p) H Q := .inr ⟨p, xs, rfl, SqT.of h, q⟩
/-- sorted of a dict with ints as keys -/
theorem w_sortDI {d : Addr} {kvs : List (Key × V)} {ks : List Int} (h : H d = some (.dK kvs)) (e : kvs.map (·.1) = ks.map Sum.inl) (hl : ks.length < 64) (q : ∀ r H', H r = none → Adv [] H H' → H' r = some (.lst ((sortI ks).map V.int)) → Q (.ref r) H') : rSortDI [.ref d] H Q := by
  refine ⟨d, kvs, ks, rfl, .inl h, e, hl, fun ys p hp hs np => ?_⟩
  have : ys = sortI ks := perm_sorted_eq (hp.trans (sortI_perm ks).symm) hs (sortI_le ks)
  subst this
  exact q p _ np (Adv.new np) upd_same
def kDN (x y : V) (H : Hp) (Q : VK) : Prop := ∃ a o, x = .ref a ∧ DGet H a y o ∧ Q (.bl (!o.isSome)) H
theorem w_dn (h : ty σ H fun y H1 => td σ H1 fun x H2 => kDN x y H2 Q) : tDNotIn ty td σ H Q := h
theorem kDN_i {d : Addr} {kvs : List (Key × V)} {k : Key} (h : H d = some (.dK kvs)) (q : Q (.bl (!(valV kvs k).isSome)) H) : kDN (.ref d) (kV k) H Q := ⟨d, _, rfl, DGet.k h, q⟩
theorem take_snoc {α : Type} {xs : List α} {j : Nat} {x : α} (h : xs[j]? = some x) : xs.take (j + 1) = xs.take j ++ [x] := by
  rw [List.take_add_one, h]
  rfl
variable {g : TG} {tt : TT} {vs : List Nat} {H1 : Hp}
def kLcE (K : PySem.W.Frag) (g : TG) (tt : TT) (te : TE) (vs : List Nat) (σ : L2.St) (Q : VK) (ws : List V) (H1 : Hp) : Prop := ∃ a xs, ws = [.ref a] ∧ SqL K H1 a xs ∧ kLc (Ite K a) g tt te vs σ Q H1
theorem w_lcE {a : TA} (h : a σ H (kLcE K g tt te vs σ Q)) : tLc (iEnum K a) g tt te vs σ H Q := h
theorem kLcE_pure {p : Addr} {xs : List V} (hp : H1 p = some (.lst xs)) (hn : xs.length ≤ 100000) (B : Nat → Bool) (v : Nat → V)
    (step : ∀ i T x H (Kt : V → Hp → Prop) (Kf : Hp → Prop), xs[i]? = some x → Adv [] H1 H → H T = some (.tup [.int (i : Nat), x]) → (B i = true → ∀ H4, Adv [] H H4 → Kt (v i) H4) → (B i = false → ∀ H3, Adv [] H H3 → Kf H3) →
      g (.ref T) (wipe σ vs) H fun σ2 H2 => wipe σ2 vs = wipe σ vs ∧ tt σ2 H2 fun b H3 => if b = true then te σ2 H3 Kt else Kf H3)
    (k : ∀ p H', H1 p = none → Adv [] H1 H' → H' p = some (.lst (((List.range xs.length).filter B).map v)) → Q (.ref p) H') : kLcE K g tt te vs σ Q [.ref p] H1 := by
  refine ⟨p, xs, rfl, SqL.of hp, kLc_pure walk_enum hn (fun H' a => SqL.of (a.keep _ _ (fun z => nomatch z) hp)) B v (fun i x H H' Kt Kf hi g1 y kt kf => ?_) k⟩
  obtain ⟨T, x0, y0, rfl, nT, rfl, e1, e2⟩ := y
  cases e1
  have a1 : Adv [] H (upd H T (.tup [.int (i : Nat), y0])) := Adv.new nT
  exact step i T y0 _ Kt Kf e2 (g1.trans a1) upd_same (fun hb H4 a4 => kt hb H4 (a1.trans a4)) fun hb H3 a3 => kf hb H3 (a1.trans a3)
end

theorem w_nT {A B : Prop} (h : A) : if (!true) = true then B else A := h
theorem w_nF {A B : Prop} (h : B) : if (!false) = true then B else A := h
theorem ixN_at {n j : Nat} (hj : j < n) : ixN n (j : Int) = some j := by
  unfold ixN
  rw [if_pos (by omega), if_pos (by omega)]
  simp
/-! ### rows in tuples -/
def oV : Option Int → V
  | none => .non
  | some v => .int v
def RowsAt (H : Hp) (a : Addr) (R : List (List Int)) : Prop := ∃ bs : List Addr, H a = some (.tup (bs.map V.ref)) ∧ bs.length = R.length ∧ ∀ (i : Nat) r, R[i]? = some r → ∃ b, bs[i]? = some b ∧ H b = some (.tup (r.map V.int))
theorem RowsAt.up {H H' : Hp} {a : Addr} {R : List (List Int)} (h : RowsAt H a R) (k : TK H H') : RowsAt H' a R := by
  obtain ⟨bs, h1, h2, h3⟩ := h
  refine ⟨bs, k _ _ h1, h2, fun i r e => ?_⟩
  obtain ⟨b, e1, e2⟩ := h3 i r e
  exact ⟨b, e1, k _ _ e2⟩
theorem RowsAt.adv {S : List Addr} {H H' : Hp} {a : Addr} {R : List (List Int)} (h : RowsAt H a R) (k : Adv S H H') : RowsAt H' a R := h.up k.tup
theorem RowsAt.tup {H : Hp} {a : Addr} {R : List (List Int)} (h : RowsAt H a R) : ∃ xs, H a = some (.tup xs) ∧ xs.length = R.length := by
  obtain ⟨bs, h1, h2, _⟩ := h
  exact ⟨_, h1, by rw [List.length_map]; exact h2⟩
/-- a row at its place -/
theorem w_row {K : PySem.W.Frag} {H : Hp} {Q : VK} {a : Addr} {R : List (List Int)} {i : Nat} (h : RowsAt H a R) (hi : i < R.length) (q : ∀ b, H b = some (.tup ((rowOf R i).map V.int)) → Q (.ref b) H) : rIxT K (.ref a) (.int (i : Nat)) H Q := by
  obtain ⟨bs, h1, h2, h3⟩ := h
  obtain ⟨b, e1, e2⟩ := h3 i R[i] (List.getElem?_eq_getElem hi)
  have e3 : rowOf R i = R[i] := by
    unfold rowOf
    rw [List.getD_eq_getElem?_getD, List.getElem?_eq_getElem hi]
    rfl
  refine w_ixT (SqT.of h1) (at_of (j := i) (by omega) ?_) (q b (by rw [e3]; exact e2))
  rw [List.getElem?_map, e1]
  rfl
structure RowsPre (R : List (List Int)) (P : List Int) : Prop where
  lo : 1 ≤ R.length
  hi : R.length ≤ 24
  asc : RowsOk R
  nP : P.Nodup
  pool : ∀ r, ∀ w ∈ rowOf R r, w ∈ P
  few : P.length ≤ 40
theorem RowsPre.row {R : List (List Int)} {P : List Int} (h : RowsPre R P) (r : Nat) : (rowOf R r).length ≤ 40 := Nat.le_trans (len_le_of_sub (lt_nodup (h.asc.row r)) (h.pool r)) h.few
theorem RowsPre.ask {R : List (List Int)} {P : List Int} (h : RowsPre R P) {ch : List (Option Int)} {k : Nat} {ask : Ask} (a : AInv R ch k ask) : ask.length ≤ 40 := by
  have := len_le_of_sub a.nd (m := P) fun x hx => by
    obtain ⟨p, hp, rfl⟩ := List.mem_map.mp hx
    exact h.pool _ _ (a.mem p hp)
  unfold keysA at this
  rw [List.length_map] at this
  exact Nat.le_trans this h.few
def askK (ask : Ask) : List (Key × V) := ask.map fun p => (Sum.inl p.1, .int (p.2 : Nat))
def ResV (H : Hp) : Option (List Int) → V → Prop
  | none, v => v = .non
  | some full, v => ∃ t, v = .ref t ∧ H t = some (.tup (full.map V.int))
theorem valV_ask {ask : Ask} {v : Int} : valV (askK ask) (Sum.inl v) = if v ∈ keysA ask then some (.int (lookA ask v : Nat)) else none := by
  unfold valV askK keysA lookA
  induction ask with
  | nil => rfl
  | cons p ask ih =>
    rw [List.map_cons, List.map_cons, List.find?_cons, List.find?_cons]
    by_cases e : p.1 = v
    · subst e
      simp
    · have e1 : decide ((Sum.inl p.1 : Key) = Sum.inl v) = false := by simpa using e
      have e2 : (p.1 == v) = false := by simpa using e
      rw [e1, e2]
      simp only [List.mem_cons]
      rw [ih]
      have : (v = p.1 ∨ v ∈ ask.map (·.1)) ↔ v ∈ ask.map (·.1) := ⟨fun h => h.resolve_left (fun z => e z.symm), .inr⟩
      simp only [this]
theorem putK_ask {ask : Ask} {w : Int} {r : Nat} (h : w ∉ keysA ask) : putK (askK ask) (Sum.inl w) (.int (r : Nat)) = askK (ask ++ [(w, r)]) := by
  unfold putK
  have : ((askK ask).any fun kv => decide (kv.1 = (Sum.inl w : Key))) = false := by
    rw [List.any_eq_false]
    intro kv hk
    obtain ⟨p, hp, rfl⟩ := List.mem_map.mp hk
    simp only [decide_eq_true_eq]
    intro e
    exact h (List.mem_map.mpr ⟨p, hp, Sum.inl.inj e⟩)
  rw [if_neg (by rw [this]; decide)]
  unfold askK
  rw [List.map_append]
  rfl
theorem askK_keys (ask : Ask) : (askK ask).map (·.1) = (keysA ask).map Sum.inl := by
  unfold askK keysA
  rw [List.map_map, List.map_map]
  rfl
end AW
/-! a dict comprehension that is given to a name -/
namespace AW
open PySem PySem.Spec PyProof.Rows L2 RZ
section
variable {X : Cx}
theorem ps_setDc {i : Nat} {y : Str} {py : Pos} {kx vx tg iter : Expr} {ifs : List Expr} {scope : Scope} {own : List (Str × Nat)} {pos spos : Pos} {wi : TI} {g : TG} {tt : TT} {tk tv : TE}
    (hc : X.calm = true) (hN : X.N.Nodup) (hy : X.N[i]? = some y) (hyl : X.env.scope.names.lookup y = some .local)
    (hsw : swapsWith (.DictComp kx vx [⟨tg, iter, ifs, 0⟩] scope pos) (some (.Name y py)) spos.line X.env = pure true)
    (hi : PI X tg iter wi) (ok : BlkOk X.N X.env.scope scope own)
    (hg : ∀ s H C cl fp, PG (X.blk s H scope (compEnvC scope cl C X.env) fp) tg g)
    (ht : ∀ s H C cl fp, PTs (X.blk s H scope (compEnvC scope cl C X.env) fp) ifs tt)
    (hk : ∀ s H C cl fp, PE (X.blk s H scope (compEnvC scope cl C X.env) fp) kx tk)
    (hv : ∀ s H C cl fp, PE (X.blk s H scope (compEnvC scope cl C X.env) fp) vx tv)
    (hs : ∀ x, foldedSetIterable iter X.env x = pure x := by intro _; rfl) :
    PS X (.Assign [.Name y py] (.DictComp kx vx [⟨tg, iter, ifs, 0⟩] scope pos) spos) (tAsg (tDc wi g tt tk tv (own.map (·.2))) (gName i)) := by
  constructor
  intro pins s σ H D I h
  have h2 : tDc wi g tt tk tv (own.map (·.2)) σ H (fun x H1 => D.nx (σ.set i (some x)) H1) := h
  have core := dc_core (use := some (assign (.Name y py) X.env)) (pos' := firstIterPos [⟨tg, iter, ifs, 0⟩] pos) (pos := pos) (Qf := fun _ s' => SP X pins D .next s') hc hN I hi ok hg ht hk hv hs h2 fun L C s' m H' I' q hn f => ?_
  · rw [exec_Assign_Name_used _ _ _ _ hsw]
    apply wpAny_bind
    apply wpAny_standAt
    apply wpAny_bind
    show wpAny _ X.A (do let _ ← comprehension (.DictComp kx vx [⟨tg, iter, ifs, 0⟩] scope pos) scope X.env (firstIterPos [⟨tg, iter, ifs, 0⟩] pos) newDict false (eval iter X.env) (some (assign (.Name y py) X.env))) _ _ s
    apply wpAny_bind
    exact thn core fun _ s' hq => wpAny_pure (wpAny_pure hq)
  · show wpAny _ _ (assign (.Name y py) X.env (.ref L)) _ _ _
    apply wpAny_assign_Name
    refine store_ok2 (v := V.ref L) I' hN hy (.inl hyl) rfl (fun s2 I2 z => ?_) (.inr hyl)
    obtain ⟨a, sb, ha⟩ := z
    obtain ⟨f0, f1, f2, f3, f4, f5⟩ := f
    have hCa : C ≠ a := by
      rcases ha with z | z
      · rw [z]
        exact f1
      · exact fun e => f4 y a z e.symm
    refine ⟨m, hn.sameBut sb hCa, fun h3 sb3 => ?_⟩
    exact ⟨σ.set i (some (.ref L)), H', I2.turned (t' := s2.toks) (fun b o hb e => (sb3.2 b hb).trans e) f0 f1 f3 f4 f5, q⟩
theorem sw_trueD {kx vx : Expr} {gs : List Comprehension} {scope : Scope} {pos py : Pos} {y : Str} {l : Nat} {env : Env} (hk : env.scope.kind = .function) (hy : env.scope.names.lookup y = some .local) (hl : (py.line == pos.line) = true)
    (ha : (scope.names.any fun (n, k) => n == y && (k == .local || k == .cell)) = false) : swapsWith (.DictComp kx vx gs scope pos) (some (.Name y py)) l env = pure true := by
  have e1 : env.kindOf y = some .local := hy
  have e2 : env.blockKind = .function := by
    unfold Env.blockKind
    rw [hk]
    rfl
  unfold swapsWith
  simp only [e2, e1, ha, Expr.pos, hl]
  rfl
end
end AW
namespace AW
open PySem PySem.Spec PyProof.Rows L2 RZ
local macro_rules | `(tactic| walk_at "aw1") => `(tactic| first
  | (with_reducible refine w_seq ?_) | (with_reducible refine w_asg ?_) | (with_reducible refine w_gname ?_) | (with_reducible refine w_op ?_) | (with_reducible refine w_un ?_)
  | ((with_reducible refine' w_var ?h ?_); (case h => rfl)) | (with_reducible refine w_c ?_)
  | (with_reducible refine w_I0 ?_) | (with_reducible refine w_U ?_) | (with_reducible refine w_cb ?_) | (with_reducible refine w_nil ?_) | (with_reducible refine w_cons ?_) | (with_reducible refine w_call ?_)
  | (with_reducible refine w_test ?_) | (with_reducible refine w_B ?_) | (with_reducible refine w_bl ?_) | (with_reducible refine w_not ?_) | (with_reducible refine w_yes ?_) | (with_reducible refine iteT ?_) | (with_reducible refine w_nT ?_) | (with_reducible refine w_nF ?_) | (with_reducible refine iteF ?_) | (with_reducible refine w_and ?_) | (with_reducible refine w_or ?_)
  | (with_reducible refine w_andV ?_) | (with_reducible refine w_orV ?_) | (with_reducible refine w_notV ?_) | (with_reducible refine w_if ?_)
  | (with_reducible refine w_int1 ?_) | (with_reducible refine w_int1b ?_) | (with_reducible refine w_abs ?_) | (with_reducible refine w_max2 ?_) | (with_reducible refine w_min2 ?_)
  | ((with_reducible refine w_eq ?h ?_); (case h => rfl)) | ((with_reducible refine w_ne ?h ?_); (case h => rfl)) | (with_reducible refine w_isN ?_) | (with_reducible refine w_isB ?_) | (with_reducible refine w_chain ?_)
  | (with_reducible refine w_ret ?_) | (with_reducible refine w_drop ?_) | (with_reducible refine w_ifS ?_) | (with_reducible refine w_gsub ?_) | (with_reducible refine w_augS ?_) | (with_reducible refine w_ipI ?_) | (with_reducible refine w_next ?_)
  | (with_reducible refine w_forR ?_) | (with_reducible refine w_forR2 ?_) | (with_reducible refine w_forL ?_) | (with_reducible refine w_forT ?_) | (with_reducible refine w_lcR ?_) | (with_reducible refine w_lcL ?_) | (with_reducible refine w_lcT ?_) | (with_reducible refine w_sl ?_) | (with_reducible refine w_part ?_) | (with_reducible refine w_noPart ?_) | (with_reducible refine w_in ?_)
  | (with_reducible refine w_lcE ?_) | (with_reducible refine w_dn ?_) | (with_reducible refine w_notN ?_) | (with_reducible refine w_gcons ?_) | (with_reducible refine w_gnil ?_) | (with_reducible refine w_lc3 ?_) | (with_reducible refine w_dcZ ?_) | (with_reducible refine w_dcT ?_) | (with_reducible refine w_dg ?_) | (with_reducible refine w_callK ?_) | (with_reducible refine w_dput ?_) | (with_reducible refine w_tup1 ?_)
  | (with_reducible refine w_tup ?_) | (with_reducible refine w_lst ?_)
  | ((with_reducible refine w_I ?h ?_); (case h => first | (exact Or.inr ⟨by decide, by decide⟩) | (exact Or.inl ⟨by decide, by decide⟩) | (show (0 : Int) < _; decide) | (exact ⟨by decide, by decide, by decide⟩) | assumption)))
local macro_rules | `(tactic| walk_at "aw") => `(tactic| repeat (walk_at "aw1"))
/-! ### what the program's functions promise -/
def sp__hand_on (K : PySem.W.Frag) : Sp := fun vs H Q _ => ∃ (c d : Addr) (v : Int), vs = [.ref c, .ref d, .int v] ∧ ∃ (R : List (List Int)) (ch : List (Option Int)) (k : Nat) (ask : Ask), AInv R ch k ask ∧ ch[k]? = some none ∧ v ∈ keysA ask ∧ H c = some (.lst (ch.map oV)) ∧ H d = some (.dK (askK ask)) ∧
  ∀ H', Adv [c] H H' → H' c = some (.lst ((handOn ask (ask.length + 1) ch v).map oV)) → Q .non H'
def sp__lot_of (K : PySem.W.Frag) : Sp := fun vs H Q _ => ∃ (f c : Addr) (k : Nat), vs = [.ref f, .ref c, .int k] ∧ ∃ (full : List Int) (ch : List (Option Int)), H f = some (.tup (full.map V.int)) ∧ H c = some (.lst (ch.map oV)) ∧ ch.length ≤ 24 ∧ full.length ≤ 1000 ∧
  ∀ t H', Adv [] H H' → H' t = some (.tup ((lotOf full ch k).map fun r => .int (r : Nat))) → Q (.ref t) H'
def sp__place (K : PySem.W.Frag) : Sp := fun vs H Q _ => ∃ (a h c : Addr) (k : Nat), vs = [.ref a, .ref h, .int 1, .ref c, .int k] ∧ ∃ (R : List (List Int)) (P : List Int) (ch : List (Option Int)), RowsAt H a R ∧ RowsPre R P ∧ H h = some (.dK []) ∧ H c = some (.lst (ch.map oV)) ∧ ch.length = R.length ∧ ch[k]? = some none ∧
  ∀ v H', Adv [c] H H' → H' c = some (.lst ((place R ch k).1.map oV)) → ResV H' (place R ch k).2 v → Q v H'
def sp_greatest_pairing (K : PySem.W.Frag) : Sp := fun vs H Q _ => ∃ (a : Addr), vs = [.ref a] ∧ ∃ (R : List (List Int)) (P : List Int), RowsAt H a R ∧ RowsPre R P ∧ ∀ t H', Adv [] H H' → H' t = some (.tup ((great R).map oV)) → Q (.ref t) H'
def ShortV (H : Hp) : Option (List Nat × List Int) → V → Prop
  | none, v => v = .non
  | some (lot, vals), v => ∃ t l u, v = .ref t ∧ H t = some (.tup [.ref l, .ref u]) ∧ H l = some (.tup (lot.map fun r => .int (r : Nat))) ∧ H u = some (.tup (vals.map V.int))
def sp_short_lot (K : PySem.W.Frag) : Sp := fun vs H Q _ => ∃ (a : Addr), vs = [.ref a] ∧ ∃ (R : List (List Int)) (P : List Int), RowsAt H a R ∧ RowsPre R P ∧ ∀ v H', Adv [] H H' → ShortV H' (shortOf R) v → Q v H'
def t__hand_on (K : PySem.W.Frag) : TS := (tWhile (tTest (tOp rNotN (tVar 2) (tC .non)))
  (tSeq (tAsg (tDGet (tVar 1) (tVar 2)) (gName 3))
  (tSeq (tAsg (tOp (rIxL K) (tVar 0) (tVar 3)) (gName 4))
  (tSeq (tAsg (tVar 2) (gSub (tVar 0) (tVar 3) rSetL))
  (tAsg (tVar 4) (gName 2))))))
def t__lot_of (K : PySem.W.Frag) : TS := (tRet (tThen (tLc (iEnum K (tCons (tVar 1) tNil)) (gTup K 2 (gCons (gName 3) (gCons (gName 4) gNil))) (tOr (tTest (tOp (rIn K false) (tVar 4) (tVar 0))) (tTest (tOp rEq (tVar 3) (tVar 2)))) (tVar 3) [3, 4]) (kTup K)))
theorem len__hand_on {K : PySem.W.Frag} : ∀ (vs : List V) (H : Hp) (Q : VK) (E : XK), sp__hand_on K vs H Q E → vs.length = 3 := fun vs H Q E h => by
  obtain ⟨_, _, _, rfl, _⟩ := h
  rfl
/-- the rows that come of later askers are as they were -/
structure HI (ask : Ask) (ch0 : List (Option Int)) (k j : Nat) (ch : List (Option Int)) : Prop where
  len : ch.length = ch0.length
  ho : ∀ i : Nat, (∃ (m : Nat) (q : Int × Nat), m < j ∧ ask[m]? = some q ∧ ch0[i]? = some (some q.1)) ∨ i = k → ch[i]? = ch0[i]?
theorem HI.at_ {R : List (List Int)} {ask : Ask} {ch0 ch : List (Option Int)} {k j : Nat} {p : Int × Nat} (h : HI ask ch0 k j ch) (a : AInv R ch0 k ask) (hk : ch0[k]? = some none) (hp : ask[j]? = some p) :
    ch[p.2]? = some none ∨ ∃ (m : Nat) (q : Int × Nat), m < j ∧ ask[m]? = some q ∧ ch[p.2]? = some (some q.1) ∧ HI ask ch0 k m (ch.set p.2 (some p.1)) := by
  rcases a.back j p hp with e | ⟨m, q, h1, h2, h3⟩
  · left
    rw [e, h.ho k (.inr rfl)]
    exact hk
  · right
    have eo := h.ho p.2 (.inl ⟨m, q, h1, h2, h3⟩)
    rw [h3] at eo
    refine ⟨m, q, h1, h2, eo, by rw [List.length_set]; exact h.len, fun i hi => ?_⟩
    have hlt : p.2 < ch.length := (List.getElem?_eq_some_iff.mp eo).1
    have hne : i ≠ p.2 := fun e => by
      subst e
      rcases hi with ⟨m', q', g1, g2, g3⟩ | e
      · rw [h3] at g3
        have eq : q.1 = q'.1 := Option.some.inj (Option.some.inj g3)
        have e1 : (keysA ask)[m]? = some q.1 := by unfold keysA; rw [List.getElem?_map, h2]; rfl
        have e2 : (keysA ask)[m']? = some q.1 := by unfold keysA; rw [List.getElem?_map, g2, eq]; rfl
        have := (List.getElem?_inj (List.getElem?_eq_some_iff.mp e1).1 a.nd).mp (e1.trans e2.symm)
        omega
      · rw [e, hk] at h3
        cases h3
    rw [set_get hlt, if_neg hne]
    rcases hi with ⟨m', q', g1, g2, g3⟩ | e
    · exact h.ho i (.inl ⟨m', q', by omega, g2, g3⟩)
    · exact h.ho i (.inr e)
theorem map_set {ch : List (Option Int)} {r : Nat} {x : Option Int} : (ch.map oV).set r (oV x) = (ch.set r x).map oV := by
  rw [List.map_set]
theorem pure__hand_on {K : PySem.W.Frag} (vs : List V) (H : Hp) (Q : VK) (E : XK) (h : sp__hand_on K vs H Q E) : t__hand_on K { nx := fun _ H' => Q .non H', rt := Q } (start ["chosen", "askers", "v", "row", "left"] vs) H := by
  obtain ⟨c, d, v, rfl, R, ch0, k, ask, a, hk, hv, hc, hd, q⟩ := h
  show t__hand_on K _ [some (.ref c), some (.ref d), some (.int v), none, none] H
  have ndc : d ≠ c := ne_of hd hc (fun z => by cases z)
  unfold t__hand_on
  obtain ⟨p0, hp0, rfl⟩ := List.mem_map.mp hv
  obtain ⟨j0, hj0⟩ := List.getElem?_of_mem hp0
  generalize hres : handOn ask (ask.length + 1) ch0 p0.1 = res at q
  refine ⟨fun m σ H' => ∃ ch x y3 y4, σ = [some (.ref c), some (.ref d), some (oV x), y3, y4] ∧ Adv [c] H H' ∧ H' c = some (.lst (ch.map oV)) ∧
    match x with
    | none => ch = res
    | some v => ∃ j p, ask[j]? = some p ∧ p.1 = v ∧ j < m ∧ HI ask ch0 k j ch ∧ handOn ask m ch v = res, ⟨ask.length + 1, ch0, some p0.1, none, none, rfl, .refl _ _, hc, j0, p0, hj0, rfl, Nat.lt_succ_of_lt (List.getElem?_eq_some_iff.mp hj0).1, ⟨rfl, fun _ _ => rfl⟩, hres⟩, ?_⟩
  rintro m σ H1 ⟨ch, x, y3, y4, rfl, ad, e1, hx⟩
  walk_at "aw"
  cases x with
  | none =>
    show if (!decide (V.non = .non)) = true then _ else _
    rw [if_neg (by decide)]
    subst hx
    exact q _ ad e1
  | some v =>
    show if (!decide (V.int v = .non)) = true then _ else _
    rw [if_pos (by simp)]
    obtain ⟨j, p, hp, rfl, hj, hi, hh⟩ := hx
    obtain ⟨m, rfl⟩ : ∃ m', m = m' + 1 := ⟨m - 1, by omega⟩
    have ep := lookA_of a.nd (List.mem_of_getElem? hp)
    refine ⟨fun σ' H' => ∃ ch x y3 y4, σ' = [some (.ref c), some (.ref d), some (oV x), y3, y4] ∧ Adv [c] H H' ∧ H' c = some (.lst (ch.map oV)) ∧
      match x with
      | none => ch = res
      | some v => ∃ j p, ask[j]? = some p ∧ p.1 = v ∧ j < m ∧ HI ask ch0 k j ch ∧ handOn ask m ch v = res, fun σ' H' p => ⟨m, Nat.lt_succ_self _, p⟩, ?_⟩
    have hd1 : H1 d = some (.dK (askK ask)) := ad.keep _ _ (fun z => ndc (List.mem_singleton.mp z)) hd
    walk_at "aw"
    show kDGet (.ref d) (.int p.1) _ _
    refine kDGet_i (k := Sum.inl p.1) hd1 (v := .int (p.2 : Nat)) ?_ ?_
    · have hm : p.1 ∈ keysA ask := List.mem_map.mpr ⟨p, List.mem_of_getElem? hp, rfl⟩
      rw [valV_ask, if_pos hm, ep]
    walk_at "aw"
    have hlt : p.2 < ch.length := by
      rcases hi.at_ a hk hp with e | ⟨_, _, _, _, e, _⟩
      · exact (List.getElem?_eq_some_iff.mp e).1
      · exact (List.getElem?_eq_some_iff.mp e).1
    have hat : atI (ch.map oV) (p.2 : Nat) = some (oV ch[p.2]) := at_of (j := p.2) (by omega) (by rw [List.getElem?_map, List.getElem?_eq_getElem hlt]; rfl)
    refine w_ixL (SqL.of e1) hat ?_
    walk_at "aw"
    have hix : ixN (ch.map oV).length (p.2 : Nat) = some p.2 := by
      rw [List.length_map]
      exact ixN_at hlt
    refine w_setL e1 hix ?_
    have ad2 : Adv [c] H (upd H1 c (.lst ((ch.map oV).set p.2 (.int p.1)))) := ad.trans (Adv.lst e1)
    walk_at "aw"
    have eset : (ch.map oV).set p.2 (oV (some p.1)) = (ch.set p.2 (some p.1)).map oV := map_set (x := some p.1)
    change Adv [c] H (upd H1 c (.lst ((ch.map oV).set p.2 (oV (some p.1))))) at ad2
    rw [eset] at ad2 ⊢
    unfold handOn at hh
    rw [ep, List.getD_eq_getElem?_getD] at hh
    rcases hi.at_ a hk hp with e | ⟨m', q', g1, g2, e, hi2⟩
    · rw [e] at hh
      have e' : ch[p.2] = none := by
        rw [List.getElem?_eq_getElem hlt] at e
        exact Option.some.inj e
      exact ⟨_, none, _, _, by rw [e']; rfl, ad2, upd_same, hh⟩
    · rw [e] at hh
      have e' : ch[p.2] = some q'.1 := by
        rw [List.getElem?_eq_getElem hlt] at e
        exact Option.some.inj e
      exact ⟨_, some q'.1, _, _, by rw [e']; rfl, ad2, upd_same, m', q', g2, rfl, by omega, hi2, hh⟩
theorem len__lot_of {K : PySem.W.Frag} : ∀ (vs : List V) (H : Hp) (Q : VK) (E : XK), sp__lot_of K vs H Q E → vs.length = 3 := fun vs H Q E h => by
  obtain ⟨_, _, _, rfl, _⟩ := h
  rfl
theorem w_inT {K : PySem.W.Frag} {H : Hp} {Q : VK} {x : V} {p : Addr} {xs : List V} {neg : Bool} (h : H p = some (.tup xs)) (fx : flatV x = true) (fs : xs.all flatV = true) (q : Q (.bl (if neg then !inV x xs else inV x xs)) H) : rIn K neg x (.ref p) H Q := ⟨p, xs, rfl, .inr (SqT.of h), fx, fs, q⟩
theorem flat_ints (xs : List Int) : (xs.map V.int).all flatV = true := by
  rw [List.all_eq_true]
  intro v hv
  obtain ⟨n, _, rfl⟩ := List.mem_map.mp hv
  rfl
theorem flat_oV (x : Option Int) : flatV (oV x) = true := by cases x <;> rfl
theorem inV_o {x : Option Int} {xs : List Int} : inV (oV x) (xs.map V.int) = inO xs x := by
  cases x with
  | none =>
    show inV .non _ = false
    unfold inV
    rw [List.any_eq_false]
    intro y hy
    obtain ⟨n, _, rfl⟩ := List.mem_map.mp hy
    simp [eqV]
  | some v =>
    show inV (.int v) _ = decide (v ∈ xs)
    unfold inV
    rw [List.any_map, Bool.eq_iff_iff, List.any_eq_true, decide_eq_true_eq]
    constructor
    · rintro ⟨n, hn, e⟩
      have : n = v := by simpa [eqV] using e
      exact this ▸ hn
    · exact fun h => ⟨v, h, by simp [eqV]⟩
theorem scal_oV (x : Option Int) (n : Int) : scal (oV x) (.int n) = true := by cases x <;> rfl
theorem pure__lot_of {K : PySem.W.Frag} (vs : List V) (H : Hp) (Q : VK) (E : XK) (h : sp__lot_of K vs H Q E) : t__lot_of K { nx := fun _ H' => Q .non H', rt := Q } (start ["full", "chosen", "k", "row", "v"] vs) H := by
  obtain ⟨f, c, k, rfl, full, ch, hf, hc, hl, hz, q⟩ := h
  show t__lot_of K _ [some (.ref f), some (.ref c), some (.int k), none, none] H
  unfold t__lot_of
  walk_at "aw"
  refine kLcE_pure hc (by rw [List.length_map]; omega) (fun r => inO full (ch.getD r none) || decide (r = k)) (fun r => .int (r : Nat)) (fun i T x H1 Kt Kf hx a1 hT kt kf => ?_) fun p H1 np a1 e1 => ?_
  · refine w_gtup (SqT.of hT) rfl ?_
    walk_at "aw"
    refine ⟨rfl, ?_⟩
    rw [List.getElem?_map] at hx
    obtain ⟨o, ho, rfl⟩ := Option.map_eq_some_iff.mp hx
    walk_at "aw"
    refine w_inT (a1.tup _ _ hf) (flat_oV _) (flat_ints _) ?_
    rw [inV_o]
    have eb : ch.getD i none = o := by
      rw [List.getD_eq_getElem?_getD, ho]
      rfl
    simp only [eb] at kt kf
    refine ⟨_, rfl, ?_⟩
    show if inO full o = true then _ else _
    cases hb : inO full o with
    | true =>
      rw [if_pos rfl, if_pos rfl]
      walk_at "aw"
      exact kt (by rw [hb]; rfl) _ (.refl _ _)
    | false =>
      rw [if_neg (by decide)]
      walk_at "aw"
      have e : (decide (V.int (i : Nat) = V.int (k : Nat))) = decide (i = k) := by
        rw [decide_eq_decide]
        exact ⟨fun z => by have := V.int.inj z; omega, fun z => by rw [z]⟩
      refine w_iteB (fun hz => ?_) fun hz => ?_
      · walk_at "aw"
        have : i = k := by have := V.int.inj hz; omega
        exact kt (by rw [hb]; simpa using this) _ (.refl _ _)
      · have : i ≠ k := fun z => hz (by rw [z])
        exact kf (by rw [hb]; simpa using this) _ (.refl _ _)
  · refine w_tupL (SqL.of e1) fun t H2 nt a2 e2 => ?_
    refine q t H2 (a1.trans a2) ?_
    rw [e2, List.length_map]
    rfl
end AW
namespace AW
open PySem PySem.Spec PyProof.Rows L2 RZ
local macro_rules | `(tactic| walk_at "aw1") => `(tactic| first
  | (with_reducible refine w_seq ?_) | (with_reducible refine w_asg ?_) | (with_reducible refine w_gname ?_) | (with_reducible refine w_op ?_) | (with_reducible refine w_un ?_)
  | ((with_reducible refine' w_var ?h ?_); (case h => rfl)) | (with_reducible refine w_c ?_)
  | (with_reducible refine w_I0 ?_) | (with_reducible refine w_U ?_) | (with_reducible refine w_cb ?_) | (with_reducible refine w_nil ?_) | (with_reducible refine w_cons ?_) | (with_reducible refine w_call ?_)
  | (with_reducible refine w_test ?_) | (with_reducible refine w_B ?_) | (with_reducible refine w_bl ?_) | (with_reducible refine w_not ?_) | (with_reducible refine w_yes ?_) | (with_reducible refine iteT ?_) | (with_reducible refine w_nT ?_) | (with_reducible refine w_nF ?_) | (with_reducible refine iteF ?_) | (with_reducible refine w_and ?_) | (with_reducible refine w_or ?_)
  | (with_reducible refine w_andV ?_) | (with_reducible refine w_orV ?_) | (with_reducible refine w_notV ?_) | (with_reducible refine w_if ?_)
  | (with_reducible refine w_int1 ?_) | (with_reducible refine w_int1b ?_) | (with_reducible refine w_abs ?_) | (with_reducible refine w_max2 ?_) | (with_reducible refine w_min2 ?_)
  | ((with_reducible refine w_eq ?h ?_); (case h => rfl)) | ((with_reducible refine w_ne ?h ?_); (case h => rfl)) | (with_reducible refine w_isN ?_) | (with_reducible refine w_isB ?_) | (with_reducible refine w_chain ?_)
  | (with_reducible refine w_ret ?_) | (with_reducible refine w_drop ?_) | (with_reducible refine w_ifS ?_) | (with_reducible refine w_gsub ?_) | (with_reducible refine w_augS ?_) | (with_reducible refine w_ipI ?_) | (with_reducible refine w_next ?_)
  | (with_reducible refine w_forR ?_) | (with_reducible refine w_forR2 ?_) | (with_reducible refine w_forL ?_) | (with_reducible refine w_forT ?_) | (with_reducible refine w_lcR ?_) | (with_reducible refine w_lcL ?_) | (with_reducible refine w_lcT ?_) | (with_reducible refine w_sl ?_) | (with_reducible refine w_part ?_) | (with_reducible refine w_noPart ?_) | (with_reducible refine w_in ?_)
  | (with_reducible refine w_lcE ?_) | (with_reducible refine w_dn ?_) | (with_reducible refine w_notN ?_) | (with_reducible refine w_gcons ?_) | (with_reducible refine w_gnil ?_) | (with_reducible refine w_lc3 ?_) | (with_reducible refine w_dcZ ?_) | (with_reducible refine w_dcT ?_) | (with_reducible refine w_dg ?_) | (with_reducible refine w_callK ?_) | (with_reducible refine w_dput ?_) | (with_reducible refine w_tup1 ?_)
  | (with_reducible refine w_tup ?_) | (with_reducible refine w_lst ?_)
  | ((with_reducible refine w_I ?h ?_); (case h => first | (exact Or.inr ⟨by decide, by decide⟩) | (exact Or.inl ⟨by decide, by decide⟩) | (show (0 : Int) < _; decide) | (exact ⟨by decide, by decide, by decide⟩) | assumption)))
local macro_rules | `(tactic| walk_at "aw") => `(tactic| repeat (walk_at "aw1"))
def t__place (K : PySem.W.Frag) : TS := (tSeq (tAsg (tDc (iTup K (tOp (rIxT K) (tVar 0) (tVar 4))) (gName 6) tYes (tVar 6) (tVar 4) [6]) (gName 5))
  (tSeq (tAsg (tCB rListD (tCons (tVar 5) tNil)) (gName 7))
  (tSeq (tAsg (tC (.int 0)) (gName 8))
  (tSeq (tWhile (tTest (tOp rLtI (tVar 8) (tCB (rLen1 K) (tCons (tVar 7) tNil))))
  (tSeq (tAsg (tOp (rIxL K) (tVar 7) (tVar 8)) (gName 6))
  (tSeq (tAug 8 (tC (.int 1)) (ipI fun i j => i + j))
  (tSeq (tAsg (tLc (iEnum K (tCons (tVar 3) tNil)) (gTup K 2 (gCons (gName 10) (gCons (gName 11) gNil))) (tTest (tOp rEq (tVar 11) (tVar 6))) (tVar 10) [10, 11]) (gName 9))
  (tSeq (tIfS (tTest (tOp rLtI (tCB (rLen1 K) (tCons (tVar 9) tNil)) (tDGet2 (tVar 1) (tVar 6) (tVar 2)))) (tSeq (tDrop (tCall (sp__hand_on K) [] E0 (tCons (tVar 3) (tCons (tVar 5) (tCons (tVar 6) tNil)))))
  (tRet (tC .non))) tNext)
  (tFor (iList K (tVar 9)) (gName 10)
  (tFor (iTup K (tOp (rIxT K) (tVar 0) (tVar 10))) (gName 11)
  (tIfS (tB (tDNotIn (tVar 11) (tVar 5))) (tSeq (sDPut (tVar 5) (tVar 11) (tVar 10))
  (tDrop (tBM K "list" rAppend (tVar 7) (tCons (tVar 11) tNil)))) tNext))))))))
  (tRet (tThen (tCB rSortDI (tCons (tVar 5) tNil)) (kTup K)))))))
theorem len__place {K : PySem.W.Frag} : ∀ (vs : List V) (H : Hp) (Q : VK) (E : XK), sp__place K vs H Q E → vs.length = 5 := fun vs H Q E h => by
  obtain ⟨_, _, _, _, rfl, _⟩ := h
  rfl
theorem dictOf_ask {k : Nat} : ∀ (row : List Int) (n : Nat), row.Nodup → n ≤ row.length → dictOf (fun i => Sum.inl (row.getD i 0)) (fun _ => .int (k : Nat)) n = askK ((row.take n).map fun v => (v, k))
  | row, 0, _, _ => by simp [dictOf, askK]
  | row, n + 1, hn, hl => by
    show putK (dictOf _ _ n) (Sum.inl (row.getD n 0)) (.int (k : Nat)) = _
    rw [dictOf_ask row n hn (by omega)]
    have hg : row[n]? = some row[n] := List.getElem?_eq_getElem (by omega)
    have e0 : row.getD n 0 = row[n] := getD_of hg
    rw [e0, putK_ask, take_snoc hg, List.map_append]
    · rfl
    · unfold keysA
      rw [List.map_map]
      intro hm
      obtain ⟨v, hv, e⟩ := List.mem_map.mp hm
      have ev : v = row[n] := e
      subst ev
      obtain ⟨i, hi⟩ := List.getElem?_of_mem hv
      have hi2 : i < n := by
        have := (List.getElem?_eq_some_iff.mp hi).1
        rw [List.length_take] at this
        omega
      rw [List.getElem?_take_of_lt hi2] at hi
      have := (List.getElem?_inj (List.getElem?_eq_some_iff.mp hi).1 hn).mp (hi.trans hg.symm)
      omega
/-- in the while of _place -/
structure PInv (H0 : Hp) (a h c D L : Addr) (k : Nat) (ask : Ask) (d : Nat) (y9 y10 : Option V) (σ : L2.St) (H : Hp) : Prop where
  sig : ∃ y6 y11, σ = [some (.ref a), some (.ref h), some (.int 1), some (.ref c), some (.int (k : Nat)), some (.ref D), y6, some (.ref L), some (.int (d : Nat)), y9, y10, y11]
  adv : Adv [] H0 H
  eD : H D = some (.dK (askK ask))
  eL : H L = some (.lst (ask.map fun p => .int p.1))
theorem pure__place {K : PySem.W.Frag} (vs : List V) (H : Hp) (Q : VK) (E : XK) (hsp : sp__place K vs H Q E) : t__place K { nx := fun _ H' => Q .non H', rt := Q } (start ["rows", "highs", "free", "chosen", "k", "askers", "v", "waiting", "done", "holders", "row", "w"] vs) H := by
  obtain ⟨a, h, c, k, rfl, R, P, ch, hR, pre, hh, hc, hlen, hk, q⟩ := hsp
  show t__place K _ [some (.ref a), some (.ref h), some (.int 1), some (.ref c), some (.int k), none, none, none, none, none, none, none] H
  have hkl : k < R.length := by rw [← hlen]; exact (List.getElem?_eq_some_iff.mp hk).1
  have nrow : (rowOf R k).Nodup := lt_nodup (pre.asc.row k)
  have hch : ch.length ≤ 24 := by rw [hlen]; exact pre.hi
  unfold t__place
  walk_at "aw"
  refine w_row hR hkl fun b hb => ?_
  refine ⟨b, rfl, ⟨_, SqT.of hb⟩, ?_⟩
  refine kDc_pure walk_tup (by rw [List.length_map]; have := pre.row k; omega) (fun H' a' => SqT.of (a'.tup _ _ hb)) (fun i => Sum.inl ((rowOf R k).getD i 0)) (fun _ => .int (k : Nat)) (fun i x H1 H' Kt hi g1 y kt => ?_) fun D H1 nD a1 eD => ?_
  · obtain ⟨rfl, e⟩ := y
    rw [List.getElem?_map] at e
    obtain ⟨n, hn, rfl⟩ := Option.map_eq_some_iff.mp e
    have e0 : (rowOf R k).getD i 0 = n := getD_of hn
    walk_at "aw"
    refine ⟨rfl, ?_⟩
    walk_at "aw"
    have := kt H' (.refl _ _)
    rw [e0] at this
    exact this
  rw [List.length_map, dictOf_ask _ _ nrow (Nat.le_refl _), List.take_length] at eD
  walk_at "aw"
  refine w_listD eD fun L H2 nL a2 eL => ?_
  have eL2 : H2 L = some (.lst ((startA R k).map fun p => .int p.1)) := by
    rw [eL]
    unfold askK startA
    rw [List.map_map, List.map_map, List.map_map]
    rfl
  have nL0 : H L = none := a1.free (fun z => nomatch z) nL
  have hDL : D ≠ L := ne_of_none eD nL
  have eD2 := a2.keep _ _ (fun z => nomatch z) eD
  walk_at "aw"
  have A0 : AInv R ch k (startA R k) := AInv.start nrow
  generalize hres : bfs R ch (valsN R + 1) (startA R k) 0 = res at *
  refine ⟨fun m σ H' => ∃ ask d y9 y10, PInv H a h c D L k ask d y9 y10 σ H' ∧ AInv R ch k ask ∧ Full R ch ask d ∧ d ≤ ask.length ∧ d + m = valsN R + 1 ∧ bfs R ch m ask d = res,
    ⟨_, startA R k, 0, none, none, ⟨⟨_, _, rfl⟩, a1.trans a2, eD2, eL2⟩, A0, fun j hj => absurd hj (Nat.not_lt_zero _), Nat.zero_le _, Nat.zero_add _, hres⟩, ?_⟩
  clear eL eL2 eD2 eD nL a2 a1
  rintro m σ H1 ⟨ask, d, y9, y10, ⟨⟨y6, y11, rfl⟩, ad, eD, eL⟩, ai, fu, hd, hm, hb⟩
  have hask := pre.ask ai
  have haskN := ai.len
  walk_at "aw"
  refine w_lenL (SqL.of eL) ?_
  walk_at "aw"
  rw [List.length_map]
  refine w_iteB (fun hlt => ?_) fun hlt => ?_
  · -- one more integer is looked at
    have hlt : d < ask.length := by omega
    obtain ⟨m, rfl⟩ : ∃ m', m = m' + 1 := ⟨m - 1, by omega⟩
    refine ⟨fun σ H' => ∃ ask d y9 y10, PInv H a h c D L k ask d y9 y10 σ H' ∧ AInv R ch k ask ∧ Full R ch ask d ∧ d ≤ ask.length ∧ d + m = valsN R + 1 ∧ bfs R ch m ask d = res, fun σ' H' p => ⟨m, Nat.lt_succ_self _, p⟩, ?_⟩
    obtain ⟨p, hp⟩ := get_some hlt
    walk_at "aw"
    refine w_ixL (SqL.of eL) (at_of (j := d) (by omega) (by rw [List.getElem?_map, hp]; rfl)) ?_
    walk_at "aw"
    refine ⟨_, rfl, ?_⟩
    walk_at "aw"
    have hc1 := ad.keep _ _ (fun z => nomatch z) hc
    refine kLcE_pure hc1 (by rw [List.length_map]; omega) (fun r => decide (ch[r]? = some (some p.1))) (fun r => .int (r : Nat)) (fun i T x H2 Kt Kf hx a2 hT kt kf => ?_) fun ph H2 nph a2 eph => ?_
    · refine w_gtup (SqT.of hT) rfl ?_
      walk_at "aw"
      refine ⟨rfl, ?_⟩
      rw [List.getElem?_map] at hx
      obtain ⟨o, ho, rfl⟩ := Option.map_eq_some_iff.mp hx
      walk_at "aw1"
      walk_at "aw1"
      walk_at "aw1"
      walk_at "aw1"
      refine w_eq (scal_oV _ _) ?_
      walk_at "aw"
      rw [ho] at kt kf
      refine w_iteB (fun hz => ?_) fun hz => ?_
      · walk_at "aw"
        refine kt ?_ _ (.refl _ _)
        cases o with
        | none => cases hz
        | some v => cases hz; simp
      · refine kf ?_ _ (.refl _ _)
        cases o with
        | none => simp
        | some v =>
          have : v ≠ p.1 := fun e => hz (by rw [e]; rfl)
          simpa using this
    have eph2 : H2 ph = some (.lst ((holders ch p.1).map fun r => .int (r : Nat))) := by
      rw [eph, List.length_map]
      rfl
    have hph : (holders ch p.1).length ≤ 24 := by
      unfold holders holdersTo
      refine Nat.le_trans (List.length_filter_le ..) ?_
      rw [List.length_range]
      exact hch
    have eD2 := a2.keep _ _ (fun z => nomatch z) eD
    have eL2 := a2.keep _ _ (fun z => nomatch z) eL
    have ad2 := ad.trans a2
    have hDp : D ≠ ph := ne_of_none eD nph
    have hLp : L ≠ ph := ne_of_none eL nph
    walk_at "aw"
    refine w_lenL (SqL.of eph2) ?_
    refine ⟨.ref h, rfl, h, rfl, .inl ⟨[], .inl (ad2.keep _ _ (fun z => nomatch z) hh)⟩, _, rfl, _, rfl, _, DGet.k (k := Sum.inl p.1) (ad2.keep _ _ (fun z => nomatch z) hh), ?_⟩
    rw [List.length_map]
    show rLtI (.int _) (.int 1) _ _
    walk_at "aw"
    unfold bfs at hb
    rw [hp] at hb
    refine w_iteB (fun hz => ?_) fun hz => ?_
    · -- free: handed on
      have hnil : holders ch p.1 = [] := List.length_eq_zero_iff.mp (by omega)
      simp only [hnil, if_true] at hb
      walk_at "aw"
      refine ⟨c, D, p.1, rfl, R, ch, k, ask, ai, hk, List.mem_map.mpr ⟨p, List.mem_of_getElem? hp, rfl⟩, ad2.keep _ _ (fun z => nomatch z) hc, eD2, fun H3 a3 e3 => ?_⟩
      walk_at "aw"
      have epl : place R ch k = (handOn ask (ask.length + 1) ch p.1, none) := by
        unfold place
        rw [hres, ← hb]
      refine q _ H3 (ad2.any.trans a3) (by rw [epl]; exact e3) (by rw [epl]; rfl)
    · have hne : holders ch p.1 ≠ [] := fun z => hz (by rw [z]; decide)
      simp only [hne, if_false] at hb
      generalize hhs : holders ch p.1 = hs at *
      have hmem : ∀ r ∈ hs, ch[r]? = some (some p.1) := fun r hr => holders_mem.mp (by rw [hhs]; exact hr)
      walk_at "aw"
      refine kForL_i (fun i σ H' => ∃ y9 y10, PInv H a h c D L k ((hs.take i).foldl (addRow R) ask) (d + 1) y9 y10 σ H' ∧ H' ph = some (.lst (hs.map fun r => .int (r : Nat)))) (SqL.of eph2) ⟨_, _, ⟨⟨_, _, rfl⟩, ad2, eD2, eL2⟩, eph2⟩ (fun i σ H' _ pv => by
        obtain ⟨_, _, _, e⟩ := pv
        exact SqL.of e) (fun i v σ H' hv pv => ?_) fun σ H' pv => ?_
      · obtain ⟨y9, y10, ⟨⟨y6, y11, rfl⟩, ad3, eD3, eL3⟩, eph3⟩ := pv
        rw [List.getElem?_map] at hv
        obtain ⟨r, hr, rfl⟩ := Option.map_eq_some_iff.mp hv
        have hrm := hmem r (List.mem_of_getElem? hr)
        have hrl : r < R.length := by rw [← hlen]; exact (List.getElem?_eq_some_iff.mp hrm).1
        obtain ⟨ai3, ⟨t3, et3⟩, _⟩ := AInv.addRows (hs.take i) ask ai (fun x hx => hmem x (List.mem_of_mem_take hx)) hp
        have hp3 : ((hs.take i).foldl (addRow R) ask)[d]? = some p := by rw [et3]; exact app_get hp
        have etake : (hs.take (i + 1)).foldl (addRow R) ask = (rowOf R r).foldl (addW r) ((hs.take i).foldl (addRow R) ask) := by
          rw [take_snoc hr, List.foldl_append]
          rfl
        generalize (hs.take i).foldl (addRow R) ask = aski at *
        walk_at "aw"
        refine w_row (hR.adv ad3) hrl fun br hbr => ?_
        refine kForT_i (fun j σ H'' => ∃ y9, PInv H a h c D L k (((rowOf R r).take j).foldl (addW r) aski) (d + 1) y9 (some (.int (r : Nat))) σ H'' ∧ H'' ph = some (.lst (hs.map fun r => .int (r : Nat))) ∧ TK H' H'') (SqT.of hbr) ⟨_, ⟨⟨_, _, rfl⟩, ad3, eD3, eL3⟩, eph3, TK.refl _⟩ (fun j σ H'' _ p => ?_) (fun j w σ H'' hw pv => ?_) fun σ H'' pv => ?_
        · obtain ⟨_, _, _, tk⟩ := p
          exact SqT.of (tk _ _ hbr)
        · obtain ⟨y9', ⟨⟨y6', y11', rfl⟩, ad4, eD4, eL4⟩, eph4, tk4⟩ := pv
          rw [List.getElem?_map] at hw
          obtain ⟨n, hn, rfl⟩ := Option.map_eq_some_iff.mp hw
          obtain ⟨ai4, _, _⟩ := AInv.addSome (R := R) (k := k) (r := r) hrm ((rowOf R r).take j) aski ai3 (fun x hx => List.mem_of_mem_take hx) hp3
          have etake4 : ((rowOf R r).take (j + 1)).foldl (addW r) aski = addW r (((rowOf R r).take j).foldl (addW r) aski) n := by
            rw [take_snoc hn, List.foldl_append]
            rfl
          have h40 := pre.ask ai4
          rw [etake4]
          generalize ((rowOf R r).take j).foldl (addW r) aski = ask4 at *
          walk_at "aw"
          show kDN (.ref D) (.int n) _ _
          refine kDN_i (k := Sum.inl n) eD4 ?_
          walk_at "aw"
          rw [valV_ask]
          by_cases hnk : n ∈ keysA ask4
          · rw [if_pos hnk]
            show if false = true then _ else _
            rw [if_neg (by decide)]
            walk_at "aw"
            have e : addW r ask4 n = ask4 := by unfold addW; rw [if_pos hnk]
            rw [e]
            exact ⟨_, ⟨⟨_, _, rfl⟩, ad4, eD4, eL4⟩, eph4, tk4⟩
          · rw [if_neg hnk]
            show if true = true then _ else _
            rw [if_pos rfl]
            have e : addW r ask4 n = ask4 ++ [(n, r)] := by unfold addW; rw [if_neg hnk]
            rw [e]
            walk_at "aw"
            show kDPut (.ref D) (.int n) _ _ _
            refine kDPut_i (k := Sum.inl n) eD4 (by unfold askK; rw [List.length_map]; omega) ?_
            rw [putK_ask hnk]
            have ad5 : Adv [] H (upd H'' D (.dK (askK (ask4 ++ [(n, r)])))) := ad4.mut nD eD4 (fun _ z => by cases z)
            have eL5 : (upd H'' D (.dK (askK (ask4 ++ [(n, r)])))) L = some (.lst (ask4.map fun p => .int p.1)) := by rw [upd_ne hDL.symm]; exact eL4
            have eph5 : (upd H'' D (.dK (askK (ask4 ++ [(n, r)])))) ph = some (.lst (hs.map fun r => .int (r : Nat))) := by rw [upd_ne hDp.symm]; exact eph4
            walk_at "aw"
            refine w_app rfl eL5 ?_
            walk_at "aw"
            refine w_append eL5 (by rw [List.length_map]; omega) ?_
            walk_at "aw"
            refine ⟨_, ⟨⟨_, _, rfl⟩, ad5.mut nL0 eL5 (fun _ z => by cases z), ?_, ?_⟩, ?_, (tk4.trans (Adv.dct eD4).tup).trans (Adv.lst eL5).tup⟩
            · rw [upd_ne hDL, upd_same]
            · rw [upd_same, List.map_append]
              rfl
            · rw [upd_ne hLp.symm]
              exact eph5
        · obtain ⟨y9', pv, eph4, _⟩ := pv
          rw [List.length_map, List.take_length, ← etake] at pv
          exact ⟨_, _, pv, eph4⟩
      · obtain ⟨y9, y10, pv, eph4⟩ := pv
        rw [List.length_map, List.take_length] at pv
        subst hhs
        obtain ⟨ai5, ⟨t, et⟩, _⟩ := AInv.addRows (holders ch p.1) ask ai hmem hp
        refine ⟨_, _, _, _, pv, ai5, fu.step ai hp hne, ?_, by omega, hb⟩
        rw [et, List.length_append]
        omega
  · -- all is full
    have hd2 : d = ask.length := by omega
    obtain ⟨m, rfl⟩ : ∃ m', m = m' + 1 := ⟨m - 1, by omega⟩
    unfold bfs at hb
    rw [List.getElem?_eq_none (by omega)] at hb
    have epl : place R ch k = (ch, some (sortI (keysA ask))) := by
      unfold place
      rw [hres, ← hb]
    walk_at "aw"
    refine w_sortDI eD (askK_keys ask) (by unfold keysA; rw [List.length_map]; omega) fun r H2 nr a2 e2 => ?_
    refine w_tupL (SqL.of e2) fun t H3 nt a3 e3 => ?_
    exact q _ H3 ((ad.trans a2).trans a3).any (by rw [epl]; exact a3.keep _ _ (fun z => nomatch z) (a2.keep _ _ (fun z => nomatch z) (ad.keep _ _ (fun z => nomatch z) hc))) (by rw [epl]; exact ⟨t, rfl, e3⟩)
end AW
namespace AW
open PySem PySem.Spec PyProof.Rows L2 RZ
local macro_rules | `(tactic| walk_at "aw1") => `(tactic| first
  | (with_reducible refine w_seq ?_) | (with_reducible refine w_asg ?_) | (with_reducible refine w_gname ?_) | (with_reducible refine w_op ?_) | (with_reducible refine w_un ?_)
  | ((with_reducible refine' w_var ?h ?_); (case h => rfl)) | (with_reducible refine w_c ?_)
  | (with_reducible refine w_I0 ?_) | (with_reducible refine w_U ?_) | (with_reducible refine w_cb ?_) | (with_reducible refine w_nil ?_) | (with_reducible refine w_cons ?_) | (with_reducible refine w_call ?_)
  | (with_reducible refine w_test ?_) | (with_reducible refine w_B ?_) | (with_reducible refine w_bl ?_) | (with_reducible refine w_not ?_) | (with_reducible refine w_yes ?_) | (with_reducible refine iteT ?_) | (with_reducible refine w_nT ?_) | (with_reducible refine w_nF ?_) | (with_reducible refine iteF ?_) | (with_reducible refine w_and ?_) | (with_reducible refine w_or ?_)
  | (with_reducible refine w_andV ?_) | (with_reducible refine w_orV ?_) | (with_reducible refine w_notV ?_) | (with_reducible refine w_if ?_)
  | (with_reducible refine w_int1 ?_) | (with_reducible refine w_int1b ?_) | (with_reducible refine w_abs ?_) | (with_reducible refine w_max2 ?_) | (with_reducible refine w_min2 ?_)
  | ((with_reducible refine w_eq ?h ?_); (case h => rfl)) | ((with_reducible refine w_ne ?h ?_); (case h => rfl)) | (with_reducible refine w_isN ?_) | (with_reducible refine w_isB ?_) | (with_reducible refine w_chain ?_)
  | (with_reducible refine w_ret ?_) | (with_reducible refine w_drop ?_) | (with_reducible refine w_ifS ?_) | (with_reducible refine w_gsub ?_) | (with_reducible refine w_augS ?_) | (with_reducible refine w_ipI ?_) | (with_reducible refine w_next ?_)
  | (with_reducible refine w_forR ?_) | (with_reducible refine w_forR2 ?_) | (with_reducible refine w_forL ?_) | (with_reducible refine w_forT ?_) | (with_reducible refine w_lcR ?_) | (with_reducible refine w_lcL ?_) | (with_reducible refine w_lcT ?_) | (with_reducible refine w_sl ?_) | (with_reducible refine w_part ?_) | (with_reducible refine w_noPart ?_) | (with_reducible refine w_in ?_)
  | (with_reducible refine w_lcE ?_) | (with_reducible refine w_dn ?_) | (with_reducible refine w_notN ?_) | (with_reducible refine w_gcons ?_) | (with_reducible refine w_gnil ?_) | (with_reducible refine w_lc3 ?_) | (with_reducible refine w_dcZ ?_) | (with_reducible refine w_dcT ?_) | (with_reducible refine w_dg ?_) | (with_reducible refine w_callK ?_) | (with_reducible refine w_dput ?_) | (with_reducible refine w_tup1 ?_)
  | (with_reducible refine w_tup ?_) | (with_reducible refine w_lst ?_)
  | ((with_reducible refine w_I ?h ?_); (case h => first | (exact Or.inr ⟨by decide, by decide⟩) | (exact Or.inl ⟨by decide, by decide⟩) | (show (0 : Int) < _; decide) | (exact ⟨by decide, by decide, by decide⟩) | assumption)))
local macro_rules | `(tactic| walk_at "aw") => `(tactic| repeat (walk_at "aw1"))
def t_greatest_pairing (K : PySem.W.Frag) : TS := (tSeq (tAsg (tOp rRep (tLst (tCons (tC .non) tNil)) (tCB (rLen1 K) (tCons (tVar 0) tNil))) (gName 1))
  (tSeq (tFor (iRng1 (tCons (tCB (rLen1 K) (tCons (tVar 0) tNil)) tNil)) (gName 2)
  (tDrop (tCall (sp__place K) [] E0 (tCons (tVar 0) (tCons tDNewK (tCons (tC (.int 1)) (tCons (tVar 1) (tCons (tVar 2) tNil))))))))
  (tRet (tThen (tVar 1) (kTup K)))))
def t_short_lot (K : PySem.W.Frag) : TS := (tSeq (tAsg (tOp rRep (tLst (tCons (tC .non) tNil)) (tCB (rLen1 K) (tCons (tVar 0) tNil))) (gName 1))
  (tSeq (tFor (iRng1 (tCons (tCB (rLen1 K) (tCons (tVar 0) tNil)) tNil)) (gName 2)
  (tSeq (tAsg (tCall (sp__place K) [] E0 (tCons (tVar 0) (tCons tDNewK (tCons (tC (.int 1)) (tCons (tVar 1) (tCons (tVar 2) tNil)))))) (gName 3))
  (tIfS (tTest (tOp rNotN (tVar 3) (tC .non))) (tRet (tTup (tCons (tCall (sp__lot_of K) [] E0 (tCons (tVar 3) (tCons (tVar 1) (tCons (tVar 2) tNil)))) (tCons (tVar 3) tNil)))) tNext)))
  (tRet (tC .non))))
theorem len_greatest_pairing {K : PySem.W.Frag} : ∀ (vs : List V) (H : Hp) (Q : VK) (E : XK), sp_greatest_pairing K vs H Q E → vs.length = 1 := fun vs H Q E h => by
  obtain ⟨_, rfl, _⟩ := h
  rfl
theorem rep_none (n : Nat) : (List.replicate n [V.non]).flatten = (List.replicate n (none : Option Int)).map oV := by
  induction n with
  | zero => rfl
  | succ n ih =>
    rw [List.replicate_succ, List.replicate_succ, List.flatten_cons, ih]
    rfl
theorem great_len {R : List (List Int)} {P : List Int} (pre : RowsPre R P) {k : Nat} (h : k ≤ R.length) : (greatTo R k).length = R.length := (ginv pre.asc k h).val.len
theorem pure_greatest_pairing {K : PySem.W.Frag} (vs : List V) (H : Hp) (Q : VK) (E : XK) (h : sp_greatest_pairing K vs H Q E) : t_greatest_pairing K { nx := fun _ H' => Q .non H', rt := Q } (start ["rows", "chosen", "k"] vs) H := by
  obtain ⟨a, rfl, R, P, hR, pre, q⟩ := h
  show t_greatest_pairing K _ [some (.ref a), none, none] H
  obtain ⟨xs, hxs, hxl⟩ := hR.tup
  have hn := pre.hi
  unfold t_greatest_pairing
  walk_at "aw"
  refine w_lstD (by simp) fun r1 H1 n1 a1 e1 => ?_
  walk_at "aw"
  refine w_lenT (SqT.of (a1.tup _ _ hxs)) ?_
  walk_at "aw"
  refine w_rep e1 (by omega) (by simp; omega) fun c H2 n2 a2 e2 => ?_
  rw [hxl, rep_none] at e2
  have nc : H c = none := a1.free (fun z => nomatch z) n2
  have a12 := a1.trans a2
  walk_at "aw"
  refine w_lenT (SqT.of (a12.tup _ _ hxs)) ?_
  rw [hxl]
  refine kForR_i (n := R.length) (by omega) (fun i σ H' => ∃ y2, σ = [some (.ref a), some (.ref c), y2] ∧ Adv [] H H' ∧ H' c = some (.lst ((greatTo R i).map oV))) ⟨_, rfl, a12, e2⟩ (fun i σ H' hi pv => ?_) fun σ H' pv => ?_
  · obtain ⟨y2, rfl, ad, ec⟩ := pv
    have gi := ginv pre.asc i (by omega)
    walk_at "aw"
    refine w_dnew fun h H3 nh a3 eh => ?_
    walk_at "aw"
    refine ⟨a, h, c, i, rfl, R, P, greatTo R i, (hR.adv ad).adv a3, pre, eh, a3.keep _ _ (fun z => nomatch z) ec, gi.val.len, gi.rest i (Nat.le_refl _) hi, fun v H4 a4 e4 _ => ?_⟩
    exact ⟨_, rfl, ((ad.trans a3).any.trans a4).drop nc, e4⟩
  · obtain ⟨y2, rfl, ad, ec⟩ := pv
    walk_at "aw"
    refine w_tupL (SqL.of ec) fun t H3 nt a3 e3 => ?_
    exact q t H3 (ad.trans a3) e3
theorem len_short_lot {K : PySem.W.Frag} : ∀ (vs : List V) (H : Hp) (Q : VK) (E : XK), sp_short_lot K vs H Q E → vs.length = 1 := fun vs H Q E h => by
  obtain ⟨_, rfl, _⟩ := h
  rfl
theorem short_first {R : List (List Int)} {i : Nat} {x : List Nat × List Int} (hi : i < R.length) (h : ∀ j, j < i → shortAt R j = none) (e : shortAt R i = some x) : shortOf R = some x := by
  unfold shortOf
  have er : List.range R.length = List.range i ++ (i :: (List.range R.length).drop (i + 1)) := by
    have e1 := (List.take_append_drop i (List.range R.length)).symm
    rw [List.take_range, Nat.min_eq_left (Nat.le_of_lt hi), List.drop_eq_getElem_cons (by simpa using hi)] at e1
    simpa using e1
  rw [er, List.findSome?_append]
  have e0 : (List.range i).findSome? (shortAt R) = none := List.findSome?_eq_none_iff.mpr fun j hj => h j (List.mem_range.mp hj)
  rw [e0, List.findSome?_cons, e]
  rfl
theorem full_len {R : List (List Int)} {P : List Int} (pre : RowsPre R P) {k : Nat} (hk : k < R.length) {full : List Int} (e : (place R (greatTo R k) k).2 = some full) : full.length ≤ 40 := by
  have g := ginv pre.asc k (by omega)
  have p := place_ok g.val (g.rest k (Nat.le_refl _) hk) (lt_nodup (pre.asc.row k))
  rw [e] at p
  refine Nat.le_trans (len_le_of_sub (lt_nodup p.2.1) fun v hv => ?_) pre.few
  obtain ⟨h, e1, _⟩ := p.2.2.2 v hv
  exact pre.pool _ _ (g.val.mem _ _ e1)
theorem pure_short_lot {K : PySem.W.Frag} (vs : List V) (H : Hp) (Q : VK) (E : XK) (h : sp_short_lot K vs H Q E) : t_short_lot K { nx := fun _ H' => Q .non H', rt := Q } (start ["rows", "chosen", "k", "full"] vs) H := by
  obtain ⟨a, rfl, R, P, hR, pre, q⟩ := h
  show t_short_lot K _ [some (.ref a), none, none, none] H
  obtain ⟨xs, hxs, hxl⟩ := hR.tup
  have hn := pre.hi
  unfold t_short_lot
  walk_at "aw"
  refine w_lstD (by simp) fun r1 H1 n1 a1 e1 => ?_
  walk_at "aw"
  refine w_lenT (SqT.of (a1.tup _ _ hxs)) ?_
  walk_at "aw"
  refine w_rep e1 (by omega) (by simp; omega) fun c H2 n2 a2 e2 => ?_
  rw [hxl, rep_none] at e2
  have nc : H c = none := a1.free (fun z => nomatch z) n2
  have a12 := a1.trans a2
  walk_at "aw"
  refine w_lenT (SqT.of (a12.tup _ _ hxs)) ?_
  rw [hxl]
  refine kForR_i (n := R.length) (by omega) (fun i σ H' => ∃ y2 y3, σ = [some (.ref a), some (.ref c), y2, y3] ∧ Adv [] H H' ∧ H' c = some (.lst ((greatTo R i).map oV)) ∧ ∀ j, j < i → shortAt R j = none) ⟨_, _, rfl, a12, e2, fun j hj => absurd hj (Nat.not_lt_zero _)⟩ (fun i σ H' hi pv => ?_) fun σ H' pv => ?_
  · obtain ⟨y2, y3, rfl, ad, ec, hs⟩ := pv
    have gi := ginv pre.asc i (by omega)
    walk_at "aw"
    refine w_dnew fun h H3 nh a3 eh => ?_
    walk_at "aw"
    refine ⟨a, h, c, i, rfl, R, P, greatTo R i, (hR.adv ad).adv a3, pre, eh, a3.keep _ _ (fun z => nomatch z) ec, gi.val.len, gi.rest i (Nat.le_refl _) hi, fun v H4 a4 e4 hv => ?_⟩
    have ad4 : Adv [] H H4 := ((ad.trans a3).any.trans a4).drop nc
    walk_at "aw"
    cases ep : (place R (greatTo R i) i).2 with
    | none =>
      rw [ep] at hv
      obtain rfl : v = .non := hv
      show if (!decide (V.non = .non)) = true then _ else _
      rw [if_neg (by decide)]
      walk_at "aw"
      refine ⟨_, _, rfl, ad4, e4, fun j hj => ?_⟩
      by_cases hj2 : j = i
      · subst hj2
        unfold shortAt
        rw [ep]
        rfl
      · exact hs j (by omega)
    | some full =>
      rw [ep] at hv
      obtain ⟨t, rfl, ht⟩ := hv
      rw [if_pos (by simp)]
      have pok := place_ok gi.val (gi.rest i (Nat.le_refl _) hi) (lt_nodup (pre.asc.row i))
      rw [ep] at pok
      rw [pok.1] at e4
      walk_at "aw"
      refine ⟨t, c, i, rfl, full, greatTo R i, ht, e4, by rw [gi.val.len]; exact hn, Nat.le_trans (full_len pre hi ep) (by decide), fun l H5 a5 e5 => ?_⟩
      walk_at "aw"
      refine w_tupD (by simp) fun u H6 n6 a6 e6 => ?_
      have esh : shortOf R = some (lotOf full (greatTo R i) i, full) := short_first hi hs (by unfold shortAt; rw [ep]; rfl)
      refine q _ H6 ((ad4.trans a5).trans a6) ?_
      rw [esh]
      exact ⟨u, l, t, rfl, e6, a6.keep _ _ (fun z => nomatch z) e5, a6.keep _ _ (fun z => nomatch z) (a5.keep _ _ (fun z => nomatch z) ht)⟩
  · obtain ⟨y2, y3, rfl, ad, ec, hs⟩ := pv
    walk_at "aw"
    refine q _ H' ad ?_
    have : shortOf R = none := by
      unfold shortOf
      exact List.findSome?_eq_none_iff.mpr fun j hj => hs j (List.mem_range.mp hj)
    rw [this]
    rfl
end AW
namespace AW
open PySem PySem.Spec PyProof.Rows L2 RZ
local macro_rules | `(tactic| walk_at "aw1") => `(tactic| first
  | (with_reducible refine w_seq ?_) | (with_reducible refine w_asg ?_) | (with_reducible refine w_gname ?_) | (with_reducible refine w_op ?_) | (with_reducible refine w_un ?_)
  | ((with_reducible refine' w_var ?h ?_); (case h => rfl)) | (with_reducible refine w_c ?_)
  | (with_reducible refine w_I0 ?_) | (with_reducible refine w_U ?_) | (with_reducible refine w_cb ?_) | (with_reducible refine w_nil ?_) | (with_reducible refine w_cons ?_) | (with_reducible refine w_call ?_)
  | (with_reducible refine w_test ?_) | (with_reducible refine w_B ?_) | (with_reducible refine w_bl ?_) | (with_reducible refine w_not ?_) | (with_reducible refine w_yes ?_) | (with_reducible refine iteT ?_) | (with_reducible refine w_nT ?_) | (with_reducible refine w_nF ?_) | (with_reducible refine iteF ?_) | (with_reducible refine w_and ?_) | (with_reducible refine w_or ?_)
  | (with_reducible refine w_andV ?_) | (with_reducible refine w_orV ?_) | (with_reducible refine w_notV ?_) | (with_reducible refine w_if ?_)
  | (with_reducible refine w_int1 ?_) | (with_reducible refine w_int1b ?_) | (with_reducible refine w_abs ?_) | (with_reducible refine w_max2 ?_) | (with_reducible refine w_min2 ?_)
  | ((with_reducible refine w_eq ?h ?_); (case h => rfl)) | ((with_reducible refine w_ne ?h ?_); (case h => rfl)) | (with_reducible refine w_isN ?_) | (with_reducible refine w_isB ?_) | (with_reducible refine w_chain ?_)
  | (with_reducible refine w_ret ?_) | (with_reducible refine w_drop ?_) | (with_reducible refine w_ifS ?_) | (with_reducible refine w_gsub ?_) | (with_reducible refine w_augS ?_) | (with_reducible refine w_ipI ?_) | (with_reducible refine w_next ?_)
  | (with_reducible refine w_forR ?_) | (with_reducible refine w_forR2 ?_) | (with_reducible refine w_forL ?_) | (with_reducible refine w_forT ?_) | (with_reducible refine w_lcR ?_) | (with_reducible refine w_lcL ?_) | (with_reducible refine w_lcT ?_) | (with_reducible refine w_sl ?_) | (with_reducible refine w_part ?_) | (with_reducible refine w_noPart ?_) | (with_reducible refine w_in ?_)
  | (with_reducible refine w_lcE ?_) | (with_reducible refine w_dn ?_) | (with_reducible refine w_notN ?_) | (with_reducible refine w_gcons ?_) | (with_reducible refine w_gnil ?_) | (with_reducible refine w_lc3 ?_) | (with_reducible refine w_dcZ ?_) | (with_reducible refine w_dcT ?_) | (with_reducible refine w_dg ?_) | (with_reducible refine w_callK ?_) | (with_reducible refine w_dput ?_) | (with_reducible refine w_tup1 ?_)
  | (with_reducible refine w_tup ?_) | (with_reducible refine w_lst ?_)
  | ((with_reducible refine w_I ?h ?_); (case h => first | (exact Or.inr ⟨by decide, by decide⟩) | (exact Or.inl ⟨by decide, by decide⟩) | (show (0 : Int) < _; decide) | (exact ⟨by decide, by decide, by decide⟩) | assumption)))
local macro_rules | `(tactic| walk_at "aw") => `(tactic| repeat (walk_at "aw1"))
/-! ### the draws: what each promises -/
def sp__law_flow (K : PySem.W.Frag) : Sp := fun vs H Q _ => ∃ (a : Addr) (ns : List Int), vs = [.ref a] ∧ SqL K H a (ns.map V.int) ∧ ns.length ≤ 63 ∧ ∀ st cs H', StOk st cs H' → Adv [] H H' → H st = none → Q (.ref st) H'
def sp__law_draw (_ : PySem.W.Frag) : Sp := fun vs H Q _ => ∃ (st : Addr) (lim : Int), vs = [.ref st, .int lim] ∧ ∃ cs, StOk st cs H ∧ 0 < lim ∧ lim < 1073741824 ∧ ∀ n H', 0 ≤ n → n < lim → Go st cs H H' → Q (.int n) H'
def sp__law_pick (K : PySem.W.Frag) : Sp := fun vs H Q _ => ∃ (st p : Addr), vs = [.ref st, .ref p] ∧ ∃ cs xs, StOk st cs H ∧ ((SqL K H p xs ∧ p ≠ st) ∨ H p = some (.tup xs)) ∧ 0 < xs.length ∧ xs.length < 1000000 ∧ ∀ (i : Nat) v H', xs[i]? = some v → Go st cs H H' → Q v H'
def sp__law_shuffled (K : PySem.W.Frag) : Sp := fun vs H Q _ => ∃ (st p : Addr), vs = [.ref st, .ref p] ∧ ∃ cs xs, StOk st cs H ∧ SqL K H p xs ∧ p ≠ st ∧ xs.length ≤ 1000 ∧ ∀ q ys H', ys.Perm xs → H q = none → Go st cs H H' → H' q = some (.lst ys) → Q (.ref q) H'
def t__law_draw (K : PySem.W.Frag) : TS := (tSeq (tAsg (tOp rAddI (tOp (rIxL K) (tVar 0) (tC (.int 3))) (tC (.int 1))) (gSub (tVar 0) (tC (.int 3)) rSetL))
  (tSeq (tIfS (tAnd (tTest (tOp rEq (tOp (rIxL K) (tVar 0) (tC (.int 1))) (tC (.int 0)))) (tAnd (tTest (tOp rLtI (tOp (rIxL K) (tVar 0) (tC (.int 2))) (tCB (rLen1 K) (tCons (tOp (rIxL K) (tVar 0) (tC (.int 4))) tNil)))) (tTest (tOp rGeI (tOp (rIxL K) (tOp (rIxL K) (tVar 0) (tC (.int 4))) (tOp (rIxL K) (tVar 0) (tC (.int 2)))) (tOp rPowI (tC (.int 10)) (tC (.int 18))))))) (tSeq (tAsg (tOp (rIxL K) (tOp (rIxL K) (tVar 0) (tC (.int 4))) (tOp (rIxL K) (tVar 0) (tC (.int 2)))) (gSub (tVar 0) (tC (.int 0)) rSetL))
  (tSeq (tAsg (tC (.int 60)) (gSub (tVar 0) (tC (.int 1)) rSetL))
  (tAsg (tOp rAddI (tOp (rIxL K) (tVar 0) (tC (.int 2))) (tC (.int 1))) (gSub (tVar 0) (tC (.int 2)) rSetL)))) tNext)
  (tSeq (tIfS (tTest (tOp rGtI (tOp (rIxL K) (tVar 0) (tC (.int 1))) (tC (.int 0)))) (tSeq (tAsg (tOp rModI (tCB rInt1 (tCons (tOp (rIxL K) (tVar 0) (tC (.int 0))) tNil)) (tVar 1)) (gName 2))
  (tSeq (tAsg (tOp rDivI (tOp (rIxL K) (tVar 0) (tC (.int 0))) (tVar 1)) (gSub (tVar 0) (tC (.int 0)) rSetL))
  (tSeq (tAsg (tOp rMulI (tOp rSubI (tOp (rIxL K) (tVar 0) (tC (.int 1))) (tC (.int 1))) (tCB rInt1 (tCons (tOp rGtI (tOp (rIxL K) (tVar 0) (tC (.int 0))) (tC (.int 0))) tNil))) (gSub (tVar 0) (tC (.int 1)) rSetL))
  (tRet (tVar 2))))) tNext)
  (tSeq (tAsg (tC (.int 7)) (gName 3))
  (tSeq (tIfS (tTest (tOp rGtI (tCB (rLen1 K) (tCons (tOp (rIxL K) (tVar 0) (tC (.int 4))) tNil)) (tC (.int 0)))) (tSeq (tAsg (tOp (rIxL K) (tOp (rIxL K) (tVar 0) (tC (.int 4))) (tOp rModI (tCB rInt1 (tCons (tOp (rIxL K) (tVar 0) (tC (.int 2))) tNil)) (tCB (rLen1 K) (tCons (tOp (rIxL K) (tVar 0) (tC (.int 4))) tNil)))) (gName 3))
  (tAsg (tOp rAddI (tOp (rIxL K) (tVar 0) (tC (.int 2))) (tC (.int 1))) (gSub (tVar 0) (tC (.int 2)) rSetL))) tNext)
  (tSeq (tAsg (tOp rModI (tCB rInt1 (tCons (tOp rAddI (tOp rMulI (tVar 3) (tC (.int 48271))) (tOp rMulI (tOp (rIxL K) (tVar 0) (tC (.int 3))) (tC (.int 69621)))) tNil)) (tC (.int 2147483647))) (gName 4))
  (tSeq (tAsg (tOp rModI (tCB rInt1 (tCons (tOp rAddI (tOp rMulI (tVar 4) (tVar 4)) (tOp rMulI (tOp (rIxL K) (tVar 0) (tC (.int 3))) (tC (.int 40692)))) tNil)) (tC (.int 2147483399))) (gName 5))
  (tRet (tOp rModI (tCB rInt1 (tCons (tOp rModI (tCB rInt1 (tCons (tOp rAddI (tOp rMulI (tVar 5) (tVar 5)) (tVar 4)) tNil)) (tC (.int 2147483647))) tNil)) (tVar 1))))))))))
theorem len__law_draw {K : PySem.W.Frag} : ∀ (vs : List V) (H : Hp) (Q : VK) (E : XK), sp__law_draw K vs H Q E → vs.length = 2 := fun vs H Q E h => by
  obtain ⟨_, _, rfl, _⟩ := h
  rfl
theorem pure__law_draw {K : PySem.W.Frag} (vs : List V) (H : Hp) (Q : VK) (E : XK) (h : sp__law_draw K vs H Q E) : t__law_draw K { nx := fun _ H' => Q .non H', rt := Q } (start ["flow", "many", "got", "cell", "first", "second"] vs) H := by
  obtain ⟨st, lim, rfl, cs, ok, hl, hl2, q⟩ := h
  show t__law_draw K _ [some (.ref st), some (.int lim), none, none, none, none] H
  have ok0 := ok
  obtain ⟨s0, s1, s2, s3, ns, hst, h2, hne, hcs, hns⟩ := ok
  unfold t__law_draw
  walk_at "aw"
  refine w_ixL (SqL.of hst) rfl ?_
  walk_at "aw"
  refine w_setL hst rfl ?_
  generalize hH1 : upd H st _ = H1
  have e1 : H1 st = some (.lst [.int s0, .int s1, .int s2, .int (s3 + 1), .ref cs]) := by rw [← hH1, upd_same]; rfl
  have g1 : Go st cs H H1 := by
    rw [← hH1]
    exact ⟨Adv.lst hst, ⟨s0, s1, s2, s3 + 1, ns, upd_same, h2, hne, by rw [upd_ne hne]; exact hcs, hns⟩⟩
  have c1 : H1 cs = some (.lst (ns.map V.int)) := g1.keep hne hcs
  clear hH1
  generalize s3 + 1 = s3 at e1
  -- behind the first branch
  have rest : ∀ (H2 : Hp) (s0 s1 s2 : Int), 0 ≤ s2 → H2 st = some (.lst [.int s0, .int s1, .int s2, .int s3, .ref cs]) → Go st cs H H2 → (tSeq (tIfS (tTest (tOp rGtI (tOp (rIxL K) (tVar 0) (tC (.int 1))) (tC (.int 0)))) (tSeq (tAsg (tOp rModI (tCB rInt1 (tCons (tOp (rIxL K) (tVar 0) (tC (.int 0))) tNil)) (tVar 1)) (gName 2))
  (tSeq (tAsg (tOp rDivI (tOp (rIxL K) (tVar 0) (tC (.int 0))) (tVar 1)) (gSub (tVar 0) (tC (.int 0)) rSetL))
  (tSeq (tAsg (tOp rMulI (tOp rSubI (tOp (rIxL K) (tVar 0) (tC (.int 1))) (tC (.int 1))) (tCB rInt1 (tCons (tOp rGtI (tOp (rIxL K) (tVar 0) (tC (.int 0))) (tC (.int 0))) tNil))) (gSub (tVar 0) (tC (.int 1)) rSetL))
  (tRet (tVar 2))))) tNext)
  (tSeq (tAsg (tC (.int 7)) (gName 3))
  (tSeq (tIfS (tTest (tOp rGtI (tCB (rLen1 K) (tCons (tOp (rIxL K) (tVar 0) (tC (.int 4))) tNil)) (tC (.int 0)))) (tSeq (tAsg (tOp (rIxL K) (tOp (rIxL K) (tVar 0) (tC (.int 4))) (tOp rModI (tCB rInt1 (tCons (tOp (rIxL K) (tVar 0) (tC (.int 2))) tNil)) (tCB (rLen1 K) (tCons (tOp (rIxL K) (tVar 0) (tC (.int 4))) tNil)))) (gName 3))
  (tAsg (tOp rAddI (tOp (rIxL K) (tVar 0) (tC (.int 2))) (tC (.int 1))) (gSub (tVar 0) (tC (.int 2)) rSetL))) tNext)
  (tSeq (tAsg (tOp rModI (tCB rInt1 (tCons (tOp rAddI (tOp rMulI (tVar 3) (tC (.int 48271))) (tOp rMulI (tOp (rIxL K) (tVar 0) (tC (.int 3))) (tC (.int 69621)))) tNil)) (tC (.int 2147483647))) (gName 4))
  (tSeq (tAsg (tOp rModI (tCB rInt1 (tCons (tOp rAddI (tOp rMulI (tVar 4) (tVar 4)) (tOp rMulI (tOp (rIxL K) (tVar 0) (tC (.int 3))) (tC (.int 40692)))) tNil)) (tC (.int 2147483399))) (gName 5))
  (tRet (tOp rModI (tCB rInt1 (tCons (tOp rModI (tCB rInt1 (tCons (tOp rAddI (tOp rMulI (tVar 5) (tVar 5)) (tVar 4)) tNil)) (tC (.int 2147483647))) tNil)) (tVar 1)))))))) { nx := fun _ H' => Q .non H', rt := Q } [some (.ref st), some (.int lim), none, none, none, none] H2 := by
    intro H2 s0 s1 s2 h2 e2 g2
    have hcs2 : H2 cs = some (.lst (ns.map V.int)) := g2.keep hne hcs
    walk_at "aw"
    refine w_ixL (SqL.of e2) rfl ?_
    walk_at "aw"
    refine w_iteB (fun _ => ?_) fun _ => ?_
    · walk_at "aw"
      refine w_ixL (SqL.of e2) rfl ?_
      walk_at "aw"
      refine w_ixL (SqL.of e2) rfl ?_
      walk_at "aw"
      refine w_I ⟨hl, hl2⟩ ?_
      walk_at "aw"
      refine w_setL e2 rfl ?_
      walk_at "aw"
      refine w_ixL SqL.upd rfl ?_
      walk_at "aw"
      refine w_ixL SqL.upd rfl ?_
      walk_at "aw"
      generalize hk : (if decide (0 < s0 / lim) = true then (1 : Int) else 0) = kk
      have hk1 : -(2 ^ 64) < kk ∧ kk < 2 ^ 64 := by
        rw [← hk]
        split <;> exact ⟨by decide, by decide⟩
      refine w_I (.inr hk1) ?_
      walk_at "aw"
      refine w_setL upd_same rfl ?_
      walk_at "aw"
      refine q _ _ (Int.emod_nonneg _ (by omega)) (Int.emod_lt_of_pos _ hl) (g2.trans ?_)
      rw [upd_upd]
      exact ⟨Adv.lst e2, ⟨_, _, s2, s3, ns, upd_same, h2, hne, by rw [upd_ne hne]; exact hcs2, hns⟩⟩
    · walk_at "aw"
      refine w_ixL (SqL.of e2) rfl ?_
      walk_at "aw"
      refine w_lenL (SqL.of hcs2) ?_
      walk_at "aw"
      -- behind the second branch
      have fin : ∀ (H3 : Hp) (s2 : Int) (cell : Int), 0 ≤ s2 → H3 st = some (.lst [.int s0, .int s1, .int s2, .int s3, .ref cs]) → Go st cs H H3 → (tSeq (tAsg (tOp rModI (tCB rInt1 (tCons (tOp rAddI (tOp rMulI (tVar 3) (tC (.int 48271))) (tOp rMulI (tOp (rIxL K) (tVar 0) (tC (.int 3))) (tC (.int 69621)))) tNil)) (tC (.int 2147483647))) (gName 4))
  (tSeq (tAsg (tOp rModI (tCB rInt1 (tCons (tOp rAddI (tOp rMulI (tVar 4) (tVar 4)) (tOp rMulI (tOp (rIxL K) (tVar 0) (tC (.int 3))) (tC (.int 40692)))) tNil)) (tC (.int 2147483399))) (gName 5))
  (tRet (tOp rModI (tCB rInt1 (tCons (tOp rModI (tCB rInt1 (tCons (tOp rAddI (tOp rMulI (tVar 5) (tVar 5)) (tVar 4)) tNil)) (tC (.int 2147483647))) tNil)) (tVar 1))))) { nx := fun _ H' => Q .non H', rt := Q } [some (.ref st), some (.int lim), none, some (.int cell), none, none] H3 := by
        intro H3 s2 cell h2 e3 g3
        walk_at "aw"
        refine w_ixL (SqL.of e3) rfl ?_
        walk_at "aw"
        generalize hf : (cell * 48271 + s3 * 69621) % 2147483647 = fi
        have hf1 : 0 ≤ fi ∧ fi < 2147483647 := by omega
        refine w_I (.inl ⟨by omega, by omega⟩) ?_
        walk_at "aw"
        refine w_ixL (SqL.of e3) rfl ?_
        walk_at "aw"
        generalize hf2 : (fi * fi + s3 * 40692) % 2147483399 = se
        have hf3 : 0 ≤ se ∧ se < 2147483399 := by omega
        refine w_I (.inl ⟨by omega, by omega⟩) ?_
        walk_at "aw"
        exact q _ _ (Int.emod_nonneg _ (by omega)) (Int.emod_lt_of_pos _ hl) g3
      refine w_iteB (fun hpos => ?_) fun hpos => ?_
      · rw [List.length_map] at hpos
        walk_at "aw"
        refine w_ixL (SqL.of e2) rfl ?_
        walk_at "aw"
        refine w_ixL (SqL.of e2) rfl ?_
        walk_at "aw"
        refine w_ixL (SqL.of e2) rfl ?_
        walk_at "aw"
        refine w_lenL (SqL.of hcs2) ?_
        rw [List.length_map]
        walk_at "aw"
        have hj := Int.emod_nonneg s2 (b := (ns.length : Int)) (by omega)
        have hj2 := Int.emod_lt_of_pos s2 (b := (ns.length : Int)) (by omega)
        generalize s2 % (ns.length : Int) = j at hj hj2
        have hat : atI (ns.map V.int) j = some (.int (ns.getD j.toNat 0)) := by
          have hj : j.toNat < ns.length := by omega
          refine at_of (j := j.toNat) (by omega) ?_
          rw [List.getElem?_map, List.getElem?_eq_getElem hj, List.getD_eq_getElem?_getD, List.getElem?_eq_getElem hj]
          rfl
        refine w_ixL (SqL.of hcs2) hat ?_
        walk_at "aw"
        refine w_ixL (SqL.of e2) rfl ?_
        walk_at "aw"
        refine w_setL e2 rfl ?_
        refine fin _ (s2 + 1) _ (by omega) upd_same (g2.trans ?_)
        exact ⟨Adv.lst e2, ⟨s0, s1, s2 + 1, s3, ns, upd_same, by omega, hne, by rw [upd_ne hne]; exact hcs2, hns⟩⟩
      · walk_at "aw1"
        exact fin _ s2 7 h2 e2 g2
  walk_at "aw"
  refine w_ixL (SqL.of e1) rfl ?_
  walk_at "aw"
  refine w_iteB (fun hz => ?_) fun hz => ?_
  · walk_at "aw"
    refine w_ixL (SqL.of e1) rfl ?_
    walk_at "aw"
    refine w_ixL (SqL.of e1) rfl ?_
    walk_at "aw"
    refine w_lenL (SqL.of c1) ?_
    walk_at "aw"
    rw [List.length_map]
    refine w_iteB (fun hlt => ?_) fun hlt => ?_
    · have hat : atI (ns.map V.int) s2 = some (.int (ns.getD s2.toNat 0)) := by
        have hj : s2.toNat < ns.length := by omega
        refine at_of (j := s2.toNat) (by omega) ?_
        rw [List.getElem?_map, List.getElem?_eq_getElem hj, List.getD_eq_getElem?_getD, List.getElem?_eq_getElem hj]
        rfl
      walk_at "aw"
      refine w_ixL (SqL.of e1) rfl ?_
      walk_at "aw"
      refine w_ixL (SqL.of e1) rfl ?_
      refine w_ixL (SqL.of c1) hat ?_
      walk_at "aw"
      refine w_iteB (fun hb => ?_) fun hb => ?_
      · walk_at "aw"
        refine w_ixL (SqL.of e1) rfl ?_
        walk_at "aw"
        refine w_ixL (SqL.of e1) rfl ?_
        refine w_ixL (SqL.of c1) hat ?_
        walk_at "aw"
        refine w_setL e1 rfl ?_
        walk_at "aw"
        refine w_setL upd_same rfl ?_
        rw [upd_upd]
        walk_at "aw"
        refine w_ixL SqL.upd rfl ?_
        walk_at "aw"
        refine w_setL upd_same rfl ?_
        rw [upd_upd]
        refine rest _ _ 60 (s2 + 1) (by omega) upd_same (g1.trans ?_)
        exact ⟨Adv.lst e1, ⟨_, 60, s2 + 1, s3, ns, upd_same, by omega, hne, by rw [upd_ne hne]; exact c1, hns⟩⟩
      · walk_at "aw1"
        exact rest _ _ _ _ h2 e1 g1
    · walk_at "aw1"
      exact rest _ _ _ _ h2 e1 g1
  · walk_at "aw1"
    exact rest _ _ _ _ h2 e1 g1
end AW
namespace AW
open PySem PySem.Spec PyProof.Rows L2 RZ
local macro_rules | `(tactic| walk_at "aw1") => `(tactic| first
  | (with_reducible refine w_seq ?_) | (with_reducible refine w_asg ?_) | (with_reducible refine w_gname ?_) | (with_reducible refine w_op ?_) | (with_reducible refine w_un ?_)
  | ((with_reducible refine' w_var ?h ?_); (case h => rfl)) | (with_reducible refine w_c ?_)
  | (with_reducible refine w_I0 ?_) | (with_reducible refine w_U ?_) | (with_reducible refine w_cb ?_) | (with_reducible refine w_nil ?_) | (with_reducible refine w_cons ?_) | (with_reducible refine w_call ?_)
  | (with_reducible refine w_test ?_) | (with_reducible refine w_B ?_) | (with_reducible refine w_bl ?_) | (with_reducible refine w_not ?_) | (with_reducible refine w_yes ?_) | (with_reducible refine iteT ?_) | (with_reducible refine w_nT ?_) | (with_reducible refine w_nF ?_) | (with_reducible refine iteF ?_) | (with_reducible refine w_and ?_) | (with_reducible refine w_or ?_)
  | (with_reducible refine w_andV ?_) | (with_reducible refine w_orV ?_) | (with_reducible refine w_notV ?_) | (with_reducible refine w_if ?_)
  | (with_reducible refine w_int1 ?_) | (with_reducible refine w_int1b ?_) | (with_reducible refine w_abs ?_) | (with_reducible refine w_max2 ?_) | (with_reducible refine w_min2 ?_)
  | ((with_reducible refine w_eq ?h ?_); (case h => rfl)) | ((with_reducible refine w_ne ?h ?_); (case h => rfl)) | (with_reducible refine w_isN ?_) | (with_reducible refine w_isB ?_) | (with_reducible refine w_chain ?_)
  | (with_reducible refine w_ret ?_) | (with_reducible refine w_drop ?_) | (with_reducible refine w_ifS ?_) | (with_reducible refine w_gsub ?_) | (with_reducible refine w_augS ?_) | (with_reducible refine w_ipI ?_) | (with_reducible refine w_next ?_)
  | (with_reducible refine w_forR ?_) | (with_reducible refine w_forR2 ?_) | (with_reducible refine w_forL ?_) | (with_reducible refine w_forT ?_) | (with_reducible refine w_lcR ?_) | (with_reducible refine w_lcL ?_) | (with_reducible refine w_lcT ?_) | (with_reducible refine w_sl ?_) | (with_reducible refine w_part ?_) | (with_reducible refine w_noPart ?_) | (with_reducible refine w_in ?_)
  | (with_reducible refine w_lcE ?_) | (with_reducible refine w_dn ?_) | (with_reducible refine w_notN ?_) | (with_reducible refine w_gcons ?_) | (with_reducible refine w_gnil ?_) | (with_reducible refine w_lc3 ?_) | (with_reducible refine w_dcZ ?_) | (with_reducible refine w_dcT ?_) | (with_reducible refine w_dg ?_) | (with_reducible refine w_callK ?_) | (with_reducible refine w_dput ?_) | (with_reducible refine w_tup1 ?_)
  | (with_reducible refine w_tup ?_) | (with_reducible refine w_lst ?_)
  | ((with_reducible refine w_I ?h ?_); (case h => first | (exact Or.inr ⟨by decide, by decide⟩) | (exact Or.inl ⟨by decide, by decide⟩) | (show (0 : Int) < _; decide) | (exact ⟨by decide, by decide, by decide⟩) | assumption)))
local macro_rules | `(tactic| walk_at "aw") => `(tactic| repeat (walk_at "aw1"))
def t__law_flow (K : PySem.W.Frag) : TS := (tRet (tLst (tCons (tC (.int 0)) (tCons (tC (.int 0)) (tCons (tC (.int 0)) (tCons (tC (.int 0)) (tCons (tLc (iList K (tSl (rSlL K) (tVar 0) tNoPart (tPart (tC (.int 63))))) (gName 1) tYes (tCB rAbs (tCons (tCB rInt1 (tCons (tVar 1) tNil)) tNil)) [1]) tNil)))))))
def t__law_pick (K : PySem.W.Frag) : TS := (tRet (tOp (rIxA K) (tVar 1) (tCall (sp__law_draw K) [] E0 (tCons (tVar 0) (tCons (tCB (rLen1 K) (tCons (tVar 1) tNil)) tNil)))))
def t__law_shuffled (K : PySem.W.Frag) : TS := (tSeq (tAsg (tCB (rListOf K) (tCons (tVar 1) tNil)) (gName 2))
  (tSeq (tAsg (tLst tNil) (gName 3))
  (tSeq (tFor (iRng1 (tCons (tCB (rLen1 K) (tCons (tVar 1) tNil)) tNil)) (gName 4)
  (tDrop (tBM K "list" rAppend (tVar 3) (tCons (tBM K "list" rPopAt (tVar 2) (tCons (tCall (sp__law_draw K) [] E0 (tCons (tVar 0) (tCons (tCB (rLen1 K) (tCons (tVar 2) tNil)) tNil))) tNil)) tNil))))
  (tRet (tVar 3)))))
theorem len__law_flow {K : PySem.W.Frag} : ∀ (vs : List V) (H : Hp) (Q : VK) (E : XK), sp__law_flow K vs H Q E → vs.length = 1 := fun vs H Q E h => by
  obtain ⟨_, _, rfl, _⟩ := h
  rfl
theorem pure__law_flow {K : PySem.W.Frag} (vs : List V) (H : Hp) (Q : VK) (E : XK) (h : sp__law_flow K vs H Q E) : t__law_flow K { nx := fun _ H' => Q .non H', rt := Q } (start ["script", "cell"] vs) H := by
  obtain ⟨a, ns, rfl, hs, hl, q⟩ := h
  show t__law_flow K _ [some (.ref a), none] H
  have hcut : cutV (ns.map V.int) none (some 63) = ns.map V.int := by
    rw [cut_to _ (by omega)]
    exact List.take_of_length_le (by rw [List.length_map]; exact hl)
  unfold t__law_flow
  walk_at "aw"
  refine w_slL hs fun r H1 nr a1 e1 => ?_
  rw [hcut] at e1
  refine ⟨r, rfl, ⟨_, SqL.of e1⟩, kLc_pure walk_list (by rw [List.length_map]; omega) (fun H' a' => SqL.of (a'.keep _ _ (fun z => nomatch z) e1)) (fun _ => true) (fun i => .int (if ns.getD i 0 < 0 then -(ns.getD i 0) else ns.getD i 0)) (fun i x H2 H' Kt Kf hi g1 y kt kf => ?_) fun p H2 np a2 e2 => ?_⟩
  · obtain ⟨rfl, e⟩ := y
    rw [List.getElem?_map] at e
    obtain ⟨n, hn, rfl⟩ := Option.map_eq_some_iff.mp e
    walk_at "aw"
    refine ⟨rfl, ?_⟩
    walk_at "aw"
    have := kt rfl _ (.refl _ _)
    rw [getD_of hn] at this
    exact this
  · walk_at "aw"
    refine w_lstD (by simp) fun st H3 n3 a3 e3 => ?_
    have hst : H st = none := a1.free (fun z => nomatch z) (a2.free (fun z => nomatch z) n3)
    refine q st p H3 ⟨0, 0, 0, 0, (List.range ns.length).map fun i => if ns.getD i 0 < 0 then -(ns.getD i 0) else ns.getD i 0, e3, by omega, ne_of_none e2 n3, ?_, by simpa using hl⟩ ((a1.trans a2).trans a3) hst
    rw [a3.keep _ _ (fun z => nomatch z) e2, List.length_map, List.filter_eq_self.mpr (by simp), List.map_map]
    rfl
theorem len__law_pick {K : PySem.W.Frag} : ∀ (vs : List V) (H : Hp) (Q : VK) (E : XK), sp__law_pick K vs H Q E → vs.length = 2 := fun vs H Q E h => by
  obtain ⟨_, _, rfl, _⟩ := h
  rfl
theorem pure__law_pick {K : PySem.W.Frag} (vs : List V) (H : Hp) (Q : VK) (E : XK) (h : sp__law_pick K vs H Q E) : t__law_pick K { nx := fun _ H' => Q .non H', rt := Q } (start ["flow", "things"] vs) H := by
  obtain ⟨st, p, rfl, cs, xs, ok, hp, h0, hl, q⟩ := h
  show t__law_pick K _ [some (.ref st), some (.ref p)] H
  unfold t__law_pick
  walk_at "aw"
  rcases hp with ⟨hp, np⟩ | hp
  · refine w_lenL hp ?_
    walk_at "aw"
    refine ⟨st, _, rfl, cs, ok, by omega, by omega, fun n H' h1 h2 g => ?_⟩
    obtain ⟨v, hv⟩ := get_some (xs := xs) (i := n.toNat) (by omega)
    exact .inl (w_ixL (g.sql np hp) (at_nat h1 hv) (q _ _ _ hv g))
  · refine w_lenT (SqT.of hp) ?_
    walk_at "aw"
    refine ⟨st, _, rfl, cs, ok, by omega, by omega, fun n H' h1 h2 g => ?_⟩
    obtain ⟨v, hv⟩ := get_some (xs := xs) (i := n.toNat) (by omega)
    exact .inr (w_ixT (SqT.of (g.tk _ _ hp)) (at_nat h1 hv) (q _ _ _ hv g))
theorem len__law_shuffled {K : PySem.W.Frag} : ∀ (vs : List V) (H : Hp) (Q : VK) (E : XK), sp__law_shuffled K vs H Q E → vs.length = 2 := fun vs H Q E h => by
  obtain ⟨_, _, rfl, _⟩ := h
  rfl
theorem perm_erase {α : Type} {xs : List α} {k : Nat} {v : α} (h : xs[k]? = some v) : (v :: xs.eraseIdx k).Perm xs := by
  have hlt : k < xs.length := (List.getElem?_eq_some_iff.mp h).1
  have hd : xs = xs.take k ++ (v :: xs.drop (k + 1)) := by
    have e := List.take_append_drop k xs
    rw [List.drop_eq_getElem_cons hlt, (List.getElem?_eq_some_iff.mp h).2] at e
    exact e.symm
  rw [List.eraseIdx_eq_take_drop_succ]
  have hm := List.perm_middle (a := v) (l₁ := xs.take k) (l₂ := xs.drop (k + 1))
  rw [← hd] at hm
  exact hm.symm
theorem pure__law_shuffled {K : PySem.W.Frag} (vs : List V) (H : Hp) (Q : VK) (E : XK) (h : sp__law_shuffled K vs H Q E) : t__law_shuffled K { nx := fun _ H' => Q .non H', rt := Q } (start ["flow", "things", "left", "made", "k"] vs) H := by
  obtain ⟨st, p, rfl, cs, xs, ok, hp, np, hl, q⟩ := h
  show t__law_shuffled K _ [some (.ref st), some (.ref p), none, none, none] H
  unfold t__law_shuffled
  walk_at "aw"
  refine w_listOf (.inl hp) fun l H1 nl a1 e1 => ?_
  walk_at "aw"
  refine w_lstD (by simp) fun f H2 nf a2 e2 => ?_
  have g2 : Go st cs H H2 := (Go.of ok a1).new a2
  have nf0 : H f = none := a1.free (fun z => nomatch z) nf
  have hlf : l ≠ f := ne_of_none e1 nf
  have nlst : l ≠ st := (ok.ne nl).1
  have nfst : f ≠ st := (ok.ne nf0).1
  walk_at "aw"
  refine w_lenL (g2.sql np hp) ?_
  refine kForR_i (n := xs.length) (by omega) (fun i σ H' => ∃ y1 found left, σ = [some (.ref st), some (.ref p), some (.ref l), some (.ref f), y1] ∧ Go st cs H H' ∧ H' f = some (.lst found) ∧ H' l = some (.lst left) ∧ found.length = i ∧ (found ++ left).Perm xs)
    ⟨none, [], xs, rfl, g2, e2, a2.keep _ _ (fun z => nomatch z) e1, rfl, .refl _⟩ (fun i σ H' hi p => ?_) fun σ H' p => ?_
  · obtain ⟨y1, found, left, rfl, g, ef, el, hlen, hperm⟩ := p
    have hll : left.length = xs.length - i := by
      have := hperm.length_eq
      rw [List.length_append] at this
      omega
    walk_at "aw"
    refine w_app rfl ef ?_
    walk_at "aw"
    refine w_popAt (k := 0) (y := .non) rfl el ?_
    walk_at "aw"
    refine w_lenL (SqL.of el) ?_
    walk_at "aw"
    refine ⟨st, _, rfl, cs, g.ok, by omega, by omega, fun n H3 h1 h2 g3 => ?_⟩
    walk_at "aw"
    obtain ⟨v, hv⟩ := get_some (xs := left) (i := n.toNat) (by omega)
    have ef3 := g3.keep nfst ef
    have el3 := g3.keep nlst el
    have hsx : seqIndex? n left.length = some n.toNat := (ixN_seq (by
      have := ixN_at (n := left.length) (j := n.toNat) (by omega)
      rw [show ((n.toNat : Nat) : Int) = n by omega] at this
      exact this)).1
    refine ⟨l, left, n, n.toNat, v, rfl, rfl, el3, by omega, by omega, hsx, hv, ?_⟩
    walk_at "aw"
    have ef4 : (upd H3 l (.lst (left.eraseIdx n.toNat))) f = some (.lst found) := by rw [upd_ne hlf.symm]; exact ef3
    refine w_append ef4 (by omega) ?_
    have g4 := (g.trans g3).mutL (o := .lst (left.eraseIdx n.toNat)) ok nl el3
    walk_at "aw"
    refine ⟨_, _, _, rfl, g4.mutL ok nf0 ef4, upd_same, by rw [upd_ne hlf, upd_same], by rw [List.length_append, hlen]; rfl, ?_⟩
    refine List.Perm.trans ?_ hperm
    rw [List.append_assoc]
    exact List.Perm.append_left found (perm_erase hv)
  · obtain ⟨y1, found, left, rfl, g, ef, el, hlen, hperm⟩ := p
    have hleft : left = [] := by
      have := hperm.length_eq
      rw [List.length_append] at this
      exact List.length_eq_zero_iff.mp (by omega)
    subst hleft
    rw [List.append_nil] at hperm
    walk_at "aw"
    exact q f found H' hperm nf0 g ef
end AW
namespace AW
open PySem PySem.Spec PyProof.Rows L2 RZ
local macro_rules | `(tactic| walk_at "aw1") => `(tactic| first
  | (with_reducible refine w_seq ?_) | (with_reducible refine w_asg ?_) | (with_reducible refine w_gname ?_) | (with_reducible refine w_op ?_) | (with_reducible refine w_un ?_)
  | ((with_reducible refine' w_var ?h ?_); (case h => rfl)) | (with_reducible refine w_c ?_)
  | (with_reducible refine w_I0 ?_) | (with_reducible refine w_U ?_) | (with_reducible refine w_cb ?_) | (with_reducible refine w_nil ?_) | (with_reducible refine w_cons ?_) | (with_reducible refine w_call ?_)
  | (with_reducible refine w_test ?_) | (with_reducible refine w_B ?_) | (with_reducible refine w_bl ?_) | (with_reducible refine w_not ?_) | (with_reducible refine w_yes ?_) | (with_reducible refine iteT ?_) | (with_reducible refine w_nT ?_) | (with_reducible refine w_nF ?_) | (with_reducible refine iteF ?_) | (with_reducible refine w_and ?_) | (with_reducible refine w_or ?_)
  | (with_reducible refine w_andV ?_) | (with_reducible refine w_orV ?_) | (with_reducible refine w_notV ?_) | (with_reducible refine w_if ?_)
  | (with_reducible refine w_int1 ?_) | (with_reducible refine w_int1b ?_) | (with_reducible refine w_abs ?_) | (with_reducible refine w_max2 ?_) | (with_reducible refine w_min2 ?_)
  | ((with_reducible refine w_eq ?h ?_); (case h => rfl)) | ((with_reducible refine w_ne ?h ?_); (case h => rfl)) | (with_reducible refine w_isN ?_) | (with_reducible refine w_isB ?_) | (with_reducible refine w_chain ?_)
  | (with_reducible refine w_ret ?_) | (with_reducible refine w_drop ?_) | (with_reducible refine w_ifS ?_) | (with_reducible refine w_gsub ?_) | (with_reducible refine w_augS ?_) | (with_reducible refine w_ipI ?_) | (with_reducible refine w_next ?_)
  | (with_reducible refine w_forR ?_) | (with_reducible refine w_forR2 ?_) | (with_reducible refine w_forL ?_) | (with_reducible refine w_forT ?_) | (with_reducible refine w_lcR ?_) | (with_reducible refine w_lcL ?_) | (with_reducible refine w_lcT ?_) | (with_reducible refine w_sl ?_) | (with_reducible refine w_part ?_) | (with_reducible refine w_noPart ?_) | (with_reducible refine w_in ?_)
  | (with_reducible refine w_lcE ?_) | (with_reducible refine w_dn ?_) | (with_reducible refine w_notN ?_) | (with_reducible refine w_gcons ?_) | (with_reducible refine w_gnil ?_) | (with_reducible refine w_lc3 ?_) | (with_reducible refine w_dcZ ?_) | (with_reducible refine w_dcT ?_) | (with_reducible refine w_dg ?_) | (with_reducible refine w_callK ?_) | (with_reducible refine w_dput ?_) | (with_reducible refine w_tup1 ?_)
  | (with_reducible refine w_tup ?_) | (with_reducible refine w_lst ?_)
  | ((with_reducible refine w_I ?h ?_); (case h => first | (exact Or.inr ⟨by decide, by decide⟩) | (exact Or.inl ⟨by decide, by decide⟩) | (show (0 : Int) < _; decide) | (exact ⟨by decide, by decide, by decide⟩) | assumption)))
local macro_rules | `(tactic| walk_at "aw") => `(tactic| repeat (walk_at "aw1"))
/-! ### the law's own reading of pairings -/
def sp__law_whole (_ : PySem.W.Frag) : Sp := fun vs H Q _ => ∃ n : Int, vs = [.int n] ∧ Q (.bl true) H
def sp__law_rises (_ : PySem.W.Frag) : Sp := fun vs H Q _ => ∃ (p : Addr) (ns : List Int), vs = [.ref p] ∧ H p = some (.tup (ns.map V.int)) ∧ ns.Pairwise (· < ·) ∧ ns.length ≤ 1000 ∧ ∀ H', Adv [] H H' → Q (.bl true) H'
def sp__law_are_whole (_ : PySem.W.Frag) : Sp := fun vs H Q _ => ∃ (p : Addr) (ns : List Int), vs = [.ref p] ∧ H p = some (.tup (ns.map V.int)) ∧ ns.length ≤ 1000 ∧ ∀ H', Adv [] H H' → Q (.bl true) H'
/-- the dict at t holds the law's seats -/
def TkAt (H : Hp) (t : Addr) (tk : Tk) (P : List Int) : Prop := ∃ kvs : List (Key × V), H t = some (.dK kvs) ∧ (∀ v, valV kvs (Sum.inl v) = (tk v).map fun r => .int (r : Nat)) ∧ ∃ ks : List Int, kvs.map (·.1) = ks.map Sum.inl ∧ ks.Nodup ∧ ∀ x ∈ ks, x ∈ P
def SeenAt (H : Hp) (s : Addr) (S : List Int) : Prop := H s = some (.dK (S.map fun v => (Sum.inl v, .int 1)))
def sp__law_seat (K : PySem.W.Frag) (m : Nat) : Sp := fun vs H Q _ => ∃ (a t s : Addr) (k : Nat), vs = [.ref a, .ref t, .int k, .ref s] ∧ ∃ (R : List (List Int)) (P : List Int) (tk : Tk) (S : List Int), RowsAt H a R ∧ RowsPre R P ∧ k < R.length ∧ t ≠ s ∧ TkAt H t tk P ∧ SeenAt H s S ∧ GoodT R P tk ∧ S.Nodup ∧ (∀ v ∈ S, v ∈ P) ∧ P.length - S.length < m ∧
  (∀ H' tk', Adv [t, s] H H' → TkAt H' t tk' P → SeatT R P tk k S tk' → Q (.bl true) H') ∧ (∀ H' S', Adv [s] H H' → SeenAt H' s S' → S'.Nodup → (∀ v ∈ S', v ∈ P) → SeatF R tk k S S' → Q (.bl false) H')
def sp__law_most (K : PySem.W.Frag) : Sp := fun vs H Q _ => ∃ (a : Addr), vs = [.ref a] ∧ ∃ (R : List (List Int)) (P : List Int), RowsAt H a R ∧ RowsPre R P ∧ ∀ H', Adv [] H H' → Q (.int (usedN (great R) : Nat)) H'
def t__law_whole (K : PySem.W.Frag) : TS := (tRet (tAndV (tCB (rIsi K) (tCons (tVar 0) (tCons (tC (.ty "int")) tNil))) (tNotV (tCB (rIsi K) (tCons (tVar 0) (tCons (tC (.ty "bool")) tNil))))))
def t__law_rises (K : PySem.W.Frag) : TS := (tRet (tOp rEq (tCB (rLen1 K) (tCons (tLc (iRng2 (tCons (tC (.int 1)) (tCons (tCB (rLen1 K) (tCons (tVar 0) tNil)) tNil))) (gName 1) (tTest (tOp rGeI (tOp (rIxT K) (tVar 0) (tOp rSubI (tVar 1) (tC (.int 1)))) (tOp (rIxT K) (tVar 0) (tVar 1)))) (tVar 1) [1]) tNil)) (tC (.int 0))))
def t__law_are_whole (K : PySem.W.Frag) : TS := (tRet (tAndV (tCB (rIsi K) (tCons (tVar 0) (tCons (tC (.ty "tuple")) tNil))) (tOp rEq (tCB (rLen1 K) (tCons (tLc (iTup K (tVar 0)) (gName 1) (tNot (tB (tCall (sp__law_whole K) [] E0 (tCons (tVar 1) tNil)))) (tVar 1) [1]) tNil)) (tC (.int 0)))))
theorem len__law_whole {K : PySem.W.Frag} : ∀ (vs : List V) (H : Hp) (Q : VK) (E : XK), sp__law_whole K vs H Q E → vs.length = 1 := fun vs H Q E h => by
  obtain ⟨_, rfl, _⟩ := h
  rfl
theorem pure__law_whole {K : PySem.W.Frag} (vs : List V) (H : Hp) (Q : VK) (E : XK) (h : sp__law_whole K vs H Q E) : t__law_whole K { nx := fun _ H' => Q .non H', rt := Q } (start ["value"] vs) H := by
  obtain ⟨n, rfl, q⟩ := h
  show t__law_whole K _ [some (.int n)] H
  unfold t__law_whole
  walk_at "aw"
  refine w_isi (a := "int") (r := true) (.base (.int n)) (by decide +kernel) ?_
  walk_at "aw"
  refine w_isi (a := "int") (r := false) (.base (.int n)) (by decide +kernel) ?_
  walk_at "aw"
  exact q
theorem len__law_rises {K : PySem.W.Frag} : ∀ (vs : List V) (H : Hp) (Q : VK) (E : XK), sp__law_rises K vs H Q E → vs.length = 1 := fun vs H Q E h => by
  obtain ⟨_, _, rfl, _⟩ := h
  rfl
section
variable {K : PySem.W.Frag} {g : TG} {tt : TT} {te : TE} {vs : List Nat} {σ : L2.St} {Q : VK} {H : Hp} {H1 : Hp}
def kLcR2 (g : TG) (tt : TT) (te : TE) (vs : List Nat) (σ : L2.St) (Q : VK) (ws : List V) (H1 : Hp) : Prop := ∃ i j : Int, ws = [.int i, .int j] ∧ (-(2 ^ 62) ≤ i ∧ i < 2 ^ 62 ∧ -(2 ^ 62) ≤ j ∧ j < 2 ^ 62) ∧ kLc (Itr i (j - i).toNat) g tt te vs σ Q H1
theorem w_lcR2 {a : TA} (h : a σ H (kLcR2 g tt te vs σ Q)) : tLc (iRng2 a) g tt te vs σ H Q := h
theorem kLcR2_pure {lo hi : Int} (h1 : -1000000 ≤ lo ∧ lo ≤ 1000000) (h2 : -1000000 ≤ hi ∧ hi ≤ 1000000) (hn : (hi - lo).toNat ≤ 100000) (B : Nat → Bool) (v : Nat → V)
    (step : ∀ i H (Kt : V → Hp → Prop) (Kf : Hp → Prop), i < (hi - lo).toNat → Adv [] H1 H → (B i = true → ∀ H4, Adv [] H H4 → Kt (v i) H4) → (B i = false → ∀ H3, Adv [] H H3 → Kf H3) →
      g (.int (lo + (i : Nat))) (wipe σ vs) H fun σ2 H2 => wipe σ2 vs = wipe σ vs ∧ tt σ2 H2 fun b H3 => if b = true then te σ2 H3 Kt else Kf H3)
    (k : ∀ p H', H1 p = none → Adv [] H1 H' → H' p = some (.lst (((List.range (hi - lo).toNat).filter B).map v)) → Q (.ref p) H') : kLcR2 g tt te vs σ Q [.int lo, .int hi] H1 := by
  refine ⟨lo, hi, rfl, ⟨by omega, by omega, by omega, by omega⟩, ?_⟩
  refine kLc_pure walk_range hn (fun _ _ => trivial) B v (fun i x H H' Kt Kf hi g1 y kt kf => ?_) k
  obtain ⟨rfl, rfl⟩ := y
  exact step i H' Kt Kf hi g1 kt kf
end
local macro_rules | `(tactic| walk_at "aw1") => `(tactic| (with_reducible refine w_lcR2 ?_))
theorem pure__law_rises {K : PySem.W.Frag} (vs : List V) (H : Hp) (Q : VK) (E : XK) (h : sp__law_rises K vs H Q E) : t__law_rises K { nx := fun _ H' => Q .non H', rt := Q } (start ["row", "k"] vs) H := by
  obtain ⟨p, ns, rfl, hp, asc, hl, q⟩ := h
  show t__law_rises K _ [some (.ref p), none] H
  unfold t__law_rises
  walk_at "aw"
  refine w_lenT (SqT.of hp) ?_
  rw [List.length_map]
  refine kLcR2_pure (by omega) (by omega) (by omega) (fun _ => false) (fun _ => .non) (fun i H1 Kt Kf hi a1 kt kf => ?_) fun r H1 nr a1 e1 => ?_
  · have hp1 := a1.tup _ _ hp
    have g1 : i < ns.length := by omega
    have g2 : i + 1 < ns.length := by omega
    walk_at "aw"
    refine ⟨rfl, ?_⟩
    walk_at "aw"
    refine w_ixT (SqT.of hp1) (at_of (j := i) (v := .int ns[i]) (by omega) (by rw [List.getElem?_map, List.getElem?_eq_getElem g1]; rfl)) ?_
    walk_at "aw"
    refine w_ixT (SqT.of hp1) (at_of (j := i + 1) (v := .int ns[i + 1]) (by omega) (by rw [List.getElem?_map, List.getElem?_eq_getElem g2]; rfl)) ?_
    walk_at "aw"
    have hlt : ns[i] < ns[i + 1] := List.pairwise_iff_getElem.mp asc i (i + 1) g1 g2 (by omega)
    refine w_iteB (fun hz => ?_) fun hz => ?_
    · omega
    · exact kf rfl _ (.refl _ _)
  · walk_at "aw"
    refine w_lenL (SqL.of e1) ?_
    rw [List.filter_eq_nil_iff.mpr (by simp)]
    walk_at "aw"
    exact q H1 a1
theorem len__law_are_whole {K : PySem.W.Frag} : ∀ (vs : List V) (H : Hp) (Q : VK) (E : XK), sp__law_are_whole K vs H Q E → vs.length = 1 := fun vs H Q E h => by
  obtain ⟨_, _, rfl, _⟩ := h
  rfl
theorem pure__law_are_whole {K : PySem.W.Frag} (vs : List V) (H : Hp) (Q : VK) (E : XK) (h : sp__law_are_whole K vs H Q E) : t__law_are_whole K { nx := fun _ H' => Q .non H', rt := Q } (start ["value", "one"] vs) H := by
  obtain ⟨p, ns, rfl, hp, hl, q⟩ := h
  show t__law_are_whole K _ [some (.ref p), none] H
  unfold t__law_are_whole
  walk_at "aw"
  refine w_isi (a := "tuple") (r := true) (.base (.tup hp)) (by decide +kernel) ?_
  walk_at "aw"
  refine ⟨p, rfl, ⟨_, SqT.of hp⟩, kLc_pure walk_tup (by rw [List.length_map]; omega) (fun H' a' => SqT.of (a'.tup _ _ hp)) (fun _ => false) (fun _ => .non) (fun i x H1 H' Kt Kf hi g1 y kt kf => ?_) fun r H2 nr a2 e2 => ?_⟩
  · obtain ⟨rfl, e⟩ := y
    rw [List.getElem?_map] at e
    obtain ⟨n, hn, rfl⟩ := Option.map_eq_some_iff.mp e
    walk_at "aw"
    refine ⟨rfl, ?_⟩
    walk_at "aw"
    refine ⟨n, rfl, ?_⟩
    walk_at "aw"
    exact kf rfl _ (.refl _ _)
  · walk_at "aw"
    refine w_lenL (SqL.of e2) ?_
    rw [List.filter_eq_nil_iff.mpr (by simp)]
    walk_at "aw"
    exact q H2 a2
theorem dict_keys_put {kvs : List (Key × V)} {ks : List Int} {v : Int} {x : V} (h : kvs.map (·.1) = ks.map Sum.inl) : (putK kvs (Sum.inl v) x).map (·.1) = (if v ∈ ks then ks else ks ++ [v]).map Sum.inl := by
  have hm : (kvs.any fun kv => decide (kv.1 = (Sum.inl v : Key))) = decide (v ∈ ks) := by
    rw [Bool.eq_iff_iff, List.any_eq_true, decide_eq_true_eq]
    constructor
    · rintro ⟨kv, hk, e⟩
      have e' : kv.1 = (Sum.inl v : Key) := by simpa using e
      have h1 : kv.1 ∈ kvs.map (·.1) := List.mem_map.mpr ⟨kv, hk, rfl⟩
      rw [h] at h1
      obtain ⟨n, hn, e2⟩ := List.mem_map.mp h1
      rw [e'] at e2
      cases e2
      exact hn
    · intro hv
      have h1 : (Sum.inl v : Key) ∈ kvs.map (·.1) := by rw [h]; exact List.mem_map.mpr ⟨v, hv, rfl⟩
      obtain ⟨kv, hk, e⟩ := List.mem_map.mp h1
      exact ⟨kv, hk, by simpa using e⟩
  unfold putK
  rw [hm]
  by_cases hv : v ∈ ks
  · rw [if_pos (by simpa using hv), if_pos hv, ← h, List.map_map]
    refine List.map_congr_left fun kv _ => ?_
    show (if kv.1 = (Sum.inl v : Key) then (kv.1, x) else kv).1 = kv.1
    split <;> rfl
  · rw [if_neg (by simpa using hv), if_neg hv, List.map_append, List.map_append, h]
    rfl
theorem TkAt.put {H : Hp} {t : Addr} {tk : Tk} {P : List Int} {kvs : List (Key × V)} {v : Int} {k : Nat} (h1 : ∀ v, valV kvs (Sum.inl v) = (tk v).map fun r => .int (r : Nat)) (h2 : ∃ ks : List Int, kvs.map (·.1) = ks.map Sum.inl ∧ ks.Nodup ∧ ∀ x ∈ ks, x ∈ P) (hv : v ∈ P) :
    TkAt (upd H t (.dK (putK kvs (Sum.inl v) (.int (k : Nat))))) t (setT tk v k) P := by
  obtain ⟨ks, e, nd, hs⟩ := h2
  refine ⟨_, upd_same, fun u => ?_, _, dict_keys_put e, ?_, fun x hx => ?_⟩
  · rw [valV_put]
    unfold setT
    by_cases hu : u = v
    · subst hu
      rw [if_pos rfl, if_pos rfl]
      rfl
    · rw [if_neg (fun z => hu (Sum.inl.inj z)), if_neg hu]
      exact h1 u
  · split
    · exact nd
    · rename_i hn
      rw [List.nodup_append]
      exact ⟨nd, by simp, fun a ha b hb => by rw [List.mem_singleton.mp hb]; exact fun z => hn (z ▸ ha)⟩
  · split at hx
    · exact hs x hx
    · rcases List.mem_append.mp hx with hx | hx
      · exact hs x hx
      · rw [List.mem_singleton.mp hx]; exact hv
theorem TkAt.small {P : List Int} {kvs : List (Key × V)} (h2 : ∃ ks : List Int, kvs.map (·.1) = ks.map Sum.inl ∧ ks.Nodup ∧ ∀ x ∈ ks, x ∈ P) (hP : P.length ≤ 40) : kvs.length ≤ 40 := by
  obtain ⟨ks, e, nd, hs⟩ := h2
  have : kvs.length = ks.length := by
    have := congrArg List.length e
    simpa using this
  have := len_le_of_sub nd hs
  omega
theorem valV_seen {S : List Int} {v : Int} : (valV (S.map fun v => ((Sum.inl v : Key), V.int 1)) (Sum.inl v)).isSome = decide (v ∈ S) := by
  unfold valV
  rw [Option.isSome_map, Bool.eq_iff_iff, List.find?_isSome, decide_eq_true_eq]
  constructor
  · rintro ⟨kv, hk, e⟩
    obtain ⟨n, hn, rfl⟩ := List.mem_map.mp hk
    have : n = v := by simpa using e
    exact this ▸ hn
  · exact fun h => ⟨_, List.mem_map.mpr ⟨v, h, rfl⟩, by simp⟩
theorem putK_seen {S : List Int} {v : Int} (h : v ∉ S) : putK (S.map fun v => ((Sum.inl v : Key), V.int 1)) (Sum.inl v) (.int 1) = (S ++ [v]).map fun v => ((Sum.inl v : Key), V.int 1) := by
  unfold putK
  have : ((S.map fun v => ((Sum.inl v : Key), V.int 1)).any fun kv => decide (kv.1 = (Sum.inl v : Key))) = false := by
    rw [List.any_eq_false]
    intro kv hk
    obtain ⟨n, hn, rfl⟩ := List.mem_map.mp hk
    simp only [decide_eq_true_eq]
    exact fun e => h (Sum.inl.inj e ▸ hn)
  rw [if_neg (by rw [this]; decide), List.map_append]
  rfl
end AW
namespace AW
open PySem PySem.Spec PyProof.Rows L2 RZ
local macro_rules | `(tactic| walk_at "aw1") => `(tactic| first
  | (with_reducible refine w_seq ?_) | (with_reducible refine w_asg ?_) | (with_reducible refine w_gname ?_) | (with_reducible refine w_op ?_) | (with_reducible refine w_un ?_)
  | ((with_reducible refine' w_var ?h ?_); (case h => rfl)) | (with_reducible refine w_c ?_)
  | (with_reducible refine w_I0 ?_) | (with_reducible refine w_U ?_) | (with_reducible refine w_cb ?_) | (with_reducible refine w_nil ?_) | (with_reducible refine w_cons ?_) | (with_reducible refine w_call ?_)
  | (with_reducible refine w_test ?_) | (with_reducible refine w_B ?_) | (with_reducible refine w_bl ?_) | (with_reducible refine w_not ?_) | (with_reducible refine w_yes ?_) | (with_reducible refine iteT ?_) | (with_reducible refine w_nT ?_) | (with_reducible refine w_nF ?_) | (with_reducible refine iteF ?_) | (with_reducible refine w_and ?_) | (with_reducible refine w_or ?_)
  | (with_reducible refine w_andV ?_) | (with_reducible refine w_orV ?_) | (with_reducible refine w_notV ?_) | (with_reducible refine w_if ?_)
  | (with_reducible refine w_int1 ?_) | (with_reducible refine w_int1b ?_) | (with_reducible refine w_abs ?_) | (with_reducible refine w_max2 ?_) | (with_reducible refine w_min2 ?_)
  | ((with_reducible refine w_eq ?h ?_); (case h => rfl)) | ((with_reducible refine w_ne ?h ?_); (case h => rfl)) | (with_reducible refine w_isN ?_) | (with_reducible refine w_isB ?_) | (with_reducible refine w_chain ?_)
  | (with_reducible refine w_ret ?_) | (with_reducible refine w_drop ?_) | (with_reducible refine w_ifS ?_) | (with_reducible refine w_gsub ?_) | (with_reducible refine w_augS ?_) | (with_reducible refine w_ipI ?_) | (with_reducible refine w_next ?_)
  | (with_reducible refine w_forR ?_) | (with_reducible refine w_forR2 ?_) | (with_reducible refine w_forL ?_) | (with_reducible refine w_forT ?_) | (with_reducible refine w_lcR ?_) | (with_reducible refine w_lcL ?_) | (with_reducible refine w_lcT ?_) | (with_reducible refine w_sl ?_) | (with_reducible refine w_part ?_) | (with_reducible refine w_noPart ?_) | (with_reducible refine w_in ?_)
  | (with_reducible refine w_lcE ?_) | (with_reducible refine w_dn ?_) | (with_reducible refine w_notN ?_) | (with_reducible refine w_gcons ?_) | (with_reducible refine w_gnil ?_) | (with_reducible refine w_lc3 ?_) | (with_reducible refine w_dcZ ?_) | (with_reducible refine w_dcT ?_) | (with_reducible refine w_dg ?_) | (with_reducible refine w_callK ?_) | (with_reducible refine w_dput ?_) | (with_reducible refine w_tup1 ?_)
  | (with_reducible refine w_tup ?_) | (with_reducible refine w_lst ?_)
  | ((with_reducible refine w_I ?h ?_); (case h => first | (exact Or.inr ⟨by decide, by decide⟩) | (exact Or.inl ⟨by decide, by decide⟩) | (show (0 : Int) < _; decide) | (exact ⟨by decide, by decide, by decide⟩) | assumption)))
local macro_rules | `(tactic| walk_at "aw") => `(tactic| repeat (walk_at "aw1"))
def t__law_seat (K : PySem.W.Frag) (m : Nat) : TS := (tSeq (tFor (iTup K (tOp (rIxT K) (tVar 0) (tVar 2))) (gName 4)
  (tIfS (tB (tDNotIn (tVar 4) (tVar 3))) (tSeq (sDPut (tVar 3) (tVar 4) (tC (.int 1)))
  (tIfS (tOr (tB (tDNotIn (tVar 4) (tVar 1))) (tB (tCall (sp__law_seat K m) [] E0 (tCons (tVar 0) (tCons (tVar 1) (tCons (tDGet (tVar 1) (tVar 4)) (tCons (tVar 3) tNil))))))) (tSeq (sDPut (tVar 1) (tVar 4) (tVar 2))
  (tRet (tC (.bl true)))) tNext)) tNext))
  (tRet (tC (.bl false))))
theorem len__law_seat {K : PySem.W.Frag} {m : Nat} : ∀ (vs : List V) (H : Hp) (Q : VK) (E : XK), sp__law_seat K m vs H Q E → vs.length = 4 := fun vs H Q E h => by
  obtain ⟨_, _, _, _, rfl, _⟩ := h
  rfl
theorem SeenAt.adv {S : List Addr} {H H' : Hp} {s : Addr} {L : List Int} (h : SeenAt H s L) (e : Adv S H H') (hs : s ∉ S) : SeenAt H' s L := e.keep _ _ hs h
theorem pure__law_seat {K : PySem.W.Frag} {m : Nat} (vs : List V) (H : Hp) (Q : VK) (E : XK) (h : sp__law_seat K (m + 1) vs H Q E) : t__law_seat K m { nx := fun _ H' => Q .non H', rt := Q } (start ["rows", "taken", "k", "seen", "v"] vs) H := by
  obtain ⟨a, t, s, k, rfl, R, P, tk, S, hR, pre, hk, hts, hT, hS, good, nS, sP, hm, qT, qF⟩ := h
  show t__law_seat K m _ [some (.ref a), some (.ref t), some (.int k), some (.ref s), none] H
  obtain ⟨kvs, hkv, hval, hks⟩ := hT
  have hsm := TkAt.small hks pre.few
  unfold t__law_seat
  walk_at "aw"
  refine w_row hR hk fun b hb => ?_
  refine kForT_i (fun i σ H' => ∃ y4 S', σ = [some (.ref a), some (.ref t), some (.int (k : Nat)), some (.ref s), y4] ∧ Adv [s] H H' ∧ SeenAt H' s S' ∧ S'.Nodup ∧ (∀ v ∈ S', v ∈ P) ∧ SeatM tk R ((rowOf R k).take i) S S') (SqT.of hb)
    ⟨none, S, rfl, .refl _ _, hS, nS, sP, fun v h => h, fun w hw => by simp at hw, fun v h1 h2 => absurd h1 h2⟩ (fun i σ H' _ pv => ?_) (fun i v σ H' hv pv => ?_) fun σ H' pv => ?_
  · obtain ⟨_, _, _, ad, _⟩ := pv
    exact SqT.of (ad.tup _ _ hb)
  · obtain ⟨y4, S', rfl, ad, hS', nS', sP', mid⟩ := pv
    rw [List.getElem?_map] at hv
    obtain ⟨n, hn, rfl⟩ := Option.map_eq_some_iff.mp hv
    have hnr : n ∈ rowOf R k := List.mem_of_getElem? hn
    have hnP : n ∈ P := pre.pool _ _ hnr
    have etake : (rowOf R k).take (i + 1) = (rowOf R k).take i ++ [n] := take_snoc hn
    walk_at "aw"
    show kDN (.ref s) (.int n) _ _
    refine kDN_i (k := Sum.inl n) hS' ?_
    walk_at "aw"
    rw [valV_seen]
    by_cases hin : n ∈ S'
    · have e : (!decide (n ∈ S')) = false := by simpa using hin
      rw [e, if_neg (by decide)]
      walk_at "aw"
      refine ⟨_, S', rfl, ad, hS', nS', sP', ?_⟩
      rw [etake]
      exact mid.skip hin
    · have e : (!decide (n ∈ S')) = true := by simpa using hin
      rw [e, if_pos rfl]
      walk_at "aw"
      show kDPut (.ref s) (.int n) _ _ _
      have hlen' := len_le_of_sub nS' sP'
      have hfew := pre.few
      refine kDPut_i (k := Sum.inl n) hS' (by rw [List.length_map]; omega) ?_
      rw [putK_seen hin]
      have ad1 : Adv [s] H (upd H' s (.dK ((S' ++ [n]).map fun v => ((Sum.inl v : Key), V.int 1)))) := ad.trans (Adv.dct hS')
      generalize hH1 : upd H' s (.dK ((S' ++ [n]).map fun v => ((Sum.inl v : Key), V.int 1))) = H1 at ad1
      have hS1 : SeenAt H1 s (S' ++ [n]) := by unfold SeenAt; rw [← hH1, upd_same]
      clear hH1
      have hkv1 := ad1.keep _ _ (fun z => hts (List.mem_singleton.mp z)) hkv
      have nS1 : (S' ++ [n]).Nodup := by
        rw [List.nodup_append]
        exact ⟨nS', by simp, fun x hx y hy => by rw [List.mem_singleton.mp hy]; exact fun z => hin (z ▸ hx)⟩
      have sP1 : ∀ v ∈ S' ++ [n], v ∈ P := fun v hv => by
        rcases List.mem_append.mp hv with h | h
        · exact sP' v h
        · rw [List.mem_singleton.mp h]; exact hnP
      walk_at "aw"
      show kDN (.ref t) (.int n) _ _
      refine kDN_i (k := Sum.inl n) hkv1 ?_
      walk_at "aw"
      rw [hval n]
      have nSn : n ∉ S := fun z => hin (mid.sub n z)
      cases htk : tk n with
      | none =>
        show if true = true then _ else _
        rw [if_pos rfl, if_pos rfl]
        walk_at "aw"
        show kDPut (.ref t) (.int n) _ _ _
        refine kDPut_i (k := Sum.inl n) hkv1 (by omega) ?_
        walk_at "aw"
        exact qT _ _ ((ad1.mono (fun b hb => List.mem_cons_of_mem _ hb)).trans ((Adv.dct hkv1).mono fun b hb => by rw [List.mem_singleton.mp hb]; exact List.mem_cons_self ..)) (TkAt.put hval hks hnP) (SeatT.free pre.nP good hnr hnP hk nSn htk)
      | some k1 =>
        show if false = true then _ else _
        rw [if_neg (by decide)]
        have hk1 := good.mem _ _ htk
        walk_at "aw"
        show kDGet (.ref t) (.int n) _ _
        refine kDGet_i (k := Sum.inl n) hkv1 (v := .int (k1 : Nat)) (by rw [hval n, htk]; rfl) ?_
        walk_at "aw"
        have hSS : S.length ≤ S'.length := len_le_of_sub nS mid.sub
        have hS1l := len_le_of_sub nS1 sP1
        rw [List.length_append, List.length_singleton] at hS1l
        refine ⟨a, t, s, k1, rfl, R, P, tk, S' ++ [n], hR.adv ad1, pre, hk1.2.2, hts, ⟨kvs, hkv1, hval, hks⟩, hS1, good, nS1, sP1, by rw [List.length_append, List.length_singleton]; omega, fun H2 tk1 a2 hT2 st => ?_, fun H2 S2 a2 hS2 nS2 sP2 sf => ?_⟩
        · obtain ⟨kvs2, hkv2, hval2, hks2⟩ := hT2
          have hsm2 := TkAt.small hks2 pre.few
          walk_at "aw"
          show kDPut (.ref t) (.int n) _ _ _
          refine kDPut_i (k := Sum.inl n) hkv2 (by omega) ?_
          walk_at "aw"
          refine qT _ _ (((ad1.mono (fun b hb => List.mem_cons_of_mem _ hb)).trans a2).trans ((Adv.dct hkv2).mono fun b hb => by rw [List.mem_singleton.mp hb]; exact List.mem_cons_self ..)) (TkAt.put hval2 hks2 hnP) (SeatT.on pre.nP hnr hnP hk nSn (fun u hu => List.mem_append_left _ (mid.sub u hu)) (List.mem_append_right _ (List.mem_singleton.mpr rfl)) htk st)
        · walk_at "aw"
          refine ⟨_, S2, rfl, ad1.trans a2, hS2, nS2, sP2, ?_⟩
          rw [etake]
          exact mid.more (S1 := S' ++ [n]) (fun u => by simp) htk sf
  · obtain ⟨y4, S', rfl, ad, hS', nS', sP', mid⟩ := pv
    rw [List.length_map, List.take_length] at mid
    walk_at "aw"
    exact qF H' S' ad hS' nS' sP' ⟨mid.sub, mid.own, mid.cls⟩
end AW
namespace AW
open PySem PySem.Spec PyProof.Rows L2 RZ
local macro_rules | `(tactic| walk_at "aw1") => `(tactic| first
  | (with_reducible refine w_seq ?_) | (with_reducible refine w_asg ?_) | (with_reducible refine w_gname ?_) | (with_reducible refine w_op ?_) | (with_reducible refine w_un ?_)
  | ((with_reducible refine' w_var ?h ?_); (case h => rfl)) | (with_reducible refine w_c ?_)
  | (with_reducible refine w_I0 ?_) | (with_reducible refine w_U ?_) | (with_reducible refine w_cb ?_) | (with_reducible refine w_nil ?_) | (with_reducible refine w_cons ?_) | (with_reducible refine w_call ?_)
  | (with_reducible refine w_test ?_) | (with_reducible refine w_B ?_) | (with_reducible refine w_bl ?_) | (with_reducible refine w_not ?_) | (with_reducible refine w_yes ?_) | (with_reducible refine iteT ?_) | (with_reducible refine w_nT ?_) | (with_reducible refine w_nF ?_) | (with_reducible refine iteF ?_) | (with_reducible refine w_and ?_) | (with_reducible refine w_or ?_)
  | (with_reducible refine w_andV ?_) | (with_reducible refine w_orV ?_) | (with_reducible refine w_notV ?_) | (with_reducible refine w_if ?_)
  | (with_reducible refine w_int1 ?_) | (with_reducible refine w_int1b ?_) | (with_reducible refine w_abs ?_) | (with_reducible refine w_max2 ?_) | (with_reducible refine w_min2 ?_)
  | ((with_reducible refine w_eq ?h ?_); (case h => rfl)) | ((with_reducible refine w_ne ?h ?_); (case h => rfl)) | (with_reducible refine w_isN ?_) | (with_reducible refine w_isB ?_) | (with_reducible refine w_chain ?_)
  | (with_reducible refine w_ret ?_) | (with_reducible refine w_drop ?_) | (with_reducible refine w_ifS ?_) | (with_reducible refine w_gsub ?_) | (with_reducible refine w_augS ?_) | (with_reducible refine w_ipI ?_) | (with_reducible refine w_next ?_)
  | (with_reducible refine w_forR ?_) | (with_reducible refine w_forR2 ?_) | (with_reducible refine w_forL ?_) | (with_reducible refine w_forT ?_) | (with_reducible refine w_lcR ?_) | (with_reducible refine w_lcL ?_) | (with_reducible refine w_lcT ?_) | (with_reducible refine w_sl ?_) | (with_reducible refine w_part ?_) | (with_reducible refine w_noPart ?_) | (with_reducible refine w_in ?_)
  | (with_reducible refine w_lcE ?_) | (with_reducible refine w_dn ?_) | (with_reducible refine w_notN ?_) | (with_reducible refine w_gcons ?_) | (with_reducible refine w_gnil ?_) | (with_reducible refine w_lc3 ?_) | (with_reducible refine w_dcZ ?_) | (with_reducible refine w_dcT ?_) | (with_reducible refine w_dg ?_) | (with_reducible refine w_callK ?_) | (with_reducible refine w_dput ?_) | (with_reducible refine w_tup1 ?_)
  | (with_reducible refine w_tup ?_) | (with_reducible refine w_lst ?_)
  | ((with_reducible refine w_I ?h ?_); (case h => first | (exact Or.inr ⟨by decide, by decide⟩) | (exact Or.inl ⟨by decide, by decide⟩) | (show (0 : Int) < _; decide) | (exact ⟨by decide, by decide, by decide⟩) | assumption)))
local macro_rules | `(tactic| walk_at "aw") => `(tactic| repeat (walk_at "aw1"))
def t__law_most (K : PySem.W.Frag) : TS := (tSeq (tAsg tDNewK (gName 1))
  (tRet (tCB (rLen1 K) (tCons (tLc (iRng1 (tCons (tCB (rLen1 K) (tCons (tVar 0) tNil)) tNil)) (gName 2) (tB (tCall (sp__law_seat K 41) [] E0 (tCons (tVar 0) (tCons (tVar 1) (tCons (tVar 2) (tCons tDNewK tNil)))))) (tVar 2) [2]) tNil))))
theorem len__law_most {K : PySem.W.Frag} : ∀ (vs : List V) (H : Hp) (Q : VK) (E : XK), sp__law_most K vs H Q E → vs.length = 1 := fun vs H Q E h => by
  obtain ⟨_, rfl, _⟩ := h
  rfl
theorem same_zero {R : List (List Int)} {P : List Int} : SameRows R P (fun _ => none) (greatTo R 0) := by
  have h0 : ∀ r, cntT P (fun _ => none) r = 0 := fun r => by
    unfold cntT
    rw [List.countP_eq_zero]
    simp
  refine ⟨⟨fun v r h => by cases h⟩, fun r => by rw [h0]; omega, fun r => ?_⟩
  rw [h0]
  refine ⟨fun h => by omega, fun ⟨v, e⟩ => ?_⟩
  simp [greatTo, List.getElem?_replicate] at e
theorem pure__law_most {K : PySem.W.Frag} (vs : List V) (H : Hp) (Q : VK) (E : XK) (h : sp__law_most K vs H Q E) : t__law_most K { nx := fun _ H' => Q .non H', rt := Q } (start ["rows", "taken", "k"] vs) H := by
  obtain ⟨a, rfl, R, P, hR, pre, q⟩ := h
  show t__law_most K _ [some (.ref a), none, none] H
  obtain ⟨xs, hxs, hxl⟩ := hR.tup
  have hn := pre.hi
  unfold t__law_most
  walk_at "aw"
  refine w_dnew fun t H1 nt a1 et => ?_
  walk_at "aw"
  refine w_lenT (SqT.of (a1.tup _ _ hxs)) ?_
  walk_at "aw"
  rw [hxl]
  refine ⟨(R.length : Nat), rfl, by omega, by omega, ?_⟩
  rw [show ((R.length : Nat) : Int).toNat = R.length by omega]
  intro D hD
  have hD0 : H D = none := a1.free (fun z => nomatch z) hD
  have hDt : D ≠ t := (ne_of_none et hD).symm
  refine lc_it walk_range (fun i H' => i ≤ R.length ∧ Adv [] H H' ∧ ∃ tk acc, TkAt H' t tk P ∧ SameRows R P tk (greatTo R i) ∧ H' D = some (.lst acc) ∧ acc.length = usedN (greatTo R i)) ?_ (fun _ _ _ _ => trivial) (fun i x H2 H' hi pv y => ?_) fun H' pv => ?_
  · refine ⟨Nat.zero_le _, a1.trans (Adv.new hD), fun _ => none, [], ⟨[], by rw [upd_ne hDt.symm]; exact et, fun v => rfl, [], rfl, List.nodup_nil, fun x h => nomatch h⟩, same_zero, upd_same, by rw [used_zero]; rfl⟩
  · obtain ⟨_, ad, tk, acc, hT, same, eD, hacc⟩ := pv
    obtain ⟨rfl, rfl⟩ := y
    have gi := ginv pre.asc i (by omega)
    have hki := gi.rest i (Nat.le_refl _) hi
    have nrow := lt_nodup (pre.asc.row i)
    have us := used_step pre.asc hi
    have hacc2 := (used_le pre.asc i (by omega)).1
    show gName 2 (.int ((0 : Int) + (i : Nat))) _ _ _
    rw [Int.zero_add]
    walk_at "aw"
    refine ⟨rfl, ?_⟩
    walk_at "aw"
    refine w_dnew fun s H3 ns a3 es => ?_
    walk_at "aw"
    obtain ⟨kvs, hkv, hval, hks⟩ := hT
    have hts : t ≠ s := ne_of_none hkv ns
    have ns0 : H s = none := ad.free (fun z => nomatch z) ns
    have hDs : D ≠ s := ne_of_none eD ns
    have eD3 := a3.keep _ _ (fun z => nomatch z) eD
    have ad3 := ad.trans a3
    refine ⟨a, t, s, i, rfl, R, P, tk, [], hR.adv ad3, pre, hi, hts, ⟨kvs, a3.keep _ _ (fun z => nomatch z) hkv, hval, hks⟩, es, same.good, List.nodup_nil, fun v h => (nomatch h), by have := pre.few; simp only [List.length_nil]; omega, fun H4 tk' a4 hT4 st => ?_, fun H4 S' a4 hS4 nS4 sP4 sf => ?_⟩
    · have hy := same.yes gi.val hki nrow st
      walk_at "aw"
      have eD4 := a4.keep _ _ (fun z => by
        rcases List.mem_cons.mp z with z | z
        · exact hDt z
        · exact hDs (List.mem_singleton.mp z)) eD3
      have ad4 : Adv [] H H4 := ((ad3.any (S := [t, s])).trans a4).drop nt |>.drop ns0
      refine ⟨acc, eD4, Nat.lt_of_lt_of_le (show acc.length < 100001 by omega) (by decide), by omega, ad4.mut hD0 eD4 (fun _ z => by cases z), tk', acc ++ [.int (i : Nat)], ?_, ?_, upd_same, ?_⟩
      · obtain ⟨kvs4, h1, h2⟩ := hT4
        exact ⟨kvs4, by rw [upd_ne hDt.symm]; exact h1, h2⟩
      · exact hy.2
      · rw [us, if_pos hy.1, List.length_append, hacc]
        rfl
    · obtain ⟨full, e1, e2⟩ := same.no gi.val hki nrow pre.nP (pre.pool i) pre.pool sf
      walk_at "aw"
      have eD4 := a4.keep _ _ (fun z => hDs (List.mem_singleton.mp z)) eD3
      have ad4 : Adv [] H H4 := ((ad3.any (S := [s])).trans a4).drop ns0
      refine ⟨by omega, ad4, tk, acc, ⟨kvs, a4.keep _ _ (fun z => hts (List.mem_singleton.mp z)) (a3.keep _ _ (fun z => nomatch z) hkv), hval, hks⟩, ?_, eD4, ?_⟩
      · show SameRows R P tk (place R (greatTo R i) i).1
        rw [e2]
        exact same
      · rw [us, if_neg (by rw [e1]; simp)]
        exact hacc
  · obtain ⟨_, ad, tk, acc, hT, same, eD, hacc⟩ := pv
    walk_at "aw"
    refine w_lenL (SqL.of eD) ?_
    walk_at "aw"
    rw [hacc]
    exact q H' ad
end AW
namespace AW
open PySem PySem.Spec PyProof.Rows L2 RZ
local macro_rules | `(tactic| walk_at "aw1") => `(tactic| first
  | (with_reducible refine w_seq ?_) | (with_reducible refine w_asg ?_) | (with_reducible refine w_gname ?_) | (with_reducible refine w_op ?_) | (with_reducible refine w_un ?_)
  | ((with_reducible refine' w_var ?h ?_); (case h => rfl)) | (with_reducible refine w_c ?_)
  | (with_reducible refine w_I0 ?_) | (with_reducible refine w_U ?_) | (with_reducible refine w_cb ?_) | (with_reducible refine w_nil ?_) | (with_reducible refine w_cons ?_) | (with_reducible refine w_call ?_)
  | (with_reducible refine w_test ?_) | (with_reducible refine w_B ?_) | (with_reducible refine w_bl ?_) | (with_reducible refine w_not ?_) | (with_reducible refine w_yes ?_) | (with_reducible refine iteT ?_) | (with_reducible refine w_nT ?_) | (with_reducible refine w_nF ?_) | (with_reducible refine iteF ?_) | (with_reducible refine w_and ?_) | (with_reducible refine w_or ?_)
  | (with_reducible refine w_andV ?_) | (with_reducible refine w_orV ?_) | (with_reducible refine w_notV ?_) | (with_reducible refine w_if ?_)
  | (with_reducible refine w_int1 ?_) | (with_reducible refine w_int1b ?_) | (with_reducible refine w_abs ?_) | (with_reducible refine w_max2 ?_) | (with_reducible refine w_min2 ?_)
  | ((with_reducible refine w_eq ?h ?_); (case h => rfl)) | ((with_reducible refine w_ne ?h ?_); (case h => rfl)) | (with_reducible refine w_isN ?_) | (with_reducible refine w_isB ?_) | (with_reducible refine w_chain ?_)
  | (with_reducible refine w_ret ?_) | (with_reducible refine w_drop ?_) | (with_reducible refine w_ifS ?_) | (with_reducible refine w_gsub ?_) | (with_reducible refine w_augS ?_) | (with_reducible refine w_ipI ?_) | (with_reducible refine w_next ?_)
  | (with_reducible refine w_forR ?_) | (with_reducible refine w_forR2 ?_) | (with_reducible refine w_forL ?_) | (with_reducible refine w_forT ?_) | (with_reducible refine w_lcR ?_) | (with_reducible refine w_lcL ?_) | (with_reducible refine w_lcT ?_) | (with_reducible refine w_sl ?_) | (with_reducible refine w_part ?_) | (with_reducible refine w_noPart ?_) | (with_reducible refine w_in ?_)
  | (with_reducible refine w_lcE ?_) | (with_reducible refine w_dn ?_) | (with_reducible refine w_notN ?_) | (with_reducible refine w_gcons ?_) | (with_reducible refine w_gnil ?_) | (with_reducible refine w_lc3 ?_) | (with_reducible refine w_dcZ ?_) | (with_reducible refine w_dcT ?_) | (with_reducible refine w_dg ?_) | (with_reducible refine w_callK ?_) | (with_reducible refine w_dput ?_) | (with_reducible refine w_tup1 ?_)
  | (with_reducible refine w_tup ?_) | (with_reducible refine w_lst ?_)
  | ((with_reducible refine w_I ?h ?_); (case h => first | (exact Or.inr ⟨by decide, by decide⟩) | (exact Or.inl ⟨by decide, by decide⟩) | (show (0 : Int) < _; decide) | (exact ⟨by decide, by decide, by decide⟩) | assumption)))
local macro_rules | `(tactic| walk_at "aw") => `(tactic| repeat (walk_at "aw1"))
/-! ### the law's rows -/
def sp__law_rows (K : PySem.W.Frag) : Sp := fun vs H Q _ => ∃ (st : Addr), vs = [.ref st] ∧ ∃ cs, StOk st cs H ∧ ∀ a R P H', RowsAt H' a R → RowsPre R P → Go st cs H H' → Q (.ref a) H'
def t__law_rows (K : PySem.W.Frag) : TS := (tSeq (tAsg (tOp (rIxL K) (tLst (tCons (tC (.int 1)) (tCons (tC (.int 2)) (tCons (tC (.int 3)) (tCons (tC (.int 5)) (tCons (tC (.int 8)) (tCons (tC (.int 12)) (tCons (tC (.int 24)) (tCons (tOp rAddI (tC (.int 1)) (tCall (sp__law_draw K) [] E0 (tCons (tVar 0) (tCons (tC (.int 24)) tNil)))) tNil))))))))) (tCall (sp__law_draw K) [] E0 (tCons (tVar 0) (tCons (tC (.int 8)) tNil)))) (gName 1))
  (tSeq (tAsg (tCall (sp__law_draw K) [] E0 (tCons (tVar 0) (tCons (tC (.int 5)) tNil))) (gName 2))
  (tSeq (tAsg (tOp (rIxL K) (tLst (tCons (tCB rMax2 (tCons (tC (.int 1)) (tCons (tOp rSubI (tVar 1) (tC (.int 1))) tNil))) (tCons (tVar 1) (tCons (tOp rAddI (tVar 1) (tC (.int 1))) (tCons (tOp rAddI (tVar 1) (tC (.int 9))) (tCons (tC (.int 2)) (tCons (tC (.int 40)) tNil))))))) (tCall (sp__law_draw K) [] E0 (tCons (tVar 0) (tCons (tC (.int 6)) tNil)))) (gName 3))
  (tSeq (tAsg (tOp (rIxL K) (tLst (tCons (tC (.int 1)) (tCons (tC (.int 1)) (tCons (tC (.int 1)) (tCons (tC (.int 7)) (tCons (tUn rNeg (tC (.int 3))) (tCons (tOp rPowI (tC (.int 10)) (tC (.int 27))) tNil))))))) (tCall (sp__law_draw K) [] E0 (tCons (tVar 0) (tCons (tC (.int 6)) tNil)))) (gName 4))
  (tSeq (tAsg (tLc (iRng1 (tCons (tVar 3) tNil)) (gName 6) tYes (tOp rMulI (tVar 4) (tOp rSubI (tVar 6) (tOp rDivI (tVar 3) (tC (.int 2))))) [6]) (gName 5))
  (tSeq (tAsg (tOp (rIxL K) (tLst (tCons (tC (.int 1)) (tCons (tC (.int 2)) (tCons (tC (.int 3)) (tCons (tC (.int 5)) (tCons (tVar 3) tNil)))))) (tCall (sp__law_draw K) [] E0 (tCons (tVar 0) (tCons (tC (.int 5)) tNil)))) (gName 7))
  (tSeq (tAsg (tLst tNil) (gName 8))
  (tSeq (tFor (iRng1 (tCons (tVar 1) tNil)) (gName 6)
  (tSeq (tAsg (tCB (rDictP K) (tCons (tLc (iRng1 (tCons (tOp rAddI (tCall (sp__law_draw K) [] E0 (tCons (tVar 0) (tCons (tOp rAddI (tVar 7) (tC (.int 1))) tNil))) (tCB rInt1 (tCons (tOp rLtI (tVar 2) (tC (.int 4))) tNil))) tNil)) (gName 10) tYes (tTup (tCons (tCall (sp__law_pick K) [] E0 (tCons (tVar 0) (tCons (tVar 5) tNil))) (tCons (tC (.int 1)) tNil))) [10]) tNil)) (gName 9))
  (tSeq (tIfS (tTest (tOp rEq (tVar 2) (tC (.int 0)))) (sDPut (tVar 9) (tOp (rIxL K) (tVar 5) (tOp rModI (tCB rInt1 (tCons (tVar 6) tNil)) (tVar 3))) (tC (.int 1))) tNext)
  (tSeq (tIfS (tAnd (tTest (tOp rEq (tVar 2) (tC (.int 1)))) (tTest (tOp rLtI (tVar 6) (tOp rAddI (tOp rDivI (tVar 1) (tC (.int 2))) (tC (.int 1)))))) (tAsg (tCB (rDictP K) (tCons (tLc (iRng1 (tCons (tOp rAddI (tC (.int 1)) (tCall (sp__law_draw K) [] E0 (tCons (tVar 0) (tCons (tC (.int 4)) tNil)))) tNil)) (gName 10) tYes (tTup (tCons (tCall (sp__law_pick K) [] E0 (tCons (tVar 0) (tCons (tSl (rSlL K) (tVar 5) tNoPart (tPart (tCB rMax2 (tCons (tC (.int 1)) (tCons (tOp rDivI (tVar 1) (tC (.int 2))) tNil))))) tNil))) (tCons (tC (.int 1)) tNil))) [10]) tNil)) (gName 9)) tNext)
  (tSeq (tIfS (tAnd (tTest (tOp rEq (tVar 2) (tC (.int 2)))) (tTest (tOp rEq (tCall (sp__law_draw K) [] E0 (tCons (tVar 0) (tCons (tC (.int 8)) tNil))) (tC (.int 0))))) (tAsg (tCB (rDictP K) (tCons (tLc (iList K (tVar 5)) (gName 11) tYes (tTup (tCons (tVar 11) (tCons (tC (.int 1)) tNil))) [11]) tNil)) (gName 9)) tNext)
  (tDrop (tBM K "list" rAppend (tVar 8) (tCons (tThen (tCB rSortDI (tCons (tVar 9) tNil)) (kTup K)) tNil))))))))
  (tRet (tThen (tCall (sp__law_shuffled K) [] E0 (tCons (tVar 0) (tCons (tVar 8) tNil))) (kTup K)))))))))))
theorem w_ifJ {c : TT} {A B : TS} {D : Ends} {σ : L2.St} {H : Hp} (R : L2.St → Hp → Prop) (h1 : ∀ D' : Ends, (∀ σ' H', R σ' H' → D'.nx σ' H') → tIfS c A B D' σ H) (h2 : ∀ σ' H', R σ' H' → D.nx σ' H') : tIfS c A B D σ H := h1 D h2
def PV (H : Hp) (v : V) (n : Int) : Prop := ∃ q : Addr, v = .ref q ∧ H q = some (.tup [.int n, .int 1])
theorem pairs_of {H : Hp} : ∀ (ys : List V) (C : Nat → Int → Prop), (∀ (i : Nat) v, ys[i]? = some v → ∃ n, PV H v n ∧ C i n) → ∃ ns, Paired (PV H) ys ns ∧ ∀ (i : Nat) n, ns[i]? = some n → C i n
  | [], C, _ => ⟨[], .nil, fun i n e => by simp at e⟩
  | y :: ys, C, h => by
    obtain ⟨n, h1, h2⟩ := h 0 y rfl
    obtain ⟨ns, h3, h4⟩ := pairs_of ys (fun i => C (i + 1)) fun i v e => h (i + 1) v (by simpa using e)
    refine ⟨n :: ns, .cons h1 h3, fun i m e => ?_⟩
    cases i with
    | zero =>
      simp at e
      exact e ▸ h2
    | succ i => exact h4 i m (by simpa using e)
theorem pairs_addr {K : PySem.W.Frag} {H : Hp} : ∀ {ys : List V} {ns : List Int}, Paired (PV H) ys ns → ∃ ps : List Addr, ys = ps.map V.ref ∧ Paired (fun p kv => SqT K H p [kV kv.1, kv.2]) ps (ns.map fun n => ((Sum.inl n : Key), V.int 1))
  | _, _, .nil => ⟨[], rfl, .nil⟩
  | _, _, .cons ⟨q, e, h⟩ t => by
    obtain ⟨ps, e1, h1⟩ := pairs_addr (K := K) t
    exact ⟨q :: ps, by rw [e, e1]; rfl, .cons (SqT.of h) h1⟩
def oneK (ns : List Int) : List (Key × V) := ns.map fun n => (Sum.inl n, .int 1)
theorem w_dictP {K : PySem.W.Frag} {H : Hp} {Q : VK} {p : Addr} {ys : List V} {ns : List Int} (h : H p = some (.lst ys)) (hp : Paired (PV H) ys ns) (q : ∀ d H', H d = none → Adv [] H H' → H' d = some (.dK (mergeK [] (oneK ns))) → Q (.ref d) H') : rDictP K [.ref p] H Q := by
  obtain ⟨ps, rfl, h1⟩ := pairs_addr (K := K) hp
  exact ⟨p, ps, oneK ns, rfl, SqL.of h, h1, w_new q⟩
def DictIn (H : Hp) (d : Addr) (P : List Int) : Prop := ∃ (kvs : List (Key × V)) (ks : List Int), H d = some (.dK kvs) ∧ kvs.map (·.1) = ks.map (fun n => (Sum.inl n : Key)) ∧ ks.Nodup ∧ ∀ x ∈ ks, x ∈ P
theorem keys_merge {P : List Int} : ∀ (ns : List Int) (kvs : List (Key × V)) (ks : List Int), kvs.map (·.1) = ks.map (fun n => (Sum.inl n : Key)) → ks.Nodup → (∀ x ∈ ks, x ∈ P) → (∀ n ∈ ns, n ∈ P) →
    ∃ ks' : List Int, (mergeK kvs (oneK ns)).map (·.1) = ks'.map (fun n => (Sum.inl n : Key)) ∧ ks'.Nodup ∧ ∀ x ∈ ks', x ∈ P
  | [], kvs, ks, e, nd, hs, _ => ⟨ks, e, nd, hs⟩
  | n :: ns, kvs, ks, e, nd, hs, hn => by
    have e1 := dict_keys_put (v := n) (x := .int 1) e
    refine keys_merge ns (putK kvs (Sum.inl n) (.int 1)) _ e1 ?_ (fun x hx => ?_) fun m hm => hn m (List.mem_cons_of_mem _ hm)
    · split
      · exact nd
      · rename_i h
        rw [List.nodup_append]
        exact ⟨nd, by simp, fun a ha b hb => by rw [List.mem_singleton.mp hb]; exact fun z => h (z ▸ ha)⟩
    · split at hx
      · exact hs x hx
      · rcases List.mem_append.mp hx with hx | hx
        · exact hs x hx
        · rw [List.mem_singleton.mp hx]
          exact hn n (List.mem_cons_self ..)
theorem DictIn.new {H : Hp} {d : Addr} {P ns : List Int} (h : H d = some (.dK (mergeK [] (oneK ns)))) (hn : ∀ n ∈ ns, n ∈ P) : DictIn H d P := by
  obtain ⟨ks, h1, h2, h3⟩ := keys_merge (P := P) ns [] [] rfl List.nodup_nil (fun x h => nomatch h) hn
  exact ⟨_, ks, h, h1, h2, h3⟩
theorem DictIn.put {H : Hp} {d : Addr} {P : List Int} {kvs : List (Key × V)} {ks : List Int} {n : Int} {x : V} (e : kvs.map (·.1) = ks.map (fun n => (Sum.inl n : Key))) (nd : ks.Nodup) (hs : ∀ x ∈ ks, x ∈ P) (hn : n ∈ P) : DictIn (upd H d (.dK (putK kvs (Sum.inl n) x))) d P := by
  refine ⟨_, _, upd_same, dict_keys_put e, ?_, fun y hy => ?_⟩
  · split
    · exact nd
    · rename_i h
      rw [List.nodup_append]
      exact ⟨nd, by simp, fun a ha b hb => by rw [List.mem_singleton.mp hb]; exact fun z => h (z ▸ ha)⟩
  · split at hy
    · exact hs y hy
    · rcases List.mem_append.mp hy with hy | hy
      · exact hs y hy
      · rw [List.mem_singleton.mp hy]
        exact hn
theorem DictIn.go {st cs : Addr} {H H' : Hp} {d : Addr} {P : List Int} (h : DictIn H d P) (ok : StOk st cs H) (g : Go st cs H H') : DictIn H' d P := by
  obtain ⟨kvs, ks, h1, h2⟩ := h
  obtain ⟨_, _, _, _, _, h3, _⟩ := ok
  exact ⟨kvs, ks, g.keep (ne_of h1 h3 fun z => by cases z) h1, h2⟩
def RowV (P : List Int) (H : Hp) (v : V) : Prop := ∃ (b : Addr) (r : List Int), v = .ref b ∧ H b = some (.tup (r.map V.int)) ∧ r.Pairwise (· < ·) ∧ ∀ x ∈ r, x ∈ P
theorem RowV.up {P : List Int} {H H' : Hp} {v : V} (h : RowV P H v) (k : TK H H') : RowV P H' v := by
  obtain ⟨b, r, e, h1, h2⟩ := h
  exact ⟨b, r, e, k _ _ h1, h2⟩
theorem rows_of {P : List Int} {H : Hp} : ∀ (ys : List V), (∀ v ∈ ys, RowV P H v) → ∃ (bs : List Addr) (R : List (List Int)), ys = bs.map V.ref ∧ bs.length = R.length ∧ R.length = ys.length ∧ (∀ (i : Nat) r, R[i]? = some r → ∃ b, bs[i]? = some b ∧ H b = some (.tup (r.map V.int))) ∧ ∀ r ∈ R, r.Pairwise (· < ·) ∧ ∀ x ∈ r, x ∈ P
  | [], _ => ⟨[], [], rfl, rfl, rfl, fun i r e => by simp at e, fun r h => nomatch h⟩
  | y :: ys, h => by
    obtain ⟨b, r, e, h1, h2, h3⟩ := h y (List.mem_cons_self ..)
    obtain ⟨bs, R, e1, e2, e3, h4, h5⟩ := rows_of ys fun v hv => h v (List.mem_cons_of_mem _ hv)
    refine ⟨b :: bs, r :: R, by rw [e, e1]; rfl, by simp [e2], by simp [e3], fun i r' ei => ?_, fun r' hr => ?_⟩
    · cases i with
      | zero =>
        simp at ei
        subst ei
        exact ⟨b, rfl, h1⟩
      | succ i => exact h4 i r' (by simpa using ei)
    · rcases List.mem_cons.mp hr with rfl | hr
      · exact ⟨h2, h3⟩
      · exact h5 r' hr
/-- one of the written things -/
theorem pick_at {xs : List V} {n : Int} (h0 : 0 ≤ n) (h1 : n < xs.length) (C : V → Prop) (h : ∀ v ∈ xs, C v) : ∃ v, atI xs n = some v ∧ C v := by
  obtain ⟨v, hv⟩ := get_some (xs := xs) (i := n.toNat) (by omega)
  exact ⟨v, at_nat h0 hv, h v (List.mem_of_getElem? hv)⟩
/-- in a turn of the rows: the row's dict stands at slot 9 -/
structure RJ (st cs pl rl : Addr) (N W : Nat) (style scale most : Int) (i : Nat) (pool : List Int) (ys : List V) (H0 : Hp) (σ : L2.St) (H' : Hp) : Prop where
  sig : ∃ (d : Addr) (y10 y11 : Option V), σ = [some (.ref st), some (.int (N : Nat)), some (.int style), some (.int (W : Nat)), some (.int scale), some (.ref pl), some (.int (i : Nat)), some (.int most), some (.ref rl), some (.ref d), y10, y11] ∧ DictIn H' d pool
  go : Go st cs H0 H'
  epl : H' pl = some (.lst (pool.map V.int))
  erl : H' rl = some (.lst ys)
  row : ∀ v ∈ ys, RowV pool H' v
/-- what goes on with it, but for the dict -/
structure RK (st cs pl rl : Addr) (pool : List Int) (ys : List V) (H0 H' : Hp) : Prop where
  go : Go st cs H0 H'
  epl : H' pl = some (.lst (pool.map V.int))
  erl : H' rl = some (.lst ys)
  row : ∀ v ∈ ys, RowV pool H' v
theorem RK.on {st cs pl rl : Addr} {pool : List Int} {ys : List V} {H0 H1 H2 : Hp} (k : RK st cs pl rl pool ys H0 H1) (n1 : pl ≠ st) (n2 : rl ≠ st) (g : Go st cs H1 H2) : RK st cs pl rl pool ys H0 H2 :=
  ⟨k.go.trans g, g.keep n1 k.epl, g.keep n2 k.erl, fun v hv => (k.row v hv).up g.tk⟩
theorem RK.new {st cs pl rl : Addr} {pool : List Int} {ys : List V} {H0 H1 H2 : Hp} (k : RK st cs pl rl pool ys H0 H1) (n1 : pl ≠ st) (n2 : rl ≠ st) (a : Adv [] H1 H2) : RK st cs pl rl pool ys H0 H2 := k.on n1 n2 (.of k.go.ok a)
theorem RJ.rk {st cs pl rl : Addr} {N W : Nat} {style scale most : Int} {i : Nat} {pool : List Int} {ys : List V} {H0 : Hp} {σ : L2.St} {H' : Hp} (j : RJ st cs pl rl N W style scale most i pool ys H0 σ H') : RK st cs pl rl pool ys H0 H' := ⟨j.go, j.epl, j.erl, j.row⟩
theorem RK.rj {st cs pl rl : Addr} {N W : Nat} {style scale most : Int} {i : Nat} {pool : List Int} {ys : List V} {H0 : Hp} {σ : L2.St} {H' : Hp} (k : RK st cs pl rl pool ys H0 H')
    (h : ∃ (d : Addr) (y10 y11 : Option V), σ = [some (.ref st), some (.int (N : Nat)), some (.int style), some (.int (W : Nat)), some (.int scale), some (.ref pl), some (.int (i : Nat)), some (.int most), some (.ref rl), some (.ref d), y10, y11] ∧ DictIn H' d pool) : RJ st cs pl rl N W style scale most i pool ys H0 σ H' := ⟨h, k.go, k.epl, k.erl, k.row⟩
/-- dict([(pick(flow, things), 1) for j in range(M)]) -/
theorem w_picks {K : PySem.W.Frag} {st cs : Addr} {H : Hp} {σ : L2.St} {M : Nat} {P : List Int} {te : TE} {Q : VK} (ok : StOk st cs H) (hM : M ≤ 1000) (vs : List Nat) {g : TG}
    (step : ∀ i H1 (Kt : V → Hp → Prop), i < M → Go st cs H H1 → (∀ n H4, n ∈ P → Go st cs H1 H4 → kTupD [.int n, .int 1] H4 Kt) → g (.int (i : Nat)) (wipe σ vs) H1 fun σ2 H2 => wipe σ2 vs = wipe σ vs ∧ te σ2 H2 Kt)
    (k : ∀ d H', H d = none → Go st cs H H' → DictIn H' d P → Q (.ref d) H') : kLcR g tYes te vs σ (fun x H1 => tNil σ H1 fun xs H2 => rDictP K (x :: xs) H2 Q) [.int (M : Nat)] H := by
  refine kLcR_all (n := M) (by omega) ok (fun _ v H => ∃ n, PV H v n ∧ n ∈ P) (fun _ v H H' k ⟨n, ⟨q, e, h⟩, hn⟩ => ⟨n, ⟨q, e, k _ _ h⟩, hn⟩) (fun i H1 Kt hi g1 kt => ?_) fun p H1 ys np g1 e1 _ hys => ?_
  · refine step i H1 Kt hi g1 fun n H4 hn g4 => ?_
    exact w_tupD (by simp) fun q H5 nq a5 e5 => kt _ H5 (g4.new a5) ⟨n, ⟨q, rfl, e5⟩, hn⟩
  · obtain ⟨ns, hp, hn⟩ := pairs_of ys (fun _ n => n ∈ P) fun i v e => hys i v e
    refine w_dictP e1 hp fun d H2 nd a2 e2 => k d H2 (g1.free ok nd) (g1.new a2) (DictIn.new e2 fun n hm => ?_)
    obtain ⟨i, hi⟩ := List.getElem?_of_mem hm
    exact hn i n hi
theorem len__law_rows {K : PySem.W.Frag} : ∀ (vs : List V) (H : Hp) (Q : VK) (E : XK), sp__law_rows K vs H Q E → vs.length = 1 := fun vs H Q E h => by
  obtain ⟨_, rfl, _⟩ := h
  rfl
theorem pure__law_rows {K : PySem.W.Frag} (vs : List V) (H : Hp) (Q : VK) (E : XK) (h : sp__law_rows K vs H Q E) : t__law_rows K { nx := fun _ H' => Q .non H', rt := Q } (start ["flow", "many", "style", "wide", "scale", "pool", "k", "most", "rows", "row", "j", "v"] vs) H := by
  obtain ⟨st, rfl, cs, ok, q⟩ := h
  show t__law_rows K _ [some (.ref st), none, none, none, none, none, none, none, none, none, none, none] H
  unfold t__law_rows
  walk_at "aw"
  refine ⟨st, _, rfl, cs, ok, by omega, by omega, fun n1 H1 h10 h11 g1 => ?_⟩
  walk_at "aw"
  refine w_lstD (by simp) fun p2 H2 _ a2 e2 => ?_
  have g2 := g1.new a2
  walk_at "aw"
  refine ⟨st, _, rfl, cs, g2.ok, by omega, by omega, fun n3 H3 h30 h31 g3 => ?_⟩
  obtain ⟨v, hv, many, rfl, hm1, hm2⟩ := pick_at h30 (xs := [.int 1, .int 2, .int 3, .int 5, .int 8, .int 12, .int 24, .int (1 + n1)]) (by simpa using h31) (fun v => ∃ many : Int, v = .int many ∧ 1 ≤ many ∧ many ≤ 24) (fun v hv => by
    simp at hv
    rcases hv with rfl | rfl | rfl | rfl | rfl | rfl | rfl | rfl <;> exact ⟨_, rfl, by omega, by omega⟩)
  refine w_ixL (SqL.of (g3.keep ((ok.ne (g1.free ok ‹_›)).1) e2)) hv ?_
  have g := g2.trans g3
  clear e2 a2 hv
  walk_at "aw"
  refine ⟨st, _, rfl, cs, g.ok, by omega, by omega, fun style H4 h40 h41 g4 => ?_⟩
  have g := g.trans g4
  walk_at "aw"
  refine w_lstD (by simp) fun p5 H5 np5 a5 e5 => ?_
  have g0 := g
  have g := g.new a5
  walk_at "aw"
  refine ⟨st, _, rfl, cs, g.ok, by omega, by omega, fun n6 H6 h60 h61 g6 => ?_⟩
  obtain ⟨v, hv, wide, rfl, hw1, hw2⟩ := pick_at h60 (xs := [.int (if many - 1 > 1 then many - 1 else 1), .int many, .int (many + 1), .int (many + 9), .int 2, .int 40]) (by simpa using h61) (fun v => ∃ wide : Int, v = .int wide ∧ 1 ≤ wide ∧ wide ≤ 40) (fun v hv => by
    simp at hv
    rcases hv with rfl | rfl | rfl | rfl | rfl | rfl
    · exact ⟨_, rfl, by split <;> omega, by split <;> omega⟩
    all_goals exact ⟨_, rfl, by omega, by omega⟩)
  refine w_ixL (SqL.of (g6.keep ((ok.ne (g0.free ok np5)).1) e5)) hv ?_
  have g := g.trans g6
  clear e5 a5 hv g0 np5
  walk_at "aw"
  refine w_lstD (by simp) fun p7 H7 np7 a7 e7 => ?_
  have g0 := g
  have g := g.new a7
  walk_at "aw"
  refine ⟨st, _, rfl, cs, g.ok, by omega, by omega, fun n8 H8 h80 h81 g8 => ?_⟩
  obtain ⟨v, hv, scale, rfl, hsc⟩ := pick_at h80 (xs := [.int 1, .int 1, .int 1, .int 7, .int (-3), .int ((10 : Int) ^ (27 : Int).toNat)]) (by simpa using h81) (fun v => ∃ scale : Int, v = .int scale ∧ scale ≠ 0) (fun v hv => by
    simp at hv
    rcases hv with rfl | rfl | rfl | rfl
    · exact ⟨_, rfl, by decide⟩
    · exact ⟨_, rfl, by decide⟩
    · exact ⟨_, rfl, by decide⟩
    · exact ⟨_, rfl, by decide⟩)
  refine w_ixL (SqL.of (g8.keep ((ok.ne (g0.free ok np7)).1) e7)) hv ?_
  have g := g.trans g8
  clear e7 a7 hv g0 np7
  -- the pool
  obtain ⟨W, hW⟩ : ∃ W : Nat, wide = W := ⟨wide.toNat, by omega⟩
  subst hW
  walk_at "aw"
  refine kLcR_pure (n := W) (by omega) (fun _ => true) (fun i => .int (scale * ((i : Nat) - (W : Int) / 2))) (fun i H9 Kt Kf hi a9 kt kf => ?_) fun pl H9 npl a9 epl => ?_
  · walk_at "aw"
    refine ⟨rfl, ?_⟩
    walk_at "aw"
    refine w_I ⟨by decide, by decide⟩ ?_
    walk_at "aw"
    refine w_I (.inr ⟨by omega, by omega⟩) ?_
    exact kt rfl _ (.refl _ _)
  have epl2 : ∃ pool : List Int, H9 pl = some (.lst (pool.map V.int)) ∧ pool.length = W ∧ pool.Nodup := by
    refine ⟨(List.range W).map fun i => scale * ((i : Nat) - (W : Int) / 2), ?_, by simp, ?_⟩
    · rw [epl, List.filter_eq_self.mpr (by simp), List.map_map]
      rfl
    · refine nodup_map_on List.nodup_range fun x _ y _ e => ?_
      have := Int.eq_of_mul_eq_mul_left hsc e
      omega
  obtain ⟨pool, epl, lpl, npool⟩ := epl2
  have nplst : pl ≠ st := (ok.ne (g.free ok npl)).1
  have g := g.new a9
  walk_at "aw"
  refine w_lstD (by simp) fun p10 H10 np10 a10 e10 => ?_
  have g0 := g
  have g := g.new a10
  walk_at "aw"
  refine ⟨st, _, rfl, cs, g.ok, by omega, by omega, fun n11 H11 h110 h111 g11 => ?_⟩
  obtain ⟨v, hv, most, rfl, hmo1, hmo2⟩ := pick_at h110 (xs := [.int 1, .int 2, .int 3, .int 5, .int (W : Nat)]) (by simpa using h111) (fun v => ∃ most : Int, v = .int most ∧ 1 ≤ most ∧ most ≤ 40) (fun v hv => by
    simp at hv
    rcases hv with rfl | rfl | rfl | rfl | rfl <;> exact ⟨_, rfl, by omega, by omega⟩)
  refine w_ixL (SqL.of (g11.keep ((ok.ne (g0.free ok np10)).1) e10)) hv ?_
  have epl := g11.keep nplst (a10.keep _ _ (fun z => nomatch z) epl)
  have g := g.trans g11
  clear e10 hv g0
  walk_at "aw"
  refine w_lstD (by simp) fun rl H12 nrl a12 erl => ?_
  have epl := a12.keep _ _ (fun z => nomatch z) epl
  have nrl0 : H rl = none := g.free ok nrl
  have hrlpl : rl ≠ pl := (ne_of_none (by assumption) nrl).symm
  have g := g.new a12
  obtain ⟨N, hN⟩ : ∃ N : Nat, many = N := ⟨many.toNat, by omega⟩
  subst hN
  have nrlst : rl ≠ st := (ok.ne nrl0).1
  walk_at "aw"
  refine kForR_i (n := N) (by omega) (fun i σ H' => ∃ y6 y9 y10 y11 ys, σ = [some (.ref st), some (.int (N : Nat)), some (.int style), some (.int (W : Nat)), some (.int scale), some (.ref pl), y6, some (.int most), some (.ref rl), y9, y10, y11] ∧ Go st cs H H' ∧ H' pl = some (.lst (pool.map V.int)) ∧ H' rl = some (.lst ys) ∧ ys.length = i ∧ ∀ v ∈ ys, RowV pool H' v)
    ⟨_, _, _, _, [], rfl, g, epl, erl, rfl, fun v h => nomatch h⟩ (fun i σ H13 hi pv => ?_) fun σ H13 pv => ?_
  · obtain ⟨y6, y9, y10, y11, ys, rfl, gg, epl, erl, hys, hrow⟩ := pv
    have rk : RK st cs pl rl pool ys H H13 := ⟨gg, epl, erl, hrow⟩
    walk_at "aw"
    refine ⟨st, _, rfl, cs, gg.ok, by omega, by omega, fun n14 H14 h140 h141 g14 => ?_⟩
    have rk := rk.on nplst nrlst g14
    walk_at "aw"
    obtain ⟨M, hM⟩ : ∃ M : Nat, (n14 + if decide (style < 4) = true then 1 else 0) = (M : Nat) := ⟨(n14 + if decide (style < 4) = true then 1 else 0).toNat, by split <;> omega⟩
    rw [hM]
    have hM2 : M ≤ 1000 := by
      have : (if decide (style < 4) = true then (1 : Int) else 0) ≤ 1 := by split <;> decide
      omega
    refine w_picks (P := pool) rk.go.ok hM2 _ (fun j H15 Kt hj g15 kt => ?_) fun d H15 nd g15 hd => ?_
    · walk_at "aw"
      refine ⟨rfl, ?_⟩
      walk_at "aw"
      refine ⟨st, pl, rfl, cs, pool.map V.int, (rk.on nplst nrlst g15).go.ok, .inl ⟨SqL.of (rk.on nplst nrlst g15).epl, nplst⟩, by rw [List.length_map]; omega, by rw [List.length_map]; omega, fun m v H16 hv g16 => ?_⟩
      rw [List.getElem?_map] at hv
      obtain ⟨n, hn, rfl⟩ := Option.map_eq_some_iff.mp hv
      walk_at "aw"
      exact kt n H16 (List.mem_of_getElem? hn) g16
    have nd0 : H d = none := rk.go.free ok nd
    have rk := rk.on nplst nrlst g15
    walk_at "aw1"
    walk_at "aw1"
    with_reducible refine w_ifJ (RJ st cs pl rl N W style scale most i pool ys H) (fun D' hnx => ?_) fun σ1 H16 rj => ?_
    · walk_at "aw"
      refine w_iteB (fun hz => ?_) fun hz => ?_
      · walk_at "aw"
        have hj := Int.emod_nonneg (i : Int) (b := (W : Int)) (by omega)
        have hj2 := Int.emod_lt_of_pos (i : Int) (b := (W : Int)) (by omega)
        generalize (i : Int) % (W : Int) = jj at hj hj2
        have hjl : jj.toNat < pool.length := by omega
        refine w_ixL (SqL.of rk.epl) (v := .int pool[jj.toNat]) (at_nat hj (by rw [List.getElem?_map, List.getElem?_eq_getElem hjl]; rfl)) ?_
        obtain ⟨kvs, ks, e1, e2, e3, e4⟩ := hd
        show kDPut (.ref d) (.int pool[jj.toNat]) _ _ _
        have hkl : kvs.length ≤ 40 := by
          have h1 := congrArg List.length e2
          rw [List.length_map, List.length_map] at h1
          have h2 := len_le_of_sub e3 e4
          omega
        refine kDPut_i (k := Sum.inl pool[jj.toNat]) e1 (by omega) ?_
        have hh := DictIn.put (x := .int 1) (H := H15) (d := d) e2 e3 e4 (n := pool[jj.toNat]) (List.getElem_mem _)
        have g16 := rk.go.mutD (o := .dK (putK kvs (Sum.inl pool[jj.toNat]) (.int 1))) ok nd0 e1
        refine hnx _ _ (RK.rj ⟨g16, ?_, ?_, fun v hv => (rk.row v hv).up (Adv.dct e1).tup⟩ ⟨d, _, _, rfl, hh⟩)
        · rw [upd_ne (ne_of rk.epl e1 fun z => by cases z)]
          exact rk.epl
        · rw [upd_ne (ne_of rk.erl e1 fun z => by cases z)]
          exact rk.erl
      · walk_at "aw"
        exact hnx _ _ (rk.rj ⟨d, _, _, rfl, hd⟩)
    -- the second if
    obtain ⟨⟨d, y10, y11, rfl, hd⟩, gg, epl, erl, hrow⟩ := rj
    have rk : RK st cs pl rl pool ys H H16 := ⟨gg, epl, erl, hrow⟩
    walk_at "aw1"
    with_reducible refine w_ifJ (RJ st cs pl rl N W style scale most i pool ys H) (fun D' hnx => ?_) fun σ1 H17 rj => ?_
    · walk_at "aw"
      refine w_iteB (fun hz => ?_) fun hz => ?_
      · walk_at "aw"
        refine w_I ⟨by decide, by decide⟩ ?_
        walk_at "aw"
        refine w_iteB (fun hz2 => ?_) fun hz2 => ?_
        · walk_at "aw"
          refine ⟨st, _, rfl, cs, rk.go.ok, by omega, by omega, fun n17 H17 h170 h171 g17 => ?_⟩
          have rk := rk.on nplst nrlst g17
          walk_at "aw"
          obtain ⟨M, hM⟩ : ∃ M : Nat, 1 + n17 = (M : Nat) := ⟨(1 + n17).toNat, by omega⟩
          rw [hM]
          refine w_picks (P := pool) rk.go.ok (by omega) _ (fun j H18 Kt hj g18 kt => ?_) fun d H18 nd g18 hd => ?_
          · walk_at "aw"
            refine ⟨rfl, ?_⟩
            have rk := rk.on nplst nrlst g18
            walk_at "aw"
            refine w_I ⟨by decide, by decide⟩ ?_
            walk_at "aw"
            generalize hmx : (if (N : Int) / 2 > 1 then (N : Int) / 2 else 1) = mx
            have hmx1 : 1 ≤ mx := by
              rw [← hmx]
              split <;> omega
            refine w_slL (SqL.of rk.epl) fun sl H19 nsl a19 e19 => ?_
            rw [cut_to _ (by omega), ← List.map_take] at e19
            have rk2 := rk.new nplst nrlst a19
            have nslst : sl ≠ st := (rk.go.ok.ne nsl).1
            walk_at "aw"
            refine ⟨st, sl, rfl, cs, (pool.take mx.toNat).map V.int, rk2.go.ok, .inl ⟨SqL.of e19, nslst⟩, by rw [List.length_map, List.length_take]; omega, by rw [List.length_map, List.length_take]; omega, fun m v H20 hv g20 => ?_⟩
            rw [List.getElem?_map] at hv
            obtain ⟨n, hn, rfl⟩ := Option.map_eq_some_iff.mp hv
            walk_at "aw"
            exact kt n H20 (List.mem_of_mem_take (List.mem_of_getElem? hn)) ((Go.of rk.go.ok a19).trans g20)
          · walk_at "aw1"
            exact hnx _ _ ((rk.on nplst nrlst g18).rj ⟨d, _, _, rfl, hd⟩)
        · walk_at "aw1"
          exact hnx _ _ (rk.rj ⟨d, _, _, rfl, hd⟩)
      · walk_at "aw1"
        exact hnx _ _ (rk.rj ⟨d, _, _, rfl, hd⟩)
    -- the third if
    clear hd rk
    obtain ⟨⟨d, y10, y11, rfl, hd⟩, gg, epl, erl, hrow⟩ := rj
    have rk : RK st cs pl rl pool ys H H17 := ⟨gg, epl, erl, hrow⟩
    walk_at "aw1"
    with_reducible refine w_ifJ (RJ st cs pl rl N W style scale most i pool ys H) (fun D' hnx => ?_) fun σ1 H18 rj => ?_
    · walk_at "aw"
      refine w_iteB (fun hz => ?_) fun hz => ?_
      · walk_at "aw"
        refine ⟨st, _, rfl, cs, rk.go.ok, by omega, by omega, fun n18 H18 h180 h181 g18 => ?_⟩
        have hd := hd.go rk.go.ok g18
        have rk := rk.on nplst nrlst g18
        walk_at "aw"
        refine w_iteB (fun hz2 => ?_) fun hz2 => ?_
        · walk_at "aw"
          refine kLcL_all (SqL.of rk.epl) nplst (by rw [List.length_map]; omega) rk.go.ok (fun _ v H => ∃ n, PV H v n ∧ n ∈ pool) (fun _ v H H' k ⟨n, ⟨q, e, h⟩, hn⟩ => ⟨n, ⟨q, e, k _ _ h⟩, hn⟩) (fun j x H19 Kt hx g19 kt => ?_) fun p H19 zs np g19 e19 _ hzs => ?_
          · rw [List.getElem?_map] at hx
            obtain ⟨n, hn, rfl⟩ := Option.map_eq_some_iff.mp hx
            walk_at "aw"
            refine ⟨rfl, ?_⟩
            walk_at "aw"
            exact w_tupD (by simp) fun q H20 nq a20 e20 => kt _ H20 (.of (rk.on nplst nrlst g19).go.ok a20) ⟨n, ⟨q, rfl, e20⟩, List.mem_of_getElem? hn⟩
          · obtain ⟨ns, hp, hn⟩ := pairs_of zs (fun _ n => n ∈ pool) fun i v e => hzs i v e
            walk_at "aw"
            refine w_dictP e19 hp fun d H20 nd a20 e20 => ?_
            walk_at "aw1"
            refine hnx _ _ (((rk.on nplst nrlst g19).new nplst nrlst a20).rj ⟨d, _, _, rfl, DictIn.new e20 fun n hm => ?_⟩)
            obtain ⟨i, hi⟩ := List.getElem?_of_mem hm
            exact hn i n hi
        · walk_at "aw1"
          exact hnx _ _ (rk.rj ⟨d, _, _, rfl, hd⟩)
      · walk_at "aw1"
        exact hnx _ _ (rk.rj ⟨d, _, _, rfl, hd⟩)
    -- the row is put
    clear hd rk
    obtain ⟨⟨d, y10, y11, rfl, hd⟩, gg, epl, erl, hrow⟩ := rj
    have rk : RK st cs pl rl pool ys H H18 := ⟨gg, epl, erl, hrow⟩
    obtain ⟨kvs, ks, e1, e2, e3, e4⟩ := hd
    have hkl := len_le_of_sub e3 e4
    walk_at "aw"
    refine w_app rfl erl ?_
    walk_at "aw"
    refine w_sortDI e1 e2 (by omega) fun r H19 nr a19 e19 => ?_
    refine w_tupL (SqL.of e19) fun t H20 nt a20 e20 => ?_
    have rk := (rk.new nplst nrlst a19).new nplst nrlst a20
    walk_at "aw"
    refine w_append rk.erl (by omega) ?_
    walk_at "aw"
    have tk := (Adv.lst (o := .lst (ys ++ [V.ref t])) rk.erl).tup
    refine ⟨_, _, _, _, ys ++ [.ref t], rfl, rk.go.mutL ok nrl0 rk.erl, ?_, upd_same, by rw [List.length_append, hys]; rfl, fun v hv => ?_⟩
    · rw [upd_ne hrlpl.symm]
      exact rk.epl
    · rcases List.mem_append.mp hv with hv | hv
      · exact (rk.row v hv).up tk
      · rw [List.mem_singleton.mp hv]
        refine ⟨t, sortI ks, rfl, tk _ _ e20, le_to_lt (sortI_le _) ((sortI_perm ks).nodup_iff.mpr e3), fun x hx => e4 x ((sortI_perm ks).mem_iff.mp hx)⟩
  · obtain ⟨y6, y9, y10, y11, ys, rfl, gg, epl, erl, hys, hrow⟩ := pv
    walk_at "aw"
    refine ⟨st, rl, rfl, cs, ys, gg.ok, SqL.of erl, nrlst, by omega, fun q2 zs H14 hperm nq g14 e14 => ?_⟩
    refine w_tupL (SqL.of e14) fun t H15 nt a15 e15 => ?_
    obtain ⟨bs, R, e1, e2, e3, h4, h5⟩ := rows_of (P := pool) (H := H15) zs fun v hv => (hrow v (hperm.mem_iff.mp hv)).up (g14.tk.trans a15.tup)
    have hl := hperm.length_eq
    refine q t R pool H15 ⟨bs, by rw [e15, e1], e2, h4⟩ ⟨by omega, by omega, fun r hr => (h5 r hr).1, npool, fun r w hw => ?_, by omega⟩ ((gg.trans g14).new a15)
    unfold rowOf at hw
    rw [List.getD_eq_getElem?_getD] at hw
    cases er : R[r]? with
    | none => rw [er] at hw; simp at hw
    | some x =>
      rw [er] at hw
      exact (h5 x (List.mem_of_getElem? er)).2 w hw
end AW
namespace AW
open PySem PySem.Spec PyProof.Rows L2 RZ
local macro_rules | `(tactic| walk_at "aw1") => `(tactic| first
  | (with_reducible refine w_seq ?_) | (with_reducible refine w_asg ?_) | (with_reducible refine w_gname ?_) | (with_reducible refine w_op ?_) | (with_reducible refine w_un ?_)
  | ((with_reducible refine' w_var ?h ?_); (case h => rfl)) | (with_reducible refine w_c ?_)
  | (with_reducible refine w_I0 ?_) | (with_reducible refine w_U ?_) | (with_reducible refine w_cb ?_) | (with_reducible refine w_nil ?_) | (with_reducible refine w_cons ?_) | (with_reducible refine w_call ?_)
  | (with_reducible refine w_test ?_) | (with_reducible refine w_B ?_) | (with_reducible refine w_bl ?_) | (with_reducible refine w_not ?_) | (with_reducible refine w_yes ?_) | (with_reducible refine iteT ?_) | (with_reducible refine w_nT ?_) | (with_reducible refine w_nF ?_) | (with_reducible refine iteF ?_) | (with_reducible refine w_and ?_) | (with_reducible refine w_or ?_)
  | (with_reducible refine w_andV ?_) | (with_reducible refine w_orV ?_) | (with_reducible refine w_notV ?_) | (with_reducible refine w_if ?_)
  | (with_reducible refine w_int1 ?_) | (with_reducible refine w_int1b ?_) | (with_reducible refine w_abs ?_) | (with_reducible refine w_max2 ?_) | (with_reducible refine w_min2 ?_)
  | ((with_reducible refine w_eq ?h ?_); (case h => rfl)) | ((with_reducible refine w_ne ?h ?_); (case h => rfl)) | (with_reducible refine w_isN ?_) | (with_reducible refine w_isB ?_) | (with_reducible refine w_chain ?_)
  | (with_reducible refine w_ret ?_) | (with_reducible refine w_drop ?_) | (with_reducible refine w_ifS ?_) | (with_reducible refine w_gsub ?_) | (with_reducible refine w_augS ?_) | (with_reducible refine w_ipI ?_) | (with_reducible refine w_next ?_)
  | (with_reducible refine w_forR ?_) | (with_reducible refine w_forR2 ?_) | (with_reducible refine w_forL ?_) | (with_reducible refine w_forT ?_) | (with_reducible refine w_lcR ?_) | (with_reducible refine w_lcL ?_) | (with_reducible refine w_lcT ?_) | (with_reducible refine w_sl ?_) | (with_reducible refine w_part ?_) | (with_reducible refine w_noPart ?_) | (with_reducible refine w_in ?_)
  | (with_reducible refine w_lcE ?_) | (with_reducible refine w_dn ?_) | (with_reducible refine w_notN ?_) | (with_reducible refine w_gcons ?_) | (with_reducible refine w_gnil ?_) | (with_reducible refine w_lc3 ?_) | (with_reducible refine w_dcZ ?_) | (with_reducible refine w_dcT ?_) | (with_reducible refine w_dg ?_) | (with_reducible refine w_callK ?_) | (with_reducible refine w_dput ?_) | (with_reducible refine w_tup1 ?_)
  | (with_reducible refine w_tup ?_) | (with_reducible refine w_lst ?_)
  | ((with_reducible refine w_I ?h ?_); (case h => first | (exact Or.inr ⟨by decide, by decide⟩) | (exact Or.inl ⟨by decide, by decide⟩) | (show (0 : Int) < _; decide) | (exact ⟨by decide, by decide, by decide⟩) | assumption)))
local macro_rules | `(tactic| walk_at "aw") => `(tactic| repeat (walk_at "aw1"))
def sp__law_right (K : PySem.W.Frag) : Sp := fun vs H Q _ => ∃ (a t : Addr) (v : V), vs = [.ref a, .ref t, v] ∧ ∃ (R : List (List Int)) (P : List Int), RowsAt H a R ∧ RowsPre R P ∧ H t = some (.tup ((great R).map oV)) ∧ ShortV H (shortOf R) v ∧ ∀ H', Adv [] H H' → Q (.bl true) H'
def sp_law (K : PySem.W.Frag) : Sp := fun vs H Q _ => ∃ (a : Addr) (ns : List Int), vs = [.ref a] ∧ SqL K H a (ns.map V.int) ∧ ns.length ≤ 63 ∧ ∀ H', Q (.bl true) H'
def t__law_right (K : PySem.W.Frag) : TS := (tSeq (tIfS (tOr (tNot (tB (tCB (rIsi K) (tCons (tVar 1) (tCons (tC (.ty "tuple")) tNil))))) (tTest (tOp rNe (tCB (rLen1 K) (tCons (tVar 1) tNil)) (tCB (rLen1 K) (tCons (tVar 0) tNil))))) (tRet (tC (.bl false))) tNext)
  (tSeq (tAsg (tLc (iTup K (tVar 1)) (gName 4) (tTest (tOp rNotN (tVar 4) (tC .non))) (tVar 4) [4]) (gName 3))
  (tSeq (tIfS (tOr (tNot (tB (tCall (sp__law_are_whole K) [] E0 (tCons (tThen (tVar 3) (kTup K)) tNil)))) (tTest (tOp rNe (tCB rLenD (tCons (tCB (rDictP K) (tCons (tLc (iList K (tVar 3)) (gName 4) tYes (tTup (tCons (tVar 4) (tCons (tC (.int 1)) tNil))) [4]) tNil)) tNil)) (tCB (rLen1 K) (tCons (tVar 3) tNil))))) (tRet (tC (.bl false))) tNext)
  (tSeq (tIfS (tTest (tOp rGtI (tCB (rLen1 K) (tCons (tLc (iRng1 (tCons (tCB (rLen1 K) (tCons (tVar 0) tNil)) tNil)) (gName 5) (tAnd (tTest (tOp rNotN (tOp (rIxT K) (tVar 1) (tVar 5)) (tC .non))) (tTest (tOp (rIn K true) (tOp (rIxT K) (tVar 1) (tVar 5)) (tOp (rIxT K) (tVar 0) (tVar 5))))) (tVar 5) [5]) tNil)) (tC (.int 0)))) (tRet (tC (.bl false))) tNext)
  (tSeq (tAsg (tCall (sp__law_most K) [] E0 (tCons (tVar 0) tNil)) (gName 6))
  (tSeq (tIfS (tOr (tTest (tOp rNe (tCB (rLen1 K) (tCons (tVar 3) tNil)) (tVar 6))) (tTest (tOp rEq (tVar 6) (tCB (rLen1 K) (tCons (tVar 0) tNil))))) (tRet (tAndV (tOp rEq (tCB (rLen1 K) (tCons (tVar 3) tNil)) (tVar 6)) (tOp rIsN (tVar 2) (tC .non)))) tNext)
  (tSeq (tIfS (tOr (tNot (tB (tCB (rIsi K) (tCons (tVar 2) (tCons (tC (.ty "tuple")) tNil))))) (tOr (tTest (tOp rNe (tCB (rLen1 K) (tCons (tVar 2) tNil)) (tC (.int 2)))) (tOr (tNot (tB (tCall (sp__law_are_whole K) [] E0 (tCons (tOp (rIxT K) (tVar 2) (tC (.int 0))) tNil)))) (tNot (tB (tCall (sp__law_are_whole K) [] E0 (tCons (tOp (rIxT K) (tVar 2) (tC (.int 1))) tNil))))))) (tRet (tC (.bl false))) tNext)
  (tSeq (tAsg (tVar 2) (gTup K 2 (gCons (gName 7) (gCons (gName 8) gNil))))
  (tSeq (tIfS (tOr (tNot (tB (tCall (sp__law_rises K) [] E0 (tCons (tVar 7) tNil)))) (tOr (tNot (tB (tCall (sp__law_rises K) [] E0 (tCons (tVar 8) tNil)))) (tOr (tTest (tOp rEq (tCB (rLen1 K) (tCons (tVar 7) tNil)) (tC (.int 0)))) (tOr (tTest (tOp rLtI (tOp (rIxT K) (tVar 7) (tC (.int 0))) (tC (.int 0)))) (tTest (tOp rGeI (tOp (rIxT K) (tVar 7) (tUn rNeg (tC (.int 1)))) (tCB (rLen1 K) (tCons (tVar 0) tNil)))))))) (tRet (tC (.bl false))) tNext)
  (tSeq (tAsg tDNewK (gName 9))
  (tSeq (tFor (iTup K (tVar 7)) (gName 5)
  (tFor (iTup K (tOp (rIxT K) (tVar 0) (tVar 5))) (gName 10)
  (sDPut (tVar 9) (tVar 10) (tC (.int 1)))))
  (tRet (tAndV (tOp (rEqD K) (tVar 8) (tThen (tCB rSortDI (tCons (tVar 9) tNil)) (kTup K))) (tOp rLtI (tCB (rLen1 K) (tCons (tVar 8) tNil)) (tCB (rLen1 K) (tCons (tVar 7) tNil))))))))))))))))
section
variable {K : PySem.W.Frag} {g : TG} {tt : TT} {te : TE} {vs : List Nat} {σ : L2.St} {Q : VK} {H1 : Hp}
/-- a comprehension with a test over a tuple, the state of nothing changed -/
theorem kLcT_fm {p : Addr} {xs : List V} (hp : H1 p = some (.tup xs)) (hn : xs.length ≤ 100000) (f : V → Option V)
    (step : ∀ (i : Nat) x H (Kt : V → Hp → Prop) (Kf : Hp → Prop), xs[i]? = some x → Adv [] H1 H → (∀ y, f x = some y → ∀ H4, Adv [] H H4 → Kt y H4) → (f x = none → ∀ H3, Adv [] H H3 → Kf H3) →
      g x (wipe σ vs) H fun σ2 H2 => wipe σ2 vs = wipe σ vs ∧ tt σ2 H2 fun b H3 => if b = true then te σ2 H3 Kt else Kf H3)
    (k : ∀ p H', H1 p = none → Adv [] H1 H' → H' p = some (.lst (xs.filterMap f)) → Q (.ref p) H') : kLcT K g tt te vs σ Q (.ref p) H1 := by
  refine ⟨p, rfl, ⟨xs, SqT.of hp⟩, fun D hD => ?_⟩
  refine lc_it walk_tup (fun i H => i ≤ xs.length ∧ Adv [] H1 H ∧ H D = some (.lst ((xs.take i).filterMap f))) ⟨Nat.zero_le _, Adv.new hD, upd_same⟩ (fun i H _ p' => SqT.of (p'.2.1.tup _ _ hp)) (fun i x H H' hi p' y => ?_) fun H p' => ?_
  · obtain ⟨_, a, e⟩ := p'
    obtain ⟨rfl, hx⟩ := y
    have hl : ((xs.take i).filterMap f).length ≤ xs.length := Nat.le_trans (List.length_filterMap_le ..) (by rw [List.length_take]; omega)
    refine step i x H' _ _ hx a (fun y hy H4 a4 => ?_) fun hf H3 a3 => ?_
    · have e4 := a4.keep _ _ (fun z => nomatch z) e
      refine ⟨_, e4, Nat.lt_of_lt_of_le (show ((xs.take i).filterMap f).length < 100001 by omega) (by decide), hi, (a.trans a4).mut hD e4 (fun _ z => by cases z), ?_⟩
      rw [upd_same, take_snoc hx, List.filterMap_append]
      simp [hy]
    · refine ⟨hi, a.trans a3, ?_⟩
      rw [a3.keep _ _ (fun z => nomatch z) e, take_snoc hx, List.filterMap_append]
      simp [hf]
  · obtain ⟨_, a, e⟩ := p'
    rw [List.take_length] at e
    exact k D H hD a e
end
theorem filter_oV (ch : List (Option Int)) : (ch.map oV).filterMap (fun v => if v = .non then none else some v) = (ch.filterMap id).map V.int := by
  induction ch with
  | nil => rfl
  | cons x ch ih =>
    cases x with
    | none => simpa [oV] using ih
    | some v => simpa [oV] using ih
theorem used_nodup : ∀ (ch : List (Option Int)), (∀ (i j : Nat) v, ch[i]? = some (some v) → ch[j]? = some (some v) → i = j) → (ch.filterMap id).Nodup
  | [], _ => List.nodup_nil
  | x :: ch, h => by
    have ih := used_nodup ch fun i j v h1 h2 => by
      have := h (i + 1) (j + 1) v (by simpa using h1) (by simpa using h2)
      omega
    cases x with
    | none => simpa using ih
    | some v =>
      show (v :: ch.filterMap id).Nodup
      rw [List.nodup_cons]
      refine ⟨fun hm => ?_, ih⟩
      obtain ⟨o, ho, e⟩ := List.mem_filterMap.mp hm
      have eo : o = some v := e
      subst eo
      obtain ⟨i, hi⟩ := List.getElem?_of_mem ho
      have := h 0 (i + 1) v rfl (by simpa using hi)
      omega
theorem merge_len : ∀ (ns : List Int) (kvs : List (Key × V)) (ks : List Int), kvs.map (·.1) = ks.map (fun n => (Sum.inl n : Key)) → (ks ++ ns).Nodup → (mergeK kvs (oneK ns)).length = kvs.length + ns.length
  | [], kvs, _, _, _ => rfl
  | n :: ns, kvs, ks, e, nd => by
    have e1 := dict_keys_put (v := n) (x := .int 1) e
    have hn : n ∉ ks := fun h => by
      rw [List.nodup_append] at nd
      exact nd.2.2 n h n (List.mem_cons_self ..) rfl
    rw [if_neg hn] at e1
    have hl := congrArg List.length e1
    have hl0 := congrArg List.length e
    rw [List.length_map, List.length_map, List.length_append, List.length_singleton] at hl
    rw [List.length_map, List.length_map] at hl0
    have := merge_len ns (putK kvs (Sum.inl n) (.int 1)) (ks ++ [n]) e1 (by rw [List.append_assoc]; exact nd)
    show (mergeK (putK kvs (Sum.inl n) (.int 1)) (oneK ns)).length = _
    rw [this, hl, List.length_cons]
    omega
/-- the values of some rows -/
def EvAt (H : Hp) (e : Addr) (C : Int → Prop) : Prop := ∃ (kvs : List (Key × V)) (ks : List Int), H e = some (.dK kvs) ∧ kvs.map (·.1) = ks.map (fun n => (Sum.inl n : Key)) ∧ ks.Nodup ∧ ∀ x, x ∈ ks ↔ C x
theorem EvAt.put {H : Hp} {e : Addr} {C C' : Int → Prop} {kvs : List (Key × V)} {ks : List Int} {n : Int} (h1 : kvs.map (·.1) = ks.map (fun n => (Sum.inl n : Key))) (nd : ks.Nodup) (hs : ∀ x, x ∈ ks ↔ C x) (hc : ∀ x, C' x ↔ C x ∨ x = n) : EvAt (upd H e (.dK (putK kvs (Sum.inl n) (.int 1)))) e C' := by
  refine ⟨_, _, upd_same, dict_keys_put h1, ?_, fun x => ?_⟩
  · split
    · exact nd
    · rename_i h
      rw [List.nodup_append]
      exact ⟨nd, by simp, fun a ha b hb => by rw [List.mem_singleton.mp hb]; exact fun z => h (z ▸ ha)⟩
  · rw [hc]
    split
    · rename_i h
      rw [hs]
      exact ⟨.inl, fun z => z.elim id fun z => z ▸ (hs _).mp h⟩
    · rw [List.mem_append, List.mem_singleton, hs]
theorem EvAt.congr {H : Hp} {e : Addr} {C C' : Int → Prop} (h : EvAt H e C) (hc : ∀ x, C' x ↔ C x) : EvAt H e C' := by
  obtain ⟨kvs, ks, h1, h2, h3, h4⟩ := h
  exact ⟨kvs, ks, h1, h2, h3, fun x => (h4 x).trans (hc x).symm⟩
/-! data that are compared -/
def oD : Option Int → PyData
  | none => .none
  | some v => .int v
theorem lay_ints : ∀ ns : List Int, PyData.canLayAll0 (ns.map .int) = true ∧ PyData.depthAll (ns.map .int) ≤ 10
  | [] => by simp [PyData.canLayAll0, PyData.depthAll]
  | n :: ns => by
    have := lay_ints ns
    simp only [List.map_cons, PyData.canLayAll0, PyData.depthAll, PyData.canLay0, PyData.depth, this.1, Bool.and_true]
    exact ⟨trivial, by omega⟩
theorem lay_oD : ∀ ch : List (Option Int), PyData.canLayAll0 (ch.map oD) = true ∧ PyData.depthAll (ch.map oD) ≤ 10
  | [] => by simp [PyData.canLayAll0, PyData.depthAll]
  | o :: ch => by
    have := lay_oD ch
    cases o <;>
    · simp only [List.map_cons, oD, PyData.canLayAll0, PyData.depthAll, PyData.canLay0, PyData.depth, this.1, Bool.and_true]
      exact ⟨trivial, by omega⟩
theorem shaped_tup {ds : List PyData} (h : PyData.canLayAll0 ds = true ∧ PyData.depthAll ds ≤ 20) : SeqAt.shaped (.tuple ds) = true := by
  show ((PyData.tuple ds).canLay0 && decide ((PyData.tuple ds).depth ≤ 64)) = true
  have h3 : (PyData.tuple ds).depth ≤ 64 := by
    simp only [PyData.depth]
    omega
  rw [decide_eq_true h3, Bool.and_true]
  simp only [PyData.canLay0]
  exact h.1
theorem w_eqD {K : PySem.W.Frag} {H : Hp} {Q : VK} {x y : V} {d : PyData} (hx : Is H d x) (hy : Is H d y) (hs : SeqAt.shaped d = true) (q : Q (.bl true) H) : rEqD K x y H Q :=
  ⟨d, d, hx.dp, hy.dp, hs, hs, by rw [SeqAt.eqv_refl d (SeqAt.canLay_of_shaped hs)]; exact q⟩
theorem is_ints {H : Hp} {p : Addr} {ns : List Int} (h : H p = some (.tup (ns.map V.int))) : Is H (.tuple (ns.map .int)) (.ref p) := .tup h (IsAll.ints ns)
theorem isAll_oD {H : Hp} : ∀ ch : List (Option Int), IsAll H (ch.map oD) (ch.map oV)
  | [] => .nil
  | none :: ch => .cons .non (isAll_oD ch)
  | some v :: ch => .cons (.int v) (isAll_oD ch)
theorem is_oD {H : Hp} {p : Addr} {ch : List (Option Int)} (h : H p = some (.tup (ch.map oV))) : Is H (.tuple (ch.map oD)) (.ref p) := .tup h (isAll_oD ch)
theorem paired_up {H H' : Hp} (k : TK H H') : ∀ {ys : List V} {ns : List Int}, Paired (PV H) ys ns → Paired (PV H') ys ns
  | _, _, .nil => .nil
  | _, _, .cons ⟨q, e, h⟩ t => .cons ⟨q, e, k _ _ h⟩ (paired_up k t)
theorem paired_len {H : Hp} : ∀ {ys : List V} {ns : List Int}, Paired (PV H) ys ns → ys.length = ns.length
  | _, _, .nil => rfl
  | _, _, .cons _ t => congrArg (· + 1) (paired_len t)
theorem kLcL_ones {K : PySem.W.Frag} {g : TG} {te : TE} {vs : List Nat} {σ : L2.St} {Q : VK} {H1 : Hp} {p : Addr} {us : List Int} (hp : H1 p = some (.lst (us.map V.int))) (hn : us.length ≤ 1000)
    (step : ∀ n H (Kt : V → Hp → Prop), Adv [] H1 H → (∀ H4, Adv [] H H4 → kTupD [.int n, .int 1] H4 Kt) → g (.int n) (wipe σ vs) H fun σ2 H2 => wipe σ2 vs = wipe σ vs ∧ te σ2 H2 Kt)
    (k : ∀ d H', Adv [] H1 H' → H' d = some (.dK (mergeK [] (oneK us))) → Q (.ref d) H') : kLcL K g tYes te vs σ (fun x H1 => tNil σ H1 fun xs H2 => rDictP K (x :: xs) H2 Q) (.ref p) H1 := by
  refine ⟨p, rfl, ⟨_, SqL.of hp⟩, fun D hD => ?_⟩
  refine lc_it walk_list (fun i H => i ≤ us.length ∧ Adv [] H1 H ∧ ∃ ys, H D = some (.lst ys) ∧ Paired (PV H) ys (us.take i)) ⟨Nat.zero_le _, Adv.new hD, [], upd_same, by rw [List.take_zero]; exact .nil⟩ (fun i H _ p' => SqL.of (p'.2.1.keep _ _ (fun z => nomatch z) hp)) (fun i x H H' hi p' y => ?_) fun H p' => ?_
  · obtain ⟨_, a, ys, e, hy⟩ := p'
    obtain ⟨rfl, hx⟩ := y
    rw [List.getElem?_map] at hx
    obtain ⟨n, hn2, rfl⟩ := Option.map_eq_some_iff.mp hx
    rw [List.length_map] at hi
    have hl := paired_len hy
    rw [List.length_take] at hl
    refine step n H' _ a fun H4 a4 => w_tupD (by simp) fun q H5 nq a5 e5 => ?_
    have a45 := a4.trans a5
    have e45 := a45.keep _ _ (fun z => nomatch z) e
    refine ⟨ys, e45, Nat.lt_of_lt_of_le (show ys.length < 100001 by omega) (by decide), hi, (a.trans a45).mut hD e45 (fun _ z => by cases z), _, upd_same, ?_⟩
    rw [take_snoc hn2]
    have tk : TK H5 (upd H5 D (.lst (ys ++ [.ref q]))) := (Adv.lst e45).tup
    exact (paired_up (TK.trans a45.tup tk) hy).snoc ⟨q, rfl, tk _ _ e5⟩
  · obtain ⟨_, a, ys, e, hy⟩ := p'
    rw [List.length_map, List.take_length] at hy
    show rDictP K [.ref D] H Q
    exact w_dictP e hy fun d H2 _ a2 e2 => k d H2 (a.trans a2) e2
def natI (lot : List Nat) : List Int := lot.map fun (r : Nat) => (r : Int)
theorem lot_ints (lot : List Nat) : lot.map (fun r => V.int (r : Nat)) = (natI lot).map V.int := by
  unfold natI
  rw [List.map_map]
  rfl
theorem len__law_right {K : PySem.W.Frag} : ∀ (vs : List V) (H : Hp) (Q : VK) (E : XK), sp__law_right K vs H Q E → vs.length = 3 := fun vs H Q E h => by
  obtain ⟨_, _, _, rfl, _⟩ := h
  rfl
theorem pure__law_right {K : PySem.W.Frag} (vs : List V) (H : Hp) (Q : VK) (E : XK) (h : sp__law_right K vs H Q E) : t__law_right K { nx := fun _ H' => Q .non H', rt := Q } (start ["rows", "told", "short", "used", "one", "k", "most", "lot", "values", "every", "v"] vs) H := by
  obtain ⟨a, t, v, rfl, R, P, hR, pre, ht, hv, q⟩ := h
  show t__law_right K _ [some (.ref a), some (.ref t), some v, none, none, none, none, none, none, none, none] H
  obtain ⟨xs, hxs, hxl⟩ := hR.tup
  have hn := pre.hi
  have gi := ginv pre.asc R.length (Nat.le_refl _)
  have gl : (great R).length = R.length := gi.val.len
  have ul : ((great R).filterMap id).length ≤ 24 := Nat.le_trans (List.length_filterMap_le ..) (by omega)
  have und : ((great R).filterMap id).Nodup := used_nodup _ gi.val.inj
  unfold t__law_right
  walk_at "aw"
  refine w_isi (a := "tuple") (r := true) (.base (.tup ht)) (by decide +kernel) ?_
  walk_at "aw"
  refine w_lenT (SqT.of ht) ?_
  walk_at "aw"
  refine w_lenT (SqT.of hxs) ?_
  walk_at "aw"
  rw [List.length_map, gl, hxl]
  refine w_iteNB (fun z => absurd rfl z) fun _ => ?_
  walk_at "aw"
  refine kLcT_fm ht (by rw [List.length_map]; omega) (fun v => if v = .non then none else some v) (fun i x H1 Kt Kf hx a1 kt kf => ?_) fun u H1 nu a1 eu => ?_
  · walk_at "aw"
    refine ⟨rfl, ?_⟩
    walk_at "aw"
    refine w_iteNB (fun z => ?_) fun z => ?_
    · walk_at "aw"
      exact kt x (if_neg z) _ (.refl _ _)
    · exact kf (if_pos z) _ (.refl _ _)
  rw [filter_oV] at eu
  generalize hus : (great R).filterMap id = us at *
  walk_at "aw"
  refine w_tupL (SqL.of eu) fun tu H2 ntu a2 etu => ?_
  walk_at "aw"
  refine ⟨tu, us, rfl, etu, by omega, fun H3 a3 => ?_⟩
  have eu3 := a3.keep _ _ (fun z => nomatch z) (a2.keep _ _ (fun z => nomatch z) eu)
  have ad3 := (a1.trans a2).trans a3
  walk_at "aw"
  refine kLcL_ones eu3 (by omega) (fun n H4 Kt a4 kt => ?_) fun d H4 a4 e4 => ?_
  · walk_at "aw"
    refine ⟨rfl, ?_⟩
    walk_at "aw"
    exact kt _ (.refl _ _)
  have eu4 := a4.keep _ _ (fun z => nomatch z) eu3
  have ad4 := ad3.trans a4
  walk_at "aw"
  refine w_lenD e4 ?_
  walk_at "aw"
  refine w_lenL (SqL.of eu4) ?_
  rw [merge_len us [] [] rfl und, List.length_map]
  walk_at "aw"
  refine w_iteNB (fun z => absurd (by simp) z) fun _ => ?_
  walk_at "aw"
  refine w_lenT (SqT.of (ad4.tup _ _ hxs)) ?_
  rw [hxl]
  refine kLcR_pure (n := R.length) (by omega) (fun _ => false) (fun _ => .non) (fun i H5 Kt Kf hi a5 kt kf => ?_) fun r H5 nr a5 e5 => ?_
  · have ad5 := ad4.trans a5
    have hil : i < (great R).length := by omega
    have hat : atI ((great R).map oV) (i : Nat) = some (oV (great R)[i]) := at_of (j := i) (by omega) (by rw [List.getElem?_map, List.getElem?_eq_getElem hil]; rfl)
    walk_at "aw"
    refine ⟨rfl, ?_⟩
    walk_at "aw"
    refine w_ixT (SqT.of (ad5.tup _ _ ht)) hat ?_
    walk_at "aw"
    cases eo : (great R)[i] with
    | none => exact kf rfl _ (.refl _ _)
    | some w =>
      show if (!decide (V.int w = .non)) = true then _ else _
      rw [if_pos (by simp)]
      walk_at "aw"
      refine w_ixT (SqT.of (ad5.tup _ _ ht)) hat ?_
      walk_at "aw"
      refine w_row (hR.adv ad5) hi fun b hb => ?_
      refine w_inT hb (flat_oV _) (flat_ints _) ?_
      have hw : w ∈ rowOf R i := gi.val.mem i w (by rw [← eo]; exact List.getElem?_eq_getElem hil)
      rw [inV_o, eo]
      have e : inO (rowOf R i) (some w) = true := by simpa [inO] using hw
      rw [e]
      refine ⟨_, rfl, ?_⟩
      exact kf rfl _ (.refl _ _)
  have ad5 := ad4.trans a5
  rw [List.filter_eq_nil_iff.mpr (by simp)] at e5
  walk_at "aw"
  refine w_lenL (SqL.of e5) ?_
  walk_at "aw"
  refine w_iteB (fun z => absurd z (by simp)) fun _ => ?_
  walk_at "aw"
  refine ⟨a, rfl, R, P, hR.adv ad5, pre, fun H6 a6 => ?_⟩
  have ad6 := ad5.trans a6
  have eu6 := a6.keep _ _ (fun z => nomatch z) (a5.keep _ _ (fun z => nomatch z) eu4)
  have elen : us.length = usedN (great R) := by rw [← hus]; rfl
  walk_at "aw"
  refine w_lenL (SqL.of eu6) ?_
  rw [List.length_map, elen]
  walk_at "aw"
  refine w_iteNB (fun z => absurd rfl z) fun _ => ?_
  walk_at "aw"
  refine w_lenT (SqT.of (ad6.tup _ _ hxs)) ?_
  rw [hxl]
  walk_at "aw"
  have sn := shortOf_none pre.asc
  refine w_iteB (fun hz => ?_) fun hz => ?_
  · have hz : usedN (great R) = R.length := by have := V.int.inj hz; omega
    rw [sn.mpr hz] at hv
    obtain rfl : v = .non := hv
    walk_at "aw"
    refine w_lenL (SqL.of eu6) ?_
    rw [List.length_map, elen]
    walk_at "aw"
    refine w_iteB (fun _ => ?_) fun z => absurd rfl z
    walk_at "aw"
    exact q H6 ad6
  have hz : usedN (great R) ≠ R.length := fun z => hz (by rw [z])
  cases esh : shortOf R with
  | none => exact absurd (sn.mp esh) hz
  | some lv =>
  obtain ⟨lot, vals⟩ := lv
  rw [esh] at hv
  obtain ⟨ts, tl, tv, rfl, ets, etl, etv⟩ := hv
  have L := shortOf_some pre.asc esh
  rw [lot_ints] at etl
  have hlot : lot.length ≤ 24 := Nat.le_trans (len_le_of_sub (m := List.range R.length) (L.asc.imp fun h => by omega) fun x hx => List.mem_range.mpr (L.bnd x hx)) (by rw [List.length_range]; exact hn)
  have hvl := L.less
  have hnl : (natI lot).length = lot.length := by unfold natI; rw [List.length_map]
  have ets6 := ad6.tup _ _ ets
  have etl6 := ad6.tup _ _ etl
  have etv6 := ad6.tup _ _ etv
  walk_at "aw"
  refine w_isi (a := "tuple") (r := true) (.base (.tup ets6)) (by decide +kernel) ?_
  walk_at "aw"
  refine w_lenT (SqT.of ets6) ?_
  walk_at "aw"
  refine w_iteNB (fun z => absurd rfl z) fun _ => ?_
  walk_at "aw"
  refine w_ixT (SqT.of ets6) (i := 0) (v := .ref tl) rfl ?_
  walk_at "aw"
  refine ⟨tl, natI lot, rfl, etl6, by omega, fun H7 a7 => ?_⟩
  walk_at "aw"
  refine w_ixT (SqT.of (a7.tup _ _ ets6)) (i := 1) (v := .ref tv) rfl ?_
  walk_at "aw"
  refine ⟨tv, vals, rfl, a7.tup _ _ etv6, by omega, fun H8 a8 => ?_⟩
  have ad8 := (ad6.trans a7).trans a8
  have ets8 := ad8.tup _ _ ets
  have etl8 := ad8.tup _ _ etl
  have etv8 := ad8.tup _ _ etv
  walk_at "aw"
  refine w_gtup (SqT.of ets8) rfl ?_
  walk_at "aw"
  refine ⟨tl, natI lot, rfl, etl8, ?_, by omega, fun H9 a9 => ?_⟩
  · unfold natI
    rw [List.pairwise_map]
    exact L.asc.imp fun h => by omega
  walk_at "aw"
  refine ⟨tv, vals, rfl, a9.tup _ _ etv8, L.asc2, by omega, fun H10 a10 => ?_⟩
  have ad10 := (ad8.trans a9).trans a10
  have etl10 := ad10.tup _ _ etl
  have etv10 := ad10.tup _ _ etv
  walk_at "aw"
  refine w_lenT (SqT.of etl10) ?_
  rw [List.length_map, hnl]
  walk_at "aw"
  have hpos : 0 < lot.length := List.length_pos_iff.mpr L.ne
  refine w_iteB (fun z => absurd (V.int.inj z) (by omega)) fun _ => ?_
  walk_at "aw"
  refine w_ixT (SqT.of etl10) (v := .int (lot[0] : Nat)) (at_of (j := 0) (by simp) (by rw [List.getElem?_map, natI, List.getElem?_map, List.getElem?_eq_getElem hpos]; rfl)) ?_
  walk_at "aw"
  refine w_iteB (fun z => absurd z (by omega)) fun _ => ?_
  walk_at "aw"
  obtain ⟨li, la, hla⟩ : ∃ li la, lot = li ++ [la] := ⟨_, _, (List.dropLast_concat_getLast L.ne).symm⟩
  refine w_ixT (SqT.of etl10) (v := .int (la : Nat)) (by
    rw [hla]
    unfold natI
    rw [List.map_append, List.map_append]
    exact atI_last _ _) ?_
  walk_at "aw"
  refine w_lenT (SqT.of (ad10.tup _ _ hxs)) ?_
  rw [hxl]
  have hlab : la < R.length := L.bnd la (by rw [hla]; simp)
  walk_at "aw"
  refine w_iteB (fun z => absurd z (by omega)) fun _ => ?_
  walk_at "aw"
  refine w_dnew fun ev H11 nev a11 eev => ?_
  have ad11 := ad10.trans a11
  have nev0 : H ev = none := ad10.free (fun z => nomatch z) nev
  walk_at "aw"
  refine kForT_i (fun i σ H' => ∃ y5 y10, σ = [some (.ref a), some (.ref t), some (.ref ts), some (.ref u), none, y5, some (.int (usedN (great R) : Nat)), some (.ref tl), some (.ref tv), some (.ref ev), y10] ∧ Adv [] H H' ∧ EvAt H' ev (fun x => ∃ r ∈ lot.take i, x ∈ rowOf R r)) (SqT.of (a11.tup _ _ etl10)) ⟨_, _, rfl, ad11, [], [], eev, rfl, List.nodup_nil, fun x => by simp⟩ (fun i σ H' _ pv => ?_) (fun i w σ H12 hw pv => ?_) fun σ H12 pv => ?_
  · obtain ⟨_, _, _, ad, _⟩ := pv
    exact SqT.of (ad.tup _ _ etl)
  · obtain ⟨y5, y10, rfl, ad12, hev⟩ := pv
    rw [List.getElem?_map, natI, List.getElem?_map] at hw
    obtain ⟨n, hn1, rfl⟩ := Option.map_eq_some_iff.mp hw
    obtain ⟨r, hr, rfl⟩ := Option.map_eq_some_iff.mp hn1
    have hrl : r < R.length := L.bnd r (List.mem_of_getElem? hr)
    walk_at "aw"
    refine w_row (hR.adv ad12) hrl fun b hb => ?_
    refine kForT_i (fun j σ H' => ∃ y10, σ = [some (.ref a), some (.ref t), some (.ref ts), some (.ref u), none, some (.int (r : Nat)), some (.int (usedN (great R) : Nat)), some (.ref tl), some (.ref tv), some (.ref ev), y10] ∧ Adv [] H H' ∧ TK H12 H' ∧ EvAt H' ev (fun x => (∃ r ∈ lot.take i, x ∈ rowOf R r) ∨ x ∈ (rowOf R r).take j)) (SqT.of hb) ⟨_, rfl, ad12, TK.refl _, hev.congr fun x => by simp⟩ (fun j σ H' _ pv => ?_) (fun j w σ H13 hw pv => ?_) fun σ H13 pv => ?_
    · obtain ⟨_, _, _, tk, _⟩ := pv
      exact SqT.of (tk _ _ hb)
    · obtain ⟨y10, rfl, ad13, tk13, kvs, ks, e1, e2, e3, e4⟩ := pv
      rw [List.getElem?_map] at hw
      obtain ⟨n, hn2, rfl⟩ := Option.map_eq_some_iff.mp hw
      have hks : ks.length ≤ P.length := len_le_of_sub e3 fun x hx => by
        rcases (e4 x).mp hx with ⟨r', _, h⟩ | h
        · exact pre.pool _ _ h
        · exact pre.pool _ _ (List.mem_of_mem_take h)
      have hpf := pre.few
      have hkl : kvs.length = ks.length := by
        have := congrArg List.length e2
        simpa using this
      walk_at "aw"
      show kDPut (.ref ev) (.int n) _ _ _
      refine kDPut_i (k := Sum.inl n) e1 (by omega) ?_
      refine ⟨_, rfl, ad13.mut nev0 e1 (fun _ z => by cases z), tk13.trans (Adv.dct e1).tup, EvAt.put e2 e3 e4 fun x => ?_⟩
      rw [take_snoc hn2]
      simp only [List.mem_append, List.mem_singleton]
      exact or_assoc.symm
    · obtain ⟨y10, rfl, ad13, _, hev⟩ := pv
      rw [List.length_map, List.take_length] at hev
      refine ⟨_, _, rfl, ad13, hev.congr fun x => ?_⟩
      rw [take_snoc hr]
      simp only [List.mem_append, List.mem_singleton]
      constructor
      · rintro ⟨r', h | rfl, hx⟩
        · exact .inl ⟨r', h, hx⟩
        · exact .inr hx
      · rintro (⟨r', h, hx⟩ | hx)
        · exact ⟨r', .inl h, hx⟩
        · exact ⟨r, .inr rfl, hx⟩
  · obtain ⟨y5, y10, rfl, ad12, kvs, ks, e1, e2, e3, e4⟩ := pv
    rw [List.length_map, hnl, List.take_length] at e4
    have hks : ks.length ≤ P.length := len_le_of_sub e3 fun x hx => by
      obtain ⟨r', _, h⟩ := (e4 x).mp hx
      exact pre.pool _ _ h
    have hpf := pre.few
    walk_at "aw"
    refine w_sortDI e1 e2 (by omega) fun r2 H13 nr2 a13 e13 => ?_
    refine w_tupL (SqL.of e13) fun t2 H14 nt2 a14 e14 => ?_
    have esort : sortI ks = vals := by
      refine perm_sorted_eq ((sortI_perm ks).trans ?_) (sortI_le ks) (L.asc2.imp fun h => by omega)
      exact (List.perm_ext_iff_of_nodup e3 (lt_nodup L.asc2)).mpr fun x => (e4 x).trans (L.all x).symm
    rw [esort] at e14
    have ad14 := (ad12.trans a13).trans a14
    refine w_eqD (is_ints (ad14.tup _ _ etv)) (is_ints e14) (shaped_tup ⟨(lay_ints vals).1, by have := (lay_ints vals).2; omega⟩) ?_
    walk_at "aw"
    refine w_lenT (SqT.of (ad14.tup _ _ etv)) ?_
    walk_at "aw"
    refine w_lenT (SqT.of (ad14.tup _ _ etl)) ?_
    rw [List.length_map, List.length_map, hnl]
    walk_at "aw"
    rw [decide_eq_true (show (vals.length : Int) < lot.length by omega)]
    exact q H14 ad14
end AW
namespace AW
open PySem PySem.Spec PyProof.Rows L2 RZ
local macro_rules | `(tactic| walk_at "aw1") => `(tactic| first
  | (with_reducible refine w_seq ?_) | (with_reducible refine w_asg ?_) | (with_reducible refine w_gname ?_) | (with_reducible refine w_op ?_) | (with_reducible refine w_un ?_)
  | ((with_reducible refine' w_var ?h ?_); (case h => rfl)) | (with_reducible refine w_c ?_)
  | (with_reducible refine w_I0 ?_) | (with_reducible refine w_U ?_) | (with_reducible refine w_cb ?_) | (with_reducible refine w_nil ?_) | (with_reducible refine w_cons ?_) | (with_reducible refine w_call ?_)
  | (with_reducible refine w_test ?_) | (with_reducible refine w_B ?_) | (with_reducible refine w_bl ?_) | (with_reducible refine w_not ?_) | (with_reducible refine w_yes ?_) | (with_reducible refine iteT ?_) | (with_reducible refine w_nT ?_) | (with_reducible refine w_nF ?_) | (with_reducible refine iteF ?_) | (with_reducible refine w_and ?_) | (with_reducible refine w_or ?_)
  | (with_reducible refine w_andV ?_) | (with_reducible refine w_orV ?_) | (with_reducible refine w_notV ?_) | (with_reducible refine w_if ?_)
  | (with_reducible refine w_int1 ?_) | (with_reducible refine w_int1b ?_) | (with_reducible refine w_abs ?_) | (with_reducible refine w_max2 ?_) | (with_reducible refine w_min2 ?_)
  | ((with_reducible refine w_eq ?h ?_); (case h => rfl)) | ((with_reducible refine w_ne ?h ?_); (case h => rfl)) | (with_reducible refine w_isN ?_) | (with_reducible refine w_isB ?_) | (with_reducible refine w_chain ?_)
  | (with_reducible refine w_ret ?_) | (with_reducible refine w_drop ?_) | (with_reducible refine w_ifS ?_) | (with_reducible refine w_gsub ?_) | (with_reducible refine w_augS ?_) | (with_reducible refine w_ipI ?_) | (with_reducible refine w_next ?_)
  | (with_reducible refine w_forR ?_) | (with_reducible refine w_forR2 ?_) | (with_reducible refine w_forL ?_) | (with_reducible refine w_forT ?_) | (with_reducible refine w_lcR ?_) | (with_reducible refine w_lcL ?_) | (with_reducible refine w_lcT ?_) | (with_reducible refine w_sl ?_) | (with_reducible refine w_part ?_) | (with_reducible refine w_noPart ?_) | (with_reducible refine w_in ?_)
  | (with_reducible refine w_lcE ?_) | (with_reducible refine w_dn ?_) | (with_reducible refine w_notN ?_) | (with_reducible refine w_gcons ?_) | (with_reducible refine w_gnil ?_) | (with_reducible refine w_lc3 ?_) | (with_reducible refine w_dcZ ?_) | (with_reducible refine w_dcT ?_) | (with_reducible refine w_dg ?_) | (with_reducible refine w_callK ?_) | (with_reducible refine w_dput ?_) | (with_reducible refine w_tup1 ?_)
  | (with_reducible refine w_tup ?_) | (with_reducible refine w_lst ?_)
  | ((with_reducible refine w_I ?h ?_); (case h => first | (exact Or.inr ⟨by decide, by decide⟩) | (exact Or.inl ⟨by decide, by decide⟩) | (show (0 : Int) < _; decide) | (exact ⟨by decide, by decide, by decide⟩) | assumption)))
local macro_rules | `(tactic| walk_at "aw") => `(tactic| repeat (walk_at "aw1"))
def t_law (K : PySem.W.Frag) : TS := (tSeq (tAsg (tCall (sp__law_flow K) [] E0 (tCons (tVar 0) tNil)) (gName 1))
  (tSeq (tAsg (tCall (sp__law_rows K) [] E0 (tCons (tVar 1) tNil)) (gName 2))
  (tSeq (tAsg (tCall (sp__law_rows K) [] E0 (tCons (tVar 1) tNil)) (gName 3))
  (tSeq (tAsg (tLst (tCons (tCall (sp_greatest_pairing K) [] E0 (tCons (tVar 2) tNil)) (tCons (tCallK (sp_greatest_pairing K) gK E0 tNil (tCons (tVar 3) tNil)) (tCons (tCall (sp_short_lot K) [] E0 (tCons (tVar 2) tNil)) (tCons (tCallK (sp_short_lot K) gK E0 tNil (tCons (tVar 3) tNil)) tNil))))) (gName 4))
  (tSeq (tIfS (tOr (tNot (tB (tCall (sp__law_right K) [] E0 (tCons (tVar 2) (tCons (tOp (rIxL K) (tVar 4) (tC (.int 0))) (tCons (tOp (rIxL K) (tVar 4) (tC (.int 2))) tNil)))))) (tNot (tB (tCall (sp__law_right K) [] E0 (tCons (tVar 3) (tCons (tOp (rIxL K) (tVar 4) (tC (.int 1))) (tCons (tOp (rIxL K) (tVar 4) (tC (.int 3))) tNil))))))) (tRet (tC (.bl false))) tNext)
  (tRet (tAndV (tOp (rEqD K) (tCall (sp_greatest_pairing K) [] E0 (tCons (tVar 2) tNil)) (tOp (rIxL K) (tVar 4) (tC (.int 0)))) (tOp (rEqD K) (tCall (sp_short_lot K) [] E0 (tCons (tVar 3) tNil)) (tOp (rIxL K) (tVar 4) (tC (.int 3)))))))))))
def shortD : Option (List Nat × List Int) → PyData
  | none => .none
  | some (lot, vals) => .tuple [.tuple ((natI lot).map .int), .tuple (vals.map .int)]
theorem ShortV.is {H : Hp} {x : Option (List Nat × List Int)} {v : V} (h : ShortV H x v) : Is H (shortD x) v := by
  cases x with
  | none =>
    obtain rfl : v = .non := h
    exact .non
  | some lv =>
    obtain ⟨lot, vals⟩ := lv
    obtain ⟨t, l, u, rfl, e1, e2, e3⟩ := h
    rw [lot_ints] at e2
    exact .tup e1 (.cons (is_ints e2) (.cons (is_ints e3) .nil))
theorem ShortV.up {H H' : Hp} {x : Option (List Nat × List Int)} {v : V} (h : ShortV H x v) (k : TK H H') : ShortV H' x v := by
  cases x with
  | none => exact h
  | some lv =>
    obtain ⟨lot, vals⟩ := lv
    obtain ⟨t, l, u, rfl, e1, e2, e3⟩ := h
    exact ⟨t, l, u, rfl, k _ _ e1, k _ _ e2, k _ _ e3⟩
theorem short_shaped (x : Option (List Nat × List Int)) : SeqAt.shaped (shortD x) = true := by
  cases x with
  | none => rfl
  | some lv =>
    obtain ⟨lot, vals⟩ := lv
    have h1 := lay_ints (natI lot)
    have h2 := lay_ints vals
    refine shaped_tup ⟨?_, ?_⟩
    · simp only [PyData.canLayAll0, PyData.canLay0, h1.1, h2.1, Bool.and_true]
    · simp only [PyData.depthAll, PyData.depth]
      omega
theorem len_law {K : PySem.W.Frag} : ∀ (vs : List V) (H : Hp) (Q : VK) (E : XK), sp_law K vs H Q E → vs.length = 1 := fun vs H Q E h => by
  obtain ⟨_, _, rfl, _⟩ := h
  rfl
theorem pure_law {K : PySem.W.Frag} (vs : List V) (H : Hp) (Q : VK) (E : XK) (h : sp_law K vs H Q E) : t_law K { nx := fun _ H' => Q .non H', rt := Q } (start ["script", "flow", "one", "two", "told"] vs) H := by
  obtain ⟨a, ns, rfl, hs, hl, q⟩ := h
  show t_law K _ [some (.ref a), none, none, none, none] H
  unfold t_law
  walk_at "aw"
  refine ⟨a, ns, rfl, hs, hl, fun st cs H1 ok a1 nst => ?_⟩
  walk_at "aw"
  refine ⟨st, rfl, cs, ok, fun o R1 P1 H2 hR1 pre1 g2 => ?_⟩
  walk_at "aw"
  refine ⟨st, rfl, cs, g2.ok, fun t R2 P2 H3 hR2 pre2 g3 => ?_⟩
  have hR1 := hR1.up g3.tk
  walk_at "aw"
  refine ⟨o, rfl, R1, P1, hR1, pre1, fun t1 H4 a4 e1 => ?_⟩
  walk_at "aw"
  refine ⟨t, rfl, R2, P2, hR2.adv a4, pre2, fun t2 H5 a5 e2 => ?_⟩
  walk_at "aw"
  refine ⟨o, rfl, R1, P1, hR1.adv (a4.trans a5), pre1, fun v1 H6 a6 s1 => ?_⟩
  walk_at "aw"
  refine ⟨t, rfl, R2, P2, hR2.adv ((a4.trans a5).trans a6), pre2, fun v2 H7 a7 s2 => ?_⟩
  walk_at "aw"
  refine w_lstD (by simp) fun l H8 nl a8 e8 => ?_
  have ad := ((((a4.trans a5).trans a6).trans a7).trans a8)
  have e1 := ((a5.trans a6).trans (a7.trans a8)).tup _ _ e1
  have e2 := (a6.trans (a7.trans a8)).tup _ _ e2
  have s1 := s1.up (a7.trans a8).tup
  have s2 := s2.up a8.tup
  have hR1 := hR1.adv ad
  have hR2 := hR2.adv ad
  clear a4 a5 a6 a7 a8 ad
  walk_at "aw"
  refine w_ixL (SqL.of e8) (i := 0) (v := .ref t1) rfl ?_
  walk_at "aw"
  refine w_ixL (SqL.of e8) (i := 2) (v := v1) rfl ?_
  walk_at "aw"
  refine ⟨o, t1, v1, rfl, R1, P1, hR1, pre1, e1, s1, fun H9 a9 => ?_⟩
  have e8 := a9.keep _ _ (fun z => nomatch z) e8
  walk_at "aw"
  refine w_ixL (SqL.of e8) (i := 1) (v := .ref t2) rfl ?_
  walk_at "aw"
  refine w_ixL (SqL.of e8) (i := 3) (v := v2) rfl ?_
  walk_at "aw"
  refine ⟨t, t2, v2, rfl, R2, P2, hR2.adv a9, pre2, a9.tup _ _ e2, s2.up a9.tup, fun H10 a10 => ?_⟩
  have e8 := a10.keep _ _ (fun z => nomatch z) e8
  have a910 := a9.trans a10
  walk_at "aw"
  refine ⟨o, rfl, R1, P1, hR1.adv a910, pre1, fun t3 H11 a11 e3 => ?_⟩
  have e8 := a11.keep _ _ (fun z => nomatch z) e8
  walk_at "aw"
  refine w_ixL (SqL.of e8) (i := 0) (v := .ref t1) rfl ?_
  refine w_eqD (is_oD e3) (is_oD ((a910.trans a11).tup _ _ e1)) (shaped_tup ⟨(lay_oD _).1, by have := (lay_oD (great R1)).2; omega⟩) ?_
  walk_at "aw"
  refine ⟨t, rfl, R2, P2, hR2.adv (a910.trans a11), pre2, fun v3 H12 a12 s3 => ?_⟩
  have e8 := a12.keep _ _ (fun z => nomatch z) e8
  walk_at "aw"
  refine w_ixL (SqL.of e8) (i := 3) (v := v2) rfl ?_
  refine w_eqD s3.is ((s2.up ((a910.trans a11).trans a12).tup).is) (short_shaped _) ?_
  exact q _
end AW
namespace AW
open PySem PySem.Spec PyProof.Rows L2 RZ
def topS (i : Nat) : Stmt := PySem.Challenge.pw_aswritten_k34_pairings_and_short_lots.main.body.getD i (.Pass ⟨0, 0, 0, 0⟩)
abbrev s_greatest_pairing : Stmt := topS 1
abbrev n_greatest_pairing : List Str := ["rows", "chosen", "k"]
theorem sc_greatest_pairing : FnScope n_greatest_pairing ["rows"] (defScope s_greatest_pairing) := ⟨rfl, rfl, rfl, by decide +kernel, rfl, by decide +kernel, by decide +kernel⟩
theorem ok_greatest_pairing {P : Program} {w : World} {K : PySem.W.Frag} {mg : Str → Option Value} {base : Heap} {f : Addr} {fd : FuncData} (F : Fun K "greatest_pairing" "greatest_pairing" s_greatest_pairing f fd) (gf : mg "greatest_pairing" = some (.ref f)) (C__place : Cal P w K mg base "_place" 2 ["rows", "highs", "free", "chosen", "k"] (sp__place K))  (m_len : mg "len" = none) (m_range : mg "range" = none) (m_tuple : mg "tuple" = none)  : FnOk P w K mg base CX0 3 f fd ["rows"] (sp_greatest_pairing K) := by
  refine F.ok sc_greatest_pairing len_greatest_pairing (fun cdv A outer s H vs Q E hr h => ⟨t_greatest_pairing K, PSs.nox ?_, pure_greatest_pairing vs H Q E h⟩)
  exact (pss_cons (ps_set (i := 1) sc_greatest_pairing.nd rfl (by first | exact .inl rfl | exact .inr rfl) (pe_op op_rep (pe_lst (pa_cons pe_non pa_nil)) (pe_callB call_len1 (by rfl) m_len (by decide +kernel) (pa_cons (pv 0) pa_nil))))
  (pss_cons (ps_for PassesOwn.never rfl (pi_range1 (by rfl) m_range (pa_cons (pe_callB call_len1 (by rfl) m_len (by decide +kernel) (pa_cons (pv 0) pa_nil)) pa_nil)) (pg_name (i := 2) sc_greatest_pairing.nd rfl (by first | exact .inl rfl | exact .inr rfl))
  (pss_one (ps_expr (pe_cal C__place (hr.mono (by decide)) rfl (pa_cons (pv 0) (pa_cons pe_dnewK (pa_cons pe_int (pa_cons (pv 1) (pa_cons (pv 2) pa_nil)))))))))
  (pss_one (ps_ret (pe_tupleOf (by rfl) m_tuple (pv 1))))))
abbrev s_short_lot : Stmt := topS 2
abbrev n_short_lot : List Str := ["rows", "chosen", "k", "full"]
theorem sc_short_lot : FnScope n_short_lot ["rows"] (defScope s_short_lot) := ⟨rfl, rfl, rfl, by decide +kernel, rfl, by decide +kernel, by decide +kernel⟩
theorem ok_short_lot {P : Program} {w : World} {K : PySem.W.Frag} {mg : Str → Option Value} {base : Heap} {f : Addr} {fd : FuncData} (F : Fun K "short_lot" "short_lot" s_short_lot f fd) (gf : mg "short_lot" = some (.ref f)) (C__lot_of : Cal P w K mg base "_lot_of" 1 ["full", "chosen", "k"] (sp__lot_of K)) (C__place : Cal P w K mg base "_place" 2 ["rows", "highs", "free", "chosen", "k"] (sp__place K))  (m_len : mg "len" = none) (m_range : mg "range" = none)  : FnOk P w K mg base CX0 3 f fd ["rows"] (sp_short_lot K) := by
  refine F.ok sc_short_lot len_short_lot (fun cdv A outer s H vs Q E hr h => ⟨t_short_lot K, PSs.nox ?_, pure_short_lot vs H Q E h⟩)
  exact (pss_cons (ps_set (i := 1) sc_short_lot.nd rfl (by first | exact .inl rfl | exact .inr rfl) (pe_op op_rep (pe_lst (pa_cons pe_non pa_nil)) (pe_callB call_len1 (by rfl) m_len (by decide +kernel) (pa_cons (pv 0) pa_nil))))
  (pss_cons (ps_for PassesOwn.never rfl (pi_range1 (by rfl) m_range (pa_cons (pe_callB call_len1 (by rfl) m_len (by decide +kernel) (pa_cons (pv 0) pa_nil)) pa_nil)) (pg_name (i := 2) sc_short_lot.nd rfl (by first | exact .inl rfl | exact .inr rfl))
  (pss_cons (ps_set (i := 3) sc_short_lot.nd rfl (by first | exact .inl rfl | exact .inr rfl) (pe_cal C__place (hr.mono (by decide)) rfl (pa_cons (pv 0) (pa_cons pe_dnewK (pa_cons pe_int (pa_cons (pv 1) (pa_cons (pv 2) pa_nil)))))))
  (pss_one (ps_if (pt_cmpR op_notN1 (pv 3) pe_non (nomark _)) (pss_one (ps_ret (pe_tup (pa_cons (pe_cal C__lot_of (hr.mono (by decide)) rfl (pa_cons (pv 3) (pa_cons (pv 1) (pa_cons (pv 2) pa_nil)))) (pa_cons (pv 3) pa_nil))))) pss_nil))))
  (pss_one (ps_ret pe_non))))
abbrev s__place : Stmt := topS 3
abbrev n__place : List Str := ["rows", "highs", "free", "chosen", "k", "askers", "v", "waiting", "done", "holders", "row", "w"]
theorem sc__place : FnScope n__place ["rows", "highs", "free", "chosen", "k"] (defScope s__place) := ⟨rfl, rfl, rfl, by decide +kernel, rfl, by decide +kernel, by decide +kernel⟩
theorem ok__place {P : Program} {w : World} {K : PySem.W.Frag} {mg : Str → Option Value} {base : Heap} {f : Addr} {fd : FuncData} (F : Fun K "_place" "_place" s__place f fd) (gf : mg "_place" = some (.ref f)) (C__hand_on : Cal P w K mg base "_hand_on" 1 ["chosen", "askers", "v"] (sp__hand_on K))  (m_enumerate : mg "enumerate" = none) (m_len : mg "len" = none) (m_list : mg "list" = none) (m_sorted : mg "sorted" = none) (m_tuple : mg "tuple" = none)  : Cal P w K mg base "_place" 2 ["rows", "highs", "free", "chosen", "k"] (sp__place K) := by
  refine ⟨f, fd, F.ok sc__place len__place (fun cdv A outer s H vs Q E hr h => ⟨t__place K, PSs.nox ?_, pure__place vs H Q E h⟩), F.kp, F.binds (fun _ _ _ _ _ _ us hl => match us, hl with | [_, _, _, _, _], _ => rfl), gf⟩
  exact (pss_cons (ps_setDc (i := 5) (own := [("v", 6)]) rfl sc__place.nd rfl rfl (sw_trueD rfl rfl rfl (by decide +kernel)) (pi_tup (pe_ix ix_tup (pv 0) (pv 4) (fun _ _ => rfl))) (blkOk_by (own := [("v", 6)]) (N := n__place) (sc := defScope s__place) (by decide +kernel)) (fun _ _ _ _ _ => (pg_name (i := 6) sc__place.nd rfl (by first | exact .inl rfl | exact .inr rfl))) (fun _ _ _ _ _ => pts_nil) (fun _ _ _ _ _ => (pv 6)) (fun _ _ _ _ _ => (pv 4)))
  (pss_cons (ps_set (i := 7) sc__place.nd rfl (by first | exact .inl rfl | exact .inr rfl) (pe_callTy (call_list_dK rfl) (by rfl) m_list (by decide +kernel) (pa_cons (pv 5) pa_nil)))
  (pss_cons (ps_set (i := 8) sc__place.nd rfl (by first | exact .inl rfl | exact .inr rfl) pe_int)
  (pss_cons (ps_while PassesOwn.never (pt_cmpR op_lt (pv 8) (pe_callB call_len1 (by rfl) m_len (by decide +kernel) (pa_cons (pv 7) pa_nil)) (nomark _))
  (pss_cons (ps_set (i := 6) sc__place.nd rfl (by first | exact .inl rfl | exact .inr rfl) (pe_ix ix_list (pv 7) (pv 8) (fun _ _ => rfl)))
  (pss_cons (ps_aug (i := 8) sc__place.nd rfl (by first | exact .inl rfl | exact .inr rfl) pe_int ip_add)
  (pss_cons (ps_setLc (i := 9) (own := [("row", 10), ("w", 11)]) rfl sc__place.nd rfl rfl (sw_true rfl rfl rfl (by decide +kernel)) (pi_enum (by rfl) m_enumerate (pa_cons (pv 3) pa_nil)) (blkOk_by (own := [("row", 10), ("w", 11)]) (N := n__place) (sc := defScope s__place) (by decide +kernel)) (fun _ _ _ _ _ => (pg_tup rfl (pgs_cons (pg_name (i := 10) sc__place.nd rfl (by first | exact .inl rfl | exact .inr rfl)) (pgs_cons (pg_name (i := 11) sc__place.nd rfl (by first | exact .inl rfl | exact .inr rfl)) pgs_nil)))) (fun _ _ _ _ _ => (pts_one (pt_cmpR op_eq (pv 11) (pv 6) (nomark _)))) (fun _ _ _ _ _ => (pv 10)))
  (pss_cons (ps_if (pt_cmpR op_lt (pe_callB call_len1 (by rfl) m_len (by decide +kernel) (pa_cons (pv 9) pa_nil)) (pe_dget2 (hu_of hr) (pv 1) (pv 6) (pv 2) ⟨rfl, rfl, rfl, rfl⟩) (nomark _)) (pss_cons (ps_expr (pe_cal C__hand_on (hr.mono (by decide)) rfl (pa_cons (pv 3) (pa_cons (pv 5) (pa_cons (pv 6) pa_nil)))))
  (pss_one (ps_ret pe_non))) pss_nil)
  (pss_one (ps_for PassesOwn.never rfl (pi_list (pv 9)) (pg_name (i := 10) sc__place.nd rfl (by first | exact .inl rfl | exact .inr rfl))
  (pss_one (ps_for PassesOwn.never rfl (pi_tup (pe_ix ix_tup (pv 0) (pv 10) (fun _ _ => rfl))) (pg_name (i := 11) sc__place.nd rfl (by first | exact .inl rfl | exact .inr rfl))
  (pss_one (ps_if (pt_cmp (pc_dnotin (hu_of hr) (pv 11) (pv 5))) (pss_cons (ps_dput (hu_of hr) (pv 5) (pv 11) (pv 10) rfl)
  (pss_one (ps_expr (pe_bm PySem.F.plainAttrs_list PySem.F.slot_list_append PySem.F.type_list_append mt_append (pv 7) (pa_cons (pv 11) pa_nil))))) pss_nil)))))))))))
  (pss_one (ps_ret (pe_tupleOf (by rfl) m_tuple (pe_callB (call_sortedDI rfl) (by rfl) m_sorted (by decide +kernel) (pa_cons (pv 5) pa_nil)))))))))
abbrev s__hand_on : Stmt := topS 4
abbrev n__hand_on : List Str := ["chosen", "askers", "v", "row", "left"]
theorem sc__hand_on : FnScope n__hand_on ["chosen", "askers", "v"] (defScope s__hand_on) := ⟨rfl, rfl, rfl, by decide +kernel, rfl, by decide +kernel, by decide +kernel⟩
theorem ok__hand_on {P : Program} {w : World} {K : PySem.W.Frag} {mg : Str → Option Value} {base : Heap} {f : Addr} {fd : FuncData} (F : Fun K "_hand_on" "_hand_on" s__hand_on f fd) (gf : mg "_hand_on" = some (.ref f))     : Cal P w K mg base "_hand_on" 1 ["chosen", "askers", "v"] (sp__hand_on K) := by
  refine ⟨f, fd, F.ok sc__hand_on len__hand_on (fun cdv A outer s H vs Q E hr h => ⟨t__hand_on K, PSs.nox ?_, pure__hand_on vs H Q E h⟩), F.kp, F.binds (fun _ _ _ _ _ _ us hl => match us, hl with | [_, _, _], _ => rfl), gf⟩
  exact (pss_one (ps_while PassesOwn.never (pt_cmpR op_notN1 (pv 2) pe_non (nomark _))
  (pss_cons (ps_set (i := 3) sc__hand_on.nd rfl (by first | exact .inl rfl | exact .inr rfl) (pe_dget (hu_of hr) (pv 1) (pv 2) (fun _ _ => rfl)))
  (pss_cons (ps_set (i := 4) sc__hand_on.nd rfl (by first | exact .inl rfl | exact .inr rfl) (pe_ix ix_list (pv 0) (pv 3) (fun _ _ => rfl)))
  (pss_cons (ps_asg (pv 2) (pg_sub (pv 0) (pv 3) set_list))
  (pss_one (ps_set (i := 2) sc__hand_on.nd rfl (by first | exact .inl rfl | exact .inr rfl) (pv 4))))))))
abbrev s__lot_of : Stmt := topS 5
abbrev n__lot_of : List Str := ["full", "chosen", "k", "row", "v"]
theorem sc__lot_of : FnScope n__lot_of ["full", "chosen", "k"] (defScope s__lot_of) := ⟨rfl, rfl, rfl, by decide +kernel, rfl, by decide +kernel, by decide +kernel⟩
theorem ok__lot_of {P : Program} {w : World} {K : PySem.W.Frag} {mg : Str → Option Value} {base : Heap} {f : Addr} {fd : FuncData} (F : Fun K "_lot_of" "_lot_of" s__lot_of f fd) (gf : mg "_lot_of" = some (.ref f))   (m_enumerate : mg "enumerate" = none) (m_tuple : mg "tuple" = none)  : Cal P w K mg base "_lot_of" 1 ["full", "chosen", "k"] (sp__lot_of K) := by
  refine ⟨f, fd, F.ok sc__lot_of len__lot_of (fun cdv A outer s H vs Q E hr h => ⟨t__lot_of K, PSs.nox ?_, pure__lot_of vs H Q E h⟩), F.kp, F.binds (fun _ _ _ _ _ _ us hl => match us, hl with | [_, _, _], _ => rfl), gf⟩
  exact (pss_one (ps_ret (pe_tupleOf (by rfl) m_tuple (pe_lc (own := [("row", 3), ("v", 4)]) rfl sc__lot_of.nd (pi_enum (by rfl) m_enumerate (pa_cons (pv 1) pa_nil)) (blkOk_by (own := [("row", 3), ("v", 4)]) (N := n__lot_of) (sc := defScope s__lot_of) (by decide +kernel)) (fun _ _ _ _ _ => (pg_tup rfl (pgs_cons (pg_name (i := 3) sc__lot_of.nd rfl (by first | exact .inl rfl | exact .inr rfl)) (pgs_cons (pg_name (i := 4) sc__lot_of.nd rfl (by first | exact .inl rfl | exact .inr rfl)) pgs_nil)))) (fun _ _ _ _ _ => (pts_one (PW.pt (pw_or (pt_cmpR op_in_seq (pv 4) (pv 0) (by rfl)) (pw_or1 (pt_cmpR op_eq (pv 3) (pv 2) (nomark _))))))) (fun _ _ _ _ _ => (pv 3))))))
abbrev s__law_flow : Stmt := topS 7
abbrev n__law_flow : List Str := ["script", "cell"]
theorem sc__law_flow : FnScope n__law_flow ["script"] (defScope s__law_flow) := ⟨rfl, rfl, rfl, by decide +kernel, rfl, by decide +kernel, by decide +kernel⟩
theorem ok__law_flow {P : Program} {w : World} {K : PySem.W.Frag} {mg : Str → Option Value} {base : Heap} {f : Addr} {fd : FuncData} (F : Fun K "_law_flow" "_law_flow" s__law_flow f fd) (gf : mg "_law_flow" = some (.ref f))   (m_abs : mg "abs" = none) (m_int : mg "int" = none)  : Cal P w K mg base "_law_flow" 1 ["script"] (sp__law_flow K) := by
  refine ⟨f, fd, F.ok sc__law_flow len__law_flow (fun cdv A outer s H vs Q E hr h => ⟨t__law_flow K, PSs.nox ?_, pure__law_flow vs H Q E h⟩), F.kp, F.binds (fun _ _ _ _ _ _ us hl => match us, hl with | [_], _ => rfl), gf⟩
  exact (pss_one (ps_ret (pe_lst (pa_cons pe_int (pa_cons pe_int (pa_cons pe_int (pa_cons pe_int (pa_cons (pe_lc (own := [("cell", 1)]) rfl sc__law_flow.nd (pi_list (pe_slice sl_list (pv 0) po_none (po_some pe_int))) (blkOk_by (own := [("cell", 1)]) (N := n__law_flow) (sc := defScope s__law_flow) (by decide +kernel)) (fun _ _ _ _ _ => (pg_name (i := 1) sc__law_flow.nd rfl (by first | exact .inl rfl | exact .inr rfl))) (fun _ _ _ _ _ => pts_nil) (fun _ _ _ _ _ => (pe_callB call_abs1 (by rfl) m_abs (by decide +kernel) (pa_cons (pe_callTy call_int1 (by rfl) m_int (by decide +kernel) (pa_cons (pv 1) pa_nil)) pa_nil)))) pa_nil))))))))
abbrev s__law_draw : Stmt := topS 8
abbrev n__law_draw : List Str := ["flow", "many", "got", "cell", "first", "second"]
theorem sc__law_draw : FnScope n__law_draw ["flow", "many"] (defScope s__law_draw) := ⟨rfl, rfl, rfl, by decide +kernel, rfl, by decide +kernel, by decide +kernel⟩
theorem ok__law_draw {P : Program} {w : World} {K : PySem.W.Frag} {mg : Str → Option Value} {base : Heap} {f : Addr} {fd : FuncData} (F : Fun K "_law_draw" "_law_draw" s__law_draw f fd) (gf : mg "_law_draw" = some (.ref f))   (m_int : mg "int" = none) (m_len : mg "len" = none)  : Cal P w K mg base "_law_draw" 1 ["flow", "many"] (sp__law_draw K) := by
  refine ⟨f, fd, F.ok sc__law_draw len__law_draw (fun cdv A outer s H vs Q E hr h => ⟨t__law_draw K, PSs.nox ?_, pure__law_draw vs H Q E h⟩), F.kp, F.binds (fun _ _ _ _ _ _ us hl => match us, hl with | [_, _], _ => rfl), gf⟩
  exact (pss_cons (ps_asg (pe_op op_add (pe_ix ix_list (pv 0) pe_int (fun _ _ => rfl)) pe_int) (pg_sub (pv 0) pe_int set_list))
  (pss_cons (ps_if (PW.pt (pw_and (pt_cmpR op_eq (pe_ix ix_list (pv 0) pe_int (fun _ _ => rfl)) pe_int (nomark _)) (pw_and (pt_cmpR op_lt (pe_ix ix_list (pv 0) pe_int (fun _ _ => rfl)) (pe_callB call_len1 (by rfl) m_len (by decide +kernel) (pa_cons (pe_ix ix_list (pv 0) pe_int (fun _ _ => rfl)) pa_nil)) (nomark _)) (pw_and1 (pt_cmpR op_ge (pe_ix ix_list (pe_ix ix_list (pv 0) pe_int (fun _ _ => rfl)) (pe_ix ix_list (pv 0) pe_int (fun _ _ => rfl)) (fun _ _ => rfl)) (pe_op op_pow pe_int pe_int) (nomark _)))))) (pss_cons (ps_asg (pe_ix ix_list (pe_ix ix_list (pv 0) pe_int (fun _ _ => rfl)) (pe_ix ix_list (pv 0) pe_int (fun _ _ => rfl)) (fun _ _ => rfl)) (pg_sub (pv 0) pe_int set_list))
  (pss_cons (ps_asg pe_int (pg_sub (pv 0) pe_int set_list))
  (pss_one (ps_asg (pe_op op_add (pe_ix ix_list (pv 0) pe_int (fun _ _ => rfl)) pe_int) (pg_sub (pv 0) pe_int set_list))))) pss_nil)
  (pss_cons (ps_if (pt_cmpR op_gt (pe_ix ix_list (pv 0) pe_int (fun _ _ => rfl)) pe_int (nomark _)) (pss_cons (ps_set (i := 2) sc__law_draw.nd rfl (by first | exact .inl rfl | exact .inr rfl) (pe_op op_mod (pe_callTy call_int1 (by rfl) m_int (by decide +kernel) (pa_cons (pe_ix ix_list (pv 0) pe_int (fun _ _ => rfl)) pa_nil)) (pv 1)))
  (pss_cons (ps_asg (pe_op op_fdiv (pe_ix ix_list (pv 0) pe_int (fun _ _ => rfl)) (pv 1)) (pg_sub (pv 0) pe_int set_list))
  (pss_cons (ps_asg (pe_op op_mul (pe_op op_sub (pe_ix ix_list (pv 0) pe_int (fun _ _ => rfl)) pe_int) (pe_callTy call_int1 (by rfl) m_int (by decide +kernel) (pa_cons (pe_cmpR op_gt (pe_ix ix_list (pv 0) pe_int (fun _ _ => rfl)) pe_int (nomark _)) pa_nil))) (pg_sub (pv 0) pe_int set_list))
  (pss_one (ps_ret (pv 2)))))) pss_nil)
  (pss_cons (ps_set (i := 3) sc__law_draw.nd rfl (by first | exact .inl rfl | exact .inr rfl) pe_int)
  (pss_cons (ps_if (pt_cmpR op_gt (pe_callB call_len1 (by rfl) m_len (by decide +kernel) (pa_cons (pe_ix ix_list (pv 0) pe_int (fun _ _ => rfl)) pa_nil)) pe_int (nomark _)) (pss_cons (ps_set (i := 3) sc__law_draw.nd rfl (by first | exact .inl rfl | exact .inr rfl) (pe_ix ix_list (pe_ix ix_list (pv 0) pe_int (fun _ _ => rfl)) (pe_op op_mod (pe_callTy call_int1 (by rfl) m_int (by decide +kernel) (pa_cons (pe_ix ix_list (pv 0) pe_int (fun _ _ => rfl)) pa_nil)) (pe_callB call_len1 (by rfl) m_len (by decide +kernel) (pa_cons (pe_ix ix_list (pv 0) pe_int (fun _ _ => rfl)) pa_nil))) (fun _ _ => rfl)))
  (pss_one (ps_asg (pe_op op_add (pe_ix ix_list (pv 0) pe_int (fun _ _ => rfl)) pe_int) (pg_sub (pv 0) pe_int set_list)))) pss_nil)
  (pss_cons (ps_set (i := 4) sc__law_draw.nd rfl (by first | exact .inl rfl | exact .inr rfl) (pe_op op_mod (pe_callTy call_int1 (by rfl) m_int (by decide +kernel) (pa_cons (pe_op op_add (pe_op op_mul (pv 3) pe_int) (pe_op op_mul (pe_ix ix_list (pv 0) pe_int (fun _ _ => rfl)) pe_int)) pa_nil)) pe_int))
  (pss_cons (ps_set (i := 5) sc__law_draw.nd rfl (by first | exact .inl rfl | exact .inr rfl) (pe_op op_mod (pe_callTy call_int1 (by rfl) m_int (by decide +kernel) (pa_cons (pe_op op_add (pe_op op_mul (pv 4) (pv 4)) (pe_op op_mul (pe_ix ix_list (pv 0) pe_int (fun _ _ => rfl)) pe_int)) pa_nil)) pe_int))
  (pss_one (ps_ret (pe_op op_mod (pe_callTy call_int1 (by rfl) m_int (by decide +kernel) (pa_cons (pe_op op_mod (pe_callTy call_int1 (by rfl) m_int (by decide +kernel) (pa_cons (pe_op op_add (pe_op op_mul (pv 5) (pv 5)) (pv 4)) pa_nil)) pe_int) pa_nil)) (pv 1)))))))))))
abbrev s__law_pick : Stmt := topS 9
abbrev n__law_pick : List Str := ["flow", "things"]
theorem sc__law_pick : FnScope n__law_pick ["flow", "things"] (defScope s__law_pick) := ⟨rfl, rfl, rfl, by decide +kernel, rfl, by decide +kernel, by decide +kernel⟩
theorem ok__law_pick {P : Program} {w : World} {K : PySem.W.Frag} {mg : Str → Option Value} {base : Heap} {f : Addr} {fd : FuncData} (F : Fun K "_law_pick" "_law_pick" s__law_pick f fd) (gf : mg "_law_pick" = some (.ref f)) (C__law_draw : Cal P w K mg base "_law_draw" 1 ["flow", "many"] (sp__law_draw K))  (m_len : mg "len" = none)  : Cal P w K mg base "_law_pick" 2 ["flow", "things"] (sp__law_pick K) := by
  refine ⟨f, fd, F.ok sc__law_pick len__law_pick (fun cdv A outer s H vs Q E hr h => ⟨t__law_pick K, PSs.nox ?_, pure__law_pick vs H Q E h⟩), F.kp, F.binds (fun _ _ _ _ _ _ us hl => match us, hl with | [_, _], _ => rfl), gf⟩
  exact (pss_one (ps_ret (pe_ix ix_any (pv 1) (pe_cal C__law_draw (hr.mono (by decide)) rfl (pa_cons (pv 0) (pa_cons (pe_callB call_len1 (by rfl) m_len (by decide +kernel) (pa_cons (pv 1) pa_nil)) pa_nil))) (fun _ _ => rfl))))
abbrev s__law_shuffled : Stmt := topS 10
abbrev n__law_shuffled : List Str := ["flow", "things", "left", "made", "k"]
theorem sc__law_shuffled : FnScope n__law_shuffled ["flow", "things"] (defScope s__law_shuffled) := ⟨rfl, rfl, rfl, by decide +kernel, rfl, by decide +kernel, by decide +kernel⟩
theorem ok__law_shuffled {P : Program} {w : World} {K : PySem.W.Frag} {mg : Str → Option Value} {base : Heap} {f : Addr} {fd : FuncData} (F : Fun K "_law_shuffled" "_law_shuffled" s__law_shuffled f fd) (gf : mg "_law_shuffled" = some (.ref f)) (C__law_draw : Cal P w K mg base "_law_draw" 1 ["flow", "many"] (sp__law_draw K))  (m_len : mg "len" = none) (m_list : mg "list" = none) (m_range : mg "range" = none)  : Cal P w K mg base "_law_shuffled" 2 ["flow", "things"] (sp__law_shuffled K) := by
  refine ⟨f, fd, F.ok sc__law_shuffled len__law_shuffled (fun cdv A outer s H vs Q E hr h => ⟨t__law_shuffled K, PSs.nox ?_, pure__law_shuffled vs H Q E h⟩), F.kp, F.binds (fun _ _ _ _ _ _ us hl => match us, hl with | [_, _], _ => rfl), gf⟩
  exact (pss_cons (ps_set (i := 2) sc__law_shuffled.nd rfl (by first | exact .inl rfl | exact .inr rfl) (pe_callTy call_listOf (by rfl) m_list (by decide +kernel) (pa_cons (pv 1) pa_nil)))
  (pss_cons (ps_set (i := 3) sc__law_shuffled.nd rfl (by first | exact .inl rfl | exact .inr rfl) (pe_lst pa_nil))
  (pss_cons (ps_for PassesOwn.never rfl (pi_range1 (by rfl) m_range (pa_cons (pe_callB call_len1 (by rfl) m_len (by decide +kernel) (pa_cons (pv 1) pa_nil)) pa_nil)) (pg_name (i := 4) sc__law_shuffled.nd rfl (by first | exact .inl rfl | exact .inr rfl))
  (pss_one (ps_expr (pe_bm PySem.F.plainAttrs_list PySem.F.slot_list_append PySem.F.type_list_append mt_append (pv 3) (pa_cons (pe_bm PySem.F.plainAttrs_list PySem.F.slot_list_pop PySem.F.type_list_pop mt_popAt (pv 2) (pa_cons (pe_cal C__law_draw (hr.mono (by decide)) rfl (pa_cons (pv 0) (pa_cons (pe_callB call_len1 (by rfl) m_len (by decide +kernel) (pa_cons (pv 2) pa_nil)) pa_nil))) pa_nil)) pa_nil)))))
  (pss_one (ps_ret (pv 3))))))
abbrev s__law_whole : Stmt := topS 11
abbrev n__law_whole : List Str := ["value"]
theorem sc__law_whole : FnScope n__law_whole ["value"] (defScope s__law_whole) := ⟨rfl, rfl, rfl, by decide +kernel, rfl, by decide +kernel, by decide +kernel⟩
theorem ok__law_whole {P : Program} {w : World} {K : PySem.W.Frag} {mg : Str → Option Value} {base : Heap} {f : Addr} {fd : FuncData} (F : Fun K "_law_whole" "_law_whole" s__law_whole f fd) (gf : mg "_law_whole" = some (.ref f))   (m_bool : mg "bool" = none) (m_int : mg "int" = none) (m_isinstance : mg "isinstance" = none)  : Cal P w K mg base "_law_whole" 1 ["value"] (sp__law_whole K) := by
  refine ⟨f, fd, F.ok sc__law_whole len__law_whole (fun cdv A outer s H vs Q E hr h => ⟨t__law_whole K, PSs.nox ?_, pure__law_whole vs H Q E h⟩), F.kp, F.binds (fun _ _ _ _ _ _ us hl => match us, hl with | [_], _ => rfl), gf⟩
  exact (pss_one (ps_ret (pe_and (pe_callB call_isi (by rfl) m_isinstance (by decide +kernel) (pa_cons (pv 0) (pa_cons (pe_bltn (by rfl) m_int (by decide +kernel) rfl) pa_nil))) (pe_one (pe_not (pe_callB call_isi (by rfl) m_isinstance (by decide +kernel) (pa_cons (pv 0) (pa_cons (pe_bltn (by rfl) m_bool (by decide +kernel) rfl) pa_nil))))))))
abbrev s__law_rises : Stmt := topS 12
abbrev n__law_rises : List Str := ["row", "k"]
theorem sc__law_rises : FnScope n__law_rises ["row"] (defScope s__law_rises) := ⟨rfl, rfl, rfl, by decide +kernel, rfl, by decide +kernel, by decide +kernel⟩
theorem ok__law_rises {P : Program} {w : World} {K : PySem.W.Frag} {mg : Str → Option Value} {base : Heap} {f : Addr} {fd : FuncData} (F : Fun K "_law_rises" "_law_rises" s__law_rises f fd) (gf : mg "_law_rises" = some (.ref f))   (m_len : mg "len" = none) (m_range : mg "range" = none)  : Cal P w K mg base "_law_rises" 1 ["row"] (sp__law_rises K) := by
  refine ⟨f, fd, F.ok sc__law_rises len__law_rises (fun cdv A outer s H vs Q E hr h => ⟨t__law_rises K, PSs.nox ?_, pure__law_rises vs H Q E h⟩), F.kp, F.binds (fun _ _ _ _ _ _ us hl => match us, hl with | [_], _ => rfl), gf⟩
  exact (pss_one (ps_ret (pe_cmpR op_eq (pe_callB call_len1 (by rfl) m_len (by decide +kernel) (pa_cons (pe_lc (own := [("k", 1)]) rfl sc__law_rises.nd (pi_range2 (by rfl) m_range (pa_cons pe_int (pa_cons (pe_callB call_len1 (by rfl) m_len (by decide +kernel) (pa_cons (pv 0) pa_nil)) pa_nil))) (blkOk_by (own := [("k", 1)]) (N := n__law_rises) (sc := defScope s__law_rises) (by decide +kernel)) (fun _ _ _ _ _ => (pg_name (i := 1) sc__law_rises.nd rfl (by first | exact .inl rfl | exact .inr rfl))) (fun _ _ _ _ _ => (pts_one (pt_cmpR op_ge (pe_ix ix_tup (pv 0) (pe_op op_sub (pv 1) pe_int) (fun _ _ => rfl)) (pe_ix ix_tup (pv 0) (pv 1) (fun _ _ => rfl)) (nomark _)))) (fun _ _ _ _ _ => (pv 1))) pa_nil)) pe_int (nomark _))))
abbrev s__law_are_whole : Stmt := topS 13
abbrev n__law_are_whole : List Str := ["value", "one"]
theorem sc__law_are_whole : FnScope n__law_are_whole ["value"] (defScope s__law_are_whole) := ⟨rfl, rfl, rfl, by decide +kernel, rfl, by decide +kernel, by decide +kernel⟩
theorem ok__law_are_whole {P : Program} {w : World} {K : PySem.W.Frag} {mg : Str → Option Value} {base : Heap} {f : Addr} {fd : FuncData} (F : Fun K "_law_are_whole" "_law_are_whole" s__law_are_whole f fd) (gf : mg "_law_are_whole" = some (.ref f)) (C__law_whole : Cal P w K mg base "_law_whole" 1 ["value"] (sp__law_whole K))  (m_isinstance : mg "isinstance" = none) (m_len : mg "len" = none) (m_tuple : mg "tuple" = none)  : Cal P w K mg base "_law_are_whole" 2 ["value"] (sp__law_are_whole K) := by
  refine ⟨f, fd, F.ok sc__law_are_whole len__law_are_whole (fun cdv A outer s H vs Q E hr h => ⟨t__law_are_whole K, PSs.nox ?_, pure__law_are_whole vs H Q E h⟩), F.kp, F.binds (fun _ _ _ _ _ _ us hl => match us, hl with | [_], _ => rfl), gf⟩
  exact (pss_one (ps_ret (pe_and (pe_callB call_isi (by rfl) m_isinstance (by decide +kernel) (pa_cons (pv 0) (pa_cons (pe_bltn (by rfl) m_tuple (by decide +kernel) rfl) pa_nil))) (pe_one (pe_cmpR op_eq (pe_callB call_len1 (by rfl) m_len (by decide +kernel) (pa_cons (pe_lc (own := [("one", 1)]) rfl sc__law_are_whole.nd (pi_tup (pv 0)) (blkOk_by (own := [("one", 1)]) (N := n__law_are_whole) (sc := defScope s__law_are_whole) (by decide +kernel)) (fun _ _ _ _ _ => (pg_name (i := 1) sc__law_are_whole.nd rfl (by first | exact .inl rfl | exact .inr rfl))) (fun _ _ _ _ _ => (pts_one (pt_not (pt_val (pe_cal C__law_whole (hr.mono (by decide)) rfl (pa_cons (pv 1) pa_nil)))))) (fun _ _ _ _ _ => (pv 1))) pa_nil)) pe_int (nomark _))))))
abbrev s__law_seat : Stmt := topS 14
abbrev n__law_seat : List Str := ["rows", "taken", "k", "seen", "v"]
theorem sc__law_seat : FnScope n__law_seat ["rows", "taken", "k", "seen"] (defScope s__law_seat) := ⟨rfl, rfl, rfl, by decide +kernel, rfl, by decide +kernel, by decide +kernel⟩
theorem ok__law_seat_step {P : Program} {w : World} {K : PySem.W.Frag} {mg : Str → Option Value} {base : Heap} {f : Addr} {fd : FuncData} (m : Nat) (F : Fun K "_law_seat" "_law_seat" s__law_seat f fd) (gf : mg "_law_seat" = some (.ref f)) (C__law_seat : Cal P w K mg base "_law_seat" (m + 1) ["rows", "taken", "k", "seen"] (sp__law_seat K m))    : Cal P w K mg base "_law_seat" (m + 2) ["rows", "taken", "k", "seen"] (sp__law_seat K (m + 1)) := by
  refine ⟨f, fd, F.ok (k := m + 1) sc__law_seat len__law_seat (fun cdv A outer s H vs Q E hr h => ⟨t__law_seat K m, PSs.nox ?_, pure__law_seat vs H Q E h⟩), F.kp, F.binds (fun _ _ _ _ _ _ us hl => match us, hl with | [_, _, _, _], _ => rfl), gf⟩
  exact (pss_cons (ps_for PassesOwn.never rfl (pi_tup (pe_ix ix_tup (pv 0) (pv 2) (fun _ _ => rfl))) (pg_name (i := 4) sc__law_seat.nd rfl (by first | exact .inl rfl | exact .inr rfl))
  (pss_one (ps_if (pt_cmp (pc_dnotin (hu_of hr) (pv 4) (pv 3))) (pss_cons (ps_dput (hu_of hr) (pv 3) (pv 4) pe_int rfl)
  (pss_one (ps_if (PW.pt (pw_or (pt_cmp (pc_dnotin (hu_of hr) (pv 4) (pv 1))) (pw_or1 (pt_val (pe_cal C__law_seat hr rfl (pa_cons (pv 0) (pa_cons (pv 1) (pa_cons (pe_dget (hu_of hr) (pv 1) (pv 4) (fun _ _ => rfl)) (pa_cons (pv 3) pa_nil))))))))) (pss_cons (ps_dput (hu_of hr) (pv 1) (pv 4) (pv 2) rfl)
  (pss_one (ps_ret pe_bl))) pss_nil))) pss_nil)))
  (pss_one (ps_ret pe_bl)))

theorem ok__law_seat {P : Program} {w : World} {K : PySem.W.Frag} {mg : Str → Option Value} {base : Heap} {f : Addr} {fd : FuncData} (F : Fun K "_law_seat" "_law_seat" s__law_seat f fd) (gf : mg "_law_seat" = some (.ref f)) : ∀ m, Cal P w K mg base "_law_seat" (m + 1) ["rows", "taken", "k", "seen"] (sp__law_seat K m)
  | 0 => ⟨f, fd, F.ok (k := 0) sc__law_seat len__law_seat (fun cdv A outer s H vs Q E hr h => False.elim (by
      obtain ⟨_, _, _, _, _, _, _, _, _, _, _, _, _, _, _, _, _, _, z, _⟩ := h
      exact Nat.not_lt_zero _ z)), F.kp, F.binds (fun _ _ _ _ _ _ us hl => match us, hl with | [_, _, _, _], _ => rfl), gf⟩
  | m + 1 => ok__law_seat_step m F gf (ok__law_seat F gf m)
abbrev s__law_most : Stmt := topS 15
abbrev n__law_most : List Str := ["rows", "taken", "k"]
theorem sc__law_most : FnScope n__law_most ["rows"] (defScope s__law_most) := ⟨rfl, rfl, rfl, by decide +kernel, rfl, by decide +kernel, by decide +kernel⟩
theorem ok__law_most {P : Program} {w : World} {K : PySem.W.Frag} {mg : Str → Option Value} {base : Heap} {f : Addr} {fd : FuncData} (F : Fun K "_law_most" "_law_most" s__law_most f fd) (gf : mg "_law_most" = some (.ref f)) (C__law_seat : Cal P w K mg base "_law_seat" 42 ["rows", "taken", "k", "seen"] (sp__law_seat K 41))  (m_len : mg "len" = none) (m_range : mg "range" = none)  : Cal P w K mg base "_law_most" 43 ["rows"] (sp__law_most K) := by
  refine ⟨f, fd, F.ok sc__law_most len__law_most (fun cdv A outer s H vs Q E hr h => ⟨t__law_most K, PSs.nox ?_, pure__law_most vs H Q E h⟩), F.kp, F.binds (fun _ _ _ _ _ _ us hl => match us, hl with | [_], _ => rfl), gf⟩
  exact (pss_cons (ps_set (i := 1) sc__law_most.nd rfl (by first | exact .inl rfl | exact .inr rfl) pe_dnewK)
  (pss_one (ps_ret (pe_callB call_len1 (by rfl) m_len (by decide +kernel) (pa_cons (pe_lc (own := [("k", 2)]) rfl sc__law_most.nd (pi_range1 (by rfl) m_range (pa_cons (pe_callB call_len1 (by rfl) m_len (by decide +kernel) (pa_cons (pv 0) pa_nil)) pa_nil)) (blkOk_by (own := [("k", 2)]) (N := n__law_most) (sc := defScope s__law_most) (by decide +kernel)) (fun _ _ _ _ _ => (pg_name (i := 2) sc__law_most.nd rfl (by first | exact .inl rfl | exact .inr rfl))) (fun _ _ _ _ _ => (pts_one (pt_val (pe_cal C__law_seat (hr.mono (by decide)) rfl (pa_cons (pv 0) (pa_cons (pv 1) (pa_cons (pv 2) (pa_cons pe_dnewK pa_nil)))))))) (fun _ _ _ _ _ => (pv 2))) pa_nil)))))
abbrev s__law_rows : Stmt := topS 16
abbrev n__law_rows : List Str := ["flow", "many", "style", "wide", "scale", "pool", "k", "most", "rows", "row", "j", "v"]
theorem sc__law_rows : FnScope n__law_rows ["flow"] (defScope s__law_rows) := ⟨rfl, rfl, rfl, by decide +kernel, rfl, by decide +kernel, by decide +kernel⟩
theorem ok__law_rows {P : Program} {w : World} {K : PySem.W.Frag} {mg : Str → Option Value} {base : Heap} {f : Addr} {fd : FuncData} (F : Fun K "_law_rows" "_law_rows" s__law_rows f fd) (gf : mg "_law_rows" = some (.ref f)) (C__law_draw : Cal P w K mg base "_law_draw" 1 ["flow", "many"] (sp__law_draw K)) (C__law_pick : Cal P w K mg base "_law_pick" 2 ["flow", "things"] (sp__law_pick K)) (C__law_shuffled : Cal P w K mg base "_law_shuffled" 2 ["flow", "things"] (sp__law_shuffled K))  (m_dict : mg "dict" = none) (m_int : mg "int" = none) (m_max : mg "max" = none) (m_range : mg "range" = none) (m_sorted : mg "sorted" = none) (m_tuple : mg "tuple" = none)  : Cal P w K mg base "_law_rows" 3 ["flow"] (sp__law_rows K) := by
  refine ⟨f, fd, F.ok sc__law_rows len__law_rows (fun cdv A outer s H vs Q E hr h => ⟨t__law_rows K, PSs.nox ?_, pure__law_rows vs H Q E h⟩), F.kp, F.binds (fun _ _ _ _ _ _ us hl => match us, hl with | [_], _ => rfl), gf⟩
  exact (pss_cons (ps_set (i := 1) sc__law_rows.nd rfl (by first | exact .inl rfl | exact .inr rfl) (pe_ix ix_list (pe_lst (pa_cons pe_int (pa_cons pe_int (pa_cons pe_int (pa_cons pe_int (pa_cons pe_int (pa_cons pe_int (pa_cons pe_int (pa_cons (pe_op op_add pe_int (pe_cal C__law_draw (hr.mono (by decide)) rfl (pa_cons (pv 0) (pa_cons pe_int pa_nil)))) pa_nil))))))))) (pe_cal C__law_draw (hr.mono (by decide)) rfl (pa_cons (pv 0) (pa_cons pe_int pa_nil))) (fun _ _ => rfl)))
  (pss_cons (ps_set (i := 2) sc__law_rows.nd rfl (by first | exact .inl rfl | exact .inr rfl) (pe_cal C__law_draw (hr.mono (by decide)) rfl (pa_cons (pv 0) (pa_cons pe_int pa_nil))))
  (pss_cons (ps_set (i := 3) sc__law_rows.nd rfl (by first | exact .inl rfl | exact .inr rfl) (pe_ix ix_list (pe_lst (pa_cons (pe_callB (call_max2 rfl) (by rfl) m_max (by decide +kernel) (pa_cons pe_int (pa_cons (pe_op op_sub (pv 1) pe_int) pa_nil))) (pa_cons (pv 1) (pa_cons (pe_op op_add (pv 1) pe_int) (pa_cons (pe_op op_add (pv 1) pe_int) (pa_cons pe_int (pa_cons pe_int pa_nil))))))) (pe_cal C__law_draw (hr.mono (by decide)) rfl (pa_cons (pv 0) (pa_cons pe_int pa_nil))) (fun _ _ => rfl)))
  (pss_cons (ps_set (i := 4) sc__law_rows.nd rfl (by first | exact .inl rfl | exact .inr rfl) (pe_ix ix_list (pe_lst (pa_cons pe_int (pa_cons pe_int (pa_cons pe_int (pa_cons pe_int (pa_cons (pe_un un_neg pe_int) (pa_cons (pe_op op_pow pe_int pe_int) pa_nil))))))) (pe_cal C__law_draw (hr.mono (by decide)) rfl (pa_cons (pv 0) (pa_cons pe_int pa_nil))) (fun _ _ => rfl)))
  (pss_cons (ps_set (i := 5) sc__law_rows.nd rfl (by first | exact .inl rfl | exact .inr rfl) (pe_lc (own := [("k", 6)]) rfl sc__law_rows.nd (pi_range1 (by rfl) m_range (pa_cons (pv 3) pa_nil)) (blkOk_by (own := [("k", 6)]) (N := n__law_rows) (sc := defScope s__law_rows) (by decide +kernel)) (fun _ _ _ _ _ => (pg_name (i := 6) sc__law_rows.nd rfl (by first | exact .inl rfl | exact .inr rfl))) (fun _ _ _ _ _ => pts_nil) (fun _ _ _ _ _ => (pe_op op_mul (pv 4) (pe_op op_sub (pv 6) (pe_op op_fdiv (pv 3) pe_int))))))
  (pss_cons (ps_set (i := 7) sc__law_rows.nd rfl (by first | exact .inl rfl | exact .inr rfl) (pe_ix ix_list (pe_lst (pa_cons pe_int (pa_cons pe_int (pa_cons pe_int (pa_cons pe_int (pa_cons (pv 3) pa_nil)))))) (pe_cal C__law_draw (hr.mono (by decide)) rfl (pa_cons (pv 0) (pa_cons pe_int pa_nil))) (fun _ _ => rfl)))
  (pss_cons (ps_set (i := 8) sc__law_rows.nd rfl (by first | exact .inl rfl | exact .inr rfl) (pe_lst pa_nil))
  (pss_cons (ps_for PassesOwn.never rfl (pi_range1 (by rfl) m_range (pa_cons (pv 1) pa_nil)) (pg_name (i := 6) sc__law_rows.nd rfl (by first | exact .inl rfl | exact .inr rfl))
  (pss_cons (ps_set (i := 9) sc__law_rows.nd rfl (by first | exact .inl rfl | exact .inr rfl) (pe_callTy (call_dictP1 rfl) (by rfl) m_dict (by decide +kernel) (pa_cons (pe_lc (own := [("j", 10)]) rfl sc__law_rows.nd (pi_range1 (by rfl) m_range (pa_cons (pe_op op_add (pe_cal C__law_draw (hr.mono (by decide)) rfl (pa_cons (pv 0) (pa_cons (pe_op op_add (pv 7) pe_int) pa_nil))) (pe_callTy call_int1 (by rfl) m_int (by decide +kernel) (pa_cons (pe_cmpR op_lt (pv 2) pe_int (nomark _)) pa_nil))) pa_nil)) (blkOk_by (own := [("j", 10)]) (N := n__law_rows) (sc := defScope s__law_rows) (by decide +kernel)) (fun _ _ _ _ _ => (pg_name (i := 10) sc__law_rows.nd rfl (by first | exact .inl rfl | exact .inr rfl))) (fun _ _ _ _ _ => pts_nil) (fun _ _ _ _ _ => (pe_tup (pa_cons (pe_cal C__law_pick (hr.mono (by decide)) rfl (pa_cons (pv 0) (pa_cons (pv 5) pa_nil))) (pa_cons pe_int pa_nil))))) pa_nil)))
  (pss_cons (ps_if (pt_cmpR op_eq (pv 2) pe_int (nomark _)) (pss_one (ps_dput (hu_of hr) (pv 9) (pe_ix ix_list (pv 5) (pe_op op_mod (pe_callTy call_int1 (by rfl) m_int (by decide +kernel) (pa_cons (pv 6) pa_nil)) (pv 3)) (fun _ _ => rfl)) pe_int rfl)) pss_nil)
  (pss_cons (ps_if (PW.pt (pw_and (pt_cmpR op_eq (pv 2) pe_int (nomark _)) (pw_and1 (pt_cmpR op_lt (pv 6) (pe_op op_add (pe_op op_fdiv (pv 1) pe_int) pe_int) (nomark _))))) (pss_one (ps_set (i := 9) sc__law_rows.nd rfl (by first | exact .inl rfl | exact .inr rfl) (pe_callTy (call_dictP1 rfl) (by rfl) m_dict (by decide +kernel) (pa_cons (pe_lc (own := [("j", 10)]) rfl sc__law_rows.nd (pi_range1 (by rfl) m_range (pa_cons (pe_op op_add pe_int (pe_cal C__law_draw (hr.mono (by decide)) rfl (pa_cons (pv 0) (pa_cons pe_int pa_nil)))) pa_nil)) (blkOk_by (own := [("j", 10)]) (N := n__law_rows) (sc := defScope s__law_rows) (by decide +kernel)) (fun _ _ _ _ _ => (pg_name (i := 10) sc__law_rows.nd rfl (by first | exact .inl rfl | exact .inr rfl))) (fun _ _ _ _ _ => pts_nil) (fun _ _ _ _ _ => (pe_tup (pa_cons (pe_cal C__law_pick (hr.mono (by decide)) rfl (pa_cons (pv 0) (pa_cons (pe_slice sl_list (pv 5) po_none (po_some (pe_callB (call_max2 rfl) (by rfl) m_max (by decide +kernel) (pa_cons pe_int (pa_cons (pe_op op_fdiv (pv 1) pe_int) pa_nil))))) pa_nil))) (pa_cons pe_int pa_nil))))) pa_nil)))) pss_nil)
  (pss_cons (ps_if (PW.pt (pw_and (pt_cmpR op_eq (pv 2) pe_int (nomark _)) (pw_and1 (pt_cmpR op_eq (pe_cal C__law_draw (hr.mono (by decide)) rfl (pa_cons (pv 0) (pa_cons pe_int pa_nil))) pe_int (nomark _))))) (pss_one (ps_set (i := 9) sc__law_rows.nd rfl (by first | exact .inl rfl | exact .inr rfl) (pe_callTy (call_dictP1 rfl) (by rfl) m_dict (by decide +kernel) (pa_cons (pe_lc (own := [("v", 11)]) rfl sc__law_rows.nd (pi_list (pv 5)) (blkOk_by (own := [("v", 11)]) (N := n__law_rows) (sc := defScope s__law_rows) (by decide +kernel)) (fun _ _ _ _ _ => (pg_name (i := 11) sc__law_rows.nd rfl (by first | exact .inl rfl | exact .inr rfl))) (fun _ _ _ _ _ => pts_nil) (fun _ _ _ _ _ => (pe_tup (pa_cons (pv 11) (pa_cons pe_int pa_nil))))) pa_nil)))) pss_nil)
  (pss_one (ps_expr (pe_bm PySem.F.plainAttrs_list PySem.F.slot_list_append PySem.F.type_list_append mt_append (pv 8) (pa_cons (pe_tupleOf (by rfl) m_tuple (pe_callB (call_sortedDI rfl) (by rfl) m_sorted (by decide +kernel) (pa_cons (pv 9) pa_nil))) pa_nil)))))))))
  (pss_one (ps_ret (pe_tupleOf (by rfl) m_tuple (pe_cal C__law_shuffled (hr.mono (by decide)) rfl (pa_cons (pv 0) (pa_cons (pv 8) pa_nil))))))))))))))
abbrev s__law_right : Stmt := topS 17
abbrev n__law_right : List Str := ["rows", "told", "short", "used", "one", "k", "most", "lot", "values", "every", "v"]
theorem sc__law_right : FnScope n__law_right ["rows", "told", "short"] (defScope s__law_right) := ⟨rfl, rfl, rfl, by decide +kernel, rfl, by decide +kernel, by decide +kernel⟩
theorem ok__law_right {P : Program} {w : World} {K : PySem.W.Frag} {mg : Str → Option Value} {base : Heap} {f : Addr} {fd : FuncData} (F : Fun K "_law_right" "_law_right" s__law_right f fd) (gf : mg "_law_right" = some (.ref f)) (C__law_are_whole : Cal P w K mg base "_law_are_whole" 2 ["value"] (sp__law_are_whole K)) (C__law_most : Cal P w K mg base "_law_most" 43 ["rows"] (sp__law_most K)) (C__law_rises : Cal P w K mg base "_law_rises" 1 ["row"] (sp__law_rises K))  (m_dict : mg "dict" = none) (m_isinstance : mg "isinstance" = none) (m_len : mg "len" = none) (m_range : mg "range" = none) (m_sorted : mg "sorted" = none) (m_tuple : mg "tuple" = none)  : Cal P w K mg base "_law_right" 44 ["rows", "told", "short"] (sp__law_right K) := by
  refine ⟨f, fd, F.ok sc__law_right len__law_right (fun cdv A outer s H vs Q E hr h => ⟨t__law_right K, PSs.nox ?_, pure__law_right vs H Q E h⟩), F.kp, F.binds (fun _ _ _ _ _ _ us hl => match us, hl with | [_, _, _], _ => rfl), gf⟩
  exact (pss_cons (ps_if (PW.pt (pw_or (pt_not (pt_val (pe_callB call_isi (by rfl) m_isinstance (by decide +kernel) (pa_cons (pv 1) (pa_cons (pe_bltn (by rfl) m_tuple (by decide +kernel) rfl) pa_nil))))) (pw_or1 (pt_cmpR op_ne (pe_callB call_len1 (by rfl) m_len (by decide +kernel) (pa_cons (pv 1) pa_nil)) (pe_callB call_len1 (by rfl) m_len (by decide +kernel) (pa_cons (pv 0) pa_nil)) (nomark _))))) (pss_one (ps_ret pe_bl)) pss_nil)
  (pss_cons (ps_setLc (i := 3) (own := [("one", 4)]) rfl sc__law_right.nd rfl rfl (sw_true rfl rfl rfl (by decide +kernel)) (pi_tup (pv 1)) (blkOk_by (own := [("one", 4)]) (N := n__law_right) (sc := defScope s__law_right) (by decide +kernel)) (fun _ _ _ _ _ => (pg_name (i := 4) sc__law_right.nd rfl (by first | exact .inl rfl | exact .inr rfl))) (fun _ _ _ _ _ => (pts_one (pt_cmpR op_notN1 (pv 4) pe_non (nomark _)))) (fun _ _ _ _ _ => (pv 4)))
  (pss_cons (ps_if (PW.pt (pw_or (pt_not (pt_val (pe_cal C__law_are_whole (hr.mono (by decide)) rfl (pa_cons (pe_tupleOf (by rfl) m_tuple (pv 3)) pa_nil)))) (pw_or1 (pt_cmpR op_ne (pe_callB call_lenD1 (by rfl) m_len (by decide +kernel) (pa_cons (pe_callTy (call_dictP1 rfl) (by rfl) m_dict (by decide +kernel) (pa_cons (pe_lc (own := [("one", 4)]) rfl sc__law_right.nd (pi_list (pv 3)) (blkOk_by (own := [("one", 4)]) (N := n__law_right) (sc := defScope s__law_right) (by decide +kernel)) (fun _ _ _ _ _ => (pg_name (i := 4) sc__law_right.nd rfl (by first | exact .inl rfl | exact .inr rfl))) (fun _ _ _ _ _ => pts_nil) (fun _ _ _ _ _ => (pe_tup (pa_cons (pv 4) (pa_cons pe_int pa_nil))))) pa_nil)) pa_nil)) (pe_callB call_len1 (by rfl) m_len (by decide +kernel) (pa_cons (pv 3) pa_nil)) (nomark _))))) (pss_one (ps_ret pe_bl)) pss_nil)
  (pss_cons (ps_if (pt_cmpR op_gt (pe_callB call_len1 (by rfl) m_len (by decide +kernel) (pa_cons (pe_lc (own := [("k", 5)]) rfl sc__law_right.nd (pi_range1 (by rfl) m_range (pa_cons (pe_callB call_len1 (by rfl) m_len (by decide +kernel) (pa_cons (pv 0) pa_nil)) pa_nil)) (blkOk_by (own := [("k", 5)]) (N := n__law_right) (sc := defScope s__law_right) (by decide +kernel)) (fun _ _ _ _ _ => (pg_name (i := 5) sc__law_right.nd rfl (by first | exact .inl rfl | exact .inr rfl))) (fun _ _ _ _ _ => (pts_one (PW.pt (pw_and (pt_cmpR op_notN1 (pe_ix ix_tup (pv 1) (pv 5) (fun _ _ => rfl)) pe_non (nomark _)) (pw_and1 (pt_cmpR op_notIn_seq (pe_ix ix_tup (pv 1) (pv 5) (fun _ _ => rfl)) (pe_ix ix_tup (pv 0) (pv 5) (fun _ _ => rfl)) (by rfl))))))) (fun _ _ _ _ _ => (pv 5))) pa_nil)) pe_int (nomark _)) (pss_one (ps_ret pe_bl)) pss_nil)
  (pss_cons (ps_set (i := 6) sc__law_right.nd rfl (by first | exact .inl rfl | exact .inr rfl) (pe_cal C__law_most (hr.mono (by decide)) rfl (pa_cons (pv 0) pa_nil)))
  (pss_cons (ps_if (PW.pt (pw_or (pt_cmpR op_ne (pe_callB call_len1 (by rfl) m_len (by decide +kernel) (pa_cons (pv 3) pa_nil)) (pv 6) (nomark _)) (pw_or1 (pt_cmpR op_eq (pv 6) (pe_callB call_len1 (by rfl) m_len (by decide +kernel) (pa_cons (pv 0) pa_nil)) (nomark _))))) (pss_one (ps_ret (pe_and (pe_cmpR op_eq (pe_callB call_len1 (by rfl) m_len (by decide +kernel) (pa_cons (pv 3) pa_nil)) (pv 6) (nomark _)) (pe_one (pe_cmpR op_isN1 (pv 2) pe_non (nomark _)))))) pss_nil)
  (pss_cons (ps_if (PW.pt (pw_or (pt_not (pt_val (pe_callB call_isi (by rfl) m_isinstance (by decide +kernel) (pa_cons (pv 2) (pa_cons (pe_bltn (by rfl) m_tuple (by decide +kernel) rfl) pa_nil))))) (pw_or (pt_cmpR op_ne (pe_callB call_len1 (by rfl) m_len (by decide +kernel) (pa_cons (pv 2) pa_nil)) pe_int (nomark _)) (pw_or (pt_not (pt_val (pe_cal C__law_are_whole (hr.mono (by decide)) rfl (pa_cons (pe_ix ix_tup (pv 2) pe_int (fun _ _ => rfl)) pa_nil)))) (pw_or1 (pt_not (pt_val (pe_cal C__law_are_whole (hr.mono (by decide)) rfl (pa_cons (pe_ix ix_tup (pv 2) pe_int (fun _ _ => rfl)) pa_nil))))))))) (pss_one (ps_ret pe_bl)) pss_nil)
  (pss_cons (ps_asg (pv 2) (pg_tup rfl (pgs_cons (pg_name (i := 7) sc__law_right.nd rfl (by first | exact .inl rfl | exact .inr rfl)) (pgs_cons (pg_name (i := 8) sc__law_right.nd rfl (by first | exact .inl rfl | exact .inr rfl)) pgs_nil))))
  (pss_cons (ps_if (PW.pt (pw_or (pt_not (pt_val (pe_cal C__law_rises (hr.mono (by decide)) rfl (pa_cons (pv 7) pa_nil)))) (pw_or (pt_not (pt_val (pe_cal C__law_rises (hr.mono (by decide)) rfl (pa_cons (pv 8) pa_nil)))) (pw_or (pt_cmpR op_eq (pe_callB call_len1 (by rfl) m_len (by decide +kernel) (pa_cons (pv 7) pa_nil)) pe_int (nomark _)) (pw_or (pt_cmpR op_lt (pe_ix ix_tup (pv 7) pe_int (fun _ _ => rfl)) pe_int (nomark _)) (pw_or1 (pt_cmpR op_ge (pe_ix ix_tup (pv 7) (pe_un un_neg pe_int) (fun _ _ => rfl)) (pe_callB call_len1 (by rfl) m_len (by decide +kernel) (pa_cons (pv 0) pa_nil)) (nomark _)))))))) (pss_one (ps_ret pe_bl)) pss_nil)
  (pss_cons (ps_set (i := 9) sc__law_right.nd rfl (by first | exact .inl rfl | exact .inr rfl) pe_dnewK)
  (pss_cons (ps_for PassesOwn.never rfl (pi_tup (pv 7)) (pg_name (i := 5) sc__law_right.nd rfl (by first | exact .inl rfl | exact .inr rfl))
  (pss_one (ps_for PassesOwn.never rfl (pi_tup (pe_ix ix_tup (pv 0) (pv 5) (fun _ _ => rfl))) (pg_name (i := 10) sc__law_right.nd rfl (by first | exact .inl rfl | exact .inr rfl))
  (pss_one (ps_dput (hu_of hr) (pv 9) (pv 10) pe_int rfl)))))
  (pss_one (ps_ret (pe_and (pe_cmpR (op_eqD (units64 hr)) (pv 8) (pe_tupleOf (by rfl) m_tuple (pe_callB (call_sortedDI rfl) (by rfl) m_sorted (by decide +kernel) (pa_cons (pv 9) pa_nil))) (nomark _)) (pe_one (pe_cmpR op_lt (pe_callB call_len1 (by rfl) m_len (by decide +kernel) (pa_cons (pv 8) pa_nil)) (pe_callB call_len1 (by rfl) m_len (by decide +kernel) (pa_cons (pv 7) pa_nil)) (nomark _)))))))))))))))))
abbrev s_law : Stmt := topS 18
abbrev n_law : List Str := ["script", "flow", "one", "two", "told"]
theorem sc_law : FnScope n_law ["script"] (defScope s_law) := ⟨rfl, rfl, rfl, by decide +kernel, rfl, by decide +kernel, by decide +kernel⟩
theorem ok_law {P : Program} {w : World} {K : PySem.W.Frag} {mg : Str → Option Value} {base : Heap} {f : Addr} {fd : FuncData} (F : Fun K "law" "law" s_law f fd) (gf : mg "law" = some (.ref f)) (C__law_flow : Cal P w K mg base "_law_flow" 1 ["script"] (sp__law_flow K)) (C__law_right : Cal P w K mg base "_law_right" 44 ["rows", "told", "short"] (sp__law_right K)) (C__law_rows : Cal P w K mg base "_law_rows" 3 ["flow"] (sp__law_rows K)) (C_greatest_pairing : Cal P w K mg base "greatest_pairing" 3 ["rows"] (sp_greatest_pairing K)) (C_short_lot : Cal P w K mg base "short_lot" 3 ["rows"] (sp_short_lot K)) (CK_greatest_pairing : CalK P w K mg base "greatest_pairing" 3 ["rows"] ["rows"] gK (sp_greatest_pairing K)) (CK_short_lot : CalK P w K mg base "short_lot" 3 ["rows"] ["rows"] gK (sp_short_lot K))   : FnOk P w K mg base CX0 45 f fd ["script"] (sp_law K) := by
  refine F.ok sc_law len_law (fun cdv A outer s H vs Q E hr h => ⟨t_law K, PSs.nox ?_, pure_law vs H Q E h⟩)
  exact (pss_cons (ps_set (i := 1) sc_law.nd rfl (by first | exact .inl rfl | exact .inr rfl) (pe_cal C__law_flow (hr.mono (by decide)) rfl (pa_cons (pv 0) pa_nil)))
  (pss_cons (ps_set (i := 2) sc_law.nd rfl (by first | exact .inl rfl | exact .inr rfl) (pe_cal C__law_rows (hr.mono (by decide)) rfl (pa_cons (pv 1) pa_nil)))
  (pss_cons (ps_set (i := 3) sc_law.nd rfl (by first | exact .inl rfl | exact .inr rfl) (pe_cal C__law_rows (hr.mono (by decide)) rfl (pa_cons (pv 1) pa_nil)))
  (pss_cons (ps_set (i := 4) sc_law.nd rfl (by first | exact .inl rfl | exact .inr rfl) (pe_lst (pa_cons (pe_cal C_greatest_pairing (hr.mono (by decide)) rfl (pa_cons (pv 2) pa_nil)) (pa_cons (pe_calK CK_greatest_pairing (hr.mono (by decide)) rfl (pk_cons (pv 3) pk_nil)) (pa_cons (pe_cal C_short_lot (hr.mono (by decide)) rfl (pa_cons (pv 2) pa_nil)) (pa_cons (pe_calK CK_short_lot (hr.mono (by decide)) rfl (pk_cons (pv 3) pk_nil)) pa_nil))))))
  (pss_cons (ps_if (PW.pt (pw_or (pt_not (pt_val (pe_cal C__law_right (hr.mono (by decide)) rfl (pa_cons (pv 2) (pa_cons (pe_ix ix_list (pv 4) pe_int (fun _ _ => rfl)) (pa_cons (pe_ix ix_list (pv 4) pe_int (fun _ _ => rfl)) pa_nil)))))) (pw_or1 (pt_not (pt_val (pe_cal C__law_right (hr.mono (by decide)) rfl (pa_cons (pv 3) (pa_cons (pe_ix ix_list (pv 4) pe_int (fun _ _ => rfl)) (pa_cons (pe_ix ix_list (pv 4) pe_int (fun _ _ => rfl)) pa_nil))))))))) (pss_one (ps_ret pe_bl)) pss_nil)
  (pss_one (ps_ret (pe_and (pe_cmpR (op_eqD (units64 hr)) (pe_cal C_greatest_pairing (hr.mono (by decide)) rfl (pa_cons (pv 2) pa_nil)) (pe_ix ix_list (pv 4) pe_int (fun _ _ => rfl)) (nomark _)) (pe_one (pe_cmpR (op_eqD (units64 hr)) (pe_cal C_short_lot (hr.mono (by decide)) rfl (pa_cons (pv 3) pa_nil)) (pe_ix ix_list (pv 4) pe_int (fun _ _ => rfl)) (nomark _)))))))))))
theorem FunD.plain {K : PySem.W.Frag} {x qual : Str} {st : Stmt} {f : Addr} {fd : FuncData} (F : FunD K x qual (defArgs st) (defBody st) (defScope st) [] [] f fd) : Fun K x qual st f fd := by
  obtain ⟨⟨oc, od, dV, kV, doc, pm, an, cdv, ct, osl, rfl, lk, hcd, hD, _⟩, kp⟩ := F
  rcases hD with ⟨_, rfl⟩ | ⟨e, _⟩
  · exact ⟨⟨oc, od, kV, doc, pm, an, cdv, ct, osl, rfl, lk, hcd⟩, kp⟩
  · exact absurd rfl e
theorem Fun.kb {K : PySem.W.Frag} {x qual : Str} {st : Stmt} {f : Addr} {fd : FuncData} {ps : List Str} (F : Fun K x qual st f fd) (h0 : 0 < ps.length)
    (h : ∀ (kV doc pm : Value) (an : Option Addr) (cdv ct : Value) (us : List Value), us.length = ps.length → bindArgs (PySem.W.fnOf x qual (defArgs st) (defBody st) (defScope st) .none kV doc pm an cdv ct) ⟨[], ps.zip us⟩ = pure (ps.zip us)) : KBinds K fd ps ps gK gK := by
  obtain ⟨oc, od, kV, doc, pm, an, cdv, ct, osl, rfl, lk, hcd⟩ := F.ex
  refine ⟨fun s us ws _ hl => ?_, fun {vs us zs ws} r rz => ?_⟩
  · cases us with
    | nil => exact .of_eq (h kV doc pm an cdv ct ws hl)
    | cons a r =>
      have : (0 : Nat) = ps.length := hl
      omega
  · cases r with
    | nil => exact rz
    | cons _ _ => exact .nil

end AW
namespace AW
open PySem PySem.Spec PyProof.Rows L2 RZ
theorem ckOf {P : Program} {w : World} {K : PySem.W.Frag} {mg : Str → Option Value} {base : Heap} {x qual : Str} {st : Stmt} {f : Addr} {fd : FuncData} {k : Nat} {ps : List Str} {sp : Sp} (C : FnOk P w K mg base CX0 k f fd ps sp) (F : Fun K x qual st f fd) (gf : mg x = some (.ref f)) (h0 : 0 < ps.length)
    (h : ∀ (kV doc pm : Value) (an : Option Addr) (cdv ct : Value) (us : List Value), us.length = ps.length → bindArgs (PySem.W.fnOf x qual (defArgs st) (defBody st) (defScope st) .none kV doc pm an cdv ct) ⟨[], ps.zip us⟩ = pure (ps.zip us)) : CalK P w K mg base x k ps ps gK sp :=
  ⟨f, fd, gK, C, F.kp, AW.Fun.kb F h0 h, gf⟩
theorem facts7 {P : Program} {w : World} {K : PySem.W.Frag} {h : Heap} {mg : Str → Option Value} {fa : Addr} (X : K.In h) (G : h.Ns mainGlobals mg) (hfa : mg "law" = some (.ref fa))
    {f0 : Addr} {od0 an0 : Option Addr} {sl0 : Array (Option Value)} {oc0 kV0 dc0 pm0 cd0 ct0 : Value} (a0 : PySem.W.nsIn K mainGlobals "greatest_pairing" = some (some (.ref f0))) (l0 : K.lookup f0 = some ⟨oc0, od0, .func (PySem.W.fnOf "greatest_pairing" "greatest_pairing" (defArgs (topS 1)) (defBody (topS 1)) (defScope (topS 1)) .none kV0 dc0 pm0 an0 cd0 ct0), sl0⟩) (c0 : PySem.W.codeIn K cd0 "greatest_pairing" = true) (k0 : PySem.W.keepIn K (.ref f0) = true)
    {f1 : Addr} {od1 an1 : Option Addr} {sl1 : Array (Option Value)} {oc1 kV1 dc1 pm1 cd1 ct1 : Value} (a1 : PySem.W.nsIn K mainGlobals "short_lot" = some (some (.ref f1))) (l1 : K.lookup f1 = some ⟨oc1, od1, .func (PySem.W.fnOf "short_lot" "short_lot" (defArgs (topS 2)) (defBody (topS 2)) (defScope (topS 2)) .none kV1 dc1 pm1 an1 cd1 ct1), sl1⟩) (c1 : PySem.W.codeIn K cd1 "short_lot" = true) (k1 : PySem.W.keepIn K (.ref f1) = true)
    {f2 : Addr} {od2 an2 : Option Addr} {sl2 : Array (Option Value)} {oc2 kV2 dc2 pm2 cd2 ct2 : Value} (a2 : PySem.W.nsIn K mainGlobals "_place" = some (some (.ref f2))) (l2 : K.lookup f2 = some ⟨oc2, od2, .func (PySem.W.fnOf "_place" "_place" (defArgs (topS 3)) (defBody (topS 3)) (defScope (topS 3)) .none kV2 dc2 pm2 an2 cd2 ct2), sl2⟩) (c2 : PySem.W.codeIn K cd2 "_place" = true) (k2 : PySem.W.keepIn K (.ref f2) = true)
    {f3 : Addr} {od3 an3 : Option Addr} {sl3 : Array (Option Value)} {oc3 kV3 dc3 pm3 cd3 ct3 : Value} (a3 : PySem.W.nsIn K mainGlobals "_hand_on" = some (some (.ref f3))) (l3 : K.lookup f3 = some ⟨oc3, od3, .func (PySem.W.fnOf "_hand_on" "_hand_on" (defArgs (topS 4)) (defBody (topS 4)) (defScope (topS 4)) .none kV3 dc3 pm3 an3 cd3 ct3), sl3⟩) (c3 : PySem.W.codeIn K cd3 "_hand_on" = true) (k3 : PySem.W.keepIn K (.ref f3) = true)
    {f4 : Addr} {od4 an4 : Option Addr} {sl4 : Array (Option Value)} {oc4 kV4 dc4 pm4 cd4 ct4 : Value} (a4 : PySem.W.nsIn K mainGlobals "_lot_of" = some (some (.ref f4))) (l4 : K.lookup f4 = some ⟨oc4, od4, .func (PySem.W.fnOf "_lot_of" "_lot_of" (defArgs (topS 5)) (defBody (topS 5)) (defScope (topS 5)) .none kV4 dc4 pm4 an4 cd4 ct4), sl4⟩) (c4 : PySem.W.codeIn K cd4 "_lot_of" = true) (k4 : PySem.W.keepIn K (.ref f4) = true)
    {f5 : Addr} {od5 an5 : Option Addr} {sl5 : Array (Option Value)} {oc5 kV5 dc5 pm5 cd5 ct5 : Value} (a5 : PySem.W.nsIn K mainGlobals "_law_flow" = some (some (.ref f5))) (l5 : K.lookup f5 = some ⟨oc5, od5, .func (PySem.W.fnOf "_law_flow" "_law_flow" (defArgs (topS 7)) (defBody (topS 7)) (defScope (topS 7)) .none kV5 dc5 pm5 an5 cd5 ct5), sl5⟩) (c5 : PySem.W.codeIn K cd5 "_law_flow" = true) (k5 : PySem.W.keepIn K (.ref f5) = true)
    {f6 : Addr} {od6 an6 : Option Addr} {sl6 : Array (Option Value)} {oc6 kV6 dc6 pm6 cd6 ct6 : Value} (a6 : PySem.W.nsIn K mainGlobals "_law_draw" = some (some (.ref f6))) (l6 : K.lookup f6 = some ⟨oc6, od6, .func (PySem.W.fnOf "_law_draw" "_law_draw" (defArgs (topS 8)) (defBody (topS 8)) (defScope (topS 8)) .none kV6 dc6 pm6 an6 cd6 ct6), sl6⟩) (c6 : PySem.W.codeIn K cd6 "_law_draw" = true) (k6 : PySem.W.keepIn K (.ref f6) = true)
    {f7 : Addr} {od7 an7 : Option Addr} {sl7 : Array (Option Value)} {oc7 kV7 dc7 pm7 cd7 ct7 : Value} (a7 : PySem.W.nsIn K mainGlobals "_law_pick" = some (some (.ref f7))) (l7 : K.lookup f7 = some ⟨oc7, od7, .func (PySem.W.fnOf "_law_pick" "_law_pick" (defArgs (topS 9)) (defBody (topS 9)) (defScope (topS 9)) .none kV7 dc7 pm7 an7 cd7 ct7), sl7⟩) (c7 : PySem.W.codeIn K cd7 "_law_pick" = true) (k7 : PySem.W.keepIn K (.ref f7) = true)
    {f8 : Addr} {od8 an8 : Option Addr} {sl8 : Array (Option Value)} {oc8 kV8 dc8 pm8 cd8 ct8 : Value} (a8 : PySem.W.nsIn K mainGlobals "_law_shuffled" = some (some (.ref f8))) (l8 : K.lookup f8 = some ⟨oc8, od8, .func (PySem.W.fnOf "_law_shuffled" "_law_shuffled" (defArgs (topS 10)) (defBody (topS 10)) (defScope (topS 10)) .none kV8 dc8 pm8 an8 cd8 ct8), sl8⟩) (c8 : PySem.W.codeIn K cd8 "_law_shuffled" = true) (k8 : PySem.W.keepIn K (.ref f8) = true)
    {f9 : Addr} {od9 an9 : Option Addr} {sl9 : Array (Option Value)} {oc9 kV9 dc9 pm9 cd9 ct9 : Value} (a9 : PySem.W.nsIn K mainGlobals "_law_whole" = some (some (.ref f9))) (l9 : K.lookup f9 = some ⟨oc9, od9, .func (PySem.W.fnOf "_law_whole" "_law_whole" (defArgs (topS 11)) (defBody (topS 11)) (defScope (topS 11)) .none kV9 dc9 pm9 an9 cd9 ct9), sl9⟩) (c9 : PySem.W.codeIn K cd9 "_law_whole" = true) (k9 : PySem.W.keepIn K (.ref f9) = true)
    {f10 : Addr} {od10 an10 : Option Addr} {sl10 : Array (Option Value)} {oc10 kV10 dc10 pm10 cd10 ct10 : Value} (a10 : PySem.W.nsIn K mainGlobals "_law_rises" = some (some (.ref f10))) (l10 : K.lookup f10 = some ⟨oc10, od10, .func (PySem.W.fnOf "_law_rises" "_law_rises" (defArgs (topS 12)) (defBody (topS 12)) (defScope (topS 12)) .none kV10 dc10 pm10 an10 cd10 ct10), sl10⟩) (c10 : PySem.W.codeIn K cd10 "_law_rises" = true) (k10 : PySem.W.keepIn K (.ref f10) = true)
    {f11 : Addr} {od11 an11 : Option Addr} {sl11 : Array (Option Value)} {oc11 kV11 dc11 pm11 cd11 ct11 : Value} (a11 : PySem.W.nsIn K mainGlobals "_law_are_whole" = some (some (.ref f11))) (l11 : K.lookup f11 = some ⟨oc11, od11, .func (PySem.W.fnOf "_law_are_whole" "_law_are_whole" (defArgs (topS 13)) (defBody (topS 13)) (defScope (topS 13)) .none kV11 dc11 pm11 an11 cd11 ct11), sl11⟩) (c11 : PySem.W.codeIn K cd11 "_law_are_whole" = true) (k11 : PySem.W.keepIn K (.ref f11) = true)
    {f12 : Addr} {od12 an12 : Option Addr} {sl12 : Array (Option Value)} {oc12 kV12 dc12 pm12 cd12 ct12 : Value} (a12 : PySem.W.nsIn K mainGlobals "_law_seat" = some (some (.ref f12))) (l12 : K.lookup f12 = some ⟨oc12, od12, .func (PySem.W.fnOf "_law_seat" "_law_seat" (defArgs (topS 14)) (defBody (topS 14)) (defScope (topS 14)) .none kV12 dc12 pm12 an12 cd12 ct12), sl12⟩) (c12 : PySem.W.codeIn K cd12 "_law_seat" = true) (k12 : PySem.W.keepIn K (.ref f12) = true)
    {f13 : Addr} {od13 an13 : Option Addr} {sl13 : Array (Option Value)} {oc13 kV13 dc13 pm13 cd13 ct13 : Value} (a13 : PySem.W.nsIn K mainGlobals "_law_most" = some (some (.ref f13))) (l13 : K.lookup f13 = some ⟨oc13, od13, .func (PySem.W.fnOf "_law_most" "_law_most" (defArgs (topS 15)) (defBody (topS 15)) (defScope (topS 15)) .none kV13 dc13 pm13 an13 cd13 ct13), sl13⟩) (c13 : PySem.W.codeIn K cd13 "_law_most" = true) (k13 : PySem.W.keepIn K (.ref f13) = true)
    {f14 : Addr} {od14 an14 : Option Addr} {sl14 : Array (Option Value)} {oc14 kV14 dc14 pm14 cd14 ct14 : Value} (a14 : PySem.W.nsIn K mainGlobals "_law_rows" = some (some (.ref f14))) (l14 : K.lookup f14 = some ⟨oc14, od14, .func (PySem.W.fnOf "_law_rows" "_law_rows" (defArgs (topS 16)) (defBody (topS 16)) (defScope (topS 16)) .none kV14 dc14 pm14 an14 cd14 ct14), sl14⟩) (c14 : PySem.W.codeIn K cd14 "_law_rows" = true) (k14 : PySem.W.keepIn K (.ref f14) = true)
    {f15 : Addr} {od15 an15 : Option Addr} {sl15 : Array (Option Value)} {oc15 kV15 dc15 pm15 cd15 ct15 : Value} (a15 : PySem.W.nsIn K mainGlobals "_law_right" = some (some (.ref f15))) (l15 : K.lookup f15 = some ⟨oc15, od15, .func (PySem.W.fnOf "_law_right" "_law_right" (defArgs (topS 17)) (defBody (topS 17)) (defScope (topS 17)) .none kV15 dc15 pm15 an15 cd15 ct15), sl15⟩) (c15 : PySem.W.codeIn K cd15 "_law_right" = true) (k15 : PySem.W.keepIn K (.ref f15) = true)
    {f16 : Addr} {od16 an16 : Option Addr} {sl16 : Array (Option Value)} {oc16 kV16 dc16 pm16 cd16 ct16 : Value} (a16 : PySem.W.nsIn K mainGlobals "law" = some (some (.ref f16))) (l16 : K.lookup f16 = some ⟨oc16, od16, .func (PySem.W.fnOf "law" "law" (defArgs (topS 18)) (defBody (topS 18)) (defScope (topS 18)) .none kV16 dc16 pm16 an16 cd16 ct16), sl16⟩) (c16 : PySem.W.codeIn K cd16 "law" = true) (k16 : PySem.W.keepIn K (.ref f16) = true)
    (z_abs : PySem.W.nsIn K mainGlobals "abs" = some none)
    (z_bool : PySem.W.nsIn K mainGlobals "bool" = some none)
    (z_dict : PySem.W.nsIn K mainGlobals "dict" = some none)
    (z_enumerate : PySem.W.nsIn K mainGlobals "enumerate" = some none)
    (z_int : PySem.W.nsIn K mainGlobals "int" = some none)
    (z_isinstance : PySem.W.nsIn K mainGlobals "isinstance" = some none)
    (z_len : PySem.W.nsIn K mainGlobals "len" = some none)
    (z_list : PySem.W.nsIn K mainGlobals "list" = some none)
    (z_max : PySem.W.nsIn K mainGlobals "max" = some none)
    (z_range : PySem.W.nsIn K mainGlobals "range" = some none)
    (z_sorted : PySem.W.nsIn K mainGlobals "sorted" = some none)
    (z_tuple : PySem.W.nsIn K mainGlobals "tuple" = some none) :
    ∃ fd : FuncData, (∀ (s : Shared) (v : Value), BindsTo s fd ⟨[v], []⟩ [("script", v)]) ∧ ∀ base : Heap, K.In base → base.Ns mainGlobals mg → FnOk P w K mg base CX0 45 fa fd ["script"] (sp_law K) := by
  have F_greatest_pairing := fun_mk (st := topS 1) l0 c0 k0
  have G_greatest_pairing := PySem.W.mg_of X G a0
  have F_short_lot := fun_mk (st := topS 2) l1 c1 k1
  have G_short_lot := PySem.W.mg_of X G a1
  have F__place := fun_mk (st := topS 3) l2 c2 k2
  have G__place := PySem.W.mg_of X G a2
  have F__hand_on := fun_mk (st := topS 4) l3 c3 k3
  have G__hand_on := PySem.W.mg_of X G a3
  have F__lot_of := fun_mk (st := topS 5) l4 c4 k4
  have G__lot_of := PySem.W.mg_of X G a4
  have F__law_flow := fun_mk (st := topS 7) l5 c5 k5
  have G__law_flow := PySem.W.mg_of X G a5
  have F__law_draw := fun_mk (st := topS 8) l6 c6 k6
  have G__law_draw := PySem.W.mg_of X G a6
  have F__law_pick := fun_mk (st := topS 9) l7 c7 k7
  have G__law_pick := PySem.W.mg_of X G a7
  have F__law_shuffled := fun_mk (st := topS 10) l8 c8 k8
  have G__law_shuffled := PySem.W.mg_of X G a8
  have F__law_whole := fun_mk (st := topS 11) l9 c9 k9
  have G__law_whole := PySem.W.mg_of X G a9
  have F__law_rises := fun_mk (st := topS 12) l10 c10 k10
  have G__law_rises := PySem.W.mg_of X G a10
  have F__law_are_whole := fun_mk (st := topS 13) l11 c11 k11
  have G__law_are_whole := PySem.W.mg_of X G a11
  have F__law_seat := fun_mk (st := topS 14) l12 c12 k12
  have G__law_seat := PySem.W.mg_of X G a12
  have F__law_most := fun_mk (st := topS 15) l13 c13 k13
  have G__law_most := PySem.W.mg_of X G a13
  have F__law_rows := fun_mk (st := topS 16) l14 c14 k14
  have G__law_rows := PySem.W.mg_of X G a14
  have F__law_right := fun_mk (st := topS 17) l15 c15 k15
  have G__law_right := PySem.W.mg_of X G a15
  have F_law := fun_mk (st := topS 18) l16 c16 k16
  have G_law := PySem.W.mg_of X G a16
  have m_abs := PySem.W.mg_none_of X G z_abs
  have m_bool := PySem.W.mg_none_of X G z_bool
  have m_dict := PySem.W.mg_none_of X G z_dict
  have m_enumerate := PySem.W.mg_none_of X G z_enumerate
  have m_int := PySem.W.mg_none_of X G z_int
  have m_isinstance := PySem.W.mg_none_of X G z_isinstance
  have m_len := PySem.W.mg_none_of X G z_len
  have m_list := PySem.W.mg_none_of X G z_list
  have m_max := PySem.W.mg_none_of X G z_max
  have m_range := PySem.W.mg_none_of X G z_range
  have m_sorted := PySem.W.mg_none_of X G z_sorted
  have m_tuple := PySem.W.mg_none_of X G z_tuple
  have e := hfa.symm.trans G_law
  cases e
  refine ⟨PySem.W.fnOf "law" "law" (defArgs (topS 18)) (defBody (topS 18)) (defScope (topS 18)) .none kV16 dc16 pm16 an16 cd16 ct16, fun s v => .of_eq rfl, fun base _ _ => ?_⟩
  have C__hand_on := ok__hand_on (P := P) (w := w) (base := base) F__hand_on G__hand_on   
  have C__place := ok__place (P := P) (w := w) (base := base) F__place G__place C__hand_on  m_enumerate m_len m_list m_sorted m_tuple
  have N_greatest_pairing := ok_greatest_pairing (P := P) (w := w) (base := base) F_greatest_pairing G_greatest_pairing C__place  m_len m_range m_tuple
  have C_greatest_pairing : Cal P w K mg base "greatest_pairing" 3 ["rows"] (sp_greatest_pairing K) := ⟨_, _, N_greatest_pairing, F_greatest_pairing.kp, F_greatest_pairing.binds (fun _ _ _ _ _ _ us hl => match us, hl with | [_], _ => rfl), G_greatest_pairing⟩
  have CK_greatest_pairing : CalK P w K mg base "greatest_pairing" 3 ["rows"] ["rows"] gK (sp_greatest_pairing K) := ckOf N_greatest_pairing F_greatest_pairing G_greatest_pairing (by decide) (fun _ _ _ _ _ _ us hl => match us, hl with | [_], _ => rfl)
  have C__lot_of := ok__lot_of (P := P) (w := w) (base := base) F__lot_of G__lot_of   m_enumerate m_tuple
  have N_short_lot := ok_short_lot (P := P) (w := w) (base := base) F_short_lot G_short_lot C__lot_of C__place  m_len m_range
  have C_short_lot : Cal P w K mg base "short_lot" 3 ["rows"] (sp_short_lot K) := ⟨_, _, N_short_lot, F_short_lot.kp, F_short_lot.binds (fun _ _ _ _ _ _ us hl => match us, hl with | [_], _ => rfl), G_short_lot⟩
  have CK_short_lot : CalK P w K mg base "short_lot" 3 ["rows"] ["rows"] gK (sp_short_lot K) := ckOf N_short_lot F_short_lot G_short_lot (by decide) (fun _ _ _ _ _ _ us hl => match us, hl with | [_], _ => rfl)
  have C__law_flow := ok__law_flow (P := P) (w := w) (base := base) F__law_flow G__law_flow   m_abs m_int
  have C__law_draw := ok__law_draw (P := P) (w := w) (base := base) F__law_draw G__law_draw   m_int m_len
  have C__law_pick := ok__law_pick (P := P) (w := w) (base := base) F__law_pick G__law_pick C__law_draw  m_len
  have C__law_shuffled := ok__law_shuffled (P := P) (w := w) (base := base) F__law_shuffled G__law_shuffled C__law_draw  m_len m_list m_range
  have C__law_whole := ok__law_whole (P := P) (w := w) (base := base) F__law_whole G__law_whole   m_bool m_int m_isinstance
  have C__law_rises := ok__law_rises (P := P) (w := w) (base := base) F__law_rises G__law_rises   m_len m_range
  have C__law_are_whole := ok__law_are_whole (P := P) (w := w) (base := base) F__law_are_whole G__law_are_whole C__law_whole  m_isinstance m_len m_tuple
  have C__law_seat := ok__law_seat (P := P) (w := w) (base := base) F__law_seat G__law_seat 41
  have C__law_most := ok__law_most (P := P) (w := w) (base := base) F__law_most G__law_most C__law_seat  m_len m_range
  have C__law_rows := ok__law_rows (P := P) (w := w) (base := base) F__law_rows G__law_rows C__law_draw C__law_pick C__law_shuffled  m_dict m_int m_max m_range m_sorted m_tuple
  have C__law_right := ok__law_right (P := P) (w := w) (base := base) F__law_right G__law_right C__law_are_whole C__law_most C__law_rises  m_dict m_isinstance m_len m_range m_sorted m_tuple
  exact ok_law F_law G_law C__law_flow C__law_right C__law_rows C_greatest_pairing C_short_lot CK_greatest_pairing CK_short_lot 
end AW
open PySem PySem.W PyProof.Rows
set_option maxHeartbeats 0 in
theorem PySem.Challenge.cw_aswritten_k34_pairings_and_short_lots_holds : PySem.Challenge.rw_aswritten_k34_pairings_and_short_lots.Holds := by
  w_on; o_law; k_head; (case hw => w_witness2)
  k_fill
  refine L2.walk_of (l := PySem.Challenge.rw_aswritten_k34_pairings_and_short_lots) (n := 63) (k := 45) (x := "script") (CX := fun _ => L2.CX0) (sp := fun w => AW.sp_law _) rfl (by decide) rfl ⟨rfl, by decide, by decide⟩ (fun w h Y => PySem.W.kIn_of Y) ?F (fun _ _ a ns hl _ hS => ⟨a, ns, rfl, hS, hl, fun _ => rfl⟩) (fun _ _ _ _ _ h => h)
  case F =>
    intro w mg fa h KX G hmg
    refine' AW.facts7 KX G hmg ?a0 ?l0 ?c0 ?k0 ?a1 ?l1 ?c1 ?k1 ?a2 ?l2 ?c2 ?k2 ?a3 ?l3 ?c3 ?k3 ?a4 ?l4 ?c4 ?k4 ?a5 ?l5 ?c5 ?k5 ?a6 ?l6 ?c6 ?k6 ?a7 ?l7 ?c7 ?k7 ?a8 ?l8 ?c8 ?k8 ?a9 ?l9 ?c9 ?k9 ?a10 ?l10 ?c10 ?k10 ?a11 ?l11 ?c11 ?k11 ?a12 ?l12 ?c12 ?k12 ?a13 ?l13 ?c13 ?k13 ?a14 ?l14 ?c14 ?k14 ?a15 ?l15 ?c15 ?k15 ?a16 ?l16 ?c16 ?k16 ?z_abs ?z_bool ?z_dict ?z_enumerate ?z_int ?z_isinstance ?z_len ?z_list ?z_max ?z_range ?z_sorted ?z_tuple
    (case a0 => k_is); (case l0 => k_is); (case c0 => k_is); (case k0 => k_is); (case a1 => k_is); (case l1 => k_is); (case c1 => k_is); (case k1 => k_is); (case a2 => k_is); (case l2 => k_is); (case c2 => k_is); (case k2 => k_is); (case a3 => k_is); (case l3 => k_is); (case c3 => k_is); (case k3 => k_is); (case a4 => k_is); (case l4 => k_is); (case c4 => k_is); (case k4 => k_is); (case a5 => k_is); (case l5 => k_is); (case c5 => k_is); (case k5 => k_is); (case a6 => k_is); (case l6 => k_is); (case c6 => k_is); (case k6 => k_is); (case a7 => k_is); (case l7 => k_is); (case c7 => k_is); (case k7 => k_is); (case a8 => k_is); (case l8 => k_is); (case c8 => k_is); (case k8 => k_is); (case a9 => k_is); (case l9 => k_is); (case c9 => k_is); (case k9 => k_is); (case a10 => k_is); (case l10 => k_is); (case c10 => k_is); (case k10 => k_is); (case a11 => k_is); (case l11 => k_is); (case c11 => k_is); (case k11 => k_is); (case a12 => k_is); (case l12 => k_is); (case c12 => k_is); (case k12 => k_is); (case a13 => k_is); (case l13 => k_is); (case c13 => k_is); (case k13 => k_is); (case a14 => k_is); (case l14 => k_is); (case c14 => k_is); (case k14 => k_is); (case a15 => k_is); (case l15 => k_is); (case c15 => k_is); (case k15 => k_is); (case a16 => k_is); (case l16 => k_is); (case c16 => k_is); (case k16 => k_is); (case z_abs => k_is); (case z_bool => k_is); (case z_dict => k_is); (case z_enumerate => k_is); (case z_int => k_is); (case z_isinstance => k_is); (case z_len => k_is); (case z_list => k_is); (case z_max => k_is); (case z_range => k_is); (case z_sorted => k_is); (case z_tuple => k_is)
