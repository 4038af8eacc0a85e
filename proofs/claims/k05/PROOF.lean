import PyProof.Rows.All
import Wide.All
import OpenK.AllK
import Wide.FinOn
import HandS.ForMost
import HandS.Wide
import HandS.TupAny
import HandS.EndBits
import HandS.IsInst
import HandS.AnyAll
import HandS.EndTab
import HandS.Style
import HandS.StrMore
import HandS.WideBits
import HandS.Codes
import HandS.GenOver
import HandS.GenList
import HandS.EndOwn
import HandS.TupMul
import HandS.TupLe
import KE.SortKeyHeap
import HandS.SortKw
import PySem.Challenge.RW_stemkeep_k05_whole_one_order
set_option Elab.async false
set_option linter.all false
set_option maxRecDepth 100000
namespace My
/-! ### what every law of these keys leans on: defs by name, powers, the bag, heaps that grow -/
open PySem PySem.Spec L2 TL
/-- a def of the text as its top leaves it -/
structure Ftx (K : PySem.W.Frag) (mg : Str → Option Value) (x : Str) (st : Stmt) (ps : List Str) : Prop where
  ex : ∃ (f : Addr) (fd : FuncData), Fun K x x st f fd ∧ mg x = some (.ref f) ∧ Binds K fd ps []
/-- a def that keeps a promise, called by its name -/
structure Cal (P : Program) (w : World) (K : PySem.W.Frag) (mg : Str → Option Value) (base : Heap) (k : Nat) (x : Str) (ps : List Str) (sp : Sp) : Prop where
  ex : ∃ (f : Addr) (fd : FuncData), FnOk P w K mg base CX0 k f fd ps sp ∧ PySem.W.keepIn K (.ref f) = true ∧ mg x = some (.ref f) ∧ Binds K fd ps [] ∧ ∃ (oc : Value) (od : Option Addr) (osl : Array (Option Value)), K.lookup f = some ⟨oc, od, .func fd, osl⟩
section
variable {P : Program} {w : World} {K : PySem.W.Frag} {mg : Str → Option Value} {base : Heap}
theorem Ftx.cal {x : Str} {st : Stmt} {N ps : List Str} {sp : Sp} {k : Nat} (F : Ftx K mg x st ps) (S : FnScope N ps (defScope st)) (len : ∀ vs H Q E, sp vs H Q E → vs.length = ps.length)
    (h : ∀ (f : Addr) (cdv : Value) (A : Around) (outer : List Env) (s : Shared) (H : Hp) (vs : List V) (Q : VK) (E : XK), Room k (A.deeper (PyProof.Rows.envOfC x (defScope st) s.heap.objs.size f cdv)) → sp vs H Q E →
      ∃ t, PSs (cxOf CX0 P w K mg base N x (defScope st) f cdv A outer s H E).nox (defBody st) t ∧ t { nx := fun _ H' => Q .non H', rt := Q } (start N vs) H) : Cal P w K mg base (k + 1) x ps sp := by
  obtain ⟨f, fd, F1, g, b⟩ := F.ex
  have F2 := F1.ok S len (h f)
  obtain ⟨oc, od, kV, doc, pm, an, cdv, ct, osl, e, lk, hcd⟩ := F1.ex
  exact ⟨f, fd, F2, F1.kp, g, b, oc, od, osl, lk⟩
theorem Cal.mono {j k : Nat} {x : Str} {ps : List Str} {sp : Sp} (C : Cal P w K mg base j x ps sp) (h : j ≤ k) : Cal P w K mg base k x ps sp := by
  obtain ⟨f, fd, F, a, b, c⟩ := C.ex
  exact ⟨f, fd, F.mono h, a, b, c⟩
end
section
variable {X : Cx}
theorem pe_cal {k : Nat} {x : Str} {ps : List Str} {sp : Sp} {e : Expr} {es : List Expr} {p pos : Pos} {t : TA} (C : Cal X.prog X.w X.K X.mg X.base k x ps sp) (hr : Room k X.A) (ha : PA X (e :: es) t) (hg : Gl X x := by rfl)
    (hdb : (x == ("__debug__" : Str)) = false := by decide) (he : starEach (e :: es) X.env = (false, eval e X.env) :: starEach es X.env := by rfl) (hpl : (backTo pos (starEach es X.env)).any (·.1) = false := by rfl) :
    PE X (.Call (.Name x p) (e :: es) [] pos) (tCall sp [] E0 t) := by
  obtain ⟨f, fd, F, a, b, c, _⟩ := C.ex
  exact pe_call F hr hg b a c .nil pass0 ha hdb he hpl
theorem pe_cal0 {k : Nat} {x : Str} {ps : List Str} {sp : Sp} {p pos : Pos} (C : Cal X.prog X.w X.K X.mg X.base k x ps sp) (hr : Room k X.A) (hg : Gl X x := by rfl)
    (hdb : (x == ("__debug__" : Str)) = false := by decide) : PE X (.Call (.Name x p) [] [] pos) (tCall sp [] E0 tNil) := by
  obtain ⟨f, fd, F, a, b, c, _⟩ := C.ex
  exact pe_call0 F hr hg b a c .nil pass0 hdb
/-- ** of an exponent up to 64 and a base below 2 ^ 10000 -/
def CPowW (i j : Int) : Prop := 0 ≤ j ∧ j ≤ 64 ∧ i.natAbs.log2 < 10000
theorem op_powW : OpR X (binaryOp .Pow) (rI CPowW fun i j => .int (i ^ j.toNat)) := opI fun i j _ _ _ _ _ hc q => by
  obtain ⟨h1, h2, h3⟩ := hc
  refine PyProof.Rows.pow_int h1 ?_ q
  have b : Builtin.Int.intBits i ≤ i.natAbs.log2 + 1 := by
    unfold Builtin.Int.intBits
    split <;> omega
  have h : (Builtin.Int.intBits i : Int) * j ≤ 10000 * j := Int.mul_le_mul_of_nonneg_right (by omega) h1
  omega
/-- a text some times -/
def rRepS : R2 := fun x y H Q => ∃ z i, x = .str z ∧ y = .int i ∧ PySem.MulOk z i ∧ Q (.str (Txt.mul z i)) H
theorem op_strRep : OpR X (binaryOp .Mult) rRepS := by
  intro pins s σ H x y v u Q I rx ry h
  obtain ⟨z, i, rfl, rfl, ok, q⟩ := h
  obtain ⟨t, rfl⟩ := rx
  obtain ⟨t', rfl⟩ := ry
  exact PySem.SB.mul ok fun t' k => ⟨.str _, H, I.tok _, ⟨t', rfl⟩, q⟩
end
theorem mul_ok {z : Str} {i : Int} (h0 : 0 ≤ i) (h1 : i ≤ 1000) (h2 : z.length ≤ 1000) : PySem.MulOk z i := by
  refine ⟨?_, fun a _ => ?_, fun a _ => ?_⟩
  · rw [decide_eq_false (by omega), decide_eq_false (by omega)]
    rfl
  · intro c
    have : (2 ^ 63 - 1 : Int) / 1000 ≤ (2 ^ 63 - 1) / i := by
      refine Int.le_ediv_of_mul_le (by omega) ?_
      have : (2 ^ 63 - 1 : Int) / 1000 * i ≤ (2 ^ 63 - 1 : Int) / 1000 * 1000 := Int.mul_le_mul_of_nonneg_left h1 (by decide)
      exact Int.le_trans this (by decide)
    have e : (2 ^ 63 - 1 : Int) / 1000 = 9223372036854775 := by decide
    omega
  · have : z.length * i.toNat ≤ 1000 * 1000 := Nat.mul_le_mul h2 (by omega)
    generalize z.length * i.toNat = n at this
    show decide (n > sizeLine) = false
    exact decide_eq_false (Nat.not_lt.mpr (Nat.le_trans this (by decide)))
theorem tl_mul (z : Str) (n : Nat) : tl (Txt.mul z (n : Int)) = (List.replicate n (tl z)).flatten := by
  unfold Txt.mul
  split
  · have : n = 0 := by omega
    subst this
    rfl
  · split
    · rename_i h
      rw [Bool.or_eq_true, beq_iff_eq, beq_iff_eq] at h
      rcases h with h | h
      · have : n = 1 := by omega
        subst this
        simp
      · have e : tl z = [] := (len0_tl z).mp h
        rw [e]
        simp
    · have key : ∀ (l : List (Array Nat)) (a : Array Nat), (l.foldl (· ++ ·) a).toList = a.toList ++ (l.map Array.toList).flatten := by
        intro l
        induction l with
        | nil => intro a; simp
        | cons x r ih => intro a; rw [List.foldl_cons, ih]; simp
      show ((List.replicate n z.cps).foldl (· ++ ·) #[]).toList = _
      rw [key, List.map_replicate]
      rfl
theorem pow_ok {i : Int} {n : Nat} (h : i.natAbs < 2 ^ n) (hn : 0 < n) (h2 : n ≤ 10000) : i.natAbs.log2 < 10000 := Nat.lt_of_lt_of_le (PySem.Flt.log2_lt_of hn h) h2
theorem small {n : Nat} (h : n ≤ 100000) : n ≤ sizeLine := Nat.le_trans h (by decide)
theorem small' {n : Nat} (h : n < 100000) : n < sizeLine := Nat.lt_of_lt_of_le h (by decide)

/-! ### heaps that grow: all stays but the tables of code objects, which grow -/
def notTbl : HO → Bool
  | .tbl _ => false
  | _ => true
class NT (o : HO) : Prop where
  is : notTbl o = true
instance nt1 {xs : List V} : NT (.lst xs) := ⟨rfl⟩
instance nt2 {xs : List V} : NT (.tup xs) := ⟨rfl⟩
instance nt3 {C dx : Addr} {fs : List (Str × V)} : NT (.ins C dx fs) := ⟨rfl⟩
instance nt4 {kvs : List (Key × V)} : NT (.dK kvs) := ⟨rfl⟩
instance nt5 {o : Obj} {u : HO} : NT (.frz o u) := ⟨rfl⟩
instance nt6 {x : Addr} : NT (.own x) := ⟨rfl⟩
instance nt7 {φ : Heap → Prop} : NT (.ext φ) := ⟨rfl⟩
structure Sm (H H' : Hp) : Prop where
  keep0 : ∀ (a : Addr) (o : HO), H a = some o → notTbl o = true → H' a = some o
  tab : ∀ P, GxR.TabG H P → GxR.TabG H' P
  gone : ∀ a, H' a = none → H a = none
theorem Sm.keep {H H' : Hp} (s : Sm H H') (a : Addr) (o : HO) (h : H a = some o) (nt : notTbl o = true := by rfl) : H' a = some o := s.keep0 a o h nt
theorem Sm.fn {H H' : Hp} (s : Sm H H') (a : Addr) (o : HO) [n : NT o] (h : H a = some o) : H' a = some o := s.keep0 a o h n.is
instance smFn {H H' : Hp} : CoeFun (Sm H H') (fun _ => ∀ (a : Addr) (o : HO) [NT o], H a = some o → H' a = some o) := ⟨fun s => @Sm.fn H H' s⟩
theorem Sm.refl (H : Hp) : Sm H H := ⟨fun _ _ h _ => h, fun _ h => h, fun _ h => h⟩
theorem Sm.trans {H H1 H2 : Hp} (a : Sm H H1) (b : Sm H1 H2) : Sm H H2 := ⟨fun c o h n => b.keep c o (a.keep c o h n) n, fun P h => b.tab P (a.tab P h), fun c h => a.gone c (b.gone c h)⟩
theorem Sm.free {H H' : Hp} (e : Sm H H') {l : Addr} (h : H' l = none) : H l = none := e.gone l h
theorem Sm.seq {K : PySem.W.Frag} {H H' : Hp} {a : Addr} {xs : List V} (e : Sm H H') (h : SqL K H a xs) : SqL K H' a xs := by
  rcases h with (h | ⟨o, h⟩) | h
  · exact .inl (.inl (e _ _ h))
  · exact .inl (.inr ⟨o, e _ _ h⟩)
  · exact .inr h
/-- a table stands apart from what is written -/
theorem TabG.upd {H : Hp} {P p : Addr} {o : HO} (h : GxR.TabG H P) (hp : ∀ qs, H p ≠ some (.tbl qs)) : GxR.TabG (upd H p o) P := by
  obtain ⟨ps, h1, h2⟩ := h
  have ne : P ≠ p := fun e => by
    rw [e] at h1
    exact hp ps h1
  exact ⟨ps, by rw [upd_ne ne]; exact h1, h2⟩
theorem Sm.new {H : Hp} {p : Addr} {o : HO} (h : H p = none) : Sm H (upd H p o) := ⟨fun a u e _ => by
  rw [upd_ne (ne_of_none e h)]
  exact e, fun P t => TabG.upd t (fun qs z => by rw [h] at z; cases z), fun a ha => by
  by_cases e : a = p
  · rw [e]
    exact h
  · rw [upd_ne e] at ha
    exact ha⟩
theorem Sm.over {H H' : Hp} {p : Addr} {o : HO} (S : Sm H H') (h : H p = none) (ht : ∀ qs, H' p ≠ some (.tbl qs)) : Sm H (upd H' p o) := by
  refine ⟨fun b u e n => ?_, fun P t => TabG.upd (S.tab P t) ht, fun b e => ?_⟩
  · rw [upd_ne (ne_of_none e h)]
    exact S.keep b u e n
  · by_cases z : b = p
    · rw [z]; exact h
    · rw [upd_ne z] at e
      exact S.gone b e
/-- a table grew -/
theorem Sm.tabbed {H H' : Hp} {P : Addr} (t : GxR.TabG H P) (h : GxR.Tabbed P H H') : Sm H H' := by
  obtain ⟨ps, h1, h2⟩ := t
  refine ⟨fun a o e n => ?_, fun Q q => ?_, fun a e => ?_⟩
  · have ne : a ≠ P := fun z => by
      rw [z, h1] at e
      rw [← Option.some.inj e] at n
      cases n
    rw [h.2 a ne]
    exact e
  · by_cases e : Q = P
    · rw [e]
      exact h.1
    · obtain ⟨qs, q1, q2⟩ := q
      exact ⟨qs, by rw [h.2 Q e]; exact q1, q2⟩
  · by_cases z : a = P
    · obtain ⟨qs, q1, _⟩ := h.1
      rw [z, q1] at e
      cases e
    · rw [h.2 a z] at e
      exact e
/-! ### the bag, and heaps in which it alone was turned -/
def LIM : Nat := 1000000000
/-- the bag at b: how many draws were mixed is at most m -/
def Bag (H : Hp) (b : Addr) (m : Nat) : Prop := ∃ x y z : Int, H b = some (.lst [.int x, .int y, .int z]) ∧ 0 ≤ y ∧ y < 2 ^ 200 ∧ 0 ≤ z ∧ z ≤ m
structure Go (b : Addr) (n : Nat) (H H' : Hp) : Prop where
  keep0 : ∀ (a : Addr) (o : HO), a ≠ b → H a = some o → notTbl o = true → H' a = some o
  bag : ∀ m, Bag H b m → Bag H' b (m + n)
  tab : ∀ P, GxR.TabG H P → GxR.TabG H' P
  gone : ∀ a, H' a = none → H a = none
theorem Go.keep {b : Addr} {n : Nat} {H H' : Hp} (G : Go b n H H') (a : Addr) (o : HO) (ne : a ≠ b) (h : H a = some o) (nt : notTbl o = true := by rfl) : H' a = some o := G.keep0 a o ne h nt
theorem Bag.mono {H : Hp} {b : Addr} {m n : Nat} (h : Bag H b m) (l : m ≤ n) : Bag H b n := by
  obtain ⟨x, y, z, h1, h2, h3, h4, h5⟩ := h
  exact ⟨x, y, z, h1, h2, h3, h4, by omega⟩
theorem Bag.some {H : Hp} {b : Addr} {m : Nat} (h : Bag H b m) : ∃ xs, H b = some (.lst xs) := by
  obtain ⟨x, y, z, h1, _⟩ := h
  exact ⟨_, h1⟩
theorem Go.refl (b : Addr) (H : Hp) : Go b 0 H H := ⟨fun _ _ _ h _ => h, fun _ h => h, fun _ h => h, fun _ h => h⟩
theorem Go.trans {b : Addr} {n m : Nat} {H H1 H2 : Hp} (x : Go b n H H1) (y : Go b m H1 H2) : Go b (n + m) H H2 :=
  ⟨fun a o e h n => y.keep a o e (x.keep a o e h n) n, fun k h => by
    have z := y.bag _ (x.bag k h)
    exact z.mono (by omega), fun P h => y.tab P (x.tab P h), fun a h => x.gone a (y.gone a h)⟩
theorem Go.mono {b : Addr} {n m : Nat} {H H' : Hp} (x : Go b n H H') (l : n ≤ m) : Go b m H H' := ⟨x.keep0, fun k h => (x.bag k h).mono (by omega), x.tab, x.gone⟩
theorem Go.same {b : Addr} {H H' : Hp} (s : Sm H H') : Go b 0 H H' := ⟨fun a o _ h n => s.keep a o h n, fun m h => by
  obtain ⟨x, y, z, h1, h2⟩ := h
  exact ⟨x, y, z, s _ _ h1, h2⟩, s.tab, s.gone⟩
theorem Go.new {b : Addr} {H : Hp} {p : Addr} {o : HO} (h : H p = none) : Go b 0 H (upd H p o) := Go.same (Sm.new h)
/-- a thing that is no list stands apart from the bag -/
theorem Go.at {b : Addr} {n m : Nat} {H H' : Hp} (G : Go b n H H') (B : Bag H b m) {a : Addr} {o : HO} (h : H a = some o) (no : ∀ xs, o ≠ .lst xs) (nt : notTbl o = true := by rfl) : H' a = some o := by
  refine G.keep a o (fun e => ?_) h nt
  obtain ⟨xs, hx⟩ := B.some
  rw [e, hx] at h
  exact no xs (Option.some.inj h).symm
theorem Go.seqT {K : PySem.W.Frag} {b : Addr} {n m : Nat} {H H' : Hp} (G : Go b n H H') (B : Bag H b m) {a : Addr} {xs : List V} (h : SqT K H a xs) : SqT K H' a xs := by
  rcases h with (h | ⟨o, h⟩) | h
  · exact .inl (.inl (G.at B h fun _ z => by cases z))
  · exact .inl (.inr ⟨o, G.at B h fun _ z => by cases z⟩)
  · exact .inr h
theorem Go.frz {b : Addr} {n m : Nat} {H H' : Hp} (G : Go b n H H') (B : Bag H b m) {a : Addr} {ob : Obj} {u : HO} (h : H a = some (.frz ob u)) : H' a = some (.frz ob u) := G.at B h fun _ z => by cases z
theorem Sm.seqT {K : PySem.W.Frag} {H H' : Hp} (e : Sm H H') {a : Addr} {xs : List V} (h : SqT K H a xs) : SqT K H' a xs := by
  rcases h with (h | ⟨o, h⟩) | h
  · exact .inl (.inl (e _ _ h))
  · exact .inl (.inr ⟨o, e _ _ h⟩)
  · exact .inr h
/-- what was free behind is free ahead -/
theorem Go.free {b : Addr} {n m : Nat} {H H' : Hp} (G : Go b n H H') (B : Bag H b m) {p : Addr} (h : H' p = none) : H p = none := G.gone p h
theorem Bag.ne {H : Hp} {b p : Addr} {m : Nat} (B : Bag H b m) (h : H p = none) : p ≠ b := fun e => by
  obtain ⟨xs, hx⟩ := B.some
  rw [← e, h] at hx
  cases hx
/-- a new list's own address may be written: the rest goes on -/
theorem Go.own {b : Addr} {n m : Nat} {H H' : Hp} {p : Addr} {o : HO} (G : Go b n H H') (B : Bag H b m) (h : H p = none) (hp' : ∀ qs, H' p ≠ some (.tbl qs)) : Go b n H (upd H' p o) := by
  have hp := B.ne h
  refine ⟨fun a u e ha nt => ?_, fun k hk => ?_, fun P t => TabG.upd (G.tab P t) hp', fun a ha => ?_⟩
  · rw [upd_ne (ne_of_none ha h)]
    exact G.keep a u e ha nt
  · obtain ⟨x, y, z, h1, h2⟩ := G.bag k hk
    exact ⟨x, y, z, by rw [upd_ne (Ne.symm hp)]; exact h1, h2⟩
  · by_cases e : a = p
    · rw [e]
      exact h
    · rw [upd_ne e] at ha
      exact G.gone a ha
theorem no_tbl {H : Hp} {p : Addr} {xs : List V} (h : H p = some (.lst xs)) : ∀ qs, H p ≠ some (.tbl qs) := fun qs z => by
  rw [h] at z
  cases z
/-! ### the rules over K alone (within a comprehension's block the context's own K is the same) -/
section
variable {X : Cx} (K : PySem.W.Frag)
theorem ixL (h : X.K = K := by rfl) : IxR X (rIxL K) := h ▸ ix_list
theorem ixT (h : X.K = K := by rfl) : IxR X (rIxT K) := h ▸ ix_tup
theorem eqD (hu : X.A.units + 64 < cLine) (h : X.K = K := by rfl) : OpR X (compareOp .Eq) (rEqD K) := h ▸ op_eqD hu
theorem neD (hu : X.A.units + 64 < cLine) (h : X.K = K := by rfl) : OpR X (compareOp .NotEq) (rNeD K) := h ▸ op_neD hu
def rLenQ (K : PySem.W.Frag) : List V → Hp → VK → Prop := fun xs H Q => ∃ p ys, xs = [.ref p] ∧ (SqL K H p ys ∨ SqT K H p ys) ∧ Q (.int ys.length) H
theorem lenQ (h : X.K = K := by rfl) : CallR X (.builtin "len") (rLenQ K) := h ▸ call_len_seq
def rLenT1 : List V → Hp → VK → Prop := fun xs H Q => ∃ z, xs = [.str z] ∧ z.length ≤ sizeLine ∧ Q (.int z.length) H
theorem lenT : CallR X (.builtin "len") rLenT1 := call_len_str
theorem slL (h : X.K = K := by rfl) : SlR X (rSlL K) := h ▸ sl_list
theorem slT (h : X.K = K := by rfl) : SlR X (rSlA K) := h ▸ sl_tupA
theorem catA (h : X.K = K := by rfl) : OpR X (binaryOp .Add) (rCatA K) := h ▸ op_catA
theorem inQ (h : X.K = K := by rfl) : OpR X (compareOp .In) (rIn K false) := h ▸ op_in_seq
theorem ninQ (h : X.K = K := by rfl) : OpR X (compareOp .NotIn) (rIn K true) := h ▸ op_notIn_seq
def rListOf (K : PySem.W.Frag) : List V → Hp → VK → Prop := fun xs H Q => ∃ p ys, xs = [.ref p] ∧ (SqL K H p ys ∨ SqT K H p ys) ∧ ∀ l, H l = none → Q (.ref l) (upd H l (.lst ys))
theorem listOf (h : X.K = K := by rfl) : CallR X (.type "list") (rListOf K) := h ▸ call_list_of
def rTupOf (K : PySem.W.Frag) : List V → Hp → VK → Prop := fun xs H Q => ∃ p ys, xs = [.ref p] ∧ ((SqL K H p ys ∧ ∀ l, H l = none → Q (.ref l) (upd H l (.tup ys))) ∨ (SqT K H p ys ∧ Q (.ref p) H))
theorem tupOf (h : X.K = K := by rfl) : CallR X (.type "tuple") (rTupOf K) := h ▸ call_tuple_of
theorem isI (h : X.K = K := by rfl) : CallR X (.builtin "isinstance") (rIsi K) := h ▸ call_isi
end
/-! ### defs whose code object is known; the end of a law with tables -/
structure Ftc (K : PySem.W.Frag) (mg : Str → Option Value) (x : Str) (st : Stmt) (ps : List Str) (c : Addr) : Prop where
  ex : ∃ (f : Addr) (oc : Value) (od : Option Addr) (kV doc pm : Value) (an : Option Addr) (ct : Value) (osl : Array (Option Value)),
    K.lookup f = some ⟨oc, od, .func (PySem.W.fnOf x x (defArgs st) (defBody st) (defScope st) .none kV doc pm an (.ref c) ct), osl⟩ ∧ PySem.W.codeIn K (.ref c) x = true ∧ PySem.W.keepIn K (.ref f) = true ∧ mg x = some (.ref f) ∧ Binds K (PySem.W.fnOf x x (defArgs st) (defBody st) (defScope st) .none kV doc pm an (.ref c) ct) ps []
section
variable {P : Program} {w : World} {K : PySem.W.Frag} {mg : Str → Option Value} {base : Heap}
theorem Ftc.cal {x : Str} {st : Stmt} {N ps : List Str} {c : Addr} {sp : Sp} {k : Nat} (F : Ftc K mg x st ps c) (S : FnScope N ps (defScope st)) (len : ∀ vs H Q E, sp vs H Q E → vs.length = ps.length)
    (h : ∀ (f : Addr) (A : Around) (outer : List Env) (s : Shared) (H : Hp) (vs : List V) (Q : VK) (E : XK), Room k (A.deeper (PyProof.Rows.envOfC x (defScope st) s.heap.objs.size f (.ref c))) → sp vs H Q E →
      ∃ t, PSs (cxOf CX0 P w K mg base N x (defScope st) f (.ref c) A outer s H E).nox (defBody st) t ∧ t { nx := fun _ H' => Q .non H', rt := Q } (start N vs) H) : Cal P w K mg base (k + 1) x ps sp := by
  obtain ⟨f, oc, od, kV, doc, pm, an, ct, osl, lk, hcd, kp, g, b⟩ := F.ex
  refine ⟨f, _, fn_of lk hcd S len (fun A outer s H vs Q E hr hsp => ?_), kp, g, b, oc, od, osl, lk⟩
  obtain ⟨t, h1, q⟩ := h f A outer s H vs Q E hr hsp
  exact ⟨t, h1.nox, q⟩
end
def hdOk (vs : Array Value) (c P : Addr) : Bool := (match (vs[11]? : Option Value) with | some (.ref P') => P' == P | _ => false) &&
  (match vs.getD 18 .none with | .str _ _ => true | _ => false) && (match vs.getD 7 .none with | .int _ _ => true | _ => false) &&
  (match vs.getD 9 .none with | .bool _ => true | _ => false) && (match vs.getD 10 .none with | .int _ _ => true | _ => false) && c != P
theorem hdOk_ok {K : PySem.W.Frag} {c P : Addr} {vs : Array Value} {dd : Option Addr} {sl : Array (Option Value)} (h : K.lookup c = some ⟨.type "code", dd, .fields vs, sl⟩) (o : hdOk vs c P = true) : PySem.W.codeHdIn K c P = true := by
  unfold PySem.W.codeHdIn
  rw [h]
  exact o
theorem tri0 : TriplesOk (#[] : Array Value).toList := by
  first
    | trivial
    | exact .nil
    | simp [TriplesOk]
    | decide
def OwnTabs (q : Program) (K : PySem.W.Frag) (mg : Str → Option Value) (h : Heap) : Prop := ∀ (x : Str) (f : Addr), ((PyProof.Rows.recsOf q).any fun e => e.name == x) = true → mg x = some (.ref f) → LamX.OwnTab K f h
theorem walk_ofAll {l : PySem.W.OpenLaw} {n k : Nat} {q : Program} {loose : List Str} {XP : (Str → Option Value) → Heap → Prop} {YP : World → Heap → Prop} {d : DefRec} {K : Params → PySem.W.Frag} {CX : World → CXT} {x : Str}
    (hn : l.most = some n) (hn2 : n ≤ sizeLine) (hdf : d.params.defaults = []) (hr : Room k callerA) (hY : ∀ (w : World) (h : Heap), YP w h → (K w.params).In h)
    (F : ∀ (w : World) (mg : Str → Option Value) (fa : Addr) (h : Heap), YP w h → (K w.params).In h → h.Ns mainGlobals mg → mg d.name = some (.ref fa) → OwnTabs q (K w.params) mg h → LamX.LawAtS l w (K w.params) (CX w) k n x mg fa h)
    (hCX : ∀ (w : World) (H : Hp) (s : Shared) (e : Value) (s' : Shared), CX w [] H s (fun _ _ _ => False) e s' → False) :
    PySem.W.WalkO q loose XP YP l.row.toRowW d [] (fun f vs => PySem.call f vs) := by
  refine Att.attach_callB hn hdf fun w s₀ s₁ mg mb fa o pm cd doc a vs ns G Y ho hd hcd hmg hobj hints hlen hbits hg => ?_
  have KX := hY w _ Y
  have own : OwnTabs q (K w.params) mg s₁.heap := fun x f hrec hx c P o1 fd1 e dd vs1 sl k1 k2 k3 k4 k5 => by
    obtain ⟨dL, hm, hn1⟩ := List.any_eq_true.mp hrec
    have hn2 : dL.name = x := beq_iff_eq.mp hn1
    obtain ⟨a', o', fd', c', P', h1, h2, h3, h4, h5, h6⟩ := G.T.tab dL hm
    rw [hn2, hx] at h1
    cases h1
    have g1 := KX _ _ k1
    rw [g1] at h2
    cases h2
    rw [k2] at h3
    cases h3
    rw [k3] at h4
    cases h4
    obtain ⟨⟨oc, vc, e1, _, e3, e4⟩, hP⟩ := h6
    have g2 := KX _ _ k4
    rw [g2] at e1
    cases e1
    cases e3
    rw [k5] at e4
    cases e4
    exact hP
  obtain ⟨fd, cs, sp, hT, nT, C, hb, hsp, hF⟩ := F w mg fa _ Y KX G.T.g hmg own
  exact LamX.law_callTs KX G.T.g G.T.b G.T.builtins G.T.nolimit hg hT nT C G.T.bmain hobj hints (Nat.le_trans hlen hn2) hr hF hb (fun H hH hS => hsp H a ns hlen hbits hH hS) fun H e s' => hCX w H s₁ e s'
/-! ### all(e for x in it): the generator expression's own frame, its elements by rules (they may call) -/
namespace GA
open PySem PySem.Spec PyProof.Rows L2 GenW
/-- the context of a generator expression's frame: s, H: as it began; pn: the generator itself -/
abbrev genX (X : Cx) (A' : Around) (s : Shared) (H : Hp) (cenv : Env) (fp : List Addr) (pn : List (Addr × Obj)) : Cx :=
  { X with A := A', s_0 := s, H_0 := H, env := cenv, outer := X.stack, stack := cenv :: X.stack, ex := fp, fn := fun _ => false, pn := pn, xe := fun _ _ => False }
abbrev genE (X : Cx) (scope : Scope) (C : Addr) (code : Value) : Env := genEnv scope (cloFrom X.env.cells scope.names []) C code builtinsNs X.env
section
variable {X : Cx} {pins : List (Addr × Obj)} {σ : L2.St} {H : Hp} {s : Shared}
theorem gen_start {scope : Scope} {own : List (Str × Nat)} {fp : List Addr} {A' : Around} {code : Value} {gs : GenState} {a : Addr} {gobj : Obj} {h5 : Heap} {tk : Nat} (I : Inv X pins σ H s) (ok : BlkOk X.N X.env.scope scope own) (hN : X.N.Nodup) (hfp : ∀ b ∈ fp, FpOk X pins H b ∧ b < s.heap.objs.size)
    (hcell : ∀ y ∈ scope.names, y.2 ≠ .cell) (hA : A'.handled = none) (hfr : A'.frames = some (genE X scope s.heap.objs.size code :: X.stack)) (hgs : gs.bare = true) (hsz : s.heap.objs.size < a) (ha : h5.get? a = some gobj) (hgo : ∀ v, gobj.data ≠ .cell v)
    (kp : ∀ b o, s.heap.get? b = some o → h5.get? b = some o) (hns : ∃ m, h5.Ns s.heap.objs.size m) :
    Inv (genX X A' s H (genE X scope s.heap.objs.size code) fp [(a, gobj)]) [] (wipe σ (own.map (·.2))) H { s with gens := s.gens.push gs, toks := tk, heap := h5 } := by
  have hfree : ∀ y ∈ scope.names, y.2 = .free → ∃ c, X.env.cells.lookup y.1 = some c := fun y hy e => by
    rcases ok.free y hy e with k | k
    · exact I.ok.has _ (.inl k)
    · exact I.ok.has _ (.inr k)
  generalize hcenv : genE X scope s.heap.objs.size code = cenv at hfr ⊢
  have hL : cenv.locals = s.heap.objs.size := by rw [← hcenv]; rfl
  have hcl : cenv.cells = cloFrom X.env.cells scope.names [] := by rw [← hcenv]; rfl
  have hsc : cenv.scope = scope := by rw [← hcenv]; rfl
  have cm : ∀ {y c}, (y, c) ∈ cloFrom X.env.cells scope.names [] → X.env.cells.lookup y = some c ∧ c < s.heap.objs.size := fun {y c} hm => by
    rcases cloFrom_mem hm with hm | ⟨h1, rfl⟩
    · cases hm
    · obtain ⟨c, hc⟩ := hfree _ h1 rfl
      rw [hc]
      obtain ⟨w, z⟩ := I.cell _ _ hc
      exact ⟨rfl, z.lt⟩
  have mem : ∀ {y c}, cenv.cells.lookup y = some c → X.env.cells.lookup y = some c ∧ c < s.heap.objs.size := fun {y c} e => by
    rw [hcl] at e
    exact cm (PySem.mem_of_lookup e)
  have look : ∀ {y}, scope.names.lookup y = some .free → ∃ c, cenv.cells.lookup y = some c ∧ X.env.cells.lookup y = some c := fun {y} hl => by
    have hy : (y, NameKind.free) ∈ scope.names := PySem.mem_of_lookup hl
    obtain ⟨c', e'⟩ := mem_lookup (cloFrom_has (cells := X.env.cells) (acc := []) hy)
    rw [← hcl] at e'
    exact ⟨c', e', (mem e').1⟩
  have okB : (genX X A' s H cenv fp [(a, gobj)]).Ok := by
    refine ⟨I.ok.mod, by show cenv.scope.kind = _; rw [hsc]; exact ok.kind, by show cenv.globals = _; rw [← hcenv]; exact I.ok.glob, by show cenv.builtins = _; rw [← hcenv]; rfl, by show s.heap.objs.size ≤ cenv.locals; rw [hL]; exact Nat.le_refl _,
      fun y z c e1 e2 => ?_, fun y hy => ?_, fun y c z e => (by cases z), fun _ => hA, hfr, .inr ⟨rfl, ?_⟩, fun b hb => ⟨?_, fun y c e z => ?_⟩, I.bs, Nat.le_trans I.ok.bsz I.sz, fun b o e hb => ?_, fun b hb z => ?_, I.stack, I.stkFree⟩
    · exact I.ok.inj y z c (mem (show cenv.cells.lookup y = some c from e1)).1 (mem (show cenv.cells.lookup z = some c from e2)).1
    · show ∃ c, cenv.cells.lookup y = some c
      have key : cenv.kindOf y = some .free → ∃ c, cenv.cells.lookup y = some c := fun hk => by
        unfold Env.kindOf at hk
        rw [hsc] at hk
        obtain ⟨c, h1, _⟩ := look hk
        exact ⟨c, h1⟩
      rcases hy with hy | hy
      · exfalso
        have hy : cenv.scope.names.lookup y = some .cell := hy
        rw [hsc] at hy
        exact hcell _ (PySem.mem_of_lookup hy) rfl
      · exact key hy
    · show cenv.frame = some cenv.locals
      rw [← hcenv]
      rfl
    · show b ≠ cenv.locals
      rw [hL]; exact Nat.ne_of_lt (hfp b hb).2
    · have e : cenv.cells.lookup y = some c := e
      exact (hfp b hb).1.2.2.2.2.1 y c (mem e).1 z
    · rcases (hfp b hb).1.2.2.2.1 with z | z
      · exact I.ok.noex b o e z
      · exact absurd (Nat.lt_of_lt_of_le (Heap.lt_size e) (Nat.le_trans I.ok.bsz z)) (Nat.lt_irrefl _)
    · rcases List.mem_cons.mp (I.stkSub b z) with z | z
      · exact (hfp b hb).1.2.1 z
      · exact (hfp b hb).1.2.2.1 z
  obtain ⟨mm, hmm⟩ := hns
  refine ⟨okB, rfl, I.bare.push hgs, Un.kept kp, ⟨mm, ?_, fun i y av e1 e2 e3 => ?_⟩, fun y c e => ?_, ?_, fun y c e => ?_, fun p hp => ?_, I.hok.kept kp, by rw [wipe_length]; exact I.len⟩
  · show Heap.Ns _ cenv.locals _
    rw [hL]
    exact hmm
  · obtain ⟨e2, hne⟩ := wipe_some e2
    have hfr : scope.names.lookup y = some .free := by
      have key : ∀ k, scope.names.lookup y = some k → k = .local ∨ k = .cell ∨ k = .free → scope.names.lookup y = some .free := fun k hk hk' => by
        have no : ¬ (k = .local ∨ k = .cell) := fun hh => by
          rcases ok.own _ (PySem.mem_of_lookup hk) hh with e' | e'
          · obtain ⟨p, hp, hpy⟩ := List.mem_map.mp e'
            have e3 := ok.ix p hp
            have : p.1 = y := hpy
            rw [this] at e3
            exact hne (List.mem_map.mpr ⟨p, hp, nodup_ix hN e3 e1⟩)
          · exact e' (List.mem_of_getElem? e1)
        rcases hk' with rfl | rfl | rfl
        · exact absurd (.inl rfl) no
        · exact absurd (.inr rfl) no
        · exact hk
      have e3 : Vis cenv.scope y := e3
      rw [hsc] at e3
      rcases e3 with e3 | e3 | e3
      · exact key _ e3 (.inl rfl)
      · exact key _ e3 (.inr (.inl rfl))
      · exact key _ e3 (.inr (.inr rfl))
    obtain ⟨m, hn, hl⟩ := I.loc
    have hvis : Vis X.env.scope y := (ok.free _ (PySem.mem_of_lookup hfr) rfl).elim (fun k => .inr (.inl k)) (fun k => .inr (.inr k))
    obtain ⟨w, r, q⟩ := hl i y av e1 e2 hvis
    refine ⟨w, r, .inr ⟨.inr ?_, ?_⟩⟩
    · show cenv.kindOf y = some .free
      unfold Env.kindOf
      rw [hsc]
      exact hfr
    · obtain ⟨c, h1, h2⟩ := look hfr
      rcases q with ⟨k, _⟩ | ⟨_, c', e', z⟩
      · have k : X.env.scope.names.lookup y = some .local := k
        rcases ok.free _ (PySem.mem_of_lookup hfr) rfl with k' | k' <;> rw [show X.env.scope.names.lookup y = _ from k'] at k <;> cases k
      · rw [h2] at e'; cases e'
        exact ⟨c, h1, z.keeps kp⟩
  · have e : cenv.cells.lookup y = some c := e
    obtain ⟨w, z⟩ := I.cell y c (mem e).1
    exact ⟨w, z.keeps kp⟩
  · show H cenv.locals = none
    rw [hL]; exact I.hok.fresh (Nat.le_refl _)
  · have e : cenv.cells.lookup y = some c := e
    exact I.freeC y c (mem e).1
  · have hp' : p = (a, gobj) := List.mem_singleton.mp (by simpa using hp)
    subst hp'
    refine ⟨ha, I.hok.fresh (Nat.le_of_lt hsz), ?_, (fun z => by
      rcases List.mem_cons.mp (I.stkSub a z) with z | z
      · have q := I.lt
        rw [← z] at q
        exact absurd (Nat.lt_trans q hsz) (Nat.lt_irrefl _)
      · exact I.nofs (Nat.le_of_lt hsz) z), hgo⟩
    show a ≠ cenv.locals
    rw [hL]
    exact Nat.ne_of_gt hsz
/-- only generators, tokens, draws turned -/
theorem regens {s' : Shared} (I : Inv X pins σ H s) (ho : s'.os = s.os) (hh : s'.heap = s.heap) (hg : AllBare s'.gens) : Inv X pins σ H s' := by
  obtain ⟨h', g', d', t', o'⟩ := s'
  have e : o' = s.os := ho
  have e2 : h' = s.heap := hh
  subst e e2
  exact I.step (g' := g') (t' := t') (d' := d') (ch := []) (fun b hb => absurd hb (by simp)) (fun b o _ _ _ q _ => q) (fun b o _ _ _ q _ => ⟨o.slots, q⟩) (fun _ _ _ _ n => n) (fun b o _ q => ⟨o, q⟩) (fun _ _ q => q) (fun _ _ _ q => q) (fun b ps q => ⟨#[], by rw [q]; simp⟩) (fun m hm => hm) I.hok hg
end
/-! ### the loop of the frame, handing out a truth a turn -/
/-- the end of the frame: all items were walked -/
def Rg (Xg : Cx) (σw : L2.St) (Qt : Hp → Prop) : GenEnd := fun _ _ r s => r = .ok .next ∧ ∃ H', Inv Xg [] σw H' s ∧ Qt H'
/-- a truth is handed out: False ends it, behind True it goes on -/
def Yg (Xg : Cx) (σw : L2.St) (Qf : Hp → Prop) : Protocol := fun _ _ v s kap => ∃ (b : Bool) (H' : Hp) (pins' : List (Addr × Obj)) (σ' : L2.St), v = .bool b ∧ Inv Xg pins' σ' H' s ∧ (b = false → Qf H') ∧
  (b = true → ∀ s', s'.os = s.os → s'.heap = s.heap → AllBare s'.gens → kap (.send .none) s')
/-- the invariant of the turns -/
def TurnsG (J : It) (g : TG) (te : TE) (own : List Nat) (σ : L2.St) (Qt Qf : Hp → Prop) (W : Nat → Nat → Hp → Prop) : Prop := ∀ i m H, W i m H →
  (J.stop i H ∧ Qt H) ∨ (J.go i H ∧ ∃ Nx : Hp → Prop, (∀ H', Nx H' → ∃ m', m' < m ∧ W (i + 1) m' H') ∧ ∀ x H', J.yld i H x H' → g x (wipe σ own) H' fun σ2 H2 => wipe σ2 own = wipe σ own ∧ te σ2 H2 fun y H3 => ∃ b : Bool, y = .bl b ∧ if b = true then Nx H3 else Qf H3)
section
variable {X : Cx} {σ : L2.St} {elt tg iter : Expr} {scope : Scope} {pos : Pos} {it : Addr} {ce : Env} {fp : List Addr} {pn : List (Addr × Obj)} {sB : Shared} {HB : Hp} {Ar : Around} {J : It} {tn : Nat → Heap → Prop} {g : TG} {te : TE} {own : List Nat} {Qt Qf : Hp → Prop} {W : Nat → Nat → Hp → Prop}
theorem seg_allLoop (hc : X.calm = true) (T : Turn X.prog X.w X.K tg J fp it tn) (hW : TurnsG J g te own σ Qt Qf W) (hco : ce.scope.isCoroutine = false) (hpn : ∀ p ∈ pn, p.1 ∉ fp)
    (pg : PG (genX X (Ar.over (.compLoop (.GeneratorExp elt [⟨tg, iter, [], 0⟩] scope pos) 0 (.ref it) .none ce) []) sB HB ce fp pn) tg g) (pe : PE (genX X (Ar.over (.compLoop (.GeneratorExp elt [⟨tg, iter, [], 0⟩] scope pos) 0 (.ref it) .none ce) []) sB HB ce fp pn) elt te) :
    ∀ (k i m : Nat) (s₀ s : Shared) (H : Hp), m < k → W i m H → Inv (genX X (Ar.over (.compLoop (.GeneratorExp elt [⟨tg, iter, [], 0⟩] scope pos) 0 (.ref it) .none ce) []) sB HB ce fp pn) [] (wipe σ own) H s → tn i s.heap → (∀ b ∈ fp, H b = none) →
      Seg (model X.prog X.w) Ar (Rg (genX X (Ar.over (.compLoop (.GeneratorExp elt [⟨tg, iter, [], 0⟩] scope pos) 0 (.ref it) .none ce) []) sB HB ce fp pn) (wipe σ own) Qt) (Yg (genX X (Ar.over (.compLoop (.GeneratorExp elt [⟨tg, iter, [], 0⟩] scope pos) 0 (.ref it) .none ce) []) sB HB ce fp pn) (wipe σ own) Qf) k s₀ (.compLoop (.GeneratorExp elt [⟨tg, iter, [], 0⟩] scope pos) 0 (.ref it) .none ce) ((model X.prog X.w).den (.compLoop (.GeneratorExp elt [⟨tg, iter, [], 0⟩] scope pos) 0 (.ref it) .none ce)) [] s := by
  have stat : ∀ {σ' : L2.St} {H' : Hp} {s' : Shared}, Inv (genX X (Ar.over (.compLoop (.GeneratorExp elt [⟨tg, iter, [], 0⟩] scope pos) 0 (.ref it) .none ce) []) sB HB ce fp pn) [] σ' H' s' → (∀ b ∈ fp, H' b = none) → ∀ b ∈ fp, FpOk (genX X (Ar.over (.compLoop (.GeneratorExp elt [⟨tg, iter, [], 0⟩] scope pos) 0 (.ref it) .none ce) []) sB HB ce fp pn) [] H' b := fun {σ' H' s'} I' hn b hb =>
    ⟨hn b hb, (I'.ok.exf b hb).1, I'.ok.exfs b hb, .inl hb, fun x c e => (I'.ok.exf b hb).2 x c e, fun p hp z => by
      have hp' : p ∈ pn := by simpa using hp
      rw [← z] at hb
      exact hpn p hp' hb⟩
  intro k
  induction k with
  | zero => intro i m s₀ s H hm; omega
  | succ k ih =>
    intro i m s₀ s H hm w I st nf
    show Seg _ Ar _ _ _ s₀ _ ((compTurn (.GeneratorExp elt [⟨tg, iter, [], 0⟩] scope pos) 0 (.ref it) .none ce).onRaise (leaving ce)) [] s
    rw [compTurn_gen, Sem.onRaise_eq_wrap]
    refine seg_bind_wrap (wpAny_standAt ?_)
    rcases hW i m H w with ⟨stop, qt⟩ | ⟨go, Nx, hNx, step⟩
    · refine seg_bind_wrap (wpAny_mono (T.done (genX X (Ar.over (.compLoop (.GeneratorExp elt [⟨tg, iter, [], 0⟩] scope pos) 0 (.ref it) .none ce) []) sB HB ce fp pn) rfl rfl rfl hc i [] s _ H (fun _ _ => False) I (stat I nf) st stop) (fun r s6 ⟨hr, I6⟩ => ?_) fun _ _ e => e.elim)
      subst hr
      exact seg_end (.ok .next) ⟨rfl, H, I6, qt⟩
    · refine seg_bind_wrap (wpAny_mono (T.item (genX X (Ar.over (.compLoop (.GeneratorExp elt [⟨tg, iter, [], 0⟩] scope pos) 0 (.ref it) .none ce) []) sB HB ce fp pn) rfl rfl rfl hc i [] s _ H (fun _ _ => False) I (stat I nf) st go) (fun r s6 ⟨u, hr, h6⟩ => ?_) fun _ _ e => e.elim)
      subst hr
      refine seg_bind_wrap (wpAny_mono h6 (fun _ s7 ⟨x, H7, I7, r7, y7, st7, n7⟩ => ?_) fun _ _ e => e.elim)
      have I7' := I7.pinned (stat I7 n7) (T.obj _ _ st7)
      refine seg_bind_wrap (wpAny_mono (pg.run _ s7 _ H7 x u _ I7' r7 (step x H7 y7)) (fun _ s8 ⟨σ8, H8, I8, hw8, q8⟩ => ?_) fun _ _ e => e.elim)
      refine seg_bind_wrap ?_
      simp only [List.forIn_nil]
      refine wpAny_pure ?_
      simp only [if_true]
      have hy : ∀ v, yieldOut ce v = yieldValue v := fun v => by simp only [yieldOut, hco, Bool.false_eq_true, if_false]
      simp only [hy]
      rw [Sem.bind_eq_wrap', Sem.bind_eq_wrap', Sem.wrap_wrap, Sem.wrap_wrap]
      refine seg_wrap (wpAny_mono (pe.run _ s8 σ8 H8 _ I8 q8) (fun y s9 ⟨yv, H9, I9, r9, b, eb, q9⟩ => ?_) fun _ _ e => e.elim)
      subst eb
      obtain rfl : y = Value.bool b := r9
      refine seg_at (seg_yield rfl rfl rfl ⟨b, H9, _, σ8, rfl, I9, fun e => ?_, fun e s'' ho hh hg => ?_⟩)
      · subst e
        simpa using q9
      · subst e
        simp only [if_true] at q9
        obtain ⟨m', hm', w'⟩ := hNx H9 q9
        have I9' := regens I9 ho hh hg
        have pin' : ∀ b ∈ fp, ∀ o, s7.heap.get? b = some o → s''.heap.get? b = some o ∧ H9 b = none := fun b hb o e =>
          let z := I9'.pin (b, o) (List.mem_append_right _ (List.mem_append_right _ (mem_pinsAt hb e)))
          ⟨z.1, z.2.1⟩
        have hl : (wipe σ own).length = σ8.length := by rw [← hw8, wipe_length]
        refine seg_again rfl (ih (i + 1) m' s'' s'' H9 (by omega) w' ((I9'.unpinned (pins := [])).weak hl (fun j v e => ?_)) (T.keep _ _ _ st7 fun b hb o e => (pin' b hb o e).1) fun b hb => ?_)
        · rw [← hw8] at e
          exact (wipe_some e).1
        · obtain ⟨o, e, _⟩ := T.obj _ _ st7 b hb
          exact (pin' b hb o e).2
theorem seg_allStart (T : Turn X.prog X.w X.K tg J fp it tn) {R : GenEnd} {Y : Protocol} {k : Nat} {s₀ s : Shared} (st : tn 0 s.heap)
    (loop : Seg (model X.prog X.w) Ar R Y k s₀ (.compLoop (.GeneratorExp elt [⟨tg, iter, [], 0⟩] scope pos) 0 (.ref it) .none ce) ((model X.prog X.w).den (.compLoop (.GeneratorExp elt [⟨tg, iter, [], 0⟩] scope pos) 0 (.ref it) .none ce)) [] s) : Seg (model X.prog X.w) Ar R Y k s₀ (.compStart (.GeneratorExp elt [⟨tg, iter, [], 0⟩] scope pos) 0 (.ref it) .none ce) ((model X.prog X.w).den (.compStart (.GeneratorExp elt [⟨tg, iter, [], 0⟩] scope pos) 0 (.ref it) .none ce)) [] s := by
  show Seg _ Ar _ _ _ s₀ _ ((compStart (.GeneratorExp elt [⟨tg, iter, [], 0⟩] scope pos) 0 (.ref it) .none ce).onRaise (leaving ce)) [] s
  unfold compStart
  rw [Sem.onRaise_eq_wrap]
  show Seg _ Ar _ _ _ s₀ _ ((ask >>= _).wrap _ _ _ _) [] s
  refine seg_bind_wrap (wpAny_askSetting ?_)
  split
  · exact seg_again rfl loop
  · first
      | exact seg_bind_wrap (wpAny_rule (seg_bind_wrap (wpAny_standAt (seg_bind_wrap (T.self _ 0 s _ _ st (seg_again rfl loop))))))
      | (refine seg_bind_wrap (wpAny_rule ?_); show Seg _ Ar _ _ _ s₀ _ ((standAt iter.pos >>= _).wrap _ _ _ _) [] s; exact seg_bind_wrap (wpAny_standAt (seg_bind_wrap (T.self _ 0 s _ _ st (seg_again rfl loop)))))
/-- the consumer: all -/
theorem all_loop {A : Around} {R : Result → Shared → Prop} {a : Addr} {gn : Nat} {gobj : Obj} (hh : A.handled = none) (hd : A.depth < recursionLimit) (hpn : pn = [(a, gobj)]) (hgen : ∀ h : Heap, h.get? a = some gobj → h.IsGen a gn)
    (hT : ∀ (s1 : Shared) (H' : Hp), Inv (genX X (A.in1.in1.over (.compLoop (.GeneratorExp elt [⟨tg, iter, [], 0⟩] scope pos) 0 (.ref it) .none ce) []) sB HB ce fp pn) [] (wipe σ own) H' s1 → Qt H' → ∀ h' : Heap, (∀ b o, s1.heap.get? b = some o → h'.get? b = some o) → R (.ok (.ret (.bool true))) { s1.setGen gn .finished with heap := h' })
    (hF : ∀ (s1 : Shared) (H' : Hp) (pins' : List (Addr × Obj)) (σ' : L2.St) (gs' : GenState), gs'.bare = true → Inv (genX X (A.in1.in1.over (.compLoop (.GeneratorExp elt [⟨tg, iter, [], 0⟩] scope pos) 0 (.ref it) .none ce) []) sB HB ce fp pn) pins' σ' H' s1 → Qf H' → R (.ok (.ret (.bool false))) (s1.setGen gn gs')) :
    ∀ (k : Nat) (s : Shared), s.heap.IsGen a gn → s.heap.NoLimit →
      (∃ gs, s.gens[gn]? = some gs ∧ gs.Goes (model X.prog X.w) A.in1.in1 (Rg (genX X (A.in1.in1.over (.compLoop (.GeneratorExp elt [⟨tg, iter, [], 0⟩] scope pos) 0 (.ref it) .none ce) []) sB HB ce fp pn) (wipe σ own) Qt) (Yg (genX X (A.in1.in1.over (.compLoop (.GeneratorExp elt [⟨tg, iter, [], 0⟩] scope pos) 0 (.ref it) .none ce) []) sB HB ce fp pn) (wipe σ own) Qf) k (.send .none) (s.setGen gn .running)) →
      codeAny (model X.prog X.w) A (.builtin "all.loop" ⟨[.ref a], []⟩) R s := by
  intro k
  induction k with
  | zero =>
    intro s hg hl ⟨gs, hgs, hgo⟩
    refine codeAny_builtin F.entry_all_loop ?_
    rw [Around.under_plainId F.plain_all_loop _]
    show wpAny _ A.in1 (pyNext (.ref a) >>= _) _ _ s
    refine wpAny_bind (wpAny_pyNext_genexpQ (A := A.in1) (P := fun _ _ s => ∃ H', Inv (genX X (A.in1.in1.over (.compLoop (.GeneratorExp elt [⟨tg, iter, [], 0⟩] scope pos) 0 (.ref it) .none ce) []) sB HB ce fp pn) [] (wipe σ own) H' s ∧ Qt H') hh hl hd hg hgs hgo (fun v s1 gs' hb hv => ?_) (fun s1 hp h' hk => ?_))
    · obtain ⟨b, H', pins', σ', rfl, I1, hf, ht⟩ := hv
      refine wpAny_bind (wpAny_holding (wpAny_truthy_bool ?_))
      refine wpAny_bind (wpAny_letGo ?_)
      cases b with
      | true => exact (ht rfl s1 rfl rfl I1.bare).elim
      | false =>
        simp only [Bool.false_eq_true, if_false]
        exact wpAny_bind (wpAny_rule (wpAny_pure (hF s1 H' pins' σ' gs' hb I1 (hf rfl))))
    · obtain ⟨H', I1, qt⟩ := hp
      exact wpAny_bind (wpAny_rule (wpAny_pure (hT s1 H' I1 qt h' hk)))
  | succ k ih =>
    intro s hg hl ⟨gs, hgs, hgo⟩
    have hgl : gn < s.gens.size := (Array.getElem?_eq_some_iff.mp hgs).1
    refine codeAny_builtin F.entry_all_loop ?_
    rw [Around.under_plainId F.plain_all_loop _]
    show wpAny _ A.in1 (pyNext (.ref a) >>= _) _ _ s
    refine wpAny_bind (wpAny_gsz (n := gn + 1) hgl (wpAny_pyNext_genexpQ (A := A.in1) (P := fun _ _ s => ∃ H', Inv (genX X (A.in1.in1.over (.compLoop (.GeneratorExp elt [⟨tg, iter, [], 0⟩] scope pos) 0 (.ref it) .none ce) []) sB HB ce fp pn) [] (wipe σ own) H' s ∧ Qt H') hh hl hd hg hgs hgo (fun v s1 gs' hb hv => ?_) (fun s1 hp h' hk => ?_)))
    · intro hsz
      obtain ⟨b, H', pins', σ', rfl, I1, hf, ht⟩ := hv
      refine wpAny_bind (wpAny_holding (wpAny_truthy_bool ?_))
      refine wpAny_bind (wpAny_letGo ?_)
      cases b with
      | true =>
        simp only [if_true]
        have hsz1 : gn < s1.gens.size := by
          have q : (s1.setGen gn gs').gens.size = s1.gens.size := setGen_size _ _ _
          have hsz' : gn + 1 ≤ (s1.setGen gn gs').gens.size := hsz
          omega
        have ha : s1.heap.get? a = some gobj := (I1.pin (a, gobj) (List.mem_append_left _ (by rw [hpn]; exact List.mem_singleton.mpr rfl))).1
        refine wpAny_pure ⟨plainId_quiet F.plain_all_loop _, ih (s1.setGen gn gs') (hgen _ ha) I1.nolimit ⟨gs', setGen_at hsz1, ?_⟩⟩
        exact ht rfl _ rfl rfl (allBare_setGen (s := s1.setGen gn gs') (allBare_setGen I1.bare hb) rfl)
      | false =>
        simp only [Bool.false_eq_true, if_false]
        exact wpAny_bind (wpAny_rule (wpAny_pure (hF s1 H' pins' σ' gs' hb I1 (hf rfl))))
    · intro hsz
      obtain ⟨H', I1, qt⟩ := hp
      exact wpAny_bind (wpAny_rule (wpAny_pure (hT s1 H' I1 qt h' hk)))
end
/-- all(e for tg in iter); behind its making the def's table may have grown -/
def tAllG (P : Addr) (wi : TI) (g : TG) (te : TE) (own : List Nat) : TE := fun σ H Q => wi σ H fun J H1 => GxR.TabG H1 P ∧ ∀ H2, GxR.Tabbed P H1 H2 → ∃ W : Nat → Nat → Hp → Prop, (∃ m, W 0 m H2) ∧ TurnsG J g te own σ (Q (.bl true)) (Q (.bl false)) W
section
variable {X : Cx} {c P : Addr} {elt tg iter : Expr} {p pos gpos : Pos} {scope : Scope} {own : List (Str × Nat)} {wi : TI} {g : TG} {te : TE} {k : Nat}
def gobjOf (gn : Nat) (nm qn : Value) : Obj := { cls := .type "generator", data := .fields #[.int gn 0, nm, qn] }
theorem gen_made {pins : List (Addr × Obj)} {σ : L2.St} {H : Hp} {s : Shared} {Q' : Value → Shared → Prop} {R : It → Hp → Prop} (hr : Room (k + 1) X.A) (TB : GxR.TabB X.base X.mg c P) (hN : X.N.Nodup) (ok : BlkOk X.N X.env.scope scope own) (hcell' : (scope.names.all fun y => decide (y.2 ≠ .cell)) = true) (hi : PI X tg iter wi)
    (hcode : X.env.code = .ref c) (hco : scope.isCoroutine = false) (h0 : scope.names.lookup (".0" : Str) = some NameKind.local) (hs : ∀ v, genFold iter X.env v = pure v) (I : Inv X pins σ H s) (h : wi σ H fun J H1 => GxR.TabG H1 P ∧ R J H1)
    (hQ : ∀ (J : It) (H1 HB : Hp) (sB s5 : Shared) (it : Addr) (fp : List Addr) (tn : Nat → Heap → Prop) (a : Addr) (gobj : Obj) (gn : Nat) (code : Value), R J H1 → GxR.Tabbed P H1 HB → Inv X pins σ HB sB → Turn X.prog X.w X.K tg J fp it tn →
      (∀ b ∈ fp, FpOk X pins HB b ∧ b < sB.heap.objs.size) → tn 0 s5.heap → (∃ nm qn, gobj = gobjOf gn nm qn) → s5.heap.get? a = some gobj → a ∉ fp → s5.gens[gn]? = some (.fresh (.compStart (.GeneratorExp elt [⟨tg, iter, [], 0⟩] scope gpos) 0 (.ref it) .none (genE X scope sB.heap.objs.size code))) →
      Inv (genX X (X.A.in1.in1.over (.compLoop (.GeneratorExp elt [⟨tg, iter, [], 0⟩] scope gpos) 0 (.ref it) .none (genE X scope sB.heap.objs.size code)) []) sB HB (genE X scope sB.heap.objs.size code) fp [(a, gobj)]) [] (wipe σ (own.map (·.2))) HB s5 → Q' (.ref a) s5) :
    wpAny (model X.prog X.w) X.A (eval (.GeneratorExp elt [⟨tg, iter, [], 0⟩] scope gpos) X.env) Q' X.xe s := by
  have hcell : ∀ y ∈ scope.names, y.2 ≠ .cell := fun y hy => of_decide_eq_true (List.all_eq_true.mp hcell' y hy)
  have hfree : ∀ y ∈ scope.names, y.2 = .free → ∃ c, X.env.cells.lookup y.1 = some c := fun y hy e => by
    rcases ok.free y hy e with k | k
    · exact I.ok.has _ (.inl k)
    · exact I.ok.has _ (.inr k)
  refine wpAny_GeneratorExp_make hco (closure_ok hfree) hcell h0 ok.kind (by have := hr.dp; omega) ?_ hs
  refine thn (hi.run pins s σ H _ I h) fun xv s1 hx => thn hx fun itv s2 h2 => ?_
  obtain ⟨it, fp, tn, J, H2, rfl, I2, T, st2, f2, ⟨ps, hP, ht⟩, q⟩ := h2
  have hPs : s2.heap.get? P = some { cls := .none, data := .fields ps } := I2.hok P _ hP
  have cd : PySem.W.CodeHd s2.heap c P := TB.code.keeps fun b u e => I2.bk b u e
  refine ⟨I2.nolimit, ?_⟩
  have sz : ∀ b ∈ fp, b < s2.heap.objs.size := fun b hb => by
    obtain ⟨o, e, _⟩ := T.obj _ _ st2 b hb
    exact Heap.lt_size e
  have nP : ∀ b ∈ fp, b ≠ P := fun b hb z => by
    have := (f2 b hb).1
    rw [z, hP] at this
    cases this
  have cont : ∀ (code : Value) (h3 : Heap) (tk : Nat) (ps' : Array Value), Heap.ExtBut P s2.heap h3 → s2.heap.objs.size ≤ h3.objs.size → h3.get? P = some { cls := .none, data := .fields ps' } → (∃ more, ps' = ps ++ more) → TriplesOk ps'.toList →
      wpAny (model X.prog X.w) X.A (builtinsFor X.env.globals X.env.builtins) (fun bi s₄ =>
        ∀ h', h'.Ns s₄.heap.objs.size (fun y => if y = ".0" then some (Value.ref it) else none) → Heap.SameBut s₄.heap.objs.size (s₄.heap.push { cls := .type "frame", data := .dict #[] }) h' →
          Q' (.ref h'.objs.size) { s₄ with
            gens := s₄.gens.push (.fresh (.compStart (.GeneratorExp elt [⟨tg, iter, [], 0⟩] scope gpos) 0 (.ref it) .none (genEnv scope (cloFrom X.env.cells scope.names []) s₄.heap.objs.size code bi X.env))),
            toks := s₄.toks + 1 + 1 + 1,
            heap := h'.push { cls := .type "generator", data := .fields #[.int s₄.gens.size 0, .str "<genexpr>" (s₄.toks + 1), .str (X.env.qual ++ "<genexpr>") (s₄.toks + 1 + 1)] } }) X.xe { s2 with heap := h3, toks := tk } := by
    intro code h3 tk ps' hx hsz hP3 hmore ht3
    obtain ⟨more, em⟩ := hmore
    obtain ⟨bm, ob, e1, e2, e3, e4, e5, e6, e7, e8⟩ := TB.bm
    have I3 := GxR.inv_tab (more := more) (h' := h3) (g' := s2.gens) (d' := s2.drawn) (t' := tk) I2 hP (fun b u hb e => hx b u hb e) (by rw [← em]; exact hP3) I2.bare
    refine wpAny_builtinsFor (m := X.mg) (by rw [I2.ok.glob]; exact (I2.mod.glob.keeps I2.bk).extBut hx TB.gP) e1 e2 (hx _ _ e4 (I2.bk _ _ e5)) e6 e7 e8 ?_
    intro h' hn' hs'
    have hsz' : h'.objs.size = h3.objs.size + 1 := by rw [hs'.1, Heap.size_push]
    have keep' : ∀ b o, h3.get? b = some o → h'.get? b = some o := fun b o e => hs'.extBut b o (Nat.ne_of_lt (Heap.lt_size e)) (Heap.get?_push_of_some _ e)
    have keep5 : ∀ b o, h3.get? b = some o → (h'.push (gobjOf s2.gens.size (.str "<genexpr>" (tk + 1)) (.str (X.env.qual ++ "<genexpr>") (tk + 1 + 1)))).get? b = some o := fun b o e => Heap.get?_push_of_some _ (keep' b o e)
    have fB : ∀ b ∈ fp, FpOk X pins (upd H2 P (.tbl (ps ++ more))) b ∧ b < h3.objs.size := fun b hb => by
      refine ⟨⟨?_, (f2 b hb).2⟩, Nat.lt_of_lt_of_le (sz b hb) hsz⟩
      rw [upd_ne (nP b hb)]
      exact (f2 b hb).1
    have st3 : tn 0 h3 := T.keep _ _ _ st2 fun b hb o e => hx b o (nP b hb) e
    have st5 : tn 0 (h'.push (gobjOf s2.gens.size (.str "<genexpr>" (tk + 1)) (.str (X.env.qual ++ "<genexpr>") (tk + 1 + 1)))) := T.keep _ _ _ st3 fun b _ o e => keep5 b o e
    refine hQ J H2 (upd H2 P (.tbl (ps ++ more))) _ _ it fp tn h'.objs.size _ s2.gens.size code q ⟨⟨ps ++ more, upd_same, by rw [← em]; exact ht3⟩, fun b hb => upd_ne hb⟩ I3 T fB st5 ⟨_, _, rfl⟩ (Heap.get?_push_size _ rfl) (fun hb => ?_) (Array.getElem?_push_size ..) ?_
    · have q1 : h'.objs.size < h3.objs.size := (fB _ hb).2
      rw [hsz'] at q1
      exact absurd (Nat.lt_trans (Nat.lt_succ_self _) q1) (Nat.lt_irrefl _)
    · refine gen_start (code := code) I3 ok hN fB hcell hr.hd ?_ rfl (by show h3.objs.size < h'.objs.size; omega) (Heap.get?_push_size _ rfl) (fun v z => by cases z) keep5 ⟨_, hn'.push _⟩
      show pushEnvs [_] (pushEnvs [] X.A.frames) = _
      rw [I.ok.frames]
      rfl
  cases hf : codeAmong gpos ps.toList with
  | none =>
    refine wpAny_genexprCodeX hcode (cd.code hPs ht) (cd.tab hPs) hf fun c' h' tk hx hge hlt hco' _ htab' _ => ?_
    obtain ⟨o1, vs, f1, tf, fl, tg, inF, tx, tt, op, _, _, _, _, _, _, _, _, _, htr, _⟩ := hco'
    exact cont _ h' tk _ hx (Nat.le_trans hge (Nat.le_of_lt hlt)) htab'.2 ⟨_, rfl⟩ htr
  | some cv =>
    refine wpAny_genexprCode_hit hcode (cd.code hPs ht) hf ?_
    exact cont cv s2.heap s2.toks ps (Heap.ExtBut.refl _ _) (Nat.le_refl _) hPs ⟨#[], by simp⟩ ht
theorem pe_allG (hr : Room (k + 1) X.A) (TB : GxR.TabB X.base X.mg c P) (hN : X.N.Nodup) (ok : BlkOk X.N X.env.scope scope own) (hcell' : (scope.names.all fun y => decide (y.2 ≠ .cell)) = true) (hi : PI X tg iter wi) (hm : X.mg "all" = none)
    (hgt : ∀ (A' : Around) (s : Shared) (H : Hp) (C : Addr) (code : Value) (fp : List Addr) (pn : List (Addr × Obj)), Room k A' → PG (genX X A' s H (genE X scope C code) fp pn) tg g)
    (he : ∀ (A' : Around) (s : Shared) (H : Hp) (C : Addr) (code : Value) (fp : List Addr) (pn : List (Addr × Obj)), Room k A' → PE (genX X A' s H (genE X scope C code) fp pn) elt te)
    (hcode : X.env.code = .ref c := by rfl) (hc : X.calm = true := by rfl) (hg : Gl X "all" := by rfl) (hco : scope.isCoroutine = false := by rfl) (h0 : scope.names.lookup (".0" : Str) = some NameKind.local := by rfl)
    (hs : ∀ v, genFold iter X.env v = pure v := by intro _; rfl)
    (hse : starEach [(.GeneratorExp elt [⟨tg, iter, [], 0⟩] scope gpos)] X.env = (false, eval (.GeneratorExp elt [⟨tg, iter, [], 0⟩] scope gpos) X.env) :: starEach [] X.env := by rfl) :
    PE X (.Call (.Name "all" p) [(.GeneratorExp elt [⟨tg, iter, [], 0⟩] scope gpos)] [] pos) (tAllG P wi g te (own.map (·.2))) := by
  refine ⟨fun pins s σ H Q I h => ?_⟩
  refine wpAny_Call_Name_kw (ld_blt I hg hm (show bootBuiltins "all" = some (.builtin "all") by decide +kernel) ?_)
  refine PyProof.Rows.callWith_builtin1 ?_ hse (by rfl)
  rw [hse]
  show wpAny _ _ (spliced ((false, eval (.GeneratorExp elt [⟨tg, iter, [], 0⟩] scope gpos) X.env) :: backTo pos (starEach [] X.env))) _ _ s
  refine Calls.spliced_cons (gen_made hr TB hN ok hcell' hi hcode hco h0 hs I h fun J H1 HB sB s5 it fp tn a gobj gn code q hTb IB T fB st5 hgo ha haf hgs I5 => ?_)
  refine Calls.spliced_nil ?_
  obtain ⟨W, ⟨m0, w0⟩, turns⟩ := q HB hTb
  obtain ⟨nm, qn, rfl⟩ := hgo
  have hgen : ∀ h : Heap, h.get? a = some (gobjOf gn nm qn) → h.IsGen a gn := fun h e => ⟨_, nm, qn, e, rfl, rfl, rfl⟩
  have hA : Room k (X.A.in1.in1.over (.compLoop (.GeneratorExp elt [⟨tg, iter, [], 0⟩] scope gpos) 0 (.ref it) .none (genE X scope sB.heap.objs.size code)) []) := by
    refine ⟨hr.hd, ?_, ?_⟩
    · have := hr.dp
      show X.A.depth + 0 + 1 + 3 * k + 5 < _
      omega
    · have := hr.un
      show X.A.units + 1 + 1 + 0 + 3 + 16 * k + 200 < _
      omega
  have back : ∀ {s1 : Shared} {H' : Hp} {pins' : List (Addr × Obj)} {σ' : L2.St} (s' : Shared), Inv (genX X (X.A.in1.in1.over (.compLoop (.GeneratorExp elt [⟨tg, iter, [], 0⟩] scope gpos) 0 (.ref it) .none (genE X scope sB.heap.objs.size code)) []) sB HB (genE X scope sB.heap.objs.size code) fp [(a, gobjOf gn nm qn)]) pins' σ' H' s1 → s'.os = s1.os → (∀ b o, s1.heap.get? b = some o → s'.heap.get? b = some o) → AllBare s'.gens → Inv X pins σ H' s' :=
    fun s' I1 ho hk hgb => IB.call' (ch := fp) (ho.trans I1.os) (I1.base.trans (Un.kept hk)) (I1.hok.kept hk) hgb fun b hb => ⟨(fB b hb).1.2.2.2.1, (fB b hb).1.2.1, (fB b hb).1.2.2.2.2.1, (fB b hb).1.2.2.2.2.2⟩
  refine call_function_tree F.kind_all F.plain_all F.entry_all (F.args_all1 _) ?_
  unfold Builtin.«all»
  refine wpAny_bind (m := oneArg "all" _) (wpAny_pure ?_)
  refine wpAny_bind (wpAny_pyIter_gen (hgen _ ha) ?_)
  refine wpAny_pure ⟨plainId_quiet F.plain_all_loop _, all_loop (X := X) (sB := sB) (HB := HB) (own := own.map (·.2)) (σ := σ) (Qt := Q (.bl true)) (Qf := Q (.bl false)) (fp := fp) (pn := [(a, gobjOf gn nm qn)]) (gobj := gobjOf gn nm qn) (ce := (genE X scope sB.heap.objs.size code)) (tg := tg) (iter := iter) (elt := elt) (scope := scope) (pos := gpos) (it := it) hr.hd (by have := hr.dp; omega) rfl hgen
    (fun s1 H' I1 qt h' hk => ?_) (fun s1 H' pins' σ' gs' hb I1 qf => ?_) (m0 + 1) s5 (hgen _ ha) I5.nolimit ⟨_, hgs, rfl, ?_⟩⟩
  · exact ⟨.bl true, H', back _ I1 rfl hk (allBare_setGen I1.bare rfl), rfl, qt⟩
  · exact ⟨.bl false, H', back _ I1 rfl (fun _ _ e => e) (allBare_setGen I1.bare hb), rfl, qf⟩
  · have I5' := regens (s' := s5.setGen gn .running) I5 rfl rfl (allBare_setGen I5.bare rfl)
    refine seg_allStart T st5 (seg_allLoop (own := own.map (·.2)) hc T turns hco (fun p hp => ?_) (hgt _ _ _ _ _ _ _ hA) (he _ _ _ _ _ _ _ hA) (m0 + 1) 0 m0 _ _ HB (Nat.lt_succ_self _) w0 I5' st5 fun b hb => (fB b hb).1.1)
    rw [List.mem_singleton.mp hp]
    exact haf
end
end GA
def top (i : Nat) : Stmt := PySem.Challenge.pw_stemkeep_k05_whole_one_order.main.body.getD i (.Pass ⟨0, 0, 0, 0⟩)
abbrev sNumberOf : Stmt := top 2
theorem scNumberOf : FnScope ["worth", "start", "end", "number"] ["worth"] (defScope sNumberOf) := ⟨rfl, rfl, rfl, by decide +kernel, rfl, by decide +kernel, by decide +kernel⟩
abbrev sNumberOfFigures : Stmt := top 3
theorem scNumberOfFigures : FnScope ["figures", "first", "number", "at"] ["figures"] (defScope sNumberOfFigures) := ⟨rfl, rfl, rfl, by decide +kernel, rfl, by decide +kernel, by decide +kernel⟩
abbrev sNumberText : Stmt := top 4
theorem scNumberText : FnScope ["number", "left", "pieces", "figures", "low"] ["number"] (defScope sNumberText) := ⟨rfl, rfl, rfl, by decide +kernel, rfl, by decide +kernel, by decide +kernel⟩
abbrev sIsNumberText : Stmt := top 5
theorem scIsNumberText : FnScope ["worth", "figures", "sign"] ["worth"] (defScope sIsNumberText) := ⟨rfl, rfl, rfl, by decide +kernel, rfl, by decide +kernel, by decide +kernel⟩
abbrev sKeyRank : Stmt := top 6
theorem scKeyRank : FnScope ["key"] ["key"] (defScope sKeyRank) := ⟨rfl, rfl, rfl, by decide +kernel, rfl, by decide +kernel, by decide +kernel⟩
abbrev sBefore : Stmt := top 7
theorem scBefore : FnScope ["one", "other"] ["one", "other"] (defScope sBefore) := ⟨rfl, rfl, rfl, by decide +kernel, rfl, by decide +kernel, by decide +kernel⟩
abbrev sInOrder : Stmt := top 8
theorem scInOrder : FnScope ["keys"] ["keys"] (defScope sInOrder) := ⟨rfl, rfl, rfl, by decide +kernel, rfl, by decide +kernel, by decide +kernel⟩
abbrev sLawCellAt : Stmt := top 10
theorem scLawCellAt : FnScope ["script", "k"] ["script", "k"] (defScope sLawCellAt) := ⟨rfl, rfl, rfl, by decide +kernel, rfl, by decide +kernel, by decide +kernel⟩
abbrev sLawBag : Stmt := top 11
theorem scLawBag : FnScope ["cell", "nth"] ["cell", "nth"] (defScope sLawBag) := ⟨rfl, rfl, rfl, by decide +kernel, rfl, by decide +kernel, by decide +kernel⟩
abbrev sLawDraw : Stmt := top 12
theorem scLawDraw : FnScope ["bag", "many", "mixed", "found"] ["bag", "many"] (defScope sLawDraw) := ⟨rfl, rfl, rfl, by decide +kernel, rfl, by decide +kernel, by decide +kernel⟩
abbrev sLawSigns : Stmt := top 13
theorem scLawSigns : FnScope ["few"] [] (defScope sLawSigns) := ⟨rfl, rfl, rfl, by decide +kernel, rfl, by decide +kernel, by decide +kernel⟩
abbrev sLawText : Stmt := top 14
theorem scLawText : FnScope ["bag", "most", "lot", "some", "many", "number", "near", "k"] ["bag", "most"] (defScope sLawText) := ⟨rfl, rfl, rfl, by decide +kernel, rfl, by decide +kernel, by decide +kernel⟩
abbrev sLawKey : Stmt := top 15
theorem scLawKey : FnScope ["bag", "found"] ["bag"] (defScope sLawKey) := ⟨rfl, rfl, rfl, by decide +kernel, rfl, by decide +kernel, by decide +kernel⟩
abbrev sLawMixed : Stmt := top 16
theorem scLawMixed : FnScope ["bag", "keys", "left", "turn"] ["bag", "keys"] (defScope sLawMixed) := ⟨rfl, rfl, rfl, by decide +kernel, rfl, by decide +kernel, by decide +kernel⟩
abbrev sLawThreeRight : Stmt := top 17
theorem scLawThreeRight : FnScope ["a", "b", "c"] ["a", "b", "c"] (defScope sLawThreeRight) := ⟨rfl, rfl, rfl, by decide +kernel, rfl, by decide +kernel, by decide +kernel⟩
abbrev sLaw : Stmt := top 18
theorem scLaw : FnScope ["script", "k", "bag", "keys", "row", "marks", "numbers", "turn", "three", "more", "j", "key"] ["script"] (defScope sLaw) := ⟨rfl, rfl, rfl, by decide +kernel, rfl, by decide +kernel, by decide +kernel⟩
structure Tabs where
  c_is_number_text : Addr
  p_is_number_text : Addr
theorem tabB_of {base : Heap} {mg : Str → Option Value} {c P : Addr} (h : LamX.TabB base mg c P) : GxR.TabB base mg c P := ⟨h.code, h.bm, h.gP⟩
structure Txt (K : PySem.W.Frag) (mg : Str → Option Value) (cs : Tabs) : Prop where
  f_number_of : Ftx K mg "number_of" sNumberOf ["worth"]
  f_number_of_figures : Ftx K mg "_number_of_figures" sNumberOfFigures ["figures"]
  f_number_text : Ftx K mg "number_text" sNumberText ["number"]
  f_is_number_text : Ftc K mg "is_number_text" sIsNumberText ["worth"] cs.c_is_number_text
  f_key_rank : Ftx K mg "key_rank" sKeyRank ["key"]
  f_before : Ftx K mg "before" sBefore ["one", "other"]
  f_in_order : Ftx K mg "in_order" sInOrder ["keys"]
  f_law_cell_at : Ftx K mg "_law_cell_at" sLawCellAt ["script", "k"]
  f_law_bag : Ftx K mg "_law_bag" sLawBag ["cell", "nth"]
  f_law_draw : Ftx K mg "_law_draw" sLawDraw ["bag", "many"]
  f_law_signs : Ftx K mg "_law_signs" sLawSigns []
  f_law_text : Ftx K mg "_law_text" sLawText ["bag", "most"]
  f_law_key : Ftx K mg "_law_key" sLawKey ["bag"]
  f_law_mixed : Ftx K mg "_law_mixed" sLawMixed ["bag", "keys"]
  f_law_three_right : Ftx K mg "_law_three_right" sLawThreeRight ["a", "b", "c"]
  f_law : Ftx K mg "law" sLaw ["script"]
  n_int : mg "int" = none
  n_range : mg "range" = none
  n_abs : mg "abs" = none
  n_sorted : mg "sorted" = none
  n_list : mg "list" = none
  n_len : mg "len" = none
  n_divmod : mg "divmod" = none
  n_str : mg "str" = none
  n_all : mg "all" = none
  n_max : mg "max" = none
  n_min : mg "min" = none
  g__FIGURES : ∃ u, mg "_FIGURES" = some u ∧ RelV (.str "0123456789") u
structure TBs (base : Heap) (mg : Str → Option Value) (cs : Tabs) : Prop where
  triv : True
  b_is_number_text : GxR.TabB base mg cs.c_is_number_text cs.p_is_number_text
structure TGs (H : Hp) (cs : Tabs) : Prop where
  triv : True
  t_is_number_text : GxR.TabG H cs.p_is_number_text
theorem TGs.sm {H H' : Hp} {cs : Tabs} (t : TGs H cs) (S : Sm H H') : TGs H' cs := ⟨trivial, S.tab _ t.t_is_number_text⟩
theorem TGs.go {b : Addr} {n : Nat} {H H' : Hp} {cs : Tabs} (t : TGs H cs) (S : Go b n H H') : TGs H' cs := ⟨trivial, S.tab _ t.t_is_number_text⟩
/-! ### a draw -/
def spDraw : Sp := fun vs H Q _ => ∃ (b : Addr) (many : Int) (m : Nat), vs = [.ref b, .int many] ∧ Bag H b m ∧ m ≤ LIM ∧ 0 < many ∧ many < 2 ^ 256 ∧ ∀ (r : Int) (H' : Hp), 0 ≤ r → r < many → Go b 1 H H' → Q (.int r) H'
theorem nat_lt {i : Int} {n : Nat} (h0 : 0 ≤ i) (h : i < ((2 ^ n : Nat) : Int)) : i.natAbs < 2 ^ n := by omega
theorem draw_set {b : Addr} {m : Nat} {H : Hp} {x y z x' z' : Int} (hb : H b = some (.lst [.int x, .int y, .int z])) (hz : z' = z ∨ z' = z + 1) : Go b 1 H (upd H b (.lst [.int x', .int y, .int z'])) := by
  refine ⟨fun a o e h _ => by rw [upd_ne e]; exact h, fun k hk => ?_, fun P t => TabG.upd t (no_tbl hb), fun a ha => by
    by_cases e : a = b
    · rw [e, upd_same] at ha
      cases ha
    · rw [upd_ne e] at ha
      exact ha⟩
  obtain ⟨x1, y1, z1, h1, h2, h3, h4, h5⟩ := hk
  rw [hb] at h1
  injection h1 with h1
  injection h1 with h1
  injection h1 with e1 h1
  injection h1 with e2 h1
  injection h1 with e3 h1
  injection e1 with e1
  injection e2 with e2
  injection e3 with e3
  subst e1 e2 e3
  exact ⟨x', y, z', upd_same, h2, h3, by omega, by omega⟩
section
variable {P : Program} {w : World} {K : PySem.W.Frag} {mg : Str → Option Value} {base : Heap} {cs : Tabs}
theorem ok_law_draw (T : Txt K mg cs) : Cal P w K mg base 1 "_law_draw" ["bag", "many"] spDraw := by
  refine T.f_law_draw.cal scLawDraw (fun vs H Q E h => ?_) (fun f cdv A outer s H vs Q E hr h => ?_)
  · obtain ⟨b, many, m, rfl, _⟩ := h
    rfl
  obtain ⟨b, many, m, rfl, B, hm, h0, h1, q⟩ := h
  obtain ⟨x, y, z, hb, y0, y1, z0, z1⟩ := id B
  refine ⟨_, (pss_cons (ps_if (pt_cmpR op_gt (pe_ix (ixL K) (pv 0) pe_int (fun _ _ => rfl)) pe_int (nomark _)) (pss_cons (ps_set (i := 3) scLawDraw.nd rfl (by first | exact Or.inl rfl | exact Or.inr rfl) (pe_op op_mod (pe_ix (ixL K) (pv 0) pe_int (fun _ _ => rfl)) (pv 1)))
        (pss_cons (ps_asg (pe_op op_fdivW (pe_ix (ixL K) (pv 0) pe_int (fun _ _ => rfl)) (pv 1)) (pg_sub (pv 0) pe_int set_list))
        (pss_one (ps_ret (pv 3))))) pss_nil)
    (pss_cons (ps_asg (pe_op op_add (pe_ix (ixL K) (pv 0) pe_int (fun _ _ => rfl)) pe_int) (pg_sub (pv 0) pe_int set_list))
    (pss_cons (ps_set (i := 2) scLawDraw.nd rfl (by first | exact Or.inl rfl | exact Or.inr rfl) (pe_op op_mod (pe_op op_powW (pe_op op_add (pe_ix (ixL K) (pv 0) pe_int (fun _ _ => rfl)) (pe_op op_mulW pe_int (pe_ix (ixL K) (pv 0) pe_int (fun _ _ => rfl)))) pe_int) pe_int))
    (pss_cons (ps_set (i := 2) scLawDraw.nd rfl (by first | exact Or.inl rfl | exact Or.inr rfl) (pe_op op_mod (pe_op op_powW (pe_op op_add (pv 2) (pe_op op_mulW pe_int (pe_ix (ixL K) (pv 0) pe_int (fun _ _ => rfl)))) pe_int) pe_int))
    (pss_one (ps_ret (pe_op op_mod (pe_op op_fdivW (pv 2) pe_int) (pv 1)))))))), ?_⟩
  have hS : SqL K H b [.int x, .int y, .int z] := SqL.of hb
  have hdiv : CDivW x many := wide_div (b := 256) h0 (nat_lt (by omega) h1) (by decide) (by decide)
  refine ⟨_, rfl, b, _, 0, .int x, rfl, rfl, hS, rfl, x, 1, rfl, rfl, _, rfl, ?_⟩
  refine ite2 (fun c => ?_) (fun c => ?_)
  · refine ⟨_, rfl, b, _, 0, .int x, rfl, rfl, hS, rfl, _, rfl, x, many, rfl, rfl, h0, ?_⟩
    refine ⟨_, rfl, b, _, 0, .int x, rfl, rfl, hS, rfl, _, rfl, x, many, rfl, rfl, hdiv, ?_⟩
    refine ⟨_, rfl, b, [.int x, .int y, .int z], 0, 0, rfl, rfl, hb, rfl, ?_⟩
    exact ⟨_, rfl, q _ _ (Int.emod_nonneg x (by omega)) (Int.emod_lt_of_pos x h0) (draw_set (m := m) hb (.inl rfl))⟩
  · refine ⟨_, rfl, b, _, 2, .int z, rfl, rfl, hS, rfl, z, 1, rfl, rfl, ?_⟩
    refine ⟨_, rfl, b, [.int x, .int y, .int z], 2, 2, rfl, rfl, hb, rfl, ?_⟩
    have hb1 : (upd H b (.lst [.int x, .int y, .int (z + 1)])) b = some (.lst [.int x, .int y, .int (z + 1)]) := upd_same
    have hS1 : SqL K (upd H b (.lst [.int x, .int y, .int (z + 1)])) b [.int x, .int y, .int (z + 1)] := SqL.of hb1
    unfold LIM at hm
    have e3 : ((3 : Int)).toNat = 3 := rfl
    have ez : (z + 1).natAbs < 2 ^ 40 := nat_lt (by omega) (by omega)
    refine ⟨_, rfl, b, _, 1, .int y, rfl, rfl, hS1, rfl, _, rfl, b, _, 2, .int (z + 1), rfl, rfl, hS1, rfl, 67867967, z + 1, rfl, rfl, wide_mul (a := 40) (b := 40) (by decide) ez (by decide) (by decide) (by decide), y, 67867967 * (z + 1), rfl, rfl,
      y + 67867967 * (z + 1), 3, rfl, rfl, ⟨by decide, by decide, pow_ok (n := 300) (nat_lt (by omega) (by omega)) (by decide) (by decide)⟩, _, 170141183460469231731687303715884105727, rfl, rfl, (show (0 : Int) < 170141183460469231731687303715884105727 by decide), ?_⟩
    have r0 := Int.emod_nonneg ((y + 67867967 * (z + 1)) ^ ((3 : Int)).toNat) (show (170141183460469231731687303715884105727 : Int) ≠ 0 by decide)
    have r1 := Int.emod_lt_of_pos ((y + 67867967 * (z + 1)) ^ ((3 : Int)).toNat) (show (0 : Int) < 170141183460469231731687303715884105727 by decide)
    obtain ⟨r, er⟩ : ∃ r : Int, (y + 67867967 * (z + 1)) ^ ((3 : Int)).toNat % 170141183460469231731687303715884105727 = r := ⟨_, rfl⟩
    rw [er] at r0 r1
    refine ⟨_, rfl, _, rfl, b, _, 2, .int (z + 1), rfl, rfl, hS1, rfl, 49979687, z + 1, rfl, rfl, wide_mul (a := 40) (b := 40) (by decide) ez (by decide) (by decide) (by decide), r, 49979687 * (z + 1), congrArg V.int er, rfl,
      r + 49979687 * (z + 1), 3, rfl, rfl, ⟨by decide, by decide, pow_ok (n := 300) (nat_lt (by omega) (by omega)) (by decide) (by decide)⟩, _, 162259276829213363391578010288127, rfl, rfl, (show (0 : Int) < 162259276829213363391578010288127 by decide), ?_⟩
    obtain ⟨t, et⟩ : ∃ t : Int, (r + 49979687 * (z + 1)) ^ ((3 : Int)).toNat % 162259276829213363391578010288127 = t := ⟨_, rfl⟩
    refine ⟨_, rfl, t, 4096, congrArg V.int et, rfl, wide_div (b := 1000) (by decide) (by decide) (by decide) (by decide), _, rfl, t / 4096, many, rfl, rfl, h0, ?_⟩
    exact q _ _ (Int.emod_nonneg _ (by omega)) (Int.emod_lt_of_pos _ h0) (draw_set (m := m) hb (.inr rfl))
end
/-! ### texts, menus, comprehensions of draws -/
/-- a sign of worths -/
def sgn (c : Nat) : Bool := decide (32 ≤ c) && (decide (c ≤ 126) && !decide (c = 37))
/-- a text of signs of worths, of at most n signs -/
structure WT (z : Str) (n : Nat) : Prop where
  len : (tl z).length ≤ n
  sg : ∀ c ∈ tl z, sgn c = true
theorem WT.mono {z : Str} {n m : Nat} (h : WT z n) (l : n ≤ m) : WT z m := ⟨Nat.le_trans h.len l, h.sg⟩
theorem WT.line {z : Str} {n : Nat} (h : WT z n) (l : n ≤ 100000) : z.length ≤ sizeLine := by
  rw [len_tl]
  exact small (Nat.le_trans h.len l)
theorem tl_cut (z : Str) (k : Nat) : tl (cutS z none (some (k : Int))) = (tl z).take k := by
  show (((z.cps.toList.drop (HT.sIx z.length 0 none)).take (HT.sIx z.length z.length (some (k : Int)) - HT.sIx z.length 0 none)).toArray).toList = _
  rw [HT.sIx_none, HT.sIx_nat, List.drop_zero, Nat.sub_zero, List.toList_toArray]
  have e : z.length = (tl z).length := len_tl z
  rw [e]
  show (tl z).take (min k (tl z).length) = _
  by_cases h : k ≤ (tl z).length
  · rw [Nat.min_eq_left h]
  · rw [Nat.min_eq_right (by omega), List.take_of_length_le (Nat.le_refl _), List.take_of_length_le (by omega)]
theorem WT.cut {z : Str} (h : ∀ c ∈ tl z, sgn c = true) (k : Nat) : WT (cutS z none (some (k : Int))) k :=
  ⟨by rw [tl_cut, List.length_take]; exact Nat.min_le_left _ _, fun c hc => h c (by rw [tl_cut] at hc; exact List.mem_of_mem_take hc)⟩
theorem WT.int {i : Int} {k : Nat} (hk : 0 < k) (h : i.natAbs < 10 ^ k) : WT (Str.ofString (toString i)) (k + 1) := by
  refine ⟨?_, fun c hc => ?_⟩
  · rw [← len_tl, PySem.ofString_length]
    exact PySem.int_text_length_le10 hk h
  · have f := fun q hq => PyProof.Rows.int_text_free' q hq i
    have z : ¬ (c ≠ 45 ∧ (c < 48 ∨ 57 < c)) := fun q => f c q hc
    unfold sgn
    by_cases e : c = 45
    · subst e; rfl
    · have q : 48 ≤ c ∧ c ≤ 57 := by omega
      rw [decide_eq_true (show 32 ≤ c by omega), decide_eq_true (show c ≤ 126 by omega), decide_eq_false (show ¬ c = 37 by omega)]
      rfl
theorem joinL_nil : ∀ ps : List (List Nat), joinL [] ps = ps.flatten
  | [] => rfl
  | [p] => by
    show p = [p].flatten
    simp
  | p :: q :: r => by
    show p ++ ([] ++ joinL [] (q :: r)) = _
    rw [joinL_nil (q :: r), List.nil_append]
    rfl
theorem tl_glue (ys : List Str) : tl (Txt.join "" ys) = (ys.map tl).flatten := by
  rw [join_eq, tl_join]
  exact joinL_nil _
theorem flat_len {k : Nat} : ∀ ys : List Str, (∀ y ∈ ys, (tl y).length ≤ k) → (ys.map tl).flatten.length ≤ k * ys.length
  | [], _ => by simp
  | y :: r, h => by
    have a := h y List.mem_cons_self
    have b := flat_len r fun z hz => h z (List.mem_cons_of_mem _ hz)
    rw [List.map_cons, List.flatten_cons, List.length_append, List.length_cons, Nat.mul_succ]
    omega
theorem WT.glue {k : Nat} {ys : List Str} (h : ∀ y ∈ ys, WT y k) : WT (Txt.join "" ys) (k * ys.length) := by
  refine ⟨by rw [tl_glue]; exact flat_len ys fun y hy => (h y hy).len, fun c hc => ?_⟩
  rw [tl_glue] at hc
  obtain ⟨l, hl, hcl⟩ := List.mem_flatten.mp hc
  obtain ⟨y, hy, rfl⟩ := List.mem_map.mp hl
  exact (h y hy).sg c hcl
theorem glue_sum {k : Nat} : ∀ ys : List Str, (∀ y ∈ ys, (tl y).length ≤ k) → (ys.map (·.length)).sum ≤ k * ys.length
  | [], _ => by simp
  | y :: r, h => by
    have a := h y List.mem_cons_self
    have b := glue_sum r fun z hz => h z (List.mem_cons_of_mem _ hz)
    have c : y.length = (tl y).length := len_tl y
    rw [List.map_cons, List.sum_cons, List.length_cons, Nat.mul_succ]
    omega
theorem glue_ok {k n : Nat} {ys : List Str} (h : ∀ y ∈ ys, (tl y).length ≤ k) (hl : ys.length = n) (hb : k * n ≤ 1000000) : (ys.map (·.length)).sum + ys.length * ("" : Str).length ≤ 16777216 := by
  have a := glue_sum ys h
  rw [hl] at a
  have e : ("" : Str).length = 0 := rfl
  rw [e]
  omega
/-- texts as values: what a list of values that are texts holds -/
theorem texts_of {P : Str → Prop} : ∀ vs : List V, (∀ v ∈ vs, ∃ y, v = .str y ∧ P y) → ∃ ys : List Str, vs = ys.map V.str ∧ ys.length = vs.length ∧ ∀ y ∈ ys, P y
  | [], _ => ⟨[], rfl, rfl, fun _ h => by cases h⟩
  | v :: r, h => by
    obtain ⟨y, rfl, hy⟩ := h v List.mem_cons_self
    obtain ⟨ys, rfl, e, hp⟩ := texts_of r fun z hz => h z (List.mem_cons_of_mem _ hz)
    refine ⟨y :: ys, rfl, by rw [List.length_cons, List.length_cons, e], fun z hz => ?_⟩
    rcases List.mem_cons.mp hz with rfl | hz
    · exact hy
    · exact hp z hz
section
variable {K : PySem.W.Frag}
/-- the n-th of a list that is written on the spot, n drawn -/
theorem menuG {A : V → Prop} {b : Addr} {i n c m : Nat} {σ : L2.St} {H : Hp} {ta : TA} {Q : VK} (ha : ∀ R : List V → Hp → Prop, (∀ xs H1, xs.length = n → (∀ v ∈ xs, A v) → Go b c H H1 → R xs H1) → ta σ H R)
    (hb : σ[i]? = some (some (.ref b))) (B : Bag H b m) (hm : m + c ≤ LIM) (h0 : 0 < n) (hn : n ≤ 1000) (q : ∀ v H', A v → Go b (c + 1) H H' → Q v H') : tOp (rIxL K) (tLst ta) (tCall spDraw [] E0 (tCons (tVar i) (tCons (tC (.int ((n : Nat) : Int))) tNil))) σ H Q := by
  refine ha _ fun xs H1 hl hA G => ⟨small (by omega), fun p hp => ?_⟩
  have B1 := (Go.new (o := .lst xs) hp).bag _ (G.bag _ B)
  refine ⟨_, hb, b, (n : Int), _, rfl, B1, by omega, by omega, by omega, fun r H' r0 r1 G' => ?_⟩
  have hp' : (upd H1 p (.lst xs)) p = some (.lst xs) := upd_same
  have np : p ≠ b := (G.bag _ B).ne hp
  obtain ⟨j, rfl⟩ : ∃ j : Nat, r = (j : Int) := ⟨r.toNat, by omega⟩
  have hj : j < xs.length := by omega
  refine ⟨p, xs, (j : Int), xs[j], rfl, rfl, SqL.of (G'.keep p _ np hp'), atI_nat (List.getElem?_eq_getElem hj), ?_⟩
  exact q _ _ (hA _ (List.getElem_mem hj)) ((G.trans ((Go.new hp).trans G')).mono (by omega))
/-- .. of values that are there -/
theorem menuC {A : V → Prop} {b : Addr} {i m : Nat} {xs : List V} {σ : L2.St} {H : Hp} {ta : TA} {Q : VK} (ha : ∀ R : List V → Hp → Prop, R xs H → ta σ H R) (hA : ∀ v ∈ xs, A v)
    (hb : σ[i]? = some (some (.ref b))) (B : Bag H b m) (hm : m ≤ LIM) (h0 : 0 < xs.length) (hn : xs.length ≤ 1000) (q : ∀ v H', A v → Go b 1 H H' → Q v H') : tOp (rIxL K) (tLst ta) (tCall spDraw [] E0 (tCons (tVar i) (tCons (tC (.int ((xs.length : Nat) : Int))) tNil))) σ H Q :=
  menuG (n := xs.length) (c := 0) (fun R h => ha R (h _ _ rfl hA (Go.refl b H))) hb B hm h0 hn fun v H' hv G => q v H' hv (G.mono (by omega))
theorem draw_here {b : Addr} {i m : Nat} {many : Int} {σ : L2.St} {H : Hp} {Q : VK} (hb : σ[i]? = some (some (.ref b))) (B : Bag H b m) (hm : m ≤ LIM) (h0 : 0 < many) (hn : many < 2 ^ 256) (q : ∀ (r : Int) (H' : Hp), 0 ≤ r → r < many → Go b 1 H H' → Q (.int r) H') :
    tCall spDraw [] E0 (tCons (tVar i) (tCons (tC (.int many)) tNil)) σ H Q := ⟨_, hb, b, many, m, rfl, B, hm, h0, hn, q⟩
/-- [e for k in range(n)], e by draws of the bag at b: a new list of n values that are so -/
theorem lc_draws {b : Addr} {i n c m : Nat} {σ : L2.St} {H1 : Hp} {D : Addr} {te : TE} {Q : VK} (A : V → Prop) (B : Bag H1 b m) (hD : H1 D = none) (hn : n ≤ 90000)
    (he : ∀ (j : Nat) (H : Hp), j < n → Bag H b (m + c * j) → Go b (c * j) H1 H → ∀ R : VK, (∀ y H', A y → Go b c H H' → R y H') → te ((σ.set i none).set i (some (.int (0 + (j : Int))))) H R)
    (hQ : ∀ ys H', ys.length = n → (∀ y ∈ ys, A y) → Go b (c * n) H1 H' → H' D = some (.lst ys) → Q (.ref D) H') :
    ∃ W : Nat → Nat → Hp → Prop, (∃ k, W 0 k (upd H1 D (.lst []))) ∧ ∀ j k H, W j k H →
      ((Itr 0 n).stop j H ∧ Q (.ref D) H) ∨ ((Itr 0 n).go j H ∧ ∃ Nx : Hp → Prop, (∀ H', Nx H' → ∃ k', k' < k ∧ W (j + 1) k' H') ∧ ∀ x H', (Itr 0 n).yld j H x H' → gName i x (wipe σ [i]) H' fun σ2 H2 => wipe σ2 [i] = wipe σ [i] ∧ tYes σ2 H2 fun b H3 =>
        if b = true then te σ2 H3 fun y H4 => ∃ acc, H4 D = some (.lst acc) ∧ acc.length < sizeLine ∧ Nx (upd H4 D (.lst (acc ++ [y]))) else Nx H3) := by
  have nD := B.ne hD
  refine lc_range (lo := 0) (n := n) (fun j H => ∃ ys : List V, ys.length = j ∧ (∀ y ∈ ys, A y) ∧ Go b (c * j) H1 H ∧ H D = some (.lst ys)) ⟨[], rfl, fun _ h => (by cases h), ?_, upd_same⟩ (fun j H hj hp => ?_) fun H hp => ?_
  · exact (Go.new hD).mono (by omega)
  · obtain ⟨ys, hl, hA, G, hy⟩ := hp
    refine ⟨?_, ?_⟩
    · show ((wipe σ [i]).set i (some (.int (0 + (j : Int))))).set i none = (σ.set i none)
      show ((σ.set i none).set i (some (.int (0 + (j : Int))))).set i none = (σ.set i none)
      rw [List.set_set, List.set_set]
    · show te ((σ.set i none).set i (some (.int (0 + (j : Int))))) H _
      refine he j H hj (G.bag _ B) G _ fun y H' hy' G' => ⟨ys, G'.keep D _ nD hy, small' (by omega), ys ++ [y], by rw [List.length_append, hl]; rfl, fun z hz => ?_, ?_, upd_same⟩
      · rcases List.mem_append.mp hz with hz | hz
        · exact hA z hz
        · rw [List.mem_singleton.mp hz]
          exact hy'
      · refine Go.own ((G.trans G').mono ?_) B hD (no_tbl (G'.keep D _ nD hy))
        rw [Nat.mul_succ]
        exact Nat.le_refl _
  · obtain ⟨ys, hl, hA, G, hy⟩ := hp
    exact hQ ys H hl hA G hy
theorem lc_drawn {b : Addr} {i N c c0 m : Nat} {σ : L2.St} {H : Hp} {ta : TA} {te : TE} {Q : VK} {A0 : Int → Prop} (A : V → Prop) (ha : ∀ R : List V → Hp → Prop, (∀ (k : Int) H1, A0 k → 0 ≤ k → k ≤ N → Go b c0 H H1 → R [.int k] H1) → ta σ H R) (B : Bag H b m) (hN : N ≤ 90000)
    (he : ∀ (j : Nat) (H2 : Hp), j < N → Bag H2 b (m + c0 + c * j) → Go b (c0 + c * j) H H2 → ∀ R : VK, (∀ y H', A y → Go b c H2 H' → R y H') → te ((σ.set i none).set i (some (.int (0 + (j : Int))))) H2 R)
    (hQ : ∀ (k : Int) D ys H', A0 k → 0 ≤ k → k ≤ N → ys.length = k.toNat → (∀ y ∈ ys, A y) → Go b (c0 + c * k.toNat) H H' → H' D = some (.lst ys) → H D = none → Q (.ref D) H') : tLc (iRng1 ta) (gName i) tYes te [i] σ H Q := by
  refine ha _ fun k H1 hk k0 k1 G => ⟨k, rfl, by omega, by omega, fun D hD => ?_⟩
  have B1 := G.bag _ B
  refine lc_draws (c := c) (i := i) (n := k.toNat) (te := te) A B1 hD (by omega) (fun j H2 hj B2 G2 R hR => ?_) fun ys H' hl hA G' hy => ?_
  · exact he j H2 (by omega) B2 (G.trans G2) R hR
  · exact hQ k D ys H' hk k0 k1 hl hA (G.trans G') hy (G.free B hD)
end
/-! ### the law's cells, bags, texts, names, keys, references -/
def spCellAt (K : PySem.W.Frag) : Sp := fun vs H Q _ => ∃ (a : Addr) (ns : List Int) (k : Nat), vs = [.ref a, .int (k : Int)] ∧ SqL K H a (ns.map V.int) ∧ ∀ c : Int, Q (.int c) H
def spBag : Sp := fun vs H Q _ => ∃ (c : Int) (k : Nat), vs = [.int c, .int (k : Int)] ∧ k ≤ 1000 ∧ ∀ (p : Addr) (H' : Hp), H p = none → Sm H H' → Bag H' p 0 → Q (.ref p) H'
def SIGNS : Str := " !\"#$&'()*+,-./0123456789:;<=>?@ABCDEFGHIJKLMNOPQRSTUVWXYZ[\\]^_`abcdefghijklmnopqrstuvwxyz{|}~"
def spSigns : Sp := fun vs H Q _ => vs = [] ∧ Q (.str SIGNS) H
def spText : Sp := fun vs H Q _ => ∃ (b : Addr) (most m : Nat), vs = [.ref b, .int (most : Int)] ∧ Bag H b m ∧ m + 2000 ≤ LIM ∧ most ≤ 1000 ∧ ∀ (z : Str) (H' : Hp), WT z most → Go b 1100 H H' → Q (.str z) H'
def AZ (c : Nat) : Bool := decide (97 ≤ c) && decide (c ≤ 122)
structure NM (z : Str) : Prop where
  len : (tl z).length ≤ 8
  pos : 1 ≤ (tl z).length
  sg : ∀ c ∈ tl z, AZ c = true
def spName : Sp := fun vs H Q _ => ∃ (b : Addr) (m : Nat), vs = [.ref b] ∧ Bag H b m ∧ m + 2000 ≤ LIM ∧ ∀ (z : Str) (H' : Hp), NM z → Go b 20 H H' → Q (.str z) H'
structure KEY (z : Str) : Prop where
  wt : WT z 40
  pos : 1 ≤ (tl z).length
def spKey : Sp := fun vs H Q _ => ∃ (b : Addr) (m : Nat), vs = [.ref b] ∧ Bag H b m ∧ m + 5000 ≤ LIM ∧ ∀ (z : Str) (H' : Hp), KEY z → Go b 1200 H H' → Q (.str z) H'
/-- a reference stands at p -/
structure RefAt (K : PySem.W.Frag) (H : Hp) (p : Addr) (name : Str) (keys : List Str) : Prop where
  ex : ∃ t : Addr, SqT K H p [.str name, .ref t] ∧ SqT K H t (keys.map V.str)
structure REF (name : Str) (keys : List Str) : Prop where
  nm : NM name
  le : keys.length ≤ 6
  ks : ∀ z ∈ keys, KEY z
def spRef (K : PySem.W.Frag) : Sp := fun vs H Q _ => ∃ (b : Addr) (m : Nat), vs = [.ref b] ∧ Bag H b m ∧ m + 20000 ≤ LIM ∧ ∀ (p : Addr) (name : Str) (keys : List Str) (H' : Hp), REF name keys → RefAt K H' p name keys → Go b 8000 H H' → Q (.ref p) H'
theorem sgn_of {z : Str} (h : (tl z).all sgn = true) : ∀ c ∈ tl z, sgn c = true := fun c hc => List.all_eq_true.mp h c hc
theorem WT.dec {z : Str} {n : Nat} (h : (decide ((tl z).length ≤ n) && (tl z).all sgn) = true) : WT z n := by
  rw [Bool.and_eq_true] at h
  exact ⟨of_decide_eq_true h.1, sgn_of h.2⟩
/-- all of a list of values are texts that are so -/
def allWT (n : Nat) (vs : List V) : Bool := vs.all fun v => match v with
  | .str z => decide ((tl z).length ≤ n) && (tl z).all sgn
  | _ => false
theorem allWT_ok {n : Nat} {vs : List V} (h : allWT n vs = true) : ∀ v ∈ vs, ∃ z, v = .str z ∧ WT z n := fun v hv => by
  have q := List.all_eq_true.mp h v hv
  cases v with
  | str z => exact ⟨z, rfl, WT.dec q⟩
  | _ => cases q
def allInt (lo hi : Int) (vs : List V) : Bool := vs.all fun v => match v with
  | .int z => decide (lo ≤ z) && decide (z ≤ hi)
  | _ => false
theorem allInt_ok {lo hi : Int} {vs : List V} (h : allInt lo hi vs = true) : ∀ v ∈ vs, ∃ z, v = .int z ∧ lo ≤ z ∧ z ≤ hi := fun v hv => by
  have q := List.all_eq_true.mp h v hv
  cases v with
  | int z =>
    have q' : (decide (lo ≤ z) && decide (z ≤ hi)) = true := q
    rw [Bool.and_eq_true] at q'
    exact ⟨z, rfl, of_decide_eq_true q'.1, of_decide_eq_true q'.2⟩
  | _ => cases q
theorem RefAt.go {K : PySem.W.Frag} {b : Addr} {n m : Nat} {H H' : Hp} {p : Addr} {name : Str} {keys : List Str} (R : RefAt K H p name keys) (G : Go b n H H') (B : Bag H b m) : RefAt K H' p name keys := by
  obtain ⟨t, h1, h2⟩ := R.ex
  exact ⟨t, G.seqT B h1, G.seqT B h2⟩
theorem RefAt.same {K : PySem.W.Frag} {H H' : Hp} {p : Addr} {name : Str} {keys : List Str} (R : RefAt K H p name keys) (G : Sm H H') : RefAt K H' p name keys := by
  obtain ⟨t, h1, h2⟩ := R.ex
  exact ⟨t, Sm.seqT G h1, Sm.seqT G h2⟩
section
variable {P : Program} {w : World} {K : PySem.W.Frag} {mg : Str → Option Value} {base : Heap} {cs : Tabs}
theorem ok_law_cell_at (T : Txt K mg cs) : Cal P w K mg base 1 "_law_cell_at" ["script", "k"] (spCellAt K) := by
  refine T.f_law_cell_at.cal scLawCellAt (fun vs H Q E h => ?_) (fun f cdv A outer s H vs Q E hr h => ?_)
  · obtain ⟨a, ns, k, rfl, _⟩ := h
    rfl
  obtain ⟨a, ns, k, rfl, hS, q⟩ := h
  refine ⟨_, (pss_cons (ps_if (pt_cmpR op_lt (pv 1) (pe_callB (lenQ K) rfl T.n_len (by decide +kernel) (pa_cons (pv 0) pa_nil)) (nomark _)) (pss_one (ps_ret (pe_ix (ixL K) (pv 0) (pv 1) (fun _ _ => rfl)))) pss_nil)
    (pss_one (ps_ret pe_int))), ?_⟩
  refine ⟨_, rfl, _, rfl, a, _, rfl, .inl hS, _, _, rfl, rfl, _, rfl, ?_⟩
  refine ite2 (fun c => ?_) (fun c => ?_)
  · have c' : (k : Int) < (((ns.map V.int).length : Nat) : Int) := of_decide_eq_true c
    have hk : k < ns.length := by
      rw [List.length_map] at c'
      omega
    have e : (ns.map V.int)[k]? = some (.int ns[k]) := by
      rw [List.getElem?_map, List.getElem?_eq_getElem hk]
      rfl
    exact ⟨_, rfl, _, rfl, a, _, (k : Int), _, rfl, rfl, hS, atI_nat e, q _⟩
  · exact q 0
end
section
variable {P : Program} {w : World} {K : PySem.W.Frag} {mg : Str → Option Value} {base : Heap} {cs : Tabs}
theorem ok_law_bag (T : Txt K mg cs) : Cal P w K mg base 1 "_law_bag" ["cell", "nth"] spBag := by
  refine T.f_law_bag.cal scLawBag (fun vs H Q E h => ?_) (fun f cdv A outer s H vs Q E hr h => ?_)
  · obtain ⟨a, k, rfl, _⟩ := h
    rfl
  obtain ⟨c, k, rfl, hk, q⟩ := h
  refine ⟨_, (pss_one (ps_ret (pe_lst (pa_cons (pe_callB (call_max2 rfl) rfl T.n_max (by decide +kernel) (pa_cons pe_int (pa_cons (pe_op op_sub (pv 0) (pe_op op_powW pe_int pe_int)) pa_nil))) (pa_cons (pe_op op_add (pe_op op_mod (pv 0) pe_int) (pe_op op_mulW pe_int (pv 1))) (pa_cons pe_int pa_nil)))))), ?_⟩
  refine ⟨_, rfl, 10, 18, rfl, rfl, ⟨by decide, by decide, by decide⟩, c, _, rfl, rfl, 0, _, rfl, ?_⟩
  refine ⟨_, rfl, c, _, rfl, rfl, (show (0 : Int) < 170141183460469231731687303715884105727 by decide), _, rfl, 104395303, (k : Int), rfl, rfl, wide_mul (a := 40) (b := 40) (by decide) (nat_lt (by omega) (by omega)) (by decide) (by decide) (by decide), _, _, rfl, rfl, ?_⟩
  refine ⟨(by show 3 ≤ sizeLine; decide), fun p hp => q p _ hp (Sm.new hp) ⟨_, _, 0, upd_same, ?_, ?_, Int.le_refl 0, Int.le_refl 0⟩⟩
  · have := Int.emod_nonneg c (show (170141183460469231731687303715884105727 : Int) ≠ 0 by decide)
    show 0 ≤ c % 170141183460469231731687303715884105727 + 104395303 * (k : Int)
    omega
  · have := Int.emod_lt_of_pos c (show (0 : Int) < 170141183460469231731687303715884105727 by decide)
    show c % 170141183460469231731687303715884105727 + 104395303 * (k : Int) < 2 ^ 200
    omega
theorem ok_law_signs (T : Txt K mg cs) : Cal P w K mg base 1 "_law_signs" [] spSigns := by
  refine T.f_law_signs.cal scLawSigns (fun vs H Q E h => ?_) (fun f cdv A outer s H vs Q E hr h => ?_)
  · obtain ⟨rfl, _⟩ := h
    rfl
  obtain ⟨rfl, q⟩ := h
  refine ⟨_, (pss_cons (ps_set (i := 0) scLawSigns.nd rfl (by first | exact Or.inl rfl | exact Or.inr rfl) pe_str)
    (pss_one (ps_ret (pe_op op_add_str (pe_op op_add_str (pe_op op_add_str (pe_op op_add_str pe_str (pe_upper (pv 0))) pe_str) (pv 0)) pe_str)))), ?_⟩
  refine ⟨_, rfl, ⟨_, rfl⟩, _, rfl, rfl, (by decide +kernel), _, _, rfl, rfl, (by decide +kernel), _, _, rfl, rfl, (by decide +kernel), _, rfl, _, _, rfl, rfl, (by decide +kernel), _, _, rfl, rfl, (by decide +kernel), ?_⟩
  have e : ((((" !\"#$&'()*+,-./0123456789:;<=>?@" : Str) ++ Txt.upper ("abcdefghijklmnopqrstuvwxyz" : Str)) ++ ("[\\]^_`" : Str)) ++ ("abcdefghijklmnopqrstuvwxyz" : Str)) ++ ("{|}~" : Str) = SIGNS := by decide +kernel
  exact (congrArg (fun z => Q (.str z) H) e).mpr q
end
section
variable {P : Program} {w : World} {K : PySem.W.Frag} {mg : Str → Option Value} {base : Heap} {cs : Tabs}
def JOINTS : List V := [.str "; ", .str ":", .str "=", .str ",", .str "|", .str "|  ", .str ")", .str "(", .str "\"", .str "\"\"", .str ")=\"", .str "; write 1", .str "=\"", .str "x", .str " "]
theorem SIGNS_wt : WT SIGNS 94 := WT.dec (by decide +kernel)
theorem some_sign {z : Str} {n j : Nat} (h : WT z n) (hj : j < (tl z).length) : ∃ c, atI (tl z) (j : Int) = some c ∧ sgn c = true := ⟨(tl z)[j], atI_nat (List.getElem?_eq_getElem hj), h.sg _ (List.getElem_mem hj)⟩
theorem WT.one {c : Nat} (h : sgn c = true) : WT ⟨#[c]⟩ 1 := ⟨Nat.le_refl _, fun d hd => by
  have e : d = c := List.mem_singleton.mp (show d ∈ [c] from hd)
  rw [e]
  exact h⟩
/-- some[draw(bag, len(some))], some a text -/
theorem sign_drawn {b : Addr} {i j m : Nat} {σ : L2.St} {H : Hp} {z : Str} {Q : VK} (hb : σ[i]? = some (some (.ref b))) (hs : σ[j]? = some (some (.str z))) (B : Bag H b m) (hm : m ≤ LIM) (hz : (tl z).length ≤ 1000) (h0 : 0 < (tl z).length)
    (q : ∀ c H', c ∈ tl z → Go b 1 H H' → Q (.str ⟨#[c]⟩) H') :
    tOp rIxS (tVar j) (tCall spDraw [] E0 (tCons (tVar i) (tCons (tCB rLenT1 (tCons (tVar j) tNil)) tNil))) σ H Q := by
  have e : z.length = (tl z).length := len_tl z
  refine ⟨_, hs, _, hb, _, hs, z, rfl, (by rw [e]; exact small (by omega)), b, (z.length : Int), m, rfl, B, hm, by omega, by omega, fun r H' r0 r1 G => ?_⟩
  obtain ⟨k, rfl⟩ : ∃ k : Nat, r = (k : Int) := ⟨r.toNat, by omega⟩
  have hk : k < (tl z).length := by omega
  exact ⟨z, (k : Int), _, rfl, rfl, (by rw [e]; exact small (by omega)), atI_nat (List.getElem?_eq_getElem hk), q _ _ (List.getElem_mem hk) G⟩
theorem list_drawn {A : V → Prop} {b p : Addr} {i j n m : Nat} {σ : L2.St} {H : Hp} {xs : List V} {Q : VK} (hb : σ[i]? = some (some (.ref b))) (hs : σ[j]? = some (some (.ref p))) (hp : H p = some (.lst xs)) (np : p ≠ b) (B : Bag H b m) (hm : m ≤ LIM) (hn : xs.length = n) (h0 : 0 < n ∧ n ≤ 1000)
    (hA : ∀ v ∈ xs, A v) (q : ∀ v H', A v → Go b 1 H H' → Q v H') : tOp (rIxL K) (tVar j) (tCall spDraw [] E0 (tCons (tVar i) (tCons (tC (.int ((n : Nat) : Int))) tNil))) σ H Q := by
  refine ⟨_, hs, _, hb, b, (n : Int), m, rfl, B, hm, by omega, by omega, fun r H' r0 r1 G => ?_⟩
  obtain ⟨k, rfl⟩ : ∃ k : Nat, r = (k : Int) := ⟨r.toNat, by omega⟩
  have hk : k < xs.length := by omega
  exact ⟨p, xs, (k : Int), _, rfl, rfl, SqL.of (G.keep p _ np hp), atI_nat (List.getElem?_eq_getElem hk), q _ _ (hA _ (List.getElem_mem hk)) G⟩
end
section
variable {P : Program} {w : World} {K : PySem.W.Frag} {mg : Str → Option Value} {base : Heap} {cs : Tabs}
theorem ok_law_text (T : Txt K mg cs) (C_law_draw : Cal P w K mg base 1 "_law_draw" ["bag", "many"] spDraw) (C_law_signs : Cal P w K mg base 1 "_law_signs" [] spSigns) : Cal P w K mg base 2 "_law_text" ["bag", "most"] spText := by
  refine T.f_law_text.cal scLawText (fun vs H Q E h => ?_) (fun f cdv A outer s H vs Q E hr h => ?_)
  · obtain ⟨b, most, m, rfl, _⟩ := h
    rfl
  obtain ⟨b, most, m, rfl, B, hm, hmost, q⟩ := h
  refine ⟨_, (pss_cons (ps_set (i := 2) scLawText.nd rfl (by first | exact Or.inl rfl | exact Or.inr rfl) (pe_cal C_law_draw (hr.mono (by first | decide | omega)) (pa_cons (pv 0) (pa_cons pe_int pa_nil))))
    (pss_cons (ps_if (pt_cmpR op_lt (pv 2) pe_int (nomark _)) (pss_cons (ps_set (i := 5) scLawText.nd rfl (by first | exact Or.inl rfl | exact Or.inr rfl) (pe_cal C_law_draw (hr.mono (by first | decide | omega)) (pa_cons (pv 0) (pa_cons (pe_ix (ixL K) (pe_lst (pa_cons pe_int (pa_cons pe_int (pa_cons (pe_op op_powW pe_int pe_int) (pa_cons (pe_op op_powW pe_int pe_int) pa_nil))))) (pe_cal C_law_draw (hr.mono (by first | decide | omega)) (pa_cons (pv 0) (pa_cons pe_int pa_nil))) (fun _ _ => rfl)) pa_nil))))
        (pss_one (ps_ret (pe_slice sl_str (pe_callTy call_str_int rfl T.n_str (by decide +kernel) (pa_cons (pe_op op_mulW (pv 5) (pe_ix (ixL K) (pe_lst (pa_cons pe_int (pa_cons pe_int (pa_cons (pe_un un_neg pe_int) pa_nil)))) (pe_cal C_law_draw (hr.mono (by first | decide | omega)) (pa_cons (pv 0) (pa_cons pe_int pa_nil))) (fun _ _ => rfl))) pa_nil)) po_none (po_some (pv 1)))))) pss_nil)
    (pss_cons (ps_if (pt_cmpR op_eq (pv 2) pe_int (nomark _)) (pss_cons (ps_set (i := 6) scLawText.nd rfl (by first | exact Or.inl rfl | exact Or.inr rfl) (pe_lst (pa_cons pe_str (pa_cons pe_str (pa_cons pe_str (pa_cons pe_str (pa_cons pe_str (pa_cons pe_str (pa_cons pe_str (pa_cons pe_str (pa_cons pe_str (pa_cons pe_str (pa_cons pe_str (pa_cons pe_str (pa_cons pe_str (pa_cons pe_str (pa_cons pe_str (pa_cons pe_str pa_nil))))))))))))))))))
        (pss_one (ps_ret (pe_slice sl_str (pe_ix (ixL K) (pv 6) (pe_cal C_law_draw (hr.mono (by first | decide | omega)) (pa_cons (pv 0) (pa_cons pe_int pa_nil))) (fun _ _ => rfl)) po_none (po_some (pv 1)))))) pss_nil)
    (pss_cons (ps_if (pt_cmpR op_eq (pv 2) pe_int (nomark _)) (pss_cons (ps_set (i := 3) scLawText.nd rfl (by first | exact Or.inl rfl | exact Or.inr rfl) (pe_lst (pa_cons pe_str (pa_cons pe_str (pa_cons pe_str (pa_cons pe_str (pa_cons pe_str (pa_cons pe_str (pa_cons pe_str (pa_cons pe_str (pa_cons pe_str (pa_cons pe_str (pa_cons pe_str (pa_cons pe_str (pa_cons pe_str (pa_cons pe_str (pa_cons pe_str pa_nil)))))))))))))))))
        (pss_one (ps_ret (pe_slice sl_str (pe_join pe_str (pe_lc (own := [("k", 7)]) (g := gName 7) (tt := tYes) rfl scLawText.nd (pi_range1 rfl T.n_range (pa_cons (pe_op op_add pe_int (pe_cal C_law_draw (hr.mono (by first | decide | omega)) (pa_cons (pv 0) (pa_cons pe_int pa_nil)))) pa_nil)) (blkOk_by (own := [("k", 7)]) (N := ["bag", "most", "lot", "some", "many", "number", "near", "k"]) (sc := defScope sLawText) (by decide +kernel)) (fun _ _ _ _ _ => (pg_name (i := 7) scLawText.nd rfl (by first | exact Or.inl rfl | exact Or.inr rfl))) (fun _ _ _ _ _ => pts_nil) (fun _ _ _ _ _ => (pe_ix (ixL K) (pv 3) (pe_cal C_law_draw (hr.mono (by first | decide | omega)) (pa_cons (pv 0) (pa_cons pe_int pa_nil))) (fun _ _ => rfl))))) po_none (po_some (pv 1)))))) pss_nil)
    (pss_cons (ps_set (i := 3) scLawText.nd rfl (by first | exact Or.inl rfl | exact Or.inr rfl) (pe_ix (ixL K) (pe_lst (pa_cons pe_str (pa_cons pe_str (pa_cons (pe_cal0 C_law_signs (hr.mono (by first | decide | omega))) pa_nil)))) (pe_op op_sub (pv 2) pe_int) (fun _ _ => rfl)))
    (pss_cons (ps_set (i := 4) scLawText.nd rfl (by first | exact Or.inl rfl | exact Or.inr rfl) (pe_ix (ixL K) (pe_lst (pa_cons pe_int (pa_cons pe_int (pa_cons (pe_cal C_law_draw (hr.mono (by first | decide | omega)) (pa_cons (pv 0) (pa_cons (pe_op op_add (pv 1) pe_int) pa_nil))) pa_nil)))) (pe_cal C_law_draw (hr.mono (by first | decide | omega)) (pa_cons (pv 0) (pa_cons pe_int pa_nil))) (fun _ _ => rfl)))
    (pss_one (ps_ret (pe_join pe_str (pe_lc (own := [("k", 7)]) (g := gName 7) (tt := tYes) rfl scLawText.nd (pi_range1 rfl T.n_range (pa_cons (pe_callB (call_min2 rfl) rfl T.n_min (by decide +kernel) (pa_cons (pv 4) (pa_cons (pv 1) pa_nil))) pa_nil)) (blkOk_by (own := [("k", 7)]) (N := ["bag", "most", "lot", "some", "many", "number", "near", "k"]) (sc := defScope sLawText) (by decide +kernel)) (fun _ _ _ _ _ => (pg_name (i := 7) scLawText.nd rfl (by first | exact Or.inl rfl | exact Or.inr rfl))) (fun _ _ _ _ _ => pts_nil) (fun _ _ _ _ _ => (pe_ix ix_str (pv 3) (pe_cal C_law_draw (hr.mono (by first | decide | omega)) (pa_cons (pv 0) (pa_cons (pe_callB lenT rfl T.n_len (by decide +kernel) (pa_cons (pv 3) pa_nil)) pa_nil))) (fun _ _ => rfl))))))))))))), ?_⟩
  unfold LIM at hm
  refine draw_here (i := 0) rfl B (by unfold LIM; omega) (by decide) (by decide) fun lot H1 l0 l1 G1 => ?_
  have B1 := G1.bag _ B
  refine ⟨_, rfl, lot, 2, rfl, rfl, _, rfl, ?_⟩
  refine ite2 (fun c => ?_) (fun c => ?_)
  · -- a number's text
    refine ⟨_, rfl, menuG (n := 4) (c := 0) (A := fun v => ∃ k : Int, v = .int k ∧ 0 < k ∧ k ≤ 10 ^ 40) (m := m + 1) (i := 0) (fun R h => ⟨10, 20, rfl, rfl, ⟨by decide, by decide, by decide⟩, 10, 40, rfl, rfl, ⟨by decide, by decide, by decide⟩, h _ _ rfl (fun v hv => ?_) (Go.refl b _)⟩) rfl B1 (by unfold LIM; omega) (by decide) (by decide) fun v H2 hv G2 => ?_⟩
    · rcases List.mem_cons.mp hv with rfl | hv
      · exact ⟨10, rfl, by decide, by decide⟩
      rcases List.mem_cons.mp hv with rfl | hv
      · exact ⟨200, rfl, by decide, by decide⟩
      rcases List.mem_cons.mp hv with rfl | hv
      · exact ⟨10 ^ 20, rfl, by decide, by decide⟩
      rcases List.mem_cons.mp hv with rfl | hv
      · exact ⟨10 ^ 40, rfl, by decide, by decide⟩
      · cases hv
    obtain ⟨k, rfl, k0, k1⟩ := hv
    have B2 := G2.bag _ B1
    refine ⟨b, k, m + 1 + (0 + 1), rfl, B2, by unfold LIM; omega, k0, by omega, fun num H3 n0 n1 G3 => ?_⟩
    have B3 := G3.bag _ B2
    refine ⟨_, rfl, menuG (n := 3) (c := 0) (A := fun v => ∃ k : Int, v = .int k ∧ k.natAbs ≤ 1) (m := m + 1 + (0 + 1) + 1) (i := 0) (fun R h => ⟨1, rfl, h _ _ rfl (fun v hv => ?_) (Go.refl b _)⟩) rfl B3 (by unfold LIM; omega) (by decide) (by decide) fun v H4 hv G4 => ?_⟩
    · rcases List.mem_cons.mp hv with rfl | hv
      · exact ⟨1, rfl, by decide⟩
      rcases List.mem_cons.mp hv with rfl | hv
      · exact ⟨1, rfl, by decide⟩
      rcases List.mem_cons.mp hv with rfl | hv
      · exact ⟨-1, rfl, by decide⟩
      · cases hv
    obtain ⟨j, rfl, j0⟩ := hv
    have hp : (num * j).natAbs < 10 ^ 40 := by
      rw [Int.natAbs_mul]
      have a1 : num.natAbs * j.natAbs ≤ num.natAbs * 1 := Nat.mul_le_mul_left _ j0
      omega
    have W := WT.int (by decide) hp
    refine ⟨num, j, rfl, rfl, wide_mul (a := 200) (b := 10) (nat_lt n0 (by omega)) (by omega) (by decide) (by decide) (by decide), num * j, rfl, Nat.lt_trans (PySem.Flt.log2_lt_of (n := (num * j).natAbs) (k := 200) (by decide) (by omega)) (by decide), ?_⟩
    refine ⟨_, rfl, (most : Int), rfl, _, rfl, W.line (by decide), ?_⟩
    exact q _ _ (WT.cut W.sg most) ((((G1.trans G2).trans G3).trans G4).mono (by omega))
  refine ⟨_, rfl, rfl, _, rfl, ?_⟩
  refine ite2 (fun c2 => ?_) (fun c2 => ?_)
  · -- a near one
    refine ⟨(by show 16 ≤ sizeLine; decide), fun p hp => ?_⟩
    refine list_drawn (i := 0) (j := 6) (n := 16) (A := fun v => ∃ z, v = .str z ∧ WT z 20) rfl rfl upd_same (B1.ne hp) ((Go.new hp).bag _ B1) (by unfold LIM; omega) rfl (by decide) (allWT_ok (by decide +kernel)) fun v H2 hv G2 => ?_
    obtain ⟨z, rfl, W⟩ := hv
    refine ⟨_, rfl, (most : Int), rfl, z, rfl, W.line (by decide), ?_⟩
    exact q _ _ (WT.cut W.sg most) (((G1.trans (Go.new hp)).trans G2).mono (by omega))
  refine ⟨_, rfl, rfl, _, rfl, ?_⟩
  refine ite2 (fun c3 => ?_) (fun c3 => ?_)
  · -- joints
    refine ⟨(by show 15 ≤ sizeLine; decide), fun p hp => ?_⟩
    have np := B1.ne hp
    have hp' : (upd H1 p (.lst JOINTS)) p = some (.lst JOINTS) := upd_same
    have B2 := (Go.new (o := .lst JOINTS) hp).bag _ B1
    refine ⟨⟨_, rfl⟩, lc_drawn (i := 7) (N := 4) (c0 := 1) (c := 1) (A0 := fun _ => True) (fun v => ∃ z, v = .str z ∧ WT z 20) (fun R h => draw_here (i := 0) (by rfl) B2 (by unfold LIM; omega) (by decide) (by decide) fun r H3 r0 r1 G3 => ⟨1, r, rfl, rfl, h _ _ trivial (by omega) (by omega) G3⟩) B2 (by decide) (fun j H4 hj B4 G4 R hR => ?_) fun k D ys H4 _ k0 k1 hl hA G4 hy _ => ?_⟩
    · exact list_drawn (i := 0) (j := 3) (n := 15) (by rfl) (by rfl) (G4.keep p _ np hp') np B4 (by unfold LIM; omega) rfl (by decide) (allWT_ok (by decide +kernel)) hR
    · obtain ⟨zs, rfl, hz, hW⟩ := texts_of ys hA
      have hl' : zs.length = k.toNat := by rw [hz]; exact hl
      refine ⟨_, D, zs, rfl, rfl, .inl (SqL.of hy), glue_ok (k := 20) (n := zs.length) (fun y hy => (hW y hy).len) rfl (by omega), ?_⟩
      have W := WT.glue hW
      refine ⟨_, rfl, (most : Int), rfl, _, rfl, W.line (by omega), ?_⟩
      exact q _ _ (WT.cut W.sg most) (((G1.trans (Go.new hp)).trans G4).mono (by omega))
  -- signs
  have q3 : lot = 3 ∨ lot = 4 ∨ lot = 5 := by
    have e1 : ¬ lot < 2 := of_decide_eq_false (Bool.eq_false_iff.mpr c)
    have e2 : ¬ lot = 2 := fun e => c2 (by rw [e]; rfl)
    have e3 : ¬ lot = 6 := fun e => c3 (by rw [e]; rfl)
    omega
  refine ⟨rfl, (by show 3 ≤ sizeLine; decide), fun p hp => ?_⟩
  have np := B1.ne hp
  have hsome : ∃ z : Str, WT z 94 ∧ 0 < (tl z).length ∧ atI [V.str "0123456789+-a ", V.str "ab", V.str SIGNS] (lot - 3) = some (.str z) := by
    rcases q3 with rfl | rfl | rfl
    · exact ⟨_, WT.dec (by decide +kernel), by decide +kernel, rfl⟩
    · exact ⟨_, WT.dec (by decide +kernel), by decide +kernel, rfl⟩
    · exact ⟨_, SIGNS_wt, by decide +kernel, rfl⟩
  obtain ⟨z, W, z0, hat⟩ := hsome
  refine ⟨_, rfl, lot, 3, rfl, rfl, p, _, lot - 3, .str z, rfl, rfl, SqL.of upd_same, hat, ?_⟩
  have B2 := (Go.new (o := .lst [V.str "0123456789+-a ", V.str "ab", V.str SIGNS]) hp).bag _ B1
  dsimp only [gName, tSeq, tAsg, tRet, tDrop, tNext]
  refine menuG (n := 3) (c := 1) (i := 0) (A := fun v => ∃ k : Int, v = .int k ∧ 0 ≤ k) (fun R h => ?_) (by rfl) B2 (by unfold LIM; omega) (by decide) (by decide) fun v H3 hv G3 => ?_
  · refine ⟨_, rfl, _, rfl, (most : Int), 1, rfl, rfl, b, (most : Int) + 1, m + 1 + 0, rfl, B2, by unfold LIM; omega, by omega, by omega, fun r H3 r0 r1 G3 => h _ _ rfl (fun v hv => ?_) G3⟩
    rcases List.mem_cons.mp hv with rfl | hv
    · exact ⟨1, rfl, by decide⟩
    rcases List.mem_cons.mp hv with rfl | hv
    · exact ⟨2, rfl, by decide⟩
    rcases List.mem_cons.mp hv with rfl | hv
    · exact ⟨r, rfl, r0⟩
    · cases hv
  obtain ⟨k, rfl, k0⟩ := hv
  have B3 := G3.bag _ B2
  refine ⟨⟨_, rfl⟩, lc_drawn (i := 7) (N := most) (c0 := 0) (c := 1) (A0 := fun _ => True) (fun v => ∃ z, v = .str z ∧ WT z 1) (fun R h => ⟨_, rfl, _, rfl, k, (most : Int), rfl, h _ _ trivial (by split <;> omega) (by split <;> omega) (Go.refl b _)⟩) B3 (by omega) (fun j H4 hj B4 G4 R hR => ?_) fun k' D ys H4 _ k0' k1' hl hA G4 hy _ => ?_⟩
  · exact sign_drawn (i := 0) (j := 3) (by rfl) (by rfl) B4 (by unfold LIM; omega) (Nat.le_trans W.len (by decide)) z0 fun c H' hc G' => hR _ _ ⟨_, rfl, WT.one (W.sg c hc)⟩ G'
  · obtain ⟨zs, rfl, hz, hW⟩ := texts_of ys hA
    have hl' : zs.length ≤ most := by rw [hz, hl]; omega
    refine ⟨_, D, zs, rfl, rfl, .inl (SqL.of hy), glue_ok (k := 1) (n := zs.length) (fun y hy => (hW y hy).len) rfl (by omega), ?_⟩
    have W' := WT.glue hW
    exact q _ _ (W'.mono (by omega)) ((((G1.trans (Go.new hp)).trans G3).trans G4).mono (by omega))
end
section
variable {P : Program} {w : World} {K : PySem.W.Frag} {mg : Str → Option Value} {base : Heap} {cs : Tabs}
theorem KEY.zero : KEY "0" := ⟨WT.dec (by decide +kernel), by decide +kernel⟩
theorem KEY.of {z : Str} {n : Nat} (W : WT z n) (h : n ≤ 40) (hz : z ≠ "") : KEY z := ⟨W.mono h, by
  refine Nat.pos_of_ne_zero fun e => hz (ext_tl ?_)
  rw [List.length_eq_zero_iff.mp e]
  rfl⟩
theorem ok_law_key (T : Txt K mg cs) (C_law_draw : Cal P w K mg base 1 "_law_draw" ["bag", "many"] spDraw) (C_law_text : Cal P w K mg base 2 "_law_text" ["bag", "most"] spText) : Cal P w K mg base 3 "_law_key" ["bag"] spKey := by
  refine T.f_law_key.cal scLawKey (fun vs H Q E h => ?_) (fun f cdv A outer s H vs Q E hr h => ?_)
  · obtain ⟨b, m, rfl, _⟩ := h
    rfl
  obtain ⟨b, m, rfl, B, hm, q⟩ := h
  refine ⟨_, (pss_cons (ps_set (i := 1) scLawKey.nd rfl (by first | exact Or.inl rfl | exact Or.inr rfl) (pe_cal C_law_text (hr.mono (by first | decide | omega)) (pa_cons (pv 0) (pa_cons (pe_ix (ixL K) (pe_lst (pa_cons pe_int (pa_cons pe_int (pa_cons pe_int pa_nil)))) (pe_cal C_law_draw (hr.mono (by first | decide | omega)) (pa_cons (pv 0) (pa_cons pe_int pa_nil))) (fun _ _ => rfl)) pa_nil))))
    (pss_one (ps_ret (pe_ifExp (pt_cmpR op_ne (pv 1) pe_str (nomark _)) (pv 1) pe_str)))), ?_⟩
  unfold LIM at hm
  refine ⟨_, rfl, menuC (xs := [.int 3, .int 8, .int 40]) (i := 0) (A := fun v => ∃ k : Int, v = .int k ∧ 3 ≤ k ∧ k ≤ 40) (fun R h => h) (allInt_ok (by decide +kernel)) (by rfl) B (by unfold LIM; omega) (by decide) (by decide) fun v H1 hv G1 => ?_⟩
  obtain ⟨k, rfl, k0, k1⟩ := hv
  obtain ⟨k, rfl⟩ : ∃ j : Nat, k = (j : Int) := ⟨k.toNat, by omega⟩
  have B1 := G1.bag _ B
  refine ⟨b, k, m + 1, rfl, B1, by unfold LIM; omega, by omega, fun z H2 W G2 => ?_⟩
  refine ⟨_, rfl, rfl, _, rfl, ?_⟩
  have G : Go b 1200 H H2 := (G1.trans G2).mono (by omega)
  refine ite2 (fun c => ?_) (fun c => ?_)
  · have e : z ≠ "" := fun e => by
      have c' : (!decide (V.str z = V.str "")) = true := c
      rw [e] at c'
      exact absurd c' (by decide)
    exact ⟨_, rfl, q _ _ (KEY.of W (by omega) e) G⟩
  · exact q _ _ KEY.zero G
end
/-! ### references compared -/
theorem strOk_of {z : Str} (h : ∀ c ∈ tl z, c < 128) : PyData.strOk z = true := by
  unfold PyData.strOk
  rw [← Array.all_toList, List.all_eq_true]
  intro c hc
  exact decide_eq_true (Nat.lt_trans (h c hc) (by decide))
def dS (ks : List Str) : List PyData := ks.map PyData.str
theorem dp_strs {K : PySem.W.Frag} {H : Hp} : ∀ ks : List Str, DpAll K H (ks.map V.str) (dS ks)
  | [] => .nil
  | x :: r => .cons (.str x) (dp_strs r)
theorem eqv_strs : ∀ a b : List Str, PyData.eqvAll (dS a) (dS b) = decide (a = b)
  | [], [] => by simp [dS, PyData.eqvAll]
  | [], _ :: _ => by simp [dS, PyData.eqvAll]
  | _ :: _, [] => by simp [dS, PyData.eqvAll]
  | x :: a, y :: b => by
    have ih := eqv_strs a b
    unfold dS at ih ⊢
    rw [List.map_cons, List.map_cons, PyData.eqvAll, ih]
    show ((x == y) && decide (a = b)) = decide (x :: a = y :: b)
    by_cases e : x = y
    · subst e
      simp
    · simp [e]
theorem lay_strs : ∀ ks : List Str, (∀ z ∈ ks, PyData.strOk z = true) → PyData.canLayAll0 (dS ks) = true
  | [], _ => rfl
  | x :: r, h => by
    show (PyData.strOk x && PyData.canLayAll0 (dS r)) = true
    rw [h x List.mem_cons_self, lay_strs r fun z hz => h z (List.mem_cons_of_mem _ hz)]
    rfl
theorem depth_strs : ∀ ks : List Str, PyData.depthAll (dS ks) = 0
  | [] => rfl
  | x :: r => by
    show max 0 (PyData.depthAll (dS r)) = 0
    rw [depth_strs r]
    rfl
theorem Sm.own {H0 H1 : Hp} {b : Addr} {o : HO} (S : Sm H0 H1) (hb : H0 b = none) (nt : ∀ qs, H1 b ≠ some (.tbl qs)) : Sm H0 (upd H1 b o) := ⟨fun a u h n => by
  rw [upd_ne (ne_of_none h hb)]
  exact S.keep a u h n, fun P t => TabG.upd (S.tab P t) nt, fun a ha => by
  by_cases e : a = b
  · rw [e]
    exact hb
  · rw [upd_ne e] at ha
    exact S.gone a ha⟩
/-! ### references compared -/
theorem shaped_tup {ks : List Str} (h : ∀ z ∈ ks, PyData.strOk z = true) : SeqAt.shaped (.tuple (dS ks)) = true := by
  show (PyData.canLayAll0 (dS ks) && decide (PyData.depthAll (dS ks) + 1 ≤ 64)) = true
  rw [lay_strs ks h, depth_strs]
  rfl
theorem KEY.ok {z : Str} (h : KEY z) : PyData.strOk z = true := strOk_of fun c hc => by
  have q := h.wt.sg c hc
  unfold sgn at q
  rw [Bool.and_eq_true, Bool.and_eq_true] at q
  have := of_decide_eq_true q.2.1
  omega

theorem cut_take (xs : List V) (k : Nat) : cutV xs none (some (k : Int)) = xs.take k := by
  unfold cutV
  rw [HT.sIx_none, HT.sIx_nat, List.drop_zero, Nat.sub_zero]
  by_cases h : k ≤ xs.length
  · rw [Nat.min_eq_left h]
  · rw [Nat.min_eq_right (by omega), List.take_of_length_le (Nat.le_refl _), List.take_of_length_le (by omega)]
theorem slice_take {K : PySem.W.Frag} {t : Addr} {xs : List V} {k : Nat} {H : Hp} {Q : VK} (h : SqT K H t xs) (q : ∀ p H', Sm H H' → SqT K H' p (xs.take k) → Q (.ref p) H') : rSlA K (.ref t) none (some (k : Int)) H Q := by
  refine ⟨t, xs, rfl, h, fun e => ?_, fun _ p hp => ?_⟩
  · refine q t H (Sm.refl H) ?_
    have e2 := e.2
    rw [HT.sIx_nat] at e2
    rw [List.take_of_length_le (by omega)]
    exact h
  · rw [cut_take]
    exact q p _ (Sm.new hp) (.inl (.inl upd_same))
/-- [g j for j in range(n) if p j], all of it told without a change of what stands -/
theorem lc_pick {i n : Nat} {σ : L2.St} {H1 : Hp} {D : Addr} {tt : TT} {te : TE} {Q : VK} (p : Nat → Bool) (g : Nat → V) (hD : H1 D = none) (hn : n ≤ 90000)
    (ht : ∀ j H, j < n → Sm H1 H → ∀ R : Bool → Hp → Prop, (∀ H', Sm H H' → R (p j) H') → tt ((σ.set i none).set i (some (.int (0 + (j : Int))))) H R)
    (he : ∀ j H, j < n → Sm H1 H → ∀ R : VK, (∀ H', Sm H H' → R (g j) H') → te ((σ.set i none).set i (some (.int (0 + (j : Int))))) H R)
    (hQ : ∀ H', Sm H1 H' → H' D = some (.lst (((List.range n).filter p).map g)) → Q (.ref D) H') :
    ∃ W : Nat → Nat → Hp → Prop, (∃ k, W 0 k (upd H1 D (.lst []))) ∧ ∀ j k H, W j k H →
      ((Itr 0 n).stop j H ∧ Q (.ref D) H) ∨ ((Itr 0 n).go j H ∧ ∃ Nx : Hp → Prop, (∀ H', Nx H' → ∃ k', k' < k ∧ W (j + 1) k' H') ∧ ∀ x H', (Itr 0 n).yld j H x H' → gName i x (wipe σ [i]) H' fun σ2 H2 => wipe σ2 [i] = wipe σ [i] ∧ tt σ2 H2 fun b H3 =>
        if b = true then te σ2 H3 fun y H4 => ∃ acc, H4 D = some (.lst acc) ∧ acc.length < sizeLine ∧ Nx (upd H4 D (.lst (acc ++ [y]))) else Nx H3) := by
  refine lc_range (lo := 0) (n := n) (fun j H => Sm H1 H ∧ H D = some (.lst (((List.range j).filter p).map g))) ⟨Sm.new hD, upd_same⟩ (fun j H hj hp => ?_) fun H hp => hQ H hp.1 hp.2
  obtain ⟨G, hy⟩ := hp
  have hl : (((List.range j).filter p).map g).length ≤ j := by
    rw [List.length_map]
    exact Nat.le_trans (List.length_filter_le _ _) (by rw [List.length_range]; exact Nat.le_refl _)
  refine ⟨?_, ?_⟩
  · show ((σ.set i none).set i (some (.int (0 + (j : Int))))).set i none = (σ.set i none)
    rw [List.set_set, List.set_set]
  · show tt ((σ.set i none).set i (some (.int (0 + (j : Int))))) H _
    refine ht j H hj G _ fun H' G' => ?_
    have er : (List.range (j + 1)).filter p = (List.range j).filter p ++ (if p j = true then [j] else []) := by
      rw [List.range_succ, List.filter_append]
      congr 1
      by_cases c : p j = true <;> simp [c]
    refine ite2 (fun c => ?_) (fun c => ?_)
    · refine he j H' hj (G.trans G') _ fun H4 G4 => ⟨_, G4 _ _ (G' _ _ hy), small' (by omega), ?_, ?_⟩
      · exact Sm.own ((G.trans G').trans G4) hD (no_tbl (G4 _ _ (G' _ _ hy)))
      · rw [er, if_pos c, List.map_append]
        exact upd_same
    · refine ⟨G.trans G', ?_⟩
      rw [er, if_neg c, List.append_nil]
      exact G' _ _ hy
theorem lc_picked {i n : Nat} {σ : L2.St} {H : Hp} {ta : TA} {tt : TT} {te : TE} {Q : VK} (p : Nat → Bool) (g : Nat → V) (ha : ∀ R : List V → Hp → Prop, (∀ H1, Sm H H1 → R [.int (n : Int)] H1) → ta σ H R) (hn : n ≤ 90000)
    (ht : ∀ j H2, j < n → Sm H H2 → ∀ R : Bool → Hp → Prop, (∀ H', Sm H2 H' → R (p j) H') → tt ((σ.set i none).set i (some (.int (0 + (j : Int))))) H2 R)
    (he : ∀ j H2, j < n → Sm H H2 → ∀ R : VK, (∀ H', Sm H2 H' → R (g j) H') → te ((σ.set i none).set i (some (.int (0 + (j : Int))))) H2 R)
    (hQ : ∀ D H', Sm H H' → H' D = some (.lst (((List.range n).filter p).map g)) → Q (.ref D) H') : tLc (iRng1 ta) (gName i) tt te [i] σ H Q := by
  refine ha _ fun H1 G => ⟨(n : Int), rfl, by omega, by omega, fun D hD => ?_⟩
  exact lc_pick (i := i) (n := n) (tt := tt) (te := te) p g hD (by omega) (fun j H2 hj G2 R hR => ht j H2 hj (G.trans G2) R hR) (fun j H2 hj G2 R hR => he j H2 hj (G.trans G2) R hR) fun H' G' hy => hQ D H' (G.trans G') hy
/-- a list of numbers against the empty one -/
theorem dp_ints {K : PySem.W.Frag} {H : Hp} : ∀ ns : List Int, DpAll K H (ns.map V.int) (ns.map PyData.int)
  | [] => .nil
  | x :: r => .cons (.int x) (dp_ints r)
theorem lay_ints : ∀ ns : List Int, PyData.canLayAll0 (ns.map PyData.int) = true
  | [] => rfl
  | x :: r => by
    show (true && PyData.canLayAll0 (r.map PyData.int)) = true
    rw [lay_ints r]
    rfl
theorem depth_ints : ∀ ns : List Int, PyData.depthAll (ns.map PyData.int) = 0
  | [] => rfl
  | x :: r => by
    show max 0 (PyData.depthAll (r.map PyData.int)) = 0
    rw [depth_ints r]
    rfl
theorem shaped_ints (ns : List Int) : SeqAt.shaped (.list (ns.map PyData.int)) = true := by
  show (PyData.canLayAll0 (ns.map PyData.int) && decide (PyData.depthAll (ns.map PyData.int) + 1 ≤ 64)) = true
  rw [lay_ints, depth_ints]
  rfl
theorem eqv_nil (ns : List PyData) : PyData.eqv (.list ns) (.list []) = ns.isEmpty := by
  show PyData.eqvAll ns [] = _
  cases ns with
  | nil => rfl
  | cons a r => rfl
def stemB (n1 : Str) (k1 : List Str) (n2 : Str) (k2 : List Str) : Bool := decide (n1 = n2) && decide (k1 = k2.take k1.length)
def spTwo (K : PySem.W.Frag) (B : Str → List Str → Str → List Str → Bool) : Sp := fun vs H Q _ => ∃ (p q : Addr) (n1 n2 : Str) (k1 k2 : List Str), vs = [.ref p, .ref q] ∧ RefAt K H p n1 k1 ∧ RefAt K H q n2 k2 ∧ REF n1 k1 ∧ REF n2 k2 ∧ ∀ H', Sm H H' → Q (.bl (B n1 k1 n2 k2)) H'
theorem cut_drop (xs : List V) (k : Nat) : cutV xs (some (k : Int)) none = xs.drop k := by
  unfold cutV
  rw [HT.sIx_none, HT.sIx_nat]
  by_cases h : k ≤ xs.length
  · rw [Nat.min_eq_left h, List.take_of_length_le]
    rw [List.length_drop]
    exact Nat.le_refl _
  · rw [Nat.min_eq_right (by omega), List.drop_eq_nil_of_le (Nat.le_refl _), List.drop_eq_nil_of_le (by omega), List.take_nil]
/-! ### loops, and heaps behind a bag that is one's own -/
theorem Sm.go {H0 H1 H2 : Hp} {b : Addr} {n : Nat} (S : Sm H0 H1) (G : Go b n H1 H2) (hb : H0 b = none) : Sm H0 H2 := ⟨fun a o h nt => G.keep a o (ne_of_none h hb) (S.keep a o h nt) nt, fun P t => G.tab P (S.tab P t), fun a ha => S.gone a (G.gone a ha)⟩
theorem SqT.upd {K : PySem.W.Frag} {H : Hp} {S t : Addr} {xs ys : List V} {o : HO} (h : SqT K H t xs) (hs : H S = some (.lst ys)) : SqT K (upd H S o) t xs := by
  have ne : ∀ {u : HO}, H t = some u → (∀ zs, u ≠ .lst zs) → t ≠ S := fun hu no e => by
    rw [e, hs] at hu
    exact no _ (Option.some.inj hu).symm
  rcases h with (h | ⟨ob, h⟩) | h
  · exact .inl (.inl (by rw [upd_ne (ne h fun _ z => by cases z)]; exact h))
  · exact .inl (.inr ⟨ob, by rw [upd_ne (ne h fun _ z => by cases z)]; exact h⟩)
  · exact .inr h
theorem RefAt.upd {K : PySem.W.Frag} {H : Hp} {S p : Addr} {n : Str} {ks : List Str} {ys : List V} {o : HO} (h : RefAt K H p n ks) (hs : H S = some (.lst ys)) : RefAt K (upd H S o) p n ks := by
  obtain ⟨t, h1, h2⟩ := h.ex
  exact ⟨t, SqT.upd h1 hs, SqT.upd h2 hs⟩
theorem Bag.upd {H : Hp} {b S : Addr} {m : Nat} {o : HO} (B : Bag H b m) (ne : S ≠ b) : Bag (upd H S o) b m := by
  obtain ⟨x, y, z, h1, h2⟩ := B
  exact ⟨x, y, z, by rw [upd_ne (Ne.symm ne)]; exact h1, h2⟩
section
variable {K : PySem.W.Frag}
theorem for_in {i j : Nat} {S : Addr} {xs : List V} {tb : TS} {D : Ends} {σ : L2.St} {H : Hp} (Pv : Nat → L2.St → Hp → Prop) (hj : σ[j]? = some (some (.ref S))) (hS : SqL K H S xs) (h0 : Pv 0 σ H) (hl : ∀ n σ H, n ≤ xs.length → Pv n σ H → SqL K H S xs)
    (hs : ∀ n x σ H, xs[n]? = some x → Pv n σ H → tb { D with nx := Pv (n + 1), ct := Pv (n + 1), bk := D.nx } (σ.set i (some x)) H) (hd : ∀ σ H, Pv xs.length σ H → D.nx σ H) : tFor (iList K (tVar j)) (gName i) tb D σ H :=
  ⟨_, hj, S, rfl, ⟨_, hS⟩, for_list (xs := xs) Pv h0 hl hs hd⟩
theorem for_rng {i n : Nat} {ta : TA} {tb : TS} {D : Ends} {σ : L2.St} {H : Hp} (Pv : Nat → L2.St → Hp → Prop) (ha : ∀ R : List V → Hp → Prop, (∀ H1, Sm H H1 → R [.int (n : Int)] H1) → ta σ H R) (hn : n ≤ 90000) (h0 : ∀ H1, Sm H H1 → Pv 0 σ H1)
    (hs : ∀ j σ H, j < n → Pv j σ H → tb { D with nx := Pv (j + 1), ct := Pv (j + 1), bk := D.nx } (σ.set i (some (.int (0 + (j : Int))))) H) (hd : ∀ σ H, Pv n σ H → D.nx σ H) : tFor (iRng1 ta) (gName i) tb D σ H := by
  refine ha _ fun H1 S => ⟨(n : Int), rfl, by omega, by omega, ?_⟩
  exact for_range (lo := 0) (n := n) Pv (h0 H1 S) hs hd
/-- a comprehension over a list that keeps nothing -/
theorem lc_empty {i j : Nat} {S : Addr} {xs : List V} {σ : L2.St} {H : Hp} {tt : TT} {te : TE} {Q : VK} (hj : σ[j]? = some (some (.ref S))) (hS : SqL K H S xs)
    (ht : ∀ x H2, x ∈ xs → Sm H H2 → ∀ R : Bool → Hp → Prop, (∀ H', Sm H2 H' → R false H') → tt ((σ.set i none).set i (some x)) H2 R)
    (hQ : ∀ D H', Sm H H' → H' D = some (.lst []) → Q (.ref D) H') : tLc (iList K (tVar j)) (gName i) tt te [i] σ H Q := by
  refine ⟨_, hj, S, rfl, ⟨_, hS⟩, fun D hD => ?_⟩
  refine lc_list (K := K) (a := S) (xs := xs) (fun _ H' => Sm H H' ∧ H' D = some (.lst [])) ⟨Sm.new hD, upd_same⟩ (fun _ H' _ h => Sm.seq h.1 hS) (fun n x H' hx h => ?_) fun H' h => hQ D H' h.1 h.2
  refine ⟨?_, ?_⟩
  · show ((σ.set i none).set i (some x)).set i none = (σ.set i none)
    rw [List.set_set, List.set_set]
  · exact ht x H' (List.mem_of_getElem? hx) h.1 _ fun H2 S2 => iteF ⟨h.1.trans S2, S2 _ _ h.2⟩
theorem isi_bool {k : Bool} {H : Hp} {Q : VK} (q : Q (.bl true) H) : rIsi K [.bl k, .ty "bool"] H Q :=
  ⟨_, _, .type "bool", .type "bool", true, rfl, .ty "bool", .base (.bl k), kit_ty (by decide +kernel), q⟩
end
/-- a comprehension over a list that keeps nothing -/
theorem lc_none {K : PySem.W.Frag} {i : Nat} {te0 : TE} {xs : List V} {σ : L2.St} {H : Hp} {tt : TT} {te : TE} {Q : VK} (h0 : ∀ R : VK, (∀ S H1, Sm H H1 → SqL K H1 S xs → R (.ref S) H1) → te0 σ H R)
    (ht : ∀ x H2, x ∈ xs → Sm H H2 → ∀ R : Bool → Hp → Prop, (∀ H', Sm H2 H' → R false H') → tt ((σ.set i none).set i (some x)) H2 R)
    (hQ : ∀ D H', Sm H H' → H' D = some (.lst []) → Q (.ref D) H') : tLc (iList K te0) (gName i) tt te [i] σ H Q := by
  refine h0 _ fun S H1 S1 hS => ⟨S, rfl, ⟨_, hS⟩, fun D hD => ?_⟩
  refine lc_list (K := K) (a := S) (xs := xs) (fun _ H' => Sm H1 H' ∧ H' D = some (.lst [])) ⟨Sm.new hD, upd_same⟩ (fun _ H' _ h => Sm.seq h.1 hS) (fun n x H' hx h => ?_) fun H' h => hQ D H' (S1.trans h.1) h.2
  refine ⟨?_, ?_⟩
  · show ((σ.set i none).set i (some x)).set i none = (σ.set i none)
    rw [List.set_set, List.set_set]
  · exact ht x H' (List.mem_of_getElem? hx) (S1.trans h.1) _ fun H2 S2 => iteF ⟨h.1.trans S2, S2 _ _ h.2⟩
/-! ### the numbers that texts begin with: reckoned over their signs -/
open PySem.NumText (digitsVal AllDigits)
def SG : Str := "+-"
def FG : Str := "0123456789"
def isS (c : Nat) : Bool := decide (c ∈ tl SG)
def isF (c : Nat) : Bool := decide (c ∈ tl FG)
theorem tl_SG : tl SG = [43, 45] := by decide +kernel
theorem tl_FG : tl FG = [48, 49, 50, 51, 52, 53, 54, 55, 56, 57] := by decide +kernel
theorem isS_iff {c : Nat} : isS c = true ↔ c = 43 ∨ c = 45 := by
  unfold isS
  rw [tl_SG, decide_eq_true_eq]
  simp
theorem isF_iff {c : Nat} : isF c = true ↔ 48 ≤ c ∧ c ≤ 57 := by
  unfold isF
  rw [tl_FG, decide_eq_true_eq]
  simp only [List.mem_cons, List.not_mem_nil, or_false]
  omega
theorem find_FG {c : Nat} (h : isF c = true) : Txt.find FG ⟨#[c]⟩ = ((c - 48 : Nat) : Int) := by
  have h := isF_iff.mp h
  obtain ⟨j, rfl⟩ : ∃ j, c = 48 + j := ⟨c - 48, by omega⟩
  have hj : j < 10 := by omega
  have : ∀ j : Fin 10, Txt.find FG ⟨#[48 + j.val]⟩ = ((48 + j.val - 48 : Nat) : Int) := by decide +kernel
  exact this ⟨j, hj⟩
def cnt45 (l : List Nat) : Nat := l.countP fun c => c == 45
theorem count_cnt (x : Str) : Txt.count x "-" = (cnt45 (tl x) : Int) := by
  have e : ("-" : Str) = ⟨#[45]⟩ := by decide +kernel
  rw [e, PyProof.Rows.count_is]
  show PyProof.Rows.cnt 45 (tl x) = _
  generalize tl x = l
  induction l with
  | nil => rfl
  | cons a r ih =>
    rw [PyProof.Rows.cnt_cons, ih]
    unfold cnt45
    rw [List.countP_cons]
    by_cases h : a = 45
    · subst h
      simp
      omega
    · simp [h]
def figs (l : List Nat) : List Nat := (l.dropWhile isS).takeWhile isF
def minus (l : List Nat) : Bool := decide (cnt45 (l.takeWhile isS) % 2 = 1)
def numOf (l : List Nat) : Int := if minus l then -((digitsVal (figs l) : Nat) : Int) else ((digitsVal (figs l) : Nat) : Int)
/-- a walk ahead as long as p holds -/
theorem walked {p : Nat → Bool} : ∀ {l : List Nat} {i : Nat}, (∀ j c, j < i → l[j]? = some c → p c = true) → i ≤ l.length → (∀ c, l[i]? = some c → p c = false) → l.takeWhile p = l.take i ∧ l.dropWhile p = l.drop i
  | [], 0, _, _, _ => ⟨rfl, rfl⟩
  | c :: r, 0, _, _, h => by
    have := h c rfl
    simp [List.takeWhile_cons, List.dropWhile_cons, this]
  | c :: r, i + 1, h, hl, h2 => by
    have hc := h 0 c (by omega) rfl
    obtain ⟨a, b⟩ := walked (l := r) (i := i) (fun j d hj hd => h (j + 1) d (by omega) hd) (by simp at hl; omega) (fun d hd => h2 d hd)
    simp [List.takeWhile_cons, List.dropWhile_cons, hc, a, b]
theorem val_from (x : Nat) : ∀ b : List Nat, b.foldl (fun acc c => acc * 10 + (c - 48)) x = x * 10 ^ b.length + b.foldl (fun acc c => acc * 10 + (c - 48)) 0
  | [] => by simp
  | c :: r => by
    rw [List.foldl_cons, List.foldl_cons, val_from (x * 10 + (c - 48)) r, val_from (0 * 10 + (c - 48)) r, List.length_cons, Nat.pow_succ]
    generalize 10 ^ r.length = z
    generalize r.foldl (fun acc c => acc * 10 + (c - 48)) 0 = y
    rw [Nat.add_mul, Nat.zero_mul, Nat.zero_add, Nat.mul_assoc, Nat.mul_comm 10 z, Nat.add_assoc]
theorem val_append (a b : List Nat) : digitsVal (a ++ b) = digitsVal a * 10 ^ b.length + digitsVal b := by
  unfold digitsVal
  rw [List.foldl_append, val_from]
theorem val_lt : ∀ {l : List Nat}, AllDigits l → digitsVal l < 10 ^ l.length
  | [], _ => by decide
  | c :: r, h => by
    have hr := val_lt (l := r) fun d hd => h d (List.mem_cons_of_mem _ hd)
    have hc := h c List.mem_cons_self
    have e := val_append [c] r
    have e1 : digitsVal [c] = c - 48 := by
      show 0 * 10 + (c - 48) = _
      omega
    rw [show c :: r = [c] ++ r from rfl, e, e1, List.length_append, List.length_singleton, Nat.add_comm, Nat.pow_add]
    have : (c - 48) * 10 ^ r.length ≤ 9 * 10 ^ r.length := Nat.mul_le_mul_right _ (by omega)
    omega
theorem tw_self {p : Nat → Bool} : ∀ {l : List Nat}, (∀ c ∈ l, p c = true) → l.takeWhile p = l
  | [], _ => rfl
  | c :: r, h => by
    rw [List.takeWhile_cons, if_pos (h c List.mem_cons_self), tw_self fun d hd => h d (List.mem_cons_of_mem _ hd)]
theorem figs_digits (l : List Nat) : AllDigits (figs l) := fun c hc => isF_iff.mp (by
  have := List.all_takeWhile (p := isF) (l := l.dropWhile isS)
  exact List.all_eq_true.mp this c hc)
theorem figs_len (l : List Nat) : (figs l).length ≤ l.length := by
  unfold figs
  have a := (List.takeWhile_sublist (l := l.dropWhile isS) isF).length_le
  have b := (List.dropWhile_sublist (l := l) isS).length_le
  omega
/-- a number's text -/
def numT (n : Int) : List Nat := if n < 0 then 45 :: numL n.natAbs else numL n.natAbs
theorem numL_head : ∀ {n : Nat}, 0 < n → ∃ c r, numL n = c :: r ∧ 49 ≤ c := by
  intro n
  induction n using Nat.strongRecOn with
  | _ n ih =>
    intro h
    by_cases h10 : n < 10
    · exact ⟨48 + n, [], numL_lt h10, by omega⟩
    · obtain ⟨c, r, e, hc⟩ := ih (n / 10) (by omega) (by omega)
      exact ⟨c, r ++ [48 + n % 10], by rw [numL_step (by omega), e]; rfl, hc⟩
theorem numL_zero : numL 0 = [48] := numL_lt (by decide)
theorem numL_of {c : Nat} {r : List Nat} (h : AllDigits (c :: r)) (hc : 49 ≤ c) : numL (digitsVal (c :: r)) = c :: r := by
  unfold numL
  rw [PySem.NumText.toDigits_digitsVal r.length (c :: r) rfl h (.inr ⟨c, r, rfl, hc⟩), List.map_map]
  have : ∀ d ∈ c :: r, (Char.toNat ∘ Char.ofNat) d = d := fun d hd => by
    have := h d hd
    obtain ⟨j, rfl⟩ : ∃ j, d = 48 + j := ⟨d - 48, by omega⟩
    have hj : j < 10 := by omega
    have q : ∀ j : Fin 10, (Char.toNat ∘ Char.ofNat) (48 + j.val) = 48 + j.val := by decide +kernel
    exact q ⟨j, hj⟩
  rw [List.map_congr_left this, List.map_id'']
  intro _; rfl
/-- what is_number_text looks at -/
def bareOf (l : List Nat) : List Nat := match l with
  | 45 :: r => r
  | l => l
def isNum (l : List Nat) : Bool := match bareOf l with
  | 48 :: _ => decide (l = [48])
  | f => !decide (f = []) && f.all isF
theorem isNum_is (l : List Nat) : isNum l = decide (numT (numOf l) = l) := by
  have back : ∀ n : Int, isNum (numT n) = true := fun n => by
    unfold numT
    split
    · obtain ⟨c, r, e, hc⟩ := numL_head (n := n.natAbs) (by omega)
      have d := numL_digits n.natAbs
      rw [e] at d ⊢
      unfold isNum
      have : bareOf (45 :: c :: r) = c :: r := rfl
      rw [this]
      have hne : c ≠ 48 := by omega
      split
      · rename_i h
        injection h with h1
        exact absurd h1 hne
      · rw [Bool.and_eq_true]
        refine ⟨by simp, List.all_eq_true.mpr fun x hx => isF_iff.mpr (d x hx)⟩
    · by_cases z : n.natAbs = 0
      · rw [z, numL_zero]
        rfl
      · obtain ⟨c, r, e, hc⟩ := numL_head (n := n.natAbs) (by omega)
        have d := numL_digits n.natAbs
        rw [e] at d ⊢
        unfold isNum
        have hc' := d c List.mem_cons_self
        have : bareOf (c :: r) = c :: r := by
          unfold bareOf
          split
          · rename_i h
            injection h with h1
            omega
          · rfl
        rw [this]
        have hne : c ≠ 48 := by omega
        split
        · rename_i h
          injection h with h1
          exact absurd h1 hne
        · rw [Bool.and_eq_true]
          refine ⟨by simp, List.all_eq_true.mpr fun x hx => isF_iff.mpr (d x hx)⟩
  have forth : isNum l = true → numT (numOf l) = l := fun h => by
    unfold isNum at h
    split at h
    · have e := of_decide_eq_true h
      subst e
      decide +kernel
    · rename_i hf
      rw [Bool.and_eq_true] at h
      have hne : bareOf l ≠ [] := by simpa using h.1
      have hd : AllDigits (bareOf l) := fun c hc => isF_iff.mp (List.all_eq_true.mp h.2 c hc)
      obtain ⟨c, r, e⟩ : ∃ c r, bareOf l = c :: r := by
        cases q : bareOf l with
        | nil => exact absurd q hne
        | cons c r => exact ⟨c, r, rfl⟩
      rw [e] at hd
      have hc := hd c List.mem_cons_self
      have hc9 : 49 ≤ c := by
        have : c ≠ 48 := fun z => hf r (by rw [e, z])
        omega
      have nS : isS c = false := by
        cases q : isS c with
        | false => rfl
        | true =>
          have := isS_iff.mp q
          omega
      have tk : (c :: r).takeWhile isF = c :: r := tw_self fun d hd' => isF_iff.mpr (hd d hd')
      have pos := PySem.NumText.digitsVal_pos (cs := r) hc9
      by_cases h45 : ∃ s, l = 45 :: s
      · obtain ⟨s, rfl⟩ := h45
        have es : s = c :: r := e
        subst es
        have s45 : isS 45 = true := by decide +kernel
        have e1 : figs (45 :: c :: r) = c :: r := by
          unfold figs
          rw [List.dropWhile_cons, if_pos s45, List.dropWhile_cons, if_neg (by rw [nS]; decide), tk]
        have e2 : minus (45 :: c :: r) = true := by
          unfold minus
          rw [List.takeWhile_cons, if_pos s45, List.takeWhile_cons, if_neg (by rw [nS]; decide)]
          rfl
        unfold numOf
        rw [e2, e1, if_pos rfl]
        unfold numT
        rw [if_pos (by omega)]
        have : (-((digitsVal (c :: r) : Nat) : Int)).natAbs = digitsVal (c :: r) := by omega
        rw [this, numL_of hd hc9]
      · have el : l = c :: r := by
          rw [← e]
          unfold bareOf
          split
          · exact absurd ⟨_, rfl⟩ h45
          · rfl
        subst el
        have e1 : figs (c :: r) = c :: r := by
          unfold figs
          rw [List.dropWhile_cons, if_neg (by rw [nS]; decide), tk]
        have e2 : minus (c :: r) = false := by
          unfold minus
          rw [List.takeWhile_cons, if_neg (by rw [nS]; decide)]
          rfl
        unfold numOf
        rw [e2, e1, if_neg (by decide)]
        unfold numT
        rw [if_neg (by omega)]
        have : (((digitsVal (c :: r) : Nat) : Int)).natAbs = digitsVal (c :: r) := by omega
        rw [this, numL_of hd hc9]
  by_cases h : numT (numOf l) = l
  · rw [decide_eq_true h, ← h]
    rw [h]
    have := back (numOf l)
    rwa [h] at this
  · rw [decide_eq_false h]
    cases q : isNum l with
    | false => rfl
    | true => exact absurd (forth q) h
theorem numOf_numT (n : Int) : numOf (numT n) = n := by
  have hF : ∀ k : Nat, (numL k).takeWhile isF = numL k := fun k => tw_self fun d hd => isF_iff.mpr (numL_digits k d hd)
  have hS : ∀ k : Nat, (numL k).takeWhile isS = [] ∧ (numL k).dropWhile isS = numL k := fun k => by
    obtain ⟨c, r, e⟩ : ∃ c r, numL k = c :: r := by
      cases q : numL k with
      | nil => exact absurd q (numL_ne k)
      | cons c r => exact ⟨c, r, rfl⟩
    have hc := numL_digits k c (by rw [e]; exact List.mem_cons_self)
    have nS : isS c = false := by
      cases q : isS c with
      | false => rfl
      | true =>
        have := isS_iff.mp q
        omega
    rw [e, List.takeWhile_cons, List.dropWhile_cons, nS]
    exact ⟨rfl, rfl⟩
  have s45 : isS 45 = true := by decide +kernel
  unfold numT
  split
  · have e1 : figs (45 :: numL n.natAbs) = numL n.natAbs := by
      unfold figs
      rw [List.dropWhile_cons, if_pos s45, (hS _).2, hF]
    have e2 : minus (45 :: numL n.natAbs) = true := by
      unfold minus
      rw [List.takeWhile_cons, if_pos s45, (hS _).1]
      rfl
    unfold numOf
    rw [e2, e1, if_pos rfl, numL_val]
    omega
  · have e1 : figs (numL n.natAbs) = numL n.natAbs := by
      unfold figs
      rw [(hS _).2, hF]
    have e2 : minus (numL n.natAbs) = false := by
      unfold minus
      rw [(hS _).1]
      rfl
    unfold numOf
    rw [e2, e1, if_neg (by decide), numL_val]
    omega
/-! ### the defs that reckon with numbers of texts -/
open PySem.NumText (digitsVal AllDigits)
def spNumOf : Sp := fun vs H Q _ => ∃ z : Str, vs = [.str z] ∧ (tl z).length ≤ 250 ∧ Q (.int (numOf (tl z))) H
def spFigs : Sp := fun vs H Q _ => ∃ z : Str, vs = [.str z] ∧ (tl z).length ≤ 250 ∧ AllDigits (tl z) ∧ Q (.int ((digitsVal (tl z) : Nat) : Int)) H
theorem tl_sub (z : Str) (i j : Nat) (hi : i ≤ j) : tl (cutS z (some (i : Int)) (some (j : Int))) = ((tl z).take j).drop i := by
  show (((z.cps.toList.drop (HT.sIx z.length 0 (some (i : Int)))).take (HT.sIx z.length z.length (some (j : Int)) - HT.sIx z.length 0 (some (i : Int)))).toArray).toList = _
  rw [HT.sIx_nat, HT.sIx_nat, List.toList_toArray]
  have e : z.length = (tl z).length := len_tl z
  rw [e]
  show ((tl z).drop (min i (tl z).length)).take (min j (tl z).length - min i (tl z).length) = _
  rw [List.drop_take]
  by_cases h : i ≤ (tl z).length
  · rw [Nat.min_eq_left h]
    by_cases h2 : j ≤ (tl z).length
    · rw [Nat.min_eq_left h2]
    · rw [Nat.min_eq_right (by omega), List.take_of_length_le (by rw [List.length_drop]; exact Nat.le_refl _), List.take_of_length_le (by rw [List.length_drop]; omega)]
  · rw [List.drop_eq_nil_of_le (as := tl z) (i := i) (by omega), List.drop_eq_nil_of_le (as := tl z) (i := min i (tl z).length) (by omega)]
    simp
def rInS : R2 := fun x y H Q => ∃ (c : Nat) (z : Str), x = .str ⟨#[c]⟩ ∧ y = .str z ∧ Q (.bl (decide (c ∈ z.cps.toList))) H
/-- while at < len(worth) and worth[at] in Z: at += 1 -/
theorem scan_loop {i : Nat} {z Z : Str} {k0 : Nat} {σ : L2.St} {H : Hp} {D : Ends} (hz : σ[0]? = some (some (.str z))) (hi : σ[i]? = some (some (.int (k0 : Int)))) (i0 : i ≠ 0) (hl : (tl z).length ≤ 1000) (hk0 : k0 ≤ (tl z).length)
    (q : ∀ k, k0 ≤ k → k ≤ (tl z).length → (∀ j c, k0 ≤ j → j < k → (tl z)[j]? = some c → c ∈ tl Z) → (∀ c, (tl z)[k]? = some c → ¬ c ∈ tl Z) → D.nx (σ.set i (some (.int (k : Int)))) H) :
    tWhile (tAnd (tTest (tOp (rI0 fun i j => V.bl (decide (i < j))) (tVar i) (tCB rLenT1 (tCons (tVar 0) tNil)))) (tTest (tOp rInS (tOp rIxS (tVar 0) (tVar i)) (tC (.str Z))))) (tAug i (tC (.int 1)) (ipI fun i j => i + j)) D σ H := by
  have ez : z.length = (tl z).length := len_tl z
  have hlt : i < σ.length := (List.getElem?_eq_some_iff.mp hi).1
  have e0 : σ.set i (some (.int (k0 : Int))) = σ := List.ext_getElem? fun j => by
    by_cases e : i = j
    · subst e
      rw [List.getElem?_set_self hlt, hi]
    · rw [List.getElem?_set_ne e]
  refine ⟨fun m σ' H' => ∃ k : Nat, k0 ≤ k ∧ k ≤ (tl z).length ∧ (∀ j c, k0 ≤ j → j < k → (tl z)[j]? = some c → c ∈ tl Z) ∧ m = (tl z).length - k ∧ H' = H ∧ σ' = σ.set i (some (.int (k : Int))), ⟨_, k0, Nat.le_refl _, hk0, fun j c h1 h2 => absurd h2 (Nat.not_lt.mpr h1), rfl, rfl, e0.symm⟩, fun m σ' H' hw => ?_⟩
  obtain ⟨k, hk1, hk, hS, rfl, rfl, rfl⟩ := hw
  have v0 : (σ.set i (some (V.int (k : Int))))[0]? = some (some (.str z)) := by rw [List.getElem?_set_ne i0, hz]
  have vi : (σ.set i (some (V.int (k : Int))))[i]? = some (some (.int (k : Int))) := List.getElem?_set_self hlt
  refine ⟨_, vi, _, v0, z, rfl, (by rw [ez]; exact small (by omega)), _, _, rfl, rfl, _, rfl, ?_⟩
  refine ite2 (fun c1 => ?_) (fun c1 => ?_)
  · have hk' : k < (tl z).length := by
      have := of_decide_eq_true c1
      omega
    refine ⟨_, v0, _, vi, z, _, _, rfl, rfl, (by rw [ez]; exact small (by omega)), atI_nat (List.getElem?_eq_getElem hk'), _, _, rfl, rfl, _, rfl, ?_⟩
    refine ite2 (fun c2 => ?_) (fun c2 => ?_)
    · refine ⟨fun σ' H'' => H'' = H' ∧ σ' = σ.set i (some (.int ((k + 1 : Nat) : Int))), fun σ' H'' h => ⟨_, ?_, k + 1, by omega, by omega, fun j c h1 h2 hc => ?_, rfl, h.1, h.2⟩, ?_⟩
      · omega
      · by_cases e : j = k
        · subst e
          rw [List.getElem?_eq_getElem hk'] at hc
          rw [← Option.some.inj hc]
          exact of_decide_eq_true c2
        · exact hS j c h1 (by omega) hc
      · refine ⟨_, vi, _, _, rfl, rfl, rfl, ?_⟩
        rw [List.set_set]
        rfl
    · refine q k hk1 hk hS fun c hc => ?_
      rw [List.getElem?_eq_getElem hk'] at hc
      rw [← Option.some.inj hc]
      exact fun z => c2 (decide_eq_true z)
  · refine iteF (q k hk1 hk hS fun c hc => ?_)
    have hk' := (List.getElem?_eq_some_iff.mp hc).1
    exact absurd (decide_eq_true (show (k : Int) < z.length by omega)) c1
theorem drop_at {l : List Nat} {i j : Nat} : (l.drop i)[j]? = l[i + j]? := by rw [List.getElem?_drop]
section
variable {P : Program} {w : World} {K : PySem.W.Frag} {mg : Str → Option Value} {base : Heap} {cs : Tabs}
theorem ok_number_of (T : Txt K mg cs) (C_number_of_figures : Cal P w K mg base 1 "_number_of_figures" ["figures"] spFigs) : Cal P w K mg base 2 "number_of" ["worth"] spNumOf := by
  refine T.f_number_of.cal scNumberOf (fun vs H Q E h => ?_) (fun f cdv A outer s H vs Q E hr h => ?_)
  · obtain ⟨z, rfl, _⟩ := h
    rfl
  obtain ⟨z, rfl, hl, q⟩ := h
  refine ⟨_, (pss_cons (ps_set (i := 1) scNumberOf.nd rfl (by first | exact Or.inl rfl | exact Or.inr rfl) pe_int)
    (pss_cons (ps_while PassesOwn.never (PW.pt (pw_and (pt_cmpR op_lt (pv 1) (pe_callB lenT rfl T.n_len (by decide +kernel) (pa_cons (pv 0) pa_nil)) (nomark _)) (pw_and1 (pt_cmpR op_in_sign (pe_ix ix_str (pv 0) (pv 1) (fun _ _ => rfl)) pe_str rfl))))
      (pss_one (ps_aug (i := 1) scNumberOf.nd rfl (by first | exact Or.inl rfl | exact Or.inr rfl) pe_int ip_add)))
    (pss_cons (ps_set (i := 2) scNumberOf.nd rfl (by first | exact Or.inl rfl | exact Or.inr rfl) (pv 1))
    (pss_cons (ps_while PassesOwn.never (PW.pt (pw_and (pt_cmpR op_lt (pv 2) (pe_callB lenT rfl T.n_len (by decide +kernel) (pa_cons (pv 0) pa_nil)) (nomark _)) (pw_and1 (pt_cmpR op_in_sign (pe_ix ix_str (pv 0) (pv 2) (fun _ _ => rfl)) (C8.pe_gc rfl T.g__FIGURES) rfl))))
      (pss_one (ps_aug (i := 2) scNumberOf.nd rfl (by first | exact Or.inl rfl | exact Or.inr rfl) pe_int ip_add)))
    (pss_cons (ps_set (i := 3) scNumberOf.nd rfl (by first | exact Or.inl rfl | exact Or.inr rfl) (pe_cal C_number_of_figures (hr.mono (by first | decide | omega)) (pa_cons (pe_slice sl_str (pv 0) (po_some (pv 1)) (po_some (pv 2))) pa_nil)))
    (pss_one (ps_ret (pe_ifExp (pt_cmpR op_eq (pe_op op_mod (pe_m1 PySem.F.slot_str_count PySem.F.type_str_count mt_count (pe_slice sl_str (pv 0) po_none (po_some (pv 1))) pe_str) pe_int) pe_int (nomark _)) (pe_un un_neg (pv 3)) (pv 3))))))))), ?_⟩
  have ez : z.length = (tl z).length := len_tl z
  have zl : z.length ≤ sizeLine := by rw [ez]; exact small (by omega)
  refine scan_loop (i := 1) (k0 := 0) (z := z) (Z := SG) rfl rfl (by decide) (by omega) (Nat.zero_le _) fun k _ hk hS hS' => ?_
  obtain ⟨t1, d1⟩ := walked (p := isS) (l := tl z) (i := k) (fun j c hj hc => decide_eq_true (hS j c (Nat.zero_le _) hj hc)) hk (fun c hc => decide_eq_false (hS' c hc))
  refine ⟨_, rfl, ?_⟩
  refine scan_loop (i := 2) (k0 := k) (z := z) (Z := FG) rfl rfl (by decide) (by omega) hk fun e hke he hF hF' => ?_
  obtain ⟨t2, _⟩ := walked (p := isF) (l := (tl z).drop k) (i := e - k) (fun j c hj hc => decide_eq_true (hF (k + j) c (by omega) (by omega) (by rw [← List.getElem?_drop]; exact hc))) (by rw [List.length_drop]; omega) (fun c hc => decide_eq_false (hF' c (by rw [List.getElem?_drop, show k + (e - k) = e by omega] at hc; exact hc)))
  have ef : tl (cutS z (some (k : Int)) (some (e : Int))) = figs (tl z) := by
    rw [tl_sub z k e hke, List.drop_take]
    unfold figs
    rw [d1, t2]
  refine ⟨_, rfl, _, rfl, _, rfl, _, rfl, _, rfl, z, rfl, zl, _, rfl, by rw [ef]; exact Nat.le_trans (figs_len _) hl, by rw [ef]; exact figs_digits _, ?_⟩
  rw [ef]
  have ec : Txt.count (cutS z none (some (k : Int))) "-" = (cnt45 ((tl z).takeWhile isS) : Int) := by
    rw [count_cnt, tl_cut, t1]
  dsimp only [gName, tSeq, tAsg, tRet, tDrop, tNext]
  refine ⟨_, rfl, _, rfl, _, rfl, z, rfl, zl, ⟨_, rfl⟩, _, _, rfl, rfl, _, _, rfl, rfl, show (0 : Int) < 2 by decide, rfl, _, rfl, ?_⟩
  rw [ec]
  have em : decide (V.int ((cnt45 ((tl z).takeWhile isS) : Int) % 2) = V.int 1) = minus (tl z) := by
    unfold minus
    generalize cnt45 ((tl z).takeWhile isS) = n
    by_cases h : n % 2 = 1
    · have : ((n : Int) % 2) = 1 := by omega
      rw [this, decide_eq_true h]
      rfl
    · have : ¬ ((n : Int) % 2) = 1 := by omega
      rw [decide_eq_false h, decide_eq_false]
      intro e
      injection e with e
      exact this e
  rw [em]
  refine ite2 (fun c => ?_) (fun c => ?_)
  · refine ⟨_, rfl, _, rfl, ?_⟩
    unfold numOf at q
    rw [if_pos c] at q
    exact q
  · refine ⟨_, rfl, ?_⟩
    unfold numOf at q
    rw [if_neg c] at q
    exact q
theorem rg64 {i n : Nat} (h : i + 64 * n ≤ 1000000) : RgC (i : Int) ((i + 64 * n : Nat) : Int) 64 n := by
  refine ⟨by decide, by decide, ?_, ?_⟩
  · have e : Builtin.Range.rangeSize (i : Int) ((i + 64 * n : Nat) : Int) 64 = n := by
      unfold Builtin.Range.rangeSize
      rw [if_pos (by decide)]
      split
      · have e : (((i + 64 * n : Nat) : Int) - (i : Int) - 1) / 64 = (n : Int) - 1 := by omega
        rw [e]
        omega
      · omega
    unfold Builtin.Range.small
    rw [e]
    have f : ∀ x : Int, 0 ≤ x → x < 2000000 → Builtin.Range.rangeFitsLong x = true := fun x h0 h1 => by
      unfold Builtin.Range.rangeFitsLong
      rw [Bool.and_eq_true]
      exact ⟨decide_eq_true (Int.le_trans (by decide) h0), decide_eq_true (Int.lt_trans h1 (by decide))⟩
    rw [f _ (by omega) (by omega), f _ (by omega) (by omega), f 64 (by decide) (by decide), f _ (by omega) (by omega), if_pos (by decide), f _ (by omega) (by omega), Bool.or_true]
    rfl
  · unfold Builtin.Range.rangeSize
    rw [if_pos (by decide)]
    split
    · have e : (((i + 64 * n : Nat) : Int) - (i : Int) - 1) / 64 = (n : Int) - 1 := by omega
      rw [e]
      omega
    · omega
theorem int_digits {x : Str} (h : AllDigits (tl x)) (h1 : tl x ≠ []) (h2 : (tl x).length ≤ 640) : PySem.intText? x = some ((digitsVal (tl x) : Nat) : Int) := intText_digits h h1 (by rw [len_tl]; omega)
theorem pow250 {n : Nat} (h : n < 10 ^ 250) : (n : Int).natAbs < 2 ^ 900 := Nat.lt_trans h (by decide)
theorem ok_number_of_figures (T : Txt K mg cs) : Cal P w K mg base 1 "_number_of_figures" ["figures"] spFigs := by
  refine T.f_number_of_figures.cal scNumberOfFigures (fun vs H Q E h => ?_) (fun f cdv A outer s H vs Q E hr h => ?_)
  · obtain ⟨z, rfl, _⟩ := h
    rfl
  obtain ⟨z, rfl, hl, hd, q⟩ := h
  refine ⟨_, (pss_cons (ps_set (i := 1) scNumberOfFigures.nd rfl (by first | exact Or.inl rfl | exact Or.inr rfl) (pe_op op_mod (pe_callB lenT rfl T.n_len (by decide +kernel) (pa_cons (pv 0) pa_nil)) pe_int))
    (pss_cons (ps_set (i := 2) scNumberOfFigures.nd rfl (by first | exact Or.inl rfl | exact Or.inr rfl) (pe_callTy call_int_str rfl T.n_int (by decide +kernel) (pa_cons (pe_op op_add_str pe_str (pe_slice sl_str (pv 0) po_none (po_some (pv 1)))) pa_nil)))
    (pss_cons (ps_for PassesOwn.never rfl (pi_range3 rfl T.n_range (pa_cons (pv 1) (pa_cons (pe_callB lenT rfl T.n_len (by decide +kernel) (pa_cons (pv 0) pa_nil)) (pa_cons pe_int pa_nil)))) (pg_name (i := 3) scNumberOfFigures.nd rfl (by first | exact Or.inl rfl | exact Or.inr rfl))
      (pss_one (ps_set (i := 2) scNumberOfFigures.nd rfl (by first | exact Or.inl rfl | exact Or.inr rfl) (pe_op op_add (pe_op op_mulW (pv 2) (pe_op op_powW pe_int pe_int)) (pe_callTy call_int_str rfl T.n_int (by decide +kernel) (pa_cons (pe_slice sl_str (pv 0) (po_some (pv 3)) (po_some (pe_op op_add (pv 3) pe_int))) pa_nil))))))
    (pss_one (ps_ret (pv 2)))))), ?_⟩
  have ez : z.length = (tl z).length := len_tl z
  have zl : z.length ≤ sizeLine := by rw [ez]; exact small (by omega)
  refine ⟨_, rfl, z, rfl, zl, _, _, rfl, rfl, show (0 : Int) < 64 by decide, ?_⟩
  dsimp only [gName, tSeq, tAsg, tRet, tDrop, tNext]
  have e64 : ((z.length : Int) % 64) = (((tl z).length % 64 : Nat) : Int) := by rw [ez]; omega
  rw [e64]
  generalize hg : (tl z).length % 64 = g
  obtain ⟨n, hn⟩ : ∃ n, (tl z).length = g + 64 * n := ⟨(tl z).length / 64, by omega⟩
  have e0 : tl ("0" ++ cutS z none (some (g : Int))) = 48 :: (tl z).take g := by
    rw [tl_append, tl_cut]
    rfl
  have d0 : AllDigits (48 :: (tl z).take g) := fun c hc => by
    rcases List.mem_cons.mp hc with rfl | hc
    · omega
    · exact hd c (List.mem_of_mem_take hc)
  refine ⟨_, rfl, _, rfl, _, rfl, z, rfl, zl, _, _, rfl, rfl, ?_, _, _, rfl, int_digits (by rw [e0]; exact d0) (by rw [e0]; exact List.cons_ne_nil _ _) (by rw [e0, List.length_cons, List.length_take]; omega), ?_, ?_⟩
  · rw [len_tl, len_tl, tl_cut]
    refine Nat.le_trans (Nat.add_le_add (show (tl ("0" : Str)).length ≤ 1 by decide) (show ((tl z).take g).length ≤ 250 by rw [List.length_take]; omega)) (by decide)
  · rw [len_tl, e0, List.length_cons, List.length_take]
    omega
  rw [e0]
  have ev : ∀ l : List Nat, digitsVal (48 :: l) = digitsVal l := fun l => rfl
  rw [ev]
  dsimp only [gName, tSeq, tAsg, tRet, tDrop, tNext]
  refine ⟨_, rfl, _, rfl, z, rfl, zl, _, _, _, n, rfl, (by rw [ez, hn]; exact rg64 (by omega)), ?_⟩
  refine for_rangeC (fun j σ H' => H' = H ∧ ∃ x3, σ = [some (.str z), some (.int (g : Int)), some (.int ((digitsVal ((tl z).take (g + 64 * j)) : Nat) : Int)), x3]) ⟨rfl, none, rfl⟩ (fun j σ H' hj hp => ?_) fun σ H' hp => ?_
  · obtain ⟨rfl, x3, rfl⟩ := hp
    have ej : (g : Int) + (j : Int) * 64 = ((g + 64 * j : Nat) : Int) := by omega
    rw [ej]
    have e2 : ((g + 64 * j : Nat) : Int) + 64 = ((g + 64 * j + 64 : Nat) : Int) := by omega
    have et : tl (cutS z (some ((g + 64 * j : Nat) : Int)) (some (((g + 64 * j : Nat) : Int) + 64))) = ((tl z).drop (g + 64 * j)).take 64 := by
      rw [e2, tl_sub z _ _ (by omega), List.drop_take, show g + 64 * j + 64 - (g + 64 * j) = 64 by omega]
    have dt : AllDigits (((tl z).drop (g + 64 * j)).take 64) := fun c hc => hd c (List.mem_of_mem_drop (List.mem_of_mem_take hc))
    have lt : (((tl z).drop (g + 64 * j)).take 64).length = 64 := by rw [List.length_take, List.length_drop]; omega
    have dv : digitsVal ((tl z).take (g + 64 * j)) < 10 ^ 250 := by
      have := val_lt (l := (tl z).take (g + 64 * j)) fun c hc => hd c (List.mem_of_mem_take hc)
      exact Nat.lt_of_lt_of_le this (Nat.pow_le_pow_right (by decide) (by rw [List.length_take]; omega))
    refine ⟨_, rfl, 10, 64, rfl, rfl, ⟨by decide, by decide, by decide⟩, _, _, rfl, rfl, wide_mul (a := 900) (b := 300) (pow250 dv) (by decide) (by decide) (by decide) (by decide), ?_⟩
    refine ⟨_, rfl, _, rfl, _, rfl, _, rfl, _, _, rfl, rfl, _, rfl, z, rfl, zl, _, _, rfl, int_digits (by rw [et]; exact dt) (by rw [et]; intro z; rw [z] at lt; cases lt) (by rw [et, lt]; decide), by rw [len_tl, et, lt]; decide, _, _, rfl, rfl, ?_⟩
    refine ⟨rfl, some (.int ((g + 64 * j : Nat) : Int)), ?_⟩
    rw [et]
    have e3 : (tl z).take (g + 64 * (j + 1)) = (tl z).take (g + 64 * j) ++ ((tl z).drop (g + 64 * j)).take 64 := by
      rw [show g + 64 * (j + 1) = (g + 64 * j) + 64 by omega, List.take_add]
    have e4 : ((digitsVal ((tl z).take (g + 64 * j)) : Nat) : Int) * 10 ^ ((64 : Int)).toNat + ((digitsVal (((tl z).drop (g + 64 * j)).take 64) : Nat) : Int) = ((digitsVal ((tl z).take (g + 64 * (j + 1))) : Nat) : Int) := by
      rw [e3, val_append, lt, Int.natCast_add, Int.natCast_mul]
      rfl
    rw [← e4]
    rfl
  · obtain ⟨rfl, x3, rfl⟩ := hp
    refine ⟨_, rfl, ?_⟩
    rw [← hn, List.take_length]
    exact q
end
/-! ### all(.. for sign in text) -/
theorem all_signs {p : Addr} {te0 te : TE} {i : Nat} {σ : L2.St} {H : Hp} {Q : VK} {z : Str} (pb : Nat → Bool) (h0 : ∀ R : VK, R (.str z) H → te0 σ H R) (ht : GxR.TabG H p)
    (he : ∀ (c : Nat) (H2 : Hp) (R : VK), c ∈ tl z → Sm H H2 → (∀ H3, Sm H2 H3 → R (.bl (pb c)) H3) → te ((σ.set i none).set i (some (.str ⟨#[c]⟩))) H2 R) (q : ∀ H', Sm H H' → Q (.bl ((tl z).all pb)) H') : GA.tAllG p (iStr te0) (gName i) te [i] σ H Q := by
  refine h0 _ ⟨z, rfl, ht, fun H2 hT => ?_⟩
  have S2 : Sm H H2 := Sm.tabbed ht hT
  refine ⟨fun j m H' => Sm H H' ∧ j ≤ (tl z).length ∧ m = (tl z).length - j ∧ ∀ k c, k < j → (tl z)[k]? = some c → pb c = true, ⟨_, S2, Nat.zero_le _, rfl, fun k c hk => absurd hk (Nat.not_lt_zero _)⟩, fun j m H' hw => ?_⟩
  obtain ⟨S, hj, rfl, hp⟩ := hw
  have sz : z.cps.size = (tl z).length := by simp [tl]
  by_cases hlt : j < (tl z).length
  · refine .inr ⟨by show j < z.cps.size; omega, fun H'' => Sm H H'' ∧ pb (tl z)[j] = true, fun H'' h => ⟨_, ?_, h.1, by omega, rfl, fun k c hk hc => ?_⟩, fun x H'' hy => ?_⟩
    · omega
    · by_cases e : k = j
      · subst e
        rw [List.getElem?_eq_getElem hlt] at hc
        rw [← Option.some.inj hc]
        exact h.2
      · exact hp k c (by omega) hc
    · obtain ⟨rfl, c, hc, rfl⟩ := hy
      have hc' : (tl z)[j]? = some c := by
        show z.cps.toList[j]? = some c
        rw [Array.getElem?_toList]
        exact hc
      have ec : (tl z)[j] = c := by
        rw [List.getElem?_eq_getElem hlt] at hc'
        exact Option.some.inj hc'
      refine ⟨?_, ?_⟩
      · show ((σ.set i none).set i (some (V.str ⟨#[c]⟩))).set i none = σ.set i none
        rw [List.set_set, List.set_set]
      · refine he c H'' _ (List.mem_of_getElem? hc') S fun H3 S3 => ⟨_, rfl, ?_⟩
        refine ite2 (fun e => ?_) (fun e => ?_)
        · exact ⟨S.trans S3, by rw [ec]; exact e⟩
        · have : (tl z).all pb = false := by
            cases q' : (tl z).all pb with
            | false => rfl
            | true => exact absurd (List.all_eq_true.mp q' c (List.mem_of_getElem? hc')) e
          have := this ▸ q H3 (S.trans S3)
          exact this
  · refine .inl ⟨by show z.cps.size ≤ j; omega, ?_⟩
    have : (tl z).all pb = true := List.all_eq_true.mpr fun c hc => by
      obtain ⟨k, hk, e⟩ := List.mem_iff_getElem.mp hc
      exact hp k c (by omega) (by rw [List.getElem?_eq_getElem hk, e])
    have := this ▸ q H' S
    exact this
open PySem.NumText (digitsVal AllDigits)
def spIsNum (p : Addr) : Sp := fun vs H Q _ => ∃ z : Str, vs = [.str z] ∧ (tl z).length ≤ 250 ∧ GxR.TabG H p ∧ ∀ H', Sm H H' → Q (.bl (isNum (tl z))) H'
theorem starts_one (x : Str) (c : Nat) : Txt.startswith x ⟨#[c]⟩ = decide ((tl x)[0]? = some c) := by
  have h := StrLaws.subAt_one x c 0
  unfold Txt.startswith
  by_cases e : (tl x)[0]? = some c
  · have := h.mpr e
    rw [decide_eq_true e, Bool.and_eq_true]
    exact ⟨decide_eq_true this.1, this.2⟩
  · rw [decide_eq_false e]
    cases q : (decide (0 + (⟨#[c]⟩ : Str).length ≤ x.length) && Builtin.Str.subAt x ⟨#[c]⟩ 0) with
    | false => rfl
    | true =>
      rw [Bool.and_eq_true] at q
      exact absurd (h.mp ⟨of_decide_eq_true q.1, q.2⟩) e
theorem tl_bare (z : Str) : tl (Txt.removeprefix z "-") = bareOf (tl z) := by
  have e0 : ("-" : Str) = ⟨#[45]⟩ := by decide +kernel
  rw [e0, StrLaws.removeprefix_eq]
  have h := starts_one z 45
  unfold Txt.startswith at h
  rw [h]
  by_cases e : (tl z)[0]? = some 45
  · rw [decide_eq_true e, if_pos rfl]
    show ((z.cps.toList.drop 1).take (z.length - 1)) = _
    have ez : z.length = (tl z).length := len_tl z
    rw [ez]
    show ((tl z).drop 1).take ((tl z).length - 1) = _
    rw [List.take_of_length_le (by rw [List.length_drop]; exact Nat.le_refl _)]
    cases q : tl z with
    | nil => rw [q] at e; cases e
    | cons a r =>
      rw [q] at e
      have : a = 45 := Option.some.inj e
      subst this
      rfl
  · rw [decide_eq_false e, if_neg (by decide)]
    cases q : tl z with
    | nil => rfl
    | cons a r =>
      rw [q] at e
      unfold bareOf
      split
      · rename_i he
        injection he with h1
        subst h1
        exact absurd rfl e
      · rfl
theorem isNum_head {l : List Nat} (h : (bareOf l)[0]? = some 48) : isNum l = decide (l = [48]) := by
  unfold isNum
  split
  · rfl
  · rename_i hf
    cases q : bareOf l with
    | nil => rw [q] at h; cases h
    | cons a r =>
      rw [q] at h
      exact absurd (by rw [q, Option.some.inj h]) (hf r)
theorem isNum_else {l : List Nat} (h : ¬ (bareOf l)[0]? = some 48) : isNum l = (!decide (bareOf l = []) && (bareOf l).all isF) := by
  unfold isNum
  split
  · rename_i r e
    exact absurd (by rw [e]; rfl) h
  · rfl
theorem dec_str (x y : Str) : decide (V.str x = V.str y) = decide (tl x = tl y) := by
  by_cases e : x = y
  · subst e
    simp
  · rw [decide_eq_false (fun h => e (ext_tl h)), decide_eq_false]
    intro h
    injection h with h
    exact e h
section
variable {P : Program} {w : World} {K : PySem.W.Frag} {mg : Str → Option Value} {base : Heap} {cs : Tabs}
theorem ok_is_number_text (T : Txt K mg cs) (B : TBs base mg cs) : Cal P w K mg base 2 "is_number_text" ["worth"] (spIsNum cs.p_is_number_text) := by
  refine T.f_is_number_text.cal scIsNumberText (fun vs H Q E h => ?_) (fun f A outer s H vs Q E hr h => ?_)
  · obtain ⟨z, rfl, _⟩ := h
    rfl
  obtain ⟨z, rfl, hl, ht, q⟩ := h
  refine ⟨_, (pss_cons (ps_set (i := 1) scIsNumberText.nd rfl (by first | exact Or.inl rfl | exact Or.inr rfl) (pe_m1 PySem.F.slot_str_removeprefix PySem.F.type_str_removeprefix mt_removeprefix (pv 0) pe_str))
    (pss_cons (ps_if (pt_val (pe_m1 PySem.F.slot_str_startswith PySem.F.type_str_startswith mt_startswith (pv 1) pe_str)) (pss_one (ps_ret (pe_cmpR op_eq (pv 0) pe_str (nomark _)))) pss_nil)
    (pss_one (ps_ret (pe_and (pe_cmpR op_ne (pv 1) pe_str (nomark _)) (pe_one (GA.pe_allG (k := 0) (own := [("sign", 2)]) (g := gName 2) (hr.mono (by decide)) B.b_is_number_text scIsNumberText.nd (blkOk_by (own := [("sign", 2)]) (N := ["worth", "figures", "sign"]) (sc := defScope sIsNumberText) (by decide +kernel)) (by decide +kernel) (pi_str (pv 1)) T.n_all (fun _ _ _ _ _ _ _ _ => (pg_name (i := 2) scIsNumberText.nd rfl (by first | exact Or.inl rfl | exact Or.inr rfl))) (fun _ _ _ _ _ _ _ hr => (pe_cmpR op_in_sign (pv 2) (C8.pe_gc rfl T.g__FIGURES) rfl))))))))), ?_⟩
  have ez : z.length = (tl z).length := len_tl z
  have zl : z.length ≤ sizeLine := by rw [ez]; exact small (by omega)
  have e48 : ("0" : Str) = ⟨#[48]⟩ := by decide +kernel
  refine ⟨_, rfl, ⟨_, rfl⟩, _, _, rfl, rfl, zl, ?_⟩
  dsimp only [gName, tSeq, tAsg, tRet, tDrop, tNext]
  refine ⟨_, rfl, ⟨_, rfl⟩, _, _, rfl, rfl, _, rfl, ?_⟩
  rw [e48, starts_one, tl_bare]
  have G := Sm.refl H
  refine ite2 (fun c => ?_) (fun c => ?_)
  · refine ⟨_, rfl, rfl, ?_⟩
    have := q H G
    rw [isNum_head (of_decide_eq_true c)] at this
    rw [dec_str]
    exact this
  · have hc : ¬ (bareOf (tl z))[0]? = some 48 := fun e => c (decide_eq_true e)
    rw [isNum_else hc] at q
    refine ⟨_, rfl, rfl, _, rfl, ?_⟩
    rw [dec_str, tl_bare]
    have e0 : tl ("" : Str) = [] := by decide +kernel
    rw [e0]
    refine ite2 (fun c2 => ?_) (fun c2 => ?_)
    · rw [c2, Bool.true_and, ← tl_bare] at q
      refine all_signs (i := 2) (z := Txt.removeprefix z "-") isF (fun R h => ⟨_, rfl, h⟩) ht (fun c H2 R _ _ h => ?_) q
      exact ⟨_, rfl, _, _, rfl, rfl, h H2 (Sm.refl H2)⟩
    · rw [Bool.eq_false_iff.mpr c2, Bool.false_and] at q
      exact q H G
end
/-! ### numbers' texts, how long they are -/
def spNumText : Sp := fun vs H Q _ => ∃ n : Int, vs = [.int n] ∧ n.natAbs < 10 ^ 60 ∧ ∀ (z : Str) (H' : Hp), Sm H H' → tl z = numT n → Q (.str z) H'
theorem tl_int (i : Int) (h : 0 ≤ i) : tl (Str.ofString (toString i)) = numL i.natAbs := by
  obtain ⟨n, rfl⟩ : ∃ n : Nat, i = (n : Int) := ⟨i.toNat, by omega⟩
  exact tl_num n
theorem log_ok {i : Int} (h : i.natAbs < 10 ^ 250) : i.natAbs.log2 < 1920 := Nat.lt_trans (PySem.Flt.log2_lt_of (n := i.natAbs) (k := 900) (by decide) (Nat.lt_trans h (by decide))) (by decide)
theorem upd_twice {H : Hp} {p : Addr} {o u : HO} : upd (upd H p o) p u = upd H p u := by
  funext a
  by_cases e : a = p
  · subst e
    rw [upd_same, upd_same]
  · rw [upd_ne e, upd_ne e, upd_ne e]
/-! ### a number's own text -/
open PySem.NumText (digitsVal AllDigits)
section
variable {P : Program} {w : World} {K : PySem.W.Frag} {mg : Str → Option Value} {base : Heap} {cs : Tabs}
theorem ok_number_text (T : Txt K mg cs) : Cal P w K mg base 1 "number_text" ["number"] spNumText := by
  refine T.f_number_text.cal scNumberText (fun vs H Q E h => ?_) (fun f cdv A outer s H vs Q E hr h => ?_)
  · obtain ⟨n, rfl, _⟩ := h
    rfl
  obtain ⟨n, rfl, hn, q⟩ := h
  refine ⟨_, (pss_cons (ps_set (i := 1) scNumberText.nd rfl (by first | exact Or.inl rfl | exact Or.inr rfl) (pe_callB call_abs rfl T.n_abs (by decide +kernel) (pa_cons (pv 0) pa_nil)))
    (pss_cons (ps_set (i := 2) scNumberText.nd rfl (by first | exact Or.inl rfl | exact Or.inr rfl) (pe_lst pa_nil))
    (pss_cons (ps_while PassesOwn.never (pt_cmpR op_ge (pv 1) (pe_op op_powW pe_int pe_int) (nomark _))
      (pss_cons (ps_asg (pe_callB call_divmodW rfl T.n_divmod (by decide +kernel) (pa_cons (pv 1) (pa_cons (pe_op op_powW pe_int pe_int) pa_nil))) (pg_tup rfl (pgs_cons (pg_name (i := 1) scNumberText.nd rfl (by first | exact Or.inl rfl | exact Or.inr rfl)) (pgs_cons (pg_name (i := 4) scNumberText.nd rfl (by first | exact Or.inl rfl | exact Or.inr rfl)) pgs_nil))))
        (pss_one (ps_expr (pe_bm PySem.F.plainAttrs_list PySem.F.slot_list_append PySem.F.type_list_append mt_append (pv 2) (pa_cons (pe_m1 PySem.F.slot_str_zfill PySem.F.type_str_zfill mt_zfill (pe_callTy call_str_int rfl T.n_str (by decide +kernel) (pa_cons (pv 4) pa_nil)) pe_int) pa_nil))))))
    (pss_cons (ps_expr (pe_bm PySem.F.plainAttrs_list PySem.F.slot_list_append PySem.F.type_list_append mt_append (pv 2) (pa_cons (pe_callTy call_str_int rfl T.n_str (by decide +kernel) (pa_cons (pv 1) pa_nil)) pa_nil)))
    (pss_cons (ps_set (i := 3) scNumberText.nd rfl (by first | exact Or.inl rfl | exact Or.inr rfl) (pe_join pe_str (pe_revL (pv 2))))
    (pss_one (ps_ret (pe_ifExp (pt_cmpR op_lt (pv 0) pe_int (nomark _)) (pe_op op_add_str pe_str (pv 3)) (pv 3))))))))), ?_⟩
  refine ⟨_, rfl, _, rfl, ?_⟩
  have ea : (if n < 0 then -n else n) = (n.natAbs : Int) := by split <;> omega
  rw [ea]
  dsimp only [gName, tSeq, tAsg, tRet, tDrop, tNext]
  refine ⟨Nat.zero_le _, fun L hL => ?_⟩
  refine ⟨fun _ σ' H' => σ' = [some (.int n), some (.int (n.natAbs : Int)), some (.ref L), none, none] ∧ H' = upd H L (.lst []), ⟨0, rfl, rfl⟩, fun m σ' H' hw => ?_⟩
  obtain ⟨rfl, rfl⟩ := hw
  refine ⟨_, rfl, 10, 64, rfl, rfl, ⟨by decide, by decide, by decide⟩, _, _, rfl, rfl, _, rfl, ?_⟩
  have big : (10 : Int) ^ 60 ≤ 10 ^ ((64 : Int)).toNat := by decide
  have hn' : (n.natAbs : Int) < 10 ^ 60 := by omega
  rw [decide_eq_false (Int.not_le.mpr (Int.lt_of_lt_of_le hn' big))]
  refine iteF ?_
  have hz : tl (Str.ofString (toString (n.natAbs : Int))) = numL n.natAbs := tl_num _
  refine ⟨_, rfl, .inl ⟨rfl, _, .inl (.inl upd_same)⟩, _, rfl, _, rfl, log_ok (Nat.lt_trans (show ((n.natAbs : Int)).natAbs < 10 ^ 60 by omega) (by decide)), L, _, _, rfl, rfl, upd_same, by decide, ?_⟩
  rw [upd_twice]
  dsimp only [gName, tSeq, tAsg, tRet, tDrop, tNext]
  refine ⟨⟨_, rfl⟩, _, rfl, L, _, rfl, SqL.of upd_same, fun p hp => ?_⟩
  have len : (numL n.natAbs).length ≤ 60 := numL_len (by decide) hn
  refine ⟨_, p, [Str.ofString (toString (n.natAbs : Int))], rfl, rfl, .inl (SqL.of upd_same), ?_, ?_⟩
  · show (Str.ofString (toString (n.natAbs : Int))).length + 0 + 1 * ("" : Str).length ≤ 16777216
    have e0 : ("" : Str).length = 0 := rfl
    rw [e0, len_tl, hz]
    omega
  have hj : tl (Txt.join "" [Str.ofString (toString (n.natAbs : Int))]) = numL n.natAbs := by
    rw [tl_glue]
    show tl _ ++ [] = _
    rw [hz, List.append_nil]
  have S : Sm H (upd (upd H L (.lst [V.str (Str.ofString (toString (n.natAbs : Int)))])) p (.lst [V.str (Str.ofString (toString (n.natAbs : Int)))].reverse)) := (Sm.new hL).trans (Sm.new hp)
  refine ⟨_, rfl, _, _, rfl, rfl, _, rfl, ?_⟩
  refine ite2 (fun c => ?_) (fun c => ?_)
  · refine ⟨_, rfl, _, _, rfl, rfl, ?_, q _ _ S ?_⟩
    · rw [len_tl (Txt.join _ _), hj, len_tl]
      exact Nat.le_trans (Nat.add_le_add (show (tl ("-" : Str)).length ≤ 1 by decide +kernel) len) (by decide)
    · rw [tl_append, hj]
      unfold numT
      rw [if_pos (of_decide_eq_true c)]
      rfl
  · refine ⟨_, rfl, q _ _ S ?_⟩
    rw [hj]
    unfold numT
    rw [if_neg (fun h => c (decide_eq_true h))]
end
/-! ### < of two tuples of ints and texts, place by place -/
def eqF : V → V → Bool
  | .int a, .int b => a == b
  | .str a, .str b => a == b
  | _, _ => false
def ltF : V → V → Bool
  | .int a, .int b => decide (a < b)
  | .str a, .str b => decide (tl a < tl b)
  | _, _ => false
def alike : V → V → Bool
  | .int _, .int _ => true
  | .str _, .str _ => true
  | _, _ => false
def lexF : List V → List V → Bool
  | [], ys => !ys.isEmpty
  | _ :: _, [] => false
  | x :: xs, y :: ys => if eqF x y = true then lexF xs ys else ltF x y
theorem lexF_at : ∀ (xs ys : List V) (e r : Nat → Bool) (i : Nat), (∀ j x y, xs[j]? = some x → ys[j]? = some y → e (i + j) = eqF x y ∧ r (i + j) = ltF x y) → Ob.lexAt e r (decide (xs.length < ys.length)) i (min xs.length ys.length) = lexF xs ys
  | [], ys, e, r, i, _ => by
    rw [List.length_nil, Nat.zero_min, Ob.lexAt_zero]
    cases ys <;> simp [lexF]
  | x :: xs, [], e, r, i, _ => by
    rw [List.length_nil, Nat.min_zero, Ob.lexAt_zero]
    simp [lexF]
  | x :: xs, y :: ys, e, r, i, h => by
    have h0 := h 0 x y rfl rfl
    rw [Nat.add_zero] at h0
    rw [List.length_cons, List.length_cons, Nat.succ_min_succ, Ob.lexAt_succ, h0.1, h0.2]
    show _ = if eqF x y = true then lexF xs ys else ltF x y
    have ih := lexF_at xs ys e r (i + 1) fun j a b ha hb => by
      have := h (j + 1) a b ha hb
      rwa [show i + (j + 1) = i + 1 + j by omega] at this
    have ed : decide (xs.length + 1 < ys.length + 1) = decide (xs.length < ys.length) := by rw [decide_eq_decide]; omega
    rw [ed, ih]
def rLtF (K : PySem.W.Frag) : R2 := fun x y H Q => ∃ (a b : Addr) (xs ys : List V), x = .ref a ∧ y = .ref b ∧ SqT K H a xs ∧ SqT K H b ys ∧ (∀ (j : Nat) (x y : V), xs[j]? = some x → ys[j]? = some y → alike x y = true) ∧ Q (.bl (lexF xs ys)) H
section
variable {X : Cx} (K : PySem.W.Frag)
theorem val_at {xs : List V} {us : List Value} (r : Vals xs us) : ∀ {j : Nat} {u : Value}, us[j]? = some u → ∃ x, xs[j]? = some x ∧ RelV x u := by
  induction r with
  | nil => intro j u h; simp at h
  | cons rx _ ih =>
    intro j u h
    cases j with
    | zero => exact ⟨_, rfl, by rw [← Option.some.inj h]; exact rx⟩
    | succ j => exact ih (j := j) (by simpa using h)
theorem ltK (hu : X.A.units + 64 < cLine) (h : X.K = K := by rfl) : OpR X (compareOp .Lt) (rLtF K) := by
  subst h
  intro pins s σ H x y v u Q I rx ry h
  obtain ⟨a, b, xs, ys, rfl, rfl, ha, hb, hk, q⟩ := h
  obtain rfl : v = Value.ref a := rx
  obtain rfl : u = Value.ref b := ry
  obtain ⟨us, r1, p1, _⟩ := I.tuple ha
  obtain ⟨ws, r2, p2, _⟩ := I.tuple hb
  have key : ∀ j (h1 : j < us.toArray.size) (h2 : j < ws.toArray.size), ∃ x y, xs[j]? = some x ∧ ys[j]? = some y ∧ RelV x us.toArray[j] ∧ RelV y ws.toArray[j] := fun j h1 h2 => by
    obtain ⟨x, hx, qx⟩ := val_at r1 (j := j) (u := us.toArray[j]) (by simp at h1 ⊢)
    obtain ⟨y, hy, qy⟩ := val_at r2 (j := j) (u := ws.toArray[j]) (by simp at h2 ⊢)
    exact ⟨x, y, hx, hy, qx, qy⟩
  have fin : lexF xs ys = Ob.lexAt (fun j => match xs[j]?, ys[j]? with | some x, some y => eqF x y | _, _ => false) (fun j => match xs[j]?, ys[j]? with | some x, some y => ltF x y | _, _ => false) (decide (us.toArray.size < ws.toArray.size)) 0 (min us.toArray.size ws.toArray.size) := by
    rw [List.size_toArray, List.size_toArray, ← r1.length, ← r2.length]
    refine (lexF_at xs ys _ _ 0 fun j x y hx hy => ?_).symm
    rw [Nat.zero_add, hx, hy]
    exact ⟨rfl, rfl⟩
  refine Ob.RcOp.tuples_lt (e := fun j => match xs[j]?, ys[j]? with | some x, some y => eqF x y | _, _ => false) (r := fun j => match xs[j]?, ys[j]? with | some x, some y => ltF x y | _, _ => false) p1 p2 (by omega) (fun j h1 h2 => ?_) (fun j h1 h2 _ => ?_) X.prog X.w _ _ ⟨.bl _, H, I, rfl, by rw [← fin]; exact q⟩
  · obtain ⟨x, y, hx, hy, qx, qy⟩ := key j h1 h2
    have al := hk j x y hx hy
    simp only [hx, hy]
    cases x <;> cases y <;> first | (cases al; done) | skip
    · obtain ⟨t, e⟩ := qx
      obtain ⟨t', e'⟩ := qy
      rw [e, e']
      exact SeqAt.EqAt.int_int _ _ _ _
    · obtain ⟨t, e⟩ := qx
      obtain ⟨t', e'⟩ := qy
      rw [e, e']
      exact SeqAt.EqAt.str_str _ _ _ _
  · obtain ⟨x, y, hx, hy, qx, qy⟩ := key j h1 h2
    have al := hk j x y hx hy
    simp only [hx, hy]
    cases x <;> cases y <;> first | (cases al; done) | skip
    · obtain ⟨t, e⟩ := qx
      obtain ⟨t', e'⟩ := qy
      rw [e, e']
      exact Ob.RcOp.lt_int _ _ _ _
    · obtain ⟨t, e⟩ := qx
      obtain ⟨t', e'⟩ := qy
      rw [e, e']
      exact fun _ _ _ _ h => PyProof.Rows.lt_str h
end
/-! ### the order of keys: their ranks -/
def rankV (z : Str) : List V := if isNum (tl z) = true then [.int 0, .int (numOf (tl z)), .str ""] else [.int 1, .int 0, .str z]
/-- one key ahead of another -/
def ahead (x y : Str) : Bool := lexF (rankV x) (rankV y)
theorem rank_alike (x y : Str) : ∀ (j : Nat) (a b : V), (rankV x)[j]? = some a → (rankV y)[j]? = some b → alike a b = true := fun j a b ha hb => by
  unfold rankV at ha hb
  match j with
  | 0 => split at ha <;> split at hb <;> (cases ha; cases hb; rfl)
  | 1 => split at ha <;> split at hb <;> (cases ha; cases hb; rfl)
  | 2 => split at ha <;> split at hb <;> (cases ha; cases hb; rfl)
  | j + 3 => split at ha <;> cases ha
def spRank (K : PySem.W.Frag) (p : Addr) : Sp := fun vs H Q _ => ∃ z : Str, vs = [.str z] ∧ (tl z).length ≤ 250 ∧ GxR.TabG H p ∧ ∀ a H', Sm H H' → H' a = some (.tup (rankV z)) → Q (.ref a) H'
def spBefore (p : Addr) : Sp := fun vs H Q _ => ∃ x y : Str, vs = [.str x, .str y] ∧ (tl x).length ≤ 250 ∧ (tl y).length ≤ 250 ∧ GxR.TabG H p ∧ ∀ H', Sm H H' → Q (.bl (ahead x y)) H'
section
variable {P : Program} {w : World} {K : PySem.W.Frag} {mg : Str → Option Value} {base : Heap} {cs : Tabs}
theorem ok_key_rank (T : Txt K mg cs) (Cnumber_of : Cal P w K mg base 2 "number_of" ["worth"] spNumOf) (Cis_number_text : Cal P w K mg base 2 "is_number_text" ["worth"] (spIsNum cs.p_is_number_text)) : Cal P w K mg base 3 "key_rank" ["key"] (spRank K cs.p_is_number_text) := by
  refine T.f_key_rank.cal scKeyRank (fun vs H Q E h => ?_) (fun f cdv A outer s H vs Q E hr h => ?_)
  · obtain ⟨z, rfl, _⟩ := h
    rfl
  obtain ⟨z, rfl, hl, ht, q⟩ := h
  refine ⟨_, (pss_cons (ps_if (pt_val (pe_cal Cis_number_text (hr.mono (by first | decide | omega)) (pa_cons (pv 0) pa_nil))) (pss_one (ps_ret (pe_tup (pa_cons pe_int (pa_cons (pe_cal Cnumber_of (hr.mono (by first | decide | omega)) (pa_cons (pv 0) pa_nil)) (pa_cons pe_str pa_nil)))))) pss_nil)
    (pss_one (ps_ret (pe_tup (pa_cons pe_int (pa_cons pe_int (pa_cons (pv 0) pa_nil))))))), ?_⟩
  refine ⟨_, rfl, z, rfl, hl, ht, fun H1 S1 => ⟨_, rfl, ?_⟩⟩
  refine ite2 (fun c => ?_) (fun c => ?_)
  · refine ⟨_, rfl, z, rfl, hl, small (by show 3 ≤ 100000; decide), fun p hp => ?_⟩
    refine q p _ (S1.trans (Sm.new hp)) ?_
    unfold rankV
    rw [if_pos c]
    exact upd_same
  · refine ⟨_, rfl, small (by show 3 ≤ 100000; decide), fun p hp => ?_⟩
    refine q p _ (S1.trans (Sm.new hp)) ?_
    unfold rankV
    rw [if_neg c]
    exact upd_same
theorem ok_before (T : Txt K mg cs) (Ckey_rank : Cal P w K mg base 3 "key_rank" ["key"] (spRank K cs.p_is_number_text)) : Cal P w K mg base 4 "before" ["one", "other"] (spBefore cs.p_is_number_text) := by
  refine T.f_before.cal scBefore (fun vs H Q E h => ?_) (fun f cdv A outer s H vs Q E hr h => ?_)
  · obtain ⟨x, y, rfl, _⟩ := h
    rfl
  obtain ⟨x, y, rfl, hx, hy, ht, q⟩ := h
  refine ⟨_, (pss_one (ps_ret (pe_cmpR (ltK K hr.units) (pe_cal Ckey_rank (hr.mono (by first | decide | omega)) (pa_cons (pv 0) pa_nil)) (pe_cal Ckey_rank (hr.mono (by first | decide | omega)) (pa_cons (pv 1) pa_nil)) (nomark _)))), ?_⟩
  refine ⟨_, rfl, x, rfl, hx, ht, fun a H1 S1 e1 => ⟨_, rfl, y, rfl, hy, S1.tab _ ht, fun b H2 S2 e2 => ?_⟩⟩
  exact ⟨a, b, rankV x, rankV y, rfl, rfl, .inl (.inl (S2 _ _ e1)), .inl (.inl e2), rank_alike x y, q H2 (S1.trans S2)⟩
end
/-! ### sorted(xs, key=f): f a def of one's own that tells a tuple of ints and texts; any length -/
open PyProof.Rows in
def At (a : Addr) (o : Obj) : Heap → Prop := fun h => h.get? a = some o
def toD : V → PyData
  | .int i => .int i
  | .str z => .str z
  | .bl b => .bool b
  | _ => .none
def flat1 : V → Bool
  | .int _ => true
  | .str _ => true
  | .bl _ => true
  | _ => false
def keyD (rk : V → List V) (x : V) : PyData := .tuple ((rk x).map toD)
theorem depth_flat : ∀ ys : List V, PyData.depthAll (ys.map toD) = 0
  | [] => by rw [List.map_nil, PyData.depthAll]
  | y :: ys => by
    rw [List.map_cons, PyData.depthAll, depth_flat ys]
    cases y <;> simp [toD, PyData.depth]
theorem depth_key (rk : V → List V) (x : V) : (keyD rk x).depth ≤ 1 := by
  unfold keyD
  rw [PyData.depth, depth_flat]
  omega
theorem reads_flat {h : Heap} : ∀ {ys : List V} {us : List Value}, Vals ys us → (∀ y ∈ ys, flat1 y = true) → PySem.ReadsAll h us (ys.map toD) []
  | _, _, .nil, _ => .nil
  | _, _, @Paired.cons _ _ _ y u ys us r t, hf => by
    have h1 := hf y (.head _)
    have ht := reads_flat (h := h) t fun z hz => hf z (.tail _ hz)
    have hd : PySem.Reads h u (toD y) [] := by
      cases y <;> first | (cases h1; done) | skip
      · cases r; exact .bool _
      · obtain ⟨t', rfl⟩ := r; exact .int _ _
      · obtain ⟨t', rfl⟩ := r; exact .str _ _
    exact .cons hd ht
section
variable {P : Program} {w : World} {H : Hp} {h : Heap} {a : Addr} {o : Obj}
theorem at_new (e : h.get? a = some o) : ObjOk P w H h a (.ext (At a o)) := ⟨e, ⟨o, e⟩, fun _ _ p k => k o p⟩
theorem at_ok (x : HOk P w H h) (e : H a = some (.ext (At a o))) : h.get? a = some o := (x a _ e).1
end
/-- the same place, two calls of built-ins deeper; nothing is raised -/
def sub (X : Cx) : Cx := { X with A := X.A.in1.in1, xe := fun _ _ => False }
section
variable {X : Cx} {pins : List (Addr × Obj)} {σ : St} {H : Hp} {s : Shared}
theorem sub_in (I : Inv X pins σ H s) : Inv (sub X) pins σ H s := by
  have k := I.ok
  exact ⟨⟨k.mod, k.kind, k.glob, k.blt, k.above, k.inj, k.has, k.cab, k.hd, k.frames, k.stk, k.exf, k.bs, k.bsz, k.noex, k.exfs, k.funs, k.frf⟩, I.os, I.bare, I.base, I.loc, I.cell, I.free, I.freeC, I.pin, I.hok, I.len⟩
theorem sub_out (k : X.Ok) (I : Inv (sub X) pins σ H s) : Inv X pins σ H s :=
  ⟨k, I.os, I.bare, I.base, I.loc, I.cell, I.free, I.freeC, I.pin, I.hok, I.len⟩
end
def KeyRow (rk : V → List V) (H : Hp) : List V → List V → Prop := Paired fun x k => ∃ p, k = .ref p ∧ H p = some (.tup (rk x))
theorem KeyRow.sm {rk : V → List V} {H H' : Hp} (k : ∀ (p : Addr) (xs : List V), H p = some (.tup xs) → H' p = some (.tup xs)) : ∀ {xs ks : List V}, KeyRow rk H xs ks → KeyRow rk H' xs ks
  | _, _, .nil => .nil
  | _, _, .cons ⟨p, e, h⟩ t => .cons ⟨p, e, k _ _ h⟩ (KeyRow.sm k t)
theorem vals_each : ∀ {xs : List V} {vs : List Value}, Vals xs vs → PySem.W.EachIs (fun v x => RelV x v) vs xs
  | _, _, .nil => .nil
  | _, _, .cons r t => .cons r (vals_each t)
theorem each_vals : ∀ {xs : List V} {vs : List Value}, PySem.W.EachIs (fun v x => RelV x v) vs xs → Vals xs vs
  | _, _, .nil => .nil
  | _, _, .cons r t => .cons r (each_vals t)
theorem row_reads {rk : V → List V} {P : Program} {w : World} {H : Hp} {h : Heap} (ok : HOk P w H h) : ∀ {xs ks : List V} {us : List Value}, KeyRow rk H xs ks → Vals ks us → (∀ x ∈ xs, ∀ y ∈ rk x, flat1 y = true) →
    PySem.W.EachIs (fun v d => ∃ as, PySem.Reads h v d as) us (xs.map (keyD rk))
  | _, _, _, .nil, .nil, _ => .nil
  | _, _, _, @Paired.cons _ _ _ x k xs ks ⟨p, e, hp⟩ t, .cons r1 t1, hf => by
    subst e
    have e2 : _ = Value.ref p := r1
    subst e2
    obtain ⟨_, its, r2, ob, g1, g2, n, g3⟩ := ok p _ hp
    exact .cons ⟨[], .tuple g1 g2 g3 (by simpa using reads_flat r2 (hf x (.head _)))⟩ (row_reads ok t t1 fun z hz => hf z (.tail _ hz))
section
variable {X : Cx} {pins : List (Addr × Obj)} {σ : St} {H : Hp} {s : Shared} {Pq : PySem.Fin → Shared → Prop} {E : Value → Shared → Prop}
/-- the keys are there: the rows are sorted by them -/
theorem sortK_end {a kS : Addr} {e1 e : Nat} {kA : Array Value} {vs : List Value} {xs ks : List V} {rk : V → List V} (H0 : Hp) (I : Inv X pins σ H s) (S0 : Sm H0 H) (na : H0 a = none) (nk : H0 kS = none) (hak : kS ≠ a)
    (ha : H a = some (.ext (At a (PyProof.Rows.seqObj "list" #[] e1)))) (hk : H kS = some (.ext (At kS (PyProof.Rows.seqObj "list" kA e)))) (hup : X.s_0.heap.objs.size ≤ kS ∧ kS ≠ X.env.locals ∧ (∀ x c, X.env.cells.lookup x = some c → c ≠ kS) ∧ ∀ p ∈ X.pn ++ pins, p.1 ≠ kS)
    (rv : Vals xs vs) (hz : vs.length ≤ sizeLine) (hu : X.A.units + 1 < cLine) (hR : KeyRow rk H xs ks) (rk' : Vals ks kA.toList)
    (hfl : ∀ x ∈ xs, ∀ y ∈ rk x, flat1 y = true) (hne : ∀ x ∈ xs, rk x ≠ []) (hal : PySem.W.AllAlike (xs.map (keyD rk)))
    (q : ∀ (H2 : Hp) (s2 : Shared), Inv X pins σ H2 s2 → Sm H0 H2 → H2 a = some (.lst (xs.mergeSort (PySem.W.dataLe false (keyD rk)))) → Pq (.done (.ret .none)) s2) :
    wpAny (model X.prog X.w) X.A (PyProof.Rows.ksk_end a false vs.toArray e1 (.ref kS) kA) Pq E s := by
  have oa := at_ok I.hok ha
  have ok := at_ok I.hok hk
  have er := row_reads I.hok hR rk' hfl
  have hsk : PySem.W.Sortable (xs.map (keyD rk)) := .inl fun d hd => by
    obtain ⟨x, hx, rfl⟩ := List.mem_map.mp hd
    have := hne x hx
    unfold keyD
    cases hr : rk x with
    | nil => exact absurd hr this
    | cons y ys => exact ⟨_, _, rfl⟩
  have hdp : ∀ d, d ∈ xs.map (keyD rk) → X.A.units + d.depth < cLine := fun d hd => by
    obtain ⟨x, _, rfl⟩ := List.mem_map.mp hd
    have := depth_key rk x
    omega
  have hs1 : kA.size = vs.length := by
    have h1 := er.length
    rw [Array.length_toList, List.length_map] at h1
    rw [h1]
    exact rv.length
  refine PySem.W.keyH_end (κ := PySem.W.dataKind s.heap (xs.map (keyD rk))) (h₁ := PySem.W.hideAll s.heap [kS]) (fun b o _ e => PySem.W.of_hideAll _ e) (PySem.W.hideAll_none _ (.head _)) ok oa hak (PySem.W.SortsAt.data er hal hsk hdp) hs1 hz
    fun h' tk c kp ho => ?_
  have kp' : ∀ b o, b ≠ a → b ≠ kS → s.heap.get? b = some o → h'.get? b = some o := fun b o h1 h2 g => kp b o h1 (PySem.W.hideAll_get _ g (by simpa using h2))
  have out := PySem.W.keyedOut_each (rev := false) (R := fun v x => RelV x v) (keyD rk) ⟨s.heap, kA.toList, hal, rfl, er⟩ (vals_each rv)
  have rv2 : Vals (xs.mergeSort (PySem.W.dataLe false (keyD rk))) (PySem.W.sortVals (PySem.W.dataKind s.heap (xs.map (keyD rk))) false kA.toList vs) := each_vals out
  have hlen : (xs.mergeSort (PySem.W.dataLe false (keyD rk))).length ≤ sizeLine := by
    rw [List.length_mergeSort, rv.length]
    exact hz
  have hmu : ∀ b u, H b = some u → (∀ φ, u ≠ .ext φ) → b ≠ a ∧ b ≠ kS := fun b u g n =>
    ⟨fun z => by rw [z, ha] at g; exact n _ (Option.some.inj g).symm, fun z => by rw [z, hk] at g; exact n _ (Option.some.inj g).symm⟩
  have ua : ∀ b, b ≠ kS → b ≠ a → (if b = kS then none else upd H a (.lst (xs.mergeSort (PySem.W.dataLe false (keyD rk)))) b) = H b := fun b h1 h2 => by
    rw [if_neg h1, upd_ne h2]
  refine q (fun b => if b = kS then none else upd H a (.lst (xs.mergeSort (PySem.W.dataLe false (keyD rk)))) b) _ (I.call (g' := s.gens) (d' := s.drawn) (t' := tk) (ch := [kS]) ⟨fun b o g n _ hx => ?_, fun b o g n _ hx => ?_, fun b o g n hx => ?_, fun b o g hx => ?_, fun b ys g => ?_, fun b o u g => ?_, fun b ps g => ⟨#[], ?_⟩⟩ (fun b u g => ?_) I.bare ?_) ?_ ?_
  · have h1 : b ≠ kS := by simpa using hx
    have h2 : b ≠ a := fun z => by rw [z, ha] at n; cases n
    exact kp' b o h2 h1 g
  · have h1 : b ≠ kS := by simpa using hx
    have h2 : b ≠ a := fun z => by rw [z, ha] at n; cases n
    exact ⟨o.slots, kp' b o h2 h1 g⟩
  · have h1 : b ≠ kS := by simpa using hx
    have h2 : b ≠ a := fun z => by rw [z, ha] at n; cases n
    rw [ua b h1 h2]
    exact n
  · have h1 : b ≠ kS := by simpa using hx
    by_cases h2 : b = a
    · rw [h2]
      exact ⟨_, ho⟩
    · exact ⟨o, kp' b o h2 h1 g⟩
  · obtain ⟨h2, h1⟩ := hmu b _ g fun φ z => by cases z
    rw [ua b h1 h2]
    exact g
  · obtain ⟨h2, h1⟩ := hmu b _ g fun φ z => by cases z
    rw [ua b h1 h2]
    exact g
  · obtain ⟨h2, h1⟩ := hmu b _ g fun φ z => by cases z
    rw [ua b h1 h2, g]
    simp
  · by_cases h1 : b = kS
    · rw [if_pos h1] at g
      cases g
    rw [if_neg h1] at g
    by_cases h2 : b = a
    · subst h2
      rw [upd_same] at g
      cases g
      exact ⟨hlen, _, c, rv2, ho⟩
    · rw [upd_ne h2] at g
      refine (I.hok b u g).stay (fun d v hd gd => ?_) (fun d gd => ?_) fun d ys gd => ?_
      · rcases hd with rfl | hd
        · exact kp' _ v h2 h1 gd
        · obtain ⟨z2, z1⟩ := hmu d _ hd fun φ z => by cases z
          exact kp' d v z2 z1 gd
      · obtain ⟨z2, z1⟩ := hmu d _ gd fun φ z => by cases z
        rw [ua d z1 z2]
        exact gd
      · obtain ⟨z2, z1⟩ := hmu d _ gd fun φ z => by cases z
        rw [ua d z1 z2]
        exact gd
  · intro b hb
    have : b = kS := by simpa using hb
    subst this
    exact ⟨.inr hup.1, hup.2.1, hup.2.2.1, hup.2.2.2⟩
  · refine ⟨fun b u g n => ?_, fun P t => ?_, fun b g => ?_⟩
    · rw [ua b (ne_of_none g nk) (ne_of_none g na)]
      exact S0.keep b u g n
    · obtain ⟨ps, t1, t2⟩ := S0.tab P t
      obtain ⟨h2, h1⟩ := hmu P _ t1 fun φ z => by cases z
      exact ⟨ps, (ua P h1 h2).trans t1, t2⟩
    · by_cases h1 : b = kS
      · rw [h1]; exact nk
      · by_cases h2 : b = a
        · rw [h2]; exact na
        · rw [ua b h1 h2] at g
          exact S0.gone b g
  · show (if a = kS then none else _) = _
    rw [if_neg (Ne.symm hak), upd_same]
/-- the keys are told, one behind the other -/
theorem sortK_rest {a kS f : Addr} {fd : FuncData} {ps : List Str} {sp : Sp} {k e1 : Nat} {vs : List Value} {xs : List V} {rk : V → List V} (H0 : Hp) (I : Inv X pins σ H s) (S0 : Sm H0 H) (na : H0 a = none) (nk : H0 kS = none) (hak : kS ≠ a)
    (ha : H a = some (.ext (At a (PyProof.Rows.seqObj "list" #[] e1)))) (hk : H kS = some (.ext (At kS (PyProof.Rows.seqObj "list" #[] 0)))) (hup : X.s_0.heap.objs.size ≤ kS ∧ kS ≠ X.env.locals ∧ (∀ x c, X.env.cells.lookup x = some c → c ≠ kS) ∧ ∀ p ∈ X.pn ++ pins, p.1 ≠ kS)
    (rv : Vals xs vs) (hz : vs.length ≤ sizeLine) (hr : Room k X.A) (F : FnOk X.prog X.w X.K X.mg X.base CX0 k f fd ps sp) (hb : Binds X.K fd ps []) (hxe : X.xe = fun _ _ => False)
    (turn : ∀ x ∈ xs, ∀ H1, Sm H0 H1 → sp [x] H1 (fun v H2 => Sm H1 H2 ∧ ∃ p, v = .ref p ∧ H2 p = some (.tup (rk x))) E0)
    (hfl : ∀ x ∈ xs, ∀ y ∈ rk x, flat1 y = true) (hne : ∀ x ∈ xs, rk x ≠ []) (hal : PySem.W.AllAlike (xs.map (keyD rk)))
    (q : ∀ (H2 : Hp) (s2 : Shared), Inv X pins σ H2 s2 → Sm H0 H2 → H2 a = some (.lst (xs.mergeSort (PySem.W.dataLe false (keyD rk)))) → Pq (.done (.ret .none)) s2) :
    wpAny (model X.prog X.w) X.A (PyProof.Rows.ksk_rest a (.ref f) false vs.toArray e1 (.ref kS)) Pq E s := by
  unfold PyProof.Rows.ksk_rest
  refine wpAny_bind (wpAny_rule ?_)
  rw [List.forIn_toArray]
  refine wpAny_bind (PyProof.Rows.ksk_fold (fun i s' => ∃ H' kA ks e, Inv X pins σ H' s' ∧ Sm H0 H' ∧ H' a = some (.ext (At a (PyProof.Rows.seqObj "list" #[] e1))) ∧ H' kS = some (.ext (At kS (PyProof.Rows.seqObj "list" kA e))) ∧
    KeyRow rk H' (xs.take i) ks ∧ Vals ks kA.toList) vs 0 s ⟨H, #[], [], 0, I, S0, ha, hk, by rw [List.take_zero]; exact .nil, .nil⟩ ?_ ?_)
  · rintro j v s1 hv ⟨H1, kA, ks, e, I1, S1, a1, k1, hR, rk1⟩
    simp only [Nat.zero_add] at hR ⊢
    obtain ⟨x, hx, rx⟩ := val_at rv hv
    have hm : x ∈ xs := List.mem_of_getElem? hx
    have run := run_fn F hr hb .nil pass0 I1 (.cons rx .nil) (turn x hm H1 S1)
    rw [hxe] at run
    refine wpAny_bind (wpAny_attempt (wpAny_mono run (fun u s2 hq => ?_) fun _ _ z => z.elim))
    obtain ⟨v2, H2, I2, r2, S2, p, e2, hp⟩ := hq
    subst e2
    have e3 : u = Value.ref p := r2
    subst e3
    dsimp only
    have a2 := S2 _ _ a1
    have k2 := S2 _ _ k1
    have ok := at_ok I2.hok k2
    have hlt : j < vs.length := (List.getElem?_eq_some_iff.mp hv).1
    have hz1 : kA.size ≤ vs.length := by
      have h1 : ks.length = kA.size := by simpa using rk1.length
      have h2 := hR.length
      rw [List.length_take] at h2
      have := rv.length
      omega
    obtain ⟨c, nobj⟩ : ∃ c, (s2.heap.update kS (Obj.mapSeq (·.push (Value.ref p)))).get? kS = some (PyProof.Rows.seqObj "list" (kA.push (.ref p)) c) := ⟨_, PyProof.Rows.get?_update_seq ok _⟩
    refine wpAny_bind (PyProof.Rows.listUpdate_at ok rfl ?_ (Nat.le_trans hz1 hz) (by rw [Array.size_push]; exact Nat.succ_le_succ (Nat.le_trans hz1 hz)))
    have sb := Heap.SameBut.update s2.heap kS (Obj.mapSeq (·.push (Value.ref p)))
    refine wpAny_pure ⟨rfl, upd H2 kS (.ext (At kS (PyProof.Rows.seqObj "list" (kA.push (.ref p)) c))), kA.push (.ref p), ks ++ [.ref p], c, ?_, ?_, ?_, upd_same, ?_, ?_⟩
    · exact I2.write (e := kS) (t' := s2.toks) (by rw [k2]; trivial) (.inl rfl) (fun b u hb g => (sb.2 b hb).trans g) ⟨_, nobj⟩ (at_new nobj)
    · exact (S1.trans S2).over nk fun qs z => by rw [k2] at z; cases z
    · rw [upd_ne (Ne.symm hak)]
      exact a2
    · have key : KeyRow rk (upd H2 kS (.ext (At kS (PyProof.Rows.seqObj "list" (kA.push (.ref p)) c)))) (xs.take j) ks := hR.sm fun b ys g => by
        rw [upd_ne (ne_of g k1 fun z => by cases z)]
        exact S2 _ _ g
      rw [List.take_add_one, hx]
      exact Paired.snoc key ⟨p, rfl, by rw [upd_ne (ne_of hp k2 fun z => by cases z)]; exact hp⟩
    · rw [Array.toList_push]
      exact Paired.snoc rk1 rfl
  · rintro s1 ⟨H1, kA, ks, e, I1, S1, a1, k1, hR, rk1⟩
    have e3 : xs.take (0 + vs.length) = xs := List.take_of_length_le (by have := rv.length; omega)
    rw [e3] at hR
    refine wpAny_bind (PyProof.Rows.listItems_at (at_ok I1.hok k1) rfl ?_)
    exact sortK_end H0 I1 S1 na nk hak a1 k1 hup rv hz (by have := hr.un; omega) hR rk1 hfl hne hal q
end
section
variable {X : Cx} {pins : List (Addr × Obj)} {σ : St} {H : Hp} {s : Shared}
theorem sortK_run {l f : Addr} {fd : FuncData} {ps : List Str} {sp : Sp} {k : Nat} {xs : List V} {rk : V → List V} {Q : VK} (I : Inv X pins σ H s) (hs : SqL X.K H l xs)
    (hr : Room (k + 2) X.A) (F : FnOk X.prog X.w X.K X.mg X.base CX0 k f fd ps sp) (hb : Binds X.K fd ps [])
    (turn : ∀ x ∈ xs, ∀ H1, Sm H H1 → sp [x] H1 (fun v H2 => Sm H1 H2 ∧ ∃ p, v = .ref p ∧ H2 p = some (.tup (rk x))) E0)
    (hfl : ∀ x ∈ xs, ∀ y ∈ rk x, flat1 y = true) (hne : ∀ x ∈ xs, rk x ≠ []) (hal : PySem.W.AllAlike (xs.map (keyD rk)))
    (q : ∀ (a : Addr) (H2 : Hp), Sm H H2 → H a = none → H2 a = some (.lst (xs.mergeSort (PySem.W.dataLe false (keyD rk)))) → Q (.ref a) H2) :
    wpAny (model X.prog X.w) X.A (call (.builtin "sorted") [.ref l] [(Str.ofString "key", .ref f)]) (EP X pins σ Q) X.xe s := by
  obtain ⟨its, rv, hl, hz⟩ := I.list hs
  have hz2 : its.length ≤ sizeLine := by rw [← rv.length]; exact hz
  refine PySem.W.sorted_of_sort hl.isList hz2 (PyProof.Rows.ksk_s1 _ _) (fun _ => PyProof.Rows.ksk_l1 _ _) fun E' => ?_
  rw [PyProof.Rows.ksk_t1]
  have na : H (s.heap.objs.size + 1) = none := I.hok.fresh (Nat.le_succ _)
  generalize ea : s.heap.objs.size + 1 = a at *
  have c0 : (PySem.W.copyHeap s.heap its).get? a = some (PyProof.Rows.seqObj "list" its.toArray 0) := by
    rw [← ea]
    exact PySem.W.copyHeap_at _ _
  have J0 : Inv (sub X) pins σ (upd H a (.ext (At a (PyProof.Rows.seqObj "list" its.toArray 0)))) { s with heap := PySem.W.copyHeap s.heap its } :=
    (sub_in I).laid (t' := s.toks) (fun _ _ g => PySem.W.copyHeap_old g) (by omega) (at_new c0)
  generalize PySem.W.copyHeap s.heap its = h0 at *
  unfold PyProof.Rows.ksk_tree
  refine wpAny_bind (PyProof.Rows.listItems_at c0 rfl ?_)
  refine wpAny_bind (PyProof.Rows.listUpdate_at c0 rfl ?_ (by rw [List.size_toArray]; exact hz2) (Nat.zero_le _))
  have sb := Heap.SameBut.update h0 a (Obj.mapSeq fun _ => (#[] : Array Value))
  obtain ⟨e1, c1⟩ : ∃ e1, (h0.update a (Obj.mapSeq fun _ => (#[] : Array Value))).get? a = some (PyProof.Rows.seqObj "list" #[] e1) := ⟨_, PyProof.Rows.get?_update_seq c0 fun _ => #[]⟩
  have J1 : Inv (sub X) pins σ (upd H a (.ext (At a (PyProof.Rows.seqObj "list" #[] e1)))) { s with heap := h0.update a (Obj.mapSeq fun _ => (#[] : Array Value)) } := by
    have := J0.write (e := a) (o := .ext (At a (PyProof.Rows.seqObj "list" #[] e1))) (t' := s.toks) (by rw [upd_same]; trivial) (.inl rfl) (fun b u hb g => (sb.2 b hb).trans g) ⟨_, c1⟩ (at_new c1)
    rw [upd_upd] at this
    exact this
  refine wpAny_bind (PyProof.Rows.seqEpoch_at c1 rfl ?_)
  refine wpAny_bind (wpAny_newTuple ?_ (by show its.length ≤ _; exact hz2))
  refine wpAny_bind (wpAny_newList ?_ (Nat.zero_le _))
  refine wpAny_holding ?_
  dsimp only
  have J2 : Inv (sub X) pins σ _ { s with heap := (h0.update a (Obj.mapSeq fun _ => (#[] : Array Value))).push { cls := .type "tuple", data := .seq its.toArray.toList.toArray } } := J1.kept (t' := s.toks) fun b u g => Heap.get?_push_of_some _ g
  generalize ((h0.update a (Obj.mapSeq fun _ => (#[] : Array Value))).push { cls := .type "tuple", data := .seq its.toArray.toList.toArray }) = h2 at *
  have gS : (h2.push (PyProof.Rows.seqObj "list" #[] 0)).get? h2.objs.size = some (PyProof.Rows.seqObj "list" #[] 0) := Heap.get?_push_size _ rfl
  have hka : h2.objs.size ≠ a := fun z => by
    have h1 := J2.hok.lt (upd_same (H := H) (a := a) (o := .ext (At a (PyProof.Rows.seqObj "list" #[] e1))))
    rw [← z] at h1
    exact Nat.lt_irrefl _ h1
  have nS : (upd H a (.ext (At a (PyProof.Rows.seqObj "list" #[] e1)))) h2.objs.size = none := J2.hok.fresh (Nat.le_refl _)
  have nS0 : H h2.objs.size = none := by
    rw [upd_ne hka] at nS
    exact nS
  have J3 := J2.laid (a := h2.objs.size) (o := .ext (At h2.objs.size (PyProof.Rows.seqObj "list" #[] 0))) (h' := h2.push (PyProof.Rows.seqObj "list" #[] 0)) (t' := s.toks) (fun b u g => Heap.get?_push_of_some _ g) (Nat.le_refl _) (at_new gS)
  have hr2 : Room k (sub X).A := hr.in1.in1
  have hup : (sub X).s_0.heap.objs.size ≤ h2.objs.size ∧ h2.objs.size ≠ (sub X).env.locals ∧ (∀ x c, (sub X).env.cells.lookup x = some c → c ≠ h2.objs.size) ∧ ∀ p ∈ (sub X).pn ++ pins, p.1 ≠ h2.objs.size := by
    refine ⟨J2.sz, Nat.ne_of_gt J2.lt, fun x c e z => ?_, fun p hp z => ?_⟩
    · obtain ⟨v, hv⟩ := J2.cell x c e
      rw [z] at hv
      exact absurd hv.lt (Nat.lt_irrefl _)
    · have h1 := (J2.pin p hp).1
      rw [z] at h1
      exact absurd (Heap.lt_size h1) (Nat.lt_irrefl _)
  refine sortK_rest (X := sub X) H J3 ((Sm.new na).over nS0 fun qs z => by rw [nS] at z; cases z) na nS0 hka (by rw [upd_ne (Ne.symm hka), upd_same]) upd_same hup rv hz2 hr2 F hb rfl turn hfl hne hal fun H2 s2 I2 S2 g2 => ?_
  exact ⟨rfl, .ref a, H2, sub_out I.ok I2, rfl, q a H2 S2 na g2⟩
/-- sorted(l, key=f) -/
def rSortK (K : PySem.W.Frag) (f : Addr) (rk : V → List V) (sp : Sp) : List V → List V → Hp → VK → Prop := fun vs zs H Q => ∃ (l : Addr) (xs : List V), vs = [.ref l] ∧ zs = [.ref f] ∧ SqL K H l xs ∧
  (∀ x ∈ xs, ∀ H1, Sm H H1 → sp [x] H1 (fun v H2 => Sm H1 H2 ∧ ∃ p, v = .ref p ∧ H2 p = some (.tup (rk x))) E0) ∧
  (∀ x ∈ xs, ∀ y ∈ rk x, flat1 y = true) ∧ (∀ x ∈ xs, rk x ≠ []) ∧ PySem.W.AllAlike (xs.map (keyD rk)) ∧
  ∀ (a : Addr) (H2 : Hp), Sm H H2 → H a = none → H2 a = some (.lst (xs.mergeSort (PySem.W.dataLe false (keyD rk)))) → Q (.ref a) H2
theorem sortK {K : PySem.W.Frag} {f : Addr} {fd : FuncData} {ps : List Str} {sp : Sp} {k : Nat} (rk : V → List V) (F : FnOk X.prog X.w X.K X.mg X.base CX0 k f fd ps sp) (hb : Binds X.K fd ps []) (hr : Room (k + 2) X.A) (h : X.K = K := by rfl) :
    CallRK X (.builtin "sorted") [Str.ofString "key"] (rSortK K f rk sp) := by
  subst h
  intro pins s σ H vs zs us ws Q I r rz h
  obtain ⟨l, xs, rfl, rfl, hs, turn, h1, h2, h3, q⟩ := h
  obtain rfl := Vals.ref1 r
  obtain rfl := Vals.ref1 rz
  exact sortK_run I hs hr F hb turn h1 h2 h3 q
end
section
variable {X : Cx} {k : Nat} {x : Str} {ps : List Str} {sp : Sp} {e : Expr} {p p2 kpos pos : Pos} {t : TA}
theorem pe_sortK {K : PySem.W.Frag} (rk : V → List V) (C : Cal X.prog X.w K X.mg X.base k x ps sp) (hr : Room (k + 2) X.A) (hs : X.mg "sorted" = none) (ha : PA X [e] t) (hK : X.K = K := by rfl) (hg : Gl X x := by rfl) (hgs : Gl X "sorted" := by rfl) (hdb : (x == ("__debug__" : Str)) = false := by decide)
    (he : backTo pos (starEach [e] X.env) = (false, eval e X.env) :: backTo pos (starEach [] X.env) := by rfl) (hpl : (backTo pos (starEach [e] X.env)).any (·.1) = false := by rfl)
    (hall : (backToKw pos (keywordEach [⟨some "key", .Name x p2, kpos⟩] X.env)).all (·.1.isSome) = true := by rfl) (hnone : (backToKw pos (keywordEach [⟨some "key", .Name x p2, kpos⟩] X.env)).any (·.1.isNone) = false := by rfl) (hks : (backToKw pos (keywordEach [⟨some "key", .Name x p2, kpos⟩] X.env)).filterMap (·.1) = [Str.ofString "key"] := by rfl) :
    PE X (.Call (.Name "sorted" p) [e] [⟨some "key", .Name x p2, kpos⟩] pos) (tCKw (rSortK K C.ex.choose rk sp) t (tCons (tC (.ref C.ex.choose)) tNil)) := by
  subst hK
  obtain ⟨fd, F, kp, g, b, _⟩ := C.ex.choose_spec
  exact pe_callBK (sortK rk F b hr) hgs hs (by decide +kernel) ha (pk_cons (C8.pe_gc hg ⟨_, g, rfl⟩ hdb) pk_nil) (by decide) (by decide) he hpl hall hnone hks
end
/-! ### in_order: the keys sorted by their ranks -/

def rkV : V → List V
  | .str z => rankV z
  | _ => []
/-- keys in their order -/
def inOrd (zs : List Str) : List Str := zs.mergeSort fun x y => !ahead y x
theorem flat_lex : ∀ (xs ys : List V), (∀ (j : Nat) (a b : V), xs[j]? = some a → ys[j]? = some b → alike a b = true) →
    PySem.W.rowLt (xs.map toD) (ys.map toD) = lexF xs ys
  | [], [], _ => by
    show PyProof.Rows.lexLt PyProof.Rows.itemOrd (PySem.W.keyToksAll []) (PySem.W.keyToksAll []) = false
    exact PyProof.Rows.lex_irrefl _
  | [], y :: ys, _ => by
    show PyProof.Rows.lexLt PyProof.Rows.itemOrd (PySem.W.keyToksAll []) (PySem.W.keyToksAll (toD y :: ys.map toD)) = true
    simp [PySem.W.keyToksAll, PyProof.Rows.lexLt, PyProof.Rows.itemOrd, PyProof.Rows.itemLt]
  | x :: xs, [], _ => by
    show PyProof.Rows.lexLt PyProof.Rows.itemOrd (PySem.W.keyToksAll (toD x :: xs.map toD)) (PySem.W.keyToksAll []) = false
    simp [PySem.W.keyToksAll, PyProof.Rows.lexLt, PyProof.Rows.itemOrd, PyProof.Rows.itemLt]
  | x :: xs, y :: ys, h => by
    have ih := flat_lex xs ys fun j a b ha hb => h (j + 1) a b ha hb
    have h0 := h 0 x y rfl rfl
    show PyProof.Rows.lexLt PyProof.Rows.itemOrd (PySem.W.keyToksAll (toD x :: xs.map toD)) (PySem.W.keyToksAll (toD y :: ys.map toD)) = if eqF x y = true then lexF xs ys else ltF x y
    have al : PySem.W.alike (toD x) (toD y) = true := by
      cases x <;> cases y <;> first | (cases h0; done) | simp [toD, PySem.W.alike]
    have e1 : PyData.eqv (toD x) (toD y) = eqF x y := by
      cases x <;> cases y <;> first | (cases h0; done) | simp [toD, PyData.eqv, eqF]
    have e2 : PySem.W.dataLt (toD x) (toD y) = ltF x y := by
      cases x <;> cases y <;> first | (cases h0; done) | exact PySem.W.dataLt_int _ _ | exact PySem.W.dataLt_str _ _
    rw [PySem.W.dataLt_cons al, e1, e2]
    by_cases c : eqF x y = true
    · rw [if_pos c, if_pos c]
      exact ih
    · rw [if_neg c, if_neg c]
theorem rank_lt (x y : Str) : PySem.W.dataLt (keyD rkV (.str x)) (keyD rkV (.str y)) = ahead x y := by
  show PySem.W.dataLt (.tuple _) (.tuple _) = _
  rw [PySem.W.dataLt_tuple]
  exact flat_lex _ _ (rank_alike x y)
theorem rank_flat (z : Str) : ∀ y ∈ rankV z, flat1 y = true := by
  unfold rankV
  split <;> (intro y hy; simp at hy; rcases hy with rfl | rfl | rfl <;> rfl)
theorem rank_ne (z : Str) : rankV z ≠ [] := by
  unfold rankV
  split <;> exact fun h => by cases h
theorem rank_all (zs : List Str) : PySem.W.AllAlike ((zs.map V.str).map (keyD rkV)) := by
  intro d hd d' hd'
  obtain ⟨v, hv, rfl⟩ := List.mem_map.mp hd
  obtain ⟨v', hv', rfl⟩ := List.mem_map.mp hd'
  obtain ⟨x, _, rfl⟩ := List.mem_map.mp hv
  obtain ⟨y, _, rfl⟩ := List.mem_map.mp hv'
  show PySem.W.alike (.tuple ((rankV x).map toD)) (.tuple ((rankV y).map toD)) = true
  unfold rankV
  split <;> split <;> simp [PySem.W.alike, PySem.W.alikeAll, toD]
theorem inOrd_sort (zs : List Str) : (zs.map V.str).mergeSort (PySem.W.dataLe false (keyD rkV)) = (inOrd zs).map V.str := by
  unfold inOrd
  refine (List.map_mergeSort fun a _ b _ => ?_).symm
  rw [PySem.W.dataLe_eq]
  show (!ahead b a) = !PySem.W.dataLt (keyD rkV (.str b)) (keyD rkV (.str a))
  rw [rank_lt]
def spInOrd (K : PySem.W.Frag) (p : Addr) : Sp := fun vs H Q _ => ∃ (l : Addr) (zs : List Str), vs = [.ref l] ∧ SqL K H l (zs.map V.str) ∧ (∀ z ∈ zs, (tl z).length ≤ 250) ∧ GxR.TabG H p ∧
  ∀ (a : Addr) (H' : Hp), Sm H H' → H a = none → H' a = some (.lst ((inOrd zs).map V.str)) → Q (.ref a) H'
section
variable {P : Program} {w : World} {K : PySem.W.Frag} {mg : Str → Option Value} {base : Heap} {cs : Tabs}
theorem ok_in_order (T : Txt K mg cs) (Ckey_rank : Cal P w K mg base 3 "key_rank" ["key"] (spRank K cs.p_is_number_text)) : Cal P w K mg base 6 "in_order" ["keys"] (spInOrd K cs.p_is_number_text) := by
  refine T.f_in_order.cal scInOrder (fun vs H Q E h => ?_) (fun f cdv A outer s H vs Q E hr h => ?_)
  · obtain ⟨l, zs, rfl, _⟩ := h
    rfl
  obtain ⟨l, zs, rfl, hs, hl, ht, q⟩ := h
  refine ⟨_, (pss_one (ps_ret (pe_sortK (K := K) rkV Ckey_rank (hr.mono (by first | decide | omega)) T.n_sorted (pa_cons (pv 0) pa_nil)))), ?_⟩
  refine ⟨_, rfl, l, zs.map V.str, rfl, rfl, hs, fun x hx H1 S1 => ?_, fun x hx => ?_, fun x hx => ?_, rank_all zs, fun a H2 S2 na e => ?_⟩
  · obtain ⟨z, hz, rfl⟩ := List.mem_map.mp hx
    exact ⟨z, rfl, hl z hz, S1.tab _ ht, fun a H2 S2 e => ⟨S2, a, rfl, e⟩⟩
  · obtain ⟨z, hz, rfl⟩ := List.mem_map.mp hx
    exact rank_flat z
  · obtain ⟨z, hz, rfl⟩ := List.mem_map.mp hx
    exact rank_ne z
  · rw [inOrd_sort] at e
    exact q a H2 S2 na e
end
/-! ### sorted of a list of ints, of texts, of truths: any length -/
def alikeV : V → V → Bool
  | .int _, .int _ => true
  | .str _, .str _ => true
  | .bl _, .bl _ => true
  | _, _ => false
theorem read_flat {h : Heap} {y : V} {u : Value} (hf : flat1 y = true) (r : RelV y u) : PySem.Reads h u (toD y) [] := by
  cases y <;> first | (cases hf; done) | skip
  · cases r; exact .bool _
  · obtain ⟨t', rfl⟩ := r; exact .int _ _
  · obtain ⟨t', rfl⟩ := r; exact .str _ _
theorem flat_reads {h : Heap} : ∀ {xs : List V} {us : List Value}, Vals xs us → (∀ x ∈ xs, flat1 x = true) → PySem.W.EachIs (fun v b => ∃ as, PySem.Reads h v (toD b) as) us xs
  | _, _, .nil, _ => .nil
  | _, _, .cons r t, hf => .cons ⟨[], read_flat (hf _ (.head _)) r⟩ (flat_reads t fun z hz => hf z (.tail _ hz))
def rSortD (K : PySem.W.Frag) : List V → Hp → VK → Prop := fun vs H Q => ∃ (a : Addr) (xs : List V), vs = [.ref a] ∧ SqL K H a xs ∧ (∀ x ∈ xs, flat1 x = true) ∧ (∀ x ∈ xs, ∀ y ∈ xs, alikeV x y = true) ∧
  ∀ p, H p = none → Q (.ref p) (upd H p (.lst (xs.mergeSort (PySem.W.dataLe false toD))))
section
variable {X : Cx}
theorem sortD {K : PySem.W.Frag} (hr : X.A.units + 64 < cLine) (hK : X.K = K := by rfl) : CallR X (.builtin "sorted") (rSortD K) := by
  subst hK
  intro pins s σ H vs us Q I r h
  obtain ⟨a, xs, rfl, hs, hf, hal, q⟩ := h
  obtain ⟨its, rv, hl, hz⟩ := I.list hs
  rw [Vals.ref1 r]
  refine PySem.W.sorted_data (enc := toD) (R := fun v x => RelV x v) hl.isList (vals_each rv) (flat_reads rv hf) ?_ (.inr fun d hd => ?_) hz (fun b hb => ?_) fun out ho eo => ?_
  · intro d hd d' hd'
    obtain ⟨x, hx, rfl⟩ := List.mem_map.mp hd
    obtain ⟨y, hy, rfl⟩ := List.mem_map.mp hd'
    have := hal x hx y hy
    cases x <;> cases y <;> first | (cases this; done) | simp [toD, PySem.W.alike]
  · obtain ⟨x, hx, rfl⟩ := List.mem_map.mp hd
    have := hf x hx
    cases x <;> first | (cases this; done) | skip
    all_goals
      constructor
      · intro z
        cases z
      · intro _ z
        cases z
  · have : (toD b).depth = 0 := by cases b <;> simp [toD, PyData.depth]
    omega
  · have rv2 := each_vals eo
    obtain ⟨ep, he'⟩ := PyProof.Rows.sortedAll_at s.heap its (List.toArray out)
    have hlen : (xs.mergeSort (PySem.W.dataLe false toD)).length ≤ sizeLine := by
      rw [List.length_mergeSort]
      exact hz
    exact ⟨.ref _, upd H (s.heap.objs.size + 1) (.lst (xs.mergeSort (PySem.W.dataLe false toD))), I.laid (t' := s.toks) (fun _ _ => PyProof.Rows.sortedAll_old) (Nat.le_succ _) ⟨hlen, out, ep, rv2, he'⟩, rfl, q _ (I.hok.fresh (Nat.le_succ _))⟩
theorem popAt : MtR X "list.pop" rPopAt := mt_popAt
/-- a built-in's method, K told -/
theorem pe_bmK {K : PySem.W.Frag} {T id : String} {name : Str} {apos cpos : Pos} {o e : Expr} {es : List Expr} {r : V → List V → Hp → VK → Prop} {to : TE} {t : TA} (pa : PlainAttrs T) (slot : Slot T name id) (hty : typeOf (.builtin id) = pure (.type "method_descriptor")) (hm : MtR X id r) (ho : PE X o to) (ha : PA X (e :: es) t) (hK : X.K = K := by rfl)
    (h1 : attributeBase o name X.env (eval o X.env) = eval o X.env := by rfl) (h2 : ((backTo cpos (starEach (e :: es) X.env)).all (fun x => !x.1) && (backToKw cpos (keywordEach [] X.env)).all (fun x => x.1.isSome) && decide ((e :: es).length + ([] : List Keyword).length + (if ([] : List Keyword).isEmpty then 0 else 1) < 30)) = true := by rfl) (h3 : (apos.endLine == cpos.line) = true := by rfl)
    (h4 : starEach (e :: es) X.env = (false, eval e X.env) :: starEach es X.env := by rfl) (h5 : (backTo cpos (starEach es X.env)).any (·.1) = false := by rfl) :
    PE X (.Call (.Attribute o name apos) (e :: es) [] cpos) (tBM K T r to t) := by
  subst hK
  exact pe_bm pa slot hty hm ho ha h1 h2 h3 h4 h5
/-- l.count(x), truths -/
def rCntB (K : PySem.W.Frag) : V → List V → Hp → VK → Prop := fun x xs H Q => ∃ (p : Addr) (bs : List Bool) (k : Bool), x = .ref p ∧ xs = [.bl k] ∧ SqL K H p (bs.map V.bl) ∧ Q (.int (bs.count k : Nat)) H
def eqb (k : Bool) (v : Value) : Bool := match v with
  | .bool b => b == k
  | _ => false
theorem bools_of {bs : List Bool} : ∀ {us : List Value}, Vals (bs.map V.bl) us → us = bs.map Value.bool := by
  induction bs with
  | nil => intro us h; cases h; rfl
  | cons b bs ih =>
    intro us h
    cases h with
    | cons r t =>
      have e : _ = Value.bool b := r
      rw [e, ih t]
      rfl
theorem cntB {K : PySem.W.Frag} (hK : X.K = K := by rfl) : MtR X "list.count" (rCntB K) := by
  subst hK
  intro pins s σ H x xs v us Q I rx rxs h
  obtain ⟨p, bs, k, rfl, rfl, hs, q⟩ := h
  cases rx
  obtain ⟨u, rfl, ru⟩ := rxs.one
  cases ru
  obtain ⟨its, rv, ⟨⟨cls, dd, data, sl⟩, n, ho, hc, hdn, hd⟩, hlen⟩ := I.list hs
  simp only at hc hd
  subst hc hd
  have hi := bools_of rv
  subst hi
  have ec : ((bs.map Value.bool).toArray.toList.countP (eqb k)) = bs.count k := by
    show (bs.map Value.bool).countP (eqb k) = _
    rw [List.countP_map]
    rfl
  refine call_meets PySem.F.slot_list_count ⟨_, ho, rfl⟩ PySem.F.entry_list_count (PySem.F.args_list_count_2 _ _) (SeqAt.list_countAt p _ n dd sl (.bool k) (eqb k)) ⟨ho, fun y hy => ?_, ?_⟩
  · have hy' : y ∈ bs.map Value.bool := by simpa using hy
    obtain ⟨b, _, rfl⟩ := List.mem_map.mp hy'
    exact SeqAt.EqAt.bool_bool b k
  · refine ⟨.int (bs.count k : Nat), H, I.tok _, ⟨s.toks, ?_⟩, q⟩
    show Value.int (((bs.map Value.bool).toArray.toList.countP (eqb k) : Nat) : Int) s.toks = _
    rw [ec]
end
theorem sort_bools (bs : List Bool) : (bs.map V.bl).mergeSort (PySem.W.dataLe false toD) = (bs.mergeSort fun a b => !a || b).map V.bl := by
  refine (List.map_mergeSort fun a _ b _ => ?_).symm
  rw [PySem.W.dataLe_eq]
  show (!a || b) = !PySem.W.dataLt (.bool b) (.bool a)
  rw [PySem.W.dataLt_bool]
  cases a <;> cases b <;> decide
theorem sort_strs (zs : List Str) : (zs.map V.str).mergeSort (PySem.W.dataLe false toD) = (zs.mergeSort fun a b => !decide (tl b < tl a)).map V.str := by
  refine (List.map_mergeSort fun a _ b _ => ?_).symm
  rw [PySem.W.dataLe_eq]
  show _ = !PySem.W.dataLt (.str b) (.str a)
  rw [PySem.W.dataLt_str]
/-- truths sorted and turned about: the true ones first -/
theorem bools_turned {bs : List Bool} (h : bs.Pairwise fun a b => b = true → a = true) : (bs.mergeSort fun a b => !a || b).reverse = bs := by
  have hp := List.pairwise_mergeSort (le := fun a b : Bool => !a || b) (by decide) (by decide) bs
  refine List.Perm.eq_of_pairwise (le := fun a b : Bool => b = true → a = true) (fun a b _ _ h1 h2 => ?_) ?_ h ((List.reverse_perm _).trans (List.mergeSort_perm _ _))
  · cases a <;> cases b <;> simp_all
  · rw [List.pairwise_reverse]
    exact hp.imp fun {a b} h e => by
      rw [e] at h
      simpa using h
/-! ### the order of keys: one order -/
def isN (z : Str) : Bool := isNum (tl z)
def nO (z : Str) : Int := numOf (tl z)
theorem rank_n {x : Str} (h : isN x = true) : rankV x = [.int 0, .int (nO x), .str ""] := if_pos (show isNum (tl x) = true from h)
theorem rank_o {x : Str} (h : isN x = false) : rankV x = [.int 1, .int 0, .str x] := if_neg (show ¬ isNum (tl x) = true from fun z => by
  have e : isNum (tl x) = false := h
  rw [e] at z
  cases z)
theorem isN_inj {x y : Str} (hx : isN x = true) (hy : isN y = true) (e : nO x = nO y) : x = y := by
  unfold isN at hx hy
  rw [isNum_is] at hx hy
  refine ext_tl ?_
  rw [← of_decide_eq_true hx, ← of_decide_eq_true hy]
  exact congrArg numT e
theorem ahead_nn {x y : Str} (hx : isN x = true) (hy : isN y = true) : ahead x y = decide (nO x < nO y) := by
  unfold ahead
  rw [rank_n hx, rank_n hy]
  show (if eqF (.int 0) (.int 0) = true then (if eqF (.int (nO x)) (.int (nO y)) = true then (if eqF (.str "") (.str "") = true then lexF [] [] else ltF (.str "") (.str "")) else ltF (.int (nO x)) (.int (nO y))) else ltF (.int 0) (.int 0)) = _
  rw [if_pos (show eqF (.int 0) (.int 0) = true from rfl), if_pos (show eqF (.str "") (.str "") = true from by decide)]
  by_cases e : nO x = nO y
  · rw [if_pos (by show (nO x == nO y) = true; exact beq_iff_eq.mpr e), decide_eq_false (by omega)]
    rfl
  · rw [if_neg (by show ¬ (nO x == nO y) = true; exact fun h => e (beq_iff_eq.mp h))]
    rfl
theorem ahead_no {x y : Str} (hx : isN x = true) (hy : isN y = false) : ahead x y = true := by
  unfold ahead
  rw [rank_n hx, rank_o hy]
  rfl
theorem ahead_on {x y : Str} (hx : isN x = false) (hy : isN y = true) : ahead x y = false := by
  unfold ahead
  rw [rank_o hx, rank_n hy]
  rfl
theorem ahead_oo {x y : Str} (hx : isN x = false) (hy : isN y = false) : ahead x y = decide (tl x < tl y) := by
  unfold ahead
  rw [rank_o hx, rank_o hy]
  show (if eqF (.int 1) (.int 1) = true then (if eqF (.int 0) (.int 0) = true then (if eqF (.str x) (.str y) = true then lexF [] [] else ltF (.str x) (.str y)) else ltF (.int 0) (.int 0)) else ltF (.int 1) (.int 1)) = _
  rw [if_pos (show eqF (.int 1) (.int 1) = true from rfl), if_pos (show eqF (.int 0) (.int 0) = true from rfl)]
  by_cases e : x = y
  · subst e
    rw [if_pos (by show (x == x) = true; exact beq_self_eq_true x), decide_eq_false (List.lt_irrefl _)]
    rfl
  · rw [if_neg (by show ¬ (x == y) = true; exact fun h => e (eq_of_beq h))]
    rfl
theorem bool_cases (b : Bool) : b = true ∨ b = false := by cases b <;> simp
theorem ahead_self (x : Str) : ahead x x = false := by
  rcases bool_cases (isN x) with h | h
  · rw [ahead_nn h h]
    exact decide_eq_false (by omega)
  · rw [ahead_oo h h]
    exact decide_eq_false (List.lt_irrefl _)
theorem ahead_two {x y : Str} (e : x ≠ y) : (ahead x y || ahead y x) = true := by
  rcases bool_cases (isN x) with h | h <;> rcases bool_cases (isN y) with g | g
  · rw [ahead_nn h g, ahead_nn g h]
    have ne : nO x ≠ nO y := fun z => e (isN_inj h g z)
    rcases (by omega : nO x < nO y ∨ nO y < nO x) with z | z <;> simp [z]
  · rw [ahead_no h g]
    rfl
  · rw [ahead_no g h, Bool.or_true]
  · rw [ahead_oo h g, ahead_oo g h]
    by_cases z : tl x < tl y
    · simp [z]
    · by_cases z2 : tl y < tl x
      · simp [z2]
      · exact absurd (ext_tl (List.le_antisymm (List.not_lt.mp z2) (List.not_lt.mp z))) e
theorem ahead_one {x y : Str} (h : ahead x y = true) : ahead y x = false := by
  rcases bool_cases (isN x) with a | a <;> rcases bool_cases (isN y) with b | b
  · rw [ahead_nn a b] at h
    rw [ahead_nn b a]
    have := of_decide_eq_true h
    exact decide_eq_false (by omega)
  · exact ahead_on b a
  · rw [ahead_on a b] at h
    cases h
  · rw [ahead_oo a b] at h
    rw [ahead_oo b a]
    exact decide_eq_false (List.lt_asymm (of_decide_eq_true h))
theorem ahead_tr {x y z : Str} (h : ahead x y = true) (g : ahead y z = true) : ahead x z = true := by
  rcases bool_cases (isN x) with a | a <;> rcases bool_cases (isN y) with b | b <;> rcases bool_cases (isN z) with c | c
  · rw [ahead_nn a b] at h
    rw [ahead_nn b c] at g
    rw [ahead_nn a c]
    have := of_decide_eq_true h
    have := of_decide_eq_true g
    exact decide_eq_true (by omega)
  · exact ahead_no a c
  · rw [ahead_on b c] at g
    cases g
  · exact ahead_no a c
  · rw [ahead_on a b] at h
    cases h
  · rw [ahead_on a b] at h
    cases h
  · rw [ahead_on b c] at g
    cases g
  · rw [ahead_oo a b] at h
    rw [ahead_oo b c] at g
    rw [ahead_oo a c]
    exact decide_eq_true (List.lt_trans (of_decide_eq_true h) (of_decide_eq_true g))
theorem ahead_same {x y : Str} (h : ahead x y = false) (g : ahead y x = false) : x = y := by
  by_cases e : x = y
  · exact e
  · have := ahead_two e
    rw [h, g] at this
    cases this
theorem le_tr (x y z : Str) (h : (!ahead y x) = true) (g : (!ahead z y) = true) : (!ahead z x) = true := by
  rw [Bool.not_eq_true'] at *
  by_cases e : ahead z x = true
  · by_cases exy : x = y
    · subst exy
      rw [e] at g
      cases g
    · have := ahead_two exy
      rw [h, Bool.or_false] at this
      rw [ahead_tr e this] at g
      cases g
  · simpa using e
theorem le_tot (x y : Str) : ((!ahead y x) || (!ahead x y)) = true := by
  rcases bool_cases (ahead x y) with h | h
  · rw [ahead_one h]
    rfl
  · rw [h]
    simp
theorem inOrd_pair (zs : List Str) : (inOrd zs).Pairwise fun x y => ahead y x = false :=
  (List.pairwise_mergeSort (le := fun x y => !ahead y x) le_tr le_tot zs).imp fun h => by simpa using h
theorem inOrd_perm (zs : List Str) : (inOrd zs).Perm zs := List.mergeSort_perm _ _
theorem inOrd_len (zs : List Str) : (inOrd zs).length = zs.length := (inOrd_perm zs).length_eq
theorem inOrd_only {zs ws : List Str} (h : ws.Perm zs) (p : ws.Pairwise fun x y => ahead y x = false) : ws = inOrd zs :=
  List.Perm.eq_of_pairwise (fun _ _ _ _ a b => ahead_same b a) p (inOrd_pair zs) (h.trans (inOrd_perm zs).symm)
theorem inOrd_same {zs ws : List Str} (h : ws.Perm zs) : inOrd ws = inOrd zs := inOrd_only ((inOrd_perm ws).trans h) (inOrd_pair ws)
theorem inOrd_twice (zs : List Str) : inOrd (inOrd zs) = inOrd zs := inOrd_same (inOrd_perm zs)
/-- numbers' own texts come first -/
theorem inOrd_marks (zs : List Str) : ((inOrd zs).map isN).Pairwise fun a b => b = true → a = true := by
  rw [List.pairwise_map]
  refine (inOrd_pair zs).imp fun {x y} h hy => ?_
  rcases bool_cases (isN x) with a | a
  · exact a
  · rw [ahead_no hy a] at h
    cases h
theorem first_true {α : Type} {p : α → Bool} : ∀ {l : List α}, (l.map p).Pairwise (fun a b => b = true → a = true) → ∀ x ∈ l.take ((l.map p).count true), p x = true
  | [], _, x, hx => by simp at hx
  | a :: l, h, x, hx => by
    rw [List.map_cons] at h hx
    obtain ⟨h1, h2⟩ := List.pairwise_cons.mp h
    rcases bool_cases (p a) with c | c
    · rw [c, List.count_cons_self, List.take_succ_cons] at hx
      rcases List.mem_cons.mp hx with rfl | hx
      · exact c
      · exact first_true h2 x hx
    · have none : (l.map p).count true = 0 := List.count_eq_zero.mpr fun hm => by
        have := h1 true hm rfl
        rw [c] at this
        cases this
      rw [c, List.count_cons, none] at hx
      simp at hx
theorem inOrd_nums (zs : List Str) (k : Nat) (hk : k = ((inOrd zs).map isN).count true) : (((inOrd zs).take k).map nO).Pairwise (· ≤ ·) := by
  have hN : ∀ x ∈ (inOrd zs).take k, isN x = true := by
    rw [hk]
    exact first_true (inOrd_marks zs)
  have hP := (inOrd_pair zs).sublist (List.take_sublist k _)
  rw [List.pairwise_map]
  refine hP.imp_of_mem fun {x y} hx hy h => ?_
  rw [ahead_nn (hN y hy) (hN x hx)] at h
  have := of_decide_eq_false h
  omega
/-- a key stands ahead of itself with a sign more -/
theorem ahead_more {x m : Str} {c : Nat} (e : tl m = tl x ++ [c]) (h : isN m = false) : ahead x m = true := by
  rcases bool_cases (isN x) with a | a
  · exact ahead_no a h
  · rw [ahead_oo a h, e]
    refine decide_eq_true ?_
    generalize tl x = l
    induction l with
    | nil => exact List.Lex.nil
    | cons a l ih => exact List.Lex.cons ih
/-! ### one step of a term at a time -/
theorem run_set {i : Nat} {te : TE} {u : TS} {D : Ends} {σ : L2.St} {H : Hp} (h : te σ H fun v H1 => u D (σ.set i (some v)) H1) : tSeq (tAsg te (gName i)) u D σ H := h
theorem run_ret {te : TE} {D : Ends} {σ : L2.St} {H : Hp} (h : te σ H D.rt) : tRet te D σ H := h
theorem run_op {r : R2} {ta tb : TE} {σ : L2.St} {H : Hp} {Q : VK} (h : ta σ H fun x H1 => tb σ H1 fun y H2 => r x y H2 Q) : tOp r ta tb σ H Q := h
theorem run_if {c : TT} {t u r : TS} {D : Ends} {σ : L2.St} {H : Hp} (h : c σ H fun b H1 => if b = true then t { D with nx := r D } σ H1 else u { D with nx := r D } σ H1) : tSeq (tIfS c t u) r D σ H := h
theorem run_ifE {c : TT} {t u : TS} {D : Ends} {σ : L2.St} {H : Hp} (h : c σ H fun b H1 => if b = true then t D σ H1 else u D σ H1) : tIfS c t u D σ H := h
theorem run_next {D : Ends} {σ : L2.St} {H : Hp} (h : D.nx σ H) : tNext D σ H := h
theorem run_for {i : TI} {g : TG} {tb u : TS} {D : Ends} {σ : L2.St} {H : Hp} (h : tFor i g tb { D with nx := u D } σ H) : tSeq (tFor i g tb) u D σ H := h
theorem run_test {r : R2} {ta tb : TE} {σ : L2.St} {H : Hp} {Q : Bool → Hp → Prop} (h : ta σ H fun x H1 => tb σ H1 fun y H2 => r x y H2 fun v H' => ∃ k, v = .bl k ∧ Q k H') : tTest (tOp r ta tb) σ H Q := h
/-- an if whose condition fails on every way -/
theorem run_no {c : TT} {t r : TS} {D : Ends} {σ : L2.St} {H : Hp} (Ph : Hp → Prop) (h : ∀ R : Bool → Hp → Prop, (∀ H1, Ph H1 → R false H1) → c σ H R) (hr : ∀ H1, Ph H1 → r D σ H1) : tSeq (tIfS c t tNext) r D σ H :=
  run_if (h _ fun H1 p => iteF (hr H1 p))
theorem run_noE {c : TT} {t : TS} {D : Ends} {σ : L2.St} {H : Hp} (Ph : Hp → Prop) (h : ∀ R : Bool → Hp → Prop, (∀ H1, Ph H1 → R false H1) → c σ H R) (hr : ∀ H1, Ph H1 → D.nx σ H1) : tIfS c t tNext D σ H :=
  run_ifE (h _ fun H1 p => iteF (hr H1 p))
/-- an if that gives a name another value, or not -/
theorem run_ifset {i : Nat} {te : TE} {c : TT} {r : TS} {D : Ends} {σ : L2.St} {H : Hp} {v0 : V} (Pv : V → Hp → Prop) (h0 : σ.set i (some v0) = σ) (h : ∀ R : VK, (∀ v H1, Pv v H1 → R v H1) → c σ H fun b H1 => if b = true then te σ H1 R else R v0 H1) (hr : ∀ v H1, Pv v H1 → r D (σ.set i (some v)) H1) :
    tSeq (tIfS c (tAsg te (gName i)) tNext) r D σ H := by
  have q := h (fun v H1 => r D (σ.set i (some v)) H1) hr
  rw [h0] at q
  exact q
theorem run_and {t u : TT} {σ : L2.St} {H : Hp} {Q : Bool → Hp → Prop} (h : t σ H fun c H1 => if c = true then u σ H1 Q else Q false H1) : tAnd t u σ H Q := h
/-! ### law k05: keys in a drawn order; what is right of three keys -/
theorem erase_map {α β : Type} (f : α → β) : ∀ (l : List α) (j : Nat), (l.map f).eraseIdx j = (l.eraseIdx j).map f
  | [], j => by simp
  | a :: r, 0 => by simp
  | a :: r, j + 1 => by
    have ih := erase_map f r j
    simp [ih]
theorem pick_perm {α : Type} : ∀ (l : List α) (k : Nat) (h : k < l.length), ([l[k]] ++ l.eraseIdx k).Perm l
  | a :: r, 0, _ => .refl _
  | a :: r, k + 1, h => by
    have ih := pick_perm r k (by simpa using h)
    exact (List.Perm.swap a (r[k]'(by simpa using h)) (r.eraseIdx k)).trans (.cons a ih)
/-- a key as it may come about: not long, of plain signs -/
structure KT (z : Str) : Prop where
  len : (tl z).length ≤ 250
  asc : ∀ c ∈ tl z, c < 128
theorem KT.ok {z : Str} (h : KT z) : PyData.strOk z = true := by
  unfold PyData.strOk
  rw [← Array.all_toList, List.all_eq_true]
  intro c hc
  exact decide_eq_true (Nat.lt_trans (h.asc c hc) (by decide))
theorem KT.big {z : Str} (h : KT z) : (tl z).length ≤ 250 := h.len
theorem KEY.kt {z : Str} (h : KEY z) : KT z := ⟨by have := h.wt.len; omega, fun c hc => by
  have q := h.wt.sg c hc
  unfold sgn at q
  rw [Bool.and_eq_true, Bool.and_eq_true] at q
  have := of_decide_eq_true q.2.1
  omega⟩
theorem ne_ahead (x y : Str) : (!decide (V.str x = V.str y)) = (ahead x y || ahead y x) := by
  by_cases e : x = y
  · subst e
    rw [ahead_self, decide_eq_true rfl]
    rfl
  · rw [ahead_two e, decide_eq_false (fun z => e (by injection z))]
    rfl
def spMixed (K : PySem.W.Frag) : Sp := fun vs H Q _ => ∃ (b l : Addr) (m : Nat) (zs : List Str), vs = [.ref b, .ref l] ∧ Bag H b m ∧ m + 1000 ≤ LIM ∧ l ≠ b ∧ H l = some (.lst (zs.map V.str)) ∧ zs.length ≤ 20 ∧
  ∀ (D : Addr) (ws : List Str) (H' : Hp), ws.Perm zs → Go b 20 H H' → H D = none → H' D = some (.lst (ws.map V.str)) → Q (.ref D) H'
def spThree (p : Addr) : Sp := fun vs H Q _ => ∃ x y z : Str, vs = [.str x, .str y, .str z] ∧ (tl x).length ≤ 250 ∧ (tl y).length ≤ 250 ∧ (tl z).length ≤ 250 ∧ GxR.TabG H p ∧ ∀ H', Sm H H' → Q (.bl true) H'
section
variable {P : Program} {w : World} {K : PySem.W.Frag} {mg : Str → Option Value} {base : Heap} {cs : Tabs}
theorem ok_law_mixed (T : Txt K mg cs) (C_law_draw : Cal P w K mg base 1 "_law_draw" ["bag", "many"] spDraw) : Cal P w K mg base 2 "_law_mixed" ["bag", "keys"] (spMixed K) := by
  refine T.f_law_mixed.cal scLawMixed (fun vs H Q E h => ?_) (fun f cdv A outer s H vs Q E hr h => ?_)
  · obtain ⟨b, l, m, zs, rfl, _⟩ := h
    rfl
  obtain ⟨b, l, m, zs, rfl, B, hm, hlb, hl, h20, q⟩ := h
  refine ⟨_, (pss_cons (ps_set (i := 2) scLawMixed.nd rfl (by first | exact Or.inl rfl | exact Or.inr rfl) (pe_callTy (listOf K) rfl T.n_list (by decide +kernel) (pa_cons (pv 1) pa_nil)))
    (pss_one (ps_ret (pe_lc (own := [("turn", 3)]) (g := gName 3) (tt := tYes) rfl scLawMixed.nd (pi_range1 rfl T.n_range (pa_cons (pe_callB (lenQ K) rfl T.n_len (by decide +kernel) (pa_cons (pv 1) pa_nil)) pa_nil)) (blkOk_by (own := [("turn", 3)]) (N := ["bag", "keys", "left", "turn"]) (sc := defScope sLawMixed) (by decide +kernel)) (fun _ _ _ _ _ => (pg_name (i := 3) scLawMixed.nd rfl (by first | exact Or.inl rfl | exact Or.inr rfl))) (fun _ _ _ _ _ => pts_nil) (fun _ _ _ _ _ => (pe_bmK (K := K) PySem.F.plainAttrs_list PySem.F.slot_list_pop PySem.F.type_list_pop popAt (pv 2) (pa_cons (pe_cal C_law_draw (hr.mono (by first | decide | omega)) (pa_cons (pv 0) (pa_cons (pe_callB (lenQ K) rfl T.n_len (by decide +kernel) (pa_cons (pv 2) pa_nil)) pa_nil))) pa_nil))))))), ?_⟩
  unfold LIM at hm
  refine ⟨_, rfl, l, _, rfl, .inl (SqL.of hl), fun L hL => ?_⟩
  have hLb : L ≠ b := B.ne hL
  have hLl : l ≠ L := ne_of_none hl hL
  have h1 : (upd H L (.lst (zs.map V.str))) l = some (.lst (zs.map V.str)) := by
    rw [upd_ne hLl]
    exact hl
  have hn : (upd H L (.lst (zs.map V.str))) L = some (.lst (zs.map V.str)) := upd_same
  have G1 : Go b 0 H (upd H L (.lst (zs.map V.str))) := Go.new hL
  generalize upd H L (.lst (zs.map V.str)) = H1 at *
  refine ⟨_, rfl, l, _, rfl, .inl (SqL.of h1), (zs.length : Int), by rw [List.length_map], by omega, by omega, fun D hD => ?_⟩
  have hDb : D ≠ b := (G1.bag _ B).ne hD
  have hDL : L ≠ D := ne_of_none hn hD
  have hD0 : H D = none := G1.free B hD
  refine lc_range (lo := 0) (n := zs.length) (fun j H' => ∃ got left : List Str, (got ++ left).Perm zs ∧ got.length = j ∧ Go b j H H' ∧ H' D = some (.lst (got.map V.str)) ∧ H' L = some (.lst (left.map V.str)))
    ⟨[], zs, .refl _, rfl, (G1.trans (Go.new hD)).mono (by omega), upd_same, by rw [upd_ne hDL]; exact hn⟩ (fun j H2 hj hp => ?_) fun H2 hp => ?_
  · obtain ⟨got, left, hp, hg, G, gD, gL⟩ := hp
    have hlen : got.length + left.length = zs.length := by rw [← List.length_append]; exact hp.length_eq
    refine ⟨rfl, ?_⟩
    have B2 := G.bag _ B
    refine ⟨_, rfl, .inl ⟨rfl, _, .inl (.inl gL)⟩, _, (by rfl), _, (by rfl), L, _, rfl, .inl (SqL.of gL), b, _, _, rfl, B2, by unfold LIM; omega, by rw [List.length_map]; omega, by rw [List.length_map]; omega, fun r H3 r0 r1 G3 => ?_⟩
    obtain ⟨k, rfl⟩ : ∃ k : Nat, r = (k : Int) := ⟨r.toNat, by omega⟩
    rw [List.length_map] at r1
    have hk : k < left.length := by omega
    have g3L := G3.keep L _ hLb gL
    have g3D := G3.keep D _ hDb gD
    refine ⟨L, left.map V.str, (k : Int), k, .str left[k], rfl, rfl, g3L, by omega, by omega, seqIndex_of (by omega) (by rw [List.length_map]; omega), by rw [List.getElem?_map, List.getElem?_eq_getElem hk]; rfl, ?_⟩
    refine ⟨got.map V.str, by rw [upd_ne (Ne.symm hDL)]; exact g3D, small' (by rw [List.length_map]; omega), got ++ [left[k]], left.eraseIdx k, ?_, by rw [List.length_append, hg]; rfl, ?_, ?_, ?_⟩
    · rw [List.append_assoc]
      exact (List.Perm.append_left got (pick_perm left k hk)).trans hp
    · exact Go.own (Go.own ((G.trans G3).mono (by omega)) B hL (no_tbl g3L)) B hD0 fun qs z => by
        rw [upd_ne (Ne.symm hDL), g3D] at z
        cases z
    · rw [List.map_append]
      exact upd_same
    · rw [upd_ne hDL, erase_map]
      exact upd_same
  · obtain ⟨got, left, hp, hg, G, gD, gL⟩ := hp
    have hlen : got.length + left.length = zs.length := by rw [← List.length_append]; exact hp.length_eq
    have e : left = [] := List.length_eq_zero_iff.mp (by omega)
    rw [e, List.append_nil] at hp
    exact q D got H2 hp (G.mono (by omega)) hD0 gD
theorem ok_law_three_right (T : Txt K mg cs) (Cbefore : Cal P w K mg base 4 "before" ["one", "other"] (spBefore cs.p_is_number_text)) : Cal P w K mg base 5 "_law_three_right" ["a", "b", "c"] (spThree cs.p_is_number_text) := by
  refine T.f_law_three_right.cal scLawThreeRight (fun vs H Q E h => ?_) (fun f cdv A outer s H vs Q E hr h => ?_)
  · obtain ⟨x, y, z, rfl, _⟩ := h
    rfl
  obtain ⟨x, y, z, rfl, hx, hy, hz, ht, q⟩ := h
  refine ⟨_, (C8.pss_cut (ps_if (PW.pt (pw_or (pt_val (pe_cal Cbefore (hr.mono (by first | decide | omega)) (pa_cons (pv 0) (pa_cons (pv 0) pa_nil)))) (pw_or1 (pt_cmpR op_ne (pe_cmpR op_ne (pv 0) (pv 1) (nomark _)) (pe_or (pe_cal Cbefore (hr.mono (by first | decide | omega)) (pa_cons (pv 0) (pa_cons (pv 1) pa_nil))) (pe_one (pe_cal Cbefore (hr.mono (by first | decide | omega)) (pa_cons (pv 1) (pa_cons (pv 0) pa_nil))))) (nomark _))))) (pss_one (ps_ret pe_bl)) pss_nil)
    (pss_cons (ps_if (PW.pt (pw_and (pt_val (pe_cal Cbefore (hr.mono (by first | decide | omega)) (pa_cons (pv 0) (pa_cons (pv 1) pa_nil)))) (pw_and1 (pt_val (pe_cal Cbefore (hr.mono (by first | decide | omega)) (pa_cons (pv 1) (pa_cons (pv 0) pa_nil))))))) (pss_one (ps_ret pe_bl)) pss_nil)
    (pss_one (ps_ret (pe_or (pe_cal Cbefore (hr.mono (by first | decide | omega)) (pa_cons (pv 0) (pa_cons (pv 2) pa_nil))) (pe_or (pe_not (pe_cal Cbefore (hr.mono (by first | decide | omega)) (pa_cons (pv 0) (pa_cons (pv 1) pa_nil)))) (pe_one (pe_not (pe_cal Cbefore (hr.mono (by first | decide | omega)) (pa_cons (pv 1) (pa_cons (pv 2) pa_nil))))))))))), ?_⟩
  refine ⟨fun σ' H' => Sm H H' ∧ σ' = [some (.str x), some (.str y), some (.str z)], ?_, ?_⟩
  · refine run_ifE ?_
    refine ⟨_, (by rfl), _, (by rfl), x, x, rfl, hx, hx, ht, fun H1 S1 => ⟨_, rfl, ?_⟩⟩
    rw [ahead_self]
    refine iteF ?_
    refine ⟨_, (by rfl), _, (by rfl), rfl, ?_⟩
    rw [ne_ahead]
    refine ⟨_, (by rfl), _, (by rfl), x, y, rfl, hx, hy, S1.tab _ ht, fun H2 S2 => ⟨_, rfl, ?_⟩⟩
    refine ite2 (fun c => ?_) (fun c => ?_)
    · rw [c]
      refine ⟨rfl, _, rfl, ?_⟩
      exact iteF ⟨S1.trans S2, rfl⟩
    · refine ⟨_, (by rfl), _, (by rfl), y, x, rfl, hy, hx, (S1.trans S2).tab _ ht, fun H3 S3 => ⟨rfl, _, rfl, ?_⟩⟩
      rw [Bool.eq_false_iff.mpr c, Bool.false_or, decide_eq_true rfl]
      exact iteF ⟨(S1.trans S2).trans S3, rfl⟩
  rintro σ1 H1 ⟨S1, rfl⟩
  refine run_if ?_
  have next : ∀ H2, Sm H H2 → tRet (tOrV (tCall (spBefore cs.p_is_number_text) [] E0 (tCons (tVar 0) (tCons (tVar 2) tNil))) (tOrV (tNotV (tCall (spBefore cs.p_is_number_text) [] E0 (tCons (tVar 0) (tCons (tVar 1) tNil)))) (tNotV (tCall (spBefore cs.p_is_number_text) [] E0 (tCons (tVar 1) (tCons (tVar 2) tNil))))))
      { nx := fun x H' => Q V.non H', rt := Q } [some (V.str x), some (.str y), some (.str z)] H2 := fun H2 S2 => by
    refine run_ret ?_
    refine ⟨_, (by rfl), _, (by rfl), x, z, rfl, hx, hz, S2.tab _ ht, fun H3 S3 => ⟨_, rfl, ?_⟩⟩
    refine ite2 (fun c => ?_) (fun c => ?_)
    · exact q H3 (S2.trans S3)
    · refine ⟨_, (by rfl), _, (by rfl), x, y, rfl, hx, hy, (S2.trans S3).tab _ ht, fun H4 S4 => ⟨_, rfl, _, rfl, ?_⟩⟩
      refine ite2 (fun d => ?_) (fun d => ?_)
      · exact q H4 ((S2.trans S3).trans S4)
      · refine ⟨_, (by rfl), _, (by rfl), y, z, rfl, hy, hz, ((S2.trans S3).trans S4).tab _ ht, fun H5 S5 => ⟨_, rfl, ?_⟩⟩
        have e1 : ahead x y = true := by simpa using d
        have e2 : ahead y z = false := by
          rcases bool_cases (ahead y z) with g | g
          · exact absurd (ahead_tr e1 g) c
          · exact g
        rw [e2]
        exact q H5 (((S2.trans S3).trans S4).trans S5)
  refine ⟨_, (by rfl), _, (by rfl), x, y, rfl, hx, hy, S1.tab _ ht, fun H2 S2 => ⟨_, rfl, ?_⟩⟩
  refine ite2 (fun c => ?_) (fun c => ?_)
  · refine ⟨_, (by rfl), _, (by rfl), y, x, rfl, hy, hx, (S1.trans S2).tab _ ht, fun H3 S3 => ⟨_, rfl, ?_⟩⟩
    rw [ahead_one c]
    exact iteF (next H3 ((S1.trans S2).trans S3))
  · exact iteF (next H2 (S1.trans S2))
end
/-! ### comprehensions that tell what each item is worth, and nothing else; over a range, none kept -/
section
variable {K : PySem.W.Frag}
theorem lc_map {i : Nat} {te0 : TE} {xs : List V} {σ : L2.St} {H : Hp} {te : TE} {Q : VK} (g : V → V) (h0 : ∀ R : VK, (∀ S H1, Sm H H1 → SqL K H1 S xs → R (.ref S) H1) → te0 σ H R) (hn : xs.length ≤ 90000)
    (he : ∀ x H2, x ∈ xs → Sm H H2 → ∀ R : VK, (∀ H', Sm H2 H' → R (g x) H') → te ((σ.set i none).set i (some x)) H2 R)
    (hQ : ∀ D H', Sm H H' → H' D = some (.lst (xs.map g)) → H D = none → Q (.ref D) H') : tLc (iList K te0) (gName i) tYes te [i] σ H Q := by
  refine h0 _ fun S H1 S1 hS => ⟨S, rfl, ⟨_, hS⟩, fun D hD => ?_⟩
  refine lc_list (K := K) (a := S) (xs := xs) (fun j H' => Sm H1 H' ∧ H' D = some (.lst ((xs.take j).map g))) ⟨Sm.new hD, by rw [List.take_zero]; exact upd_same⟩ (fun _ H' _ h => Sm.seq h.1 hS) (fun n x H' hx h => ?_) fun H' h => ?_
  · refine ⟨?_, ?_⟩
    · show ((σ.set i none).set i (some x)).set i none = (σ.set i none)
      rw [List.set_set, List.set_set]
    · have hlt : n < xs.length := (List.getElem?_eq_some_iff.mp hx).1
      refine he x H' (List.mem_of_getElem? hx) (S1.trans h.1) _ fun H2 S2 => ⟨_, S2 _ _ h.2, small' (by rw [List.length_map, List.length_take]; omega), Sm.own (h.1.trans S2) hD (no_tbl (S2 _ _ h.2)), ?_⟩
      rw [List.take_add_one, hx, List.map_append]
      exact upd_same
  · have e := h.2
    rw [List.take_length] at e
    exact hQ D H' (S1.trans h.1) e (S1.free hD)
theorem lc_noneR {i : Nat} {lo hi : Int} {ta : TA} {σ : L2.St} {H : Hp} {tt : TT} {te : TE} {Q : VK} (h0 : ∀ R : List V → Hp → Prop, (∀ H1, Sm H H1 → R [.int lo, .int hi] H1) → ta σ H R) (hl : -1000000 ≤ lo ∧ lo ≤ 1000000 ∧ -1000000 ≤ hi ∧ hi ≤ 1000000)
    (ht : ∀ (j : Int) H2, lo ≤ j → j < hi → Sm H H2 → ∀ R : Bool → Hp → Prop, (∀ H', Sm H2 H' → R false H') → tt ((σ.set i none).set i (some (.int j))) H2 R)
    (hQ : ∀ D H', Sm H H' → H' D = some (.lst []) → Q (.ref D) H') : tLc (iRng2 ta) (gName i) tt te [i] σ H Q := by
  refine h0 _ fun H1 S1 => ⟨lo, hi, rfl, by omega, fun D hD => ?_⟩
  refine lc_range (lo := lo) (n := (hi - lo).toNat) (fun _ H' => Sm H1 H' ∧ H' D = some (.lst [])) ⟨Sm.new hD, upd_same⟩ (fun j H' hj h => ?_) fun H' h => hQ D H' (S1.trans h.1) h.2
  refine ⟨?_, ?_⟩
  · show ((σ.set i none).set i (some (.int (lo + j)))).set i none = (σ.set i none)
    rw [List.set_set, List.set_set]
  · exact ht (lo + j) H' (by omega) (by omega) (S1.trans h.1) _ fun H2 S2 => iteF ⟨h.1.trans S2, S2 _ _ h.2⟩
end
/-! lists compared -/
def dB (bs : List Bool) : List PyData := bs.map PyData.bool
theorem dp_bools {K : PySem.W.Frag} {H : Hp} : ∀ bs : List Bool, DpAll K H (bs.map V.bl) (dB bs)
  | [] => .nil
  | x :: r => .cons (.bl x) (dp_bools r)
theorem lay_bools : ∀ bs : List Bool, PyData.canLayAll0 (dB bs) = true
  | [] => rfl
  | x :: r => by
    show (true && PyData.canLayAll0 (dB r)) = true
    rw [lay_bools r]
    rfl
theorem depth_bools : ∀ bs : List Bool, PyData.depthAll (dB bs) = 0
  | [] => rfl
  | x :: r => by
    show max 0 (PyData.depthAll (dB r)) = 0
    rw [depth_bools r]
    rfl
theorem shaped_bools (bs : List Bool) : SeqAt.shaped (.list (dB bs)) = true := by
  show (PyData.canLayAll0 (dB bs) && decide (PyData.depthAll (dB bs) + 1 ≤ 64)) = true
  rw [lay_bools, depth_bools]
  rfl
theorem eqv_bools : ∀ bs : List Bool, PyData.eqv (.list (dB bs)) (.list (dB bs)) = true
  | [] => rfl
  | x :: r => by
    have ih := eqv_bools r
    show ((x == x) && PyData.eqvAll (dB r) (dB r)) = true
    rw [beq_self_eq_true]
    exact ih
theorem eqv_ints : ∀ ns : List Int, PyData.eqv (.list (ns.map PyData.int)) (.list (ns.map PyData.int)) = true
  | [] => rfl
  | x :: r => by
    have ih := eqv_ints r
    show ((x == x) && PyData.eqvAll (r.map PyData.int) (r.map PyData.int)) = true
    rw [beq_self_eq_true]
    exact ih
theorem eqv_self_strs (l : List Str) : PyData.eqv (.list (dS l)) (.list (dS l)) = true := by
  show PyData.eqvAll _ _ = _
  rw [eqv_strs]
  exact decide_eq_true rfl
theorem shaped_strs {ks : List Str} (h : ∀ z ∈ ks, PyData.strOk z = true) : SeqAt.shaped (.list (dS ks)) = true := by
  show (PyData.canLayAll0 (dS ks) && decide (PyData.depthAll (dS ks) + 1 ≤ 64)) = true
  rw [lay_strs ks h, depth_strs]
  rfl
/-! ### lists put in order -/
theorem sort_ints (ns : List Int) : (ns.map V.int).mergeSort (PySem.W.dataLe false toD) = (ns.mergeSort fun a b => decide (a ≤ b)).map V.int := by
  refine (List.map_mergeSort fun a _ b _ => ?_).symm
  rw [PySem.W.dataLe_eq]
  show _ = !PySem.W.dataLt (.int b) (.int a)
  rw [PySem.W.dataLt_int]
  by_cases h : b < a
  · rw [decide_eq_true h, decide_eq_false (by omega)]
    rfl
  · rw [decide_eq_false h, decide_eq_true (by omega)]
    rfl
theorem ints_rise {ns : List Int} (h : ns.Pairwise (· ≤ ·)) : (ns.mergeSort fun a b => decide (a ≤ b)) = ns := by
  have hp := List.pairwise_mergeSort (le := fun a b : Int => decide (a ≤ b)) (fun a b c h1 h2 => decide_eq_true (Int.le_trans (of_decide_eq_true h1) (of_decide_eq_true h2))) (fun a b => by
    rcases Int.le_total a b with h | h <;> simp [h]) ns
  exact List.Perm.eq_of_pairwise (le := fun a b : Int => a ≤ b) (fun a b _ _ h1 h2 => Int.le_antisymm h1 h2) (hp.imp fun h => of_decide_eq_true h) h (List.mergeSort_perm _ _)
section
variable {K : PySem.W.Frag}
/-- .. with a test: what is told is so -/
theorem lc_some {i : Nat} {te0 : TE} {xs : List V} {σ : L2.St} {H : Hp} {tt : TT} {te : TE} {Q : VK} (A : V → Prop) (Pp : V → Prop) (h0 : ∀ R : VK, (∀ S H1, Sm H H1 → SqL K H1 S xs → R (.ref S) H1) → te0 σ H R) (hn : xs.length ≤ 90000)
    (ht : ∀ x H2, x ∈ xs → Sm H H2 → ∀ R : Bool → Hp → Prop, (∀ b H', (b = true → Pp x) → Sm H2 H' → R b H') → tt ((σ.set i none).set i (some x)) H2 R)
    (he : ∀ x H2, x ∈ xs → Pp x → Sm H H2 → ∀ R : VK, (∀ y H', A y → Sm H2 H' → R y H') → te ((σ.set i none).set i (some x)) H2 R)
    (hQ : ∀ D ys H', Sm H H' → ys.length ≤ xs.length → (∀ y ∈ ys, A y) → H' D = some (.lst ys) → H D = none → Q (.ref D) H') : tLc (iList K te0) (gName i) tt te [i] σ H Q := by
  refine h0 _ fun S H1 S1 hS => ⟨S, rfl, ⟨_, hS⟩, fun D hD => ?_⟩
  refine lc_list (K := K) (a := S) (xs := xs) (fun j H' => Sm H1 H' ∧ ∃ ys, ys.length ≤ j ∧ (∀ y ∈ ys, A y) ∧ H' D = some (.lst ys)) ⟨Sm.new hD, [], Nat.zero_le _, fun _ h => (by cases h), upd_same⟩ (fun _ H' _ h => Sm.seq h.1 hS) (fun n x H' hx h => ?_) fun H' h => ?_
  · obtain ⟨Sh, ys, hl, hA, hy⟩ := h
    refine ⟨?_, ?_⟩
    · show ((σ.set i none).set i (some x)).set i none = (σ.set i none)
      rw [List.set_set, List.set_set]
    · have hlt : n < xs.length := (List.getElem?_eq_some_iff.mp hx).1
      refine ht x H' (List.mem_of_getElem? hx) (S1.trans Sh) _ fun b H2 hb S2 => ite2 (fun c => ?_) (fun c => ⟨Sh.trans S2, ys, by omega, hA, S2 _ _ hy⟩)
      refine he x H2 (List.mem_of_getElem? hx) (hb c) (S1.trans (Sh.trans S2)) _ fun y H3 hy' S3 => ⟨ys, S3 _ _ (S2 _ _ hy), small' (by omega), ?_⟩
      refine ⟨Sm.own ((Sh.trans S2).trans S3) hD (no_tbl (S3 _ _ (S2 _ _ hy))), ys ++ [y], by rw [List.length_append]; show _ + 1 ≤ n + 1; omega, fun z hz => ?_, upd_same⟩
      rcases List.mem_append.mp hz with hz | hz
      · exact hA z hz
      · rw [List.mem_singleton.mp hz]
        exact hy'
  · obtain ⟨Sh, ys, hl, hA, hy⟩ := h
    exact hQ D ys H' (S1.trans Sh) hl hA hy (S1.free hD)
/-- a loop over a list told on the spot, which is kept: Pv of the heap with it -/
theorem for_told {i : Nat} {te0 : TE} {xs : List V} {tb : TS} {D : Ends} {σ : L2.St} {H : Hp} (Pv : Hp → Nat → L2.St → Hp → Prop) (h0 : ∀ R : VK, (∀ S H1, Sm H H1 → SqL K H1 S xs → R (.ref S) H1) → te0 σ H R)
    (hp : ∀ H1, Sm H H1 → Pv H1 0 σ H1) (hk : ∀ H1 n σ H', Pv H1 n σ H' → Sm H1 H') (hs : ∀ H1 n x σ H', Sm H H1 → xs[n]? = some x → Pv H1 n σ H' → tb { D with nx := Pv H1 (n + 1), ct := Pv H1 (n + 1), bk := D.nx } (σ.set i (some x)) H') (hd : ∀ H1 σ H', Sm H H1 → Pv H1 xs.length σ H' → D.nx σ H') : tFor (iList K te0) (gName i) tb D σ H := by
  refine h0 _ fun S H1 S1 hS => ⟨S, rfl, ⟨_, hS⟩, for_list (xs := xs) (Pv H1) (hp H1 S1) (fun n σ H2 _ h => Sm.seq (hk _ _ _ _ h) hS) (fun n x σ H2 hx h => hs H1 n x σ H2 S1 hx h) fun σ H2 h => hd H1 σ H2 S1 h⟩
end
theorem mem_cut {xs : List V} {lo hi : Option Int} {v : V} (h : v ∈ cutV xs lo hi) : v ∈ xs := List.mem_of_mem_drop (List.mem_of_mem_take h)
theorem len_cut {xs : List V} {lo hi : Option Int} : (cutV xs lo hi).length ≤ xs.length := by
  unfold cutV
  rw [List.length_take, List.length_drop]
  omega
theorem sortT_same {zs ws : List Str} (h : ws.Perm zs) : (ws.mergeSort fun a b => !decide (tl b < tl a)) = (zs.mergeSort fun a b => !decide (tl b < tl a)) := by
  have tr : ∀ a b c : Str, (!decide (tl b < tl a)) = true → (!decide (tl c < tl b)) = true → (!decide (tl c < tl a)) = true := fun a b c h g => by
    simp only [Bool.not_eq_true', decide_eq_false_iff_not] at *
    exact List.not_lt.mpr (List.le_trans (List.not_lt.mp h) (List.not_lt.mp g))
  have to : ∀ a b : Str, ((!decide (tl b < tl a)) || (!decide (tl a < tl b))) = true := fun a b => by
    by_cases c : tl b < tl a
    · have : ¬ tl a < tl b := List.lt_asymm c
      simp [this]
    · simp [c]
  refine List.Perm.eq_of_pairwise (fun a b _ _ h g => ?_) (List.pairwise_mergeSort tr to ws) (List.pairwise_mergeSort tr to zs) (((List.mergeSort_perm _ _).trans h).trans (List.mergeSort_perm _ _).symm)
  simp only [Bool.not_eq_true', decide_eq_false_iff_not] at *
  exact ext_tl (List.le_antisymm (List.not_lt.mp h) (List.not_lt.mp g))
theorem tl_cat2 (x y : Str) : tl (x ++ y) = tl x ++ tl y := Array.toList_append
theorem numL_long : ∀ (k n : Nat), n < 10 ^ (k + 1) → (numL n).length ≤ k + 1
  | 0, n, h => by
    rw [numL_lt (by simpa using h)]
    exact Nat.le_refl _
  | k + 1, n, h => by
    by_cases h10 : n < 10
    · rw [numL_lt h10]
      show 1 ≤ k + 1 + 1
      omega
    · rw [numL_step (by omega), List.length_append]
      have e : 10 ^ (k + 1 + 1) = 10 * 10 ^ (k + 1) := Nat.pow_succ'
      have := numL_long k (n / 10) (by omega)
      show _ + 1 ≤ _
      omega
theorem numT_kt {n : Int} (h : n.natAbs < 10 ^ 60) {z : Str} (e : tl z = numT n) : KT z := by
  have h1 := numL_long 59 n.natAbs h
  have h2 := numL_digits n.natAbs
  refine ⟨?_, fun c hc => ?_⟩
  · rw [e]
    unfold numT
    split
    · rw [List.length_cons]
      omega
    · omega
  · rw [e] at hc
    unfold numT at hc
    have dg : ∀ c ∈ numL n.natAbs, c < 128 := fun c hc => by
      have := h2 c hc
      omega
    split at hc
    · rcases List.mem_cons.mp hc with rfl | hc
      · decide
      · exact dg c hc
    · exact dg c hc
theorem num39 {l : List Nat} (h : l.length < 40) : (numOf l).natAbs < 10 ^ 39 := by
  have h1 := val_lt (figs_digits l)
  have h2 : PySem.NumText.digitsVal (figs l) < 10 ^ 39 := Nat.lt_of_lt_of_le h1 (Nat.pow_le_pow_right (by decide) (Nat.le_trans (figs_len l) (by omega)))
  unfold numOf
  split <;> omega
def spLaw (K : PySem.W.Frag) (cs : Tabs) : Sp := fun vs H Q _ => ∃ (a : Addr) (ns : List Int), vs = [.ref a] ∧ SqL K H a (ns.map V.int) ∧ ns.length ≤ 63 ∧ TGs H cs ∧ ∀ H', Q (.bl true) H'
section
variable {P : Program} {w : World} {K : PySem.W.Frag} {mg : Str → Option Value} {base : Heap} {cs : Tabs}
theorem ok_law (T : Txt K mg cs) (B : TBs base mg cs) {f : Addr} {fd : FuncData} (F : Fun K "law" "law" sLaw f fd) : FnOk P w K mg base CX0 8 f fd ["script"] (spLaw K cs) := by
  have C_law_cell_at := ok_law_cell_at (P := P) (w := w) (base := base) T
  have C_law_bag := ok_law_bag (P := P) (w := w) (base := base) T
  have C_law_draw := ok_law_draw (P := P) (w := w) (base := base) T
  have C_law_signs := ok_law_signs (P := P) (w := w) (base := base) T
  have C_law_text := ok_law_text T C_law_draw C_law_signs
  have C_law_key := ok_law_key T C_law_draw C_law_text
  have C_law_mixed := ok_law_mixed T C_law_draw
  have C_number_of_figures := ok_number_of_figures (P := P) (w := w) (base := base) T
  have Cnumber_of := ok_number_of T C_number_of_figures
  have Cnumber_text := ok_number_text (P := P) (w := w) (base := base) T
  have Cis_number_text := ok_is_number_text (P := P) (w := w) T B
  have Ckey_rank := ok_key_rank T Cnumber_of Cis_number_text
  have Cbefore := ok_before T Ckey_rank
  have Cin_order := ok_in_order T Ckey_rank
  have C_law_three_right := ok_law_three_right T Cbefore
  refine F.ok scLaw (fun vs H Q E h => ?_) (fun cdv A outer s H vs Q E hr h => ?_)
  · obtain ⟨a, ns, rfl, _⟩ := h
    rfl
  obtain ⟨a, ns, rfl, hS, h63, hT, q⟩ := h
  refine ⟨_, (pss_cons (ps_for PassesOwn.never rfl (pi_range1 rfl T.n_range (pa_cons (pe_callB (call_max2 rfl) rfl T.n_max (by decide +kernel) (pa_cons pe_int (pa_cons (pe_callB (call_min2 rfl) rfl T.n_min (by decide +kernel) (pa_cons pe_int (pa_cons (pe_callB (lenQ K) rfl T.n_len (by decide +kernel) (pa_cons (pv 0) pa_nil)) pa_nil))) pa_nil))) pa_nil)) (pg_name (i := 1) scLaw.nd rfl (by first | exact Or.inl rfl | exact Or.inr rfl))
      (pss_cons (ps_set (i := 2) scLaw.nd rfl (by first | exact Or.inl rfl | exact Or.inr rfl) (pe_cal C_law_bag (hr.mono (by first | decide | omega)) (pa_cons (pe_cal C_law_cell_at (hr.mono (by first | decide | omega)) (pa_cons (pv 0) (pa_cons (pv 1) pa_nil))) (pa_cons (pv 1) pa_nil))))
        (pss_cons (ps_set (i := 3) scLaw.nd rfl (by first | exact Or.inl rfl | exact Or.inr rfl) (pe_lc (own := [("j", 10)]) (g := gName 10) (tt := tYes) rfl scLaw.nd (pi_range1 rfl T.n_range (pa_cons (pe_op op_add pe_int (pe_cal C_law_draw (hr.mono (by first | decide | omega)) (pa_cons (pv 2) (pa_cons pe_int pa_nil)))) pa_nil)) (blkOk_by (own := [("j", 10)]) (N := ["script", "k", "bag", "keys", "row", "marks", "numbers", "turn", "three", "more", "j", "key"]) (sc := defScope sLaw) (by decide +kernel)) (fun _ _ _ _ _ => (pg_name (i := 10) scLaw.nd rfl (by first | exact Or.inl rfl | exact Or.inr rfl))) (fun _ _ _ _ _ => pts_nil) (fun _ _ _ _ _ => (pe_cal C_law_key (hr.mono (by first | decide | omega)) (pa_cons (pv 2) pa_nil)))))
        (C8.pss_cut (ps_if (PW.pt (pw_and (pt_val (pe_cal Cis_number_text (hr.mono (by first | decide | omega)) (pa_cons (pe_ix (ixL K) (pv 3) pe_int (fun _ _ => rfl)) pa_nil))) (pw_and1 (pt_cmpR op_lt (pe_callB lenT rfl T.n_len (by decide +kernel) (pa_cons (pe_ix (ixL K) (pv 3) pe_int (fun _ _ => rfl)) pa_nil)) pe_int (nomark _))))) (pss_one (ps_set (i := 3) scLaw.nd rfl (by first | exact Or.inl rfl | exact Or.inr rfl) (pe_op op_cat (pv 3) (pe_lst (pa_cons (pe_cal Cnumber_text (hr.mono (by first | decide | omega)) (pa_cons (pe_op op_add (pe_cal Cnumber_of (hr.mono (by first | decide | omega)) (pa_cons (pe_ix (ixL K) (pv 3) pe_int (fun _ _ => rfl)) pa_nil)) pe_int) pa_nil)) (pa_cons (pe_op op_add_str pe_str (pe_ix (ixL K) (pv 3) pe_int (fun _ _ => rfl))) pa_nil)))))) pss_nil)
        (pss_cons (ps_set (i := 4) scLaw.nd rfl (by first | exact Or.inl rfl | exact Or.inr rfl) (pe_cal Cin_order (hr.mono (by first | decide | omega)) (pa_cons (pv 3) pa_nil)))
        (pss_cons (ps_if (PW.pt (pw_or (pt_cmpR (neD K hr.units) (pe_cal Cin_order (hr.mono (by first | decide | omega)) (pa_cons (pv 4) pa_nil)) (pv 4) (nomark _)) (pw_or (pt_cmpR (neD K hr.units) (pe_cal Cin_order (hr.mono (by first | decide | omega)) (pa_cons (pe_cal C_law_mixed (hr.mono (by first | decide | omega)) (pa_cons (pv 2) (pa_cons (pv 3) pa_nil))) pa_nil)) (pv 4) (nomark _)) (pw_or1 (pt_cmpR op_ne (pe_callB (lenQ K) rfl T.n_len (by decide +kernel) (pa_cons (pv 4) pa_nil)) (pe_callB (lenQ K) rfl T.n_len (by decide +kernel) (pa_cons (pv 3) pa_nil)) (nomark _)))))) (pss_one (ps_ret pe_bl)) pss_nil)
        (pss_cons (ps_setLc (i := 5) (own := [("key", 11)]) (g := gName 11) (tt := tYes) rfl scLaw.nd rfl rfl (sw_true rfl rfl rfl (by decide +kernel)) (pi_list (pv 4)) (blkOk_by (own := [("key", 11)]) (N := ["script", "k", "bag", "keys", "row", "marks", "numbers", "turn", "three", "more", "j", "key"]) (sc := defScope sLaw) (by decide +kernel)) (fun _ _ _ _ _ => (pg_name (i := 11) scLaw.nd rfl (by first | exact Or.inl rfl | exact Or.inr rfl))) (fun _ _ _ _ _ => pts_nil) (fun _ _ _ _ _ => (pe_cal Cis_number_text (hr.mono (by first | decide | omega)) (pa_cons (pv 11) pa_nil))))
        (pss_cons (ps_if (pt_cmpR (neD K hr.units) (pv 5) (pe_revL (pe_callB (sortD (K := K) hr.units) rfl T.n_sorted (by decide +kernel) (pa_cons (pv 5) pa_nil))) (nomark _)) (pss_one (ps_ret pe_bl)) pss_nil)
        (pss_cons (ps_setLc (i := 6) (own := [("key", 11)]) (g := gName 11) (tt := tYes) rfl scLaw.nd rfl rfl (sw_true rfl rfl rfl (by decide +kernel)) (pi_list (pe_slice (slL K) (pv 4) po_none (po_some (pe_bmK (K := K) PySem.F.plainAttrs_list PySem.F.slot_list_count PySem.F.type_list_count (cntB (K := K)) (pv 5) (pa_cons pe_bl pa_nil))))) (blkOk_by (own := [("key", 11)]) (N := ["script", "k", "bag", "keys", "row", "marks", "numbers", "turn", "three", "more", "j", "key"]) (sc := defScope sLaw) (by decide +kernel)) (fun _ _ _ _ _ => (pg_name (i := 11) scLaw.nd rfl (by first | exact Or.inl rfl | exact Or.inr rfl))) (fun _ _ _ _ _ => pts_nil) (fun _ _ _ _ _ => (pe_cal Cnumber_of (hr.mono (by first | decide | omega)) (pa_cons (pv 11) pa_nil))))
        (pss_cons (ps_if (pt_cmpR (neD K hr.units) (pv 6) (pe_callB (sortD (K := K) hr.units) rfl T.n_sorted (by decide +kernel) (pa_cons (pv 6) pa_nil)) (nomark _)) (pss_one (ps_ret pe_bl)) pss_nil)
        (pss_cons (ps_if (pt_cmpR (neD K hr.units) (pe_lc (own := [("j", 10)]) (g := gName 10) (tt := _) rfl scLaw.nd (pi_range2 rfl T.n_range (pa_cons pe_int (pa_cons (pe_callB (lenQ K) rfl T.n_len (by decide +kernel) (pa_cons (pv 4) pa_nil)) pa_nil))) (blkOk_by (own := [("j", 10)]) (N := ["script", "k", "bag", "keys", "row", "marks", "numbers", "turn", "three", "more", "j", "key"]) (sc := defScope sLaw) (by decide +kernel)) (fun _ _ _ _ _ => (pg_name (i := 10) scLaw.nd rfl (by first | exact Or.inl rfl | exact Or.inr rfl))) (fun _ _ _ _ _ => (pts_one (pt_val (pe_cal Cbefore (hr.mono (by first | decide | omega)) (pa_cons (pe_ix (ixL K) (pv 4) (pv 10) (fun _ _ => rfl)) (pa_cons (pe_ix (ixL K) (pv 4) (pe_op op_sub (pv 10) pe_int) (fun _ _ => rfl)) pa_nil)))))) (fun _ _ _ _ _ => (pv 10))) (pe_lst pa_nil) (nomark _)) (pss_one (ps_ret pe_bl)) pss_nil)
        (pss_one (ps_for PassesOwn.never rfl (pi_range1 rfl T.n_range (pa_cons pe_int pa_nil)) (pg_name (i := 7) scLaw.nd rfl (by first | exact Or.inl rfl | exact Or.inr rfl))
          (pss_cons (ps_setLc (i := 8) (own := [("j", 10)]) (g := gName 10) (tt := tYes) rfl scLaw.nd rfl rfl (sw_true rfl rfl rfl (by decide +kernel)) (pi_range1 rfl T.n_range (pa_cons pe_int pa_nil)) (blkOk_by (own := [("j", 10)]) (N := ["script", "k", "bag", "keys", "row", "marks", "numbers", "turn", "three", "more", "j", "key"]) (sc := defScope sLaw) (by decide +kernel)) (fun _ _ _ _ _ => (pg_name (i := 10) scLaw.nd rfl (by first | exact Or.inl rfl | exact Or.inr rfl))) (fun _ _ _ _ _ => pts_nil) (fun _ _ _ _ _ => (pe_ix (ixL K) (pv 3) (pe_cal C_law_draw (hr.mono (by first | decide | omega)) (pa_cons (pv 2) (pa_cons (pe_callB (lenQ K) rfl T.n_len (by decide +kernel) (pa_cons (pv 3) pa_nil)) pa_nil))) (fun _ _ => rfl))))
            (pss_cons (ps_if (pt_not (pt_val (pe_cal C_law_three_right (hr.mono (by first | decide | omega)) (pa_cons (pe_ix (ixL K) (pv 8) pe_int (fun _ _ => rfl)) (pa_cons (pe_ix (ixL K) (pv 8) pe_int (fun _ _ => rfl)) (pa_cons (pe_ix (ixL K) (pv 8) pe_int (fun _ _ => rfl)) pa_nil)))))) (pss_one (ps_ret pe_bl)) pss_nil)
            (pss_cons (ps_set (i := 9) scLaw.nd rfl (by first | exact Or.inl rfl | exact Or.inr rfl) (pe_op op_add_str (pe_ix (ixL K) (pv 8) pe_int (fun _ _ => rfl)) (pe_ix ix_str pe_str (pe_cal C_law_draw (hr.mono (by first | decide | omega)) (pa_cons (pv 2) (pa_cons pe_int pa_nil))) (fun _ _ => rfl))))
            (pss_one (ps_if (PW.pt (pw_and (pt_cmpR op_lt (pe_callB lenT rfl T.n_len (by decide +kernel) (pa_cons (pv 9) pa_nil)) pe_int (nomark _)) (pw_and (pt_not (pt_val (pe_cal Cis_number_text (hr.mono (by first | decide | omega)) (pa_cons (pv 9) pa_nil)))) (pw_and1 (pt_not (pt_val (pe_cal Cbefore (hr.mono (by first | decide | omega)) (pa_cons (pe_ix (ixL K) (pv 8) pe_int (fun _ _ => rfl)) (pa_cons (pv 9) pa_nil))))))))) (pss_one (ps_ret pe_bl)) pss_nil))))))))))))))))))
    (pss_one (ps_ret pe_bl))), ?_⟩
  have hlm : (ns.map V.int).length = ns.length := List.length_map _
  refine for_rng (i := 1) (n := (max 1 (min 12 ns.length))) (fun _ σ H' => Sm H H' ∧ ∃ x1 x2 x3 x4 x5 x6 x7 x8 x9 x10 x11, σ = [some (.ref a), x1, x2, x3, x4, x5, x6, x7, x8, x9, x10, x11]) (fun R h => ?_) (by omega) (fun H1 S => ⟨S, _, _, _, _, _, _, _, _, _, _, _, rfl⟩) (fun j σ H1 hj hp => ?_) fun σ H1 hp => q H1
  · refine ⟨_, rfl, a, _, rfl, .inl hS, 12, _, rfl, 1, _, rfl, ?_⟩
    have e : (if (if ((ns.map V.int).length : Int) < 12 then ((ns.map V.int).length : Int) else 12) > 1 then (if ((ns.map V.int).length : Int) < 12 then ((ns.map V.int).length : Int) else 12) else (1 : Int)) = ((max 1 (min 12 ns.length) : Nat) : Int) := by
      rw [hlm]
      split <;> split at * <;> omega
    rw [e]
    exact h H (Sm.refl H)
  obtain ⟨S1, x1, x2, x3, x4, x5, x6, x7, x8, x9, x10, x11, rfl⟩ := hp
  have hj16 : j ≤ 12 := by omega
  have z : ((0 : Int) + (j : Int)) = (j : Int) := by omega
  rw [z]
  -- bag
  refine run_set ?_
  refine ⟨_, rfl, _, rfl, a, ns, j, rfl, Sm.seq S1 hS, fun c => ⟨_, rfl, c, j, rfl, by omega, fun b H2 hb S2 Bg => ?_⟩⟩
  have hb0 : H b = none := S1.free hb
  have S02 := S1.trans S2
  -- keys
  refine run_set ?_
  refine lc_drawn (i := 10) (N := 12) (c0 := 1) (c := 1200) (A0 := fun j => 1 ≤ j) (fun v => ∃ z, v = .str z ∧ KEY z) (fun R h => ⟨_, (by rfl), b, 12, _, rfl, Bg, by unfold LIM; omega, by decide, by decide, fun r H3 r0 r1 G3 => ⟨1, r, rfl, rfl, h (1 + r) H3 (by omega) (by omega) (by omega) G3⟩⟩) Bg (by decide) (fun i H4 hi B4 G4 R hR => ?_) fun n D ys H4 hn1 n0 n1 hl hA G4 hy hD => ?_
  · exact ⟨_, (by rfl), b, _, rfl, B4, by unfold LIM; omega, fun z H' hz G' => hR _ _ ⟨z, rfl, hz⟩ G'⟩
  obtain ⟨zs, rfl, hz, hW⟩ := texts_of ys hA
  have B4 := G4.bag _ Bg
  have S4 : Sm H H4 := Sm.go S02 G4 hb0
  have hDb : D ≠ b := Bg.ne hD
  have hlz : zs.length = n.toNat := by rw [hz, hl]
  dsimp only
  refine ⟨fun σ' H' => ∃ (P : Addr) (zs : List Str) (m : Nat) (y4 y5 y6 y7 y8 y9 y10 y11 : Option V), σ' = [some (.ref a), some (.int (j : Int)), some (.ref b), some (.ref P), y4, y5, y6, y7, y8, y9, y10, y11] ∧ Sm H H' ∧ Bag H' b m ∧ m ≤ 40000 ∧ H' P = some (.lst (zs.map V.str)) ∧ P ≠ b ∧ 1 ≤ zs.length ∧ zs.length ≤ 14 ∧ ∀ z ∈ zs, KT z, ?_, ?_⟩
  · obtain ⟨z0, zr, rfl⟩ : ∃ z r, zs = z :: r := by
      cases zs with
      | nil => simp at hlz; omega
      | cons z r => exact ⟨z, r, rfl⟩
    have K0 := hW z0 (.head _)
    have at0 : atI ((z0 :: zr).map V.str) 0 = some (.str z0) := atI_nat (xs := (z0 :: zr).map V.str) (j := 0) (v := .str z0) rfl
    have same : ∀ H5, Go b 0 H4 H5 → ∃ (P : Addr) (ws : List Str) (m : Nat) (y4 y5 y6 y7 y8 y9 y10 y11 : Option V), ([some (.ref a), some (.int (j : Int)), some (.ref b), some (.ref D), x4, x5, x6, x7, x8, x9, x10, x11] : L2.St) = [some (.ref a), some (.int (j : Int)), some (.ref b), some (.ref P), y4, y5, y6, y7, y8, y9, y10, y11] ∧ Sm H H5 ∧ Bag H5 b m ∧ m ≤ 40000 ∧ H5 P = some (.lst (ws.map V.str)) ∧ P ≠ b ∧ 1 ≤ ws.length ∧ ws.length ≤ 14 ∧ ∀ z ∈ ws, KT z := fun H5 G5 =>
      ⟨D, z0 :: zr, _, _, _, _, _, _, _, _, _, rfl, Sm.go S4 G5 hb0, G5.bag _ B4, by omega, G5.keep D _ hDb hy, hDb, by simp, by omega, fun z h => (hW z h).kt⟩
    refine run_ifE ?_
    refine ⟨_, (by rfl), D, _, 0, .str z0, rfl, rfl, SqL.of hy, at0, z0, rfl, K0.kt.big, (hT.sm S4).t_is_number_text, fun H5 S5 => ⟨_, rfl, ?_⟩⟩
    refine ite2 (fun c => ?_) (fun c => iteF (same H5 (Go.same S5)))
    refine ⟨_, (by rfl), D, _, 0, .str z0, rfl, rfl, SqL.of (S5 _ _ hy), at0, z0, rfl, K0.wt.line (by decide), _, _, rfl, rfl, _, rfl, ?_⟩
    refine ite2 (fun c2 => ?_) (fun c2 => same H5 (Go.same S5))
    have l39 : (tl z0).length < 40 := by
      have := of_decide_eq_true c2
      rw [len_tl] at this
      omega
    have n39 := num39 l39
    have hy5 := S5 _ _ hy
    dsimp only [tAsg, gName]
    have nb : (numOf (tl z0) + 1).natAbs < 10 ^ 60 := by
      have e : (10 : Nat) ^ 39 < 10 ^ 60 := by decide
      omega
    refine ⟨_, (by rfl), _, (by rfl), D, _, 0, .str z0, rfl, rfl, SqL.of hy5, at0, ?_⟩
    refine ⟨z0, rfl, K0.kt.big, _, 1, rfl, rfl, _, rfl, nb, fun zn H6 S6 en => ?_⟩
    refine ⟨_, (by rfl), D, _, 0, .str z0, rfl, rfl, SqL.of (S6 _ _ hy5), at0, "0", z0, rfl, rfl, ?_, (by show 2 ≤ sizeLine; decide), fun L hL => ?_⟩
    · have := K0.wt.len
      rw [len_tl z0]
      exact small (by show 1 + (tl z0).length ≤ 100000; omega)
    refine ⟨D, L, _, _, rfl, rfl, Sm.new hL _ _ (S6 _ _ hy5), upd_same, ?_, fun P hP => ?_⟩
    · rw [List.length_map]
      exact small (by show _ + 2 ≤ 100000; omega)
    have S7 := (S5.trans S6).trans (Sm.new (o := .lst [.str zn, .str ("0" ++ z0)]) hL)
    have B7 := (Go.same (b := b) S7).bag _ B4
    have S8 := S7.trans (Sm.new (o := .lst (((z0 :: zr).map V.str) ++ [V.str zn, .str ("0" ++ z0)])) hP)
    refine ⟨P, (z0 :: zr) ++ [zn, "0" ++ z0], _, _, _, _, _, _, _, _, _, rfl, S4.trans S8, (Go.same (b := b) S8).bag _ B4, by omega, ?_, B7.ne hP, by simp, by rw [List.length_append]; show _ + 2 ≤ 14; omega, fun z h => ?_⟩
    · rw [List.map_append]
      exact upd_same
    · rcases List.mem_append.mp h with h | h
      · exact (hW z h).kt
      · rcases List.mem_cons.mp h with rfl | h
        · exact numT_kt nb en
        · rw [List.mem_singleton.mp h]
          have et : tl ("0" ++ z0) = 48 :: tl z0 := (tl_cat2 _ _).trans (by rw [show tl "0" = [48] from by decide +kernel]; rfl)
          refine ⟨?_, fun c hc => ?_⟩
          · rw [et, List.length_cons]
            omega
          · rw [et] at hc
            rcases List.mem_cons.mp hc with rfl | hc
            · decide
            · exact K0.kt.asc c hc
  clear hlz hW hz hl hA hy hD hn1 n0 n1 hDb B4 S4 G4
  rintro σ5 H5 ⟨P, zs, m, y4, y5, y6, y7, y8, y9, y10, y11, rfl, S5, B5, hm, hP, hPb, h1, h14, hK⟩
  have row : ∀ {H' : Hp}, Sm H5 H' → SqL K H' P (zs.map V.str) := fun S => SqL.of (S _ _ hP)
  have hbig : ∀ z ∈ zs, (tl z).length ≤ 250 := fun z hz => (hK z hz).big
  have hI : ∀ z ∈ inOrd zs, KT z := fun z hz => hK z ((inOrd_perm zs).mem_iff.mp hz)
  -- row
  refine run_set ?_
  refine ⟨_, (by rfl), P, zs, rfl, row (Sm.refl _), hbig, (hT.sm S5).t_is_number_text, fun R H6 S6 nR hR => ?_⟩
  dsimp only
  have B6 := (Go.same (b := b) S6).bag _ B5
  have hRb : R ≠ b := B5.ne nR
  have S06 := S5.trans S6
  refine run_if ?_
  -- in_order(row) != row
  refine ⟨_, (by rfl), R, inOrd zs, rfl, SqL.of hR, fun z hz => (hI z hz).big, (hT.sm S06).t_is_number_text, fun D1 H7 S7 n7 h7 => ?_⟩
  rw [inOrd_twice] at h7
  have shp : SeqAt.shaped (.list (dS (inOrd zs))) = true := shaped_strs fun z hz => (hI z hz).ok
  refine ⟨_, (by rfl), .list (dS (inOrd zs)), .list (dS (inOrd zs)), .lst (SqL.of h7) (dp_strs _), .lst (SqL.of (S7 _ _ hR)) (dp_strs _), shp, shp, _, rfl, ?_⟩
  rw [eqv_self_strs]
  refine iteF ?_
  -- in_order(_law_mixed(bag, keys)) != row
  have S67 := S6.trans S7
  have B7 := (Go.same (b := b) S67).bag _ B5
  refine ⟨_, (by rfl), _, (by rfl), b, P, _, zs, rfl, B7, by unfold LIM; omega, hPb, S67 _ _ hP, by omega, fun M ws H8 pw G8 nM hM => ?_⟩
  have S8 : Sm H H8 := Sm.go (S5.trans S67) G8 hb0
  have B8 := G8.bag _ B7
  have hP8 := G8.keep P _ hPb (S67 _ _ hP)
  have hR8 := G8.keep R _ hRb (S7 _ _ hR)
  refine ⟨M, ws, rfl, SqL.of hM, fun z hz => (hK z (pw.mem_iff.mp hz)).big, (hT.sm S8).t_is_number_text, fun D2 H9 S9 n9 h9 => ?_⟩
  rw [inOrd_same pw] at h9
  have hP9 := S9 _ _ hP8
  have hR9 := S9 _ _ hR8
  refine ⟨_, (by rfl), .list (dS (inOrd zs)), .list (dS (inOrd zs)), .lst (SqL.of h9) (dp_strs _), .lst (SqL.of hR9) (dp_strs _), shp, shp, _, rfl, ?_⟩
  rw [eqv_self_strs]
  refine iteF ?_
  -- len(row) != len(keys)
  refine ⟨_, (by rfl), R, _, rfl, .inl (SqL.of hR9), _, (by rfl), P, _, rfl, .inl (SqL.of hP9), rfl, _, rfl, ?_⟩
  rw [List.length_map, List.length_map, inOrd_len, decide_eq_true rfl]
  refine iteF ?_
  refine run_next ?_
  try dsimp only
  have S10 := S8.trans S9
  have B10 := (Go.same (b := b) S9).bag _ B8
  clear S6 S7 S67 B6 B7 S8 B8 S9 h7 n7 h9 n9 hM nM G8 hP8 hR8
  -- marks
  have toB : ((inOrd zs).map V.str).map (fun v => match v with | .str z => V.bl (isN z) | _ => .non) = ((inOrd zs).map isN).map V.bl := by
    rw [List.map_map, List.map_map]
    rfl
  have toN : ∀ k, (((inOrd zs).take k).map V.str).map (fun v => match v with | .str z => V.int (nO z) | _ => .non) = (((inOrd zs).take k).map nO).map V.int := fun k => by
    rw [List.map_map, List.map_map]
    rfl
  refine run_set ?_
  refine lc_map (i := 11) (xs := (inOrd zs).map V.str) (fun v => match v with | .str z => V.bl (isN z) | _ => .non) (fun R' h => ⟨_, (by rfl), h R H9 (Sm.refl _) (SqL.of hR9)⟩) (by rw [List.length_map, inOrd_len]; omega) (fun x Ha hx Sa R' hR' => ?_) fun M Ha Sa hM _ => ?_
  · obtain ⟨z, hz, rfl⟩ := List.mem_map.mp hx
    exact ⟨_, (by rfl), z, rfl, (hI z hz).big, (hT.sm (S10.trans Sa)).t_is_number_text, fun Hb Sb => hR' Hb Sb⟩
  rw [toB] at hM
  try dsimp only
  refine run_if ?_
  refine ⟨_, (by rfl), _, (by rfl), M, _, rfl, SqL.of hM, fun x hx => ?_, fun x hx y hy => ?_, fun p hp => ?_⟩
  · obtain ⟨c, _, rfl⟩ := List.mem_map.mp hx
    rfl
  · obtain ⟨c, _, rfl⟩ := List.mem_map.mp hx
    obtain ⟨d, _, rfl⟩ := List.mem_map.mp hy
    rfl
  rw [sort_bools]
  refine ⟨p, _, rfl, SqL.of upd_same, fun p2 hp2 => ?_⟩
  rw [← List.map_reverse, bools_turned (inOrd_marks zs)]
  refine ⟨.list (dB ((inOrd zs).map isN)), .list (dB ((inOrd zs).map isN)), .lst (SqL.of (Sm.new hp2 _ _ (Sm.new hp _ _ hM))) (dp_bools _), .lst (SqL.of upd_same) (dp_bools _), shaped_bools _, shaped_bools _, _, rfl, ?_⟩
  rw [eqv_bools]
  refine iteF ?_
  refine run_next ?_
  try dsimp only
  have Sc : Sm H9 _ := (Sa.trans (Sm.new (o := .lst (((inOrd zs).map isN).mergeSort (fun a b => !a || b) |>.map V.bl)) hp)).trans (Sm.new (o := .lst (((inOrd zs).map isN).map V.bl)) hp2)
  have hMc := Sm.new (o := .lst (((inOrd zs).map isN).map V.bl)) hp2 _ _ (Sm.new (o := .lst (((inOrd zs).map isN).mergeSort (fun a b => !a || b) |>.map V.bl)) hp _ _ hM)
  generalize upd (upd Ha p (.lst (((inOrd zs).map isN).mergeSort (fun a b => !a || b) |>.map V.bl))) p2 (.lst (((inOrd zs).map isN).map V.bl)) = Hc at *
  have hRc := Sc _ _ hR9
  -- numbers
  refine run_set ?_
  refine lc_map (i := 11) (xs := ((inOrd zs).take (((inOrd zs).map isN).count true)).map V.str) (fun v => match v with | .str z => V.int (nO z) | _ => .non) (fun R' h => ?_) (by rw [List.length_map, List.length_take, inOrd_len]; omega) (fun x Hd hx Sd R' hR' => ?_) fun N Hd Sd hN _ => ?_
  · refine ⟨_, (by rfl), _, rfl, .inl ⟨rfl, _, .inl (.inl hMc)⟩, M, _, true, rfl, rfl, SqL.of hMc, _, rfl, R, _, rfl, SqL.of hRc, fun p3 hp3 => ?_⟩
    rw [cut_take, ← List.map_take]
    exact h p3 _ (Sm.new hp3) (SqL.of upd_same)
  · obtain ⟨z, hz, rfl⟩ := List.mem_map.mp hx
    exact ⟨_, (by rfl), z, rfl, (hI z (List.mem_of_mem_take hz)).big, hR' Hd (Sm.refl _)⟩
  rw [toN] at hN
  try dsimp only
  refine run_if ?_
  refine ⟨_, (by rfl), _, (by rfl), N, _, rfl, SqL.of hN, fun x hx => ?_, fun x hx y hy => ?_, fun p4 hp4 => ?_⟩
  · obtain ⟨c, _, rfl⟩ := List.mem_map.mp hx
    rfl
  · obtain ⟨c, _, rfl⟩ := List.mem_map.mp hx
    obtain ⟨d, _, rfl⟩ := List.mem_map.mp hy
    rfl
  rw [sort_ints, ints_rise (inOrd_nums zs _ rfl)]
  refine ⟨.list _, .list _, .lst (SqL.of (Sm.new hp4 _ _ hN)) (dp_ints _), .lst (SqL.of upd_same) (dp_ints _), shaped_ints _, shaped_ints _, _, rfl, ?_⟩
  rw [eqv_ints]
  refine iteF ?_
  refine run_next ?_
  try dsimp only
  have Se : Sm H9 _ := (Sc.trans Sd).trans (Sm.new (o := .lst ((((inOrd zs).take (((inOrd zs).map isN).count true)).map nO).map V.int)) hp4)
  generalize upd Hd p4 (.lst ((((inOrd zs).take (((inOrd zs).map isN).count true)).map nO).map V.int)) = He at *
  have hRe := Se _ _ hR9
  -- each ahead of the next, or the same
  refine run_if ?_
  refine run_test ?_
  refine lc_noneR (i := 10) (lo := 1) (hi := ((inOrd zs).length : Nat)) (fun R' h => ⟨_, (by rfl), R, _, rfl, .inl (SqL.of hRe), ?_⟩) (by rw [inOrd_len]; omega) (fun j' Hf lo hi Sf R' hR' => ?_) fun D5 Hf Sf hf => ?_
  · rw [List.length_map]
    exact h He (Sm.refl _)
  · obtain ⟨k, rfl⟩ : ∃ k : Nat, j' = ((k + 1 : Nat) : Int) := ⟨(j' - 1).toNat, by omega⟩
    have hk : k + 1 < (inOrd zs).length := by omega
    have hk0 : k < (inOrd zs).length := by omega
    have g1 : ((inOrd zs).map V.str)[k + 1]? = some (.str (inOrd zs)[k + 1]) := by rw [List.getElem?_map, List.getElem?_eq_getElem hk]; rfl
    have g0 : ((inOrd zs).map V.str)[k]? = some (.str (inOrd zs)[k]) := by rw [List.getElem?_map, List.getElem?_eq_getElem hk0]; rfl
    have ek : ((k + 1 : Nat) : Int) - 1 = (k : Int) := by omega
    refine ⟨_, (by rfl), _, (by rfl), R, _, _, _, rfl, rfl, SqL.of (Sf _ _ hRe), atI_nat g1, ?_⟩
    refine ⟨_, (by rfl), _, (by rfl), _, 1, rfl, rfl, R, _, (k : Int), _, rfl, congrArg V.int ek, SqL.of (Sf _ _ hRe), atI_nat g0, ?_⟩
    refine ⟨_, _, rfl, (hI _ (List.getElem_mem hk)).big, (hI _ (List.getElem_mem hk0)).big, (hT.sm ((S10.trans Se).trans Sf)).t_is_number_text, fun Hg Sg => ⟨_, rfl, ?_⟩⟩
    rw [List.pairwise_iff_getElem.mp (inOrd_pair zs) k (k + 1) hk0 hk (by omega)]
    exact hR' Hg Sg
  refine ⟨(by decide), fun D6 hD6 => ?_⟩
  refine ⟨.list [], .list [], .lst (SqL.of (Sm.new hD6 _ _ hf)) .nil, .lst (SqL.of upd_same) .nil, rfl, rfl, _, rfl, ?_⟩
  refine iteF ?_
  refine run_next ?_
  try dsimp only
  have Sg : Sm H9 _ := (Se.trans Sf).trans (Sm.new (o := .lst []) hD6)
  generalize upd Hf D6 (.lst []) = Hg at *
  -- twelve times three keys
  have Bg' := (Go.same (b := b) Sg).bag _ B10
  have hPg := Sg _ _ hP9
  refine for_rng (i := 7) (n := 12) (fun i σ H' => Sm H H' ∧ Bag H' b (100000 + 100 * i) ∧ H' P = some (.lst (zs.map V.str)) ∧ ∃ y4 y5 y6 y7 y8 y9 y10 y11, σ = [some (.ref a), some (.int (j : Int)), some (.ref b), some (.ref P), y4, y5, y6, y7, y8, y9, y10, y11])
    (fun R h => h _ (Sm.refl _)) (by decide) (fun Hh Sh => ⟨(S10.trans Sg).trans Sh, ((Go.same (b := b) Sh).bag _ Bg').mono (by omega), Sh _ _ hPg, _, _, _, _, _, _, _, _, rfl⟩) (fun i σ Hh hi hp => ?_) fun σ Hh hp => ⟨hp.1, by obtain ⟨_, _, _, w4, w5, w6, w7, w8, w9, w10, w11, rfl⟩ := hp; exact ⟨_, _, _, _, _, _, _, _, _, _, _, rfl⟩⟩
  obtain ⟨Sh, Bh, hPh, w4, w5, w6, w7, w8, w9, w10, w11, rfl⟩ := hp
  have hlz : (zs.map V.str).length = zs.length := List.length_map _
  -- three
  refine run_set ?_
  refine lc_drawn (i := 10) (N := 3) (c0 := 0) (c := 1) (A0 := fun j => j = 3) (fun v => ∃ z, v = .str z ∧ KT z) (fun R' h => h 3 Hh rfl (by decide) (by decide) (Go.refl b _)) Bh (by decide) (fun k Hi hk Bi Gi R' hR' => ?_) fun n D7 ys Hi hn3 _ _ hl hA Gi hy hD => ?_
  · have hPi := Gi.keep P _ hPb hPh
    refine ⟨_, (by rfl), _, (by rfl), _, (by rfl), P, _, rfl, .inl (SqL.of hPi), b, _, _, rfl, Bi, by unfold LIM; omega, by omega, by omega, fun r Hj r0 r1 Gj => ?_⟩
    obtain ⟨e, rfl⟩ : ∃ e : Nat, r = (e : Int) := ⟨r.toNat, by omega⟩
    have he : e < zs.length := by omega
    refine ⟨P, _, (e : Int), .str zs[e], rfl, rfl, SqL.of (Gj.keep P _ hPb hPi), atI_nat (by rw [List.getElem?_map, List.getElem?_eq_getElem he]; rfl), hR' _ _ ⟨_, rfl, hK _ (List.getElem_mem he)⟩ Gj⟩
  subst hn3
  obtain ⟨ts, rfl, hts, hT3⟩ := texts_of ys hA
  have hl3 : ts.length = 3 := by rw [hts, hl]; rfl
  obtain ⟨t0, t1, t2, rfl⟩ : ∃ t0 t1 t2, ts = [t0, t1, t2] := by
    match ts, hl3 with
    | [t0, t1, t2], _ => exact ⟨t0, t1, t2, rfl⟩
  have k0 := hT3 t0 (by simp)
  have k1 := hT3 t1 (by simp)
  have k2 := hT3 t2 (by simp)
  have g0 : atI ([t0, t1, t2].map V.str) 0 = some (.str t0) := atI_nat (xs := [t0, t1, t2].map V.str) (j := 0) (v := .str t0) rfl
  have g1 : atI ([t0, t1, t2].map V.str) 1 = some (.str t1) := atI_nat (xs := [t0, t1, t2].map V.str) (j := 1) (v := .str t1) rfl
  have g2 : atI ([t0, t1, t2].map V.str) 2 = some (.str t2) := atI_nat (xs := [t0, t1, t2].map V.str) (j := 2) (v := .str t2) rfl
  have Bi := Gi.bag _ Bh
  have Si : Sm H Hi := Sm.go Sh Gi hb0
  have hDb : D7 ≠ b := Bh.ne hD
  have hPi := Gi.keep P _ hPb hPh
  try dsimp only
  refine run_if ?_
  refine ⟨_, (by rfl), D7, _, 0, _, rfl, rfl, SqL.of hy, g0, ?_⟩
  refine ⟨_, (by rfl), D7, _, 1, _, rfl, rfl, SqL.of hy, g1, ?_⟩
  refine ⟨_, (by rfl), D7, _, 2, _, rfl, rfl, SqL.of hy, g2, ?_⟩
  refine ⟨t0, t1, t2, rfl, k0.big, k1.big, k2.big, (hT.sm Si).t_is_number_text, fun Hj Sj => ⟨_, rfl, ?_⟩⟩
  refine iteF ?_
  refine run_next ?_
  try dsimp only
  have Bj := (Go.same (b := b) Sj).bag _ Bi
  have hyj := Sj _ _ hy
  -- more
  have az : tl "az09" = [97, 122, 48, 57] := by decide +kernel
  refine run_set ?_
  refine ⟨_, (by rfl), D7, _, 0, _, rfl, rfl, SqL.of hyj, g0, ?_⟩
  refine ⟨_, (by rfl), b, 4, _, rfl, Bj, by unfold LIM; omega, by decide, by decide, fun r Hk r0 r1 Gk => ?_⟩
  obtain ⟨e, rfl⟩ : ∃ e : Nat, r = (e : Int) := ⟨r.toNat, by omega⟩
  have he : e < (tl "az09").length := by rw [az]; show e < 4; omega
  refine ⟨"az09", (e : Int), (tl "az09")[e], rfl, rfl, by decide +kernel, atI_nat (List.getElem?_eq_getElem he), t0, ⟨#[(tl "az09")[e]]⟩, rfl, rfl, ?_, ?_⟩
  · have := k0.big
    rw [len_tl t0]
    exact small (by show (tl t0).length + 1 ≤ 100000; omega)
  have em : tl (t0 ++ ⟨#[(tl "az09")[e]]⟩) = tl t0 ++ [(tl "az09")[e]] := tl_cat2 _ _
  generalize t0 ++ (⟨#[(tl "az09")[e]]⟩ : Str) = more at *
  have hyk := Gk.keep D7 _ hDb hyj
  have Sk : Sm H Hk := Sm.go (Si.trans Sj) Gk hb0
  have lm : (tl more).length ≤ 251 := by
    have := k0.big
    rw [em, List.length_append]
    show _ + 1 ≤ 251
    omega
  have done : ∀ Hl, Sm Hk Hl → (Sm H Hl ∧ Bag Hl b (100000 + 100 * (i + 1)) ∧ Hl P = some (.lst (zs.map V.str)) ∧ ∃ y4 y5 y6 y7 y8 y9 y10 y11, ([some (.ref a), some (.int (j : Int)), some (.ref b), some (.ref P), w4, w5, w6, some (.int (0 + (i : Int))), some (.ref D7), some (.str more), w10, w11] : L2.St) = [some (.ref a), some (.int (j : Int)), some (.ref b), some (.ref P), y4, y5, y6, y7, y8, y9, y10, y11]) := fun Hl Sl =>
    ⟨Sk.trans Sl, ((Go.same (b := b) Sl).bag _ (Gk.bag _ Bj)).mono (by omega), Sl _ _ (Gk.keep P _ hPb (Sj _ _ hPi)), _, _, _, _, _, _, _, _, rfl⟩
  try dsimp only
  refine run_ifE ?_
  refine ⟨_, (by rfl), more, rfl, ?_, _, _, rfl, rfl, _, rfl, ?_⟩
  · rw [len_tl more]
    exact small (by omega)
  refine ite2 (fun c => ?_) (fun c => done Hk (Sm.refl _))
  have l40 : (tl more).length ≤ 250 := by
    have := of_decide_eq_true c
    rw [len_tl] at this
    omega
  refine ⟨_, (by rfl), more, rfl, l40, (hT.sm Sk).t_is_number_text, fun Hl Sl => ⟨_, rfl, ?_⟩⟩
  refine ite2 (fun c2 => ?_) (fun c2 => done Hl Sl)
  have nm : isN more = false := by
    have : (!isNum (tl more)) = true := c2
    simpa [isN] using this
  refine ⟨_, (by rfl), D7, _, 0, _, rfl, rfl, SqL.of (Sl _ _ hyk), g0, _, (by rfl), t0, more, rfl, k0.big, l40, (hT.sm (Sk.trans Sl)).t_is_number_text, fun Hm Sm' => ⟨_, rfl, ?_⟩⟩
  rw [ahead_more em nm]
  exact iteF (done Hm (Sl.trans Sm'))
end
set_option maxHeartbeats 0 in
theorem all_mk {l : PySem.W.OpenLaw} {q : Program} {w : World} {K : PySem.W.Frag} {h : Heap} {mg : Str → Option Value} {fa f1 f2 f3 f4 f5 f6 f7 f8 f9 f10 f11 f12 f13 f14 f15 f16 : Addr} (X : K.In h) (G : h.Ns mainGlobals mg) (hfa : mg "law" = some (.ref fa)) (OT : OwnTabs q K mg h)
    {od1 od2 od3 od4 od5 od6 od7 od8 od9 od10 od11 od12 od13 od14 od15 od16 an1 an2 an3 an4 an5 an6 an7 an8 an9 an10 an11 an12 an13 an14 an15 an16 : Option Addr} {sl1 sl2 sl3 sl4 sl5 sl6 sl7 sl8 sl9 sl10 sl11 sl12 sl13 sl14 sl15 sl16 : Array (Option Value)} {oc1 oc2 oc3 oc4 oc5 oc6 oc7 oc8 oc9 oc10 oc11 oc12 oc13 oc14 oc15 oc16 kV1 kV2 kV3 kV4 kV5 kV6 kV7 kV8 kV9 kV10 kV11 kV12 kV13 kV14 kV15 kV16 dc1 dc2 dc3 dc4 dc5 dc6 dc7 dc8 dc9 dc10 dc11 dc12 dc13 dc14 dc15 dc16 pm1 pm2 pm3 pm4 pm5 pm6 pm7 pm8 pm9 pm10 pm11 pm12 pm13 pm14 pm15 pm16 ct1 ct2 ct3 ct4 ct5 ct6 ct7 ct8 ct9 ct10 ct11 ct12 ct13 ct14 ct15 ct16 : Value}
    {cd1 cd2 cd3 cd5 cd6 cd7 cd8 cd9 cd10 cd11 cd12 cd13 cd14 cd15 cd16 : Value}
    {c4 p4 : Addr} {vs4 : Array Value} {dd4 : Option Addr} {cl4 : Array (Option Value)}
    (a1 : PySem.W.nsIn K mainGlobals "number_of" = some (some (.ref f1)))
    (l1 : K.lookup f1 = some ⟨oc1, od1, .func (PySem.W.fnOf "number_of" "number_of" (defArgs sNumberOf) (defBody sNumberOf) (defScope sNumberOf) .none kV1 dc1 pm1 an1 cd1 ct1), sl1⟩) (e1 : PySem.W.codeIn K cd1 "number_of" = true) (k1 : PySem.W.keepIn K (.ref f1) = true)
    (a2 : PySem.W.nsIn K mainGlobals "_number_of_figures" = some (some (.ref f2)))
    (l2 : K.lookup f2 = some ⟨oc2, od2, .func (PySem.W.fnOf "_number_of_figures" "_number_of_figures" (defArgs sNumberOfFigures) (defBody sNumberOfFigures) (defScope sNumberOfFigures) .none kV2 dc2 pm2 an2 cd2 ct2), sl2⟩) (e2 : PySem.W.codeIn K cd2 "_number_of_figures" = true) (k2 : PySem.W.keepIn K (.ref f2) = true)
    (a3 : PySem.W.nsIn K mainGlobals "number_text" = some (some (.ref f3)))
    (l3 : K.lookup f3 = some ⟨oc3, od3, .func (PySem.W.fnOf "number_text" "number_text" (defArgs sNumberText) (defBody sNumberText) (defScope sNumberText) .none kV3 dc3 pm3 an3 cd3 ct3), sl3⟩) (e3 : PySem.W.codeIn K cd3 "number_text" = true) (k3 : PySem.W.keepIn K (.ref f3) = true)
    (a4 : PySem.W.nsIn K mainGlobals "is_number_text" = some (some (.ref f4)))
    (l4 : K.lookup f4 = some ⟨oc4, od4, .func (PySem.W.fnOf "is_number_text" "is_number_text" (defArgs sIsNumberText) (defBody sIsNumberText) (defScope sIsNumberText) .none kV4 dc4 pm4 an4 (.ref c4) ct4), sl4⟩) (e4 : PySem.W.codeIn K (.ref c4) "is_number_text" = true) (k4 : PySem.W.keepIn K (.ref f4) = true)
    (m4 : K.lookup c4 = some ⟨.type "code", dd4, .fields vs4, cl4⟩) (u4 : (vs4[11]? : Option Value) = some (.ref p4)) (o4 : hdOk vs4 c4 p4 = true) (n4 : K.lookup p4 = none) (r4 : ((PyProof.Rows.recsOf q).any fun e => e.name == ("is_number_text" : Str)) = true)
    (a5 : PySem.W.nsIn K mainGlobals "key_rank" = some (some (.ref f5)))
    (l5 : K.lookup f5 = some ⟨oc5, od5, .func (PySem.W.fnOf "key_rank" "key_rank" (defArgs sKeyRank) (defBody sKeyRank) (defScope sKeyRank) .none kV5 dc5 pm5 an5 cd5 ct5), sl5⟩) (e5 : PySem.W.codeIn K cd5 "key_rank" = true) (k5 : PySem.W.keepIn K (.ref f5) = true)
    (a6 : PySem.W.nsIn K mainGlobals "before" = some (some (.ref f6)))
    (l6 : K.lookup f6 = some ⟨oc6, od6, .func (PySem.W.fnOf "before" "before" (defArgs sBefore) (defBody sBefore) (defScope sBefore) .none kV6 dc6 pm6 an6 cd6 ct6), sl6⟩) (e6 : PySem.W.codeIn K cd6 "before" = true) (k6 : PySem.W.keepIn K (.ref f6) = true)
    (a7 : PySem.W.nsIn K mainGlobals "in_order" = some (some (.ref f7)))
    (l7 : K.lookup f7 = some ⟨oc7, od7, .func (PySem.W.fnOf "in_order" "in_order" (defArgs sInOrder) (defBody sInOrder) (defScope sInOrder) .none kV7 dc7 pm7 an7 cd7 ct7), sl7⟩) (e7 : PySem.W.codeIn K cd7 "in_order" = true) (k7 : PySem.W.keepIn K (.ref f7) = true)
    (a8 : PySem.W.nsIn K mainGlobals "_law_cell_at" = some (some (.ref f8)))
    (l8 : K.lookup f8 = some ⟨oc8, od8, .func (PySem.W.fnOf "_law_cell_at" "_law_cell_at" (defArgs sLawCellAt) (defBody sLawCellAt) (defScope sLawCellAt) .none kV8 dc8 pm8 an8 cd8 ct8), sl8⟩) (e8 : PySem.W.codeIn K cd8 "_law_cell_at" = true) (k8 : PySem.W.keepIn K (.ref f8) = true)
    (a9 : PySem.W.nsIn K mainGlobals "_law_bag" = some (some (.ref f9)))
    (l9 : K.lookup f9 = some ⟨oc9, od9, .func (PySem.W.fnOf "_law_bag" "_law_bag" (defArgs sLawBag) (defBody sLawBag) (defScope sLawBag) .none kV9 dc9 pm9 an9 cd9 ct9), sl9⟩) (e9 : PySem.W.codeIn K cd9 "_law_bag" = true) (k9 : PySem.W.keepIn K (.ref f9) = true)
    (a10 : PySem.W.nsIn K mainGlobals "_law_draw" = some (some (.ref f10)))
    (l10 : K.lookup f10 = some ⟨oc10, od10, .func (PySem.W.fnOf "_law_draw" "_law_draw" (defArgs sLawDraw) (defBody sLawDraw) (defScope sLawDraw) .none kV10 dc10 pm10 an10 cd10 ct10), sl10⟩) (e10 : PySem.W.codeIn K cd10 "_law_draw" = true) (k10 : PySem.W.keepIn K (.ref f10) = true)
    (a11 : PySem.W.nsIn K mainGlobals "_law_signs" = some (some (.ref f11)))
    (l11 : K.lookup f11 = some ⟨oc11, od11, .func (PySem.W.fnOf "_law_signs" "_law_signs" (defArgs sLawSigns) (defBody sLawSigns) (defScope sLawSigns) .none kV11 dc11 pm11 an11 cd11 ct11), sl11⟩) (e11 : PySem.W.codeIn K cd11 "_law_signs" = true) (k11 : PySem.W.keepIn K (.ref f11) = true)
    (a12 : PySem.W.nsIn K mainGlobals "_law_text" = some (some (.ref f12)))
    (l12 : K.lookup f12 = some ⟨oc12, od12, .func (PySem.W.fnOf "_law_text" "_law_text" (defArgs sLawText) (defBody sLawText) (defScope sLawText) .none kV12 dc12 pm12 an12 cd12 ct12), sl12⟩) (e12 : PySem.W.codeIn K cd12 "_law_text" = true) (k12 : PySem.W.keepIn K (.ref f12) = true)
    (a13 : PySem.W.nsIn K mainGlobals "_law_key" = some (some (.ref f13)))
    (l13 : K.lookup f13 = some ⟨oc13, od13, .func (PySem.W.fnOf "_law_key" "_law_key" (defArgs sLawKey) (defBody sLawKey) (defScope sLawKey) .none kV13 dc13 pm13 an13 cd13 ct13), sl13⟩) (e13 : PySem.W.codeIn K cd13 "_law_key" = true) (k13 : PySem.W.keepIn K (.ref f13) = true)
    (a14 : PySem.W.nsIn K mainGlobals "_law_mixed" = some (some (.ref f14)))
    (l14 : K.lookup f14 = some ⟨oc14, od14, .func (PySem.W.fnOf "_law_mixed" "_law_mixed" (defArgs sLawMixed) (defBody sLawMixed) (defScope sLawMixed) .none kV14 dc14 pm14 an14 cd14 ct14), sl14⟩) (e14 : PySem.W.codeIn K cd14 "_law_mixed" = true) (k14 : PySem.W.keepIn K (.ref f14) = true)
    (a15 : PySem.W.nsIn K mainGlobals "_law_three_right" = some (some (.ref f15)))
    (l15 : K.lookup f15 = some ⟨oc15, od15, .func (PySem.W.fnOf "_law_three_right" "_law_three_right" (defArgs sLawThreeRight) (defBody sLawThreeRight) (defScope sLawThreeRight) .none kV15 dc15 pm15 an15 cd15 ct15), sl15⟩) (e15 : PySem.W.codeIn K cd15 "_law_three_right" = true) (k15 : PySem.W.keepIn K (.ref f15) = true)
    (a16 : PySem.W.nsIn K mainGlobals "law" = some (some (.ref f16)))
    (l16 : K.lookup f16 = some ⟨oc16, od16, .func (PySem.W.fnOf "law" "law" (defArgs sLaw) (defBody sLaw) (defScope sLaw) .none kV16 dc16 pm16 an16 cd16 ct16), sl16⟩) (e16 : PySem.W.codeIn K cd16 "law" = true) (k16 : PySem.W.keepIn K (.ref f16) = true)
    (z1 : PySem.W.nsIn K mainGlobals "int" = some none) (z2 : PySem.W.nsIn K mainGlobals "range" = some none) (z3 : PySem.W.nsIn K mainGlobals "abs" = some none) (z4 : PySem.W.nsIn K mainGlobals "sorted" = some none) (z5 : PySem.W.nsIn K mainGlobals "list" = some none) (z6 : PySem.W.nsIn K mainGlobals "len" = some none) (z7 : PySem.W.nsIn K mainGlobals "divmod" = some none) (z8 : PySem.W.nsIn K mainGlobals "str" = some none) (z9 : PySem.W.nsIn K mainGlobals "all" = some none) (z10 : PySem.W.nsIn K mainGlobals "max" = some none) (z11 : PySem.W.nsIn K mainGlobals "min" = some none)
    {y1 : Value}
    (x1 : PySem.W.nsIn K mainGlobals "_FIGURES" = some (some y1)) (w1 : RelV (.str "0123456789") y1)
    : LamX.LawAtS l w K CX0 8 63 "script" mg fa h := by
  have e := hfa.symm.trans (PySem.W.mg_of X G a16)
  cases e
  let cs : Tabs := ⟨c4, p4⟩
  have F1 := fun_mk (st := sNumberOf) l1 e1 k1
  have b1 := F1.binds (ps := ["worth"]) fun _ _ _ _ _ _ us hl => match us, hl with | [_], _ => rfl
  have F2 := fun_mk (st := sNumberOfFigures) l2 e2 k2
  have b2 := F2.binds (ps := ["figures"]) fun _ _ _ _ _ _ us hl => match us, hl with | [_], _ => rfl
  have F3 := fun_mk (st := sNumberText) l3 e3 k3
  have b3 := F3.binds (ps := ["number"]) fun _ _ _ _ _ _ us hl => match us, hl with | [_], _ => rfl
  have F4 := fun_mk (st := sIsNumberText) l4 e4 k4
  have b4 := F4.binds (ps := ["worth"]) fun _ _ _ _ _ _ us hl => match us, hl with | [_], _ => rfl
  have F5 := fun_mk (st := sKeyRank) l5 e5 k5
  have b5 := F5.binds (ps := ["key"]) fun _ _ _ _ _ _ us hl => match us, hl with | [_], _ => rfl
  have F6 := fun_mk (st := sBefore) l6 e6 k6
  have b6 := F6.binds (ps := ["one", "other"]) fun _ _ _ _ _ _ us hl => match us, hl with | [_, _], _ => rfl
  have F7 := fun_mk (st := sInOrder) l7 e7 k7
  have b7 := F7.binds (ps := ["keys"]) fun _ _ _ _ _ _ us hl => match us, hl with | [_], _ => rfl
  have F8 := fun_mk (st := sLawCellAt) l8 e8 k8
  have b8 := F8.binds (ps := ["script", "k"]) fun _ _ _ _ _ _ us hl => match us, hl with | [_, _], _ => rfl
  have F9 := fun_mk (st := sLawBag) l9 e9 k9
  have b9 := F9.binds (ps := ["cell", "nth"]) fun _ _ _ _ _ _ us hl => match us, hl with | [_, _], _ => rfl
  have F10 := fun_mk (st := sLawDraw) l10 e10 k10
  have b10 := F10.binds (ps := ["bag", "many"]) fun _ _ _ _ _ _ us hl => match us, hl with | [_, _], _ => rfl
  have F11 := fun_mk (st := sLawSigns) l11 e11 k11
  have b11 := F11.binds (ps := []) fun _ _ _ _ _ _ us hl => match us, hl with | [], _ => rfl
  have F12 := fun_mk (st := sLawText) l12 e12 k12
  have b12 := F12.binds (ps := ["bag", "most"]) fun _ _ _ _ _ _ us hl => match us, hl with | [_, _], _ => rfl
  have F13 := fun_mk (st := sLawKey) l13 e13 k13
  have b13 := F13.binds (ps := ["bag"]) fun _ _ _ _ _ _ us hl => match us, hl with | [_], _ => rfl
  have F14 := fun_mk (st := sLawMixed) l14 e14 k14
  have b14 := F14.binds (ps := ["bag", "keys"]) fun _ _ _ _ _ _ us hl => match us, hl with | [_, _], _ => rfl
  have F15 := fun_mk (st := sLawThreeRight) l15 e15 k15
  have b15 := F15.binds (ps := ["a", "b", "c"]) fun _ _ _ _ _ _ us hl => match us, hl with | [_, _, _], _ => rfl
  have F16 := fun_mk (st := sLaw) l16 e16 k16
  have b16 := F16.binds (ps := ["script"]) fun _ _ _ _ _ _ us hl => match us, hl with | [_], _ => rfl
  have T : Txt K mg cs := ⟨⟨_, _, F1, PySem.W.mg_of X G a1, b1⟩, ⟨_, _, F2, PySem.W.mg_of X G a2, b2⟩, ⟨_, _, F3, PySem.W.mg_of X G a3, b3⟩, ⟨_, _, _, _, _, _, _, _, _, l4, e4, k4, PySem.W.mg_of X G a4, b4⟩, ⟨_, _, F5, PySem.W.mg_of X G a5, b5⟩, ⟨_, _, F6, PySem.W.mg_of X G a6, b6⟩, ⟨_, _, F7, PySem.W.mg_of X G a7, b7⟩, ⟨_, _, F8, PySem.W.mg_of X G a8, b8⟩, ⟨_, _, F9, PySem.W.mg_of X G a9, b9⟩, ⟨_, _, F10, PySem.W.mg_of X G a10, b10⟩, ⟨_, _, F11, PySem.W.mg_of X G a11, b11⟩, ⟨_, _, F12, PySem.W.mg_of X G a12, b12⟩, ⟨_, _, F13, PySem.W.mg_of X G a13, b13⟩, ⟨_, _, F14, PySem.W.mg_of X G a14, b14⟩, ⟨_, _, F15, PySem.W.mg_of X G a15, b15⟩, ⟨_, _, F16, PySem.W.mg_of X G a16, b16⟩, PySem.W.mg_none_of X G z1, PySem.W.mg_none_of X G z2, PySem.W.mg_none_of X G z3, PySem.W.mg_none_of X G z4, PySem.W.mg_none_of X G z5, PySem.W.mg_none_of X G z6, PySem.W.mg_none_of X G z7, PySem.W.mg_none_of X G z8, PySem.W.mg_none_of X G z9, PySem.W.mg_none_of X G z10, PySem.W.mg_none_of X G z11, ⟨_, PySem.W.mg_of X G x1, w1⟩⟩
  refine ⟨PySem.W.fnOf "law" "law" (defArgs sLaw) (defBody sLaw) (defScope sLaw) .none kV16 dc16 pm16 an16 cd16 ct16, [(c4, p4)], spLaw K cs, ?_, ?_, ?_, fun s v => .of_eq rfl, fun H a ns hl hb hT hS => ⟨a, ns, rfl, hS, hl, ?_, fun _ => rfl⟩, fun base _ _ hB => ?_⟩
  · intro p hp
    simp only [List.mem_cons, List.not_mem_nil, or_false] at hp
    rcases hp with rfl
    · exact OT _ _ r4 (PySem.W.mg_of X G a4) c4 p4 _ _ _ _ _ _ l4 rfl rfl m4 u4
  · intro p hp
    simp only [List.mem_cons, List.not_mem_nil, or_false] at hp
    rcases hp with rfl
    · exact n4
  · intro p hp
    simp only [List.mem_cons, List.not_mem_nil, or_false] at hp
    rcases hp with rfl
    · exact PySem.W.codeHd_of_K X (hdOk_ok m4 o4)
  · exact ⟨trivial, ⟨#[], hT (c4, p4) (by simp), tri0⟩⟩
  · exact ok_law T ⟨trivial, tabB_of (hB (c4, p4) (by simp))⟩ F16
theorem walk {l : PySem.W.OpenLaw} {q : Program} {loose : List Str} {XP : (Str → Option Value) → Heap → Prop} {YP : World → Heap → Prop} {d : DefRec} {K : Params → PySem.W.Frag} (hn : l.most = some 63) (hdf : d.params.defaults = [])
    (hY : ∀ (w : World) (h : Heap), YP w h → (K w.params).In h)
    (F : ∀ (w : World) (mg : Str → Option Value) (fa : Addr) (h : Heap), (K w.params).In h → h.Ns mainGlobals mg → mg d.name = some (.ref fa) → OwnTabs q (K w.params) mg h → LamX.LawAtS l w (K w.params) CX0 8 63 "script" mg fa h) :
    PySem.W.WalkO q loose XP YP l.row.toRowW d [] (fun f vs => PySem.call f vs) :=
  walk_ofAll (n := 63) (k := 8) (x := "script") (CX := fun _ => CX0) hn (by decide) hdf ⟨rfl, by decide, by decide⟩ hY (fun w mg fa h _ KX G hm OT => F w mg fa h KX G hm OT) fun _ _ _ _ _ z => z
end My
open PySem PySem.W PyProof.Rows
set_option maxRecDepth 100000 in
set_option maxHeartbeats 0 in
theorem PySem.Challenge.cw_stemkeep_k05_whole_one_order_holds : PySem.Challenge.rw_stemkeep_k05_whole_one_order.Holds := by
  w_on; o_law; k_head; (case hw => w_witness2)
  k_fill
  refine My.walk (l := PySem.Challenge.rw_stemkeep_k05_whole_one_order) rfl rfl (fun w h Y => PySem.W.kIn_of Y) ?F
  case F =>
    intro w mg fa h KX G hmg OT
    refine' My.all_mk KX G hmg OT ?a1 ?l1 ?e1 ?k1 ?a2 ?l2 ?e2 ?k2 ?a3 ?l3 ?e3 ?k3 ?a4 ?l4 ?e4 ?k4 ?m4 ?u4 ?o4 ?n4 ?r4 ?a5 ?l5 ?e5 ?k5 ?a6 ?l6 ?e6 ?k6 ?a7 ?l7 ?e7 ?k7 ?a8 ?l8 ?e8 ?k8 ?a9 ?l9 ?e9 ?k9 ?a10 ?l10 ?e10 ?k10 ?a11 ?l11 ?e11 ?k11 ?a12 ?l12 ?e12 ?k12 ?a13 ?l13 ?e13 ?k13 ?a14 ?l14 ?e14 ?k14 ?a15 ?l15 ?e15 ?k15 ?a16 ?l16 ?e16 ?k16 ?z1 ?z2 ?z3 ?z4 ?z5 ?z6 ?z7 ?z8 ?z9 ?z10 ?z11 ?x1 ?w1
    (case a1 => k_is)
    (case l1 => k_is)
    (case e1 => k_is)
    (case k1 => k_is)
    (case a2 => k_is)
    (case l2 => k_is)
    (case e2 => k_is)
    (case k2 => k_is)
    (case a3 => k_is)
    (case l3 => k_is)
    (case e3 => k_is)
    (case k3 => k_is)
    (case a4 => k_is)
    (case l4 => k_is)
    (case e4 => k_is)
    (case k4 => k_is)
    (case m4 => k_is)
    (case u4 => rfl)
    (case o4 => rfl)
    (case n4 => first | rfl | decide +kernel)
    (case r4 => decide +kernel)
    (case a5 => k_is)
    (case l5 => k_is)
    (case e5 => k_is)
    (case k5 => k_is)
    (case a6 => k_is)
    (case l6 => k_is)
    (case e6 => k_is)
    (case k6 => k_is)
    (case a7 => k_is)
    (case l7 => k_is)
    (case e7 => k_is)
    (case k7 => k_is)
    (case a8 => k_is)
    (case l8 => k_is)
    (case e8 => k_is)
    (case k8 => k_is)
    (case a9 => k_is)
    (case l9 => k_is)
    (case e9 => k_is)
    (case k9 => k_is)
    (case a10 => k_is)
    (case l10 => k_is)
    (case e10 => k_is)
    (case k10 => k_is)
    (case a11 => k_is)
    (case l11 => k_is)
    (case e11 => k_is)
    (case k11 => k_is)
    (case a12 => k_is)
    (case l12 => k_is)
    (case e12 => k_is)
    (case k12 => k_is)
    (case a13 => k_is)
    (case l13 => k_is)
    (case e13 => k_is)
    (case k13 => k_is)
    (case a14 => k_is)
    (case l14 => k_is)
    (case e14 => k_is)
    (case k14 => k_is)
    (case a15 => k_is)
    (case l15 => k_is)
    (case e15 => k_is)
    (case k15 => k_is)
    (case a16 => k_is)
    (case l16 => k_is)
    (case e16 => k_is)
    (case k16 => k_is)
    (case z1 => k_is)
    (case z2 => k_is)
    (case z3 => k_is)
    (case z4 => k_is)
    (case z5 => k_is)
    (case z6 => k_is)
    (case z7 => k_is)
    (case z8 => k_is)
    (case z9 => k_is)
    (case z10 => k_is)
    (case z11 => k_is)
    (case x1 => k_is)
    (case w1 => first | rfl | exact ⟨_, rfl⟩)
#print axioms PySem.Challenge.cw_stemkeep_k05_whole_one_order_holds
