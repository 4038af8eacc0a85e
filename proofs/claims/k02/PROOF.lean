import PyProof.Rows.All
import Wide.All
import OpenK.AllK
import Wide.FinOn
import HandS.ForMost
import HandS.Wide
import HandS.TupAny
import HandS.EndBits
import HandS.IsInst
import HandS.AnyAll
import HandS.EndTab
import HandS.Style
import HandS.StrMore
import HandS.WideBits
import HandS.Codes
import HandS.GenOver
import HandS.GenList
import HandS.EndOwn
import HandS.TupMul
import HandS.TupLe
import PySem.Challenge.RW_stemkeep_k02_numbers_of_worths
set_option Elab.async false
set_option linter.all false
set_option maxRecDepth 100000
namespace My
/-! ### what every law of these keys leans on: defs by name, powers, the bag, heaps that grow -/
open PySem PySem.Spec L2 TL
/-- a def of the text as its top leaves it -/
structure Ftx (K : PySem.W.Frag) (mg : Str → Option Value) (x : Str) (st : Stmt) (ps : List Str) : Prop where
  ex : ∃ (f : Addr) (fd : FuncData), Fun K x x st f fd ∧ mg x = some (.ref f) ∧ Binds K fd ps []
/-- a def that keeps a promise, called by its name -/
structure Cal (P : Program) (w : World) (K : PySem.W.Frag) (mg : Str → Option Value) (base : Heap) (k : Nat) (x : Str) (ps : List Str) (sp : Sp) : Prop where
  ex : ∃ (f : Addr) (fd : FuncData), FnOk P w K mg base CX0 k f fd ps sp ∧ PySem.W.keepIn K (.ref f) = true ∧ mg x = some (.ref f) ∧ Binds K fd ps [] ∧ ∃ (oc : Value) (od : Option Addr) (osl : Array (Option Value)), K.lookup f = some ⟨oc, od, .func fd, osl⟩
section
variable {P : Program} {w : World} {K : PySem.W.Frag} {mg : Str → Option Value} {base : Heap}
theorem Ftx.cal {x : Str} {st : Stmt} {N ps : List Str} {sp : Sp} {k : Nat} (F : Ftx K mg x st ps) (S : FnScope N ps (defScope st)) (len : ∀ vs H Q E, sp vs H Q E → vs.length = ps.length)
    (h : ∀ (f : Addr) (cdv : Value) (A : Around) (outer : List Env) (s : Shared) (H : Hp) (vs : List V) (Q : VK) (E : XK), Room k (A.deeper (PyProof.Rows.envOfC x (defScope st) s.heap.objs.size f cdv)) → sp vs H Q E →
      ∃ t, PSs (cxOf CX0 P w K mg base N x (defScope st) f cdv A outer s H E).nox (defBody st) t ∧ t { nx := fun _ H' => Q .non H', rt := Q } (start N vs) H) : Cal P w K mg base (k + 1) x ps sp := by
  obtain ⟨f, fd, F1, g, b⟩ := F.ex
  have F2 := F1.ok S len (h f)
  obtain ⟨oc, od, kV, doc, pm, an, cdv, ct, osl, e, lk, hcd⟩ := F1.ex
  exact ⟨f, fd, F2, F1.kp, g, b, oc, od, osl, lk⟩
theorem Cal.mono {j k : Nat} {x : Str} {ps : List Str} {sp : Sp} (C : Cal P w K mg base j x ps sp) (h : j ≤ k) : Cal P w K mg base k x ps sp := by
  obtain ⟨f, fd, F, a, b, c⟩ := C.ex
  exact ⟨f, fd, F.mono h, a, b, c⟩
end
section
variable {X : Cx}
theorem pe_cal {k : Nat} {x : Str} {ps : List Str} {sp : Sp} {e : Expr} {es : List Expr} {p pos : Pos} {t : TA} (C : Cal X.prog X.w X.K X.mg X.base k x ps sp) (hr : Room k X.A) (ha : PA X (e :: es) t) (hg : Gl X x := by rfl)
    (hdb : (x == ("__debug__" : Str)) = false := by decide) (he : starEach (e :: es) X.env = (false, eval e X.env) :: starEach es X.env := by rfl) (hpl : (backTo pos (starEach es X.env)).any (·.1) = false := by rfl) :
    PE X (.Call (.Name x p) (e :: es) [] pos) (tCall sp [] E0 t) := by
  obtain ⟨f, fd, F, a, b, c, _⟩ := C.ex
  exact pe_call F hr hg b a c .nil pass0 ha hdb he hpl
theorem pe_cal0 {k : Nat} {x : Str} {ps : List Str} {sp : Sp} {p pos : Pos} (C : Cal X.prog X.w X.K X.mg X.base k x ps sp) (hr : Room k X.A) (hg : Gl X x := by rfl)
    (hdb : (x == ("__debug__" : Str)) = false := by decide) : PE X (.Call (.Name x p) [] [] pos) (tCall sp [] E0 tNil) := by
  obtain ⟨f, fd, F, a, b, c, _⟩ := C.ex
  exact pe_call0 F hr hg b a c .nil pass0 hdb
/-- ** of an exponent up to 64 and a base below 2 ^ 10000 -/
def CPowW (i j : Int) : Prop := 0 ≤ j ∧ j ≤ 64 ∧ i.natAbs.log2 < 10000
theorem op_powW : OpR X (binaryOp .Pow) (rI CPowW fun i j => .int (i ^ j.toNat)) := opI fun i j _ _ _ _ _ hc q => by
  obtain ⟨h1, h2, h3⟩ := hc
  refine PyProof.Rows.pow_int h1 ?_ q
  have b : Builtin.Int.intBits i ≤ i.natAbs.log2 + 1 := by
    unfold Builtin.Int.intBits
    split <;> omega
  have h : (Builtin.Int.intBits i : Int) * j ≤ 10000 * j := Int.mul_le_mul_of_nonneg_right (by omega) h1
  omega
/-- a text some times -/
def rRepS : R2 := fun x y H Q => ∃ z i, x = .str z ∧ y = .int i ∧ PySem.MulOk z i ∧ Q (.str (Txt.mul z i)) H
theorem op_strRep : OpR X (binaryOp .Mult) rRepS := by
  intro pins s σ H x y v u Q I rx ry h
  obtain ⟨z, i, rfl, rfl, ok, q⟩ := h
  obtain ⟨t, rfl⟩ := rx
  obtain ⟨t', rfl⟩ := ry
  exact PySem.SB.mul ok fun t' k => ⟨.str _, H, I.tok _, ⟨t', rfl⟩, q⟩
end
theorem mul_ok {z : Str} {i : Int} (h0 : 0 ≤ i) (h1 : i ≤ 1000) (h2 : z.length ≤ 1000) : PySem.MulOk z i := by
  refine ⟨?_, fun a _ => ?_, fun a _ => ?_⟩
  · rw [decide_eq_false (by omega), decide_eq_false (by omega)]
    rfl
  · intro c
    have : (2 ^ 63 - 1 : Int) / 1000 ≤ (2 ^ 63 - 1) / i := by
      refine Int.le_ediv_of_mul_le (by omega) ?_
      have : (2 ^ 63 - 1 : Int) / 1000 * i ≤ (2 ^ 63 - 1 : Int) / 1000 * 1000 := Int.mul_le_mul_of_nonneg_left h1 (by decide)
      exact Int.le_trans this (by decide)
    have e : (2 ^ 63 - 1 : Int) / 1000 = 9223372036854775 := by decide
    omega
  · have : z.length * i.toNat ≤ 1000 * 1000 := Nat.mul_le_mul h2 (by omega)
    generalize z.length * i.toNat = n at this
    show decide (n > sizeLine) = false
    exact decide_eq_false (Nat.not_lt.mpr (Nat.le_trans this (by decide)))
theorem tl_mul (z : Str) (n : Nat) : tl (Txt.mul z (n : Int)) = (List.replicate n (tl z)).flatten := by
  unfold Txt.mul
  split
  · have : n = 0 := by omega
    subst this
    rfl
  · split
    · rename_i h
      rw [Bool.or_eq_true, beq_iff_eq, beq_iff_eq] at h
      rcases h with h | h
      · have : n = 1 := by omega
        subst this
        simp
      · have e : tl z = [] := (len0_tl z).mp h
        rw [e]
        simp
    · have key : ∀ (l : List (Array Nat)) (a : Array Nat), (l.foldl (· ++ ·) a).toList = a.toList ++ (l.map Array.toList).flatten := by
        intro l
        induction l with
        | nil => intro a; simp
        | cons x r ih => intro a; rw [List.foldl_cons, ih]; simp
      show ((List.replicate n z.cps).foldl (· ++ ·) #[]).toList = _
      rw [key, List.map_replicate]
      rfl
theorem pow_ok {i : Int} {n : Nat} (h : i.natAbs < 2 ^ n) (hn : 0 < n) (h2 : n ≤ 10000) : i.natAbs.log2 < 10000 := Nat.lt_of_lt_of_le (PySem.Flt.log2_lt_of hn h) h2
theorem small {n : Nat} (h : n ≤ 100000) : n ≤ sizeLine := Nat.le_trans h (by decide)
theorem small' {n : Nat} (h : n < 100000) : n < sizeLine := Nat.lt_of_lt_of_le h (by decide)

/-! ### heaps that grow: all stays but the tables of code objects, which grow -/
def notTbl : HO → Bool
  | .tbl _ => false
  | _ => true
class NT (o : HO) : Prop where
  is : notTbl o = true
instance nt1 {xs : List V} : NT (.lst xs) := ⟨rfl⟩
instance nt2 {xs : List V} : NT (.tup xs) := ⟨rfl⟩
instance nt3 {C dx : Addr} {fs : List (Str × V)} : NT (.ins C dx fs) := ⟨rfl⟩
instance nt4 {kvs : List (Key × V)} : NT (.dK kvs) := ⟨rfl⟩
instance nt5 {o : Obj} {u : HO} : NT (.frz o u) := ⟨rfl⟩
instance nt6 {x : Addr} : NT (.own x) := ⟨rfl⟩
instance nt7 {φ : Heap → Prop} : NT (.ext φ) := ⟨rfl⟩
structure Sm (H H' : Hp) : Prop where
  keep0 : ∀ (a : Addr) (o : HO), H a = some o → notTbl o = true → H' a = some o
  tab : ∀ P, GxR.TabG H P → GxR.TabG H' P
  gone : ∀ a, H' a = none → H a = none
theorem Sm.keep {H H' : Hp} (s : Sm H H') (a : Addr) (o : HO) (h : H a = some o) (nt : notTbl o = true := by rfl) : H' a = some o := s.keep0 a o h nt
theorem Sm.fn {H H' : Hp} (s : Sm H H') (a : Addr) (o : HO) [n : NT o] (h : H a = some o) : H' a = some o := s.keep0 a o h n.is
instance smFn {H H' : Hp} : CoeFun (Sm H H') (fun _ => ∀ (a : Addr) (o : HO) [NT o], H a = some o → H' a = some o) := ⟨fun s => @Sm.fn H H' s⟩
theorem Sm.refl (H : Hp) : Sm H H := ⟨fun _ _ h _ => h, fun _ h => h, fun _ h => h⟩
theorem Sm.trans {H H1 H2 : Hp} (a : Sm H H1) (b : Sm H1 H2) : Sm H H2 := ⟨fun c o h n => b.keep c o (a.keep c o h n) n, fun P h => b.tab P (a.tab P h), fun c h => a.gone c (b.gone c h)⟩
theorem Sm.free {H H' : Hp} (e : Sm H H') {l : Addr} (h : H' l = none) : H l = none := e.gone l h
theorem Sm.seq {K : PySem.W.Frag} {H H' : Hp} {a : Addr} {xs : List V} (e : Sm H H') (h : SqL K H a xs) : SqL K H' a xs := by
  rcases h with (h | ⟨o, h⟩) | h
  · exact .inl (.inl (e _ _ h))
  · exact .inl (.inr ⟨o, e _ _ h⟩)
  · exact .inr h
/-- a table stands apart from what is written -/
theorem TabG.upd {H : Hp} {P p : Addr} {o : HO} (h : GxR.TabG H P) (hp : ∀ qs, H p ≠ some (.tbl qs)) : GxR.TabG (upd H p o) P := by
  obtain ⟨ps, h1, h2⟩ := h
  have ne : P ≠ p := fun e => by
    rw [e] at h1
    exact hp ps h1
  exact ⟨ps, by rw [upd_ne ne]; exact h1, h2⟩
theorem Sm.new {H : Hp} {p : Addr} {o : HO} (h : H p = none) : Sm H (upd H p o) := ⟨fun a u e _ => by
  rw [upd_ne (ne_of_none e h)]
  exact e, fun P t => TabG.upd t (fun qs z => by rw [h] at z; cases z), fun a ha => by
  by_cases e : a = p
  · rw [e]
    exact h
  · rw [upd_ne e] at ha
    exact ha⟩
theorem Sm.over {H H' : Hp} {p : Addr} {o : HO} (S : Sm H H') (h : H p = none) (ht : ∀ qs, H' p ≠ some (.tbl qs)) : Sm H (upd H' p o) := by
  refine ⟨fun b u e n => ?_, fun P t => TabG.upd (S.tab P t) ht, fun b e => ?_⟩
  · rw [upd_ne (ne_of_none e h)]
    exact S.keep b u e n
  · by_cases z : b = p
    · rw [z]; exact h
    · rw [upd_ne z] at e
      exact S.gone b e
/-- a table grew -/
theorem Sm.tabbed {H H' : Hp} {P : Addr} (t : GxR.TabG H P) (h : GxR.Tabbed P H H') : Sm H H' := by
  obtain ⟨ps, h1, h2⟩ := t
  refine ⟨fun a o e n => ?_, fun Q q => ?_, fun a e => ?_⟩
  · have ne : a ≠ P := fun z => by
      rw [z, h1] at e
      rw [← Option.some.inj e] at n
      cases n
    rw [h.2 a ne]
    exact e
  · by_cases e : Q = P
    · rw [e]
      exact h.1
    · obtain ⟨qs, q1, q2⟩ := q
      exact ⟨qs, by rw [h.2 Q e]; exact q1, q2⟩
  · by_cases z : a = P
    · obtain ⟨qs, q1, _⟩ := h.1
      rw [z, q1] at e
      cases e
    · rw [h.2 a z] at e
      exact e
/-! ### the bag, and heaps in which it alone was turned -/
def LIM : Nat := 1000000000
/-- the bag at b: how many draws were mixed is at most m -/
def Bag (H : Hp) (b : Addr) (m : Nat) : Prop := ∃ x y z : Int, H b = some (.lst [.int x, .int y, .int z]) ∧ 0 ≤ y ∧ y < 2 ^ 200 ∧ 0 ≤ z ∧ z ≤ m
structure Go (b : Addr) (n : Nat) (H H' : Hp) : Prop where
  keep0 : ∀ (a : Addr) (o : HO), a ≠ b → H a = some o → notTbl o = true → H' a = some o
  bag : ∀ m, Bag H b m → Bag H' b (m + n)
  tab : ∀ P, GxR.TabG H P → GxR.TabG H' P
  gone : ∀ a, H' a = none → H a = none
theorem Go.keep {b : Addr} {n : Nat} {H H' : Hp} (G : Go b n H H') (a : Addr) (o : HO) (ne : a ≠ b) (h : H a = some o) (nt : notTbl o = true := by rfl) : H' a = some o := G.keep0 a o ne h nt
theorem Bag.mono {H : Hp} {b : Addr} {m n : Nat} (h : Bag H b m) (l : m ≤ n) : Bag H b n := by
  obtain ⟨x, y, z, h1, h2, h3, h4, h5⟩ := h
  exact ⟨x, y, z, h1, h2, h3, h4, by omega⟩
theorem Bag.some {H : Hp} {b : Addr} {m : Nat} (h : Bag H b m) : ∃ xs, H b = some (.lst xs) := by
  obtain ⟨x, y, z, h1, _⟩ := h
  exact ⟨_, h1⟩
theorem Go.refl (b : Addr) (H : Hp) : Go b 0 H H := ⟨fun _ _ _ h _ => h, fun _ h => h, fun _ h => h, fun _ h => h⟩
theorem Go.trans {b : Addr} {n m : Nat} {H H1 H2 : Hp} (x : Go b n H H1) (y : Go b m H1 H2) : Go b (n + m) H H2 :=
  ⟨fun a o e h n => y.keep a o e (x.keep a o e h n) n, fun k h => by
    have z := y.bag _ (x.bag k h)
    exact z.mono (by omega), fun P h => y.tab P (x.tab P h), fun a h => x.gone a (y.gone a h)⟩
theorem Go.mono {b : Addr} {n m : Nat} {H H' : Hp} (x : Go b n H H') (l : n ≤ m) : Go b m H H' := ⟨x.keep0, fun k h => (x.bag k h).mono (by omega), x.tab, x.gone⟩
theorem Go.same {b : Addr} {H H' : Hp} (s : Sm H H') : Go b 0 H H' := ⟨fun a o _ h n => s.keep a o h n, fun m h => by
  obtain ⟨x, y, z, h1, h2⟩ := h
  exact ⟨x, y, z, s _ _ h1, h2⟩, s.tab, s.gone⟩
theorem Go.new {b : Addr} {H : Hp} {p : Addr} {o : HO} (h : H p = none) : Go b 0 H (upd H p o) := Go.same (Sm.new h)
/-- a thing that is no list stands apart from the bag -/
theorem Go.at {b : Addr} {n m : Nat} {H H' : Hp} (G : Go b n H H') (B : Bag H b m) {a : Addr} {o : HO} (h : H a = some o) (no : ∀ xs, o ≠ .lst xs) (nt : notTbl o = true := by rfl) : H' a = some o := by
  refine G.keep a o (fun e => ?_) h nt
  obtain ⟨xs, hx⟩ := B.some
  rw [e, hx] at h
  exact no xs (Option.some.inj h).symm
theorem Go.seqT {K : PySem.W.Frag} {b : Addr} {n m : Nat} {H H' : Hp} (G : Go b n H H') (B : Bag H b m) {a : Addr} {xs : List V} (h : SqT K H a xs) : SqT K H' a xs := by
  rcases h with (h | ⟨o, h⟩) | h
  · exact .inl (.inl (G.at B h fun _ z => by cases z))
  · exact .inl (.inr ⟨o, G.at B h fun _ z => by cases z⟩)
  · exact .inr h
theorem Go.frz {b : Addr} {n m : Nat} {H H' : Hp} (G : Go b n H H') (B : Bag H b m) {a : Addr} {ob : Obj} {u : HO} (h : H a = some (.frz ob u)) : H' a = some (.frz ob u) := G.at B h fun _ z => by cases z
theorem Sm.seqT {K : PySem.W.Frag} {H H' : Hp} (e : Sm H H') {a : Addr} {xs : List V} (h : SqT K H a xs) : SqT K H' a xs := by
  rcases h with (h | ⟨o, h⟩) | h
  · exact .inl (.inl (e _ _ h))
  · exact .inl (.inr ⟨o, e _ _ h⟩)
  · exact .inr h
/-- what was free behind is free ahead -/
theorem Go.free {b : Addr} {n m : Nat} {H H' : Hp} (G : Go b n H H') (B : Bag H b m) {p : Addr} (h : H' p = none) : H p = none := G.gone p h
theorem Bag.ne {H : Hp} {b p : Addr} {m : Nat} (B : Bag H b m) (h : H p = none) : p ≠ b := fun e => by
  obtain ⟨xs, hx⟩ := B.some
  rw [← e, h] at hx
  cases hx
/-- a new list's own address may be written: the rest goes on -/
theorem Go.own {b : Addr} {n m : Nat} {H H' : Hp} {p : Addr} {o : HO} (G : Go b n H H') (B : Bag H b m) (h : H p = none) (hp' : ∀ qs, H' p ≠ some (.tbl qs)) : Go b n H (upd H' p o) := by
  have hp := B.ne h
  refine ⟨fun a u e ha nt => ?_, fun k hk => ?_, fun P t => TabG.upd (G.tab P t) hp', fun a ha => ?_⟩
  · rw [upd_ne (ne_of_none ha h)]
    exact G.keep a u e ha nt
  · obtain ⟨x, y, z, h1, h2⟩ := G.bag k hk
    exact ⟨x, y, z, by rw [upd_ne (Ne.symm hp)]; exact h1, h2⟩
  · by_cases e : a = p
    · rw [e]
      exact h
    · rw [upd_ne e] at ha
      exact G.gone a ha
theorem no_tbl {H : Hp} {p : Addr} {xs : List V} (h : H p = some (.lst xs)) : ∀ qs, H p ≠ some (.tbl qs) := fun qs z => by
  rw [h] at z
  cases z
/-! ### the rules over K alone (within a comprehension's block the context's own K is the same) -/
section
variable {X : Cx} (K : PySem.W.Frag)
theorem ixL (h : X.K = K := by rfl) : IxR X (rIxL K) := h ▸ ix_list
theorem ixT (h : X.K = K := by rfl) : IxR X (rIxT K) := h ▸ ix_tup
theorem eqD (hu : X.A.units + 64 < cLine) (h : X.K = K := by rfl) : OpR X (compareOp .Eq) (rEqD K) := h ▸ op_eqD hu
theorem neD (hu : X.A.units + 64 < cLine) (h : X.K = K := by rfl) : OpR X (compareOp .NotEq) (rNeD K) := h ▸ op_neD hu
def rLenQ (K : PySem.W.Frag) : List V → Hp → VK → Prop := fun xs H Q => ∃ p ys, xs = [.ref p] ∧ (SqL K H p ys ∨ SqT K H p ys) ∧ Q (.int ys.length) H
theorem lenQ (h : X.K = K := by rfl) : CallR X (.builtin "len") (rLenQ K) := h ▸ call_len_seq
def rLenT1 : List V → Hp → VK → Prop := fun xs H Q => ∃ z, xs = [.str z] ∧ z.length ≤ sizeLine ∧ Q (.int z.length) H
theorem lenT : CallR X (.builtin "len") rLenT1 := call_len_str
theorem slL (h : X.K = K := by rfl) : SlR X (rSlL K) := h ▸ sl_list
theorem slT (h : X.K = K := by rfl) : SlR X (rSlA K) := h ▸ sl_tupA
theorem catA (h : X.K = K := by rfl) : OpR X (binaryOp .Add) (rCatA K) := h ▸ op_catA
theorem inQ (h : X.K = K := by rfl) : OpR X (compareOp .In) (rIn K false) := h ▸ op_in_seq
theorem ninQ (h : X.K = K := by rfl) : OpR X (compareOp .NotIn) (rIn K true) := h ▸ op_notIn_seq
def rListOf (K : PySem.W.Frag) : List V → Hp → VK → Prop := fun xs H Q => ∃ p ys, xs = [.ref p] ∧ (SqL K H p ys ∨ SqT K H p ys) ∧ ∀ l, H l = none → Q (.ref l) (upd H l (.lst ys))
theorem listOf (h : X.K = K := by rfl) : CallR X (.type "list") (rListOf K) := h ▸ call_list_of
def rTupOf (K : PySem.W.Frag) : List V → Hp → VK → Prop := fun xs H Q => ∃ p ys, xs = [.ref p] ∧ ((SqL K H p ys ∧ ∀ l, H l = none → Q (.ref l) (upd H l (.tup ys))) ∨ (SqT K H p ys ∧ Q (.ref p) H))
theorem tupOf (h : X.K = K := by rfl) : CallR X (.type "tuple") (rTupOf K) := h ▸ call_tuple_of
theorem isI (h : X.K = K := by rfl) : CallR X (.builtin "isinstance") (rIsi K) := h ▸ call_isi
end
/-! ### defs whose code object is known; the end of a law with tables -/
structure Ftc (K : PySem.W.Frag) (mg : Str → Option Value) (x : Str) (st : Stmt) (ps : List Str) (c : Addr) : Prop where
  ex : ∃ (f : Addr) (oc : Value) (od : Option Addr) (kV doc pm : Value) (an : Option Addr) (ct : Value) (osl : Array (Option Value)),
    K.lookup f = some ⟨oc, od, .func (PySem.W.fnOf x x (defArgs st) (defBody st) (defScope st) .none kV doc pm an (.ref c) ct), osl⟩ ∧ PySem.W.codeIn K (.ref c) x = true ∧ PySem.W.keepIn K (.ref f) = true ∧ mg x = some (.ref f) ∧ Binds K (PySem.W.fnOf x x (defArgs st) (defBody st) (defScope st) .none kV doc pm an (.ref c) ct) ps []
section
variable {P : Program} {w : World} {K : PySem.W.Frag} {mg : Str → Option Value} {base : Heap}
theorem Ftc.cal {x : Str} {st : Stmt} {N ps : List Str} {c : Addr} {sp : Sp} {k : Nat} (F : Ftc K mg x st ps c) (S : FnScope N ps (defScope st)) (len : ∀ vs H Q E, sp vs H Q E → vs.length = ps.length)
    (h : ∀ (f : Addr) (A : Around) (outer : List Env) (s : Shared) (H : Hp) (vs : List V) (Q : VK) (E : XK), Room k (A.deeper (PyProof.Rows.envOfC x (defScope st) s.heap.objs.size f (.ref c))) → sp vs H Q E →
      ∃ t, PSs (cxOf CX0 P w K mg base N x (defScope st) f (.ref c) A outer s H E).nox (defBody st) t ∧ t { nx := fun _ H' => Q .non H', rt := Q } (start N vs) H) : Cal P w K mg base (k + 1) x ps sp := by
  obtain ⟨f, oc, od, kV, doc, pm, an, ct, osl, lk, hcd, kp, g, b⟩ := F.ex
  refine ⟨f, _, fn_of lk hcd S len (fun A outer s H vs Q E hr hsp => ?_), kp, g, b, oc, od, osl, lk⟩
  obtain ⟨t, h1, q⟩ := h f A outer s H vs Q E hr hsp
  exact ⟨t, h1.nox, q⟩
end
def hdOk (vs : Array Value) (c P : Addr) : Bool := (match (vs[11]? : Option Value) with | some (.ref P') => P' == P | _ => false) &&
  (match vs.getD 18 .none with | .str _ _ => true | _ => false) && (match vs.getD 7 .none with | .int _ _ => true | _ => false) &&
  (match vs.getD 9 .none with | .bool _ => true | _ => false) && (match vs.getD 10 .none with | .int _ _ => true | _ => false) && c != P
theorem hdOk_ok {K : PySem.W.Frag} {c P : Addr} {vs : Array Value} {dd : Option Addr} {sl : Array (Option Value)} (h : K.lookup c = some ⟨.type "code", dd, .fields vs, sl⟩) (o : hdOk vs c P = true) : PySem.W.codeHdIn K c P = true := by
  unfold PySem.W.codeHdIn
  rw [h]
  exact o
theorem tri0 : TriplesOk (#[] : Array Value).toList := by
  first
    | trivial
    | exact .nil
    | simp [TriplesOk]
    | decide
def OwnTabs (q : Program) (K : PySem.W.Frag) (mg : Str → Option Value) (h : Heap) : Prop := ∀ (x : Str) (f : Addr), ((PyProof.Rows.recsOf q).any fun e => e.name == x) = true → mg x = some (.ref f) → LamX.OwnTab K f h
theorem walk_ofAll {l : PySem.W.OpenLaw} {n k : Nat} {q : Program} {loose : List Str} {XP : (Str → Option Value) → Heap → Prop} {YP : World → Heap → Prop} {d : DefRec} {K : Params → PySem.W.Frag} {CX : World → CXT} {x : Str}
    (hn : l.most = some n) (hn2 : n ≤ sizeLine) (hdf : d.params.defaults = []) (hr : Room k callerA) (hY : ∀ (w : World) (h : Heap), YP w h → (K w.params).In h)
    (F : ∀ (w : World) (mg : Str → Option Value) (fa : Addr) (h : Heap), YP w h → (K w.params).In h → h.Ns mainGlobals mg → mg d.name = some (.ref fa) → OwnTabs q (K w.params) mg h → LamX.LawAtS l w (K w.params) (CX w) k n x mg fa h)
    (hCX : ∀ (w : World) (H : Hp) (s : Shared) (e : Value) (s' : Shared), CX w [] H s (fun _ _ _ => False) e s' → False) :
    PySem.W.WalkO q loose XP YP l.row.toRowW d [] (fun f vs => PySem.call f vs) := by
  refine Att.attach_callB hn hdf fun w s₀ s₁ mg mb fa o pm cd doc a vs ns G Y ho hd hcd hmg hobj hints hlen hbits hg => ?_
  have KX := hY w _ Y
  have own : OwnTabs q (K w.params) mg s₁.heap := fun x f hrec hx c P o1 fd1 e dd vs1 sl k1 k2 k3 k4 k5 => by
    obtain ⟨dL, hm, hn1⟩ := List.any_eq_true.mp hrec
    have hn2 : dL.name = x := beq_iff_eq.mp hn1
    obtain ⟨a', o', fd', c', P', h1, h2, h3, h4, h5, h6⟩ := G.T.tab dL hm
    rw [hn2, hx] at h1
    cases h1
    have g1 := KX _ _ k1
    rw [g1] at h2
    cases h2
    rw [k2] at h3
    cases h3
    rw [k3] at h4
    cases h4
    obtain ⟨⟨oc, vc, e1, _, e3, e4⟩, hP⟩ := h6
    have g2 := KX _ _ k4
    rw [g2] at e1
    cases e1
    cases e3
    rw [k5] at e4
    cases e4
    exact hP
  obtain ⟨fd, cs, sp, hT, nT, C, hb, hsp, hF⟩ := F w mg fa _ Y KX G.T.g hmg own
  exact LamX.law_callTs KX G.T.g G.T.b G.T.builtins G.T.nolimit hg hT nT C G.T.bmain hobj hints (Nat.le_trans hlen hn2) hr hF hb (fun H hH hS => hsp H a ns hlen hbits hH hS) fun H e s' => hCX w H s₁ e s'
/-! ### all(e for x in it): the generator expression's own frame, its elements by rules (they may call) -/
namespace GA
open PySem PySem.Spec PyProof.Rows L2 GenW
/-- the context of a generator expression's frame: s, H: as it began; pn: the generator itself -/
abbrev genX (X : Cx) (A' : Around) (s : Shared) (H : Hp) (cenv : Env) (fp : List Addr) (pn : List (Addr × Obj)) : Cx :=
  { X with A := A', s_0 := s, H_0 := H, env := cenv, outer := X.stack, stack := cenv :: X.stack, ex := fp, fn := fun _ => false, pn := pn, xe := fun _ _ => False }
abbrev genE (X : Cx) (scope : Scope) (C : Addr) (code : Value) : Env := genEnv scope (cloFrom X.env.cells scope.names []) C code builtinsNs X.env
section
variable {X : Cx} {pins : List (Addr × Obj)} {σ : L2.St} {H : Hp} {s : Shared}
theorem gen_start {scope : Scope} {own : List (Str × Nat)} {fp : List Addr} {A' : Around} {code : Value} {gs : GenState} {a : Addr} {gobj : Obj} {h5 : Heap} {tk : Nat} (I : Inv X pins σ H s) (ok : BlkOk X.N X.env.scope scope own) (hN : X.N.Nodup) (hfp : ∀ b ∈ fp, FpOk X pins H b ∧ b < s.heap.objs.size)
    (hcell : ∀ y ∈ scope.names, y.2 ≠ .cell) (hA : A'.handled = none) (hfr : A'.frames = some (genE X scope s.heap.objs.size code :: X.stack)) (hgs : gs.bare = true) (hsz : s.heap.objs.size < a) (ha : h5.get? a = some gobj) (hgo : ∀ v, gobj.data ≠ .cell v)
    (kp : ∀ b o, s.heap.get? b = some o → h5.get? b = some o) (hns : ∃ m, h5.Ns s.heap.objs.size m) :
    Inv (genX X A' s H (genE X scope s.heap.objs.size code) fp [(a, gobj)]) [] (wipe σ (own.map (·.2))) H { s with gens := s.gens.push gs, toks := tk, heap := h5 } := by
  have hfree : ∀ y ∈ scope.names, y.2 = .free → ∃ c, X.env.cells.lookup y.1 = some c := fun y hy e => by
    rcases ok.free y hy e with k | k
    · exact I.ok.has _ (.inl k)
    · exact I.ok.has _ (.inr k)
  generalize hcenv : genE X scope s.heap.objs.size code = cenv at hfr ⊢
  have hL : cenv.locals = s.heap.objs.size := by rw [← hcenv]; rfl
  have hcl : cenv.cells = cloFrom X.env.cells scope.names [] := by rw [← hcenv]; rfl
  have hsc : cenv.scope = scope := by rw [← hcenv]; rfl
  have cm : ∀ {y c}, (y, c) ∈ cloFrom X.env.cells scope.names [] → X.env.cells.lookup y = some c ∧ c < s.heap.objs.size := fun {y c} hm => by
    rcases cloFrom_mem hm with hm | ⟨h1, rfl⟩
    · cases hm
    · obtain ⟨c, hc⟩ := hfree _ h1 rfl
      rw [hc]
      obtain ⟨w, z⟩ := I.cell _ _ hc
      exact ⟨rfl, z.lt⟩
  have mem : ∀ {y c}, cenv.cells.lookup y = some c → X.env.cells.lookup y = some c ∧ c < s.heap.objs.size := fun {y c} e => by
    rw [hcl] at e
    exact cm (PySem.mem_of_lookup e)
  have look : ∀ {y}, scope.names.lookup y = some .free → ∃ c, cenv.cells.lookup y = some c ∧ X.env.cells.lookup y = some c := fun {y} hl => by
    have hy : (y, NameKind.free) ∈ scope.names := PySem.mem_of_lookup hl
    obtain ⟨c', e'⟩ := mem_lookup (cloFrom_has (cells := X.env.cells) (acc := []) hy)
    rw [← hcl] at e'
    exact ⟨c', e', (mem e').1⟩
  have okB : (genX X A' s H cenv fp [(a, gobj)]).Ok := by
    refine ⟨I.ok.mod, by show cenv.scope.kind = _; rw [hsc]; exact ok.kind, by show cenv.globals = _; rw [← hcenv]; exact I.ok.glob, by show cenv.builtins = _; rw [← hcenv]; rfl, by show s.heap.objs.size ≤ cenv.locals; rw [hL]; exact Nat.le_refl _,
      fun y z c e1 e2 => ?_, fun y hy => ?_, fun y c z e => (by cases z), fun _ => hA, hfr, .inr ⟨rfl, ?_⟩, fun b hb => ⟨?_, fun y c e z => ?_⟩, I.bs, Nat.le_trans I.ok.bsz I.sz, fun b o e hb => ?_, fun b hb z => ?_, I.stack, I.stkFree⟩
    · exact I.ok.inj y z c (mem (show cenv.cells.lookup y = some c from e1)).1 (mem (show cenv.cells.lookup z = some c from e2)).1
    · show ∃ c, cenv.cells.lookup y = some c
      have key : cenv.kindOf y = some .free → ∃ c, cenv.cells.lookup y = some c := fun hk => by
        unfold Env.kindOf at hk
        rw [hsc] at hk
        obtain ⟨c, h1, _⟩ := look hk
        exact ⟨c, h1⟩
      rcases hy with hy | hy
      · exfalso
        have hy : cenv.scope.names.lookup y = some .cell := hy
        rw [hsc] at hy
        exact hcell _ (PySem.mem_of_lookup hy) rfl
      · exact key hy
    · show cenv.frame = some cenv.locals
      rw [← hcenv]
      rfl
    · show b ≠ cenv.locals
      rw [hL]; exact Nat.ne_of_lt (hfp b hb).2
    · have e : cenv.cells.lookup y = some c := e
      exact (hfp b hb).1.2.2.2.2.1 y c (mem e).1 z
    · rcases (hfp b hb).1.2.2.2.1 with z | z
      · exact I.ok.noex b o e z
      · exact absurd (Nat.lt_of_lt_of_le (Heap.lt_size e) (Nat.le_trans I.ok.bsz z)) (Nat.lt_irrefl _)
    · rcases List.mem_cons.mp (I.stkSub b z) with z | z
      · exact (hfp b hb).1.2.1 z
      · exact (hfp b hb).1.2.2.1 z
  obtain ⟨mm, hmm⟩ := hns
  refine ⟨okB, rfl, I.bare.push hgs, Un.kept kp, ⟨mm, ?_, fun i y av e1 e2 e3 => ?_⟩, fun y c e => ?_, ?_, fun y c e => ?_, fun p hp => ?_, I.hok.kept kp, by rw [wipe_length]; exact I.len⟩
  · show Heap.Ns _ cenv.locals _
    rw [hL]
    exact hmm
  · obtain ⟨e2, hne⟩ := wipe_some e2
    have hfr : scope.names.lookup y = some .free := by
      have key : ∀ k, scope.names.lookup y = some k → k = .local ∨ k = .cell ∨ k = .free → scope.names.lookup y = some .free := fun k hk hk' => by
        have no : ¬ (k = .local ∨ k = .cell) := fun hh => by
          rcases ok.own _ (PySem.mem_of_lookup hk) hh with e' | e'
          · obtain ⟨p, hp, hpy⟩ := List.mem_map.mp e'
            have e3 := ok.ix p hp
            have : p.1 = y := hpy
            rw [this] at e3
            exact hne (List.mem_map.mpr ⟨p, hp, nodup_ix hN e3 e1⟩)
          · exact e' (List.mem_of_getElem? e1)
        rcases hk' with rfl | rfl | rfl
        · exact absurd (.inl rfl) no
        · exact absurd (.inr rfl) no
        · exact hk
      have e3 : Vis cenv.scope y := e3
      rw [hsc] at e3
      rcases e3 with e3 | e3 | e3
      · exact key _ e3 (.inl rfl)
      · exact key _ e3 (.inr (.inl rfl))
      · exact key _ e3 (.inr (.inr rfl))
    obtain ⟨m, hn, hl⟩ := I.loc
    have hvis : Vis X.env.scope y := (ok.free _ (PySem.mem_of_lookup hfr) rfl).elim (fun k => .inr (.inl k)) (fun k => .inr (.inr k))
    obtain ⟨w, r, q⟩ := hl i y av e1 e2 hvis
    refine ⟨w, r, .inr ⟨.inr ?_, ?_⟩⟩
    · show cenv.kindOf y = some .free
      unfold Env.kindOf
      rw [hsc]
      exact hfr
    · obtain ⟨c, h1, h2⟩ := look hfr
      rcases q with ⟨k, _⟩ | ⟨_, c', e', z⟩
      · have k : X.env.scope.names.lookup y = some .local := k
        rcases ok.free _ (PySem.mem_of_lookup hfr) rfl with k' | k' <;> rw [show X.env.scope.names.lookup y = _ from k'] at k <;> cases k
      · rw [h2] at e'; cases e'
        exact ⟨c, h1, z.keeps kp⟩
  · have e : cenv.cells.lookup y = some c := e
    obtain ⟨w, z⟩ := I.cell y c (mem e).1
    exact ⟨w, z.keeps kp⟩
  · show H cenv.locals = none
    rw [hL]; exact I.hok.fresh (Nat.le_refl _)
  · have e : cenv.cells.lookup y = some c := e
    exact I.freeC y c (mem e).1
  · have hp' : p = (a, gobj) := List.mem_singleton.mp (by simpa using hp)
    subst hp'
    refine ⟨ha, I.hok.fresh (Nat.le_of_lt hsz), ?_, (fun z => by
      rcases List.mem_cons.mp (I.stkSub a z) with z | z
      · have q := I.lt
        rw [← z] at q
        exact absurd (Nat.lt_trans q hsz) (Nat.lt_irrefl _)
      · exact I.nofs (Nat.le_of_lt hsz) z), hgo⟩
    show a ≠ cenv.locals
    rw [hL]
    exact Nat.ne_of_gt hsz
/-- only generators, tokens, draws turned -/
theorem regens {s' : Shared} (I : Inv X pins σ H s) (ho : s'.os = s.os) (hh : s'.heap = s.heap) (hg : AllBare s'.gens) : Inv X pins σ H s' := by
  obtain ⟨h', g', d', t', o'⟩ := s'
  have e : o' = s.os := ho
  have e2 : h' = s.heap := hh
  subst e e2
  exact I.step (g' := g') (t' := t') (d' := d') (ch := []) (fun b hb => absurd hb (by simp)) (fun b o _ _ _ q _ => q) (fun b o _ _ _ q _ => ⟨o.slots, q⟩) (fun _ _ _ _ n => n) (fun b o _ q => ⟨o, q⟩) (fun _ _ q => q) (fun _ _ _ q => q) (fun b ps q => ⟨#[], by rw [q]; simp⟩) (fun m hm => hm) I.hok hg
end
/-! ### the loop of the frame, handing out a truth a turn -/
/-- the end of the frame: all items were walked -/
def Rg (Xg : Cx) (σw : L2.St) (Qt : Hp → Prop) : GenEnd := fun _ _ r s => r = .ok .next ∧ ∃ H', Inv Xg [] σw H' s ∧ Qt H'
/-- a truth is handed out: False ends it, behind True it goes on -/
def Yg (Xg : Cx) (σw : L2.St) (Qf : Hp → Prop) : Protocol := fun _ _ v s kap => ∃ (b : Bool) (H' : Hp) (pins' : List (Addr × Obj)) (σ' : L2.St), v = .bool b ∧ Inv Xg pins' σ' H' s ∧ (b = false → Qf H') ∧
  (b = true → ∀ s', s'.os = s.os → s'.heap = s.heap → AllBare s'.gens → kap (.send .none) s')
/-- the invariant of the turns -/
def TurnsG (J : It) (g : TG) (te : TE) (own : List Nat) (σ : L2.St) (Qt Qf : Hp → Prop) (W : Nat → Nat → Hp → Prop) : Prop := ∀ i m H, W i m H →
  (J.stop i H ∧ Qt H) ∨ (J.go i H ∧ ∃ Nx : Hp → Prop, (∀ H', Nx H' → ∃ m', m' < m ∧ W (i + 1) m' H') ∧ ∀ x H', J.yld i H x H' → g x (wipe σ own) H' fun σ2 H2 => wipe σ2 own = wipe σ own ∧ te σ2 H2 fun y H3 => ∃ b : Bool, y = .bl b ∧ if b = true then Nx H3 else Qf H3)
section
variable {X : Cx} {σ : L2.St} {elt tg iter : Expr} {scope : Scope} {pos : Pos} {it : Addr} {ce : Env} {fp : List Addr} {pn : List (Addr × Obj)} {sB : Shared} {HB : Hp} {Ar : Around} {J : It} {tn : Nat → Heap → Prop} {g : TG} {te : TE} {own : List Nat} {Qt Qf : Hp → Prop} {W : Nat → Nat → Hp → Prop}
theorem seg_allLoop (hc : X.calm = true) (T : Turn X.prog X.w X.K tg J fp it tn) (hW : TurnsG J g te own σ Qt Qf W) (hco : ce.scope.isCoroutine = false) (hpn : ∀ p ∈ pn, p.1 ∉ fp)
    (pg : PG (genX X (Ar.over (.compLoop (.GeneratorExp elt [⟨tg, iter, [], 0⟩] scope pos) 0 (.ref it) .none ce) []) sB HB ce fp pn) tg g) (pe : PE (genX X (Ar.over (.compLoop (.GeneratorExp elt [⟨tg, iter, [], 0⟩] scope pos) 0 (.ref it) .none ce) []) sB HB ce fp pn) elt te) :
    ∀ (k i m : Nat) (s₀ s : Shared) (H : Hp), m < k → W i m H → Inv (genX X (Ar.over (.compLoop (.GeneratorExp elt [⟨tg, iter, [], 0⟩] scope pos) 0 (.ref it) .none ce) []) sB HB ce fp pn) [] (wipe σ own) H s → tn i s.heap → (∀ b ∈ fp, H b = none) →
      Seg (model X.prog X.w) Ar (Rg (genX X (Ar.over (.compLoop (.GeneratorExp elt [⟨tg, iter, [], 0⟩] scope pos) 0 (.ref it) .none ce) []) sB HB ce fp pn) (wipe σ own) Qt) (Yg (genX X (Ar.over (.compLoop (.GeneratorExp elt [⟨tg, iter, [], 0⟩] scope pos) 0 (.ref it) .none ce) []) sB HB ce fp pn) (wipe σ own) Qf) k s₀ (.compLoop (.GeneratorExp elt [⟨tg, iter, [], 0⟩] scope pos) 0 (.ref it) .none ce) ((model X.prog X.w).den (.compLoop (.GeneratorExp elt [⟨tg, iter, [], 0⟩] scope pos) 0 (.ref it) .none ce)) [] s := by
  have stat : ∀ {σ' : L2.St} {H' : Hp} {s' : Shared}, Inv (genX X (Ar.over (.compLoop (.GeneratorExp elt [⟨tg, iter, [], 0⟩] scope pos) 0 (.ref it) .none ce) []) sB HB ce fp pn) [] σ' H' s' → (∀ b ∈ fp, H' b = none) → ∀ b ∈ fp, FpOk (genX X (Ar.over (.compLoop (.GeneratorExp elt [⟨tg, iter, [], 0⟩] scope pos) 0 (.ref it) .none ce) []) sB HB ce fp pn) [] H' b := fun {σ' H' s'} I' hn b hb =>
    ⟨hn b hb, (I'.ok.exf b hb).1, I'.ok.exfs b hb, .inl hb, fun x c e => (I'.ok.exf b hb).2 x c e, fun p hp z => by
      have hp' : p ∈ pn := by simpa using hp
      rw [← z] at hb
      exact hpn p hp' hb⟩
  intro k
  induction k with
  | zero => intro i m s₀ s H hm; omega
  | succ k ih =>
    intro i m s₀ s H hm w I st nf
    show Seg _ Ar _ _ _ s₀ _ ((compTurn (.GeneratorExp elt [⟨tg, iter, [], 0⟩] scope pos) 0 (.ref it) .none ce).onRaise (leaving ce)) [] s
    rw [compTurn_gen, Sem.onRaise_eq_wrap]
    refine seg_bind_wrap (wpAny_standAt ?_)
    rcases hW i m H w with ⟨stop, qt⟩ | ⟨go, Nx, hNx, step⟩
    · refine seg_bind_wrap (wpAny_mono (T.done (genX X (Ar.over (.compLoop (.GeneratorExp elt [⟨tg, iter, [], 0⟩] scope pos) 0 (.ref it) .none ce) []) sB HB ce fp pn) rfl rfl rfl hc i [] s _ H (fun _ _ => False) I (stat I nf) st stop) (fun r s6 ⟨hr, I6⟩ => ?_) fun _ _ e => e.elim)
      subst hr
      exact seg_end (.ok .next) ⟨rfl, H, I6, qt⟩
    · refine seg_bind_wrap (wpAny_mono (T.item (genX X (Ar.over (.compLoop (.GeneratorExp elt [⟨tg, iter, [], 0⟩] scope pos) 0 (.ref it) .none ce) []) sB HB ce fp pn) rfl rfl rfl hc i [] s _ H (fun _ _ => False) I (stat I nf) st go) (fun r s6 ⟨u, hr, h6⟩ => ?_) fun _ _ e => e.elim)
      subst hr
      refine seg_bind_wrap (wpAny_mono h6 (fun _ s7 ⟨x, H7, I7, r7, y7, st7, n7⟩ => ?_) fun _ _ e => e.elim)
      have I7' := I7.pinned (stat I7 n7) (T.obj _ _ st7)
      refine seg_bind_wrap (wpAny_mono (pg.run _ s7 _ H7 x u _ I7' r7 (step x H7 y7)) (fun _ s8 ⟨σ8, H8, I8, hw8, q8⟩ => ?_) fun _ _ e => e.elim)
      refine seg_bind_wrap ?_
      simp only [List.forIn_nil]
      refine wpAny_pure ?_
      simp only [if_true]
      have hy : ∀ v, yieldOut ce v = yieldValue v := fun v => by simp only [yieldOut, hco, Bool.false_eq_true, if_false]
      simp only [hy]
      rw [Sem.bind_eq_wrap', Sem.bind_eq_wrap', Sem.wrap_wrap, Sem.wrap_wrap]
      refine seg_wrap (wpAny_mono (pe.run _ s8 σ8 H8 _ I8 q8) (fun y s9 ⟨yv, H9, I9, r9, b, eb, q9⟩ => ?_) fun _ _ e => e.elim)
      subst eb
      obtain rfl : y = Value.bool b := r9
      refine seg_at (seg_yield rfl rfl rfl ⟨b, H9, _, σ8, rfl, I9, fun e => ?_, fun e s'' ho hh hg => ?_⟩)
      · subst e
        simpa using q9
      · subst e
        simp only [if_true] at q9
        obtain ⟨m', hm', w'⟩ := hNx H9 q9
        have I9' := regens I9 ho hh hg
        have pin' : ∀ b ∈ fp, ∀ o, s7.heap.get? b = some o → s''.heap.get? b = some o ∧ H9 b = none := fun b hb o e =>
          let z := I9'.pin (b, o) (List.mem_append_right _ (List.mem_append_right _ (mem_pinsAt hb e)))
          ⟨z.1, z.2.1⟩
        have hl : (wipe σ own).length = σ8.length := by rw [← hw8, wipe_length]
        refine seg_again rfl (ih (i + 1) m' s'' s'' H9 (by omega) w' ((I9'.unpinned (pins := [])).weak hl (fun j v e => ?_)) (T.keep _ _ _ st7 fun b hb o e => (pin' b hb o e).1) fun b hb => ?_)
        · rw [← hw8] at e
          exact (wipe_some e).1
        · obtain ⟨o, e, _⟩ := T.obj _ _ st7 b hb
          exact (pin' b hb o e).2
theorem seg_allStart (T : Turn X.prog X.w X.K tg J fp it tn) {R : GenEnd} {Y : Protocol} {k : Nat} {s₀ s : Shared} (st : tn 0 s.heap)
    (loop : Seg (model X.prog X.w) Ar R Y k s₀ (.compLoop (.GeneratorExp elt [⟨tg, iter, [], 0⟩] scope pos) 0 (.ref it) .none ce) ((model X.prog X.w).den (.compLoop (.GeneratorExp elt [⟨tg, iter, [], 0⟩] scope pos) 0 (.ref it) .none ce)) [] s) : Seg (model X.prog X.w) Ar R Y k s₀ (.compStart (.GeneratorExp elt [⟨tg, iter, [], 0⟩] scope pos) 0 (.ref it) .none ce) ((model X.prog X.w).den (.compStart (.GeneratorExp elt [⟨tg, iter, [], 0⟩] scope pos) 0 (.ref it) .none ce)) [] s := by
  show Seg _ Ar _ _ _ s₀ _ ((compStart (.GeneratorExp elt [⟨tg, iter, [], 0⟩] scope pos) 0 (.ref it) .none ce).onRaise (leaving ce)) [] s
  unfold compStart
  rw [Sem.onRaise_eq_wrap]
  show Seg _ Ar _ _ _ s₀ _ ((ask >>= _).wrap _ _ _ _) [] s
  refine seg_bind_wrap (wpAny_askSetting ?_)
  split
  · exact seg_again rfl loop
  · first
      | exact seg_bind_wrap (wpAny_rule (seg_bind_wrap (wpAny_standAt (seg_bind_wrap (T.self _ 0 s _ _ st (seg_again rfl loop))))))
      | (refine seg_bind_wrap (wpAny_rule ?_); show Seg _ Ar _ _ _ s₀ _ ((standAt iter.pos >>= _).wrap _ _ _ _) [] s; exact seg_bind_wrap (wpAny_standAt (seg_bind_wrap (T.self _ 0 s _ _ st (seg_again rfl loop)))))
/-- the consumer: all -/
theorem all_loop {A : Around} {R : Result → Shared → Prop} {a : Addr} {gn : Nat} {gobj : Obj} (hh : A.handled = none) (hd : A.depth < recursionLimit) (hpn : pn = [(a, gobj)]) (hgen : ∀ h : Heap, h.get? a = some gobj → h.IsGen a gn)
    (hT : ∀ (s1 : Shared) (H' : Hp), Inv (genX X (A.in1.in1.over (.compLoop (.GeneratorExp elt [⟨tg, iter, [], 0⟩] scope pos) 0 (.ref it) .none ce) []) sB HB ce fp pn) [] (wipe σ own) H' s1 → Qt H' → ∀ h' : Heap, (∀ b o, s1.heap.get? b = some o → h'.get? b = some o) → R (.ok (.ret (.bool true))) { s1.setGen gn .finished with heap := h' })
    (hF : ∀ (s1 : Shared) (H' : Hp) (pins' : List (Addr × Obj)) (σ' : L2.St) (gs' : GenState), gs'.bare = true → Inv (genX X (A.in1.in1.over (.compLoop (.GeneratorExp elt [⟨tg, iter, [], 0⟩] scope pos) 0 (.ref it) .none ce) []) sB HB ce fp pn) pins' σ' H' s1 → Qf H' → R (.ok (.ret (.bool false))) (s1.setGen gn gs')) :
    ∀ (k : Nat) (s : Shared), s.heap.IsGen a gn → s.heap.NoLimit →
      (∃ gs, s.gens[gn]? = some gs ∧ gs.Goes (model X.prog X.w) A.in1.in1 (Rg (genX X (A.in1.in1.over (.compLoop (.GeneratorExp elt [⟨tg, iter, [], 0⟩] scope pos) 0 (.ref it) .none ce) []) sB HB ce fp pn) (wipe σ own) Qt) (Yg (genX X (A.in1.in1.over (.compLoop (.GeneratorExp elt [⟨tg, iter, [], 0⟩] scope pos) 0 (.ref it) .none ce) []) sB HB ce fp pn) (wipe σ own) Qf) k (.send .none) (s.setGen gn .running)) →
      codeAny (model X.prog X.w) A (.builtin "all.loop" ⟨[.ref a], []⟩) R s := by
  intro k
  induction k with
  | zero =>
    intro s hg hl ⟨gs, hgs, hgo⟩
    refine codeAny_builtin F.entry_all_loop ?_
    rw [Around.under_plainId F.plain_all_loop _]
    show wpAny _ A.in1 (pyNext (.ref a) >>= _) _ _ s
    refine wpAny_bind (wpAny_pyNext_genexpQ (A := A.in1) (P := fun _ _ s => ∃ H', Inv (genX X (A.in1.in1.over (.compLoop (.GeneratorExp elt [⟨tg, iter, [], 0⟩] scope pos) 0 (.ref it) .none ce) []) sB HB ce fp pn) [] (wipe σ own) H' s ∧ Qt H') hh hl hd hg hgs hgo (fun v s1 gs' hb hv => ?_) (fun s1 hp h' hk => ?_))
    · obtain ⟨b, H', pins', σ', rfl, I1, hf, ht⟩ := hv
      refine wpAny_bind (wpAny_holding (wpAny_truthy_bool ?_))
      refine wpAny_bind (wpAny_letGo ?_)
      cases b with
      | true => exact (ht rfl s1 rfl rfl I1.bare).elim
      | false =>
        simp only [Bool.false_eq_true, if_false]
        exact wpAny_bind (wpAny_rule (wpAny_pure (hF s1 H' pins' σ' gs' hb I1 (hf rfl))))
    · obtain ⟨H', I1, qt⟩ := hp
      exact wpAny_bind (wpAny_rule (wpAny_pure (hT s1 H' I1 qt h' hk)))
  | succ k ih =>
    intro s hg hl ⟨gs, hgs, hgo⟩
    have hgl : gn < s.gens.size := (Array.getElem?_eq_some_iff.mp hgs).1
    refine codeAny_builtin F.entry_all_loop ?_
    rw [Around.under_plainId F.plain_all_loop _]
    show wpAny _ A.in1 (pyNext (.ref a) >>= _) _ _ s
    refine wpAny_bind (wpAny_gsz (n := gn + 1) hgl (wpAny_pyNext_genexpQ (A := A.in1) (P := fun _ _ s => ∃ H', Inv (genX X (A.in1.in1.over (.compLoop (.GeneratorExp elt [⟨tg, iter, [], 0⟩] scope pos) 0 (.ref it) .none ce) []) sB HB ce fp pn) [] (wipe σ own) H' s ∧ Qt H') hh hl hd hg hgs hgo (fun v s1 gs' hb hv => ?_) (fun s1 hp h' hk => ?_)))
    · intro hsz
      obtain ⟨b, H', pins', σ', rfl, I1, hf, ht⟩ := hv
      refine wpAny_bind (wpAny_holding (wpAny_truthy_bool ?_))
      refine wpAny_bind (wpAny_letGo ?_)
      cases b with
      | true =>
        simp only [if_true]
        have hsz1 : gn < s1.gens.size := by
          have q : (s1.setGen gn gs').gens.size = s1.gens.size := setGen_size _ _ _
          have hsz' : gn + 1 ≤ (s1.setGen gn gs').gens.size := hsz
          omega
        have ha : s1.heap.get? a = some gobj := (I1.pin (a, gobj) (List.mem_append_left _ (by rw [hpn]; exact List.mem_singleton.mpr rfl))).1
        refine wpAny_pure ⟨plainId_quiet F.plain_all_loop _, ih (s1.setGen gn gs') (hgen _ ha) I1.nolimit ⟨gs', setGen_at hsz1, ?_⟩⟩
        exact ht rfl _ rfl rfl (allBare_setGen (s := s1.setGen gn gs') (allBare_setGen I1.bare hb) rfl)
      | false =>
        simp only [Bool.false_eq_true, if_false]
        exact wpAny_bind (wpAny_rule (wpAny_pure (hF s1 H' pins' σ' gs' hb I1 (hf rfl))))
    · intro hsz
      obtain ⟨H', I1, qt⟩ := hp
      exact wpAny_bind (wpAny_rule (wpAny_pure (hT s1 H' I1 qt h' hk)))
end
/-- all(e for tg in iter); behind its making the def's table may have grown -/
def tAllG (P : Addr) (wi : TI) (g : TG) (te : TE) (own : List Nat) : TE := fun σ H Q => wi σ H fun J H1 => GxR.TabG H1 P ∧ ∀ H2, GxR.Tabbed P H1 H2 → ∃ W : Nat → Nat → Hp → Prop, (∃ m, W 0 m H2) ∧ TurnsG J g te own σ (Q (.bl true)) (Q (.bl false)) W
section
variable {X : Cx} {c P : Addr} {elt tg iter : Expr} {p pos gpos : Pos} {scope : Scope} {own : List (Str × Nat)} {wi : TI} {g : TG} {te : TE} {k : Nat}
def gobjOf (gn : Nat) (nm qn : Value) : Obj := { cls := .type "generator", data := .fields #[.int gn 0, nm, qn] }
theorem gen_made {pins : List (Addr × Obj)} {σ : L2.St} {H : Hp} {s : Shared} {Q' : Value → Shared → Prop} {R : It → Hp → Prop} (hr : Room (k + 1) X.A) (TB : GxR.TabB X.base X.mg c P) (hN : X.N.Nodup) (ok : BlkOk X.N X.env.scope scope own) (hcell' : (scope.names.all fun y => decide (y.2 ≠ .cell)) = true) (hi : PI X tg iter wi)
    (hcode : X.env.code = .ref c) (hco : scope.isCoroutine = false) (h0 : scope.names.lookup (".0" : Str) = some NameKind.local) (hs : ∀ v, genFold iter X.env v = pure v) (I : Inv X pins σ H s) (h : wi σ H fun J H1 => GxR.TabG H1 P ∧ R J H1)
    (hQ : ∀ (J : It) (H1 HB : Hp) (sB s5 : Shared) (it : Addr) (fp : List Addr) (tn : Nat → Heap → Prop) (a : Addr) (gobj : Obj) (gn : Nat) (code : Value), R J H1 → GxR.Tabbed P H1 HB → Inv X pins σ HB sB → Turn X.prog X.w X.K tg J fp it tn →
      (∀ b ∈ fp, FpOk X pins HB b ∧ b < sB.heap.objs.size) → tn 0 s5.heap → (∃ nm qn, gobj = gobjOf gn nm qn) → s5.heap.get? a = some gobj → a ∉ fp → s5.gens[gn]? = some (.fresh (.compStart (.GeneratorExp elt [⟨tg, iter, [], 0⟩] scope gpos) 0 (.ref it) .none (genE X scope sB.heap.objs.size code))) →
      Inv (genX X (X.A.in1.in1.over (.compLoop (.GeneratorExp elt [⟨tg, iter, [], 0⟩] scope gpos) 0 (.ref it) .none (genE X scope sB.heap.objs.size code)) []) sB HB (genE X scope sB.heap.objs.size code) fp [(a, gobj)]) [] (wipe σ (own.map (·.2))) HB s5 → Q' (.ref a) s5) :
    wpAny (model X.prog X.w) X.A (eval (.GeneratorExp elt [⟨tg, iter, [], 0⟩] scope gpos) X.env) Q' X.xe s := by
  have hcell : ∀ y ∈ scope.names, y.2 ≠ .cell := fun y hy => of_decide_eq_true (List.all_eq_true.mp hcell' y hy)
  have hfree : ∀ y ∈ scope.names, y.2 = .free → ∃ c, X.env.cells.lookup y.1 = some c := fun y hy e => by
    rcases ok.free y hy e with k | k
    · exact I.ok.has _ (.inl k)
    · exact I.ok.has _ (.inr k)
  refine wpAny_GeneratorExp_make hco (closure_ok hfree) hcell h0 ok.kind (by have := hr.dp; omega) ?_ hs
  refine thn (hi.run pins s σ H _ I h) fun xv s1 hx => thn hx fun itv s2 h2 => ?_
  obtain ⟨it, fp, tn, J, H2, rfl, I2, T, st2, f2, ⟨ps, hP, ht⟩, q⟩ := h2
  have hPs : s2.heap.get? P = some { cls := .none, data := .fields ps } := I2.hok P _ hP
  have cd : PySem.W.CodeHd s2.heap c P := TB.code.keeps fun b u e => I2.bk b u e
  refine ⟨I2.nolimit, ?_⟩
  have sz : ∀ b ∈ fp, b < s2.heap.objs.size := fun b hb => by
    obtain ⟨o, e, _⟩ := T.obj _ _ st2 b hb
    exact Heap.lt_size e
  have nP : ∀ b ∈ fp, b ≠ P := fun b hb z => by
    have := (f2 b hb).1
    rw [z, hP] at this
    cases this
  have cont : ∀ (code : Value) (h3 : Heap) (tk : Nat) (ps' : Array Value), Heap.ExtBut P s2.heap h3 → s2.heap.objs.size ≤ h3.objs.size → h3.get? P = some { cls := .none, data := .fields ps' } → (∃ more, ps' = ps ++ more) → TriplesOk ps'.toList →
      wpAny (model X.prog X.w) X.A (builtinsFor X.env.globals X.env.builtins) (fun bi s₄ =>
        ∀ h', h'.Ns s₄.heap.objs.size (fun y => if y = ".0" then some (Value.ref it) else none) → Heap.SameBut s₄.heap.objs.size (s₄.heap.push { cls := .type "frame", data := .dict #[] }) h' →
          Q' (.ref h'.objs.size) { s₄ with
            gens := s₄.gens.push (.fresh (.compStart (.GeneratorExp elt [⟨tg, iter, [], 0⟩] scope gpos) 0 (.ref it) .none (genEnv scope (cloFrom X.env.cells scope.names []) s₄.heap.objs.size code bi X.env))),
            toks := s₄.toks + 1 + 1 + 1,
            heap := h'.push { cls := .type "generator", data := .fields #[.int s₄.gens.size 0, .str "<genexpr>" (s₄.toks + 1), .str (X.env.qual ++ "<genexpr>") (s₄.toks + 1 + 1)] } }) X.xe { s2 with heap := h3, toks := tk } := by
    intro code h3 tk ps' hx hsz hP3 hmore ht3
    obtain ⟨more, em⟩ := hmore
    obtain ⟨bm, ob, e1, e2, e3, e4, e5, e6, e7, e8⟩ := TB.bm
    have I3 := GxR.inv_tab (more := more) (h' := h3) (g' := s2.gens) (d' := s2.drawn) (t' := tk) I2 hP (fun b u hb e => hx b u hb e) (by rw [← em]; exact hP3) I2.bare
    refine wpAny_builtinsFor (m := X.mg) (by rw [I2.ok.glob]; exact (I2.mod.glob.keeps I2.bk).extBut hx TB.gP) e1 e2 (hx _ _ e4 (I2.bk _ _ e5)) e6 e7 e8 ?_
    intro h' hn' hs'
    have hsz' : h'.objs.size = h3.objs.size + 1 := by rw [hs'.1, Heap.size_push]
    have keep' : ∀ b o, h3.get? b = some o → h'.get? b = some o := fun b o e => hs'.extBut b o (Nat.ne_of_lt (Heap.lt_size e)) (Heap.get?_push_of_some _ e)
    have keep5 : ∀ b o, h3.get? b = some o → (h'.push (gobjOf s2.gens.size (.str "<genexpr>" (tk + 1)) (.str (X.env.qual ++ "<genexpr>") (tk + 1 + 1)))).get? b = some o := fun b o e => Heap.get?_push_of_some _ (keep' b o e)
    have fB : ∀ b ∈ fp, FpOk X pins (upd H2 P (.tbl (ps ++ more))) b ∧ b < h3.objs.size := fun b hb => by
      refine ⟨⟨?_, (f2 b hb).2⟩, Nat.lt_of_lt_of_le (sz b hb) hsz⟩
      rw [upd_ne (nP b hb)]
      exact (f2 b hb).1
    have st3 : tn 0 h3 := T.keep _ _ _ st2 fun b hb o e => hx b o (nP b hb) e
    have st5 : tn 0 (h'.push (gobjOf s2.gens.size (.str "<genexpr>" (tk + 1)) (.str (X.env.qual ++ "<genexpr>") (tk + 1 + 1)))) := T.keep _ _ _ st3 fun b _ o e => keep5 b o e
    refine hQ J H2 (upd H2 P (.tbl (ps ++ more))) _ _ it fp tn h'.objs.size _ s2.gens.size code q ⟨⟨ps ++ more, upd_same, by rw [← em]; exact ht3⟩, fun b hb => upd_ne hb⟩ I3 T fB st5 ⟨_, _, rfl⟩ (Heap.get?_push_size _ rfl) (fun hb => ?_) (Array.getElem?_push_size ..) ?_
    · have q1 : h'.objs.size < h3.objs.size := (fB _ hb).2
      rw [hsz'] at q1
      exact absurd (Nat.lt_trans (Nat.lt_succ_self _) q1) (Nat.lt_irrefl _)
    · refine gen_start (code := code) I3 ok hN fB hcell hr.hd ?_ rfl (by show h3.objs.size < h'.objs.size; omega) (Heap.get?_push_size _ rfl) (fun v z => by cases z) keep5 ⟨_, hn'.push _⟩
      show pushEnvs [_] (pushEnvs [] X.A.frames) = _
      rw [I.ok.frames]
      rfl
  cases hf : codeAmong gpos ps.toList with
  | none =>
    refine wpAny_genexprCodeX hcode (cd.code hPs ht) (cd.tab hPs) hf fun c' h' tk hx hge hlt hco' _ htab' _ => ?_
    obtain ⟨o1, vs, f1, tf, fl, tg, inF, tx, tt, op, _, _, _, _, _, _, _, _, _, htr, _⟩ := hco'
    exact cont _ h' tk _ hx (Nat.le_trans hge (Nat.le_of_lt hlt)) htab'.2 ⟨_, rfl⟩ htr
  | some cv =>
    refine wpAny_genexprCode_hit hcode (cd.code hPs ht) hf ?_
    exact cont cv s2.heap s2.toks ps (Heap.ExtBut.refl _ _) (Nat.le_refl _) hPs ⟨#[], by simp⟩ ht
theorem pe_allG (hr : Room (k + 1) X.A) (TB : GxR.TabB X.base X.mg c P) (hN : X.N.Nodup) (ok : BlkOk X.N X.env.scope scope own) (hcell' : (scope.names.all fun y => decide (y.2 ≠ .cell)) = true) (hi : PI X tg iter wi) (hm : X.mg "all" = none)
    (hgt : ∀ (A' : Around) (s : Shared) (H : Hp) (C : Addr) (code : Value) (fp : List Addr) (pn : List (Addr × Obj)), Room k A' → PG (genX X A' s H (genE X scope C code) fp pn) tg g)
    (he : ∀ (A' : Around) (s : Shared) (H : Hp) (C : Addr) (code : Value) (fp : List Addr) (pn : List (Addr × Obj)), Room k A' → PE (genX X A' s H (genE X scope C code) fp pn) elt te)
    (hcode : X.env.code = .ref c := by rfl) (hc : X.calm = true := by rfl) (hg : Gl X "all" := by rfl) (hco : scope.isCoroutine = false := by rfl) (h0 : scope.names.lookup (".0" : Str) = some NameKind.local := by rfl)
    (hs : ∀ v, genFold iter X.env v = pure v := by intro _; rfl)
    (hse : starEach [(.GeneratorExp elt [⟨tg, iter, [], 0⟩] scope gpos)] X.env = (false, eval (.GeneratorExp elt [⟨tg, iter, [], 0⟩] scope gpos) X.env) :: starEach [] X.env := by rfl) :
    PE X (.Call (.Name "all" p) [(.GeneratorExp elt [⟨tg, iter, [], 0⟩] scope gpos)] [] pos) (tAllG P wi g te (own.map (·.2))) := by
  refine ⟨fun pins s σ H Q I h => ?_⟩
  refine wpAny_Call_Name_kw (ld_blt I hg hm (show bootBuiltins "all" = some (.builtin "all") by decide +kernel) ?_)
  refine PyProof.Rows.callWith_builtin1 ?_ hse (by rfl)
  rw [hse]
  show wpAny _ _ (spliced ((false, eval (.GeneratorExp elt [⟨tg, iter, [], 0⟩] scope gpos) X.env) :: backTo pos (starEach [] X.env))) _ _ s
  refine Calls.spliced_cons (gen_made hr TB hN ok hcell' hi hcode hco h0 hs I h fun J H1 HB sB s5 it fp tn a gobj gn code q hTb IB T fB st5 hgo ha haf hgs I5 => ?_)
  refine Calls.spliced_nil ?_
  obtain ⟨W, ⟨m0, w0⟩, turns⟩ := q HB hTb
  obtain ⟨nm, qn, rfl⟩ := hgo
  have hgen : ∀ h : Heap, h.get? a = some (gobjOf gn nm qn) → h.IsGen a gn := fun h e => ⟨_, nm, qn, e, rfl, rfl, rfl⟩
  have hA : Room k (X.A.in1.in1.over (.compLoop (.GeneratorExp elt [⟨tg, iter, [], 0⟩] scope gpos) 0 (.ref it) .none (genE X scope sB.heap.objs.size code)) []) := by
    refine ⟨hr.hd, ?_, ?_⟩
    · have := hr.dp
      show X.A.depth + 0 + 1 + 3 * k + 5 < _
      omega
    · have := hr.un
      show X.A.units + 1 + 1 + 0 + 3 + 16 * k + 200 < _
      omega
  have back : ∀ {s1 : Shared} {H' : Hp} {pins' : List (Addr × Obj)} {σ' : L2.St} (s' : Shared), Inv (genX X (X.A.in1.in1.over (.compLoop (.GeneratorExp elt [⟨tg, iter, [], 0⟩] scope gpos) 0 (.ref it) .none (genE X scope sB.heap.objs.size code)) []) sB HB (genE X scope sB.heap.objs.size code) fp [(a, gobjOf gn nm qn)]) pins' σ' H' s1 → s'.os = s1.os → (∀ b o, s1.heap.get? b = some o → s'.heap.get? b = some o) → AllBare s'.gens → Inv X pins σ H' s' :=
    fun s' I1 ho hk hgb => IB.call' (ch := fp) (ho.trans I1.os) (I1.base.trans (Un.kept hk)) (I1.hok.kept hk) hgb fun b hb => ⟨(fB b hb).1.2.2.2.1, (fB b hb).1.2.1, (fB b hb).1.2.2.2.2.1, (fB b hb).1.2.2.2.2.2⟩
  refine call_function_tree F.kind_all F.plain_all F.entry_all (F.args_all1 _) ?_
  unfold Builtin.«all»
  refine wpAny_bind (m := oneArg "all" _) (wpAny_pure ?_)
  refine wpAny_bind (wpAny_pyIter_gen (hgen _ ha) ?_)
  refine wpAny_pure ⟨plainId_quiet F.plain_all_loop _, all_loop (X := X) (sB := sB) (HB := HB) (own := own.map (·.2)) (σ := σ) (Qt := Q (.bl true)) (Qf := Q (.bl false)) (fp := fp) (pn := [(a, gobjOf gn nm qn)]) (gobj := gobjOf gn nm qn) (ce := (genE X scope sB.heap.objs.size code)) (tg := tg) (iter := iter) (elt := elt) (scope := scope) (pos := gpos) (it := it) hr.hd (by have := hr.dp; omega) rfl hgen
    (fun s1 H' I1 qt h' hk => ?_) (fun s1 H' pins' σ' gs' hb I1 qf => ?_) (m0 + 1) s5 (hgen _ ha) I5.nolimit ⟨_, hgs, rfl, ?_⟩⟩
  · exact ⟨.bl true, H', back _ I1 rfl hk (allBare_setGen I1.bare rfl), rfl, qt⟩
  · exact ⟨.bl false, H', back _ I1 rfl (fun _ _ e => e) (allBare_setGen I1.bare hb), rfl, qf⟩
  · have I5' := regens (s' := s5.setGen gn .running) I5 rfl rfl (allBare_setGen I5.bare rfl)
    refine seg_allStart T st5 (seg_allLoop (own := own.map (·.2)) hc T turns hco (fun p hp => ?_) (hgt _ _ _ _ _ _ _ hA) (he _ _ _ _ _ _ _ hA) (m0 + 1) 0 m0 _ _ HB (Nat.lt_succ_self _) w0 I5' st5 fun b hb => (fB b hb).1.1)
    rw [List.mem_singleton.mp hp]
    exact haf
end
end GA
def top (i : Nat) : Stmt := PySem.Challenge.pw_stemkeep_k02_numbers_of_worths.main.body.getD i (.Pass ⟨0, 0, 0, 0⟩)
abbrev sNumberOf : Stmt := top 2
theorem scNumberOf : FnScope ["worth", "start", "end", "number"] ["worth"] (defScope sNumberOf) := ⟨rfl, rfl, rfl, by decide +kernel, rfl, by decide +kernel, by decide +kernel⟩
abbrev sNumberOfFigures : Stmt := top 3
theorem scNumberOfFigures : FnScope ["figures", "first", "number", "at"] ["figures"] (defScope sNumberOfFigures) := ⟨rfl, rfl, rfl, by decide +kernel, rfl, by decide +kernel, by decide +kernel⟩
abbrev sNumberText : Stmt := top 4
theorem scNumberText : FnScope ["number", "left", "pieces", "figures", "low"] ["number"] (defScope sNumberText) := ⟨rfl, rfl, rfl, by decide +kernel, rfl, by decide +kernel, by decide +kernel⟩
abbrev sIsNumberText : Stmt := top 5
theorem scIsNumberText : FnScope ["worth", "figures", "sign"] ["worth"] (defScope sIsNumberText) := ⟨rfl, rfl, rfl, by decide +kernel, rfl, by decide +kernel, by decide +kernel⟩
abbrev sLawCellAt : Stmt := top 7
theorem scLawCellAt : FnScope ["script", "k"] ["script", "k"] (defScope sLawCellAt) := ⟨rfl, rfl, rfl, by decide +kernel, rfl, by decide +kernel, by decide +kernel⟩
abbrev sLawBag : Stmt := top 8
theorem scLawBag : FnScope ["cell", "nth"] ["cell", "nth"] (defScope sLawBag) := ⟨rfl, rfl, rfl, by decide +kernel, rfl, by decide +kernel, by decide +kernel⟩
abbrev sLawDraw : Stmt := top 9
theorem scLawDraw : FnScope ["bag", "many", "mixed", "found"] ["bag", "many"] (defScope sLawDraw) := ⟨rfl, rfl, rfl, by decide +kernel, rfl, by decide +kernel, by decide +kernel⟩
abbrev sLawSigns : Stmt := top 10
theorem scLawSigns : FnScope ["few"] [] (defScope sLawSigns) := ⟨rfl, rfl, rfl, by decide +kernel, rfl, by decide +kernel, by decide +kernel⟩
abbrev sLawText : Stmt := top 11
theorem scLawText : FnScope ["bag", "most", "lot", "some", "many", "number", "near", "k"] ["bag", "most"] (defScope sLawText) := ⟨rfl, rfl, rfl, by decide +kernel, rfl, by decide +kernel, by decide +kernel⟩
abbrev sLawNumber : Stmt := top 12
theorem scLawNumber : FnScope ["worth", "at", "minus", "found"] ["worth"] (defScope sLawNumber) := ⟨rfl, rfl, rfl, by decide +kernel, rfl, by decide +kernel, by decide +kernel⟩
abbrev sLawWritten : Stmt := top 13
theorem scLawWritten : FnScope ["number", "left", "found"] ["number"] (defScope sLawWritten) := ⟨rfl, rfl, rfl, by decide +kernel, rfl, by decide +kernel, by decide +kernel⟩
abbrev sLawRight : Stmt := top 14
theorem scLawRight : FnScope ["worth", "due", "found", "own"] ["worth"] (defScope sLawRight) := ⟨rfl, rfl, rfl, by decide +kernel, rfl, by decide +kernel, by decide +kernel⟩
abbrev sLaw : Stmt := top 15
theorem scLaw : FnScope ["script", "k", "bag", "number", "marks", "some", "found", "j", "worth"] ["script"] (defScope sLaw) := ⟨rfl, rfl, rfl, by decide +kernel, rfl, by decide +kernel, by decide +kernel⟩
structure Tabs where
  c_is_number_text : Addr
  p_is_number_text : Addr
theorem tabB_of {base : Heap} {mg : Str → Option Value} {c P : Addr} (h : LamX.TabB base mg c P) : GxR.TabB base mg c P := ⟨h.code, h.bm, h.gP⟩
structure Txt (K : PySem.W.Frag) (mg : Str → Option Value) (cs : Tabs) : Prop where
  f_number_of : Ftx K mg "number_of" sNumberOf ["worth"]
  f_number_of_figures : Ftx K mg "_number_of_figures" sNumberOfFigures ["figures"]
  f_number_text : Ftx K mg "number_text" sNumberText ["number"]
  f_is_number_text : Ftc K mg "is_number_text" sIsNumberText ["worth"] cs.c_is_number_text
  f_law_cell_at : Ftx K mg "_law_cell_at" sLawCellAt ["script", "k"]
  f_law_bag : Ftx K mg "_law_bag" sLawBag ["cell", "nth"]
  f_law_draw : Ftx K mg "_law_draw" sLawDraw ["bag", "many"]
  f_law_signs : Ftx K mg "_law_signs" sLawSigns []
  f_law_text : Ftx K mg "_law_text" sLawText ["bag", "most"]
  f_law_number : Ftx K mg "_law_number" sLawNumber ["worth"]
  f_law_written : Ftx K mg "_law_written" sLawWritten ["number"]
  f_law_right : Ftx K mg "_law_right" sLawRight ["worth"]
  f_law : Ftx K mg "law" sLaw ["script"]
  n_int : mg "int" = none
  n_range : mg "range" = none
  n_abs : mg "abs" = none
  n_len : mg "len" = none
  n_divmod : mg "divmod" = none
  n_str : mg "str" = none
  n_all : mg "all" = none
  n_max : mg "max" = none
  n_isinstance : mg "isinstance" = none
  n_bool : mg "bool" = none
  n_min : mg "min" = none
  g__FIGURES : ∃ u, mg "_FIGURES" = some u ∧ RelV (.str "0123456789") u
structure TBs (base : Heap) (mg : Str → Option Value) (cs : Tabs) : Prop where
  triv : True
  b_is_number_text : GxR.TabB base mg cs.c_is_number_text cs.p_is_number_text
structure TGs (H : Hp) (cs : Tabs) : Prop where
  triv : True
  t_is_number_text : GxR.TabG H cs.p_is_number_text
theorem TGs.sm {H H' : Hp} {cs : Tabs} (t : TGs H cs) (S : Sm H H') : TGs H' cs := ⟨trivial, S.tab _ t.t_is_number_text⟩
theorem TGs.go {b : Addr} {n : Nat} {H H' : Hp} {cs : Tabs} (t : TGs H cs) (S : Go b n H H') : TGs H' cs := ⟨trivial, S.tab _ t.t_is_number_text⟩
/-! ### a draw -/
def spDraw : Sp := fun vs H Q _ => ∃ (b : Addr) (many : Int) (m : Nat), vs = [.ref b, .int many] ∧ Bag H b m ∧ m ≤ LIM ∧ 0 < many ∧ many < 2 ^ 256 ∧ ∀ (r : Int) (H' : Hp), 0 ≤ r → r < many → Go b 1 H H' → Q (.int r) H'
theorem nat_lt {i : Int} {n : Nat} (h0 : 0 ≤ i) (h : i < ((2 ^ n : Nat) : Int)) : i.natAbs < 2 ^ n := by omega
theorem draw_set {b : Addr} {m : Nat} {H : Hp} {x y z x' z' : Int} (hb : H b = some (.lst [.int x, .int y, .int z])) (hz : z' = z ∨ z' = z + 1) : Go b 1 H (upd H b (.lst [.int x', .int y, .int z'])) := by
  refine ⟨fun a o e h _ => by rw [upd_ne e]; exact h, fun k hk => ?_, fun P t => TabG.upd t (no_tbl hb), fun a ha => by
    by_cases e : a = b
    · rw [e, upd_same] at ha
      cases ha
    · rw [upd_ne e] at ha
      exact ha⟩
  obtain ⟨x1, y1, z1, h1, h2, h3, h4, h5⟩ := hk
  rw [hb] at h1
  injection h1 with h1
  injection h1 with h1
  injection h1 with e1 h1
  injection h1 with e2 h1
  injection h1 with e3 h1
  injection e1 with e1
  injection e2 with e2
  injection e3 with e3
  subst e1 e2 e3
  exact ⟨x', y, z', upd_same, h2, h3, by omega, by omega⟩
section
variable {P : Program} {w : World} {K : PySem.W.Frag} {mg : Str → Option Value} {base : Heap} {cs : Tabs}
theorem ok_law_draw (T : Txt K mg cs) : Cal P w K mg base 1 "_law_draw" ["bag", "many"] spDraw := by
  refine T.f_law_draw.cal scLawDraw (fun vs H Q E h => ?_) (fun f cdv A outer s H vs Q E hr h => ?_)
  · obtain ⟨b, many, m, rfl, _⟩ := h
    rfl
  obtain ⟨b, many, m, rfl, B, hm, h0, h1, q⟩ := h
  obtain ⟨x, y, z, hb, y0, y1, z0, z1⟩ := id B
  refine ⟨_, (pss_cons (ps_if (pt_cmpR op_gt (pe_ix (ixL K) (pv 0) pe_int (fun _ _ => rfl)) pe_int (nomark _)) (pss_cons (ps_set (i := 3) scLawDraw.nd rfl (by first | exact Or.inl rfl | exact Or.inr rfl) (pe_op op_mod (pe_ix (ixL K) (pv 0) pe_int (fun _ _ => rfl)) (pv 1)))
        (pss_cons (ps_asg (pe_op op_fdivW (pe_ix (ixL K) (pv 0) pe_int (fun _ _ => rfl)) (pv 1)) (pg_sub (pv 0) pe_int set_list))
        (pss_one (ps_ret (pv 3))))) pss_nil)
    (pss_cons (ps_asg (pe_op op_add (pe_ix (ixL K) (pv 0) pe_int (fun _ _ => rfl)) pe_int) (pg_sub (pv 0) pe_int set_list))
    (pss_cons (ps_set (i := 2) scLawDraw.nd rfl (by first | exact Or.inl rfl | exact Or.inr rfl) (pe_op op_mod (pe_op op_powW (pe_op op_add (pe_ix (ixL K) (pv 0) pe_int (fun _ _ => rfl)) (pe_op op_mulW pe_int (pe_ix (ixL K) (pv 0) pe_int (fun _ _ => rfl)))) pe_int) pe_int))
    (pss_cons (ps_set (i := 2) scLawDraw.nd rfl (by first | exact Or.inl rfl | exact Or.inr rfl) (pe_op op_mod (pe_op op_powW (pe_op op_add (pv 2) (pe_op op_mulW pe_int (pe_ix (ixL K) (pv 0) pe_int (fun _ _ => rfl)))) pe_int) pe_int))
    (pss_one (ps_ret (pe_op op_mod (pe_op op_fdivW (pv 2) pe_int) (pv 1)))))))), ?_⟩
  have hS : SqL K H b [.int x, .int y, .int z] := SqL.of hb
  have hdiv : CDivW x many := wide_div (b := 256) h0 (nat_lt (by omega) h1) (by decide) (by decide)
  refine ⟨_, rfl, b, _, 0, .int x, rfl, rfl, hS, rfl, x, 1, rfl, rfl, _, rfl, ?_⟩
  refine ite2 (fun c => ?_) (fun c => ?_)
  · refine ⟨_, rfl, b, _, 0, .int x, rfl, rfl, hS, rfl, _, rfl, x, many, rfl, rfl, h0, ?_⟩
    refine ⟨_, rfl, b, _, 0, .int x, rfl, rfl, hS, rfl, _, rfl, x, many, rfl, rfl, hdiv, ?_⟩
    refine ⟨_, rfl, b, [.int x, .int y, .int z], 0, 0, rfl, rfl, hb, rfl, ?_⟩
    exact ⟨_, rfl, q _ _ (Int.emod_nonneg x (by omega)) (Int.emod_lt_of_pos x h0) (draw_set (m := m) hb (.inl rfl))⟩
  · refine ⟨_, rfl, b, _, 2, .int z, rfl, rfl, hS, rfl, z, 1, rfl, rfl, ?_⟩
    refine ⟨_, rfl, b, [.int x, .int y, .int z], 2, 2, rfl, rfl, hb, rfl, ?_⟩
    have hb1 : (upd H b (.lst [.int x, .int y, .int (z + 1)])) b = some (.lst [.int x, .int y, .int (z + 1)]) := upd_same
    have hS1 : SqL K (upd H b (.lst [.int x, .int y, .int (z + 1)])) b [.int x, .int y, .int (z + 1)] := SqL.of hb1
    unfold LIM at hm
    have e3 : ((3 : Int)).toNat = 3 := rfl
    have ez : (z + 1).natAbs < 2 ^ 40 := nat_lt (by omega) (by omega)
    refine ⟨_, rfl, b, _, 1, .int y, rfl, rfl, hS1, rfl, _, rfl, b, _, 2, .int (z + 1), rfl, rfl, hS1, rfl, 67867967, z + 1, rfl, rfl, wide_mul (a := 40) (b := 40) (by decide) ez (by decide) (by decide) (by decide), y, 67867967 * (z + 1), rfl, rfl,
      y + 67867967 * (z + 1), 3, rfl, rfl, ⟨by decide, by decide, pow_ok (n := 300) (nat_lt (by omega) (by omega)) (by decide) (by decide)⟩, _, 170141183460469231731687303715884105727, rfl, rfl, (show (0 : Int) < 170141183460469231731687303715884105727 by decide), ?_⟩
    have r0 := Int.emod_nonneg ((y + 67867967 * (z + 1)) ^ ((3 : Int)).toNat) (show (170141183460469231731687303715884105727 : Int) ≠ 0 by decide)
    have r1 := Int.emod_lt_of_pos ((y + 67867967 * (z + 1)) ^ ((3 : Int)).toNat) (show (0 : Int) < 170141183460469231731687303715884105727 by decide)
    obtain ⟨r, er⟩ : ∃ r : Int, (y + 67867967 * (z + 1)) ^ ((3 : Int)).toNat % 170141183460469231731687303715884105727 = r := ⟨_, rfl⟩
    rw [er] at r0 r1
    refine ⟨_, rfl, _, rfl, b, _, 2, .int (z + 1), rfl, rfl, hS1, rfl, 49979687, z + 1, rfl, rfl, wide_mul (a := 40) (b := 40) (by decide) ez (by decide) (by decide) (by decide), r, 49979687 * (z + 1), congrArg V.int er, rfl,
      r + 49979687 * (z + 1), 3, rfl, rfl, ⟨by decide, by decide, pow_ok (n := 300) (nat_lt (by omega) (by omega)) (by decide) (by decide)⟩, _, 162259276829213363391578010288127, rfl, rfl, (show (0 : Int) < 162259276829213363391578010288127 by decide), ?_⟩
    obtain ⟨t, et⟩ : ∃ t : Int, (r + 49979687 * (z + 1)) ^ ((3 : Int)).toNat % 162259276829213363391578010288127 = t := ⟨_, rfl⟩
    refine ⟨_, rfl, t, 4096, congrArg V.int et, rfl, wide_div (b := 1000) (by decide) (by decide) (by decide) (by decide), _, rfl, t / 4096, many, rfl, rfl, h0, ?_⟩
    exact q _ _ (Int.emod_nonneg _ (by omega)) (Int.emod_lt_of_pos _ h0) (draw_set (m := m) hb (.inr rfl))
end
/-! ### texts, menus, comprehensions of draws -/
/-- a sign of worths -/
def sgn (c : Nat) : Bool := decide (32 ≤ c) && (decide (c ≤ 126) && !decide (c = 37))
/-- a text of signs of worths, of at most n signs -/
structure WT (z : Str) (n : Nat) : Prop where
  len : (tl z).length ≤ n
  sg : ∀ c ∈ tl z, sgn c = true
theorem WT.mono {z : Str} {n m : Nat} (h : WT z n) (l : n ≤ m) : WT z m := ⟨Nat.le_trans h.len l, h.sg⟩
theorem WT.line {z : Str} {n : Nat} (h : WT z n) (l : n ≤ 100000) : z.length ≤ sizeLine := by
  rw [len_tl]
  exact small (Nat.le_trans h.len l)
theorem tl_cut (z : Str) (k : Nat) : tl (cutS z none (some (k : Int))) = (tl z).take k := by
  show (((z.cps.toList.drop (HT.sIx z.length 0 none)).take (HT.sIx z.length z.length (some (k : Int)) - HT.sIx z.length 0 none)).toArray).toList = _
  rw [HT.sIx_none, HT.sIx_nat, List.drop_zero, Nat.sub_zero, List.toList_toArray]
  have e : z.length = (tl z).length := len_tl z
  rw [e]
  show (tl z).take (min k (tl z).length) = _
  by_cases h : k ≤ (tl z).length
  · rw [Nat.min_eq_left h]
  · rw [Nat.min_eq_right (by omega), List.take_of_length_le (Nat.le_refl _), List.take_of_length_le (by omega)]
theorem WT.cut {z : Str} (h : ∀ c ∈ tl z, sgn c = true) (k : Nat) : WT (cutS z none (some (k : Int))) k :=
  ⟨by rw [tl_cut, List.length_take]; exact Nat.min_le_left _ _, fun c hc => h c (by rw [tl_cut] at hc; exact List.mem_of_mem_take hc)⟩
theorem WT.int {i : Int} {k : Nat} (hk : 0 < k) (h : i.natAbs < 10 ^ k) : WT (Str.ofString (toString i)) (k + 1) := by
  refine ⟨?_, fun c hc => ?_⟩
  · rw [← len_tl, PySem.ofString_length]
    exact PySem.int_text_length_le10 hk h
  · have f := fun q hq => PyProof.Rows.int_text_free' q hq i
    have z : ¬ (c ≠ 45 ∧ (c < 48 ∨ 57 < c)) := fun q => f c q hc
    unfold sgn
    by_cases e : c = 45
    · subst e; rfl
    · have q : 48 ≤ c ∧ c ≤ 57 := by omega
      rw [decide_eq_true (show 32 ≤ c by omega), decide_eq_true (show c ≤ 126 by omega), decide_eq_false (show ¬ c = 37 by omega)]
      rfl
theorem joinL_nil : ∀ ps : List (List Nat), joinL [] ps = ps.flatten
  | [] => rfl
  | [p] => by
    show p = [p].flatten
    simp
  | p :: q :: r => by
    show p ++ ([] ++ joinL [] (q :: r)) = _
    rw [joinL_nil (q :: r), List.nil_append]
    rfl
theorem tl_glue (ys : List Str) : tl (Txt.join "" ys) = (ys.map tl).flatten := by
  rw [join_eq, tl_join]
  exact joinL_nil _
theorem flat_len {k : Nat} : ∀ ys : List Str, (∀ y ∈ ys, (tl y).length ≤ k) → (ys.map tl).flatten.length ≤ k * ys.length
  | [], _ => by simp
  | y :: r, h => by
    have a := h y List.mem_cons_self
    have b := flat_len r fun z hz => h z (List.mem_cons_of_mem _ hz)
    rw [List.map_cons, List.flatten_cons, List.length_append, List.length_cons, Nat.mul_succ]
    omega
theorem WT.glue {k : Nat} {ys : List Str} (h : ∀ y ∈ ys, WT y k) : WT (Txt.join "" ys) (k * ys.length) := by
  refine ⟨by rw [tl_glue]; exact flat_len ys fun y hy => (h y hy).len, fun c hc => ?_⟩
  rw [tl_glue] at hc
  obtain ⟨l, hl, hcl⟩ := List.mem_flatten.mp hc
  obtain ⟨y, hy, rfl⟩ := List.mem_map.mp hl
  exact (h y hy).sg c hcl
theorem glue_sum {k : Nat} : ∀ ys : List Str, (∀ y ∈ ys, (tl y).length ≤ k) → (ys.map (·.length)).sum ≤ k * ys.length
  | [], _ => by simp
  | y :: r, h => by
    have a := h y List.mem_cons_self
    have b := glue_sum r fun z hz => h z (List.mem_cons_of_mem _ hz)
    have c : y.length = (tl y).length := len_tl y
    rw [List.map_cons, List.sum_cons, List.length_cons, Nat.mul_succ]
    omega
theorem glue_ok {k n : Nat} {ys : List Str} (h : ∀ y ∈ ys, (tl y).length ≤ k) (hl : ys.length = n) (hb : k * n ≤ 1000000) : (ys.map (·.length)).sum + ys.length * ("" : Str).length ≤ 16777216 := by
  have a := glue_sum ys h
  rw [hl] at a
  have e : ("" : Str).length = 0 := rfl
  rw [e]
  omega
/-- texts as values: what a list of values that are texts holds -/
theorem texts_of {P : Str → Prop} : ∀ vs : List V, (∀ v ∈ vs, ∃ y, v = .str y ∧ P y) → ∃ ys : List Str, vs = ys.map V.str ∧ ys.length = vs.length ∧ ∀ y ∈ ys, P y
  | [], _ => ⟨[], rfl, rfl, fun _ h => by cases h⟩
  | v :: r, h => by
    obtain ⟨y, rfl, hy⟩ := h v List.mem_cons_self
    obtain ⟨ys, rfl, e, hp⟩ := texts_of r fun z hz => h z (List.mem_cons_of_mem _ hz)
    refine ⟨y :: ys, rfl, by rw [List.length_cons, List.length_cons, e], fun z hz => ?_⟩
    rcases List.mem_cons.mp hz with rfl | hz
    · exact hy
    · exact hp z hz
section
variable {K : PySem.W.Frag}
/-- the n-th of a list that is written on the spot, n drawn -/
theorem menuG {A : V → Prop} {b : Addr} {i n c m : Nat} {σ : L2.St} {H : Hp} {ta : TA} {Q : VK} (ha : ∀ R : List V → Hp → Prop, (∀ xs H1, xs.length = n → (∀ v ∈ xs, A v) → Go b c H H1 → R xs H1) → ta σ H R)
    (hb : σ[i]? = some (some (.ref b))) (B : Bag H b m) (hm : m + c ≤ LIM) (h0 : 0 < n) (hn : n ≤ 1000) (q : ∀ v H', A v → Go b (c + 1) H H' → Q v H') : tOp (rIxL K) (tLst ta) (tCall spDraw [] E0 (tCons (tVar i) (tCons (tC (.int ((n : Nat) : Int))) tNil))) σ H Q := by
  refine ha _ fun xs H1 hl hA G => ⟨small (by omega), fun p hp => ?_⟩
  have B1 := (Go.new (o := .lst xs) hp).bag _ (G.bag _ B)
  refine ⟨_, hb, b, (n : Int), _, rfl, B1, by omega, by omega, by omega, fun r H' r0 r1 G' => ?_⟩
  have hp' : (upd H1 p (.lst xs)) p = some (.lst xs) := upd_same
  have np : p ≠ b := (G.bag _ B).ne hp
  obtain ⟨j, rfl⟩ : ∃ j : Nat, r = (j : Int) := ⟨r.toNat, by omega⟩
  have hj : j < xs.length := by omega
  refine ⟨p, xs, (j : Int), xs[j], rfl, rfl, SqL.of (G'.keep p _ np hp'), atI_nat (List.getElem?_eq_getElem hj), ?_⟩
  exact q _ _ (hA _ (List.getElem_mem hj)) ((G.trans ((Go.new hp).trans G')).mono (by omega))
/-- .. of values that are there -/
theorem menuC {A : V → Prop} {b : Addr} {i m : Nat} {xs : List V} {σ : L2.St} {H : Hp} {ta : TA} {Q : VK} (ha : ∀ R : List V → Hp → Prop, R xs H → ta σ H R) (hA : ∀ v ∈ xs, A v)
    (hb : σ[i]? = some (some (.ref b))) (B : Bag H b m) (hm : m ≤ LIM) (h0 : 0 < xs.length) (hn : xs.length ≤ 1000) (q : ∀ v H', A v → Go b 1 H H' → Q v H') : tOp (rIxL K) (tLst ta) (tCall spDraw [] E0 (tCons (tVar i) (tCons (tC (.int ((xs.length : Nat) : Int))) tNil))) σ H Q :=
  menuG (n := xs.length) (c := 0) (fun R h => ha R (h _ _ rfl hA (Go.refl b H))) hb B hm h0 hn fun v H' hv G => q v H' hv (G.mono (by omega))
theorem draw_here {b : Addr} {i m : Nat} {many : Int} {σ : L2.St} {H : Hp} {Q : VK} (hb : σ[i]? = some (some (.ref b))) (B : Bag H b m) (hm : m ≤ LIM) (h0 : 0 < many) (hn : many < 2 ^ 256) (q : ∀ (r : Int) (H' : Hp), 0 ≤ r → r < many → Go b 1 H H' → Q (.int r) H') :
    tCall spDraw [] E0 (tCons (tVar i) (tCons (tC (.int many)) tNil)) σ H Q := ⟨_, hb, b, many, m, rfl, B, hm, h0, hn, q⟩
/-- [e for k in range(n)], e by draws of the bag at b: a new list of n values that are so -/
theorem lc_draws {b : Addr} {i n c m : Nat} {σ : L2.St} {H1 : Hp} {D : Addr} {te : TE} {Q : VK} (A : V → Prop) (B : Bag H1 b m) (hD : H1 D = none) (hn : n ≤ 90000)
    (he : ∀ (j : Nat) (H : Hp), j < n → Bag H b (m + c * j) → Go b (c * j) H1 H → ∀ R : VK, (∀ y H', A y → Go b c H H' → R y H') → te ((σ.set i none).set i (some (.int (0 + (j : Int))))) H R)
    (hQ : ∀ ys H', ys.length = n → (∀ y ∈ ys, A y) → Go b (c * n) H1 H' → H' D = some (.lst ys) → Q (.ref D) H') :
    ∃ W : Nat → Nat → Hp → Prop, (∃ k, W 0 k (upd H1 D (.lst []))) ∧ ∀ j k H, W j k H →
      ((Itr 0 n).stop j H ∧ Q (.ref D) H) ∨ ((Itr 0 n).go j H ∧ ∃ Nx : Hp → Prop, (∀ H', Nx H' → ∃ k', k' < k ∧ W (j + 1) k' H') ∧ ∀ x H', (Itr 0 n).yld j H x H' → gName i x (wipe σ [i]) H' fun σ2 H2 => wipe σ2 [i] = wipe σ [i] ∧ tYes σ2 H2 fun b H3 =>
        if b = true then te σ2 H3 fun y H4 => ∃ acc, H4 D = some (.lst acc) ∧ acc.length < sizeLine ∧ Nx (upd H4 D (.lst (acc ++ [y]))) else Nx H3) := by
  have nD := B.ne hD
  refine lc_range (lo := 0) (n := n) (fun j H => ∃ ys : List V, ys.length = j ∧ (∀ y ∈ ys, A y) ∧ Go b (c * j) H1 H ∧ H D = some (.lst ys)) ⟨[], rfl, fun _ h => (by cases h), ?_, upd_same⟩ (fun j H hj hp => ?_) fun H hp => ?_
  · exact (Go.new hD).mono (by omega)
  · obtain ⟨ys, hl, hA, G, hy⟩ := hp
    refine ⟨?_, ?_⟩
    · show ((wipe σ [i]).set i (some (.int (0 + (j : Int))))).set i none = (σ.set i none)
      show ((σ.set i none).set i (some (.int (0 + (j : Int))))).set i none = (σ.set i none)
      rw [List.set_set, List.set_set]
    · show te ((σ.set i none).set i (some (.int (0 + (j : Int))))) H _
      refine he j H hj (G.bag _ B) G _ fun y H' hy' G' => ⟨ys, G'.keep D _ nD hy, small' (by omega), ys ++ [y], by rw [List.length_append, hl]; rfl, fun z hz => ?_, ?_, upd_same⟩
      · rcases List.mem_append.mp hz with hz | hz
        · exact hA z hz
        · rw [List.mem_singleton.mp hz]
          exact hy'
      · refine Go.own ((G.trans G').mono ?_) B hD (no_tbl (G'.keep D _ nD hy))
        rw [Nat.mul_succ]
        exact Nat.le_refl _
  · obtain ⟨ys, hl, hA, G, hy⟩ := hp
    exact hQ ys H hl hA G hy
theorem lc_drawn {b : Addr} {i N c c0 m : Nat} {σ : L2.St} {H : Hp} {ta : TA} {te : TE} {Q : VK} {A0 : Int → Prop} (A : V → Prop) (ha : ∀ R : List V → Hp → Prop, (∀ (k : Int) H1, A0 k → 0 ≤ k → k ≤ N → Go b c0 H H1 → R [.int k] H1) → ta σ H R) (B : Bag H b m) (hN : N ≤ 90000)
    (he : ∀ (j : Nat) (H2 : Hp), j < N → Bag H2 b (m + c0 + c * j) → Go b (c0 + c * j) H H2 → ∀ R : VK, (∀ y H', A y → Go b c H2 H' → R y H') → te ((σ.set i none).set i (some (.int (0 + (j : Int))))) H2 R)
    (hQ : ∀ (k : Int) D ys H', A0 k → 0 ≤ k → k ≤ N → ys.length = k.toNat → (∀ y ∈ ys, A y) → Go b (c0 + c * k.toNat) H H' → H' D = some (.lst ys) → H D = none → Q (.ref D) H') : tLc (iRng1 ta) (gName i) tYes te [i] σ H Q := by
  refine ha _ fun k H1 hk k0 k1 G => ⟨k, rfl, by omega, by omega, fun D hD => ?_⟩
  have B1 := G.bag _ B
  refine lc_draws (c := c) (i := i) (n := k.toNat) (te := te) A B1 hD (by omega) (fun j H2 hj B2 G2 R hR => ?_) fun ys H' hl hA G' hy => ?_
  · exact he j H2 (by omega) B2 (G.trans G2) R hR
  · exact hQ k D ys H' hk k0 k1 hl hA (G.trans G') hy (G.free B hD)
end
/-! ### the law's cells, bags, texts, names, keys, references -/
def spCellAt (K : PySem.W.Frag) : Sp := fun vs H Q _ => ∃ (a : Addr) (ns : List Int) (k : Nat), vs = [.ref a, .int (k : Int)] ∧ SqL K H a (ns.map V.int) ∧ ∀ c : Int, Q (.int c) H
def spBag : Sp := fun vs H Q _ => ∃ (c : Int) (k : Nat), vs = [.int c, .int (k : Int)] ∧ k ≤ 1000 ∧ ∀ (p : Addr) (H' : Hp), H p = none → Sm H H' → Bag H' p 0 → Q (.ref p) H'
def SIGNS : Str := " !\"#$&'()*+,-./0123456789:;<=>?@ABCDEFGHIJKLMNOPQRSTUVWXYZ[\\]^_`abcdefghijklmnopqrstuvwxyz{|}~"
def spSigns : Sp := fun vs H Q _ => vs = [] ∧ Q (.str SIGNS) H
def spText : Sp := fun vs H Q _ => ∃ (b : Addr) (most m : Nat), vs = [.ref b, .int (most : Int)] ∧ Bag H b m ∧ m + 2000 ≤ LIM ∧ most ≤ 1000 ∧ ∀ (z : Str) (H' : Hp), WT z most → Go b 1100 H H' → Q (.str z) H'
def AZ (c : Nat) : Bool := decide (97 ≤ c) && decide (c ≤ 122)
structure NM (z : Str) : Prop where
  len : (tl z).length ≤ 8
  pos : 1 ≤ (tl z).length
  sg : ∀ c ∈ tl z, AZ c = true
def spName : Sp := fun vs H Q _ => ∃ (b : Addr) (m : Nat), vs = [.ref b] ∧ Bag H b m ∧ m + 2000 ≤ LIM ∧ ∀ (z : Str) (H' : Hp), NM z → Go b 20 H H' → Q (.str z) H'
structure KEY (z : Str) : Prop where
  wt : WT z 40
  pos : 1 ≤ (tl z).length
def spKey : Sp := fun vs H Q _ => ∃ (b : Addr) (m : Nat), vs = [.ref b] ∧ Bag H b m ∧ m + 5000 ≤ LIM ∧ ∀ (z : Str) (H' : Hp), KEY z → Go b 1200 H H' → Q (.str z) H'
/-- a reference stands at p -/
structure RefAt (K : PySem.W.Frag) (H : Hp) (p : Addr) (name : Str) (keys : List Str) : Prop where
  ex : ∃ t : Addr, SqT K H p [.str name, .ref t] ∧ SqT K H t (keys.map V.str)
structure REF (name : Str) (keys : List Str) : Prop where
  nm : NM name
  le : keys.length ≤ 6
  ks : ∀ z ∈ keys, KEY z
def spRef (K : PySem.W.Frag) : Sp := fun vs H Q _ => ∃ (b : Addr) (m : Nat), vs = [.ref b] ∧ Bag H b m ∧ m + 20000 ≤ LIM ∧ ∀ (p : Addr) (name : Str) (keys : List Str) (H' : Hp), REF name keys → RefAt K H' p name keys → Go b 8000 H H' → Q (.ref p) H'
theorem sgn_of {z : Str} (h : (tl z).all sgn = true) : ∀ c ∈ tl z, sgn c = true := fun c hc => List.all_eq_true.mp h c hc
theorem WT.dec {z : Str} {n : Nat} (h : (decide ((tl z).length ≤ n) && (tl z).all sgn) = true) : WT z n := by
  rw [Bool.and_eq_true] at h
  exact ⟨of_decide_eq_true h.1, sgn_of h.2⟩
/-- all of a list of values are texts that are so -/
def allWT (n : Nat) (vs : List V) : Bool := vs.all fun v => match v with
  | .str z => decide ((tl z).length ≤ n) && (tl z).all sgn
  | _ => false
theorem allWT_ok {n : Nat} {vs : List V} (h : allWT n vs = true) : ∀ v ∈ vs, ∃ z, v = .str z ∧ WT z n := fun v hv => by
  have q := List.all_eq_true.mp h v hv
  cases v with
  | str z => exact ⟨z, rfl, WT.dec q⟩
  | _ => cases q
def allInt (lo hi : Int) (vs : List V) : Bool := vs.all fun v => match v with
  | .int z => decide (lo ≤ z) && decide (z ≤ hi)
  | _ => false
theorem allInt_ok {lo hi : Int} {vs : List V} (h : allInt lo hi vs = true) : ∀ v ∈ vs, ∃ z, v = .int z ∧ lo ≤ z ∧ z ≤ hi := fun v hv => by
  have q := List.all_eq_true.mp h v hv
  cases v with
  | int z =>
    have q' : (decide (lo ≤ z) && decide (z ≤ hi)) = true := q
    rw [Bool.and_eq_true] at q'
    exact ⟨z, rfl, of_decide_eq_true q'.1, of_decide_eq_true q'.2⟩
  | _ => cases q
theorem RefAt.go {K : PySem.W.Frag} {b : Addr} {n m : Nat} {H H' : Hp} {p : Addr} {name : Str} {keys : List Str} (R : RefAt K H p name keys) (G : Go b n H H') (B : Bag H b m) : RefAt K H' p name keys := by
  obtain ⟨t, h1, h2⟩ := R.ex
  exact ⟨t, G.seqT B h1, G.seqT B h2⟩
theorem RefAt.same {K : PySem.W.Frag} {H H' : Hp} {p : Addr} {name : Str} {keys : List Str} (R : RefAt K H p name keys) (G : Sm H H') : RefAt K H' p name keys := by
  obtain ⟨t, h1, h2⟩ := R.ex
  exact ⟨t, Sm.seqT G h1, Sm.seqT G h2⟩
section
variable {P : Program} {w : World} {K : PySem.W.Frag} {mg : Str → Option Value} {base : Heap} {cs : Tabs}
theorem ok_law_cell_at (T : Txt K mg cs) : Cal P w K mg base 1 "_law_cell_at" ["script", "k"] (spCellAt K) := by
  refine T.f_law_cell_at.cal scLawCellAt (fun vs H Q E h => ?_) (fun f cdv A outer s H vs Q E hr h => ?_)
  · obtain ⟨a, ns, k, rfl, _⟩ := h
    rfl
  obtain ⟨a, ns, k, rfl, hS, q⟩ := h
  refine ⟨_, (pss_cons (ps_if (pt_cmpR op_lt (pv 1) (pe_callB (lenQ K) rfl T.n_len (by decide +kernel) (pa_cons (pv 0) pa_nil)) (nomark _)) (pss_one (ps_ret (pe_ix (ixL K) (pv 0) (pv 1) (fun _ _ => rfl)))) pss_nil)
    (pss_one (ps_ret pe_int))), ?_⟩
  refine ⟨_, rfl, _, rfl, a, _, rfl, .inl hS, _, _, rfl, rfl, _, rfl, ?_⟩
  refine ite2 (fun c => ?_) (fun c => ?_)
  · have c' : (k : Int) < (((ns.map V.int).length : Nat) : Int) := of_decide_eq_true c
    have hk : k < ns.length := by
      rw [List.length_map] at c'
      omega
    have e : (ns.map V.int)[k]? = some (.int ns[k]) := by
      rw [List.getElem?_map, List.getElem?_eq_getElem hk]
      rfl
    exact ⟨_, rfl, _, rfl, a, _, (k : Int), _, rfl, rfl, hS, atI_nat e, q _⟩
  · exact q 0
end
section
variable {P : Program} {w : World} {K : PySem.W.Frag} {mg : Str → Option Value} {base : Heap} {cs : Tabs}
theorem ok_law_bag (T : Txt K mg cs) : Cal P w K mg base 1 "_law_bag" ["cell", "nth"] spBag := by
  refine T.f_law_bag.cal scLawBag (fun vs H Q E h => ?_) (fun f cdv A outer s H vs Q E hr h => ?_)
  · obtain ⟨a, k, rfl, _⟩ := h
    rfl
  obtain ⟨c, k, rfl, hk, q⟩ := h
  refine ⟨_, (pss_one (ps_ret (pe_lst (pa_cons (pe_callB (call_max2 rfl) rfl T.n_max (by decide +kernel) (pa_cons pe_int (pa_cons (pe_op op_sub (pv 0) (pe_op op_powW pe_int pe_int)) pa_nil))) (pa_cons (pe_op op_add (pe_op op_mod (pv 0) pe_int) (pe_op op_mulW pe_int (pv 1))) (pa_cons pe_int pa_nil)))))), ?_⟩
  refine ⟨_, rfl, 10, 18, rfl, rfl, ⟨by decide, by decide, by decide⟩, c, _, rfl, rfl, 0, _, rfl, ?_⟩
  refine ⟨_, rfl, c, _, rfl, rfl, (show (0 : Int) < 170141183460469231731687303715884105727 by decide), _, rfl, 104395303, (k : Int), rfl, rfl, wide_mul (a := 40) (b := 40) (by decide) (nat_lt (by omega) (by omega)) (by decide) (by decide) (by decide), _, _, rfl, rfl, ?_⟩
  refine ⟨(by show 3 ≤ sizeLine; decide), fun p hp => q p _ hp (Sm.new hp) ⟨_, _, 0, upd_same, ?_, ?_, Int.le_refl 0, Int.le_refl 0⟩⟩
  · have := Int.emod_nonneg c (show (170141183460469231731687303715884105727 : Int) ≠ 0 by decide)
    show 0 ≤ c % 170141183460469231731687303715884105727 + 104395303 * (k : Int)
    omega
  · have := Int.emod_lt_of_pos c (show (0 : Int) < 170141183460469231731687303715884105727 by decide)
    show c % 170141183460469231731687303715884105727 + 104395303 * (k : Int) < 2 ^ 200
    omega
theorem ok_law_signs (T : Txt K mg cs) : Cal P w K mg base 1 "_law_signs" [] spSigns := by
  refine T.f_law_signs.cal scLawSigns (fun vs H Q E h => ?_) (fun f cdv A outer s H vs Q E hr h => ?_)
  · obtain ⟨rfl, _⟩ := h
    rfl
  obtain ⟨rfl, q⟩ := h
  refine ⟨_, (pss_cons (ps_set (i := 0) scLawSigns.nd rfl (by first | exact Or.inl rfl | exact Or.inr rfl) pe_str)
    (pss_one (ps_ret (pe_op op_add_str (pe_op op_add_str (pe_op op_add_str (pe_op op_add_str pe_str (pe_upper (pv 0))) pe_str) (pv 0)) pe_str)))), ?_⟩
  refine ⟨_, rfl, ⟨_, rfl⟩, _, rfl, rfl, (by decide +kernel), _, _, rfl, rfl, (by decide +kernel), _, _, rfl, rfl, (by decide +kernel), _, rfl, _, _, rfl, rfl, (by decide +kernel), _, _, rfl, rfl, (by decide +kernel), ?_⟩
  have e : ((((" !\"#$&'()*+,-./0123456789:;<=>?@" : Str) ++ Txt.upper ("abcdefghijklmnopqrstuvwxyz" : Str)) ++ ("[\\]^_`" : Str)) ++ ("abcdefghijklmnopqrstuvwxyz" : Str)) ++ ("{|}~" : Str) = SIGNS := by decide +kernel
  exact (congrArg (fun z => Q (.str z) H) e).mpr q
end
section
variable {P : Program} {w : World} {K : PySem.W.Frag} {mg : Str → Option Value} {base : Heap} {cs : Tabs}
def JOINTS : List V := [.str "; ", .str ":", .str "=", .str ",", .str "|", .str "|  ", .str ")", .str "(", .str "\"", .str "\"\"", .str ")=\"", .str "; write 1", .str "=\"", .str "x", .str " "]
theorem SIGNS_wt : WT SIGNS 94 := WT.dec (by decide +kernel)
theorem some_sign {z : Str} {n j : Nat} (h : WT z n) (hj : j < (tl z).length) : ∃ c, atI (tl z) (j : Int) = some c ∧ sgn c = true := ⟨(tl z)[j], atI_nat (List.getElem?_eq_getElem hj), h.sg _ (List.getElem_mem hj)⟩
theorem WT.one {c : Nat} (h : sgn c = true) : WT ⟨#[c]⟩ 1 := ⟨Nat.le_refl _, fun d hd => by
  have e : d = c := List.mem_singleton.mp (show d ∈ [c] from hd)
  rw [e]
  exact h⟩
/-- some[draw(bag, len(some))], some a text -/
theorem sign_drawn {b : Addr} {i j m : Nat} {σ : L2.St} {H : Hp} {z : Str} {Q : VK} (hb : σ[i]? = some (some (.ref b))) (hs : σ[j]? = some (some (.str z))) (B : Bag H b m) (hm : m ≤ LIM) (hz : (tl z).length ≤ 1000) (h0 : 0 < (tl z).length)
    (q : ∀ c H', c ∈ tl z → Go b 1 H H' → Q (.str ⟨#[c]⟩) H') :
    tOp rIxS (tVar j) (tCall spDraw [] E0 (tCons (tVar i) (tCons (tCB rLenT1 (tCons (tVar j) tNil)) tNil))) σ H Q := by
  have e : z.length = (tl z).length := len_tl z
  refine ⟨_, hs, _, hb, _, hs, z, rfl, (by rw [e]; exact small (by omega)), b, (z.length : Int), m, rfl, B, hm, by omega, by omega, fun r H' r0 r1 G => ?_⟩
  obtain ⟨k, rfl⟩ : ∃ k : Nat, r = (k : Int) := ⟨r.toNat, by omega⟩
  have hk : k < (tl z).length := by omega
  exact ⟨z, (k : Int), _, rfl, rfl, (by rw [e]; exact small (by omega)), atI_nat (List.getElem?_eq_getElem hk), q _ _ (List.getElem_mem hk) G⟩
theorem list_drawn {A : V → Prop} {b p : Addr} {i j n m : Nat} {σ : L2.St} {H : Hp} {xs : List V} {Q : VK} (hb : σ[i]? = some (some (.ref b))) (hs : σ[j]? = some (some (.ref p))) (hp : H p = some (.lst xs)) (np : p ≠ b) (B : Bag H b m) (hm : m ≤ LIM) (hn : xs.length = n) (h0 : 0 < n ∧ n ≤ 1000)
    (hA : ∀ v ∈ xs, A v) (q : ∀ v H', A v → Go b 1 H H' → Q v H') : tOp (rIxL K) (tVar j) (tCall spDraw [] E0 (tCons (tVar i) (tCons (tC (.int ((n : Nat) : Int))) tNil))) σ H Q := by
  refine ⟨_, hs, _, hb, b, (n : Int), m, rfl, B, hm, by omega, by omega, fun r H' r0 r1 G => ?_⟩
  obtain ⟨k, rfl⟩ : ∃ k : Nat, r = (k : Int) := ⟨r.toNat, by omega⟩
  have hk : k < xs.length := by omega
  exact ⟨p, xs, (k : Int), _, rfl, rfl, SqL.of (G.keep p _ np hp), atI_nat (List.getElem?_eq_getElem hk), q _ _ (hA _ (List.getElem_mem hk)) G⟩
end
section
variable {P : Program} {w : World} {K : PySem.W.Frag} {mg : Str → Option Value} {base : Heap} {cs : Tabs}
theorem ok_law_text (T : Txt K mg cs) (C_law_draw : Cal P w K mg base 1 "_law_draw" ["bag", "many"] spDraw) (C_law_signs : Cal P w K mg base 1 "_law_signs" [] spSigns) : Cal P w K mg base 2 "_law_text" ["bag", "most"] spText := by
  refine T.f_law_text.cal scLawText (fun vs H Q E h => ?_) (fun f cdv A outer s H vs Q E hr h => ?_)
  · obtain ⟨b, most, m, rfl, _⟩ := h
    rfl
  obtain ⟨b, most, m, rfl, B, hm, hmost, q⟩ := h
  refine ⟨_, (pss_cons (ps_set (i := 2) scLawText.nd rfl (by first | exact Or.inl rfl | exact Or.inr rfl) (pe_cal C_law_draw (hr.mono (by first | decide | omega)) (pa_cons (pv 0) (pa_cons pe_int pa_nil))))
    (pss_cons (ps_if (pt_cmpR op_lt (pv 2) pe_int (nomark _)) (pss_cons (ps_set (i := 5) scLawText.nd rfl (by first | exact Or.inl rfl | exact Or.inr rfl) (pe_cal C_law_draw (hr.mono (by first | decide | omega)) (pa_cons (pv 0) (pa_cons (pe_ix (ixL K) (pe_lst (pa_cons pe_int (pa_cons pe_int (pa_cons (pe_op op_powW pe_int pe_int) (pa_cons (pe_op op_powW pe_int pe_int) pa_nil))))) (pe_cal C_law_draw (hr.mono (by first | decide | omega)) (pa_cons (pv 0) (pa_cons pe_int pa_nil))) (fun _ _ => rfl)) pa_nil))))
        (pss_one (ps_ret (pe_slice sl_str (pe_callTy call_str_int rfl T.n_str (by decide +kernel) (pa_cons (pe_op op_mulW (pv 5) (pe_ix (ixL K) (pe_lst (pa_cons pe_int (pa_cons pe_int (pa_cons (pe_un un_neg pe_int) pa_nil)))) (pe_cal C_law_draw (hr.mono (by first | decide | omega)) (pa_cons (pv 0) (pa_cons pe_int pa_nil))) (fun _ _ => rfl))) pa_nil)) po_none (po_some (pv 1)))))) pss_nil)
    (pss_cons (ps_if (pt_cmpR op_eq (pv 2) pe_int (nomark _)) (pss_cons (ps_set (i := 6) scLawText.nd rfl (by first | exact Or.inl rfl | exact Or.inr rfl) (pe_lst (pa_cons pe_str (pa_cons pe_str (pa_cons pe_str (pa_cons pe_str (pa_cons pe_str (pa_cons pe_str (pa_cons pe_str (pa_cons pe_str (pa_cons pe_str (pa_cons pe_str (pa_cons pe_str (pa_cons pe_str (pa_cons pe_str (pa_cons pe_str (pa_cons pe_str (pa_cons pe_str pa_nil))))))))))))))))))
        (pss_one (ps_ret (pe_slice sl_str (pe_ix (ixL K) (pv 6) (pe_cal C_law_draw (hr.mono (by first | decide | omega)) (pa_cons (pv 0) (pa_cons pe_int pa_nil))) (fun _ _ => rfl)) po_none (po_some (pv 1)))))) pss_nil)
    (pss_cons (ps_if (pt_cmpR op_eq (pv 2) pe_int (nomark _)) (pss_cons (ps_set (i := 3) scLawText.nd rfl (by first | exact Or.inl rfl | exact Or.inr rfl) (pe_lst (pa_cons pe_str (pa_cons pe_str (pa_cons pe_str (pa_cons pe_str (pa_cons pe_str (pa_cons pe_str (pa_cons pe_str (pa_cons pe_str (pa_cons pe_str (pa_cons pe_str (pa_cons pe_str (pa_cons pe_str (pa_cons pe_str (pa_cons pe_str (pa_cons pe_str pa_nil)))))))))))))))))
        (pss_one (ps_ret (pe_slice sl_str (pe_join pe_str (pe_lc (own := [("k", 7)]) (g := gName 7) (tt := tYes) rfl scLawText.nd (pi_range1 rfl T.n_range (pa_cons (pe_op op_add pe_int (pe_cal C_law_draw (hr.mono (by first | decide | omega)) (pa_cons (pv 0) (pa_cons pe_int pa_nil)))) pa_nil)) (blkOk_by (own := [("k", 7)]) (N := ["bag", "most", "lot", "some", "many", "number", "near", "k"]) (sc := defScope sLawText) (by decide +kernel)) (fun _ _ _ _ _ => (pg_name (i := 7) scLawText.nd rfl (by first | exact Or.inl rfl | exact Or.inr rfl))) (fun _ _ _ _ _ => pts_nil) (fun _ _ _ _ _ => (pe_ix (ixL K) (pv 3) (pe_cal C_law_draw (hr.mono (by first | decide | omega)) (pa_cons (pv 0) (pa_cons pe_int pa_nil))) (fun _ _ => rfl))))) po_none (po_some (pv 1)))))) pss_nil)
    (pss_cons (ps_set (i := 3) scLawText.nd rfl (by first | exact Or.inl rfl | exact Or.inr rfl) (pe_ix (ixL K) (pe_lst (pa_cons pe_str (pa_cons pe_str (pa_cons (pe_cal0 C_law_signs (hr.mono (by first | decide | omega))) pa_nil)))) (pe_op op_sub (pv 2) pe_int) (fun _ _ => rfl)))
    (pss_cons (ps_set (i := 4) scLawText.nd rfl (by first | exact Or.inl rfl | exact Or.inr rfl) (pe_ix (ixL K) (pe_lst (pa_cons pe_int (pa_cons pe_int (pa_cons (pe_cal C_law_draw (hr.mono (by first | decide | omega)) (pa_cons (pv 0) (pa_cons (pe_op op_add (pv 1) pe_int) pa_nil))) pa_nil)))) (pe_cal C_law_draw (hr.mono (by first | decide | omega)) (pa_cons (pv 0) (pa_cons pe_int pa_nil))) (fun _ _ => rfl)))
    (pss_one (ps_ret (pe_join pe_str (pe_lc (own := [("k", 7)]) (g := gName 7) (tt := tYes) rfl scLawText.nd (pi_range1 rfl T.n_range (pa_cons (pe_callB (call_min2 rfl) rfl T.n_min (by decide +kernel) (pa_cons (pv 4) (pa_cons (pv 1) pa_nil))) pa_nil)) (blkOk_by (own := [("k", 7)]) (N := ["bag", "most", "lot", "some", "many", "number", "near", "k"]) (sc := defScope sLawText) (by decide +kernel)) (fun _ _ _ _ _ => (pg_name (i := 7) scLawText.nd rfl (by first | exact Or.inl rfl | exact Or.inr rfl))) (fun _ _ _ _ _ => pts_nil) (fun _ _ _ _ _ => (pe_ix ix_str (pv 3) (pe_cal C_law_draw (hr.mono (by first | decide | omega)) (pa_cons (pv 0) (pa_cons (pe_callB lenT rfl T.n_len (by decide +kernel) (pa_cons (pv 3) pa_nil)) pa_nil))) (fun _ _ => rfl))))))))))))), ?_⟩
  unfold LIM at hm
  refine draw_here (i := 0) rfl B (by unfold LIM; omega) (by decide) (by decide) fun lot H1 l0 l1 G1 => ?_
  have B1 := G1.bag _ B
  refine ⟨_, rfl, lot, 2, rfl, rfl, _, rfl, ?_⟩
  refine ite2 (fun c => ?_) (fun c => ?_)
  · -- a number's text
    refine ⟨_, rfl, menuG (n := 4) (c := 0) (A := fun v => ∃ k : Int, v = .int k ∧ 0 < k ∧ k ≤ 10 ^ 40) (m := m + 1) (i := 0) (fun R h => ⟨10, 20, rfl, rfl, ⟨by decide, by decide, by decide⟩, 10, 40, rfl, rfl, ⟨by decide, by decide, by decide⟩, h _ _ rfl (fun v hv => ?_) (Go.refl b _)⟩) rfl B1 (by unfold LIM; omega) (by decide) (by decide) fun v H2 hv G2 => ?_⟩
    · rcases List.mem_cons.mp hv with rfl | hv
      · exact ⟨10, rfl, by decide, by decide⟩
      rcases List.mem_cons.mp hv with rfl | hv
      · exact ⟨200, rfl, by decide, by decide⟩
      rcases List.mem_cons.mp hv with rfl | hv
      · exact ⟨10 ^ 20, rfl, by decide, by decide⟩
      rcases List.mem_cons.mp hv with rfl | hv
      · exact ⟨10 ^ 40, rfl, by decide, by decide⟩
      · cases hv
    obtain ⟨k, rfl, k0, k1⟩ := hv
    have B2 := G2.bag _ B1
    refine ⟨b, k, m + 1 + (0 + 1), rfl, B2, by unfold LIM; omega, k0, by omega, fun num H3 n0 n1 G3 => ?_⟩
    have B3 := G3.bag _ B2
    refine ⟨_, rfl, menuG (n := 3) (c := 0) (A := fun v => ∃ k : Int, v = .int k ∧ k.natAbs ≤ 1) (m := m + 1 + (0 + 1) + 1) (i := 0) (fun R h => ⟨1, rfl, h _ _ rfl (fun v hv => ?_) (Go.refl b _)⟩) rfl B3 (by unfold LIM; omega) (by decide) (by decide) fun v H4 hv G4 => ?_⟩
    · rcases List.mem_cons.mp hv with rfl | hv
      · exact ⟨1, rfl, by decide⟩
      rcases List.mem_cons.mp hv with rfl | hv
      · exact ⟨1, rfl, by decide⟩
      rcases List.mem_cons.mp hv with rfl | hv
      · exact ⟨-1, rfl, by decide⟩
      · cases hv
    obtain ⟨j, rfl, j0⟩ := hv
    have hp : (num * j).natAbs < 10 ^ 40 := by
      rw [Int.natAbs_mul]
      have a1 : num.natAbs * j.natAbs ≤ num.natAbs * 1 := Nat.mul_le_mul_left _ j0
      omega
    have W := WT.int (by decide) hp
    refine ⟨num, j, rfl, rfl, wide_mul (a := 200) (b := 10) (nat_lt n0 (by omega)) (by omega) (by decide) (by decide) (by decide), num * j, rfl, Nat.lt_trans (PySem.Flt.log2_lt_of (n := (num * j).natAbs) (k := 200) (by decide) (by omega)) (by decide), ?_⟩
    refine ⟨_, rfl, (most : Int), rfl, _, rfl, W.line (by decide), ?_⟩
    exact q _ _ (WT.cut W.sg most) ((((G1.trans G2).trans G3).trans G4).mono (by omega))
  refine ⟨_, rfl, rfl, _, rfl, ?_⟩
  refine ite2 (fun c2 => ?_) (fun c2 => ?_)
  · -- a near one
    refine ⟨(by show 16 ≤ sizeLine; decide), fun p hp => ?_⟩
    refine list_drawn (i := 0) (j := 6) (n := 16) (A := fun v => ∃ z, v = .str z ∧ WT z 20) rfl rfl upd_same (B1.ne hp) ((Go.new hp).bag _ B1) (by unfold LIM; omega) rfl (by decide) (allWT_ok (by decide +kernel)) fun v H2 hv G2 => ?_
    obtain ⟨z, rfl, W⟩ := hv
    refine ⟨_, rfl, (most : Int), rfl, z, rfl, W.line (by decide), ?_⟩
    exact q _ _ (WT.cut W.sg most) (((G1.trans (Go.new hp)).trans G2).mono (by omega))
  refine ⟨_, rfl, rfl, _, rfl, ?_⟩
  refine ite2 (fun c3 => ?_) (fun c3 => ?_)
  · -- joints
    refine ⟨(by show 15 ≤ sizeLine; decide), fun p hp => ?_⟩
    have np := B1.ne hp
    have hp' : (upd H1 p (.lst JOINTS)) p = some (.lst JOINTS) := upd_same
    have B2 := (Go.new (o := .lst JOINTS) hp).bag _ B1
    refine ⟨⟨_, rfl⟩, lc_drawn (i := 7) (N := 4) (c0 := 1) (c := 1) (A0 := fun _ => True) (fun v => ∃ z, v = .str z ∧ WT z 20) (fun R h => draw_here (i := 0) (by rfl) B2 (by unfold LIM; omega) (by decide) (by decide) fun r H3 r0 r1 G3 => ⟨1, r, rfl, rfl, h _ _ trivial (by omega) (by omega) G3⟩) B2 (by decide) (fun j H4 hj B4 G4 R hR => ?_) fun k D ys H4 _ k0 k1 hl hA G4 hy _ => ?_⟩
    · exact list_drawn (i := 0) (j := 3) (n := 15) (by rfl) (by rfl) (G4.keep p _ np hp') np B4 (by unfold LIM; omega) rfl (by decide) (allWT_ok (by decide +kernel)) hR
    · obtain ⟨zs, rfl, hz, hW⟩ := texts_of ys hA
      have hl' : zs.length = k.toNat := by rw [hz]; exact hl
      refine ⟨_, D, zs, rfl, rfl, .inl (SqL.of hy), glue_ok (k := 20) (n := zs.length) (fun y hy => (hW y hy).len) rfl (by omega), ?_⟩
      have W := WT.glue hW
      refine ⟨_, rfl, (most : Int), rfl, _, rfl, W.line (by omega), ?_⟩
      exact q _ _ (WT.cut W.sg most) (((G1.trans (Go.new hp)).trans G4).mono (by omega))
  -- signs
  have q3 : lot = 3 ∨ lot = 4 ∨ lot = 5 := by
    have e1 : ¬ lot < 2 := of_decide_eq_false (Bool.eq_false_iff.mpr c)
    have e2 : ¬ lot = 2 := fun e => c2 (by rw [e]; rfl)
    have e3 : ¬ lot = 6 := fun e => c3 (by rw [e]; rfl)
    omega
  refine ⟨rfl, (by show 3 ≤ sizeLine; decide), fun p hp => ?_⟩
  have np := B1.ne hp
  have hsome : ∃ z : Str, WT z 94 ∧ 0 < (tl z).length ∧ atI [V.str "0123456789+-a ", V.str "ab", V.str SIGNS] (lot - 3) = some (.str z) := by
    rcases q3 with rfl | rfl | rfl
    · exact ⟨_, WT.dec (by decide +kernel), by decide +kernel, rfl⟩
    · exact ⟨_, WT.dec (by decide +kernel), by decide +kernel, rfl⟩
    · exact ⟨_, SIGNS_wt, by decide +kernel, rfl⟩
  obtain ⟨z, W, z0, hat⟩ := hsome
  refine ⟨_, rfl, lot, 3, rfl, rfl, p, _, lot - 3, .str z, rfl, rfl, SqL.of upd_same, hat, ?_⟩
  have B2 := (Go.new (o := .lst [V.str "0123456789+-a ", V.str "ab", V.str SIGNS]) hp).bag _ B1
  dsimp only [gName, tSeq, tAsg, tRet, tDrop, tNext]
  refine menuG (n := 3) (c := 1) (i := 0) (A := fun v => ∃ k : Int, v = .int k ∧ 0 ≤ k) (fun R h => ?_) (by rfl) B2 (by unfold LIM; omega) (by decide) (by decide) fun v H3 hv G3 => ?_
  · refine ⟨_, rfl, _, rfl, (most : Int), 1, rfl, rfl, b, (most : Int) + 1, m + 1 + 0, rfl, B2, by unfold LIM; omega, by omega, by omega, fun r H3 r0 r1 G3 => h _ _ rfl (fun v hv => ?_) G3⟩
    rcases List.mem_cons.mp hv with rfl | hv
    · exact ⟨1, rfl, by decide⟩
    rcases List.mem_cons.mp hv with rfl | hv
    · exact ⟨2, rfl, by decide⟩
    rcases List.mem_cons.mp hv with rfl | hv
    · exact ⟨r, rfl, r0⟩
    · cases hv
  obtain ⟨k, rfl, k0⟩ := hv
  have B3 := G3.bag _ B2
  refine ⟨⟨_, rfl⟩, lc_drawn (i := 7) (N := most) (c0 := 0) (c := 1) (A0 := fun _ => True) (fun v => ∃ z, v = .str z ∧ WT z 1) (fun R h => ⟨_, rfl, _, rfl, k, (most : Int), rfl, h _ _ trivial (by split <;> omega) (by split <;> omega) (Go.refl b _)⟩) B3 (by omega) (fun j H4 hj B4 G4 R hR => ?_) fun k' D ys H4 _ k0' k1' hl hA G4 hy _ => ?_⟩
  · exact sign_drawn (i := 0) (j := 3) (by rfl) (by rfl) B4 (by unfold LIM; omega) (Nat.le_trans W.len (by decide)) z0 fun c H' hc G' => hR _ _ ⟨_, rfl, WT.one (W.sg c hc)⟩ G'
  · obtain ⟨zs, rfl, hz, hW⟩ := texts_of ys hA
    have hl' : zs.length ≤ most := by rw [hz, hl]; omega
    refine ⟨_, D, zs, rfl, rfl, .inl (SqL.of hy), glue_ok (k := 1) (n := zs.length) (fun y hy => (hW y hy).len) rfl (by omega), ?_⟩
    have W' := WT.glue hW
    exact q _ _ (W'.mono (by omega)) ((((G1.trans (Go.new hp)).trans G3).trans G4).mono (by omega))
end
/-! ### loops, and heaps behind a bag that is one's own -/
theorem Sm.go {H0 H1 H2 : Hp} {b : Addr} {n : Nat} (S : Sm H0 H1) (G : Go b n H1 H2) (hb : H0 b = none) : Sm H0 H2 := ⟨fun a o h nt => G.keep a o (ne_of_none h hb) (S.keep a o h nt) nt, fun P t => G.tab P (S.tab P t), fun a ha => S.gone a (G.gone a ha)⟩
theorem SqT.upd {K : PySem.W.Frag} {H : Hp} {S t : Addr} {xs ys : List V} {o : HO} (h : SqT K H t xs) (hs : H S = some (.lst ys)) : SqT K (upd H S o) t xs := by
  have ne : ∀ {u : HO}, H t = some u → (∀ zs, u ≠ .lst zs) → t ≠ S := fun hu no e => by
    rw [e, hs] at hu
    exact no _ (Option.some.inj hu).symm
  rcases h with (h | ⟨ob, h⟩) | h
  · exact .inl (.inl (by rw [upd_ne (ne h fun _ z => by cases z)]; exact h))
  · exact .inl (.inr ⟨ob, by rw [upd_ne (ne h fun _ z => by cases z)]; exact h⟩)
  · exact .inr h
theorem RefAt.upd {K : PySem.W.Frag} {H : Hp} {S p : Addr} {n : Str} {ks : List Str} {ys : List V} {o : HO} (h : RefAt K H p n ks) (hs : H S = some (.lst ys)) : RefAt K (upd H S o) p n ks := by
  obtain ⟨t, h1, h2⟩ := h.ex
  exact ⟨t, SqT.upd h1 hs, SqT.upd h2 hs⟩
theorem Bag.upd {H : Hp} {b S : Addr} {m : Nat} {o : HO} (B : Bag H b m) (ne : S ≠ b) : Bag (upd H S o) b m := by
  obtain ⟨x, y, z, h1, h2⟩ := B
  exact ⟨x, y, z, by rw [upd_ne (Ne.symm ne)]; exact h1, h2⟩
section
variable {K : PySem.W.Frag}
theorem for_in {i j : Nat} {S : Addr} {xs : List V} {tb : TS} {D : Ends} {σ : L2.St} {H : Hp} (Pv : Nat → L2.St → Hp → Prop) (hj : σ[j]? = some (some (.ref S))) (hS : SqL K H S xs) (h0 : Pv 0 σ H) (hl : ∀ n σ H, n ≤ xs.length → Pv n σ H → SqL K H S xs)
    (hs : ∀ n x σ H, xs[n]? = some x → Pv n σ H → tb { D with nx := Pv (n + 1), ct := Pv (n + 1), bk := D.nx } (σ.set i (some x)) H) (hd : ∀ σ H, Pv xs.length σ H → D.nx σ H) : tFor (iList K (tVar j)) (gName i) tb D σ H :=
  ⟨_, hj, S, rfl, ⟨_, hS⟩, for_list (xs := xs) Pv h0 hl hs hd⟩
theorem for_rng {i n : Nat} {ta : TA} {tb : TS} {D : Ends} {σ : L2.St} {H : Hp} (Pv : Nat → L2.St → Hp → Prop) (ha : ∀ R : List V → Hp → Prop, (∀ H1, Sm H H1 → R [.int (n : Int)] H1) → ta σ H R) (hn : n ≤ 90000) (h0 : ∀ H1, Sm H H1 → Pv 0 σ H1)
    (hs : ∀ j σ H, j < n → Pv j σ H → tb { D with nx := Pv (j + 1), ct := Pv (j + 1), bk := D.nx } (σ.set i (some (.int (0 + (j : Int))))) H) (hd : ∀ σ H, Pv n σ H → D.nx σ H) : tFor (iRng1 ta) (gName i) tb D σ H := by
  refine ha _ fun H1 S => ⟨(n : Int), rfl, by omega, by omega, ?_⟩
  exact for_range (lo := 0) (n := n) Pv (h0 H1 S) hs hd
/-- a comprehension over a list that keeps nothing -/
theorem lc_empty {i j : Nat} {S : Addr} {xs : List V} {σ : L2.St} {H : Hp} {tt : TT} {te : TE} {Q : VK} (hj : σ[j]? = some (some (.ref S))) (hS : SqL K H S xs)
    (ht : ∀ x H2, x ∈ xs → Sm H H2 → ∀ R : Bool → Hp → Prop, (∀ H', Sm H2 H' → R false H') → tt ((σ.set i none).set i (some x)) H2 R)
    (hQ : ∀ D H', Sm H H' → H' D = some (.lst []) → Q (.ref D) H') : tLc (iList K (tVar j)) (gName i) tt te [i] σ H Q := by
  refine ⟨_, hj, S, rfl, ⟨_, hS⟩, fun D hD => ?_⟩
  refine lc_list (K := K) (a := S) (xs := xs) (fun _ H' => Sm H H' ∧ H' D = some (.lst [])) ⟨Sm.new hD, upd_same⟩ (fun _ H' _ h => Sm.seq h.1 hS) (fun n x H' hx h => ?_) fun H' h => hQ D H' h.1 h.2
  refine ⟨?_, ?_⟩
  · show ((σ.set i none).set i (some x)).set i none = (σ.set i none)
    rw [List.set_set, List.set_set]
  · exact ht x H' (List.mem_of_getElem? hx) h.1 _ fun H2 S2 => iteF ⟨h.1.trans S2, S2 _ _ h.2⟩
theorem isi_bool {k : Bool} {H : Hp} {Q : VK} (q : Q (.bl true) H) : rIsi K [.bl k, .ty "bool"] H Q :=
  ⟨_, _, .type "bool", .type "bool", true, rfl, .ty "bool", .base (.bl k), kit_ty (by decide +kernel), q⟩
end
/-- a comprehension over a list that keeps nothing -/
theorem lc_none {K : PySem.W.Frag} {i : Nat} {te0 : TE} {xs : List V} {σ : L2.St} {H : Hp} {tt : TT} {te : TE} {Q : VK} (h0 : ∀ R : VK, (∀ S H1, Sm H H1 → SqL K H1 S xs → R (.ref S) H1) → te0 σ H R)
    (ht : ∀ x H2, x ∈ xs → Sm H H2 → ∀ R : Bool → Hp → Prop, (∀ H', Sm H2 H' → R false H') → tt ((σ.set i none).set i (some x)) H2 R)
    (hQ : ∀ D H', Sm H H' → H' D = some (.lst []) → Q (.ref D) H') : tLc (iList K te0) (gName i) tt te [i] σ H Q := by
  refine h0 _ fun S H1 S1 hS => ⟨S, rfl, ⟨_, hS⟩, fun D hD => ?_⟩
  refine lc_list (K := K) (a := S) (xs := xs) (fun _ H' => Sm H1 H' ∧ H' D = some (.lst [])) ⟨Sm.new hD, upd_same⟩ (fun _ H' _ h => Sm.seq h.1 hS) (fun n x H' hx h => ?_) fun H' h => hQ D H' (S1.trans h.1) h.2
  refine ⟨?_, ?_⟩
  · show ((σ.set i none).set i (some x)).set i none = (σ.set i none)
    rw [List.set_set, List.set_set]
  · exact ht x H' (List.mem_of_getElem? hx) (S1.trans h.1) _ fun H2 S2 => iteF ⟨h.1.trans S2, S2 _ _ h.2⟩
/-! ### the numbers that texts begin with: reckoned over their signs -/
open PySem.NumText (digitsVal AllDigits)
def SG : Str := "+-"
def FG : Str := "0123456789"
def isS (c : Nat) : Bool := decide (c ∈ tl SG)
def isF (c : Nat) : Bool := decide (c ∈ tl FG)
theorem tl_SG : tl SG = [43, 45] := by decide +kernel
theorem tl_FG : tl FG = [48, 49, 50, 51, 52, 53, 54, 55, 56, 57] := by decide +kernel
theorem isS_iff {c : Nat} : isS c = true ↔ c = 43 ∨ c = 45 := by
  unfold isS
  rw [tl_SG, decide_eq_true_eq]
  simp
theorem isF_iff {c : Nat} : isF c = true ↔ 48 ≤ c ∧ c ≤ 57 := by
  unfold isF
  rw [tl_FG, decide_eq_true_eq]
  simp only [List.mem_cons, List.not_mem_nil, or_false]
  omega
theorem find_FG {c : Nat} (h : isF c = true) : Txt.find FG ⟨#[c]⟩ = ((c - 48 : Nat) : Int) := by
  have h := isF_iff.mp h
  obtain ⟨j, rfl⟩ : ∃ j, c = 48 + j := ⟨c - 48, by omega⟩
  have hj : j < 10 := by omega
  have : ∀ j : Fin 10, Txt.find FG ⟨#[48 + j.val]⟩ = ((48 + j.val - 48 : Nat) : Int) := by decide +kernel
  exact this ⟨j, hj⟩
def cnt45 (l : List Nat) : Nat := l.countP fun c => c == 45
theorem count_cnt (x : Str) : Txt.count x "-" = (cnt45 (tl x) : Int) := by
  have e : ("-" : Str) = ⟨#[45]⟩ := by decide +kernel
  rw [e, PyProof.Rows.count_is]
  show PyProof.Rows.cnt 45 (tl x) = _
  generalize tl x = l
  induction l with
  | nil => rfl
  | cons a r ih =>
    rw [PyProof.Rows.cnt_cons, ih]
    unfold cnt45
    rw [List.countP_cons]
    by_cases h : a = 45
    · subst h
      simp
      omega
    · simp [h]
def figs (l : List Nat) : List Nat := (l.dropWhile isS).takeWhile isF
def minus (l : List Nat) : Bool := decide (cnt45 (l.takeWhile isS) % 2 = 1)
def numOf (l : List Nat) : Int := if minus l then -((digitsVal (figs l) : Nat) : Int) else ((digitsVal (figs l) : Nat) : Int)
/-- a walk ahead as long as p holds -/
theorem walked {p : Nat → Bool} : ∀ {l : List Nat} {i : Nat}, (∀ j c, j < i → l[j]? = some c → p c = true) → i ≤ l.length → (∀ c, l[i]? = some c → p c = false) → l.takeWhile p = l.take i ∧ l.dropWhile p = l.drop i
  | [], 0, _, _, _ => ⟨rfl, rfl⟩
  | c :: r, 0, _, _, h => by
    have := h c rfl
    simp [List.takeWhile_cons, List.dropWhile_cons, this]
  | c :: r, i + 1, h, hl, h2 => by
    have hc := h 0 c (by omega) rfl
    obtain ⟨a, b⟩ := walked (l := r) (i := i) (fun j d hj hd => h (j + 1) d (by omega) hd) (by simp at hl; omega) (fun d hd => h2 d hd)
    simp [List.takeWhile_cons, List.dropWhile_cons, hc, a, b]
theorem val_from (x : Nat) : ∀ b : List Nat, b.foldl (fun acc c => acc * 10 + (c - 48)) x = x * 10 ^ b.length + b.foldl (fun acc c => acc * 10 + (c - 48)) 0
  | [] => by simp
  | c :: r => by
    rw [List.foldl_cons, List.foldl_cons, val_from (x * 10 + (c - 48)) r, val_from (0 * 10 + (c - 48)) r, List.length_cons, Nat.pow_succ]
    generalize 10 ^ r.length = z
    generalize r.foldl (fun acc c => acc * 10 + (c - 48)) 0 = y
    rw [Nat.add_mul, Nat.zero_mul, Nat.zero_add, Nat.mul_assoc, Nat.mul_comm 10 z, Nat.add_assoc]
theorem val_append (a b : List Nat) : digitsVal (a ++ b) = digitsVal a * 10 ^ b.length + digitsVal b := by
  unfold digitsVal
  rw [List.foldl_append, val_from]
theorem val_lt : ∀ {l : List Nat}, AllDigits l → digitsVal l < 10 ^ l.length
  | [], _ => by decide
  | c :: r, h => by
    have hr := val_lt (l := r) fun d hd => h d (List.mem_cons_of_mem _ hd)
    have hc := h c List.mem_cons_self
    have e := val_append [c] r
    have e1 : digitsVal [c] = c - 48 := by
      show 0 * 10 + (c - 48) = _
      omega
    rw [show c :: r = [c] ++ r from rfl, e, e1, List.length_append, List.length_singleton, Nat.add_comm, Nat.pow_add]
    have : (c - 48) * 10 ^ r.length ≤ 9 * 10 ^ r.length := Nat.mul_le_mul_right _ (by omega)
    omega
theorem tw_self {p : Nat → Bool} : ∀ {l : List Nat}, (∀ c ∈ l, p c = true) → l.takeWhile p = l
  | [], _ => rfl
  | c :: r, h => by
    rw [List.takeWhile_cons, if_pos (h c List.mem_cons_self), tw_self fun d hd => h d (List.mem_cons_of_mem _ hd)]
theorem figs_digits (l : List Nat) : AllDigits (figs l) := fun c hc => isF_iff.mp (by
  have := List.all_takeWhile (p := isF) (l := l.dropWhile isS)
  exact List.all_eq_true.mp this c hc)
theorem figs_len (l : List Nat) : (figs l).length ≤ l.length := by
  unfold figs
  have a := (List.takeWhile_sublist (l := l.dropWhile isS) isF).length_le
  have b := (List.dropWhile_sublist (l := l) isS).length_le
  omega
/-- a number's text -/
def numT (n : Int) : List Nat := if n < 0 then 45 :: numL n.natAbs else numL n.natAbs
theorem numL_head : ∀ {n : Nat}, 0 < n → ∃ c r, numL n = c :: r ∧ 49 ≤ c := by
  intro n
  induction n using Nat.strongRecOn with
  | _ n ih =>
    intro h
    by_cases h10 : n < 10
    · exact ⟨48 + n, [], numL_lt h10, by omega⟩
    · obtain ⟨c, r, e, hc⟩ := ih (n / 10) (by omega) (by omega)
      exact ⟨c, r ++ [48 + n % 10], by rw [numL_step (by omega), e]; rfl, hc⟩
theorem numL_zero : numL 0 = [48] := numL_lt (by decide)
theorem numL_of {c : Nat} {r : List Nat} (h : AllDigits (c :: r)) (hc : 49 ≤ c) : numL (digitsVal (c :: r)) = c :: r := by
  unfold numL
  rw [PySem.NumText.toDigits_digitsVal r.length (c :: r) rfl h (.inr ⟨c, r, rfl, hc⟩), List.map_map]
  have : ∀ d ∈ c :: r, (Char.toNat ∘ Char.ofNat) d = d := fun d hd => by
    have := h d hd
    obtain ⟨j, rfl⟩ : ∃ j, d = 48 + j := ⟨d - 48, by omega⟩
    have hj : j < 10 := by omega
    have q : ∀ j : Fin 10, (Char.toNat ∘ Char.ofNat) (48 + j.val) = 48 + j.val := by decide +kernel
    exact q ⟨j, hj⟩
  rw [List.map_congr_left this, List.map_id'']
  intro _; rfl
/-- what is_number_text looks at -/
def bareOf (l : List Nat) : List Nat := match l with
  | 45 :: r => r
  | l => l
def isNum (l : List Nat) : Bool := match bareOf l with
  | 48 :: _ => decide (l = [48])
  | f => !decide (f = []) && f.all isF
theorem isNum_is (l : List Nat) : isNum l = decide (numT (numOf l) = l) := by
  have back : ∀ n : Int, isNum (numT n) = true := fun n => by
    unfold numT
    split
    · obtain ⟨c, r, e, hc⟩ := numL_head (n := n.natAbs) (by omega)
      have d := numL_digits n.natAbs
      rw [e] at d ⊢
      unfold isNum
      have : bareOf (45 :: c :: r) = c :: r := rfl
      rw [this]
      have hne : c ≠ 48 := by omega
      split
      · rename_i h
        injection h with h1
        exact absurd h1 hne
      · rw [Bool.and_eq_true]
        refine ⟨by simp, List.all_eq_true.mpr fun x hx => isF_iff.mpr (d x hx)⟩
    · by_cases z : n.natAbs = 0
      · rw [z, numL_zero]
        rfl
      · obtain ⟨c, r, e, hc⟩ := numL_head (n := n.natAbs) (by omega)
        have d := numL_digits n.natAbs
        rw [e] at d ⊢
        unfold isNum
        have hc' := d c List.mem_cons_self
        have : bareOf (c :: r) = c :: r := by
          unfold bareOf
          split
          · rename_i h
            injection h with h1
            omega
          · rfl
        rw [this]
        have hne : c ≠ 48 := by omega
        split
        · rename_i h
          injection h with h1
          exact absurd h1 hne
        · rw [Bool.and_eq_true]
          refine ⟨by simp, List.all_eq_true.mpr fun x hx => isF_iff.mpr (d x hx)⟩
  have forth : isNum l = true → numT (numOf l) = l := fun h => by
    unfold isNum at h
    split at h
    · have e := of_decide_eq_true h
      subst e
      decide +kernel
    · rename_i hf
      rw [Bool.and_eq_true] at h
      have hne : bareOf l ≠ [] := by simpa using h.1
      have hd : AllDigits (bareOf l) := fun c hc => isF_iff.mp (List.all_eq_true.mp h.2 c hc)
      obtain ⟨c, r, e⟩ : ∃ c r, bareOf l = c :: r := by
        cases q : bareOf l with
        | nil => exact absurd q hne
        | cons c r => exact ⟨c, r, rfl⟩
      rw [e] at hd
      have hc := hd c List.mem_cons_self
      have hc9 : 49 ≤ c := by
        have : c ≠ 48 := fun z => hf r (by rw [e, z])
        omega
      have nS : isS c = false := by
        cases q : isS c with
        | false => rfl
        | true =>
          have := isS_iff.mp q
          omega
      have tk : (c :: r).takeWhile isF = c :: r := tw_self fun d hd' => isF_iff.mpr (hd d hd')
      have pos := PySem.NumText.digitsVal_pos (cs := r) hc9
      by_cases h45 : ∃ s, l = 45 :: s
      · obtain ⟨s, rfl⟩ := h45
        have es : s = c :: r := e
        subst es
        have s45 : isS 45 = true := by decide +kernel
        have e1 : figs (45 :: c :: r) = c :: r := by
          unfold figs
          rw [List.dropWhile_cons, if_pos s45, List.dropWhile_cons, if_neg (by rw [nS]; decide), tk]
        have e2 : minus (45 :: c :: r) = true := by
          unfold minus
          rw [List.takeWhile_cons, if_pos s45, List.takeWhile_cons, if_neg (by rw [nS]; decide)]
          rfl
        unfold numOf
        rw [e2, e1, if_pos rfl]
        unfold numT
        rw [if_pos (by omega)]
        have : (-((digitsVal (c :: r) : Nat) : Int)).natAbs = digitsVal (c :: r) := by omega
        rw [this, numL_of hd hc9]
      · have el : l = c :: r := by
          rw [← e]
          unfold bareOf
          split
          · exact absurd ⟨_, rfl⟩ h45
          · rfl
        subst el
        have e1 : figs (c :: r) = c :: r := by
          unfold figs
          rw [List.dropWhile_cons, if_neg (by rw [nS]; decide), tk]
        have e2 : minus (c :: r) = false := by
          unfold minus
          rw [List.takeWhile_cons, if_neg (by rw [nS]; decide)]
          rfl
        unfold numOf
        rw [e2, e1, if_neg (by decide)]
        unfold numT
        rw [if_neg (by omega)]
        have : (((digitsVal (c :: r) : Nat) : Int)).natAbs = digitsVal (c :: r) := by omega
        rw [this, numL_of hd hc9]
  by_cases h : numT (numOf l) = l
  · rw [decide_eq_true h, ← h]
    rw [h]
    have := back (numOf l)
    rwa [h] at this
  · rw [decide_eq_false h]
    cases q : isNum l with
    | false => rfl
    | true => exact absurd (forth q) h
theorem numOf_numT (n : Int) : numOf (numT n) = n := by
  have hF : ∀ k : Nat, (numL k).takeWhile isF = numL k := fun k => tw_self fun d hd => isF_iff.mpr (numL_digits k d hd)
  have hS : ∀ k : Nat, (numL k).takeWhile isS = [] ∧ (numL k).dropWhile isS = numL k := fun k => by
    obtain ⟨c, r, e⟩ : ∃ c r, numL k = c :: r := by
      cases q : numL k with
      | nil => exact absurd q (numL_ne k)
      | cons c r => exact ⟨c, r, rfl⟩
    have hc := numL_digits k c (by rw [e]; exact List.mem_cons_self)
    have nS : isS c = false := by
      cases q : isS c with
      | false => rfl
      | true =>
        have := isS_iff.mp q
        omega
    rw [e, List.takeWhile_cons, List.dropWhile_cons, nS]
    exact ⟨rfl, rfl⟩
  have s45 : isS 45 = true := by decide +kernel
  unfold numT
  split
  · have e1 : figs (45 :: numL n.natAbs) = numL n.natAbs := by
      unfold figs
      rw [List.dropWhile_cons, if_pos s45, (hS _).2, hF]
    have e2 : minus (45 :: numL n.natAbs) = true := by
      unfold minus
      rw [List.takeWhile_cons, if_pos s45, (hS _).1]
      rfl
    unfold numOf
    rw [e2, e1, if_pos rfl, numL_val]
    omega
  · have e1 : figs (numL n.natAbs) = numL n.natAbs := by
      unfold figs
      rw [(hS _).2, hF]
    have e2 : minus (numL n.natAbs) = false := by
      unfold minus
      rw [(hS _).1]
      rfl
    unfold numOf
    rw [e2, e1, if_neg (by decide), numL_val]
    omega
/-! ### the defs that reckon with numbers of texts -/
open PySem.NumText (digitsVal AllDigits)
def spNumOf : Sp := fun vs H Q _ => ∃ z : Str, vs = [.str z] ∧ (tl z).length ≤ 250 ∧ Q (.int (numOf (tl z))) H
def spFigs : Sp := fun vs H Q _ => ∃ z : Str, vs = [.str z] ∧ (tl z).length ≤ 250 ∧ AllDigits (tl z) ∧ Q (.int ((digitsVal (tl z) : Nat) : Int)) H
theorem tl_sub (z : Str) (i j : Nat) (hi : i ≤ j) : tl (cutS z (some (i : Int)) (some (j : Int))) = ((tl z).take j).drop i := by
  show (((z.cps.toList.drop (HT.sIx z.length 0 (some (i : Int)))).take (HT.sIx z.length z.length (some (j : Int)) - HT.sIx z.length 0 (some (i : Int)))).toArray).toList = _
  rw [HT.sIx_nat, HT.sIx_nat, List.toList_toArray]
  have e : z.length = (tl z).length := len_tl z
  rw [e]
  show ((tl z).drop (min i (tl z).length)).take (min j (tl z).length - min i (tl z).length) = _
  rw [List.drop_take]
  by_cases h : i ≤ (tl z).length
  · rw [Nat.min_eq_left h]
    by_cases h2 : j ≤ (tl z).length
    · rw [Nat.min_eq_left h2]
    · rw [Nat.min_eq_right (by omega), List.take_of_length_le (by rw [List.length_drop]; exact Nat.le_refl _), List.take_of_length_le (by rw [List.length_drop]; omega)]
  · rw [List.drop_eq_nil_of_le (as := tl z) (i := i) (by omega), List.drop_eq_nil_of_le (as := tl z) (i := min i (tl z).length) (by omega)]
    simp
def rInS : R2 := fun x y H Q => ∃ (c : Nat) (z : Str), x = .str ⟨#[c]⟩ ∧ y = .str z ∧ Q (.bl (decide (c ∈ z.cps.toList))) H
/-- while at < len(worth) and worth[at] in Z: at += 1 -/
theorem scan_loop {i : Nat} {z Z : Str} {k0 : Nat} {σ : L2.St} {H : Hp} {D : Ends} (hz : σ[0]? = some (some (.str z))) (hi : σ[i]? = some (some (.int (k0 : Int)))) (i0 : i ≠ 0) (hl : (tl z).length ≤ 1000) (hk0 : k0 ≤ (tl z).length)
    (q : ∀ k, k0 ≤ k → k ≤ (tl z).length → (∀ j c, k0 ≤ j → j < k → (tl z)[j]? = some c → c ∈ tl Z) → (∀ c, (tl z)[k]? = some c → ¬ c ∈ tl Z) → D.nx (σ.set i (some (.int (k : Int)))) H) :
    tWhile (tAnd (tTest (tOp (rI0 fun i j => V.bl (decide (i < j))) (tVar i) (tCB rLenT1 (tCons (tVar 0) tNil)))) (tTest (tOp rInS (tOp rIxS (tVar 0) (tVar i)) (tC (.str Z))))) (tAug i (tC (.int 1)) (ipI fun i j => i + j)) D σ H := by
  have ez : z.length = (tl z).length := len_tl z
  have hlt : i < σ.length := (List.getElem?_eq_some_iff.mp hi).1
  have e0 : σ.set i (some (.int (k0 : Int))) = σ := List.ext_getElem? fun j => by
    by_cases e : i = j
    · subst e
      rw [List.getElem?_set_self hlt, hi]
    · rw [List.getElem?_set_ne e]
  refine ⟨fun m σ' H' => ∃ k : Nat, k0 ≤ k ∧ k ≤ (tl z).length ∧ (∀ j c, k0 ≤ j → j < k → (tl z)[j]? = some c → c ∈ tl Z) ∧ m = (tl z).length - k ∧ H' = H ∧ σ' = σ.set i (some (.int (k : Int))), ⟨_, k0, Nat.le_refl _, hk0, fun j c h1 h2 => absurd h2 (Nat.not_lt.mpr h1), rfl, rfl, e0.symm⟩, fun m σ' H' hw => ?_⟩
  obtain ⟨k, hk1, hk, hS, rfl, rfl, rfl⟩ := hw
  have v0 : (σ.set i (some (V.int (k : Int))))[0]? = some (some (.str z)) := by rw [List.getElem?_set_ne i0, hz]
  have vi : (σ.set i (some (V.int (k : Int))))[i]? = some (some (.int (k : Int))) := List.getElem?_set_self hlt
  refine ⟨_, vi, _, v0, z, rfl, (by rw [ez]; exact small (by omega)), _, _, rfl, rfl, _, rfl, ?_⟩
  refine ite2 (fun c1 => ?_) (fun c1 => ?_)
  · have hk' : k < (tl z).length := by
      have := of_decide_eq_true c1
      omega
    refine ⟨_, v0, _, vi, z, _, _, rfl, rfl, (by rw [ez]; exact small (by omega)), atI_nat (List.getElem?_eq_getElem hk'), _, _, rfl, rfl, _, rfl, ?_⟩
    refine ite2 (fun c2 => ?_) (fun c2 => ?_)
    · refine ⟨fun σ' H'' => H'' = H' ∧ σ' = σ.set i (some (.int ((k + 1 : Nat) : Int))), fun σ' H'' h => ⟨_, ?_, k + 1, by omega, by omega, fun j c h1 h2 hc => ?_, rfl, h.1, h.2⟩, ?_⟩
      · omega
      · by_cases e : j = k
        · subst e
          rw [List.getElem?_eq_getElem hk'] at hc
          rw [← Option.some.inj hc]
          exact of_decide_eq_true c2
        · exact hS j c h1 (by omega) hc
      · refine ⟨_, vi, _, _, rfl, rfl, rfl, ?_⟩
        rw [List.set_set]
        rfl
    · refine q k hk1 hk hS fun c hc => ?_
      rw [List.getElem?_eq_getElem hk'] at hc
      rw [← Option.some.inj hc]
      exact fun z => c2 (decide_eq_true z)
  · refine iteF (q k hk1 hk hS fun c hc => ?_)
    have hk' := (List.getElem?_eq_some_iff.mp hc).1
    exact absurd (decide_eq_true (show (k : Int) < z.length by omega)) c1
theorem drop_at {l : List Nat} {i j : Nat} : (l.drop i)[j]? = l[i + j]? := by rw [List.getElem?_drop]
section
variable {P : Program} {w : World} {K : PySem.W.Frag} {mg : Str → Option Value} {base : Heap} {cs : Tabs}
theorem ok_number_of (T : Txt K mg cs) (C_number_of_figures : Cal P w K mg base 1 "_number_of_figures" ["figures"] spFigs) : Cal P w K mg base 2 "number_of" ["worth"] spNumOf := by
  refine T.f_number_of.cal scNumberOf (fun vs H Q E h => ?_) (fun f cdv A outer s H vs Q E hr h => ?_)
  · obtain ⟨z, rfl, _⟩ := h
    rfl
  obtain ⟨z, rfl, hl, q⟩ := h
  refine ⟨_, (pss_cons (ps_set (i := 1) scNumberOf.nd rfl (by first | exact Or.inl rfl | exact Or.inr rfl) pe_int)
    (pss_cons (ps_while PassesOwn.never (PW.pt (pw_and (pt_cmpR op_lt (pv 1) (pe_callB lenT rfl T.n_len (by decide +kernel) (pa_cons (pv 0) pa_nil)) (nomark _)) (pw_and1 (pt_cmpR op_in_sign (pe_ix ix_str (pv 0) (pv 1) (fun _ _ => rfl)) pe_str rfl))))
      (pss_one (ps_aug (i := 1) scNumberOf.nd rfl (by first | exact Or.inl rfl | exact Or.inr rfl) pe_int ip_add)))
    (pss_cons (ps_set (i := 2) scNumberOf.nd rfl (by first | exact Or.inl rfl | exact Or.inr rfl) (pv 1))
    (pss_cons (ps_while PassesOwn.never (PW.pt (pw_and (pt_cmpR op_lt (pv 2) (pe_callB lenT rfl T.n_len (by decide +kernel) (pa_cons (pv 0) pa_nil)) (nomark _)) (pw_and1 (pt_cmpR op_in_sign (pe_ix ix_str (pv 0) (pv 2) (fun _ _ => rfl)) (C8.pe_gc rfl T.g__FIGURES) rfl))))
      (pss_one (ps_aug (i := 2) scNumberOf.nd rfl (by first | exact Or.inl rfl | exact Or.inr rfl) pe_int ip_add)))
    (pss_cons (ps_set (i := 3) scNumberOf.nd rfl (by first | exact Or.inl rfl | exact Or.inr rfl) (pe_cal C_number_of_figures (hr.mono (by first | decide | omega)) (pa_cons (pe_slice sl_str (pv 0) (po_some (pv 1)) (po_some (pv 2))) pa_nil)))
    (pss_one (ps_ret (pe_ifExp (pt_cmpR op_eq (pe_op op_mod (pe_m1 PySem.F.slot_str_count PySem.F.type_str_count mt_count (pe_slice sl_str (pv 0) po_none (po_some (pv 1))) pe_str) pe_int) pe_int (nomark _)) (pe_un un_neg (pv 3)) (pv 3))))))))), ?_⟩
  have ez : z.length = (tl z).length := len_tl z
  have zl : z.length ≤ sizeLine := by rw [ez]; exact small (by omega)
  refine scan_loop (i := 1) (k0 := 0) (z := z) (Z := SG) rfl rfl (by decide) (by omega) (Nat.zero_le _) fun k _ hk hS hS' => ?_
  obtain ⟨t1, d1⟩ := walked (p := isS) (l := tl z) (i := k) (fun j c hj hc => decide_eq_true (hS j c (Nat.zero_le _) hj hc)) hk (fun c hc => decide_eq_false (hS' c hc))
  refine ⟨_, rfl, ?_⟩
  refine scan_loop (i := 2) (k0 := k) (z := z) (Z := FG) rfl rfl (by decide) (by omega) hk fun e hke he hF hF' => ?_
  obtain ⟨t2, _⟩ := walked (p := isF) (l := (tl z).drop k) (i := e - k) (fun j c hj hc => decide_eq_true (hF (k + j) c (by omega) (by omega) (by rw [← List.getElem?_drop]; exact hc))) (by rw [List.length_drop]; omega) (fun c hc => decide_eq_false (hF' c (by rw [List.getElem?_drop, show k + (e - k) = e by omega] at hc; exact hc)))
  have ef : tl (cutS z (some (k : Int)) (some (e : Int))) = figs (tl z) := by
    rw [tl_sub z k e hke, List.drop_take]
    unfold figs
    rw [d1, t2]
  refine ⟨_, rfl, _, rfl, _, rfl, _, rfl, _, rfl, z, rfl, zl, _, rfl, by rw [ef]; exact Nat.le_trans (figs_len _) hl, by rw [ef]; exact figs_digits _, ?_⟩
  rw [ef]
  have ec : Txt.count (cutS z none (some (k : Int))) "-" = (cnt45 ((tl z).takeWhile isS) : Int) := by
    rw [count_cnt, tl_cut, t1]
  dsimp only [gName, tSeq, tAsg, tRet, tDrop, tNext]
  refine ⟨_, rfl, _, rfl, _, rfl, z, rfl, zl, ⟨_, rfl⟩, _, _, rfl, rfl, _, _, rfl, rfl, show (0 : Int) < 2 by decide, rfl, _, rfl, ?_⟩
  rw [ec]
  have em : decide (V.int ((cnt45 ((tl z).takeWhile isS) : Int) % 2) = V.int 1) = minus (tl z) := by
    unfold minus
    generalize cnt45 ((tl z).takeWhile isS) = n
    by_cases h : n % 2 = 1
    · have : ((n : Int) % 2) = 1 := by omega
      rw [this, decide_eq_true h]
      rfl
    · have : ¬ ((n : Int) % 2) = 1 := by omega
      rw [decide_eq_false h, decide_eq_false]
      intro e
      injection e with e
      exact this e
  rw [em]
  refine ite2 (fun c => ?_) (fun c => ?_)
  · refine ⟨_, rfl, _, rfl, ?_⟩
    unfold numOf at q
    rw [if_pos c] at q
    exact q
  · refine ⟨_, rfl, ?_⟩
    unfold numOf at q
    rw [if_neg c] at q
    exact q
theorem rg64 {i n : Nat} (h : i + 64 * n ≤ 1000000) : RgC (i : Int) ((i + 64 * n : Nat) : Int) 64 n := by
  refine ⟨by decide, by decide, ?_, ?_⟩
  · have e : Builtin.Range.rangeSize (i : Int) ((i + 64 * n : Nat) : Int) 64 = n := by
      unfold Builtin.Range.rangeSize
      rw [if_pos (by decide)]
      split
      · have e : (((i + 64 * n : Nat) : Int) - (i : Int) - 1) / 64 = (n : Int) - 1 := by omega
        rw [e]
        omega
      · omega
    unfold Builtin.Range.small
    rw [e]
    have f : ∀ x : Int, 0 ≤ x → x < 2000000 → Builtin.Range.rangeFitsLong x = true := fun x h0 h1 => by
      unfold Builtin.Range.rangeFitsLong
      rw [Bool.and_eq_true]
      exact ⟨decide_eq_true (Int.le_trans (by decide) h0), decide_eq_true (Int.lt_trans h1 (by decide))⟩
    rw [f _ (by omega) (by omega), f _ (by omega) (by omega), f 64 (by decide) (by decide), f _ (by omega) (by omega), if_pos (by decide), f _ (by omega) (by omega), Bool.or_true]
    rfl
  · unfold Builtin.Range.rangeSize
    rw [if_pos (by decide)]
    split
    · have e : (((i + 64 * n : Nat) : Int) - (i : Int) - 1) / 64 = (n : Int) - 1 := by omega
      rw [e]
      omega
    · omega
theorem int_digits {x : Str} (h : AllDigits (tl x)) (h1 : tl x ≠ []) (h2 : (tl x).length ≤ 640) : PySem.intText? x = some ((digitsVal (tl x) : Nat) : Int) := intText_digits h h1 (by rw [len_tl]; omega)
theorem pow250 {n : Nat} (h : n < 10 ^ 250) : (n : Int).natAbs < 2 ^ 900 := Nat.lt_trans h (by decide)
theorem ok_number_of_figures (T : Txt K mg cs) : Cal P w K mg base 1 "_number_of_figures" ["figures"] spFigs := by
  refine T.f_number_of_figures.cal scNumberOfFigures (fun vs H Q E h => ?_) (fun f cdv A outer s H vs Q E hr h => ?_)
  · obtain ⟨z, rfl, _⟩ := h
    rfl
  obtain ⟨z, rfl, hl, hd, q⟩ := h
  refine ⟨_, (pss_cons (ps_set (i := 1) scNumberOfFigures.nd rfl (by first | exact Or.inl rfl | exact Or.inr rfl) (pe_op op_mod (pe_callB lenT rfl T.n_len (by decide +kernel) (pa_cons (pv 0) pa_nil)) pe_int))
    (pss_cons (ps_set (i := 2) scNumberOfFigures.nd rfl (by first | exact Or.inl rfl | exact Or.inr rfl) (pe_callTy call_int_str rfl T.n_int (by decide +kernel) (pa_cons (pe_op op_add_str pe_str (pe_slice sl_str (pv 0) po_none (po_some (pv 1)))) pa_nil)))
    (pss_cons (ps_for PassesOwn.never rfl (pi_range3 rfl T.n_range (pa_cons (pv 1) (pa_cons (pe_callB lenT rfl T.n_len (by decide +kernel) (pa_cons (pv 0) pa_nil)) (pa_cons pe_int pa_nil)))) (pg_name (i := 3) scNumberOfFigures.nd rfl (by first | exact Or.inl rfl | exact Or.inr rfl))
      (pss_one (ps_set (i := 2) scNumberOfFigures.nd rfl (by first | exact Or.inl rfl | exact Or.inr rfl) (pe_op op_add (pe_op op_mulW (pv 2) (pe_op op_powW pe_int pe_int)) (pe_callTy call_int_str rfl T.n_int (by decide +kernel) (pa_cons (pe_slice sl_str (pv 0) (po_some (pv 3)) (po_some (pe_op op_add (pv 3) pe_int))) pa_nil))))))
    (pss_one (ps_ret (pv 2)))))), ?_⟩
  have ez : z.length = (tl z).length := len_tl z
  have zl : z.length ≤ sizeLine := by rw [ez]; exact small (by omega)
  refine ⟨_, rfl, z, rfl, zl, _, _, rfl, rfl, show (0 : Int) < 64 by decide, ?_⟩
  dsimp only [gName, tSeq, tAsg, tRet, tDrop, tNext]
  have e64 : ((z.length : Int) % 64) = (((tl z).length % 64 : Nat) : Int) := by rw [ez]; omega
  rw [e64]
  generalize hg : (tl z).length % 64 = g
  obtain ⟨n, hn⟩ : ∃ n, (tl z).length = g + 64 * n := ⟨(tl z).length / 64, by omega⟩
  have e0 : tl ("0" ++ cutS z none (some (g : Int))) = 48 :: (tl z).take g := by
    rw [tl_append, tl_cut]
    rfl
  have d0 : AllDigits (48 :: (tl z).take g) := fun c hc => by
    rcases List.mem_cons.mp hc with rfl | hc
    · omega
    · exact hd c (List.mem_of_mem_take hc)
  refine ⟨_, rfl, _, rfl, _, rfl, z, rfl, zl, _, _, rfl, rfl, ?_, _, _, rfl, int_digits (by rw [e0]; exact d0) (by rw [e0]; exact List.cons_ne_nil _ _) (by rw [e0, List.length_cons, List.length_take]; omega), ?_, ?_⟩
  · rw [len_tl, len_tl, tl_cut]
    refine Nat.le_trans (Nat.add_le_add (show (tl ("0" : Str)).length ≤ 1 by decide) (show ((tl z).take g).length ≤ 250 by rw [List.length_take]; omega)) (by decide)
  · rw [len_tl, e0, List.length_cons, List.length_take]
    omega
  rw [e0]
  have ev : ∀ l : List Nat, digitsVal (48 :: l) = digitsVal l := fun l => rfl
  rw [ev]
  dsimp only [gName, tSeq, tAsg, tRet, tDrop, tNext]
  refine ⟨_, rfl, _, rfl, z, rfl, zl, _, _, _, n, rfl, (by rw [ez, hn]; exact rg64 (by omega)), ?_⟩
  refine for_rangeC (fun j σ H' => H' = H ∧ ∃ x3, σ = [some (.str z), some (.int (g : Int)), some (.int ((digitsVal ((tl z).take (g + 64 * j)) : Nat) : Int)), x3]) ⟨rfl, none, rfl⟩ (fun j σ H' hj hp => ?_) fun σ H' hp => ?_
  · obtain ⟨rfl, x3, rfl⟩ := hp
    have ej : (g : Int) + (j : Int) * 64 = ((g + 64 * j : Nat) : Int) := by omega
    rw [ej]
    have e2 : ((g + 64 * j : Nat) : Int) + 64 = ((g + 64 * j + 64 : Nat) : Int) := by omega
    have et : tl (cutS z (some ((g + 64 * j : Nat) : Int)) (some (((g + 64 * j : Nat) : Int) + 64))) = ((tl z).drop (g + 64 * j)).take 64 := by
      rw [e2, tl_sub z _ _ (by omega), List.drop_take, show g + 64 * j + 64 - (g + 64 * j) = 64 by omega]
    have dt : AllDigits (((tl z).drop (g + 64 * j)).take 64) := fun c hc => hd c (List.mem_of_mem_drop (List.mem_of_mem_take hc))
    have lt : (((tl z).drop (g + 64 * j)).take 64).length = 64 := by rw [List.length_take, List.length_drop]; omega
    have dv : digitsVal ((tl z).take (g + 64 * j)) < 10 ^ 250 := by
      have := val_lt (l := (tl z).take (g + 64 * j)) fun c hc => hd c (List.mem_of_mem_take hc)
      exact Nat.lt_of_lt_of_le this (Nat.pow_le_pow_right (by decide) (by rw [List.length_take]; omega))
    refine ⟨_, rfl, 10, 64, rfl, rfl, ⟨by decide, by decide, by decide⟩, _, _, rfl, rfl, wide_mul (a := 900) (b := 300) (pow250 dv) (by decide) (by decide) (by decide) (by decide), ?_⟩
    refine ⟨_, rfl, _, rfl, _, rfl, _, rfl, _, _, rfl, rfl, _, rfl, z, rfl, zl, _, _, rfl, int_digits (by rw [et]; exact dt) (by rw [et]; intro z; rw [z] at lt; cases lt) (by rw [et, lt]; decide), by rw [len_tl, et, lt]; decide, _, _, rfl, rfl, ?_⟩
    refine ⟨rfl, some (.int ((g + 64 * j : Nat) : Int)), ?_⟩
    rw [et]
    have e3 : (tl z).take (g + 64 * (j + 1)) = (tl z).take (g + 64 * j) ++ ((tl z).drop (g + 64 * j)).take 64 := by
      rw [show g + 64 * (j + 1) = (g + 64 * j) + 64 by omega, List.take_add]
    have e4 : ((digitsVal ((tl z).take (g + 64 * j)) : Nat) : Int) * 10 ^ ((64 : Int)).toNat + ((digitsVal (((tl z).drop (g + 64 * j)).take 64) : Nat) : Int) = ((digitsVal ((tl z).take (g + 64 * (j + 1))) : Nat) : Int) := by
      rw [e3, val_append, lt, Int.natCast_add, Int.natCast_mul]
      rfl
    rw [← e4]
    rfl
  · obtain ⟨rfl, x3, rfl⟩ := hp
    refine ⟨_, rfl, ?_⟩
    rw [← hn, List.take_length]
    exact q
end
/-! ### all(.. for sign in text) -/
theorem all_signs {p : Addr} {te0 te : TE} {i : Nat} {σ : L2.St} {H : Hp} {Q : VK} {z : Str} (pb : Nat → Bool) (h0 : ∀ R : VK, R (.str z) H → te0 σ H R) (ht : GxR.TabG H p)
    (he : ∀ (c : Nat) (H2 : Hp) (R : VK), c ∈ tl z → Sm H H2 → (∀ H3, Sm H2 H3 → R (.bl (pb c)) H3) → te ((σ.set i none).set i (some (.str ⟨#[c]⟩))) H2 R) (q : ∀ H', Sm H H' → Q (.bl ((tl z).all pb)) H') : GA.tAllG p (iStr te0) (gName i) te [i] σ H Q := by
  refine h0 _ ⟨z, rfl, ht, fun H2 hT => ?_⟩
  have S2 : Sm H H2 := Sm.tabbed ht hT
  refine ⟨fun j m H' => Sm H H' ∧ j ≤ (tl z).length ∧ m = (tl z).length - j ∧ ∀ k c, k < j → (tl z)[k]? = some c → pb c = true, ⟨_, S2, Nat.zero_le _, rfl, fun k c hk => absurd hk (Nat.not_lt_zero _)⟩, fun j m H' hw => ?_⟩
  obtain ⟨S, hj, rfl, hp⟩ := hw
  have sz : z.cps.size = (tl z).length := by simp [tl]
  by_cases hlt : j < (tl z).length
  · refine .inr ⟨by show j < z.cps.size; omega, fun H'' => Sm H H'' ∧ pb (tl z)[j] = true, fun H'' h => ⟨_, ?_, h.1, by omega, rfl, fun k c hk hc => ?_⟩, fun x H'' hy => ?_⟩
    · omega
    · by_cases e : k = j
      · subst e
        rw [List.getElem?_eq_getElem hlt] at hc
        rw [← Option.some.inj hc]
        exact h.2
      · exact hp k c (by omega) hc
    · obtain ⟨rfl, c, hc, rfl⟩ := hy
      have hc' : (tl z)[j]? = some c := by
        show z.cps.toList[j]? = some c
        rw [Array.getElem?_toList]
        exact hc
      have ec : (tl z)[j] = c := by
        rw [List.getElem?_eq_getElem hlt] at hc'
        exact Option.some.inj hc'
      refine ⟨?_, ?_⟩
      · show ((σ.set i none).set i (some (V.str ⟨#[c]⟩))).set i none = σ.set i none
        rw [List.set_set, List.set_set]
      · refine he c H'' _ (List.mem_of_getElem? hc') S fun H3 S3 => ⟨_, rfl, ?_⟩
        refine ite2 (fun e => ?_) (fun e => ?_)
        · exact ⟨S.trans S3, by rw [ec]; exact e⟩
        · have : (tl z).all pb = false := by
            cases q' : (tl z).all pb with
            | false => rfl
            | true => exact absurd (List.all_eq_true.mp q' c (List.mem_of_getElem? hc')) e
          have := this ▸ q H3 (S.trans S3)
          exact this
  · refine .inl ⟨by show z.cps.size ≤ j; omega, ?_⟩
    have : (tl z).all pb = true := List.all_eq_true.mpr fun c hc => by
      obtain ⟨k, hk, e⟩ := List.mem_iff_getElem.mp hc
      exact hp k c (by omega) (by rw [List.getElem?_eq_getElem hk, e])
    have := this ▸ q H' S
    exact this
open PySem.NumText (digitsVal AllDigits)
def spIsNum (p : Addr) : Sp := fun vs H Q _ => ∃ z : Str, vs = [.str z] ∧ (tl z).length ≤ 250 ∧ GxR.TabG H p ∧ ∀ H', Sm H H' → Q (.bl (isNum (tl z))) H'
theorem starts_one (x : Str) (c : Nat) : Txt.startswith x ⟨#[c]⟩ = decide ((tl x)[0]? = some c) := by
  have h := StrLaws.subAt_one x c 0
  unfold Txt.startswith
  by_cases e : (tl x)[0]? = some c
  · have := h.mpr e
    rw [decide_eq_true e, Bool.and_eq_true]
    exact ⟨decide_eq_true this.1, this.2⟩
  · rw [decide_eq_false e]
    cases q : (decide (0 + (⟨#[c]⟩ : Str).length ≤ x.length) && Builtin.Str.subAt x ⟨#[c]⟩ 0) with
    | false => rfl
    | true =>
      rw [Bool.and_eq_true] at q
      exact absurd (h.mp ⟨of_decide_eq_true q.1, q.2⟩) e
theorem tl_bare (z : Str) : tl (Txt.removeprefix z "-") = bareOf (tl z) := by
  have e0 : ("-" : Str) = ⟨#[45]⟩ := by decide +kernel
  rw [e0, StrLaws.removeprefix_eq]
  have h := starts_one z 45
  unfold Txt.startswith at h
  rw [h]
  by_cases e : (tl z)[0]? = some 45
  · rw [decide_eq_true e, if_pos rfl]
    show ((z.cps.toList.drop 1).take (z.length - 1)) = _
    have ez : z.length = (tl z).length := len_tl z
    rw [ez]
    show ((tl z).drop 1).take ((tl z).length - 1) = _
    rw [List.take_of_length_le (by rw [List.length_drop]; exact Nat.le_refl _)]
    cases q : tl z with
    | nil => rw [q] at e; cases e
    | cons a r =>
      rw [q] at e
      have : a = 45 := Option.some.inj e
      subst this
      rfl
  · rw [decide_eq_false e, if_neg (by decide)]
    cases q : tl z with
    | nil => rfl
    | cons a r =>
      rw [q] at e
      unfold bareOf
      split
      · rename_i he
        injection he with h1
        subst h1
        exact absurd rfl e
      · rfl
theorem isNum_head {l : List Nat} (h : (bareOf l)[0]? = some 48) : isNum l = decide (l = [48]) := by
  unfold isNum
  split
  · rfl
  · rename_i hf
    cases q : bareOf l with
    | nil => rw [q] at h; cases h
    | cons a r =>
      rw [q] at h
      exact absurd (by rw [q, Option.some.inj h]) (hf r)
theorem isNum_else {l : List Nat} (h : ¬ (bareOf l)[0]? = some 48) : isNum l = (!decide (bareOf l = []) && (bareOf l).all isF) := by
  unfold isNum
  split
  · rename_i r e
    exact absurd (by rw [e]; rfl) h
  · rfl
theorem dec_str (x y : Str) : decide (V.str x = V.str y) = decide (tl x = tl y) := by
  by_cases e : x = y
  · subst e
    simp
  · rw [decide_eq_false (fun h => e (ext_tl h)), decide_eq_false]
    intro h
    injection h with h
    exact e h
section
variable {P : Program} {w : World} {K : PySem.W.Frag} {mg : Str → Option Value} {base : Heap} {cs : Tabs}
theorem ok_is_number_text (T : Txt K mg cs) (B : TBs base mg cs) : Cal P w K mg base 2 "is_number_text" ["worth"] (spIsNum cs.p_is_number_text) := by
  refine T.f_is_number_text.cal scIsNumberText (fun vs H Q E h => ?_) (fun f A outer s H vs Q E hr h => ?_)
  · obtain ⟨z, rfl, _⟩ := h
    rfl
  obtain ⟨z, rfl, hl, ht, q⟩ := h
  refine ⟨_, (pss_cons (ps_set (i := 1) scIsNumberText.nd rfl (by first | exact Or.inl rfl | exact Or.inr rfl) (pe_m1 PySem.F.slot_str_removeprefix PySem.F.type_str_removeprefix mt_removeprefix (pv 0) pe_str))
    (pss_cons (ps_if (pt_val (pe_m1 PySem.F.slot_str_startswith PySem.F.type_str_startswith mt_startswith (pv 1) pe_str)) (pss_one (ps_ret (pe_cmpR op_eq (pv 0) pe_str (nomark _)))) pss_nil)
    (pss_one (ps_ret (pe_and (pe_cmpR op_ne (pv 1) pe_str (nomark _)) (pe_one (GA.pe_allG (k := 0) (own := [("sign", 2)]) (g := gName 2) (hr.mono (by decide)) B.b_is_number_text scIsNumberText.nd (blkOk_by (own := [("sign", 2)]) (N := ["worth", "figures", "sign"]) (sc := defScope sIsNumberText) (by decide +kernel)) (by decide +kernel) (pi_str (pv 1)) T.n_all (fun _ _ _ _ _ _ _ _ => (pg_name (i := 2) scIsNumberText.nd rfl (by first | exact Or.inl rfl | exact Or.inr rfl))) (fun _ _ _ _ _ _ _ hr => (pe_cmpR op_in_sign (pv 2) (C8.pe_gc rfl T.g__FIGURES) rfl))))))))), ?_⟩
  have ez : z.length = (tl z).length := len_tl z
  have zl : z.length ≤ sizeLine := by rw [ez]; exact small (by omega)
  have e48 : ("0" : Str) = ⟨#[48]⟩ := by decide +kernel
  refine ⟨_, rfl, ⟨_, rfl⟩, _, _, rfl, rfl, zl, ?_⟩
  dsimp only [gName, tSeq, tAsg, tRet, tDrop, tNext]
  refine ⟨_, rfl, ⟨_, rfl⟩, _, _, rfl, rfl, _, rfl, ?_⟩
  rw [e48, starts_one, tl_bare]
  have G := Sm.refl H
  refine ite2 (fun c => ?_) (fun c => ?_)
  · refine ⟨_, rfl, rfl, ?_⟩
    have := q H G
    rw [isNum_head (of_decide_eq_true c)] at this
    rw [dec_str]
    exact this
  · have hc : ¬ (bareOf (tl z))[0]? = some 48 := fun e => c (decide_eq_true e)
    rw [isNum_else hc] at q
    refine ⟨_, rfl, rfl, _, rfl, ?_⟩
    rw [dec_str, tl_bare]
    have e0 : tl ("" : Str) = [] := by decide +kernel
    rw [e0]
    refine ite2 (fun c2 => ?_) (fun c2 => ?_)
    · rw [c2, Bool.true_and, ← tl_bare] at q
      refine all_signs (i := 2) (z := Txt.removeprefix z "-") isF (fun R h => ⟨_, rfl, h⟩) ht (fun c H2 R _ _ h => ?_) q
      exact ⟨_, rfl, _, _, rfl, rfl, h H2 (Sm.refl H2)⟩
    · rw [Bool.eq_false_iff.mpr c2, Bool.false_and] at q
      exact q H G
end
/-! ### numbers' texts, how long they are -/
def spNumText : Sp := fun vs H Q _ => ∃ n : Int, vs = [.int n] ∧ n.natAbs < 10 ^ 60 ∧ ∀ (z : Str) (H' : Hp), Sm H H' → tl z = numT n → Q (.str z) H'
theorem tl_int (i : Int) (h : 0 ≤ i) : tl (Str.ofString (toString i)) = numL i.natAbs := by
  obtain ⟨n, rfl⟩ : ∃ n : Nat, i = (n : Int) := ⟨i.toNat, by omega⟩
  exact tl_num n
theorem log_ok {i : Int} (h : i.natAbs < 10 ^ 250) : i.natAbs.log2 < 1920 := Nat.lt_trans (PySem.Flt.log2_lt_of (n := i.natAbs) (k := 900) (by decide) (Nat.lt_trans h (by decide))) (by decide)
theorem upd_twice {H : Hp} {p : Addr} {o u : HO} : upd (upd H p o) p u = upd H p u := by
  funext a
  by_cases e : a = p
  · subst e
    rw [upd_same, upd_same]
  · rw [upd_ne e, upd_ne e, upd_ne e]
/-! ### a number's own text -/
open PySem.NumText (digitsVal AllDigits)
section
variable {P : Program} {w : World} {K : PySem.W.Frag} {mg : Str → Option Value} {base : Heap} {cs : Tabs}
theorem ok_number_text (T : Txt K mg cs) : Cal P w K mg base 1 "number_text" ["number"] spNumText := by
  refine T.f_number_text.cal scNumberText (fun vs H Q E h => ?_) (fun f cdv A outer s H vs Q E hr h => ?_)
  · obtain ⟨n, rfl, _⟩ := h
    rfl
  obtain ⟨n, rfl, hn, q⟩ := h
  refine ⟨_, (pss_cons (ps_set (i := 1) scNumberText.nd rfl (by first | exact Or.inl rfl | exact Or.inr rfl) (pe_callB call_abs rfl T.n_abs (by decide +kernel) (pa_cons (pv 0) pa_nil)))
    (pss_cons (ps_set (i := 2) scNumberText.nd rfl (by first | exact Or.inl rfl | exact Or.inr rfl) (pe_lst pa_nil))
    (pss_cons (ps_while PassesOwn.never (pt_cmpR op_ge (pv 1) (pe_op op_powW pe_int pe_int) (nomark _))
      (pss_cons (ps_asg (pe_callB call_divmodW rfl T.n_divmod (by decide +kernel) (pa_cons (pv 1) (pa_cons (pe_op op_powW pe_int pe_int) pa_nil))) (pg_tup rfl (pgs_cons (pg_name (i := 1) scNumberText.nd rfl (by first | exact Or.inl rfl | exact Or.inr rfl)) (pgs_cons (pg_name (i := 4) scNumberText.nd rfl (by first | exact Or.inl rfl | exact Or.inr rfl)) pgs_nil))))
        (pss_one (ps_expr (pe_bm PySem.F.plainAttrs_list PySem.F.slot_list_append PySem.F.type_list_append mt_append (pv 2) (pa_cons (pe_m1 PySem.F.slot_str_zfill PySem.F.type_str_zfill mt_zfill (pe_callTy call_str_int rfl T.n_str (by decide +kernel) (pa_cons (pv 4) pa_nil)) pe_int) pa_nil))))))
    (pss_cons (ps_expr (pe_bm PySem.F.plainAttrs_list PySem.F.slot_list_append PySem.F.type_list_append mt_append (pv 2) (pa_cons (pe_callTy call_str_int rfl T.n_str (by decide +kernel) (pa_cons (pv 1) pa_nil)) pa_nil)))
    (pss_cons (ps_set (i := 3) scNumberText.nd rfl (by first | exact Or.inl rfl | exact Or.inr rfl) (pe_join pe_str (pe_revL (pv 2))))
    (pss_one (ps_ret (pe_ifExp (pt_cmpR op_lt (pv 0) pe_int (nomark _)) (pe_op op_add_str pe_str (pv 3)) (pv 3))))))))), ?_⟩
  refine ⟨_, rfl, _, rfl, ?_⟩
  have ea : (if n < 0 then -n else n) = (n.natAbs : Int) := by split <;> omega
  rw [ea]
  dsimp only [gName, tSeq, tAsg, tRet, tDrop, tNext]
  refine ⟨Nat.zero_le _, fun L hL => ?_⟩
  refine ⟨fun _ σ' H' => σ' = [some (.int n), some (.int (n.natAbs : Int)), some (.ref L), none, none] ∧ H' = upd H L (.lst []), ⟨0, rfl, rfl⟩, fun m σ' H' hw => ?_⟩
  obtain ⟨rfl, rfl⟩ := hw
  refine ⟨_, rfl, 10, 64, rfl, rfl, ⟨by decide, by decide, by decide⟩, _, _, rfl, rfl, _, rfl, ?_⟩
  have big : (10 : Int) ^ 60 ≤ 10 ^ ((64 : Int)).toNat := by decide
  have hn' : (n.natAbs : Int) < 10 ^ 60 := by omega
  rw [decide_eq_false (Int.not_le.mpr (Int.lt_of_lt_of_le hn' big))]
  refine iteF ?_
  have hz : tl (Str.ofString (toString (n.natAbs : Int))) = numL n.natAbs := tl_num _
  refine ⟨_, rfl, .inl ⟨rfl, _, .inl (.inl upd_same)⟩, _, rfl, _, rfl, log_ok (Nat.lt_trans (show ((n.natAbs : Int)).natAbs < 10 ^ 60 by omega) (by decide)), L, _, _, rfl, rfl, upd_same, by decide, ?_⟩
  rw [upd_twice]
  dsimp only [gName, tSeq, tAsg, tRet, tDrop, tNext]
  refine ⟨⟨_, rfl⟩, _, rfl, L, _, rfl, SqL.of upd_same, fun p hp => ?_⟩
  have len : (numL n.natAbs).length ≤ 60 := numL_len (by decide) hn
  refine ⟨_, p, [Str.ofString (toString (n.natAbs : Int))], rfl, rfl, .inl (SqL.of upd_same), ?_, ?_⟩
  · show (Str.ofString (toString (n.natAbs : Int))).length + 0 + 1 * ("" : Str).length ≤ 16777216
    have e0 : ("" : Str).length = 0 := rfl
    rw [e0, len_tl, hz]
    omega
  have hj : tl (Txt.join "" [Str.ofString (toString (n.natAbs : Int))]) = numL n.natAbs := by
    rw [tl_glue]
    show tl _ ++ [] = _
    rw [hz, List.append_nil]
  have S : Sm H (upd (upd H L (.lst [V.str (Str.ofString (toString (n.natAbs : Int)))])) p (.lst [V.str (Str.ofString (toString (n.natAbs : Int)))].reverse)) := (Sm.new hL).trans (Sm.new hp)
  refine ⟨_, rfl, _, _, rfl, rfl, _, rfl, ?_⟩
  refine ite2 (fun c => ?_) (fun c => ?_)
  · refine ⟨_, rfl, _, _, rfl, rfl, ?_, q _ _ S ?_⟩
    · rw [len_tl (Txt.join _ _), hj, len_tl]
      exact Nat.le_trans (Nat.add_le_add (show (tl ("-" : Str)).length ≤ 1 by decide +kernel) len) (by decide)
    · rw [tl_append, hj]
      unfold numT
      rw [if_pos (of_decide_eq_true c)]
      rfl
  · refine ⟨_, rfl, q _ _ S ?_⟩
    rw [hj]
    unfold numT
    rw [if_neg (fun h => c (decide_eq_true h))]
end
open PySem.NumText (digitsVal AllDigits)
def spNumL : Sp := fun vs H Q _ => ∃ z : Str, vs = [.str z] ∧ (tl z).length ≤ 250 ∧ ∀ H', Sm H H' → Q (.int (numOf (tl z))) H'
def spWritten : Sp := fun vs H Q _ => ∃ n : Int, vs = [.int n] ∧ n.natAbs < 10 ^ 250 ∧ ∀ (z : Str) (H' : Hp), Sm H H' → tl z = numT n → Q (.str z) H'
theorem take_next {l : List Nat} {k : Nat} (h : k < l.length) : l.take (k + 1) = l.take k ++ [l[k]] := by rw [List.take_succ, List.getElem?_eq_getElem h]; rfl
theorem digit_at (n : Nat) : atI (tl FG) (((n : Nat) : Int) % 10) = some (48 + n % 10) := by
  have e : ((n : Int) % 10) = ((n % 10 : Nat) : Int) := by omega
  rw [e, tl_FG]
  refine atI_nat ?_
  have : ∀ j : Fin 10, [48, 49, 50, 51, 52, 53, 54, 55, 56, 57][j.val]? = some (48 + j.val) := by decide
  exact this ⟨n % 10, Nat.mod_lt _ (by decide)⟩
/-- while at < len(worth) and worth[at] in Z: .. -/
theorem scan_gen {i : Nat} {z Z : Str} {tb : TS} {σ : L2.St} {H : Hp} {D : Ends} (k0 : Nat) (Pv : Nat → L2.St → Hp → Prop) (hv : ∀ k σ H, Pv k σ H → σ[0]? = some (some (.str z)) ∧ σ[i]? = some (some (.int (k : Int)))) (hl : (tl z).length ≤ 1000) (hk0 : k0 ≤ (tl z).length) (h0 : Pv k0 σ H)
    (hs : ∀ k σ H (hk : k < (tl z).length), k0 ≤ k → (∀ j c, k0 ≤ j → j < k → (tl z)[j]? = some c → c ∈ tl Z) → Pv k σ H → (tl z)[k] ∈ tl Z → tb { D with nx := Pv (k + 1), ct := Pv (k + 1), bk := D.nx } σ H)
    (hd : ∀ k σ H, k0 ≤ k → k ≤ (tl z).length → (∀ j c, k0 ≤ j → j < k → (tl z)[j]? = some c → c ∈ tl Z) → (∀ c, (tl z)[k]? = some c → ¬ c ∈ tl Z) → Pv k σ H → D.nx σ H) :
    tWhile (tAnd (tTest (tOp (rI0 fun i j => V.bl (decide (i < j))) (tVar i) (tCB rLenT1 (tCons (tVar 0) tNil)))) (tTest (tOp rInS (tOp rIxS (tVar 0) (tVar i)) (tC (.str Z))))) tb D σ H := by
  have ez : z.length = (tl z).length := len_tl z
  refine ⟨fun m σ' H' => ∃ k : Nat, k0 ≤ k ∧ k ≤ (tl z).length ∧ (∀ j c, k0 ≤ j → j < k → (tl z)[j]? = some c → c ∈ tl Z) ∧ m = (tl z).length - k ∧ Pv k σ' H', ⟨_, k0, Nat.le_refl _, hk0, fun j c h1 h2 => absurd h2 (Nat.not_lt.mpr h1), rfl, h0⟩, fun m σ' H' hw => ?_⟩
  obtain ⟨k, hk1, hk, hS, rfl, hp⟩ := hw
  obtain ⟨v0, vi⟩ := hv k σ' H' hp
  refine ⟨_, vi, _, v0, z, rfl, (by rw [ez]; exact small (by omega)), _, _, rfl, rfl, _, rfl, ?_⟩
  refine ite2 (fun c1 => ?_) (fun c1 => ?_)
  · have hk' : k < (tl z).length := by
      have := of_decide_eq_true c1
      omega
    refine ⟨_, v0, _, vi, z, _, _, rfl, rfl, (by rw [ez]; exact small (by omega)), atI_nat (List.getElem?_eq_getElem hk'), _, _, rfl, rfl, _, rfl, ?_⟩
    refine ite2 (fun c2 => ?_) (fun c2 => ?_)
    · refine ⟨Pv (k + 1), fun σ2 H2 h => ⟨_, ?_, k + 1, by omega, by omega, fun j c h1 h2 hc => ?_, rfl, h⟩, hs k σ' H' hk' hk1 hS hp (of_decide_eq_true c2)⟩
      · omega
      · by_cases e : j = k
        · subst e
          rw [List.getElem?_eq_getElem hk'] at hc
          rw [← Option.some.inj hc]
          exact of_decide_eq_true c2
        · exact hS j c h1 (by omega) hc
    · refine hd k σ' H' hk1 hk hS (fun c hc => ?_) hp
      rw [List.getElem?_eq_getElem hk'] at hc
      rw [← Option.some.inj hc]
      exact fun z => c2 (decide_eq_true z)
  · refine iteF (hd k σ' H' hk1 hk hS (fun c hc => ?_) hp)
    have hk' := (List.getElem?_eq_some_iff.mp hc).1
    exact absurd (decide_eq_true (show (k : Int) < z.length by omega)) c1
theorem seg_digits {l : List Nat} {k e : Nat} (h : ∀ j c, k ≤ j → j < e → l[j]? = some c → c ∈ tl FG) : AllDigits ((l.take e).drop k) := fun c hc => by
  obtain ⟨i, hi⟩ := List.mem_iff_getElem?.mp hc
  rw [List.getElem?_drop, List.getElem?_take] at hi
  split at hi
  · rename_i h2
    exact isF_iff.mp (decide_eq_true (h (k + i) c (by omega) h2 hi))
  · cases hi
open PySem.NumText (digitsVal AllDigits)
section
variable {P : Program} {w : World} {K : PySem.W.Frag} {mg : Str → Option Value} {base : Heap} {cs : Tabs}
theorem ok_law_number (T : Txt K mg cs) : Cal P w K mg base 1 "_law_number" ["worth"] spNumL := by
  refine T.f_law_number.cal scLawNumber (fun vs H Q E h => ?_) (fun f cdv A outer s H vs Q E hr h => ?_)
  · obtain ⟨z, rfl, _⟩ := h
    rfl
  obtain ⟨z, rfl, hl, q⟩ := h
  refine ⟨_, (pss_cons (ps_set (i := 1) scLawNumber.nd rfl (by first | exact Or.inl rfl | exact Or.inr rfl) pe_int)
    (pss_cons (ps_set (i := 2) scLawNumber.nd rfl (by first | exact Or.inl rfl | exact Or.inr rfl) pe_int)
    (pss_cons (ps_while PassesOwn.never (PW.pt (pw_and (pt_cmpR op_lt (pv 1) (pe_callB lenT rfl T.n_len (by decide +kernel) (pa_cons (pv 0) pa_nil)) (nomark _)) (pw_and1 (pt_cmpR op_in_sign (pe_ix ix_str (pv 0) (pv 1) (fun _ _ => rfl)) pe_str rfl))))
      (pss_cons (ps_set (i := 2) scLawNumber.nd rfl (by first | exact Or.inl rfl | exact Or.inr rfl) (pe_op op_add (pv 2) (pe_callTy call_int1 rfl T.n_int (by decide +kernel) (pa_cons (pe_cmpR op_eq (pe_ix ix_str (pv 0) (pv 1) (fun _ _ => rfl)) pe_str (nomark _)) pa_nil))))
        (pss_one (ps_set (i := 1) scLawNumber.nd rfl (by first | exact Or.inl rfl | exact Or.inr rfl) (pe_op op_add (pv 1) pe_int)))))
    (pss_cons (ps_set (i := 3) scLawNumber.nd rfl (by first | exact Or.inl rfl | exact Or.inr rfl) pe_int)
    (pss_cons (ps_while PassesOwn.never (PW.pt (pw_and (pt_cmpR op_lt (pv 1) (pe_callB lenT rfl T.n_len (by decide +kernel) (pa_cons (pv 0) pa_nil)) (nomark _)) (pw_and1 (pt_cmpR op_in_sign (pe_ix ix_str (pv 0) (pv 1) (fun _ _ => rfl)) pe_str rfl))))
      (pss_cons (ps_set (i := 3) scLawNumber.nd rfl (by first | exact Or.inl rfl | exact Or.inr rfl) (pe_op op_add (pe_op op_mulW (pv 3) pe_int) (pe_m1 PySem.F.slot_str_find PySem.F.type_str_find mt_find pe_str (pe_ix ix_str (pv 0) (pv 1) (fun _ _ => rfl)))))
        (pss_one (ps_set (i := 1) scLawNumber.nd rfl (by first | exact Or.inl rfl | exact Or.inr rfl) (pe_op op_add (pv 1) pe_int)))))
    (pss_one (ps_ret (pe_ix (ixL K) (pe_lst (pa_cons (pv 3) (pa_cons (pe_op op_sub pe_int (pv 3)) pa_nil))) (pe_op op_mod (pv 2) pe_int) (fun _ _ => rfl))))))))), ?_⟩
  have ez : z.length = (tl z).length := len_tl z
  have zl : z.length ≤ sizeLine := by rw [ez]; exact small (by omega)
  have e45 : ("-" : Str) = ⟨#[45]⟩ := by decide +kernel
  refine scan_gen (i := 1) (z := z) (Z := SG) 0 (fun k σ H' => H' = H ∧ σ = [some (.str z), some (.int (k : Int)), some (.int ((cnt45 ((tl z).take k) : Nat) : Int)), none]) (fun k σ H' h => ⟨by rw [h.2]; rfl, by rw [h.2]; rfl⟩) (by omega) (Nat.zero_le _) ⟨rfl, rfl⟩ (fun k σ H' hk _ _ hp _ => ?_) fun k σ H' _ hk hS hS' hp => ?_
  · obtain ⟨rfl, rfl⟩ := hp
    refine ⟨_, rfl, _, rfl, _, rfl, z, _, _, rfl, rfl, zl, atI_nat (List.getElem?_eq_getElem hk), rfl, .inr ⟨_, rfl, _, _, rfl, rfl, ?_⟩⟩
    dsimp only [gName, tSeq, tAsg, tRet, tDrop, tNext]
    refine ⟨_, rfl, _, _, rfl, rfl, rfl, ?_⟩
    have e1 : ((cnt45 ((tl z).take k) : Nat) : Int) + (if decide (V.str ⟨#[(tl z)[k]]⟩ = V.str "-") = true then 1 else 0) = ((cnt45 ((tl z).take (k + 1)) : Nat) : Int) := by
      rw [take_next hk, e45]
      have e2 : cnt45 ((tl z).take k ++ [(tl z)[k]]) = cnt45 ((tl z).take k) + if (tl z)[k] = 45 then 1 else 0 := by
        unfold cnt45
        rw [List.countP_append]
        by_cases h : (tl z)[k] = 45 <;> simp [h]
      rw [e2]
      by_cases h : (tl z)[k] = 45
      · rw [if_pos h, h, decide_eq_true rfl, if_pos rfl]
        rfl
      · rw [if_neg h, decide_eq_false, if_neg (by decide)]
        · rfl
        · intro e
          injection e with e
          injection e with e
          simp at e
          exact h e
    rw [e1]
    rfl
  obtain ⟨rfl, rfl⟩ := hp
  obtain ⟨t1, d1⟩ := walked (p := isS) (l := tl z) (i := k) (fun j c hj hc => decide_eq_true (hS j c (Nat.zero_le _) hj hc)) hk (fun c hc => decide_eq_false (hS' c hc))
  dsimp only [gName, tSeq, tAsg, tRet, tDrop, tNext]
  refine scan_gen (i := 1) (z := z) (Z := FG) k (fun e σ H'' => H'' = H' ∧ σ = [some (.str z), some (.int (e : Int)), some (.int ((cnt45 ((tl z).take k) : Nat) : Int)), some (.int ((digitsVal (((tl z).take e).drop k) : Nat) : Int))]) (fun k σ H' h => ⟨by rw [h.2]; rfl, by rw [h.2]; rfl⟩) (by omega) hk ⟨rfl, ?_⟩ (fun e σ H'' he hke hB hp hF => ?_) fun e σ H'' hke he hF hF' hp => ?_
  · rw [List.drop_eq_nil_of_le (by rw [List.length_take]; omega)]
    rfl
  · obtain ⟨rfl, rfl⟩ := hp
    have hb : digitsVal (((tl z).take e).drop k) < 10 ^ 250 := by
      have h1 := val_lt (seg_digits hB)
      exact Nat.lt_of_lt_of_le h1 (Nat.pow_le_pow_right (by decide) (by rw [List.length_drop, List.length_take]; omega))
    refine ⟨_, rfl, _, _, rfl, rfl, wide_mul (a := 900) (b := 10) (pow250 hb) (by decide) (by decide) (by decide) (by decide), ⟨_, rfl⟩, _, rfl, _, rfl, z, _, _, rfl, rfl, zl, atI_nat (List.getElem?_eq_getElem he), _, _, rfl, rfl, _, _, rfl, rfl, ?_⟩
    dsimp only [gName, tSeq, tAsg, tRet, tDrop, tNext]
    refine ⟨_, rfl, _, _, rfl, rfl, rfl, ?_⟩
    have hf : isF (tl z)[e] = true := decide_eq_true hF
    have ev : ((digitsVal (((tl z).take (e + 1)).drop k) : Nat) : Int) = ((digitsVal (((tl z).take e).drop k) : Nat) : Int) * 10 + (((tl z)[e] - 48 : Nat) : Int) := by
      rw [take_next he, List.drop_append_of_le_length (by rw [List.length_take]; omega), PySem.NumText.digitsVal_snoc]
      omega
    rw [ev, ← find_FG hf]
    rfl
  obtain ⟨rfl, rfl⟩ := hp
  obtain ⟨t2, _⟩ := walked (p := isF) (l := (tl z).drop k) (i := e - k) (fun j c hj hc => decide_eq_true (hF (k + j) c (by omega) (by omega) (by rw [← List.getElem?_drop]; exact hc))) (by rw [List.length_drop]; omega) (fun c hc => decide_eq_false (hF' c (by rw [List.getElem?_drop, show k + (e - k) = e by omega] at hc; exact hc)))
  have ef : ((tl z).take e).drop k = figs (tl z) := by
    rw [List.drop_take]
    unfold figs
    rw [d1, t2]
  dsimp only [gName, tSeq, tAsg, tRet, tDrop, tNext]
  rw [ef]
  refine ⟨_, rfl, _, rfl, _, _, rfl, rfl, (show 2 ≤ sizeLine by decide), fun p hp => ?_⟩
  refine ⟨_, rfl, _, _, rfl, rfl, show (0 : Int) < 2 by decide, ?_⟩
  by_cases hm : cnt45 ((tl z).take k) % 2 = 1
  · have e1 : (((cnt45 ((tl z).take k) : Nat) : Int) % 2) = ((1 : Nat) : Int) := by omega
    dsimp only [gName, tSeq, tAsg, tRet, tDrop, tNext]
    rw [e1]
    have en : numOf (tl z) = 0 - ((digitsVal (figs (tl z)) : Nat) : Int) := by
      unfold numOf minus
      rw [t1, decide_eq_true hm, if_pos rfl]
      omega
    refine ⟨p, _, _, _, rfl, rfl, SqL.of upd_same, atI_nat rfl, ?_⟩
    rw [← en]
    exact q _ (Sm.new hp)
  · have e1 : (((cnt45 ((tl z).take k) : Nat) : Int) % 2) = ((0 : Nat) : Int) := by omega
    dsimp only [gName, tSeq, tAsg, tRet, tDrop, tNext]
    rw [e1]
    have en : numOf (tl z) = ((digitsVal (figs (tl z)) : Nat) : Int) := by
      unfold numOf minus
      rw [t1, decide_eq_false hm, if_neg (by decide)]
    refine ⟨p, _, _, _, rfl, rfl, SqL.of upd_same, atI_nat rfl, ?_⟩
    rw [← en]
    exact q _ (Sm.new hp)
end
section
variable {P : Program} {w : World} {K : PySem.W.Frag} {mg : Str → Option Value} {base : Heap} {cs : Tabs}
theorem ok_law_written (T : Txt K mg cs) : Cal P w K mg base 1 "_law_written" ["number"] spWritten := by
  refine T.f_law_written.cal scLawWritten (fun vs H Q E h => ?_) (fun f cdv A outer s H vs Q E hr h => ?_)
  · obtain ⟨n, rfl, _⟩ := h
    rfl
  obtain ⟨n, rfl, hn, q⟩ := h
  refine ⟨_, (pss_cons (ps_set (i := 1) scLawWritten.nd rfl (by first | exact Or.inl rfl | exact Or.inr rfl) (pe_callB call_abs rfl T.n_abs (by decide +kernel) (pa_cons (pv 0) pa_nil)))
    (pss_cons (ps_set (i := 2) scLawWritten.nd rfl (by first | exact Or.inl rfl | exact Or.inr rfl) (pe_ix ix_str pe_str (pe_op op_mod (pv 1) pe_int) (fun _ _ => rfl)))
    (pss_cons (ps_while PassesOwn.never (pt_cmpR op_gt (pv 1) pe_int (nomark _))
      (pss_cons (ps_set (i := 1) scLawWritten.nd rfl (by first | exact Or.inl rfl | exact Or.inr rfl) (pe_op op_fdivW (pv 1) pe_int))
        (pss_one (ps_set (i := 2) scLawWritten.nd rfl (by first | exact Or.inl rfl | exact Or.inr rfl) (pe_op op_add_str (pe_ix ix_str pe_str (pe_op op_mod (pv 1) pe_int) (fun _ _ => rfl)) (pv 2))))))
    (pss_one (ps_ret (pe_op op_add_str (pe_ix (ixL K) (pe_lst (pa_cons pe_str (pa_cons pe_str pa_nil))) (pe_callTy call_int1 rfl T.n_int (by decide +kernel) (pa_cons (pe_cmpR op_lt (pv 0) pe_int (nomark _)) pa_nil)) (fun _ _ => rfl)) (pv 2))))))), ?_⟩
  refine ⟨_, rfl, _, rfl, ?_⟩
  have ea : (if n < 0 then -n else n) = (n.natAbs : Int) := by split <;> omega
  rw [ea]
  dsimp only [gName, tSeq, tAsg, tRet, tDrop, tNext]
  refine ⟨_, rfl, _, _, rfl, rfl, show (0 : Int) < 10 by decide, FG, _, _, rfl, rfl, by decide +kernel, digit_at _, ?_⟩
  dsimp only [gName, tSeq, tAsg, tRet, tDrop, tNext]
  have hnl : (numL n.natAbs).length ≤ 250 := numL_len (by decide) hn
  refine ⟨fun m σ' H' => ∃ (l : Nat) (G : List Nat) (y : Str), m = l ∧ l < 10 ^ 250 ∧ tl y = (48 + l % 10) :: G ∧ numL n.natAbs = numL l ++ G ∧ H' = H ∧ σ' = [some (.int n), some (.int (l : Int)), some (.str y)],
    ⟨_, n.natAbs, [], _, rfl, hn, rfl, (List.append_nil _).symm, rfl, rfl⟩, fun m σ' H' hw => ?_⟩
  obtain ⟨l, G, y, rfl, hl, hy, hG, rfl, rfl⟩ := hw
  have hGl : G.length ≤ 250 := by
    rw [hG, List.length_append] at hnl
    omega
  have yl : (tl y).length ≤ 251 := by
    rw [hy, List.length_cons]
    omega
  refine ⟨_, rfl, _, _, rfl, rfl, _, rfl, ?_⟩
  refine ite2 (fun c => ?_) (fun c => ?_)
  · have h10 : 10 ≤ m := by
      have := of_decide_eq_true c
      omega
    refine ⟨fun σ' H'' => ∃ (y' : Str), tl y' = (48 + (m / 10) % 10) :: tl y ∧ H'' = H' ∧ σ' = [some (.int n), some (.int ((m / 10 : Nat) : Int)), some (.str y')], fun σ' H'' h => ?_, ?_⟩
    · obtain ⟨y', h1, h2, h3⟩ := h
      refine ⟨m / 10, by omega, m / 10, _, y', rfl, by omega, h1, ?_, h2, h3⟩
      rw [hG, numL_step h10, hy]
      simp
    · have ed : (m : Int) / 10 = ((m / 10 : Nat) : Int) := by omega
      refine ⟨_, rfl, _, _, rfl, rfl, wide_div (b := 256) (by decide) (by decide) (by decide) (by decide), ?_⟩
      dsimp only [gName, tSeq, tAsg, tRet, tDrop, tNext]
      rw [ed]
      refine ⟨_, rfl, _, _, rfl, rfl, show (0 : Int) < 10 by decide, FG, _, _, rfl, rfl, by decide +kernel, digit_at _, _, rfl, _, _, rfl, rfl, ?_, ⟨_, ?_, rfl, rfl⟩⟩
      · rw [len_tl y]
        exact Nat.le_trans (Nat.add_le_add (Nat.le_refl 1) yl) (by decide)
      · rw [tl_append]
        rfl
  · have h9 : m ≤ 9 := by
      have : ¬ (9 : Int) < m := fun h => c (decide_eq_true h)
      omega
    have ey : tl y = numL n.natAbs := by
      rw [hG, numL_lt (by omega), hy, Nat.mod_eq_of_lt (by omega)]
      rfl
    dsimp only [gName, tSeq, tAsg, tRet, tDrop, tNext]
    refine ⟨by decide, fun p hp => ?_⟩
    refine ⟨_, rfl, _, _, rfl, rfl, .inr ⟨_, rfl, ?_⟩⟩
    by_cases hneg : n < 0
    · rw [decide_eq_true hneg]
      refine ⟨p, _, 1, .str "-", rfl, rfl, SqL.of upd_same, rfl, _, rfl, _, _, rfl, rfl, ?_, q _ _ (Sm.new hp) ?_⟩
      · rw [len_tl y]
        exact Nat.le_trans (Nat.add_le_add (show ("-" : Str).length ≤ 1 by decide +kernel) yl) (by decide)
      · rw [tl_append, ey]
        unfold numT
        rw [if_pos hneg]
        rfl
    · rw [decide_eq_false hneg]
      refine ⟨p, _, 0, .str "", rfl, rfl, SqL.of upd_same, rfl, _, rfl, _, _, rfl, rfl, ?_, q _ _ (Sm.new hp) ?_⟩
      · rw [len_tl y]
        exact Nat.le_trans (Nat.add_le_add (show ("" : Str).length ≤ 1 by decide +kernel) yl) (by decide)
      · rw [tl_append, ey]
        unfold numT
        rw [if_neg hneg]
        rfl
end
open PySem.NumText (digitsVal AllDigits)
def AT (v : V) : Prop := ∃ z, v = .str z ∧ (tl z).length ≤ 250
def spRight (p : Addr) : Sp := fun vs H Q _ => ∃ z : Str, vs = [.str z] ∧ (tl z).length ≤ 250 ∧ GxR.TabG H p ∧ ∀ H', Sm H H' → Q (.bl true) H'
def spLaw (K : PySem.W.Frag) (cs : Tabs) : Sp := fun vs H Q _ => ∃ (a : Addr) (ns : List Int), vs = [.ref a] ∧ SqL K H a (ns.map V.int) ∧ ns.length ≤ 63 ∧ TGs H cs ∧ ∀ H', Q (.bl true) H'
theorem num_small {l : List Nat} (h : l.length ≤ 250) : (numOf l).natAbs < 10 ^ 250 := by
  have h1 := val_lt (figs_digits l)
  have h2 : digitsVal (figs l) < 10 ^ 250 := Nat.lt_of_lt_of_le h1 (Nat.pow_le_pow_right (by decide) (Nat.le_trans (figs_len l) h))
  unfold numOf
  split <;> omega
section
variable {P : Program} {w : World} {K : PySem.W.Frag} {mg : Str → Option Value} {base : Heap} {cs : Tabs}
theorem ok_law_right (T : Txt K mg cs) (C_law_number : Cal P w K mg base 1 "_law_number" ["worth"] spNumL) (Cnumber_of : Cal P w K mg base 2 "number_of" ["worth"] spNumOf) (Cis_number_text : Cal P w K mg base 2 "is_number_text" ["worth"] (spIsNum cs.p_is_number_text)) (C_law_written : Cal P w K mg base 1 "_law_written" ["number"] spWritten) :
    Cal P w K mg base 3 "_law_right" ["worth"] (spRight cs.p_is_number_text) := by
  refine T.f_law_right.cal scLawRight (fun vs H Q E h => ?_) (fun f cdv A outer s H vs Q E hr h => ?_)
  · obtain ⟨z, rfl, _⟩ := h
    rfl
  obtain ⟨z, rfl, hl, ht, q⟩ := h
  refine ⟨_, (pss_cons (ps_set (i := 1) scLawRight.nd rfl (by first | exact Or.inl rfl | exact Or.inr rfl) (pe_cal C_law_number (hr.mono (by first | decide | omega)) (pa_cons (pv 0) pa_nil)))
    (pss_cons (ps_set (i := 2) scLawRight.nd rfl (by first | exact Or.inl rfl | exact Or.inr rfl) (pe_cal Cnumber_of (hr.mono (by first | decide | omega)) (pa_cons (pv 0) pa_nil)))
    (pss_cons (ps_if (PW.pt (pw_or (pt_not (pt_val (pe_callB (isI K) rfl T.n_isinstance (by decide +kernel) (pa_cons (pv 2) (pa_cons (pe_bltn (v := .ty "int") rfl T.n_int (by decide +kernel) rfl) pa_nil))))) (pw_or (pt_val (pe_callB (isI K) rfl T.n_isinstance (by decide +kernel) (pa_cons (pv 2) (pa_cons (pe_bltn (v := .ty "bool") rfl T.n_bool (by decide +kernel) rfl) pa_nil)))) (pw_or1 (pt_cmpR op_ne (pv 2) (pv 1) (nomark _)))))) (pss_one (ps_ret pe_bl)) pss_nil)
    (pss_cons (ps_set (i := 3) scLawRight.nd rfl (by first | exact Or.inl rfl | exact Or.inr rfl) (pe_cal Cis_number_text (hr.mono (by first | decide | omega)) (pa_cons (pv 0) pa_nil)))
    (pss_one (ps_ret (pe_and (pe_callB (isI K) rfl T.n_isinstance (by decide +kernel) (pa_cons (pv 3) (pa_cons (pe_bltn (v := .ty "bool") rfl T.n_bool (by decide +kernel) rfl) pa_nil))) (pe_one (pe_cmpR op_eq (pv 3) (pe_cmpR op_eq (pe_cal C_law_written (hr.mono (by first | decide | omega)) (pa_cons (pv 1) pa_nil)) (pv 0) (nomark _)) (nomark _)))))))))), ?_⟩
  refine ⟨_, rfl, z, rfl, hl, fun H1 S1 => ⟨_, rfl, z, rfl, hl, ?_⟩⟩
  dsimp only [gName, tSeq, tAsg, tRet, tDrop, tNext]
  refine ⟨_, rfl, _, _, .type "int", .type "int", true, rfl, ClsV.ty "int", .base (.int _), kit_ty (by decide +kernel), _, rfl, ?_⟩
  refine iteF ?_
  refine ⟨_, rfl, _, _, .type "int", .type "bool", false, rfl, ClsV.ty "bool", .base (.int _), kit_ty (by decide +kernel), _, rfl, ?_⟩
  refine iteF ?_
  refine ⟨_, rfl, _, rfl, rfl, _, rfl, ?_⟩
  rw [decide_eq_true rfl]
  refine iteF ?_
  refine ⟨_, rfl, z, rfl, hl, S1.tab _ ht, fun H2 S2 => ?_⟩
  dsimp only [gName, tSeq, tAsg, tRet, tDrop, tNext]
  refine ⟨_, rfl, _, _, .type "bool", .type "bool", true, rfl, ClsV.ty "bool", .base (.bl _), kit_ty (by decide +kernel), _, rfl, ?_⟩
  refine iteT ?_
  refine ⟨_, rfl, _, rfl, _, rfl, num_small hl, fun y H3 S3 hy => ⟨_, rfl, rfl, rfl, ?_⟩⟩
  have e : decide (V.bl (isNum (tl z)) = V.bl (decide (V.str y = V.str z))) = true := by
    rw [isNum_is, dec_str, hy]
    exact decide_eq_true rfl
  rw [e]
  exact q H3 ((S1.trans S2).trans S3)
end
open PySem.NumText (digitsVal AllDigits)
section
variable {P : Program} {w : World} {K : PySem.W.Frag} {mg : Str → Option Value} {base : Heap} {cs : Tabs}
theorem ok_law (T : Txt K mg cs) (B : TBs base mg cs) {f : Addr} {fd : FuncData} (F : Fun K "law" "law" sLaw f fd) : FnOk P w K mg base CX0 4 f fd ["script"] (spLaw K cs) := by
  have C_law_cell_at := ok_law_cell_at (P := P) (w := w) (base := base) T
  have C_law_bag := ok_law_bag (P := P) (w := w) (base := base) T
  have C_law_draw := ok_law_draw (P := P) (w := w) (base := base) T
  have C_law_signs := ok_law_signs (P := P) (w := w) (base := base) T
  have C_law_text := ok_law_text T C_law_draw C_law_signs
  have C_number_of_figures := ok_number_of_figures (P := P) (w := w) (base := base) T
  have Cnumber_of := ok_number_of T C_number_of_figures
  have Cnumber_text := ok_number_text (P := P) (w := w) (base := base) T
  have Cis_number_text := ok_is_number_text (P := P) (w := w) T B
  have C_law_number := ok_law_number (P := P) (w := w) (base := base) T
  have C_law_written := ok_law_written (P := P) (w := w) (base := base) T
  have C_law_right := ok_law_right T C_law_number Cnumber_of Cis_number_text C_law_written
  refine F.ok scLaw (fun vs H Q E h => ?_) (fun cdv A outer s H vs Q E hr h => ?_)
  · obtain ⟨a, ns, rfl, _⟩ := h
    rfl
  obtain ⟨a, ns, rfl, hS, h63, hT, q⟩ := h
  refine ⟨_, (pss_cons (ps_for PassesOwn.never rfl (pi_range1 rfl T.n_range (pa_cons (pe_callB (call_max2 rfl) rfl T.n_max (by decide +kernel) (pa_cons pe_int (pa_cons (pe_callB (call_min2 rfl) rfl T.n_min (by decide +kernel) (pa_cons pe_int (pa_cons (pe_callB (lenQ K) rfl T.n_len (by decide +kernel) (pa_cons (pv 0) pa_nil)) pa_nil))) pa_nil))) pa_nil)) (pg_name (i := 1) scLaw.nd rfl (by first | exact Or.inl rfl | exact Or.inr rfl))
      (pss_cons (ps_set (i := 2) scLaw.nd rfl (by first | exact Or.inl rfl | exact Or.inr rfl) (pe_cal C_law_bag (hr.mono (by first | decide | omega)) (pa_cons (pe_cal C_law_cell_at (hr.mono (by first | decide | omega)) (pa_cons (pv 0) (pa_cons (pv 1) pa_nil))) (pa_cons (pv 1) pa_nil))))
        (pss_cons (ps_set (i := 3) scLaw.nd rfl (by first | exact Or.inl rfl | exact Or.inr rfl) (pe_op op_mulW (pe_cal C_law_draw (hr.mono (by first | decide | omega)) (pa_cons (pv 2) (pa_cons (pe_ix (ixL K) (pe_lst (pa_cons pe_int (pa_cons pe_int (pa_cons (pe_op op_powW pe_int pe_int) pa_nil)))) (pe_cal C_law_draw (hr.mono (by first | decide | omega)) (pa_cons (pv 2) (pa_cons pe_int pa_nil))) (fun _ _ => rfl)) pa_nil))) (pe_ix (ixL K) (pe_lst (pa_cons pe_int (pa_cons (pe_un un_neg pe_int) pa_nil))) (pe_cal C_law_draw (hr.mono (by first | decide | omega)) (pa_cons (pv 2) (pa_cons pe_int pa_nil))) (fun _ _ => rfl))))
        (pss_cons (ps_set (i := 4) scLaw.nd rfl (by first | exact Or.inl rfl | exact Or.inr rfl) (pe_join pe_str (pe_lc (own := [("j", 7)]) (g := gName 7) (tt := tYes) rfl scLaw.nd (pi_range1 rfl T.n_range (pa_cons (pe_cal C_law_draw (hr.mono (by first | decide | omega)) (pa_cons (pv 2) (pa_cons pe_int pa_nil))) pa_nil)) (blkOk_by (own := [("j", 7)]) (N := ["script", "k", "bag", "number", "marks", "some", "found", "j", "worth"]) (sc := defScope sLaw) (by decide +kernel)) (fun _ _ _ _ _ => (pg_name (i := 7) scLaw.nd rfl (by first | exact Or.inl rfl | exact Or.inr rfl))) (fun _ _ _ _ _ => pts_nil) (fun _ _ _ _ _ => (pe_ix ix_str pe_str (pe_cal C_law_draw (hr.mono (by first | decide | omega)) (pa_cons (pv 2) (pa_cons pe_int pa_nil))) (fun _ _ => rfl))))))
        (pss_cons (ps_set (i := 5) scLaw.nd rfl (by first | exact Or.inl rfl | exact Or.inr rfl) (pe_lst (pa_cons (pe_cal C_law_text (hr.mono (by first | decide | omega)) (pa_cons (pv 2) (pa_cons pe_int pa_nil))) (pa_cons (pe_cal C_law_text (hr.mono (by first | decide | omega)) (pa_cons (pv 2) (pa_cons pe_int pa_nil))) (pa_cons (pe_op op_add_str (pv 4) (pe_cal C_law_text (hr.mono (by first | decide | omega)) (pa_cons (pv 2) (pa_cons pe_int pa_nil)))) (pa_cons (pe_op op_add_str (pv 4) (pe_callTy call_str_int rfl T.n_str (by decide +kernel) (pa_cons (pv 3) pa_nil))) (pa_cons (pv 4) pa_nil)))))))
        (pss_cons (ps_set (i := 5) scLaw.nd rfl (by first | exact Or.inl rfl | exact Or.inr rfl) (pe_op op_cat (pv 5) (pe_lst (pa_cons (pe_op op_add_str (pv 4) (pe_op op_strRep (pe_callTy call_str_int rfl T.n_str (by decide +kernel) (pa_cons (pe_cal C_law_draw (hr.mono (by first | decide | omega)) (pa_cons (pv 2) (pa_cons (pe_op op_powW pe_int pe_int) pa_nil))) pa_nil)) pe_int)) (pa_cons (pe_op op_add_str (pe_op op_strRep (pe_callTy call_str_int rfl T.n_str (by decide +kernel) (pa_cons (pe_cal C_law_draw (hr.mono (by first | decide | omega)) (pa_cons (pv 2) (pa_cons (pe_op op_powW pe_int pe_int) pa_nil))) pa_nil)) pe_int) (pv 4)) pa_nil)))))
        (pss_cons (ps_if (pt_cmpR (neD K hr.units) (pe_lc (own := [("worth", 8)]) (g := gName 8) (tt := _) rfl scLaw.nd (pi_list (pe_op op_cat (pv 5) (pe_lst (pa_cons pe_str (pa_cons (pe_op op_add_str pe_str (pe_callTy call_str_int rfl T.n_str (by decide +kernel) (pa_cons (pv 3) pa_nil))) (pa_cons (pe_op op_add_str (pe_callTy call_str_int rfl T.n_str (by decide +kernel) (pa_cons (pv 3) pa_nil)) pe_str) pa_nil)))))) (blkOk_by (own := [("worth", 8)]) (N := ["script", "k", "bag", "number", "marks", "some", "found", "j", "worth"]) (sc := defScope sLaw) (by decide +kernel)) (fun _ _ _ _ _ => (pg_name (i := 8) scLaw.nd rfl (by first | exact Or.inl rfl | exact Or.inr rfl))) (fun _ _ _ _ _ => (pts_one (pt_not (pt_val (pe_cal C_law_right (hr.mono (by first | decide | omega)) (pa_cons (pv 8) pa_nil)))))) (fun _ _ _ _ _ => (pv 8))) (pe_lst pa_nil) (nomark _)) (pss_one (ps_ret pe_bl)) pss_nil)
        (pss_cons (ps_set (i := 6) scLaw.nd rfl (by first | exact Or.inl rfl | exact Or.inr rfl) (pe_cal Cnumber_text (hr.mono (by first | decide | omega)) (pa_cons (pv 3) pa_nil)))
        (pss_cons (ps_if (PW.pt (pw_or (pt_not (pt_val (pe_callB (isI K) rfl T.n_isinstance (by decide +kernel) (pa_cons (pv 6) (pa_cons (pe_bltn (v := .ty "str") rfl T.n_str (by decide +kernel) rfl) pa_nil))))) (pw_or (pt_cmpR op_ne (pv 6) (pe_cal C_law_written (hr.mono (by first | decide | omega)) (pa_cons (pv 3) pa_nil)) (nomark _)) (pw_or1 (pt_cmpR op_ne (pe_cal Cnumber_of (hr.mono (by first | decide | omega)) (pa_cons (pv 6) pa_nil)) (pv 3) (nomark _)))))) (pss_one (ps_ret pe_bl)) pss_nil)
        (pss_one (ps_if (pt_cmpR op_notBl (pe_cal Cis_number_text (hr.mono (by first | decide | omega)) (pa_cons (pv 6) pa_nil)) pe_bl (nomark _)) (pss_one (ps_ret pe_bl)) pss_nil)))))))))))
    (pss_one (ps_ret pe_bl))), ?_⟩
  have hlm : (ns.map V.int).length = ns.length := List.length_map _
  refine for_rng (i := 1) (n := (max 1 (min 20 ns.length))) (fun _ σ H' => Sm H H' ∧ ∃ x1 x2 x3 x4 x5 x6 x7 x8, σ = [some (.ref a), x1, x2, x3, x4, x5, x6, x7, x8]) (fun R h => ?_) (by omega) (fun H1 S => ⟨S, _, _, _, _, _, _, _, _, rfl⟩) (fun j σ H1 hj hp => ?_) fun σ H1 hp => q H1
  · refine ⟨_, rfl, a, _, rfl, .inl hS, 20, _, rfl, 1, _, rfl, ?_⟩
    have e : (if (if ((ns.map V.int).length : Int) < 20 then ((ns.map V.int).length : Int) else 20) > 1 then (if ((ns.map V.int).length : Int) < 20 then ((ns.map V.int).length : Int) else 20) else (1 : Int)) = ((max 1 (min 20 ns.length) : Nat) : Int) := by
      rw [hlm]
      split <;> split at * <;> omega
    rw [e]
    exact h H (Sm.refl H)
  obtain ⟨S1, x1, x2, x3, x4, x5, x6, x7, x8, rfl⟩ := hp
  have hj16 : j ≤ 20 := by omega
  have z : ((0 : Int) + (j : Int)) = (j : Int) := by omega
  rw [z]
  -- bag
  refine ⟨_, rfl, _, rfl, a, ns, j, rfl, Sm.seq S1 hS, fun c => ⟨_, rfl, c, j, rfl, by omega, fun b H2 hb S2 B => ?_⟩⟩
  have hb0 : H b = none := S1.free hb
  have S02 := S1.trans S2
  -- number
  refine ⟨_, rfl, menuG (n := 3) (c := 0) (A := fun v => ∃ k : Int, v = .int k ∧ 0 < k ∧ k ≤ 10 ^ 20) (m := 0) (i := 2) (fun R h => ⟨10, 20, rfl, rfl, ⟨by decide, by decide, by decide⟩, h _ _ rfl (fun v hv => ?_) (Go.refl b _)⟩) rfl B (by unfold LIM; omega) (by decide) (by decide) fun v H3 hv G3 => ?_⟩
  · rcases List.mem_cons.mp hv with rfl | hv
    · exact ⟨10, rfl, by decide, by decide⟩
    rcases List.mem_cons.mp hv with rfl | hv
    · exact ⟨200, rfl, by decide, by decide⟩
    rcases List.mem_cons.mp hv with rfl | hv
    · exact ⟨10 ^ 20, rfl, by decide, by decide⟩
    · cases hv
  obtain ⟨k, rfl, k0, k1⟩ := hv
  have B3 := G3.bag _ B
  refine ⟨b, k, _, rfl, B3, by unfold LIM; omega, k0, by omega, fun num H4 n0 n1 G4 => ?_⟩
  have B4 := G4.bag _ B3
  refine menuG (n := 2) (c := 0) (A := fun v => ∃ k : Int, v = .int k ∧ k.natAbs ≤ 1) (i := 2) (fun R h => ⟨1, rfl, h _ _ rfl (fun v hv => ?_) (Go.refl b _)⟩) rfl B4 (by unfold LIM; omega) (by decide) (by decide) fun v H5 hv G5 => ?_
  · rcases List.mem_cons.mp hv with rfl | hv
    · exact ⟨1, rfl, by decide⟩
    rcases List.mem_cons.mp hv with rfl | hv
    · exact ⟨-1, rfl, by decide⟩
    · cases hv
  obtain ⟨sg, rfl, sg0⟩ := hv
  have B5 := G5.bag _ B4
  have hp : (num * sg).natAbs < 10 ^ 20 := by
    rw [Int.natAbs_mul]
    have a1 : num.natAbs * sg.natAbs ≤ num.natAbs * 1 := Nat.mul_le_mul_left _ sg0
    omega
  refine ⟨num, sg, rfl, rfl, wide_mul (a := 200) (b := 10) (nat_lt n0 (by omega)) (by omega) (by decide) (by decide) (by decide), ?_⟩
  dsimp only [gName, tSeq, tAsg, tRet, tDrop, tNext]
  -- marks
  have S05 : Sm H H5 := Sm.go (Sm.go (Sm.go S02 G3 hb0) G4 hb0) G5 hb0
  refine ⟨⟨_, rfl⟩, lc_drawn (i := 7) (N := 8) (c0 := 1) (c := 1) (A0 := fun _ => True) (fun v => ∃ z, v = .str z ∧ (tl z).length ≤ 1) (fun R h => draw_here (i := 2) (by rfl) B5 (by unfold LIM; omega) (by decide) (by decide) fun r H6 r0 r1 G6 => h _ _ trivial r0 (by omega) G6) B5 (by decide) (fun j H6 hj B6 G6 R hR => ?_) fun k D ys H6 _ k0 k1 hl hA G6 hy _ => ?_⟩
  · refine ⟨_, (by rfl), b, 2, _, rfl, B6, by unfold LIM; omega, by decide, by decide, fun r H7 r0 r1 G7 => ?_⟩
    obtain ⟨k, rfl⟩ : ∃ k : Nat, r = (k : Int) := ⟨r.toNat, by omega⟩
    have hk : k < (tl SG).length := by rw [tl_SG]; show k < 2; omega
    exact ⟨SG, (k : Int), _, rfl, rfl, (by decide +kernel), atI_nat (List.getElem?_eq_getElem hk), hR _ _ ⟨_, rfl, Nat.le_refl _⟩ G7⟩
  obtain ⟨zs, rfl, hz, hW⟩ := texts_of ys hA
  have hl' : zs.length ≤ 8 := by rw [hz, hl]; omega
  refine ⟨_, D, zs, rfl, rfl, .inl (SqL.of hy), glue_ok (k := 1) (n := zs.length) (fun y hy => hW y hy) rfl (by omega), ?_⟩
  have hM : (tl (Txt.join "" zs)).length ≤ 8 := by
    have := flat_len zs fun y hy => hW y hy
    rw [tl_glue]
    omega
  generalize Txt.join "" zs = M at hM
  have B6 := G6.bag _ B5
  have S06 : Sm H H6 := Sm.go S05 G6 hb0
  have szs : ∀ {x y : Str} {m n : Nat}, (tl x).length ≤ m → (tl y).length ≤ n → m + n ≤ 100000 → x.length + y.length ≤ sizeLine ∧ (tl (x ++ y)).length ≤ m + n := fun {x y m n} h1 h2 h3 => by
    rw [len_tl x, len_tl y, tl_append, List.length_append]
    exact ⟨small (by omega), by omega⟩
  have lint : ∀ {i : Int} {k : Nat}, 0 < k → i.natAbs < 10 ^ k → (tl (Str.ofString (toString i))).length ≤ k + 1 := fun {i k} h0 h => (WT.int h0 h).len
  -- some: five of them
  dsimp only [gName, tSeq, tAsg, tRet, tDrop, tNext]
  refine ⟨_, (by rfl), b, 40, _, rfl, B6, by unfold LIM; omega, by decide, fun t1 H7 W1 G7 => ?_⟩
  have B7 := G7.bag _ B6
  refine ⟨_, (by rfl), b, 200, _, rfl, B7, by unfold LIM; omega, by decide, fun t2 H8 W2 G8 => ?_⟩
  have B8 := G8.bag _ B7
  refine ⟨_, (by rfl), _, (by rfl), b, 20, _, rfl, B8, by unfold LIM; omega, by decide, fun t3 H9 W3 G9 => ⟨M, t3, rfl, rfl, (szs hM W3.len (by decide)).1, ?_⟩⟩
  have B9 := G9.bag _ B8
  have ln := lint (k := 20) (by decide) hp
  refine ⟨_, (by rfl), _, (by rfl), num * sg, rfl, log_ok (Nat.lt_trans hp (by decide)), M, _, rfl, rfl, (szs hM ln (by decide)).1, _, (by rfl), ?_⟩
  refine ⟨(by show 5 ≤ sizeLine; decide), fun L1 hL1 => ?_⟩
  have B10 := (Go.new (o := .lst [V.str t1, .str t2, .str (M ++ t3), .str (M ++ Str.ofString (toString (num * sg))), .str M]) hL1).bag _ B9
  have nL1 := B9.ne hL1
  -- two more
  dsimp only [gName, tSeq, tAsg, tRet, tDrop, tNext]
  refine ⟨_, (by rfl), _, (by rfl), _, (by rfl), 10, 60, rfl, rfl, ⟨by decide, by decide, by decide⟩, b, _, _, rfl, B10, by unfold LIM; omega, by decide, by decide, fun r1 H11 r10 r11 G11 => ?_⟩
  have B11 := G11.bag _ B10
  have hr1 : r1.natAbs < 10 ^ 60 := by
    have e : (10 : Int) ^ ((60 : Int)).toNat = 10 ^ 60 := rfl
    rw [e] at r11
    omega
  have l1 := lint (k := 60) (by decide) hr1
  have m1 : (tl (Txt.mul (Str.ofString (toString r1)) 3)).length ≤ 183 := by
    rw [show (3 : Int) = ((3 : Nat) : Int) from rfl, tl_mul]
    simp only [List.replicate, List.flatten_cons, List.flatten_nil, List.length_append, List.length_nil]
    omega
  refine ⟨_, rfl, log_ok (Nat.lt_trans hr1 (by decide)), _, 3, rfl, rfl, mul_ok (by decide) (by decide) (by rw [len_tl]; omega), M, _, rfl, rfl, (szs hM m1 (by decide)).1, ?_⟩
  refine ⟨_, (by rfl), 10, 60, rfl, rfl, ⟨by decide, by decide, by decide⟩, b, _, _, rfl, B11, by unfold LIM; omega, by decide, by decide, fun r2 H12 r20 r21 G12 => ?_⟩
  have B12 := G12.bag _ B11
  have hr2 : r2.natAbs < 10 ^ 60 := by
    have e : (10 : Int) ^ ((60 : Int)).toNat = 10 ^ 60 := rfl
    rw [e] at r21
    omega
  have l2 := lint (k := 60) (by decide) hr2
  have m2 : (tl (Txt.mul (Str.ofString (toString r2)) 3)).length ≤ 183 := by
    rw [show (3 : Int) = ((3 : Nat) : Int) from rfl, tl_mul]
    simp only [List.replicate, List.flatten_cons, List.flatten_nil, List.length_append, List.length_nil]
    omega
  refine ⟨_, rfl, log_ok (Nat.lt_trans hr2 (by decide)), _, 3, rfl, rfl, mul_ok (by decide) (by decide) (by rw [len_tl]; omega), _, (by rfl), _, M, rfl, rfl, (szs m2 hM (by decide)).1, ?_⟩
  refine ⟨(by show 2 ≤ sizeLine; decide), fun L2 hL2 => ?_⟩
  refine ⟨L1, L2, _, _, rfl, rfl, Sm.new hL2 _ _ (G12.keep L1 _ nL1 (G11.keep L1 _ nL1 upd_same)), upd_same, (by show 5 + 2 ≤ sizeLine; decide), fun L3 hL3 => ?_⟩
  have S9 : Sm H H9 := Sm.go (Sm.go (Sm.go S06 G7 hb0) G8 hb0) G9 hb0
  have S13 := ((Sm.go (Sm.go (S9.trans (Sm.new (o := .lst [V.str t1, .str t2, .str (M ++ t3), .str (M ++ Str.ofString (toString (num * sg))), .str M]) hL1)) G11 hb0) G12 hb0).trans (Sm.new hL2)).trans (Sm.new (o := .lst ([V.str t1, .str t2, .str (M ++ t3), .str (M ++ Str.ofString (toString (num * sg))), .str M] ++ [V.str (M ++ Txt.mul (Str.ofString (toString r1)) 3), .str (Txt.mul (Str.ofString (toString r2)) 3 ++ M)])) hL3)
  have at3 : (upd (upd H12 L2 (.lst [V.str (M ++ Txt.mul (Str.ofString (toString r1)) 3), .str (Txt.mul (Str.ofString (toString r2)) 3 ++ M)])) L3 (.lst ([V.str t1, .str t2, .str (M ++ t3), .str (M ++ Str.ofString (toString (num * sg))), .str M] ++ [V.str (M ++ Txt.mul (Str.ofString (toString r1)) 3), .str (Txt.mul (Str.ofString (toString r2)) 3 ++ M)]))) L3 = some (.lst ([V.str t1, .str t2, .str (M ++ t3), .str (M ++ Str.ofString (toString (num * sg))), .str M] ++ [V.str (M ++ Txt.mul (Str.ofString (toString r1)) 3), .str (Txt.mul (Str.ofString (toString r2)) 3 ++ M)])) := upd_same
  have all7 : ∀ v ∈ ([V.str t1, .str t2, .str (M ++ t3), .str (M ++ Str.ofString (toString (num * sg))), .str M] ++ [V.str (M ++ Txt.mul (Str.ofString (toString r1)) 3), .str (Txt.mul (Str.ofString (toString r2)) 3 ++ M)]), AT v := fun v hv => by
    have w1 := W1.len
    have w2 := W2.len
    have w3 := (szs hM W3.len (by decide)).2
    have w4 := (szs hM ln (by decide)).2
    have w5 := (szs hM m1 (by decide)).2
    have w6 := (szs m2 hM (by decide)).2
    simp only [List.cons_append, List.nil_append, List.mem_cons, List.not_mem_nil, or_false] at hv
    rcases hv with rfl | rfl | rfl | rfl | rfl | rfl | rfl
    · exact ⟨_, rfl, by omega⟩
    · exact ⟨_, rfl, by omega⟩
    · exact ⟨_, rfl, by omega⟩
    · exact ⟨_, rfl, by omega⟩
    · exact ⟨_, rfl, by omega⟩
    · exact ⟨_, rfl, by omega⟩
    · exact ⟨_, rfl, by omega⟩
  have len7 : ([V.str t1, .str t2, .str (M ++ t3), .str (M ++ Str.ofString (toString (num * sg))), .str M] ++ [V.str (M ++ Txt.mul (Str.ofString (toString r1)) 3), .str (Txt.mul (Str.ofString (toString r2)) 3 ++ M)]).length = 7 := rfl
  generalize ([V.str t1, .str t2, .str (M ++ t3), .str (M ++ Str.ofString (toString (num * sg))), .str M] ++ [V.str (M ++ Txt.mul (Str.ofString (toString r1)) 3), .str (Txt.mul (Str.ofString (toString r2)) 3 ++ M)]) = xs7 at S13 at3 all7 len7 ⊢
  generalize (upd (upd H12 L2 (.lst [V.str (M ++ Txt.mul (Str.ofString (toString r1)) 3), .str (Txt.mul (Str.ofString (toString r2)) 3 ++ M)])) L3 (.lst xs7)) = H13 at S13 at3 ⊢
  have le0 : (tl ("0" : Str)).length ≤ 1 := by decide +kernel
  have lex : (tl ("x" : Str)).length ≤ 1 := by decide +kernel
  have lg := log_ok (Nat.lt_trans hp (by decide))
  dsimp only [gName, tSeq, tAsg, tRet, tDrop, tNext, tOp, tIfS, tTest]
  refine lc_none (i := 8) (xs := xs7 ++ [V.str "", .str ("0" ++ Str.ofString (toString (num * sg))), .str (Str.ofString (toString (num * sg)) ++ "x")]) (fun R h => ⟨_, (by rfl), _, (by rfl), _, rfl, lg, _, _, rfl, rfl, (szs le0 ln (by decide)).1, _, (by rfl), _, rfl, lg, _, _, rfl, rfl, (szs ln lex (by decide)).1, (by show 3 ≤ sizeLine; decide), fun p hp => ?_⟩) (fun x H14 hx S14 R h => ?_) fun D H14 S14 hD => ?_
  · exact ⟨L3, p, xs7, _, rfl, rfl, Sm.new hp _ _ at3, upd_same, (by rw [len7]; exact (by show 7 + 3 ≤ sizeLine; decide)), fun p2 hp2 => h p2 _ ((Sm.new hp).trans (Sm.new hp2)) (SqL.of upd_same)⟩
  · have hx' : AT x := by
      rcases List.mem_append.mp hx with hx | hx
      · exact all7 x hx
      · have w1 := (szs le0 ln (by decide)).2
        have w2 := (szs ln lex (by decide)).2
        simp only [List.mem_cons, List.not_mem_nil, or_false] at hx
        rcases hx with rfl | rfl | rfl
        · exact ⟨_, rfl, by decide⟩
        · exact ⟨_, rfl, by omega⟩
        · exact ⟨_, rfl, by omega⟩
    obtain ⟨y, rfl, hy⟩ := hx'
    exact ⟨_, (by rfl), y, rfl, hy, (S13.trans S14).tab _ hT.t_is_number_text, fun H' S' => ⟨_, rfl, h H' S'⟩⟩
  refine ⟨Nat.zero_le _, fun D2 hD2 => ?_⟩
  refine ⟨.list [], .list [], .lst (SqL.of (Sm.new hD2 _ _ hD)) .nil, .lst (SqL.of upd_same) .nil, rfl, rfl, _, rfl, ?_⟩
  refine iteF ?_
  have S15 := (S13.trans S14).trans (Sm.new (o := .lst []) hD2)
  generalize upd H14 D2 (.lst []) = H15 at S15
  -- the number's text
  refine ⟨_, (by rfl), _, rfl, Nat.lt_trans hp (by decide), fun y H16 S16 hy => ?_⟩
  have ly : (tl y).length ≤ 250 := by
    rw [hy]
    have := numL_len (k := 20) (by decide) hp
    unfold numT
    split
    · rw [List.length_cons]; omega
    · omega
  dsimp only [gName, tSeq, tAsg, tRet, tDrop, tNext, tOp, tIfS, tTest]
  refine ⟨_, (by rfl), _, _, .type "str", .type "str", true, rfl, ClsV.ty "str", .base (.str _), kit_ty (by decide +kernel), _, rfl, iteF ?_⟩
  refine ⟨_, (by rfl), _, (by rfl), _, rfl, Nat.lt_trans hp (by decide), fun y2 H17 S17 hy2 => ⟨rfl, _, rfl, ?_⟩⟩
  have ey : y = y2 := ext_tl (hy.trans hy2.symm)
  subst ey
  rw [decide_eq_true rfl]
  refine iteF ?_
  refine ⟨_, (by rfl), _, rfl, ly, _, (by rfl), rfl, _, rfl, ?_⟩
  rw [hy, numOf_numT, decide_eq_true rfl]
  refine iteF ?_
  refine ⟨_, (by rfl), _, rfl, ly, ((S15.trans S16).trans S17).tab _ hT.t_is_number_text, fun H18 S18 => ⟨_, _, rfl, rfl, _, rfl, ?_⟩⟩
  have en : isNum (tl y) = true := by
    rw [isNum_is, hy, numOf_numT]
    exact decide_eq_true rfl
  rw [en]
  refine iteF ⟨((S15.trans S16).trans S17).trans S18, _, _, _, _, _, _, _, _, rfl⟩
end
set_option maxHeartbeats 0 in
theorem all_mk {l : PySem.W.OpenLaw} {q : Program} {w : World} {K : PySem.W.Frag} {h : Heap} {mg : Str → Option Value} {fa f1 f2 f3 f4 f5 f6 f7 f8 f9 f10 f11 f12 f13 : Addr} (X : K.In h) (G : h.Ns mainGlobals mg) (hfa : mg "law" = some (.ref fa)) (OT : OwnTabs q K mg h)
    {od1 od2 od3 od4 od5 od6 od7 od8 od9 od10 od11 od12 od13 an1 an2 an3 an4 an5 an6 an7 an8 an9 an10 an11 an12 an13 : Option Addr} {sl1 sl2 sl3 sl4 sl5 sl6 sl7 sl8 sl9 sl10 sl11 sl12 sl13 : Array (Option Value)} {oc1 oc2 oc3 oc4 oc5 oc6 oc7 oc8 oc9 oc10 oc11 oc12 oc13 kV1 kV2 kV3 kV4 kV5 kV6 kV7 kV8 kV9 kV10 kV11 kV12 kV13 dc1 dc2 dc3 dc4 dc5 dc6 dc7 dc8 dc9 dc10 dc11 dc12 dc13 pm1 pm2 pm3 pm4 pm5 pm6 pm7 pm8 pm9 pm10 pm11 pm12 pm13 ct1 ct2 ct3 ct4 ct5 ct6 ct7 ct8 ct9 ct10 ct11 ct12 ct13 : Value}
    {cd1 cd2 cd3 cd5 cd6 cd7 cd8 cd9 cd10 cd11 cd12 cd13 : Value}
    {c4 p4 : Addr} {vs4 : Array Value} {dd4 : Option Addr} {cl4 : Array (Option Value)}
    (a1 : PySem.W.nsIn K mainGlobals "number_of" = some (some (.ref f1)))
    (l1 : K.lookup f1 = some ⟨oc1, od1, .func (PySem.W.fnOf "number_of" "number_of" (defArgs sNumberOf) (defBody sNumberOf) (defScope sNumberOf) .none kV1 dc1 pm1 an1 cd1 ct1), sl1⟩) (e1 : PySem.W.codeIn K cd1 "number_of" = true) (k1 : PySem.W.keepIn K (.ref f1) = true)
    (a2 : PySem.W.nsIn K mainGlobals "_number_of_figures" = some (some (.ref f2)))
    (l2 : K.lookup f2 = some ⟨oc2, od2, .func (PySem.W.fnOf "_number_of_figures" "_number_of_figures" (defArgs sNumberOfFigures) (defBody sNumberOfFigures) (defScope sNumberOfFigures) .none kV2 dc2 pm2 an2 cd2 ct2), sl2⟩) (e2 : PySem.W.codeIn K cd2 "_number_of_figures" = true) (k2 : PySem.W.keepIn K (.ref f2) = true)
    (a3 : PySem.W.nsIn K mainGlobals "number_text" = some (some (.ref f3)))
    (l3 : K.lookup f3 = some ⟨oc3, od3, .func (PySem.W.fnOf "number_text" "number_text" (defArgs sNumberText) (defBody sNumberText) (defScope sNumberText) .none kV3 dc3 pm3 an3 cd3 ct3), sl3⟩) (e3 : PySem.W.codeIn K cd3 "number_text" = true) (k3 : PySem.W.keepIn K (.ref f3) = true)
    (a4 : PySem.W.nsIn K mainGlobals "is_number_text" = some (some (.ref f4)))
    (l4 : K.lookup f4 = some ⟨oc4, od4, .func (PySem.W.fnOf "is_number_text" "is_number_text" (defArgs sIsNumberText) (defBody sIsNumberText) (defScope sIsNumberText) .none kV4 dc4 pm4 an4 (.ref c4) ct4), sl4⟩) (e4 : PySem.W.codeIn K (.ref c4) "is_number_text" = true) (k4 : PySem.W.keepIn K (.ref f4) = true)
    (m4 : K.lookup c4 = some ⟨.type "code", dd4, .fields vs4, cl4⟩) (u4 : (vs4[11]? : Option Value) = some (.ref p4)) (o4 : hdOk vs4 c4 p4 = true) (n4 : K.lookup p4 = none) (r4 : ((PyProof.Rows.recsOf q).any fun e => e.name == ("is_number_text" : Str)) = true)
    (a5 : PySem.W.nsIn K mainGlobals "_law_cell_at" = some (some (.ref f5)))
    (l5 : K.lookup f5 = some ⟨oc5, od5, .func (PySem.W.fnOf "_law_cell_at" "_law_cell_at" (defArgs sLawCellAt) (defBody sLawCellAt) (defScope sLawCellAt) .none kV5 dc5 pm5 an5 cd5 ct5), sl5⟩) (e5 : PySem.W.codeIn K cd5 "_law_cell_at" = true) (k5 : PySem.W.keepIn K (.ref f5) = true)
    (a6 : PySem.W.nsIn K mainGlobals "_law_bag" = some (some (.ref f6)))
    (l6 : K.lookup f6 = some ⟨oc6, od6, .func (PySem.W.fnOf "_law_bag" "_law_bag" (defArgs sLawBag) (defBody sLawBag) (defScope sLawBag) .none kV6 dc6 pm6 an6 cd6 ct6), sl6⟩) (e6 : PySem.W.codeIn K cd6 "_law_bag" = true) (k6 : PySem.W.keepIn K (.ref f6) = true)
    (a7 : PySem.W.nsIn K mainGlobals "_law_draw" = some (some (.ref f7)))
    (l7 : K.lookup f7 = some ⟨oc7, od7, .func (PySem.W.fnOf "_law_draw" "_law_draw" (defArgs sLawDraw) (defBody sLawDraw) (defScope sLawDraw) .none kV7 dc7 pm7 an7 cd7 ct7), sl7⟩) (e7 : PySem.W.codeIn K cd7 "_law_draw" = true) (k7 : PySem.W.keepIn K (.ref f7) = true)
    (a8 : PySem.W.nsIn K mainGlobals "_law_signs" = some (some (.ref f8)))
    (l8 : K.lookup f8 = some ⟨oc8, od8, .func (PySem.W.fnOf "_law_signs" "_law_signs" (defArgs sLawSigns) (defBody sLawSigns) (defScope sLawSigns) .none kV8 dc8 pm8 an8 cd8 ct8), sl8⟩) (e8 : PySem.W.codeIn K cd8 "_law_signs" = true) (k8 : PySem.W.keepIn K (.ref f8) = true)
    (a9 : PySem.W.nsIn K mainGlobals "_law_text" = some (some (.ref f9)))
    (l9 : K.lookup f9 = some ⟨oc9, od9, .func (PySem.W.fnOf "_law_text" "_law_text" (defArgs sLawText) (defBody sLawText) (defScope sLawText) .none kV9 dc9 pm9 an9 cd9 ct9), sl9⟩) (e9 : PySem.W.codeIn K cd9 "_law_text" = true) (k9 : PySem.W.keepIn K (.ref f9) = true)
    (a10 : PySem.W.nsIn K mainGlobals "_law_number" = some (some (.ref f10)))
    (l10 : K.lookup f10 = some ⟨oc10, od10, .func (PySem.W.fnOf "_law_number" "_law_number" (defArgs sLawNumber) (defBody sLawNumber) (defScope sLawNumber) .none kV10 dc10 pm10 an10 cd10 ct10), sl10⟩) (e10 : PySem.W.codeIn K cd10 "_law_number" = true) (k10 : PySem.W.keepIn K (.ref f10) = true)
    (a11 : PySem.W.nsIn K mainGlobals "_law_written" = some (some (.ref f11)))
    (l11 : K.lookup f11 = some ⟨oc11, od11, .func (PySem.W.fnOf "_law_written" "_law_written" (defArgs sLawWritten) (defBody sLawWritten) (defScope sLawWritten) .none kV11 dc11 pm11 an11 cd11 ct11), sl11⟩) (e11 : PySem.W.codeIn K cd11 "_law_written" = true) (k11 : PySem.W.keepIn K (.ref f11) = true)
    (a12 : PySem.W.nsIn K mainGlobals "_law_right" = some (some (.ref f12)))
    (l12 : K.lookup f12 = some ⟨oc12, od12, .func (PySem.W.fnOf "_law_right" "_law_right" (defArgs sLawRight) (defBody sLawRight) (defScope sLawRight) .none kV12 dc12 pm12 an12 cd12 ct12), sl12⟩) (e12 : PySem.W.codeIn K cd12 "_law_right" = true) (k12 : PySem.W.keepIn K (.ref f12) = true)
    (a13 : PySem.W.nsIn K mainGlobals "law" = some (some (.ref f13)))
    (l13 : K.lookup f13 = some ⟨oc13, od13, .func (PySem.W.fnOf "law" "law" (defArgs sLaw) (defBody sLaw) (defScope sLaw) .none kV13 dc13 pm13 an13 cd13 ct13), sl13⟩) (e13 : PySem.W.codeIn K cd13 "law" = true) (k13 : PySem.W.keepIn K (.ref f13) = true)
    (z1 : PySem.W.nsIn K mainGlobals "int" = some none) (z2 : PySem.W.nsIn K mainGlobals "range" = some none) (z3 : PySem.W.nsIn K mainGlobals "abs" = some none) (z4 : PySem.W.nsIn K mainGlobals "len" = some none) (z5 : PySem.W.nsIn K mainGlobals "divmod" = some none) (z6 : PySem.W.nsIn K mainGlobals "str" = some none) (z7 : PySem.W.nsIn K mainGlobals "all" = some none) (z8 : PySem.W.nsIn K mainGlobals "max" = some none) (z9 : PySem.W.nsIn K mainGlobals "isinstance" = some none) (z10 : PySem.W.nsIn K mainGlobals "bool" = some none) (z11 : PySem.W.nsIn K mainGlobals "min" = some none)
    {y1 : Value}
    (x1 : PySem.W.nsIn K mainGlobals "_FIGURES" = some (some y1)) (w1 : RelV (.str "0123456789") y1)
    : LamX.LawAtS l w K CX0 4 63 "script" mg fa h := by
  have e := hfa.symm.trans (PySem.W.mg_of X G a13)
  cases e
  let cs : Tabs := ⟨c4, p4⟩
  have F1 := fun_mk (st := sNumberOf) l1 e1 k1
  have b1 := F1.binds (ps := ["worth"]) fun _ _ _ _ _ _ us hl => match us, hl with | [_], _ => rfl
  have F2 := fun_mk (st := sNumberOfFigures) l2 e2 k2
  have b2 := F2.binds (ps := ["figures"]) fun _ _ _ _ _ _ us hl => match us, hl with | [_], _ => rfl
  have F3 := fun_mk (st := sNumberText) l3 e3 k3
  have b3 := F3.binds (ps := ["number"]) fun _ _ _ _ _ _ us hl => match us, hl with | [_], _ => rfl
  have F4 := fun_mk (st := sIsNumberText) l4 e4 k4
  have b4 := F4.binds (ps := ["worth"]) fun _ _ _ _ _ _ us hl => match us, hl with | [_], _ => rfl
  have F5 := fun_mk (st := sLawCellAt) l5 e5 k5
  have b5 := F5.binds (ps := ["script", "k"]) fun _ _ _ _ _ _ us hl => match us, hl with | [_, _], _ => rfl
  have F6 := fun_mk (st := sLawBag) l6 e6 k6
  have b6 := F6.binds (ps := ["cell", "nth"]) fun _ _ _ _ _ _ us hl => match us, hl with | [_, _], _ => rfl
  have F7 := fun_mk (st := sLawDraw) l7 e7 k7
  have b7 := F7.binds (ps := ["bag", "many"]) fun _ _ _ _ _ _ us hl => match us, hl with | [_, _], _ => rfl
  have F8 := fun_mk (st := sLawSigns) l8 e8 k8
  have b8 := F8.binds (ps := []) fun _ _ _ _ _ _ us hl => match us, hl with | [], _ => rfl
  have F9 := fun_mk (st := sLawText) l9 e9 k9
  have b9 := F9.binds (ps := ["bag", "most"]) fun _ _ _ _ _ _ us hl => match us, hl with | [_, _], _ => rfl
  have F10 := fun_mk (st := sLawNumber) l10 e10 k10
  have b10 := F10.binds (ps := ["worth"]) fun _ _ _ _ _ _ us hl => match us, hl with | [_], _ => rfl
  have F11 := fun_mk (st := sLawWritten) l11 e11 k11
  have b11 := F11.binds (ps := ["number"]) fun _ _ _ _ _ _ us hl => match us, hl with | [_], _ => rfl
  have F12 := fun_mk (st := sLawRight) l12 e12 k12
  have b12 := F12.binds (ps := ["worth"]) fun _ _ _ _ _ _ us hl => match us, hl with | [_], _ => rfl
  have F13 := fun_mk (st := sLaw) l13 e13 k13
  have b13 := F13.binds (ps := ["script"]) fun _ _ _ _ _ _ us hl => match us, hl with | [_], _ => rfl
  have T : Txt K mg cs := ⟨⟨_, _, F1, PySem.W.mg_of X G a1, b1⟩, ⟨_, _, F2, PySem.W.mg_of X G a2, b2⟩, ⟨_, _, F3, PySem.W.mg_of X G a3, b3⟩, ⟨_, _, _, _, _, _, _, _, _, l4, e4, k4, PySem.W.mg_of X G a4, b4⟩, ⟨_, _, F5, PySem.W.mg_of X G a5, b5⟩, ⟨_, _, F6, PySem.W.mg_of X G a6, b6⟩, ⟨_, _, F7, PySem.W.mg_of X G a7, b7⟩, ⟨_, _, F8, PySem.W.mg_of X G a8, b8⟩, ⟨_, _, F9, PySem.W.mg_of X G a9, b9⟩, ⟨_, _, F10, PySem.W.mg_of X G a10, b10⟩, ⟨_, _, F11, PySem.W.mg_of X G a11, b11⟩, ⟨_, _, F12, PySem.W.mg_of X G a12, b12⟩, ⟨_, _, F13, PySem.W.mg_of X G a13, b13⟩, PySem.W.mg_none_of X G z1, PySem.W.mg_none_of X G z2, PySem.W.mg_none_of X G z3, PySem.W.mg_none_of X G z4, PySem.W.mg_none_of X G z5, PySem.W.mg_none_of X G z6, PySem.W.mg_none_of X G z7, PySem.W.mg_none_of X G z8, PySem.W.mg_none_of X G z9, PySem.W.mg_none_of X G z10, PySem.W.mg_none_of X G z11, ⟨_, PySem.W.mg_of X G x1, w1⟩⟩
  refine ⟨PySem.W.fnOf "law" "law" (defArgs sLaw) (defBody sLaw) (defScope sLaw) .none kV13 dc13 pm13 an13 cd13 ct13, [(c4, p4)], spLaw K cs, ?_, ?_, ?_, fun s v => .of_eq rfl, fun H a ns hl hb hT hS => ⟨a, ns, rfl, hS, hl, ?_, fun _ => rfl⟩, fun base _ _ hB => ?_⟩
  · intro p hp
    simp only [List.mem_cons, List.not_mem_nil, or_false] at hp
    rcases hp with rfl
    · exact OT _ _ r4 (PySem.W.mg_of X G a4) c4 p4 _ _ _ _ _ _ l4 rfl rfl m4 u4
  · intro p hp
    simp only [List.mem_cons, List.not_mem_nil, or_false] at hp
    rcases hp with rfl
    · exact n4
  · intro p hp
    simp only [List.mem_cons, List.not_mem_nil, or_false] at hp
    rcases hp with rfl
    · exact PySem.W.codeHd_of_K X (hdOk_ok m4 o4)
  · exact ⟨trivial, ⟨#[], hT (c4, p4) (by simp), tri0⟩⟩
  · exact ok_law T ⟨trivial, tabB_of (hB (c4, p4) (by simp))⟩ F13
theorem walk {l : PySem.W.OpenLaw} {q : Program} {loose : List Str} {XP : (Str → Option Value) → Heap → Prop} {YP : World → Heap → Prop} {d : DefRec} {K : Params → PySem.W.Frag} (hn : l.most = some 63) (hdf : d.params.defaults = [])
    (hY : ∀ (w : World) (h : Heap), YP w h → (K w.params).In h)
    (F : ∀ (w : World) (mg : Str → Option Value) (fa : Addr) (h : Heap), (K w.params).In h → h.Ns mainGlobals mg → mg d.name = some (.ref fa) → OwnTabs q (K w.params) mg h → LamX.LawAtS l w (K w.params) CX0 4 63 "script" mg fa h) :
    PySem.W.WalkO q loose XP YP l.row.toRowW d [] (fun f vs => PySem.call f vs) :=
  walk_ofAll (n := 63) (k := 4) (x := "script") (CX := fun _ => CX0) hn (by decide) hdf ⟨rfl, by decide, by decide⟩ hY (fun w mg fa h _ KX G hm OT => F w mg fa h KX G hm OT) fun _ _ _ _ _ z => z
end My
open PySem PySem.W PyProof.Rows
set_option maxRecDepth 100000 in
set_option maxHeartbeats 0 in
theorem PySem.Challenge.cw_stemkeep_k02_numbers_of_worths_holds : PySem.Challenge.rw_stemkeep_k02_numbers_of_worths.Holds := by
  w_on; o_law; k_head; (case hw => w_witness2)
  k_fill
  refine My.walk (l := PySem.Challenge.rw_stemkeep_k02_numbers_of_worths) rfl rfl (fun w h Y => PySem.W.kIn_of Y) ?F
  case F =>
    intro w mg fa h KX G hmg OT
    refine' My.all_mk KX G hmg OT ?a1 ?l1 ?e1 ?k1 ?a2 ?l2 ?e2 ?k2 ?a3 ?l3 ?e3 ?k3 ?a4 ?l4 ?e4 ?k4 ?m4 ?u4 ?o4 ?n4 ?r4 ?a5 ?l5 ?e5 ?k5 ?a6 ?l6 ?e6 ?k6 ?a7 ?l7 ?e7 ?k7 ?a8 ?l8 ?e8 ?k8 ?a9 ?l9 ?e9 ?k9 ?a10 ?l10 ?e10 ?k10 ?a11 ?l11 ?e11 ?k11 ?a12 ?l12 ?e12 ?k12 ?a13 ?l13 ?e13 ?k13 ?z1 ?z2 ?z3 ?z4 ?z5 ?z6 ?z7 ?z8 ?z9 ?z10 ?z11 ?x1 ?w1
    (case a1 => k_is)
    (case l1 => k_is)
    (case e1 => k_is)
    (case k1 => k_is)
    (case a2 => k_is)
    (case l2 => k_is)
    (case e2 => k_is)
    (case k2 => k_is)
    (case a3 => k_is)
    (case l3 => k_is)
    (case e3 => k_is)
    (case k3 => k_is)
    (case a4 => k_is)
    (case l4 => k_is)
    (case e4 => k_is)
    (case k4 => k_is)
    (case m4 => k_is)
    (case u4 => rfl)
    (case o4 => rfl)
    (case n4 => first | rfl | decide +kernel)
    (case r4 => decide +kernel)
    (case a5 => k_is)
    (case l5 => k_is)
    (case e5 => k_is)
    (case k5 => k_is)
    (case a6 => k_is)
    (case l6 => k_is)
    (case e6 => k_is)
    (case k6 => k_is)
    (case a7 => k_is)
    (case l7 => k_is)
    (case e7 => k_is)
    (case k7 => k_is)
    (case a8 => k_is)
    (case l8 => k_is)
    (case e8 => k_is)
    (case k8 => k_is)
    (case a9 => k_is)
    (case l9 => k_is)
    (case e9 => k_is)
    (case k9 => k_is)
    (case a10 => k_is)
    (case l10 => k_is)
    (case e10 => k_is)
    (case k10 => k_is)
    (case a11 => k_is)
    (case l11 => k_is)
    (case e11 => k_is)
    (case k11 => k_is)
    (case a12 => k_is)
    (case l12 => k_is)
    (case e12 => k_is)
    (case k12 => k_is)
    (case a13 => k_is)
    (case l13 => k_is)
    (case e13 => k_is)
    (case k13 => k_is)
    (case z1 => k_is)
    (case z2 => k_is)
    (case z3 => k_is)
    (case z4 => k_is)
    (case z5 => k_is)
    (case z6 => k_is)
    (case z7 => k_is)
    (case z8 => k_is)
    (case z9 => k_is)
    (case z10 => k_is)
    (case z11 => k_is)
    (case x1 => k_is)
    (case w1 => first | rfl | exact ⟨_, rfl⟩)
#print axioms PySem.Challenge.cw_stemkeep_k02_numbers_of_worths_holds
